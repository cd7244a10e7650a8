/- bre: the document's reader: see. -/
import Derived.Test.YtaapmphdnholaaaDoorKTk
import Derived.Test.YtaapmphdnholaaaDoorKClose
import Derived.Deep.QuietTactic
import Derived.OwnWalk
namespace Go.Proofs.YtaapmphdnholaaaDoor
open Go.RowKit

end Go.Proofs.YtaapmphdnholaaaDoor

/- bre: the document's reader: digits. -/
namespace Go.Proofs.YtaapmphdnholaaaDoor
open Go.RowKit

theorem IsRd.drew {W : World} {b : Nat} {s : ByteArray} {r : Rd} (h : IsRd W b s r) (n : Nat) : IsRd (W.drewN n) b s r := h
theorem grown_drew (W : World) (n : Nat) (o : Option Nat) : W.grownBy (W.drewN n) o := ⟨rfl, rfl, rfl, Nat.le_refl _, fun _ _ _ => rfl⟩

end Go.Proofs.YtaapmphdnholaaaDoor

/- bre: the document's reader: interval. -/
namespace Go.Proofs.YtaapmphdnholaaaDoor
open Go.RowKit

end Go.Proofs.YtaapmphdnholaaaDoor

/- bre: the document's number as a row of digits: the lemma that joins it to the program's. -/
namespace Go.Proofs.YtaapmphdnholaaaDoor

end Go.Proofs.YtaapmphdnholaaaDoor

/- bre: see, told by rows: a row begins with another. -/
namespace Go.Proofs.YtaapmphdnholaaaDoor

end Go.Proofs.YtaapmphdnholaaaDoor

/- bre: cutting a row at another: what is in front and behind. -/
namespace Go.Proofs.YtaapmphdnholaaaDoor

theorem index_app (a r : List UInt8) (x : UInt8) (t : List UInt8) (ha : ∀ b ∈ a, b ≠ x) : Lib.index (a ++ (x :: t ++ r)) (x :: t) = (a.length : Int) := by
  induction a with
  | nil =>
    have : (x :: t).isPrefixOf (x :: t ++ r) = true := by rw [List.isPrefixOf_iff_prefix]; exact List.prefix_append _ _
    rw [List.nil_append]
    rw [List.cons_append] at this ⊢
    rw [Lib.index, if_pos this]; rfl
  | cons b a ih =>
    have hb : (x :: t).isPrefixOf (b :: (a ++ (x :: t ++ r))) = false := by
      rw [List.isPrefixOf, Bool.and_eq_false_iff]; left
      rw [beq_eq_false_iff_ne]; exact fun e => ha b (by simp) e.symm
    rw [List.cons_append, Lib.index, if_neg (by rw [hb]; decide), ih (fun c hc => ha c (by simp [hc]))]
    rw [if_neg (by simp)]
    simp

theorem cut_app (a r : List UInt8) (x : UInt8) (t : List UInt8) (ha : ∀ b ∈ a, b ≠ x) : Lib.cut (a ++ (x :: t ++ r)) (x :: t) = (a, r, true) := by
  rw [Lib.cut, index_app a r x t ha, if_pos (by omega), Int.toNat_natCast, List.take_left, ← List.drop_drop, List.drop_left, List.drop_left]

theorem index_occ (l sub : List UInt8) (h : 0 ≤ Lib.index l sub) : sub <+: l.drop (Lib.index l sub).toNat := by
  induction l with
  | nil =>
    rw [Lib.index] at h ⊢
    cases sub with
    | nil => exact List.nil_prefix
    | cons x t => simp at h
  | cons b l ih =>
    rw [Lib.index] at h ⊢
    by_cases hp : sub.isPrefixOf (b :: l) = true
    · rw [if_pos hp]; exact List.isPrefixOf_iff_prefix.1 hp
    · rw [if_neg hp] at h ⊢
      by_cases hn : (Lib.index l sub == -1) = true
      · rw [if_pos hn] at h; omega
      · rw [if_neg hn] at h ⊢
        have hge := Lib.index_ge l sub
        have hne : Lib.index l sub ≠ -1 := by simpa using hn
        have h0 : 0 ≤ Lib.index l sub := by omega
        rw [show (Lib.index l sub + 1).toNat = (Lib.index l sub).toNat + 1 by omega, List.drop_succ_cons]
        exact ih h0

theorem cut_found (l sub : List UInt8) (h : (Lib.cut l sub).2.2 = true) : l = (Lib.cut l sub).1 ++ (sub ++ (Lib.cut l sub).2.1) := by
  unfold Lib.cut at h ⊢
  by_cases h0 : 0 ≤ Lib.index l sub
  · rw [if_pos h0] at h ⊢
    obtain ⟨r, hr⟩ := index_occ l sub h0
    show l = l.take _ ++ (sub ++ l.drop _)
    rw [← List.drop_drop, ← hr, List.drop_left, hr, List.take_append_drop]
  · rw [if_neg h0] at h; cases h

theorem index_no (a : List UInt8) (x : UInt8) (t : List UInt8) (ha : ∀ b ∈ a, b ≠ x) : Lib.index a (x :: t) = -1 := by
  induction a with
  | nil => rfl
  | cons b a ih =>
    have hb : (x :: t).isPrefixOf (b :: a) = false := by
      rw [List.isPrefixOf, Bool.and_eq_false_iff]; left
      rw [beq_eq_false_iff_ne]; exact fun e => ha b (by simp) e.symm
    rw [Lib.index, if_neg (by rw [hb]; decide), ih (fun c hc => ha c (by simp [hc]))]
    rfl

theorem cut_no (a : List UInt8) (x : UInt8) (t : List UInt8) (ha : ∀ b ∈ a, b ≠ x) : Lib.cut a (x :: t) = (a, [], false) := by
  rw [Lib.cut, index_no a x t ha]; rfl

end Go.Proofs.YtaapmphdnholaaaDoor
