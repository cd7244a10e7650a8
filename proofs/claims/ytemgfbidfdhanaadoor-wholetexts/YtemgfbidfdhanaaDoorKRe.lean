/- bre: the document's reader: see. -/
import Derived.Test.YtemgfbidfdhanaaDoorKTk
import Derived.Test.YtemgfbidfdhanaaDoorKClose
import Derived.Deep.QuietTactic
import Derived.OwnWalk
namespace Go.Proofs.YtemgfbidfdhanaaDoor
open Go.RowKit

/-- Does this text stand at a place? -/
def seeB (s sub : ByteArray) (i : Nat) : Bool := decide (i + sub.size ≤ s.size) && (s.extract i (i + sub.size)).toList == sub.toList

end Go.Proofs.YtemgfbidfdhanaaDoor

/- bre: the document's reader: digits. -/
namespace Go.Proofs.YtemgfbidfdhanaaDoor
open Go.RowKit

/-- One digit more. -/
def dgF (n : Int) (b : Int) : Int := if 255 < 10 * (if n < 0 then 0 else n) + (b - 48) then 256 else 10 * (if n < 0 then 0 else n) + (b - 48)

/-- The digits from a place on. -/
def dgR (s : ByteArray) : Nat → Nat → Int → Nat × Int
  | 0, p, n => (p, n)
  | f + 1, p, n => if digB (byteAt s p) then dgR s f (p + 1) (dgF n (byteAt s p)) else (p, n)

def dgAt (s : ByteArray) (p : Nat) : Nat × Int := dgR s (s.size + 1 - p) p (-1)

theorem IsRd.drew {W : World} {b : Nat} {s : ByteArray} {r : Rd} (h : IsRd W b s r) (n : Nat) : IsRd (W.drewN n) b s r := h
theorem grown_drew (W : World) (n : Nat) (o : Option Nat) : W.grownBy (W.drewN n) o := ⟨rfl, rfl, rfl, Nat.le_refl _, fun _ _ _ => rfl⟩

theorem rd_next {W : World} {b : Nat} {s : ByteArray} {r : Rd} {k : Nat} (h : IsRd W b s { r with pos := k }) (q : Nat) (m : Nat) :
    IsRd ((W.drewN q).setCell ⟨b, 1, none⟩ (.int .i64 ((k : Int) + (m : Int)))) b s { r with pos := k + m } :=
  IsRd.put (h.drew q) 1 _ (by simp [Rd.cells])

theorem rd_place {W : World} {b : Nat} {s : ByteArray} {r : Rd} (h : IsRd W b s r) : (intOf ((W.cell? ⟨b, 1, none⟩).getD (.bool false))).toNat = r.pos := by
  rw [(h.cell 1 _ rfl).1]; simp [intOf]

theorem rd_less {W W' : World} {b : Nat} {s : ByteArray} {r r' : Rd} (h : IsRd W b s r) (h' : IsRd W' b s r') (hlt : r.pos < r'.pos) (hs : r.pos < s.size) :
    s.size - (intOf ((W'.cell? ⟨b, 1, none⟩).getD (.bool false))).toNat < s.size - (intOf ((W.cell? ⟨b, 1, none⟩).getD (.bool false))).toNat := by
  rw [rd_place h, rd_place h']; omega

end Go.Proofs.YtemgfbidfdhanaaDoor

/- bre: the document's reader: interval. -/
namespace Go.Proofs.YtemgfbidfdhanaaDoor
open Go.RowKit

theorem dgR_bd (s : ByteArray) (f p : Nat) (n : Int) (hp : p ≤ s.size) (h1 : -1 ≤ n) (h2 : n ≤ 256) : p ≤ (dgR s f p n).1 ∧ (dgR s f p n).1 ≤ s.size ∧ -1 ≤ (dgR s f p n).2 ∧ (dgR s f p n).2 ≤ 256 := by
  induction f generalizing p n with
  | zero => exact ⟨Nat.le_refl _, hp, h1, h2⟩
  | succ f ih =>
    rw [dgR]
    by_cases hd : digB (byteAt s p) = true
    · rw [if_pos hd]
      have hlt : p < s.size := by
        by_cases h : p < s.size
        · exact h
        · rw [byteAt_out (by omega)] at hd; exact absurd hd (by decide)
      have hb : 48 ≤ byteAt s p ∧ byteAt s p ≤ 57 := by simpa [digB] using hd
      have hv : -1 ≤ dgF n (byteAt s p) ∧ dgF n (byteAt s p) ≤ 256 := by unfold dgF; split <;> split <;> omega
      obtain ⟨a, b, c, d⟩ := ih (p + 1) (dgF n (byteAt s p)) hlt hv.1 hv.2
      exact ⟨by omega, b, c, d⟩
    · rw [if_neg hd]; exact ⟨Nat.le_refl _, hp, h1, h2⟩

theorem dgAt_bd (s : ByteArray) (p : Nat) (hp : p ≤ s.size) : p ≤ (dgAt s p).1 ∧ (dgAt s p).1 ≤ s.size ∧ -1 ≤ (dgAt s p).2 ∧ (dgAt s p).2 ≤ 256 := dgR_bd s _ p (-1) hp (by omega) (by omega)

theorem see_lt {s sub : ByteArray} {p : Nat} (h : seeB s sub p = true) : p + sub.size ≤ s.size := by
  unfold seeB at h; simp at h; exact h.1

/-- Behind the first number: the place, the second. -/
def ivHi (s : ByteArray) (p : Nat) (lo : Int) : Nat × Int := if seeB s ⟨#[44]⟩ p then dgAt s (p + 1) else (p, lo)
def ivBad (lo hi : Int) : Bool := decide (lo < 0) || decide (255 < lo) || decide (255 < hi) || (!(hi == -1) && decide (hi < lo))
/-- An interval from a place on: the place behind it, its two numbers, is it one. -/
def ivAt (s : ByteArray) (p : Nat) : Nat × Int × Int × Bool :=
  let a := dgAt s p
  let c := ivHi s a.1 a.2
  if ivBad a.2 c.2 || !seeB s ⟨#[92, 125]⟩ c.1 then (c.1, 0, 0, false) else (c.1 + 2, a.2, c.2, true)

theorem iv_bad {s : ByteArray} {p p1 p2 : Nat} {lo hi : Int} (hA : dgAt s p = (p1, lo)) (hH : ivHi s p1 lo = (p2, hi)) (hb : (ivBad lo hi || !seeB s ⟨#[92, 125]⟩ p2) = true) : ivAt s p = (p2, 0, 0, false) := by
  unfold ivAt; simp only [hA, hH, hb, if_true]
theorem iv_ok {s : ByteArray} {p p1 p2 : Nat} {lo hi : Int} (hA : dgAt s p = (p1, lo)) (hH : ivHi s p1 lo = (p2, hi)) (hb : (ivBad lo hi || !seeB s ⟨#[92, 125]⟩ p2) = false) : ivAt s p = (p2 + 2, lo, hi, true) := by
  unfold ivAt; simp only [hA, hH, hb]; rfl

theorem grown_more {A B : World} {b : Nat} (h : A.grownBy B (some b)) (n : Nat) : A.grownBy (B.drewN n) (some b) := grown_trans h (grown_drew _ _ _)

end Go.Proofs.YtemgfbidfdhanaaDoor

/- bre: the document's number as a row of digits: the lemma that joins it to the program's. -/
namespace Go.Proofs.YtemgfbidfdhanaaDoor

/-- The digits that a row begins with. -/
def lead (l : List UInt8) : List UInt8 := l.takeWhile fun b => digB b.toNat

theorem digs_lead (l : List UInt8) : digs (lead l) = true := by
  unfold digs lead
  induction l with
  | nil => rfl
  | cons b l ih =>
    rw [List.takeWhile_cons]
    split
    · next h => rw [List.all_cons, h, ih]; rfl
    · rfl

theorem drop_consB (s : ByteArray) (p : Nat) (h : p < s.size) : s.data.toList.drop p = s[p] :: s.data.toList.drop (p + 1) := by
  rw [List.drop_eq_getElem_cons (by simpa using h)]; rfl

theorem dgR_lead (s : ByteArray) (f p : Nat) (n : Int) (hf : s.size + 1 - p ≤ f) (hp : p ≤ s.size) :
    dgR s f p n = (p + (lead (s.data.toList.drop p)).length, (lead (s.data.toList.drop p)).foldl (fun m b => dgF m (b.toNat : Int)) n) := by
  induction f generalizing p n with
  | zero => omega
  | succ f ih =>
    rw [dgR]
    by_cases h : p < s.size
    · rw [byteAt_in h, drop_consB s p h, lead, List.takeWhile_cons]
      by_cases hd : digB (s[p].toNat : Int) = true
      · rw [if_pos hd, if_pos hd, ih (p + 1) _ (by omega) h]
        simp only [List.length_cons, List.foldl_cons, lead]
        congr 1; omega
      · rw [if_neg hd, if_neg hd]; rfl
    · rw [byteAt_out (by omega), if_neg (by decide), List.drop_eq_nil_of_le (by simpa using Nat.le_of_not_lt h)]; rfl

theorem dgF_num (n : Nat) (b : UInt8) (h : digB b.toNat = true) : dgF (n : Int) (b.toNat : Int) = (numF n b : Nat) := by
  have hb : 48 ≤ (b.toNat : Int) ∧ (b.toNat : Int) ≤ 57 := by simpa [digB] using h
  unfold dgF numF
  rw [if_neg (by omega : ¬ (n : Int) < 0)]
  split <;> omega

theorem fold_num (l : List UInt8) (n : Nat) (h : digs l = true) : l.foldl (fun m b => dgF m (b.toNat : Int)) (n : Int) = (l.foldl numF n : Nat) := by
  induction l generalizing n with
  | nil => rfl
  | cons b l ih =>
    simp only [digs, List.all_cons, Bool.and_eq_true] at h
    rw [List.foldl_cons, List.foldl_cons, dgF_num n b h.1]
    exact ih _ h.2

/-- A number of the document: its digits, and none is -1. -/
theorem dgAt_lead (s : ByteArray) (p : Nat) (hp : p ≤ s.size) :
    dgAt s p = (p + (lead (s.data.toList.drop p)).length, if (lead (s.data.toList.drop p)).isEmpty then -1 else (numN (lead (s.data.toList.drop p)) : Int)) := by
  rw [dgAt, dgR_lead s _ p _ (Nat.le_refl _) hp]
  have hd := digs_lead (s.data.toList.drop p)
  generalize lead (s.data.toList.drop p) = l at *
  cases l with
  | nil => rfl
  | cons b l =>
    simp only [digs, List.all_cons, Bool.and_eq_true] at hd
    have h0 : dgF (-1) (b.toNat : Int) = dgF ((0 : Nat) : Int) (b.toNat : Int) := by unfold dgF; rfl
    show (_, _) = (_, _)
    rw [List.foldl_cons, h0, dgF_num 0 b hd.1, fold_num l _ hd.2]
    rfl
end Go.Proofs.YtemgfbidfdhanaaDoor

/- bre: see, told by rows: a row begins with another. -/
namespace Go.Proofs.YtemgfbidfdhanaaDoor

theorem extract_take (s : ByteArray) (p k : Nat) : (s.extract p (p + k)).data.toList = (s.data.toList.drop p).take k := by
  rw [ByteArray.data_extract, Array.toList_extract, List.extract_eq_take_drop]
  congr 1; omega

theorem seeB_pre (s sub : ByteArray) (p : Nat) (hp : p ≤ s.size) : seeB s sub p = sub.data.toList.isPrefixOf (s.data.toList.drop p) := by
  rw [Bool.eq_iff_iff, List.isPrefixOf_iff_prefix, List.prefix_iff_eq_take, seeB, Bool.and_eq_true, decide_eq_true_iff, beq_iff_eq, ByteArray.toList_eq, ByteArray.toList_eq, extract_take]
  have hl : sub.data.toList.length = sub.size := by simp
  rw [hl]
  constructor
  · rintro ⟨_, h⟩; exact h.symm
  · intro h
    refine ⟨?_, h.symm⟩
    have h2 := congrArg List.length h
    rw [hl, List.length_take, List.length_drop] at h2
    have h3 : s.data.toList.length = s.size := by simp
    rw [h3] at h2
    omega

/-- The digits in front of what is no digit. -/
theorem lead_app (a r : List UInt8) (c : UInt8) (ha : digs a = true) (hc : digB c.toNat = false) : lead (a ++ c :: r) = a := by
  induction a with
  | nil => rw [List.nil_append, lead, List.takeWhile_cons, hc]; rfl
  | cons b a ih =>
    simp only [digs, List.all_cons, Bool.and_eq_true] at ha
    rw [List.cons_append, lead, List.takeWhile_cons, if_pos ha.1]
    exact congrArg (b :: ·) (ih ha.2)

theorem lead_pre (l : List UInt8) : lead l ++ l.drop (lead l).length = l := by
  have : lead l <+: l := List.takeWhile_prefix _
  obtain ⟨r, hr⟩ := this
  generalize lead l = a at *
  subst hr
  simp
end Go.Proofs.YtemgfbidfdhanaaDoor

/- bre: cutting a row at another: what is in front and behind. -/
namespace Go.Proofs.YtemgfbidfdhanaaDoor

theorem index_app (a r : List UInt8) (x : UInt8) (t : List UInt8) (ha : ∀ b ∈ a, b ≠ x) : Lib.index (a ++ (x :: t ++ r)) (x :: t) = (a.length : Int) := by
  induction a with
  | nil =>
    have : (x :: t).isPrefixOf (x :: t ++ r) = true := by rw [List.isPrefixOf_iff_prefix]; exact List.prefix_append _ _
    rw [List.nil_append]
    rw [List.cons_append] at this ⊢
    rw [Lib.index, if_pos this]; rfl
  | cons b a ih =>
    have hb : (x :: t).isPrefixOf (b :: (a ++ (x :: t ++ r))) = false := by
      rw [List.isPrefixOf, Bool.and_eq_false_iff]; left
      rw [beq_eq_false_iff_ne]; exact fun e => ha b (by simp) e.symm
    rw [List.cons_append, Lib.index, if_neg (by rw [hb]; decide), ih (fun c hc => ha c (by simp [hc]))]
    rw [if_neg (by simp)]
    simp

theorem cut_app (a r : List UInt8) (x : UInt8) (t : List UInt8) (ha : ∀ b ∈ a, b ≠ x) : Lib.cut (a ++ (x :: t ++ r)) (x :: t) = (a, r, true) := by
  rw [Lib.cut, index_app a r x t ha, if_pos (by omega), Int.toNat_natCast, List.take_left, ← List.drop_drop, List.drop_left, List.drop_left]

theorem index_occ (l sub : List UInt8) (h : 0 ≤ Lib.index l sub) : sub <+: l.drop (Lib.index l sub).toNat := by
  induction l with
  | nil =>
    rw [Lib.index] at h ⊢
    cases sub with
    | nil => exact List.nil_prefix
    | cons x t => simp at h
  | cons b l ih =>
    rw [Lib.index] at h ⊢
    by_cases hp : sub.isPrefixOf (b :: l) = true
    · rw [if_pos hp]; exact List.isPrefixOf_iff_prefix.1 hp
    · rw [if_neg hp] at h ⊢
      by_cases hn : (Lib.index l sub == -1) = true
      · rw [if_pos hn] at h; omega
      · rw [if_neg hn] at h ⊢
        have hge := Lib.index_ge l sub
        have hne : Lib.index l sub ≠ -1 := by simpa using hn
        have h0 : 0 ≤ Lib.index l sub := by omega
        rw [show (Lib.index l sub + 1).toNat = (Lib.index l sub).toNat + 1 by omega, List.drop_succ_cons]
        exact ih h0

theorem cut_found (l sub : List UInt8) (h : (Lib.cut l sub).2.2 = true) : l = (Lib.cut l sub).1 ++ (sub ++ (Lib.cut l sub).2.1) := by
  unfold Lib.cut at h ⊢
  by_cases h0 : 0 ≤ Lib.index l sub
  · rw [if_pos h0] at h ⊢
    obtain ⟨r, hr⟩ := index_occ l sub h0
    show l = l.take _ ++ (sub ++ l.drop _)
    rw [← List.drop_drop, ← hr, List.drop_left, hr, List.take_append_drop]
  · rw [if_neg h0] at h; cases h

theorem cut_missed (l sub : List UInt8) (h : (Lib.cut l sub).2.2 = false) : Lib.cut l sub = (l, [], false) := by
  unfold Lib.cut at h ⊢
  by_cases h0 : 0 ≤ Lib.index l sub
  · rw [if_pos h0] at h; cases h
  · rw [if_neg h0]

theorem index_no (a : List UInt8) (x : UInt8) (t : List UInt8) (ha : ∀ b ∈ a, b ≠ x) : Lib.index a (x :: t) = -1 := by
  induction a with
  | nil => rfl
  | cons b a ih =>
    have hb : (x :: t).isPrefixOf (b :: a) = false := by
      rw [List.isPrefixOf, Bool.and_eq_false_iff]; left
      rw [beq_eq_false_iff_ne]; exact fun e => ha b (by simp) e.symm
    rw [Lib.index, if_neg (by rw [hb]; decide), ih (fun c hc => ha c (by simp [hc]))]
    rfl

theorem cut_no (a : List UInt8) (x : UInt8) (t : List UInt8) (ha : ∀ b ∈ a, b ≠ x) : Lib.cut a (x :: t) = (a, [], false) := by
  rw [Lib.cut, index_no a x t ha]; rfl

theorem digs_ne {a : List UInt8} (h : digs a = true) (x : UInt8) (hx : digB x.toNat = false) : ∀ b ∈ a, b ≠ x := by
  intro b hb e
  subst e
  have := List.all_eq_true.1 h b hb
  rw [hx] at this; cases this
end Go.Proofs.YtemgfbidfdhanaaDoor
