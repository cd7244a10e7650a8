/- bre: the document's reader: see. -/
import Derived.Test.YtolpakpdkheanaaKTk
import Derived.Test.YtolpakpdkheanaaKClose
import Derived.Deep.QuietTactic
import Derived.OwnWalk
namespace Go.Proofs.Ytolpakpdkheanaa.br
open Go.RowKit
end Go.Proofs.Ytolpakpdkheanaa.br
namespace Go.Proofs.Ytolpakpdkheanaa.br
def lead (l : List UInt8) : List UInt8 := l.takeWhile fun b => digB b.toNat
theorem xpr (l sub : List UInt8) (h : 0 ≤ Lib.index l sub) : sub <+: l.drop (Lib.index l sub).toNat := by
 induction l with
 | nil =>
  rw [Lib.index] at h ⊢
  cases sub with
  | nil => exact List.nil_prefix
  | cons x t => simp at h
 | cons b l ih =>
  rw [Lib.index] at h ⊢
  by_cases hp : sub.isPrefixOf (b :: l) = true
  ·rw [if_pos hp]; exact List.isPrefixOf_iff_prefix.1 hp
  ·rw [if_neg hp] at h ⊢
   by_cases hn : (Lib.index l sub == -1) = true
   ·rw [if_pos hn] at h; omega
   ·rw [if_neg hn] at h ⊢
    have hge := Lib.index_ge l sub
    have hne : Lib.index l sub ≠ -1 := by simpa using hn
    have h0 : 0 ≤ Lib.index l sub := by omega
    rw [show (Lib.index l sub + 1).toNat = (Lib.index l sub).toNat + 1 by omega, List.drop_succ_cons]
    exact ih h0
theorem xps (l sub : List UInt8) (h : (Lib.cut l sub).2.2 = true) : l = (Lib.cut l sub).1 ++ (sub ++ (Lib.cut l sub).2.1) := by
 unfold Lib.cut at h ⊢
 by_cases h0 : 0 ≤ Lib.index l sub
 ·rw [if_pos h0] at h ⊢
  obtain ⟨r, hr⟩ := xpr l sub h0
  show l = l.take _ ++ (sub ++ l.drop _)
  rw [← List.drop_drop, ← hr, List.drop_left, hr, List.take_append_drop]
 ·rw [if_neg h0] at h; cases h
end Go.Proofs.Ytolpakpdkheanaa.br
