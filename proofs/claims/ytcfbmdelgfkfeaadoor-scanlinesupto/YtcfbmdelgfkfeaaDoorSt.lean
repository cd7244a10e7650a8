/- scan, pure: the text of a, i, c, step by step. -/
import Derived.Test.YtcfbmdelgfkfeaaDoorSa
namespace Go.Proofs.YtcfbmdelgfkfeaaDoor
open scanP

theorem tx_end {l : List UInt8} {k : Nat} (h : l.length ≤ k) (p : Nat) (t : List UInt8) : txR (l.drop k) p t = (t ++ [10], p, 0) := by
  rw [List.drop_of_length_le h]; rfl
theorem tx_line {l : List UInt8} {k : Nat} (h : k < l.length) (hb : l[k] = 10) (p : Nat) (t : List UInt8) : txR (l.drop k) p t = (t ++ [10], p + 1, 0) := by
  rw [List.drop_eq_getElem_cons h, hb]
  cases l.drop (k + 1) <;> simp [txR]
theorem tx_step {l : List UInt8} {k : Nat} (h : k < l.length) (hb : l[k] ≠ 10) (h2 : l[k] ≠ 92) (p : Nat) (t : List UInt8) : txR (l.drop k) p t = txR (l.drop (k + 1)) (p + 1) (t ++ [l[k]]) := by
  rw [List.drop_eq_getElem_cons h]
  cases l.drop (k + 1) with
  | nil => simp [txR, hb, h2]
  | cons c r => simp [txR, hb, h2]
theorem tx_last {l : List UInt8} {k : Nat} (h : k + 1 = l.length) (hb : l[k] = 92) (p : Nat) (t : List UInt8) : txR (l.drop k) p t = ([], 0, 6) := by
  rw [List.drop_eq_getElem_cons (by omega), List.drop_of_length_le (by omega), hb]
  simp [txR]
theorem tx_pair {l : List UInt8} {k : Nat} (h : k + 1 < l.length) (hb : l[k] = 92) (p : Nat) (t : List UInt8) : txR (l.drop k) p t = txR (l.drop (k + 2)) (p + 2) (t ++ [l[k + 1]]) := by
  rw [List.drop_eq_getElem_cons (by omega : k < l.length), List.drop_eq_getElem_cons h, hb]
  simp [txR]


end Go.Proofs.YtcfbmdelgfkfeaaDoor
