/- scan: the document's Line, Word. -/
import Derived.Test.YtcfbmdelgfkfeaaDoorSc
namespace Go.Proofs.YtcfbmdelgfkfeaaDoor
open Go.RowKit
open scanP

theorem ext_bst (s : ByteArray) (i n : Nat) : s.extract i (i + n) = bst ((s.data.toList.drop i).take n) := by
  apply ByteArray.ext
  apply Array.ext'
  simp only [ByteArray.data_extract, bst, Array.toList_extract, List.extract_eq_take_drop]
  rw [Nat.add_sub_cancel_left]
theorem ne_val {c : UInt8} {z : Int} {d : UInt8} (hd : (d.toNat : Int) = z) (h : c ≠ d) : ((c.toNat : Int) != z) = true := by
  rw [bne_iff_ne]
  intro e
  exact h (UInt8.toNat_inj.1 (by omega))
theorem eq_val {c : UInt8} {z : Int} {d : UInt8} (hd : (d.toNat : Int) = z) (h : c = d) : ((c.toNat : Int) != z) = false := by
  rw [bne_eq_false_iff_eq, h]
  omega
theorem beq_val {c : UInt8} {z : Int} {d : UInt8} (hd : (d.toNat : Int) = z) (h : c = d) : ((c.toNat : Int) == z) = true := by
  rw [beq_iff_eq, h]
  omega
theorem bne_val {c : UInt8} {z : Int} {d : UInt8} (hd : (d.toNat : Int) = z) (h : c ≠ d) : ((c.toNat : Int) == z) = false := by
  rw [beq_eq_false_iff_ne]
  intro e
  exact h (UInt8.toNat_inj.1 (by omega))

end Go.Proofs.YtcfbmdelgfkfeaaDoor
