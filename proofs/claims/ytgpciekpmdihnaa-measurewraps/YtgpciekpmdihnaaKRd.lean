/- bre: the document's reader in memory: its fields; fail, grown, see. -/
import Derived.Test.YtgpciekpmdihnaaKTk
import Derived.Laws.OwnMore
import Derived.Lib.QuietBelow
import Derived.BigQuiet
namespace Go.Proofs.Ytgpciekpmdihnaa
open Go.RowKit
structure Rd where
  pos : Nat
  e : Int
  place : Nat
  groups : Nat
  shut : Nat → Bool
  size : Int
def Rd.cells (s : ByteArray) (r : Rd) : List Value :=
  [.string s, .int .i64 (r.pos : Nat), .int .i64 r.e, .int .i64 (r.place : Nat), .int .i64 (r.groups : Nat), .bool (r.shut 0), .bool (r.shut 1), .bool (r.shut 2), .bool (r.shut 3), .bool (r.shut 4), .bool (r.shut 5), .bool (r.shut 6), .bool (r.shut 7), .bool (r.shut 8), .bool (r.shut 9), .int .i64 r.size]
def IsRd (W : World) (b : Nat) (s : ByteArray) (r : Rd) : Prop := W.heap[b]? = some (.cells (r.cells s).toArray 66 (0, 0))
theorem IsRd.lt {W : World} {b : Nat} {s : ByteArray} {r : Rd} (h : IsRd W b s r) : b < W.heap.size := (Array.getElem?_eq_some_iff.1 h).1
theorem IsRd.cell {W : World} {b : Nat} {s : ByteArray} {r : Rd} (h : IsRd W b s r) (k : Nat) (v : Value) (hk : (r.cells s)[k]? = some v) : W.cell? ⟨b, k, none⟩ = some v ∧ W.frozen? ⟨b, k, none⟩ = false := by
  have h2 : W.heap[b]? = _ := h
  exact ⟨by simp [World.cell?, h2, hk], by simp [World.frozen?, h2]⟩
theorem IsRd.put {W : World} {b : Nat} {s : ByteArray} {r r' : Rd} (h : IsRd W b s r) (k : Nat) (v : Value) (hr : r'.cells s = (r.cells s).set k v) : IsRd (W.setCell ⟨b, k, none⟩ v) b s r' := by
  obtain ⟨hlt, hk⟩ := Array.getElem?_eq_some_iff.1 h
  show (W.heap.modify b _)[b]? = _
  rw [Array.getElem?_eq_getElem (by rw [Array.size_modify]; exact hlt), Array.getElem_modify_self, hk, hr]
  simp only [Option.isSome_none, Bool.false_eq_true, if_false]
  rw [List.setIfInBounds_toArray]
end Go.Proofs.Ytgpciekpmdihnaa
