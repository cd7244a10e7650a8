/- ytab: awake; the walk of YtabPieces. -/
import Derived.Test.YtjckdfdgkkmmjaaDoorYg
import Derived.Test.YtjckdfdgkkmmjaaDoorYe
import Derived.Lib.QuietBelow
namespace Go.Proofs.YtjckdfdgkkmmjaaDoor
open Go.RowKit

/-- The table that New makes, and its error's number. -/
def newT (l m : List UInt8) : Nat → UInt8 := if l.length ≠ m.length ∨ twB l = true then fun _ => 0 else fun i => valL l m i (UInt8.ofNat i)
def newE (l m : List UInt8) : Nat := if l.length ≠ m.length ∨ twB l = true then 21 else 0
theorem newR_eq (l m : List UInt8) : newR l m = (btF (newT l m), newE l m) := by
  unfold newR newT newE
  split <;> rfl
theorem bt_one (T : Nat → UInt8) : ∀ v ∈ arV (btF T), v.oneCell' = true := by
  intro v hv
  simp only [arV, List.mem_map] at hv
  obtain ⟨i, _, rfl⟩ := hv
  rfl
theorem newC (f t : ByteArray) (hs : f.size ≤ 140737488355000) (w : World) {A : Array Value} (hA : A = (arV (btF (newT f.data.toList t.data.toList))).toArray) :
    Calls Tryd.prog 6 #[.string f, .string t] w fun e w' => e = .returned (.tuple #[.agg A, .int .i64 (newE f.data.toList t.data.toList : Nat)]) ∧ Below w.heap.size w w' := by
  have h := new_any f t hs w
  rw [newR_eq] at h
  rw [hA]
  exact h
theorem applyC (T : Nat → UInt8) (s : ByteArray) (hs : s.size ≤ 140737488355000) (w : World) {A : Array Value} (hA : A = (arV (btF T)).toArray) :
    Calls Tryd.prog 7 #[.agg A, .string s] w fun e w' => e = .returned (.string (bst (appL T s.data.toList))) ∧ Below w.heap.size w w' := by
  rw [hA]
  exact apply_any T s hs w
/-- A table is laid into a new variable. -/
theorem var_store (T : Nat → UInt8) (w2 : World) {Z Z0 : Array Value} (hZ : Z = (arV (btF T)).toArray) (hZ0 : Z0 = (arV fun _ => .int .u8 0).toArray) :
    ∃ W3, (storeCells ⟨w2.heap.size, 0, none⟩ Z.toList 0).run Tryd.prog (w2.alloc (.cells Z0 28)) = .ok () W3 ∧ ArAt W3 w2.heap.size 28 (btF T) ∧ Below w2.heap.size w2 W3 ∧ W3.heap.size = w2.heap.size + 1 := by
  have hN := ArAt.new w2 28 (fun _ => .int .u8 0)
  rw [← hZ0] at hN
  obtain ⟨W3, h1, h2, -, h4, h5⟩ := table_store (g := btF T) hN (bt_one T) hZ
  exact ⟨W3, h1, h2, h5 _ _ (Nat.le_refl _) ((Below.refl _ w2).alloc (Nat.le_refl _) _), by rw [h4]; simp⟩
theorem sizeA {T : Nat → UInt8} {A : Array Value} (hA : A = (arV (btF T)).toArray) : A.size = 256 := by rw [hA]; simp [arV_len]
theorem zero31 {Z0 : Array Value} (hZ0 : Z0 = (arV fun _ => .int .u8 0).toArray) : ∀ w, (zeroValue 28).run Tryd.prog w = .ok (.agg Z0) w := by rw [hZ0]; exact (zero_of_info inf31).1
theorem rangeA {T : Nat → UInt8} {W : World} {b : Nat} {A : Array Value} (hA : A = (arV (btF T)).toArray) (h : ArAt W b 28 (btF T)) : W.rangeAt b 0 A.toList := by rw [hA]; exact range_block h

end Go.Proofs.YtjckdfdgkkmmjaaDoor
