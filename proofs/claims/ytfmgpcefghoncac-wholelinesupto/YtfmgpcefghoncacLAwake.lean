/- Walks: awake: the calls whose answers the document fixes are answered so. -/
import Derived.Test.YtfmgpcefghoncacLCutC
import Derived.Test.YtfmgpcefghoncacLSame
import Derived.Test.YtfmgpcefghoncacLNum
import Derived.Test.YtfmgpcefghoncacLTl
namespace Go.Proofs.Ytfmgpcefghoncac
open Go.RowKit

/-- A slice just written out. -/
theorem row_lit (W : World) (l : List (List UInt8)) (cs : Array Value) (h : cs.toList = strVals l) (c : Nat) : Row (W.alloc (.cells cs 9)) (.slice (some ⟨W.heap.size, 0, none⟩) l.length c) l := by
  refine .inr ⟨W.heap.size, 0, c, rfl, fun i hi => ?_⟩
  have hb : (W.alloc (.cells cs 9)).heap[W.heap.size]? = some (.cells cs 9) := World.alloc_heap_new W _
  rw [Lib.cell_of_heap hb, Nat.zero_add, ← Array.getElem?_toList, h]
  simp [strVals, List.getElem?_eq_getElem hi]

theorem tail_any (s : ByteArray) (hs : s.size ≤ 1073741824) (n : Int) (hn : n ≤ 9223372036854775807) (w : World) :
    Calls Try.prog 8 #[.string s, .int .i64 n] w fun e w' => ∃ v, e = .returned v ∧ w'.ownsRow w.heap.size 9 1 v (tailL (cutL s.data.toList) n).length (strVals (tailL (cutL s.data.toList) n)) ∧ Below w.heap.size w w' := by
  by_cases hp : 0 < n
  · exact tail_some s hs n hp hn w
  · refine (tail_none s n (by omega) w).mono ?_
    rintro e w' ⟨rfl, hb⟩
    have e : tailL (cutL s.data.toList) n = [] := by simp [tailL, hp]
    rw [e]
    exact ⟨_, rfl, World.ownsRow_nil _ _ _ _, hb⟩

end Go.Proofs.Ytfmgpcefghoncac
