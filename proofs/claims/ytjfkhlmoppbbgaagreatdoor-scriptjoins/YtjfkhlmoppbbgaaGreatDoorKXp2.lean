/- script: what the listed variables give a walk; a world that has them. -/
import Derived.Test.YtjfkhlmoppbbgaaGreatDoorKXd2
import Derived.Test.YtjfkhlmoppbbgaaGreatDoorRows
import Derived.LaidHandle
import Derived.Lay
namespace Go.Proofs.YtjfkhlmoppbbgaaGreatDoor
open Go.ChangeShapes Go.WideShapes Go.RowKit

def laidS : List (String × DataW Unit) := [("math/bits.deBruijn64tab", Rows.laid_math_bits_deBruijn64tab), ("unicode/utf8.acceptRanges", Rows.laid_unicode_utf8_acceptRanges), ("errors.errorType", Rows.laid_errors_errorType), ("unicode/utf8.first", Rows.laid_unicode_utf8_first)]
def plainS : List (String × DataW Unit) := [("math/bits.deBruijn64tab", Rows.laid_math_bits_deBruijn64tab), ("unicode/utf8.acceptRanges", Rows.laid_unicode_utf8_acceptRanges), ("unicode/utf8.first", Rows.laid_unicode_utf8_first)]
theorem et : Tryz.prog.globalNamed "errors.errorType" = some 0 := by kernel_rfl
theorem rt : (Tryz.prog.cutTypes.find? (·.1 == "internal/reflectlite.rtype")).map (·.2) = some 90 := by kernel_rfl
theorem tysize : Tryz.prog.types.size = 432 := by kernel_rfl
theorem oneRow : ((List.range 432).filter fun t => Tryz.prog.rowNamed t [101, 114, 114, 111, 114]) = [51] := by kernel_rfl
theorem laidS_some : (laidS.filter fun x => x.2.handleName?.isSome) = [("errors.errorType", Rows.laid_errors_errorType)] := by kernel_rfl
theorem laidS_none : (laidS.filter fun x => x.2.handleName?.isNone) = plainS := by kernel_rfl
theorem gl_of {W : World} (h : laidMetH Tryz.prog laidS W) (hm : ∃ m : Int, W.cell? ⟨1, 0, none⟩ = some (.int .i64 m)) : Gl W := by
  refine ⟨hm, ?_⟩
  unfold laidMetH at h
  rw [laidS_some] at h
  obtain ⟨name, u, ty, e1, e2, e3, e4, e5⟩ := h.2 _ (List.mem_singleton.2 rfl)
  have en : name = [101, 114, 114, 111, 114] := (Option.some.inj e1).symm
  subst en
  obtain rfl := Option.some.inj (rt.symm.trans e2)
  have hx : ty ∈ (List.range 432).filter fun t => Tryz.prog.rowNamed t [101, 114, 114, 111, 114] := List.mem_filter.2 ⟨List.mem_range.2 (by rw [← tysize]; exact e3), e4⟩
  rw [oneRow] at hx
  obtain rfl := List.mem_singleton.1 hx
  have hh : typeHandle Tryz.prog 51 = .pointer (some ⟨5, 51, none⟩) := by kernel_rfl
  rw [hh] at e5
  simpa using World.var?_cell et e5 0
noncomputable def startW (os : Os) : World :=
  let w0 := World.holding Tryz.prog os ⟨#[], #[], []⟩
  { w0 with heap := w0.heap.modify 0 fun
      | .cells _ t frozen => .cells #[.iface 90 (.agg #[.pointer (some ⟨5, 51, none⟩)])] t frozen
      | o => o }
noncomputable def laidWorld (os : Os) : World := (startW os).layVars Tryz.prog plainS
theorem laidWorld_os (os : Os) : (laidWorld os).os = os := World.layVars_os _ _ _
theorem laidWorld_met (os : Os) (args : Array Value) : laidMetH Tryz.prog laidS ((laidWorld os).forCall (fun _ _ => 0) ⟨#[], args, []⟩).memory := by
  refine laidMetH_of_parts ?_ (by kernel_rfl)
  rw [laidS_none]
  have e1 : (plainS.filter fun x => (plainS.map (·.1)).contains x.1) = plainS := List.filter_eq_self.2 fun x hx => List.contains_iff_mem.2 (List.mem_map.2 ⟨x, hx, rfl⟩)
  have e2 : (plainS.filter fun x => !(plainS.map (·.1)).contains x.1) = [] := List.filter_eq_nil_iff.2 fun x hx => by rw [List.contains_iff_mem.2 (List.mem_map.2 ⟨x, hx, rfl⟩)]; simp
  have h : laidMet Tryz.prog plainS (laidWorld os) := laidMet_layVars (w0 := startW os) (plainS.map (·.1)) [] (by rw [e1]; rfl) (by rw [e1]; kernel_rfl) (by rw [e1]; kernel_rfl) (by rw [e2]; exact LaidIn.none)
  exact h.of_heap (by simp [World.memory, World.forCall, Input.heap])
end Go.Proofs.YtjfkhlmoppbbgaaGreatDoor
