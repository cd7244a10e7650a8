/- ytab: the walk of YtabNews. -/
import Derived.Test.YtjckdfdgkkmmjaaDoorYi
namespace Go.Proofs.YtjckdfdgkkmmjaaDoor
open Go.RowKit Go.Sort

/-- A table is read, whatever was laid behind. -/
theorem load_regrown {T : Nat → UInt8} {W : World} {b : Nat} {A : Array Value} (hA : A = (arV (btF T)).toArray) (h : ArAt W b 28 (btF T)) (d : Nat) (os : Array Obj) : (Instr.loadAt 28 (.pointer (some ⟨b, 0, none⟩))).run Tryd.prog (grow (redrawn W d) os) = .ok (.agg A) (grow (redrawn W d) os) := by
  have h2 := rangeA hA (h.stay (below_regrown W d os))
  have h3 := run_loadAt_mid (P := Tryd.prog) _ b 0 28 A.toList _ h2 und31 rfl (by rw [info31]; simp [sizeA hA])
  rw [show A.toList.toArray = A from Array.toArray_toList] at h3
  exact h3

theorem loadC_regrown {T : Nat → UInt8} {W : World} {b : Nat} {A : Array Value} (hA : A = (arV (btF T)).toArray) (h : ArAt W b 28 (btF T)) (d : Nat) (os : Array Obj) : (loadCellsFrom ⟨b, 0, none⟩ 0 256 #[]).run Tryd.prog (grow (redrawn W d) os) = .ok A (grow (redrawn W d) os) := by
  rw [hA]
  exact table_load (h.stay (below_regrown W d os))

/-- A table is read in a region that draws. -/
theorem q_load {W : World} {b : Nat} {A : Array Value} (h : ∀ d os, (Instr.loadAt 28 (.pointer (some ⟨b, 0, none⟩))).run Tryd.prog (grow (redrawn W d) os) = .ok (.agg A) (grow (redrawn W d) os)) {ops : Array Oper} {Q : Act → Prop} {a : Act} {o : Oper} {rest : List Oper} {x : Operand} {dst : Tmp} (ho : o.op = .load 28 x) (hd : o.dst = some dst) (hx : a.eval x = .pointer (some ⟨b, 0, none⟩)) (hw : Region.wanted o (yielded ops a.tmps) = true) (hk : wpQuiet Tryd.prog ops (fun w' => ∃ p : Regrown, w' = grow (redrawn W p.d) p.os) Q rest (a.put (some dst) (.agg A))) : wpQuiet Tryd.prog ops (fun w' => ∃ p : Regrown, w' = grow (redrawn W p.d) p.os) Q (o :: rest) a := by
  refine wpQuiet_step fun K hK => ?_
  rw [if_pos hw]
  refine ⟨.agg A, fun w hw => ?_, by rw [hd]; exact hK _ hk⟩
  obtain ⟨⟨d, os⟩, rfl⟩ := hw
  unfold Oper.quietAt execOp
  simp only [ho, hx, h, Sem.run_bind, Result.andThen_ok, Sem.run_pure]
  exact ⟨rfl, rfl⟩

end Go.Proofs.YtjckdfdgkkmmjaaDoor
