/- The listed errors of strconv. -/
import Derived.Test.YtjckdfdgkkmmjaaDoorHl
import Derived.SliceStrings
import Derived.Carry
import Derived.ChangeOld
import Derived.ProofKit
import Derived.OpenShut
import Derived.Shelf.Vars
namespace Go.Proofs.YtjckdfdgkkmmjaaDoor
open Go.ChangeShapes Go.WideShapes Go.RowKit

theorem und52 : Tryd.prog.underlying 45 = some (.interface #[("Error", 47)]) := by kernel_rfl

/-- A variable that is an error holds nothing, or an error. -/
theorem err_of_trod {H : Type} {enc : TypeId × Value → H} {P : Program} {w : World} {base : Nat} {sp : Nat → Bool} {held : Bool} {t : TypeId} {fuel : Nat} {cs : List Value} {x : DataW H × List MemPlace} {ms : Array (String × TypeId)} (ht : P.underlying t = some (.interface ms)) (h : DataW.trod enc P w base sp held fuel t cs = some x) : ∃ ev, cs = [ev] ∧ (ev = .nilIface ∨ ∃ te pe, ev = .iface te pe) := by
  cases fuel with
  | zero => simp [DataW.trod] at h
  | succ m =>
    unfold DataW.trod at h
    rw [ht] at h
    split at h <;> simp_all

theorem glob_cell {P : Program} {W : World} {g : Nat} {name : String} {cs : Array Value} {ev : Value} (hg : P.globalNamed name = some g) (hv : W.var? P name = some cs) (hcs : cs.toList = [ev]) : W.cell? ⟨g, 0, none⟩ = some ev := by
  simp only [World.var?, hg, Option.bind_some] at hv
  split at hv
  · rename_i cs' t fr heq
    rw [Option.some.inj hv] at heq
    have e : cs[0]? = some ev := by rw [← Array.getElem?_toList, hcs]; rfl
    simp [World.cell?, heq, e]
  · cases hv

end Go.Proofs.YtjckdfdgkkmmjaaDoor
