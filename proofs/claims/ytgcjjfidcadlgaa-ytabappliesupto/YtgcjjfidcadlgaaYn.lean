/- An argument that is a table, opened. -/
import Derived.Test.YtgcjjfidcadlgaaYg
import Derived.ProofKit
import Derived.OpenShut
namespace Go.Proofs.Ytgcjjfidcadlgaa
open Go.ChangeShapes Go.WideShapes Go.ChangeAt Go.RowKit

theorem cells31 : Try.prog.cellsOf 31 = 256 := by kernel_rfl
theorem cells5 : Try.prog.cellsOf 5 = 1 := by kernel_rfl

/-- The byte that a cell holds. -/
def cellB (v : Option Value) : UInt8 := match v with
  | some (.int .u8 n) => UInt8.ofNat n.toNat
  | _ => 0

theorem open_table {H : Type} {enc : TypeId × Value → H} {W : World} {base : Nat} {v : Value} {d : DataW H} {p : List MemPlace} {sp : Nat → Bool} {hd : Bool}
    (hv : Value.okWide Try.prog W .any base 31 v) (h : DataW.Trod enc Try.prog W 0 sp hd 31 v d p) : ∃ T : Nat → UInt8, v = .agg (arV (btF T)).toArray := by
  obtain ⟨cs, rfl, hsz, _⟩ : ∃ cs, v = .agg cs ∧ cs.size = Try.prog.cellsOf 31 ∧ Row.okWide Try.prog W .any base 31 cs := by
    simpa [Value.okWide, und31] using hv
  rw [cells31] at hsz
  obtain ⟨l⟩ := cs
  have hl : l.length = 256 := hsz
  obtain ⟨fuel, hf⟩ := h
  obtain ⟨xs, m, -, -, -, hxl, hx⟩ := DataW.trod_array und31 hf
  refine ⟨fun i => cellB l[i]?, ?_⟩
  congr 1
  apply congrArg List.toArray
  apply List.ext_getElem?
  intro i
  by_cases hi : i < 256
  · rw [arV_at _ i hi]
    have h1 := hx i hi
    rw [cells5, Nat.mul_one, List.getElem?_eq_getElem (by omega)] at h1
    have hli : i < l.length := by omega
    change DataW.trod _ _ _ _ _ _ _ _ ((l.drop i).take 1) = _ at h1
    rw [List.drop_eq_getElem_cons hli] at h1
    simp only [List.take_succ_cons, List.take_zero] at h1
    obtain ⟨x0, e0, -, w0⟩ := DataW.trod_int Try.underlying5 h1
    simp only [List.cons.injEq, and_true] at e0
    have hb := bounds_u8 w0
    have e2 : l[i]? = some (.int .u8 x0) := by rw [List.getElem?_eq_getElem hli, e0]
    have e3 : (cellB l[i]?).toNat = x0.toNat := by
      rw [e2]
      show (UInt8.ofNat x0.toNat).toNat = _
      rw [UInt8.toNat_ofNat', Nat.mod_eq_of_lt (by omega)]
    rw [e2]
    unfold btF
    rw [e3]
    congr 2
    omega
  · rw [List.getElem?_eq_none (by omega), List.getElem?_eq_none (by rw [arV_len]; omega)]

end Go.Proofs.Ytgcjjfidcadlgaa
