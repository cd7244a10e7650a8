/- Arguments that are lists of texts; the listed errors of strconv. -/
import Derived.Test.YtiegmgcdfafhiaaDoorHl
import Derived.SliceStrings
import Derived.Carry
import Derived.ChangeOld
import Derived.ProofKit
import Derived.OpenShut
import Derived.Shelf.Vars
namespace Go.Proofs.YtiegmgcdfafhiaaDoor
open Go.ChangeShapes Go.WideShapes Go.RowKit

theorem strs_bulk {H : Type} (ss : List ByteArray) : Rows.uptoBulkAll (strs (H := H) ss) = totL (ss.map fun s => s.data.toList) + ss.length := by
  induction ss with
  | nil => simp [strs, Rows.uptoBulkAll, totL]
  | cons x r ih =>
    simp only [strs, totL, List.map_cons, List.sum_cons, List.length_cons, Rows.uptoBulkAll, Rows.uptoBulk] at ih ⊢
    rw [ih]
    omega

theorem open_strs {H : Type} {enc : TypeId × Value → H} {W : World} {b0 base : Nat} {spare : Nat → Bool} {held : Bool} {v : Value} {d : DataW H} {p : List MemPlace} (hv : Value.okWide Tryd.prog W .any b0 22 v) (h : DataW.Trod enc Tryd.prog W base spare held 22 v d p) :
    ∃ l : List (List UInt8), Row W v l ∧ (v = .slice none 0 0 ∨ ∃ a n c, v = .slice (some a) n c) ∧ totL l + l.length ≤ Rows.uptoBulk d := by
  obtain ⟨a0, len, cap, rfl⟩ := okWide_slice Tryd.underlying22 hv
  obtain ⟨fuel, hf⟩ := h
  rcases open_strings Tryd.underlying22 Tryd.underlying9 (by kernel_rfl) hf with ⟨hcs, hx⟩ | ⟨a, len', cap', ss, hcs, _, hl, hm, hz, hx, hcell, hsz⟩
  · simp only [Value.cells, List.cons.injEq, Value.slice.injEq, and_true] at hcs
    obtain ⟨rfl, rfl, rfl⟩ := hcs
    exact ⟨[], .inl ⟨rfl, _, _, rfl⟩, .inl rfl, by simp [totL]⟩
  · simp only [Value.cells, List.cons.injEq, Value.slice.injEq, and_true] at hcs
    obtain ⟨rfl, rfl, rfl⟩ := hcs
    simp only [Prod.mk.injEq] at hx
    obtain ⟨rfl, -⟩ := hx
    have hle : len ≤ ss.length := by rw [hz]; split <;> omega
    have hbulk : totL ((ss.take len).map fun s => s.data.toList) + (ss.take len).length ≤ Rows.uptoBulk (DataW.slice (H := H) (strs (ss.take len)) (strs (ss.drop len))) := by
      have := strs_bulk (H := H) (ss.take len)
      simp only [Rows.uptoBulk]
      omega
    refine ⟨(ss.take len).map fun s => s.data.toList, ?_, .inr ⟨_, _, _, rfl⟩, by rw [List.length_map]; exact hbulk⟩
    · by_cases h0 : len = 0
      · subst h0
        exact .inl ⟨by simp, _, _, rfl⟩
      · have h1 := hcell 0 (by omega)
        obtain ⟨g, off, sp⟩ := a
        have hsp : sp = none := by
          cases sp with
          | none => rfl
          | some x =>
            simp [Addr.add, World.cell?] at h1
            split at h1 <;> simp_all
        subst hsp
        refine .inr ⟨g, off, cap, ?_, fun i hi => ?_⟩
        · simp [List.length_take, Nat.min_eq_left hle]
        · have hi' : i < ss.length := by simp at hi; omega
          have h2 := hcell i hi'
          have hplain : (⟨g, off, none⟩ : Addr).add i = ⟨g, off + i, none⟩ := by unfold Addr.add; split <;> simp_all
          rw [hplain] at h2
          rw [h2]
          simp [List.getD_eq_getElem?_getD, List.getElem?_eq_getElem hi', bst]

theorem und52 : Tryd.prog.underlying 52 = some (.interface #[("Error", 54)]) := by kernel_rfl

/-- A variable that is an error holds nothing, or an error. -/
theorem err_of_trod {H : Type} {enc : TypeId × Value → H} {P : Program} {w : World} {base : Nat} {sp : Nat → Bool} {held : Bool} {t : TypeId} {fuel : Nat} {cs : List Value} {x : DataW H × List MemPlace} {ms : Array (String × TypeId)} (ht : P.underlying t = some (.interface ms)) (h : DataW.trod enc P w base sp held fuel t cs = some x) : ∃ ev, cs = [ev] ∧ (ev = .nilIface ∨ ∃ te pe, ev = .iface te pe) := by
  cases fuel with
  | zero => simp [DataW.trod] at h
  | succ m =>
    unfold DataW.trod at h
    rw [ht] at h
    split at h <;> simp_all

theorem glob_cell {P : Program} {W : World} {g : Nat} {name : String} {cs : Array Value} {ev : Value} (hg : P.globalNamed name = some g) (hv : W.var? P name = some cs) (hcs : cs.toList = [ev]) : W.cell? ⟨g, 0, none⟩ = some ev := by
  simp only [World.var?, hg, Option.bind_some] at hv
  split at hv
  · rename_i cs' t fr heq
    rw [Option.some.inj hv] at heq
    have e : cs[0]? = some ev := by rw [← Array.getElem?_toList, hcs]; rfl
    simp [World.cell?, heq, e]
  · cases hv

end Go.Proofs.YtiegmgcdfafhiaaDoor
