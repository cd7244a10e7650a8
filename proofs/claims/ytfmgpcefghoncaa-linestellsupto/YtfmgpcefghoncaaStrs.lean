/- A slice of strings among the arguments: the texts that it reads as, and what its bulk bounds. -/
import Derived.Test.YtfmgpcefghoncaaJoin
import Derived.Test.YtfmgpcefghoncaaRows
import Derived.SliceStrings
import Derived.Carry
import Derived.ChangeOld
namespace Go.Proofs.Ytfmgpcefghoncaa
open Go.ChangeShapes Go.WideShapes Go.RowKit

theorem joinL_len (l : List (List UInt8)) : l.length ≤ (joinL l).length := by
  induction l with
  | nil => simp
  | cons x r ih =>
    simp only [joinL, List.map_cons, List.flatten_cons, List.length_append, List.length_cons] at ih ⊢
    omega

theorem strs_bulk {H : Type} (ss : List ByteArray) : Rows.uptoBulkAll (strs (H := H) ss) = (joinL (ss.map fun s => s.data.toList)).length := by
  induction ss with
  | nil => simp [strs, Rows.uptoBulkAll, joinL]
  | cons x r ih =>
    simp only [strs, joinL, List.map_cons, List.flatten_cons, List.length_append, List.length_cons, List.length_nil, Rows.uptoBulkAll, Rows.uptoBulk] at ih ⊢
    rw [ih]

theorem open_strs {H : Type} {enc : TypeId × Value → H} {W : World} {b0 base : Nat} {spare : Nat → Bool} {held : Bool} {t : TypeId} {v : Value} {d : DataW H} {p : List MemPlace} (ht : Try.prog.underlying t = some (.slice 9)) (hv : Value.okWide Try.prog W .any b0 t v) (h : DataW.Trod enc Try.prog W base spare held t v d p) :
    ∃ l : List (List UInt8), Row W v l ∧ (v = .slice none 0 0 ∨ ∃ a n c, v = .slice (some a) n c) ∧ (joinL l).length ≤ Rows.uptoBulk d := by
  obtain ⟨a0, len, cap, rfl⟩ := okWide_slice ht hv
  obtain ⟨fuel, hf⟩ := h
  rcases open_strings ht Try.underlying9 (by kernel_rfl) hf with ⟨hcs, hx⟩ | ⟨a, len', cap', ss, hcs, _, hl, hm, hz, hx, hcell, hsz⟩
  · simp only [Value.cells, List.cons.injEq, Value.slice.injEq, and_true] at hcs
    obtain ⟨rfl, rfl, rfl⟩ := hcs
    exact ⟨[], .inl ⟨rfl, _, _, rfl⟩, .inl rfl, by simp [joinL]⟩
  · simp only [Value.cells, List.cons.injEq, Value.slice.injEq, and_true] at hcs
    obtain ⟨rfl, rfl, rfl⟩ := hcs
    simp only [Prod.mk.injEq] at hx
    obtain ⟨rfl, -⟩ := hx
    have hle : len ≤ ss.length := by rw [hz]; split <;> omega
    have hbulk : (joinL ((ss.take len).map fun s => s.data.toList)).length ≤ Rows.uptoBulk (DataW.slice (H := H) (strs (ss.take len)) (strs (ss.drop len))) := by
      have := strs_bulk (H := H) (ss.take len)
      simp only [Rows.uptoBulk]
      omega
    refine ⟨(ss.take len).map fun s => s.data.toList, ?_, .inr ⟨_, _, _, rfl⟩, hbulk⟩
    · by_cases h0 : len = 0
      · subst h0
        exact .inl ⟨by simp, _, _, rfl⟩
      · have h1 := hcell 0 (by omega)
        obtain ⟨g, off, sp⟩ := a
        have hsp : sp = none := by
          cases sp with
          | none => rfl
          | some x =>
            simp [Addr.add, World.cell?] at h1
            split at h1 <;> simp_all
        subst hsp
        refine .inr ⟨g, off, cap, ?_, fun i hi => ?_⟩
        · simp [List.length_take, Nat.min_eq_left hle]
        · have hi' : i < ss.length := by simp at hi; omega
          have h2 := hcell i hi'
          have hplain : (⟨g, off, none⟩ : Addr).add i = ⟨g, off + i, none⟩ := by unfold Addr.add; split <;> simp_all
          rw [hplain] at h2
          rw [h2]
          simp [List.getD_eq_getElem?_getD, List.getElem?_eq_getElem hi', str]

/-- What a slice reads as stays, where nothing old is changed. -/
theorem Row.stay {W W' : World} {v : Value} {l : List (List UInt8)} (h : Row W v l) {B : Nat} (hb : Below B W W') (hB : W.heap.size ≤ B) : Row W' v l := by
  rcases h with ⟨rfl, p, c, rfl⟩ | ⟨g, off, c, rfl, hc⟩
  · exact .inl ⟨rfl, p, c, rfl⟩
  · refine .inr ⟨g, off, c, rfl, fun i hi => ?_⟩
    have h1 := hc i hi
    rw [← h1]
    exact hb.cell (p := ⟨g, off + i, none⟩) (Nat.lt_of_lt_of_le (cell_lt h1) hB)
end Go.Proofs.Ytfmgpcefghoncaa
