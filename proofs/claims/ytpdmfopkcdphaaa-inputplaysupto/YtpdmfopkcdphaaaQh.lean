/- input: an argument that is a script of calls. -/
import Derived.Test.YtpdmfopkcdphaaaQf
import Derived.SliceStrings
import Derived.Carry
import Derived.ChangeOld
import Derived.ProofKit
import Derived.OpenShut
import Derived.Deep.Slices
import Derived.Deep.SlicePairs
namespace Go.Proofs.Ytpdmfopkcdphaaa
open Go.ChangeShapes Go.WideShapes Go.RowKit

theorem bulk_in {H : Type} (d : DataW H) : ∀ ds : List (DataW H), d ∈ ds → Rows.uptoBulk d ≤ Rows.uptoBulkAll ds
  | [], h => by cases h
  | x :: r, h => by
    simp only [Rows.uptoBulkAll]
    rcases List.mem_cons.1 h with rfl | h
    · omega
    · have := bulk_in d r h
      omega
theorem bulk_pos {H : Type} (d : DataW H) : 1 ≤ Rows.uptoBulk d := by
  cases d with
  | lit l => cases l <;> simp [Rows.uptoBulk]
  | _ => simp [Rows.uptoBulk]
theorem bulk_len {H : Type} : ∀ ds : List (DataW H), ds.length ≤ Rows.uptoBulkAll ds
  | [] => Nat.zero_le _
  | x :: r => by
    have h1 := bulk_pos x
    have h2 := bulk_len r
    simp only [Rows.uptoBulkAll, List.length_cons]
    omega
theorem spot_none {W : World} {a : Addr} {v : Value} (h : W.cell? (a.add 0) = some v) : a.spot = none := by
  obtain ⟨g, off, sp⟩ := a
  cases sp with
  | none => rfl
  | some x =>
    simp [Addr.add, World.cell?] at h
    split at h <;> simp_all
theorem cellsInt : Try.prog.cellsOf 3 = 1 := by kernel_rfl
theorem cellsStr : Try.prog.cellsOf 9 = 1 := by kernel_rfl
theorem cellsOp : Try.prog.cellsOf 30 = 2 := by kernel_rfl
theorem open_ops {H : Type} {enc : TypeId × Value → H} {W : World} {b0 base : Nat} {spare : Nat → Bool} {held : Bool} {v : Value} {d : DataW H} {p : List MemPlace} (hv : Value.okWide Try.prog W .any b0 22 v) (h : DataW.Trod enc Try.prog W base spare held 22 v d p) :
    ∃ l : List (Int × ByteArray), SRow W W.heap.size v l ∧ l.length ≤ Rows.uptoBulk d ∧ ∀ x ∈ l, x.2.size ≤ Rows.uptoBulk d := by
  obtain ⟨a0, len, cap, rfl⟩ := okWide_slice Try.underlying22 hv
  obtain ⟨fuel, hf⟩ := h
  rcases Deep.open_slice_pairs Try.underlying22 Try.underlying30 cellsOp rfl rfl cellsInt cellsStr hf with ⟨hcs, hx⟩ | ⟨a, len', cap', m, n', V0, V1, D0, D1, P0, P1, hcs, _, hl, hm, hz, hx, hcell⟩
  · simp only [Value.cells, List.cons.injEq, Value.slice.injEq, and_true] at hcs
    obtain ⟨rfl, rfl, rfl⟩ := hcs
    exact ⟨[], ⟨none, 0, rfl, fun k x hk => by simp at hk⟩, Nat.zero_le _, fun x hx => by cases hx⟩
  · simp only [Value.cells, List.cons.injEq, Value.slice.injEq, and_true] at hcs
    obtain ⟨rfl, rfl, rfl⟩ := hcs
    simp only [Prod.mk.injEq] at hx
    have hle : len ≤ m := by rw [hz]; split <;> omega
    have each : ∀ i, i < len → ∃ q : Int × ByteArray, W.cell? (a.add (i * 2)) = some (.int .i64 q.1) ∧ W.cell? (a.add (i * 2 + 1)) = some (.string q.2) ∧ D1 i = .lit (.string q.2.data.toList) := by
      intro i hi
      obtain ⟨h1, h2, h3, h4⟩ := hcell i (by omega)
      obtain ⟨gi, e1, _⟩ := DataW.trod_int Try.underlying3 h3
      obtain ⟨ti, e2, e3, _⟩ := DataW.trod_string Try.underlying9 h4
      simp only [List.cons.injEq, and_true] at e1 e2
      simp only [Prod.mk.injEq] at e3
      rw [e1] at h1
      rw [e2] at h2
      exact ⟨(gi, ti), h1, h2, e3.1⟩
    haveI : Inhabited (Int × ByteArray) := ⟨(0, ⟨#[]⟩)⟩
    obtain ⟨q, hq⟩ := Deep.choose_lt each
    have hbd : ∀ i, i < len → (q i).2.size ≤ Rows.uptoBulk d := fun i hi => by
      have h1 := bulk_in (DataW.agg [D0 i, D1 i]) ((List.range len).map fun i => DataW.agg [D0 i, D1 i]) (List.mem_map.2 ⟨i, List.mem_range.2 hi, rfl⟩)
      have h2 : (q i).2.size ≤ Rows.uptoBulk (D1 i) := by
        rw [(hq i hi).2.2]
        simp only [Rows.uptoBulk]
        rw [show (q i).2.data.toList.length = (q i).2.size from rfl]
        omega
      rw [hx.1]
      simp only [Rows.uptoBulk, Rows.uptoBulkAll] at h1 ⊢
      omega
    refine ⟨(List.range len).map q, ⟨some a, cap, by simp, fun k x hk => ?_⟩, ?_, fun x hx2 => ?_⟩
    · have hk1 : k < len := by
        have := (List.getElem?_eq_some_iff.1 hk).1
        simpa using this
      rw [List.getElem?_map, List.getElem?_range hk1] at hk
      obtain rfl : q k = x := by simpa using hk
      obtain ⟨h1, h2, _⟩ := hq k hk1
      have h0 := (hq 0 (by omega)).1
      obtain ⟨g, off, sp⟩ := a
      obtain rfl : sp = none := spot_none (by rw [Nat.zero_mul] at h0; exact h0)
      have hplain : ∀ j, (⟨g, off, none⟩ : Addr).add j = ⟨g, off + j, none⟩ := fun j => by unfold Addr.add; split <;> simp_all
      rw [hplain] at h1 h2
      exact ⟨g, off, rfl, World.block_lt_of_cell? W _ h1, h1, by rw [Nat.add_assoc]; exact h2⟩
    · have := bulk_len ((List.range len).map fun i => DataW.agg [D0 i, D1 i])
      rw [hx.1]
      simp only [Rows.uptoBulk, List.length_map, List.length_range] at this ⊢
      omega
    · obtain ⟨i, hi, rfl⟩ := List.mem_map.1 hx2
      exact hbd i (List.mem_range.1 hi)
end Go.Proofs.Ytpdmfopkcdphaaa
