/- store: arguments that are scripts of calls, and lists of files. -/
import Derived.Test.YtbibfpgcnmocjaaSi
import Derived.SliceStrings
import Derived.Carry
import Derived.ChangeOld
import Derived.ProofKit
import Derived.OpenShut
import Derived.Deep.Slices
import Derived.Deep.SlicePairs
namespace Go.Proofs.Ytbibfpgcnmocjaa
open Go.ChangeShapes Go.WideShapes Go.RowKit

theorem bulk_in {H : Type} (d : DataW H) : ∀ ds : List (DataW H), d ∈ ds → Rows.uptoBulk d ≤ Rows.uptoBulkAll ds
  | [], h => by cases h
  | x :: r, h => by
    simp only [Rows.uptoBulkAll]
    rcases List.mem_cons.1 h with rfl | h
    · omega
    · have := bulk_in d r h
      omega
theorem bulk_pos {H : Type} (d : DataW H) : 1 ≤ Rows.uptoBulk d := by
  cases d with
  | lit l => cases l <;> simp [Rows.uptoBulk]
  | _ => simp [Rows.uptoBulk]
theorem bulk_len {H : Type} : ∀ ds : List (DataW H), ds.length ≤ Rows.uptoBulkAll ds
  | [] => Nat.zero_le _
  | x :: r => by
    have h1 := bulk_pos x
    have h2 := bulk_len r
    simp only [Rows.uptoBulkAll, List.length_cons]
    omega
theorem spot_none {W : World} {a : Addr} {v : Value} (h : W.cell? (a.add 0) = some v) : a.spot = none := by
  obtain ⟨g, off, sp⟩ := a
  cases sp with
  | none => rfl
  | some x =>
    simp [Addr.add, World.cell?] at h
    split at h <;> simp_all
theorem cellsInt : Try.prog.cellsOf 3 = 1 := by kernel_rfl
theorem cellsStr : Try.prog.cellsOf 9 = 1 := by kernel_rfl
theorem cellsByte : Try.prog.cellsOf 5 = 1 := by kernel_rfl
theorem cellsOp : Try.prog.cellsOf 30 = 4 := by kernel_rfl
theorem cellsFl : Try.prog.cellsOf 52 = 2 := by kernel_rfl
def opC (x : Op4) : List Value := [.int .i64 x.kd, .string x.nm, .string x.tx, .int .u8 (x.tm.toNat : Nat)]
set_option maxRecDepth 100000 in
set_option maxHeartbeats 1000000 in
theorem op4_cells {H : Type} {enc : TypeId × Value → H} {W : World} {base : Nat} {spare : Nat → Bool} {held : Bool} {n : Nat} {cs : List Value} {x : DataW H × List MemPlace} (h : DataW.trod enc Try.prog W base spare held n 30 cs = some x) : ∃ p : Op4, cs = opC p ∧ p.nm.size ≤ Rows.uptoBulk x.1 ∧ p.tx.size ≤ Rows.uptoBulk x.1 := by
  obtain ⟨xs, m, _, hx, hcl, hxl, hf⟩ := DataW.trod_struct Try.underlying30 h
  have hxl : xs.length = 4 := hxl
  rw [cellsOp] at hcl
  match cs, hcl with
  | [v0, v1, v2, v3], _ =>
  have g0 : DataW.trod enc Try.prog W base spare held m 3 (([v0, v1, v2, v3].drop 0).take (Try.prog.cellsOf 3)) = xs[0]? := hf 0 _ rfl
  rw [cellsInt, List.getElem?_eq_getElem (by omega)] at g0
  change DataW.trod enc Try.prog W base spare held m 3 [v0] = _ at g0
  have g1 : DataW.trod enc Try.prog W base spare held m 9 (([v0, v1, v2, v3].drop 1).take (Try.prog.cellsOf 9)) = xs[1]? := hf 1 _ rfl
  rw [cellsStr, List.getElem?_eq_getElem (by omega)] at g1
  change DataW.trod enc Try.prog W base spare held m 9 [v1] = _ at g1
  have g2 : DataW.trod enc Try.prog W base spare held m 9 (([v0, v1, v2, v3].drop 2).take (Try.prog.cellsOf 9)) = xs[2]? := hf 2 _ rfl
  rw [cellsStr, List.getElem?_eq_getElem (by omega)] at g2
  change DataW.trod enc Try.prog W base spare held m 9 [v2] = _ at g2
  have g3 : DataW.trod enc Try.prog W base spare held m 5 (([v0, v1, v2, v3].drop 3).take (Try.prog.cellsOf 5)) = xs[3]? := hf 3 _ rfl
  rw [cellsByte, List.getElem?_eq_getElem (by omega)] at g3
  change DataW.trod enc Try.prog W base spare held m 5 [v3] = _ at g3
  obtain ⟨kd, e0, _⟩ := DataW.trod_int Try.underlying3 g0
  obtain ⟨nm, e1, x1, _⟩ := DataW.trod_string Try.underlying9 g1
  obtain ⟨tx, e2, x2, _⟩ := DataW.trod_string Try.underlying9 g2
  obtain ⟨tm, e3, _, htm⟩ := DataW.trod_int Try.underlying5 g3
  simp only [List.cons.injEq, and_true] at e0 e1 e2 e3
  have hb := bounds_u8 htm
  obtain ⟨q, rfl⟩ : ∃ q : UInt8, tm = ((q.toNat : Nat) : Int) := ⟨tm.toNat.toUInt8, by rw [UInt8.toNat_ofNat']; omega⟩
  have hm : ∀ i (hi : i < xs.length), Rows.uptoBulk (xs[i]'hi).1 ≤ Rows.uptoBulk x.1 := fun i hi => by
    have := bulk_in (xs[i]'hi).1 (xs.map (·.1)) (List.mem_map.2 ⟨_, List.getElem_mem hi, rfl⟩)
    rw [hx]
    simp only [Rows.uptoBulk]
    omega
  refine ⟨⟨kd, nm, tx, q⟩, by rw [e0, e1, e2, e3]; rfl, ?_, ?_⟩
  · have := hm 1 (by omega)
    rw [x1] at this
    simp only [Rows.uptoBulk] at this
    have h2 : nm.size + 1 ≤ Rows.uptoBulk x.1 := this
    show nm.size ≤ _
    omega
  · have := hm 2 (by omega)
    rw [x2] at this
    simp only [Rows.uptoBulk] at this
    have h2 : tx.size + 1 ≤ Rows.uptoBulk x.1 := this
    show tx.size ≤ _
    omega
set_option maxRecDepth 100000 in
set_option maxHeartbeats 1000000 in
theorem open_ops {H : Type} {enc : TypeId × Value → H} {W : World} {b0 base : Nat} {spare : Nat → Bool} {held : Bool} {v : Value} {d : DataW H} {p : List MemPlace} (hv : Value.okWide Try.prog W .any b0 23 v) (h : DataW.Trod enc Try.prog W base spare held 23 v d p) :
    ∃ l : List Op4, ORow W v l ∧ l.length ≤ Rows.uptoBulk d ∧ ∀ x ∈ l, x.nm.size ≤ Rows.uptoBulk d ∧ x.tx.size ≤ Rows.uptoBulk d := by
  obtain ⟨a0, len, cap, rfl⟩ := okWide_slice Try.underlying23 hv
  obtain ⟨fuel, hf⟩ := h
  rcases Deep.open_slice Try.underlying23 hf with ⟨hcs, hx⟩ | ⟨a, len', cap', m, n, D, Pl, hcs, _, hl, hm, hz, hx, hcell⟩
  · simp only [Value.cells, List.cons.injEq, Value.slice.injEq, and_true] at hcs
    obtain ⟨rfl, rfl, rfl⟩ := hcs
    exact ⟨[], ⟨none, 0, rfl, fun k x hk => by simp at hk⟩, Nat.zero_le _, fun x hx => by cases hx⟩
  · simp only [Value.cells, List.cons.injEq, Value.slice.injEq, and_true] at hcs
    obtain ⟨rfl, rfl, rfl⟩ := hcs
    simp only [Prod.mk.injEq] at hx
    have hle : len ≤ m := by rw [hz]; split <;> omega
    have each : ∀ i, i < len → ∃ q : Op4, (∀ j u, (opC q)[j]? = some u → W.cell? (a.add (i * 4 + j)) = some u) ∧ q.nm.size ≤ Rows.uptoBulk (D i) ∧ q.tx.size ≤ Rows.uptoBulk (D i) := by
      intro i hi
      obtain ⟨cs', h1, h2⟩ := hcell i (by omega)
      obtain ⟨q, rfl, hq2, hq3⟩ := op4_cells h2
      refine ⟨q, fun j u hu => ?_, hq2, hq3⟩
      rw [cellsOp] at h1
      obtain ⟨_, _, hc⟩ := World.cells?_some h1
      have hj : j < 4 := (List.getElem?_eq_some_iff.1 hu).1
      have := hc j hj
      rw [Deep.add_add] at this
      rw [this, hu]
    haveI : Inhabited Op4 := ⟨⟨0, ⟨#[]⟩, ⟨#[]⟩, 0⟩⟩
    obtain ⟨q, hq⟩ := Deep.choose_lt each
    have hbd : ∀ i, i < len → Rows.uptoBulk (D i) ≤ Rows.uptoBulk d := fun i hi => by
      have := bulk_in (D i) ((List.range len).map D) (List.mem_map.2 ⟨i, List.mem_range.2 hi, rfl⟩)
      rw [hx.1]
      simp only [Rows.uptoBulk]
      omega
    refine ⟨(List.range len).map q, ⟨some a, cap, by simp, fun k x hk => ?_⟩, ?_, fun x hx2 => ?_⟩
    · have hk1 : k < len := by
        have := (List.getElem?_eq_some_iff.1 hk).1
        simpa using this
      rw [List.getElem?_map, List.getElem?_range hk1] at hk
      obtain rfl : q k = x := by simpa using hk
      have h1 := (hq k hk1).1
      have h0 := (hq 0 (by omega)).1 0 _ rfl
      obtain ⟨g, off, sp⟩ := a
      obtain rfl : sp = none := spot_none (by rw [Nat.zero_mul] at h0; exact h0)
      have hplain : ∀ j, (⟨g, off, none⟩ : Addr).add j = ⟨g, off + j, none⟩ := fun j => by unfold Addr.add; split <;> simp_all
      have h2 : ∀ j u, (opC (q k))[j]? = some u → W.cell? ⟨g, off + k * 4 + j, none⟩ = some u := fun j u hu => by
        have := h1 j u hu
        rw [hplain, ← Nat.add_assoc] at this
        exact this
      exact ⟨g, off, rfl, h2 0 _ rfl, h2 1 _ rfl, h2 2 _ rfl, h2 3 _ rfl⟩
    · have := bulk_len ((List.range len).map D)
      rw [hx.1]
      simp only [Rows.uptoBulk, List.length_map, List.length_range] at this ⊢
      omega
    · obtain ⟨i, hi, rfl⟩ := List.mem_map.1 hx2
      have hi := List.mem_range.1 hi
      have h2 := hbd i hi
      exact ⟨Nat.le_trans (hq i hi).2.1 h2, Nat.le_trans (hq i hi).2.2 h2⟩
set_option maxRecDepth 100000 in
set_option maxHeartbeats 1000000 in
theorem open_files {H : Type} {enc : TypeId × Value → H} {W : World} {b0 base : Nat} {spare : Nat → Bool} {held : Bool} {v : Value} {d : DataW H} {p : List MemPlace} (hv : Value.okWide Try.prog W .any b0 22 v) (h : DataW.Trod enc Try.prog W base spare held 22 v d p) :
    ∃ l : List (ByteArray × ByteArray), FRow W v l ∧ l.length ≤ Rows.uptoBulk d ∧ ∀ x ∈ l, x.1.size ≤ Rows.uptoBulk d ∧ x.2.size ≤ Rows.uptoBulk d := by
  obtain ⟨a0, len, cap, rfl⟩ := okWide_slice Try.underlying22 hv
  obtain ⟨fuel, hf⟩ := h
  rcases Deep.open_slice_pairs Try.underlying22 Try.underlying52 cellsFl rfl rfl cellsStr cellsStr hf with ⟨hcs, hx⟩ | ⟨a, len', cap', m, n', V0, V1, D0, D1, P0, P1, hcs, _, hl, hm, hz, hx, hcell⟩
  · simp only [Value.cells, List.cons.injEq, Value.slice.injEq, and_true] at hcs
    obtain ⟨rfl, rfl, rfl⟩ := hcs
    exact ⟨[], ⟨none, 0, rfl, fun k x hk => by simp at hk⟩, Nat.zero_le _, fun x hx => by cases hx⟩
  · simp only [Value.cells, List.cons.injEq, Value.slice.injEq, and_true] at hcs
    obtain ⟨rfl, rfl, rfl⟩ := hcs
    simp only [Prod.mk.injEq] at hx
    have hle : len ≤ m := by rw [hz]; split <;> omega
    have each : ∀ i, i < len → ∃ q : ByteArray × ByteArray, W.cell? (a.add (i * 2)) = some (.string q.1) ∧ W.cell? (a.add (i * 2 + 1)) = some (.string q.2) ∧ D0 i = .lit (.string q.1.data.toList) ∧ D1 i = .lit (.string q.2.data.toList) := by
      intro i hi
      obtain ⟨h1, h2, h3, h4⟩ := hcell i (by omega)
      obtain ⟨si, e1, e4, _⟩ := DataW.trod_string Try.underlying9 h3
      obtain ⟨ti, e2, e3, _⟩ := DataW.trod_string Try.underlying9 h4
      simp only [List.cons.injEq, and_true] at e1 e2
      simp only [Prod.mk.injEq] at e3 e4
      rw [e1] at h1
      rw [e2] at h2
      exact ⟨(si, ti), h1, h2, e4.1, e3.1⟩
    haveI : Inhabited (ByteArray × ByteArray) := ⟨(⟨#[]⟩, ⟨#[]⟩)⟩
    obtain ⟨q, hq⟩ := Deep.choose_lt each
    have hbd : ∀ i, i < len → (q i).1.size ≤ Rows.uptoBulk d ∧ (q i).2.size ≤ Rows.uptoBulk d := fun i hi => by
      have h1 := bulk_in (DataW.agg [D0 i, D1 i]) ((List.range len).map fun i => DataW.agg [D0 i, D1 i]) (List.mem_map.2 ⟨i, List.mem_range.2 hi, rfl⟩)
      have h2 : (q i).1.size ≤ Rows.uptoBulk (D0 i) := by
        rw [(hq i hi).2.2.1]
        simp only [Rows.uptoBulk]
        rw [show (q i).1.data.toList.length = (q i).1.size from rfl]
        omega
      have h3 : (q i).2.size ≤ Rows.uptoBulk (D1 i) := by
        rw [(hq i hi).2.2.2]
        simp only [Rows.uptoBulk]
        rw [show (q i).2.data.toList.length = (q i).2.size from rfl]
        omega
      rw [hx.1]
      simp only [Rows.uptoBulk, Rows.uptoBulkAll] at h1 ⊢
      omega
    refine ⟨(List.range len).map q, ⟨some a, cap, by simp, fun k x hk => ?_⟩, ?_, fun x hx2 => ?_⟩
    · have hk1 : k < len := by
        have := (List.getElem?_eq_some_iff.1 hk).1
        simpa using this
      rw [List.getElem?_map, List.getElem?_range hk1] at hk
      obtain rfl : q k = x := by simpa using hk
      obtain ⟨h1, h2, _⟩ := hq k hk1
      have h0 := (hq 0 (by omega)).1
      obtain ⟨g, off, sp⟩ := a
      obtain rfl : sp = none := spot_none (by rw [Nat.zero_mul] at h0; exact h0)
      have hplain : ∀ j, (⟨g, off, none⟩ : Addr).add j = ⟨g, off + j, none⟩ := fun j => by unfold Addr.add; split <;> simp_all
      rw [hplain] at h1 h2
      exact ⟨g, off, rfl, h1, by rw [Nat.add_assoc]; exact h2⟩
    · have := bulk_len ((List.range len).map fun i => DataW.agg [D0 i, D1 i])
      rw [hx.1]
      simp only [Rows.uptoBulk, List.length_map, List.length_range] at this ⊢
      omega
    · obtain ⟨i, hi, rfl⟩ := List.mem_map.1 hx2
      exact hbd i (List.mem_range.1 hi)
end Go.Proofs.Ytbibfpgcnmocjaa
