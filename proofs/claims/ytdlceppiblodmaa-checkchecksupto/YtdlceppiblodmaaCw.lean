/- CheckChecks: an argument that is a list of commands. -/
import Derived.Test.YtdlceppiblodmaaCv
import Derived.Test.YtdlceppiblodmaaCo
import Derived.Deep.SlicePairs
namespace Go.Proofs.Ytdlceppiblodmaa
open Go.ChangeShapes Go.WideShapes Go.RowKit
open chkP

theorem bulk_in {H : Type} (d : DataW H) : ∀ ds : List (DataW H), d ∈ ds → Rows.uptoBulk d ≤ Rows.uptoBulkAll ds
  | [], h => by cases h
  | x :: r, h => by
    simp only [Rows.uptoBulkAll]
    rcases List.mem_cons.1 h with rfl | h
    · omega
    · have := bulk_in d r h
      omega
theorem bulk_pos {H : Type} (d : DataW H) : 1 ≤ Rows.uptoBulk d := by
  cases d with
  | lit l => cases l <;> simp [Rows.uptoBulk]
  | _ => simp [Rows.uptoBulk]
theorem bulk_len {H : Type} : ∀ ds : List (DataW H), ds.length ≤ Rows.uptoBulkAll ds
  | [] => Nat.zero_le _
  | x :: r => by
    have h1 := bulk_pos x
    have h2 := bulk_len r
    simp only [Rows.uptoBulkAll, List.length_cons]
    omega
theorem cellsInt : Try.prog.cellsOf 3 = 1 := by kernel_rfl
theorem cellsByte : Try.prog.cellsOf 5 = 1 := by kernel_rfl
theorem cellsBool : Try.prog.cellsOf 4 = 1 := by kernel_rfl
theorem cellsStr : Try.prog.cellsOf 9 = 1 := by kernel_rfl
theorem cellsAdr : Try.prog.cellsOf 24 = 3 := by kernel_rfl
theorem cellsPts : Try.prog.cellsOf 25 = 1 := by kernel_rfl
theorem cellsPt : Try.prog.cellsOf 63 = 2 := by kernel_rfl
theorem cellsCmd : Try.prog.cellsOf 27 = 19 := by kernel_rfl

section
variable {H : Type} {enc : TypeId × Value → H} {W : World} {base : Nat} {spare : Nat → Bool} {held : Bool}
theorem adr_cells {n : Nat} {v1 v2 v3 : Value} {x : DataW H × List MemPlace} (h : DataW.trod enc Try.prog W base spare held n 24 [v1, v2, v3] = some x) : ∃ (k l : Int) (s : ByteArray), v1 = .int .i64 k ∧ v2 = .int .i64 l ∧ v3 = .string s := by
  obtain ⟨xs, m, _, _, _, hxl, hf⟩ := DataW.trod_struct Try.underlying24 h
  have hxl : xs.length = 3 := hxl
  have g0 : DataW.trod enc Try.prog W base spare held m 3 (([v1, v2, v3].drop 0).take (Try.prog.cellsOf 3)) = xs[0]? := hf 0 _ rfl
  rw [cellsInt, List.getElem?_eq_getElem (by omega)] at g0
  change DataW.trod enc Try.prog W base spare held m 3 [v1] = _ at g0
  have g1 : DataW.trod enc Try.prog W base spare held m 3 (([v1, v2, v3].drop 1).take (Try.prog.cellsOf 3)) = xs[1]? := hf 1 _ rfl
  rw [cellsInt, List.getElem?_eq_getElem (by omega)] at g1
  change DataW.trod enc Try.prog W base spare held m 3 [v2] = _ at g1
  have g2 : DataW.trod enc Try.prog W base spare held m 9 (([v1, v2, v3].drop 2).take (Try.prog.cellsOf 9)) = xs[2]? := hf 2 _ rfl
  rw [cellsStr, List.getElem?_eq_getElem (by omega)] at g2
  change DataW.trod enc Try.prog W base spare held m 9 [v3] = _ at g2
  obtain ⟨k, e0, _⟩ := DataW.trod_int Try.underlying3 g0
  obtain ⟨l, e1, _⟩ := DataW.trod_int Try.underlying3 g1
  obtain ⟨s, e2, _⟩ := DataW.trod_string Try.underlying9 g2
  simp only [List.cons.injEq, and_true] at e0 e1 e2
  exact ⟨k, l, s, e0, e1, e2⟩
theorem pts_cells {n : Nat} {v : Value} {x : DataW H × List MemPlace} (h : DataW.trod enc Try.prog W base spare held n 25 [v] = some x) : ∃ pa pn pc, v = .slice pa pn pc ∧ pn ≤ Rows.uptoBulk x.1 ∧ ∀ i : Nat, i < pn → ∃ g o gi ti, pa = some ⟨g, o, none⟩ ∧ W.cell? ⟨g, o + i * 2, none⟩ = some (.int .i64 gi) ∧ W.cell? ⟨g, o + i * 2 + 1, none⟩ = some (.string ti) := by
  rcases Deep.open_slice_pairs Try.underlying25 Try.underlying63 cellsPt rfl rfl cellsInt cellsStr h with ⟨hcs, rfl⟩ | ⟨a, len, cap, m, n', V0, V1, D0, D1, P0, P1, hcs, _, hl, hm, hz, rfl, hcell⟩
  · simp only [List.cons.injEq, and_true] at hcs
    exact ⟨none, 0, 0, hcs, Nat.zero_le _, fun i hi => by omega⟩
  · simp only [List.cons.injEq, and_true] at hcs
    have hle : len ≤ m := by rw [hz]; split <;> omega
    have hb := bulk_len ((List.range len).map fun i => DataW.agg [D0 i, D1 i])
    refine ⟨some a, len, cap, hcs, ?_, fun i hi => ?_⟩
    · simp only [Rows.uptoBulk]
      rw [List.length_map, List.length_range] at hb
      omega
    · obtain ⟨h1, h2, h3, h4⟩ := hcell i (by omega)
      obtain ⟨h01, _⟩ := hcell 0 (by omega)
      obtain ⟨gi, e1, _⟩ := DataW.trod_int Try.underlying3 h3
      obtain ⟨ti, e2, _⟩ := DataW.trod_string Try.underlying9 h4
      simp only [List.cons.injEq, and_true] at e1 e2
      obtain ⟨g, off, sp⟩ := a
      obtain rfl : sp = none := spot_none (by rw [Nat.zero_mul] at h01; exact h01)
      have hplain : ∀ k, (⟨g, off, none⟩ : Addr).add k = ⟨g, off + k, none⟩ := fun k => by unfold Addr.add; split <;> simp_all
      rw [hplain, e1] at h1
      rw [hplain, e2] at h2
      exact ⟨g, off, gi, ti, rfl, h1, by rw [Nat.add_assoc]; exact h2⟩

theorem cmd_cells {n : Nat} {cs : List Value} {x : DataW H × List MemPlace} (h : DataW.trod enc Try.prog W base spare held n 27 cs = some x) : ∃ p : Cm × Rst, cs = cmV p.1 p.2 ∧ PtOk W p.2 ∧ p.2.pn ≤ Rows.uptoBulk x.1 ∧ p.1.lb.length ≤ Rows.uptoBulk x.1 := by
  obtain ⟨xs, m, _, hx, hcl, hxl, hf⟩ := DataW.trod_struct Try.underlying27 h
  have hxl : xs.length = 15 := hxl
  rw [cellsCmd] at hcl
  match cs, hcl with
  | [v0, v1, v2, v3, v4, v5, v6, v7, v8, v9, v10, v11, v12, v13, v14, v15, v16, v17, v18], _ =>
  have g0 : DataW.trod enc Try.prog W base spare held m 3 (([v0, v1, v2, v3, v4, v5, v6, v7, v8, v9, v10, v11, v12, v13, v14, v15, v16, v17, v18].drop 0).take (Try.prog.cellsOf 3)) = xs[0]? := hf 0 _ rfl
  rw [cellsInt, List.getElem?_eq_getElem (by omega)] at g0
  change DataW.trod enc Try.prog W base spare held m 3 [v0] = _ at g0
  have g1 : DataW.trod enc Try.prog W base spare held m 24 (([v0, v1, v2, v3, v4, v5, v6, v7, v8, v9, v10, v11, v12, v13, v14, v15, v16, v17, v18].drop 1).take (Try.prog.cellsOf 24)) = xs[1]? := hf 1 _ rfl
  rw [cellsAdr, List.getElem?_eq_getElem (by omega)] at g1
  change DataW.trod enc Try.prog W base spare held m 24 [v1, v2, v3] = _ at g1
  have g2 : DataW.trod enc Try.prog W base spare held m 24 (([v0, v1, v2, v3, v4, v5, v6, v7, v8, v9, v10, v11, v12, v13, v14, v15, v16, v17, v18].drop 4).take (Try.prog.cellsOf 24)) = xs[2]? := hf 2 _ rfl
  rw [cellsAdr, List.getElem?_eq_getElem (by omega)] at g2
  change DataW.trod enc Try.prog W base spare held m 24 [v4, v5, v6] = _ at g2
  have g3 : DataW.trod enc Try.prog W base spare held m 4 (([v0, v1, v2, v3, v4, v5, v6, v7, v8, v9, v10, v11, v12, v13, v14, v15, v16, v17, v18].drop 7).take (Try.prog.cellsOf 4)) = xs[3]? := hf 3 _ rfl
  rw [cellsBool, List.getElem?_eq_getElem (by omega)] at g3
  change DataW.trod enc Try.prog W base spare held m 4 [v7] = _ at g3
  have g4 : DataW.trod enc Try.prog W base spare held m 5 (([v0, v1, v2, v3, v4, v5, v6, v7, v8, v9, v10, v11, v12, v13, v14, v15, v16, v17, v18].drop 8).take (Try.prog.cellsOf 5)) = xs[4]? := hf 4 _ rfl
  rw [cellsByte, List.getElem?_eq_getElem (by omega)] at g4
  change DataW.trod enc Try.prog W base spare held m 5 [v8] = _ at g4
  have g5 : DataW.trod enc Try.prog W base spare held m 9 (([v0, v1, v2, v3, v4, v5, v6, v7, v8, v9, v10, v11, v12, v13, v14, v15, v16, v17, v18].drop 9).take (Try.prog.cellsOf 9)) = xs[5]? := hf 5 _ rfl
  rw [cellsStr, List.getElem?_eq_getElem (by omega)] at g5
  change DataW.trod enc Try.prog W base spare held m 9 [v9] = _ at g5
  have g6 : DataW.trod enc Try.prog W base spare held m 9 (([v0, v1, v2, v3, v4, v5, v6, v7, v8, v9, v10, v11, v12, v13, v14, v15, v16, v17, v18].drop 10).take (Try.prog.cellsOf 9)) = xs[6]? := hf 6 _ rfl
  rw [cellsStr, List.getElem?_eq_getElem (by omega)] at g6
  change DataW.trod enc Try.prog W base spare held m 9 [v10] = _ at g6
  have g7 : DataW.trod enc Try.prog W base spare held m 9 (([v0, v1, v2, v3, v4, v5, v6, v7, v8, v9, v10, v11, v12, v13, v14, v15, v16, v17, v18].drop 11).take (Try.prog.cellsOf 9)) = xs[7]? := hf 7 _ rfl
  rw [cellsStr, List.getElem?_eq_getElem (by omega)] at g7
  change DataW.trod enc Try.prog W base spare held m 9 [v11] = _ at g7
  have g8 : DataW.trod enc Try.prog W base spare held m 9 (([v0, v1, v2, v3, v4, v5, v6, v7, v8, v9, v10, v11, v12, v13, v14, v15, v16, v17, v18].drop 12).take (Try.prog.cellsOf 9)) = xs[8]? := hf 8 _ rfl
  rw [cellsStr, List.getElem?_eq_getElem (by omega)] at g8
  change DataW.trod enc Try.prog W base spare held m 9 [v12] = _ at g8
  have g9 : DataW.trod enc Try.prog W base spare held m 25 (([v0, v1, v2, v3, v4, v5, v6, v7, v8, v9, v10, v11, v12, v13, v14, v15, v16, v17, v18].drop 13).take (Try.prog.cellsOf 25)) = xs[9]? := hf 9 _ rfl
  rw [cellsPts, List.getElem?_eq_getElem (by omega)] at g9
  change DataW.trod enc Try.prog W base spare held m 25 [v13] = _ at g9
  have g10 : DataW.trod enc Try.prog W base spare held m 3 (([v0, v1, v2, v3, v4, v5, v6, v7, v8, v9, v10, v11, v12, v13, v14, v15, v16, v17, v18].drop 14).take (Try.prog.cellsOf 3)) = xs[10]? := hf 10 _ rfl
  rw [cellsInt, List.getElem?_eq_getElem (by omega)] at g10
  change DataW.trod enc Try.prog W base spare held m 3 [v14] = _ at g10
  have g11 : DataW.trod enc Try.prog W base spare held m 4 (([v0, v1, v2, v3, v4, v5, v6, v7, v8, v9, v10, v11, v12, v13, v14, v15, v16, v17, v18].drop 15).take (Try.prog.cellsOf 4)) = xs[11]? := hf 11 _ rfl
  rw [cellsBool, List.getElem?_eq_getElem (by omega)] at g11
  change DataW.trod enc Try.prog W base spare held m 4 [v15] = _ at g11
  have g12 : DataW.trod enc Try.prog W base spare held m 4 (([v0, v1, v2, v3, v4, v5, v6, v7, v8, v9, v10, v11, v12, v13, v14, v15, v16, v17, v18].drop 16).take (Try.prog.cellsOf 4)) = xs[12]? := hf 12 _ rfl
  rw [cellsBool, List.getElem?_eq_getElem (by omega)] at g12
  change DataW.trod enc Try.prog W base spare held m 4 [v16] = _ at g12
  have g13 : DataW.trod enc Try.prog W base spare held m 9 (([v0, v1, v2, v3, v4, v5, v6, v7, v8, v9, v10, v11, v12, v13, v14, v15, v16, v17, v18].drop 17).take (Try.prog.cellsOf 9)) = xs[13]? := hf 13 _ rfl
  rw [cellsStr, List.getElem?_eq_getElem (by omega)] at g13
  change DataW.trod enc Try.prog W base spare held m 9 [v17] = _ at g13
  have g14 : DataW.trod enc Try.prog W base spare held m 9 (([v0, v1, v2, v3, v4, v5, v6, v7, v8, v9, v10, v11, v12, v13, v14, v15, v16, v17, v18].drop 18).take (Try.prog.cellsOf 9)) = xs[14]? := hf 14 _ rfl
  rw [cellsStr, List.getElem?_eq_getElem (by omega)] at g14
  change DataW.trod enc Try.prog W base spare held m 9 [v18] = _ at g14
  obtain ⟨pl, e0, _⟩ := DataW.trod_int Try.underlying3 g0
  obtain ⟨ak, al, ar, e1, e2, e3⟩ := adr_cells g1
  obtain ⟨bk, bl, br, e4, e5, e6⟩ := adr_cells g2
  obtain ⟨nt, e7, _⟩ := DataW.trod_bool Try.underlying4 g3
  obtain ⟨nm, e8, _, hnm⟩ := DataW.trod_int Try.underlying5 g4
  obtain ⟨lb, e9, ex9, _⟩ := DataW.trod_string Try.underlying9 g5
  obtain ⟨tx, e10, _⟩ := DataW.trod_string Try.underlying9 g6
  obtain ⟨fl, e11, _⟩ := DataW.trod_string Try.underlying9 g7
  obtain ⟨re, e12, _⟩ := DataW.trod_string Try.underlying9 g8
  obtain ⟨pa, pn, pc, e13, hpn, hpt⟩ := pts_cells g9
  obtain ⟨nh, e14, _⟩ := DataW.trod_int Try.underlying3 g10
  obtain ⟨an, e15, _⟩ := DataW.trod_bool Try.underlying4 g11
  obtain ⟨pr, e16, _⟩ := DataW.trod_bool Try.underlying4 g12
  obtain ⟨fr, e17, _⟩ := DataW.trod_string Try.underlying9 g13
  obtain ⟨tt, e18, _⟩ := DataW.trod_string Try.underlying9 g14
  simp only [List.cons.injEq, and_true] at e0 e7 e8 e9 e10 e11 e12 e14 e15 e16 e17 e18
  have hb := bounds_u8 hnm
  obtain ⟨q, rfl⟩ : ∃ q : UInt8, nm = ((q.toNat : Nat) : Int) := ⟨nm.toNat.toUInt8, by rw [UInt8.toNat_ofNat']; omega⟩
  obtain ⟨lb', rfl⟩ : ∃ t : List UInt8, lb = ⟨t.toArray⟩ := ⟨lb.data.toList, by cases lb; simp⟩
  have hm : ∀ i (hi : i < xs.length), Rows.uptoBulk (xs[i]'hi).1 ≤ Rows.uptoBulk x.1 := fun i hi => by
    have := bulk_in (xs[i]'hi).1 (xs.map (·.1)) (List.mem_map.2 ⟨_, List.getElem_mem hi, rfl⟩)
    rw [hx]
    simp only [Rows.uptoBulk]
    omega
  refine ⟨(⟨pl, ak, bk, nt, q, lb'⟩, ⟨al, ar, bl, br, tx, fl, re, pa, pn, pc, nh, an, pr, fr, tt⟩), ?_, hpt, Nat.le_trans hpn (hm 9 (by omega)), ?_⟩
  · rw [e0, e1, e2, e3, e4, e5, e6, e7, e8, e9, e10, e11, e12, e13, e14, e15, e16, e17, e18]
    rfl
  · have := hm 5 (by omega)
    rw [ex9] at this
    simp only [Rows.uptoBulk] at this
    have h2 : lb'.length + 1 ≤ Rows.uptoBulk x.1 := this
    show lb'.length ≤ _
    omega
end

theorem open_cmds {H : Type} {enc : TypeId × Value → H} {W : World} {b0 base : Nat} {spare : Nat → Bool} {held : Bool} {v : Value} {d : DataW H} {p : List MemPlace} (hv : Value.okWide Try.prog W .any b0 22 v) (h : DataW.Trod enc Try.prog W base spare held 22 v d p) :
    ∃ l : List (Cm × Rst), (Rows.uptoBulk d ≤ 1000000000000000 → FRow W v l ∧ (∀ p ∈ l, PtOk W p.2 ∧ p.2.pn ≤ 1000000000000000)) ∧ l.length ≤ Rows.uptoBulk d ∧ (v = .slice none 0 0 ∨ ∃ ad n c, v = .slice (some ad) n c) := by
  obtain ⟨a0, len, cap, rfl⟩ := okWide_slice Try.underlying22 hv
  obtain ⟨fuel, hf⟩ := h
  rcases Deep.open_slice Try.underlying22 hf with ⟨hcs, hx⟩ | ⟨a, len', cap', m, n, D, Pl, hcs, _, hl, hm, hz, hx, hcell⟩
  · simp only [Value.cells, List.cons.injEq, Value.slice.injEq, and_true] at hcs
    obtain ⟨rfl, rfl, rfl⟩ := hcs
    exact ⟨[], fun _ => ⟨⟨none, 0, rfl, fun k x hk => by simp at hk⟩, fun p hp => by cases hp⟩, Nat.zero_le _, .inl rfl⟩
  · simp only [Value.cells, List.cons.injEq, Value.slice.injEq, and_true] at hcs
    obtain ⟨rfl, rfl, rfl⟩ := hcs
    simp only [Prod.mk.injEq] at hx
    have hle : len ≤ m := by rw [hz]; split <;> omega
    have each : ∀ i, i < len → ∃ q : Cm × Rst, (∀ j u, (cmV q.1 q.2)[j]? = some u → W.cell? (a.add (i * 19 + j)) = some u) ∧ PtOk W q.2 ∧ q.2.pn ≤ Rows.uptoBulk (D i) ∧ q.1.lb.length ≤ Rows.uptoBulk (D i) := by
      intro i hi
      obtain ⟨cs', h1, h2⟩ := hcell i (by omega)
      obtain ⟨q, rfl, hq2, hq3, hq4⟩ := cmd_cells h2
      refine ⟨q, fun j u hu => ?_, hq2, hq3, hq4⟩
      rw [cellsCmd] at h1
      obtain ⟨_, _, hc⟩ := World.cells?_some h1
      have hj : j < 19 := by rw [← cmV_len q.1 q.2]; exact (List.getElem?_eq_some_iff.1 hu).1
      have := hc j hj
      rw [Deep.add_add] at this
      rw [this, hu]
    haveI : Inhabited (Cm × Rst) := ⟨(cm 0 0, rst0)⟩
    obtain ⟨q, hq⟩ := Deep.choose_lt each
    have hbd : ∀ i, i < len → Rows.uptoBulk (D i) ≤ Rows.uptoBulk d := fun i hi => by
      have := bulk_in (D i) ((List.range len).map D) (List.mem_map.2 ⟨i, List.mem_range.2 hi, rfl⟩)
      rw [hx.1]
      simp only [Rows.uptoBulk]
      omega
    refine ⟨(List.range len).map q, fun hbk => ⟨⟨some a, cap, by simp, fun k x hk => ?_⟩, fun x hx2 => ?_⟩, ?_, .inr ⟨_, _, _, rfl⟩⟩
    · have hk1 : k < len := by
        have := (List.getElem?_eq_some_iff.1 hk).1
        simpa using this
      rw [List.getElem?_map, List.getElem?_range hk1] at hk
      obtain rfl : q k = x := by simpa using hk
      have h1 := (hq k hk1).1
      have h0 := (hq 0 (by omega)).1 0 _ rfl
      obtain ⟨g, off, sp⟩ := a
      obtain rfl : sp = none := spot_none (by rw [Nat.zero_mul] at h0; exact h0)
      have hplain : ∀ j, (⟨g, off, none⟩ : Addr).add j = ⟨g, off + j, none⟩ := fun j => by unfold Addr.add; split <;> simp_all
      refine ⟨g, off, rfl, fun j u hu => ?_, ?_⟩
      · have := h1 j u hu
        rw [hplain, ← Nat.add_assoc] at this
        exact this
      · have := (hq k hk1).2.2.2
        have := hbd k hk1
        omega
    · obtain ⟨i, hi, rfl⟩ := List.mem_map.1 hx2
      have hi := List.mem_range.1 hi
      have h1 := (hq i hi).2.2.1
      have h2 := hbd i hi
      exact ⟨(hq i hi).2.1, by omega⟩
    · have := bulk_len ((List.range len).map D)
      rw [hx.1]
      simp only [Rows.uptoBulk, List.length_map, List.length_range] at this ⊢
      omega
end Go.Proofs.Ytdlceppiblodmaa
