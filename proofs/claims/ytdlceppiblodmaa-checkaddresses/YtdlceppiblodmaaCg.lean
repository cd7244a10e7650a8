/- check: label. -/
import Derived.Test.YtdlceppiblodmaaCf
namespace Go.Proofs.Ytdlceppiblodmaa
open Go.RowKit
open chkP

/-- A command's label is one that may stand here. -/
def labF (D : DataW Unit) (s : List UInt8) : Bool := decide (s = []) || decide (32 < s.length) || Maps.has D (.string s)
/-- What label leaves. -/
def LabPost (W : World) (B m mb : Nat) (v : Value) (st : List Int) (D : DataW Unit) (n : Nat) (s : List UInt8) (e : Ending) (w' : World) : Prop :=
  Below B W w' ∧ if labF D s = true then e = .returned (.int .i64 22) ∧ Sof w' B m mb v st D n else e = .returned (.int .i64 0) ∧ Sof w' B m mb v st (D.put (.string s) (.agg [])) (n + 1)
theorem LabPost.bad {W w' : World} {B m mb : Nat} {v : Value} {st : List Int} {D : DataW Unit} {n : Nat} {s : List UInt8} (hl : labF D s = true) (hb : Below B W w') (h : Sof w' B m mb v st D n) : LabPost W B m mb v st D n s (.returned (.int .i64 22)) w' := ⟨hb, by rw [if_pos hl]; exact ⟨rfl, h⟩⟩
theorem LabPost.good {W w' : World} {B m mb : Nat} {v : Value} {st : List Int} {D : DataW Unit} {n : Nat} {s : List UInt8} (hl : ¬ labF D s = true) (hb : Below B W w') (h : Sof w' B m mb v st (D.put (.string s) (.agg [])) (n + 1)) : LabPost W B m mb v st D n s (.returned (.int .i64 0)) w' := ⟨hb, by rw [if_neg hl]; exact ⟨rfl, h⟩⟩
theorem str_nil (s : List UInt8) : ((⟨s.toArray⟩ : ByteArray) == ⟨#[]⟩) = decide (s = []) := by
  by_cases h : s = []
  · subst h
    rfl
  · rw [decide_eq_false h]
    cases s with
    | nil => exact absurd rfl h
    | cons a l => rfl

theorem update_skip {P : Program} {o : Oper} {t : TypeId} {m x v : Operand} {ev : Operand → Value} {mv kv vv : Value} {V V' : World} (ho : o.op = .mapUpdate t m x v) (hm : ev m = mv) (hx : ev x = kv) (hv : ev v = vv) (h : (Instr.mapUpdate t mv kv vv).run P V = .ok () V') : (execOp ev o).run P V = .ok .skip V' := by
  simp [execOp, ho, hm, hx, hv, h, Result.andThen]
set_option maxRecDepth 100000 in
set_option maxHeartbeats 4000000 in
theorem label_any {W : World} {B m mb : Nat} {v : Value} {st : List Int} {D : DataW Unit} {n : Nat} (h : Sof W B m mb v st D n) (hB : B ≤ W.heap.size) (hn : n < 1000000000000) (g o : Nat) (s : List UInt8) (hs : s.length ≤ 1000000000000000) (hgB : g < B) (cl : W.cell? ⟨g, o + 9, none⟩ = some (.string ⟨s.toArray⟩)) : Calls Try.prog 22 #[.pointer (some ⟨m, 0, none⟩), .pointer (some ⟨g, o, none⟩)] W fun e w' => LabPost W B m mb v st D n s e w' := by
  have HH := hideT h
  have c1 := h.c1
  have HL := hideT (fun (V : World) (hV : Below W.heap.size W V) => sof_look h (hV.block mb h.mblt) s (by unfold maxLen; omega))
  have HC1 := hideT (fun (V : World) (hV : Below W.heap.size W V) => keep_cell hV c1)
  have HCL := hideT (fun (V : World) (hV : Below W.heap.size W V) => keep_cell hV cl)
  obtain ⟨b, hb⟩ : ∃ b, b = Maps.has D (.string s) := ⟨_, rfl⟩
  rw [← hb] at HL
  have HLB := hideT hb
  have HSS := hideT hs
  have HNN := hideT hn
  have HBB := hideT hB
  have HG := hideT hgB
  have s0 : Below W.heap.size W W.drew := (Below.refl _ _).drew
  clear h hb hs hn hB hgB
  go_enter Try.func22, Try.ntmps22
  go_wp2_with fail
  refine wp_region_held (S := fun V => Below W.heap.size W V) (by kernel_rfl) ?_
  refine' take_d 0 (some 8) rfl rfl (by kernel_rfl) (by kernel_rfl) (by kernel_rfl) (fun _ _ _ h => h) (wanted_none rfl _) s0 ?tk1 ?rs1
  case tk1 => intro V hV; go_simp; (try with_reducible rfl)
  refine' take_d 1 (some 9) rfl rfl (by kernel_rfl) (by kernel_rfl) (by kernel_rfl) (fun _ _ _ h => h) (wanted_none rfl _) s0 ?tk2 ?rs2
  case tk2 => intro V hV; go_simp; (try with_reducible rfl)
  refine' take_d 2 (some 10) rfl rfl (by kernel_rfl) (by kernel_rfl) (by kernel_rfl) (fun _ _ _ h => h) (wanted_none rfl _) s0 ?tk3 ?rs3
  case tk3 => intro V hV; go_simp; (try with_reducible rfl)
  refine' take_d 3 (some 11) rfl rfl (by kernel_rfl) (by kernel_rfl) (by kernel_rfl) (fun _ _ _ h => h) (wanted_none rfl _) s0 ?tk4 ?rs4
  case tk4 => intro V hV; have hc := HC1.out V hV; go_simp; (try with_reducible rfl)
  refine' take_d 4 (some 12) rfl rfl (by kernel_rfl) (by kernel_rfl) (by kernel_rfl) (fun _ _ _ h => h) (wanted_none rfl _) s0 ?tk5 ?rs5
  case tk5 => intro V hV; go_simp; (try with_reducible rfl)
  refine' take_d 5 (some 13) rfl rfl (by kernel_rfl) (by kernel_rfl) (by kernel_rfl) (fun _ _ _ h => h) (wanted_none rfl _) s0 ?tk6 ?rs6
  case tk6 => intro V hV; go_simp; (try with_reducible rfl)
  refine' take_d 6 (some 14) rfl rfl (by kernel_rfl) (by kernel_rfl) (by kernel_rfl) (fun _ _ _ h => h) (wanted_none rfl _) s0 ?tk7 ?rs7
  case tk7 => intro V hV; go_simp; (try with_reducible rfl)
  refine' take_d 7 (some 15) rfl rfl (by kernel_rfl) (by kernel_rfl) (by kernel_rfl) (fun _ _ _ h => h) (wanted_none rfl _) s0 ?tk8 ?rs8
  case tk8 => intro V hV; have hc := HCL.out V hV; go_simp; (try with_reducible rfl)
  simp only [Act.put, List.setIfInBounds_toArray, List.set_cons_zero, List.set_cons_succ]
  refine' take_d 8 (some 16) rfl rfl (by kernel_rfl) (by kernel_rfl) (by kernel_rfl) (fun _ _ _ h => h) (wanted_none rfl _) s0 ?tk9 ?rs9
  case tk9 => intro V hV; exact look_yield rfl rfl rfl (HL.out V hV)
  refine' take_d 9 (some 7) rfl rfl (by kernel_rfl) (by kernel_rfl) (by kernel_rfl) (fun _ _ _ h => h) (wanted_none rfl _) s0 ?tk10 ?rs10
  case tk10 => intro V hV; go_simp; (try with_reducible rfl)
  refine' take_d 10 (some 17) rfl rfl (by kernel_rfl) (by kernel_rfl) (by kernel_rfl) (fun _ _ _ h => h) (wanted_none rfl _) s0 ?tk11 ?rs11
  case tk11 => intro V hV; go_simp; (try with_reducible rfl)
  refine' take_d 11 (some 18) rfl rfl (by kernel_rfl) (by kernel_rfl) (by kernel_rfl) (fun _ _ _ h => h) (wanted_none rfl _) s0 ?tk12 ?rs12
  case tk12 => intro V hV; go_simp; (try with_reducible rfl)
  refine wpAnyH_all (rs := [12]) (by kernel_rfl) (by simp) (fun i hi => ?_)
  obtain rfl : i = 12 := List.mem_singleton.1 hi
  have s1 : Below W.heap.size W (W.drew.alloc (.cells #[] 58)) := s0.alloc (Nat.le_refl _) _
  refine op_value (some 5) (v := .pointer (some ⟨W.heap.size, 0, none⟩)) (w' := W.drew.alloc (.cells #[] 58)) rfl rfl (wanted_none rfl _) (by go_simp; (try with_reducible rfl)) ?_
  refine And.intro s1 ?_
  simp only [Act.put, List.setIfInBounds_toArray, List.set_cons_zero, List.set_cons_succ]
  refine wpAnyH_all (rs := [13]) (by kernel_rfl) (by simp) (fun i hi => ?_)
  obtain rfl : i = 13 := List.mem_singleton.1 hi
  refine op_skip (w' := W.drew.alloc (.cells #[] 58)) rfl rfl (wanted_none rfl _) (by go_simp; (try with_reducible rfl)) ?_
  refine And.intro s1 ?_
  refine' take_d 14 (some 6) rfl rfl (by kernel_rfl) (by kernel_rfl) (by kernel_rfl) (fun _ _ _ h => h) (wanted_none rfl _) s1 ?tk13 ?rs13
  case tk13 => intro V hV; go_simp; (try with_reducible rfl)
  refine wpAnyH_done (by kernel_rfl) ?_ _
  simp only [Act.put, List.setIfInBounds_toArray, List.set_cons_zero, List.set_cons_succ]
  obtain ⟨U, hU⟩ : ∃ U, U = W.drew.alloc (.cells #[] 58) := ⟨_, rfl⟩
  rw [← hU] at s1 ⊢
  have d1 := HC1.out U s1
  have dl := HCL.out U s1
  have HS1 := hideT s1
  clear hU s1 s0 c1 cl
  have HV := hideT (show labF D s = (decide (s = []) || decide (32 < s.length) || b) by rw [HLB.out]; rfl)
  have HSU := hideT (HH.out.step HS1.out)
  by_cases e1 : s = []
  · subst e1
    have HW := hideT (show labF D [] = true by rw [HV.out]; rfl)
    go_wp2
    go_ret
    exact LabPost.bad HW.out (HS1.out.mono HBB.out) HSU.out
  have e1' : (s = []) = False := by rw [eq_iff_iff, iff_false]; exact e1
  have e1'' : ((⟨s.toArray⟩ : ByteArray) == ⟨#[]⟩) = false := by rw [str_nil, decide_eq_false e1]
  by_cases e2 : 32 < s.length
  · have HE1 : s.isEmpty = false := by simpa using e1
    have HW := hideT (show labF D s = true by rw [HV.out, decide_eq_true e2]; simp)
    have e2' : (32 : Int) < (s.length : Int) := by omega
    clear e1 e2
    go_wp2
    go_ret
    exact LabPost.bad HW.out (HS1.out.mono HBB.out) HSU.out
  have HE1 : s.isEmpty = false := by simpa using e1
  have e2' : ((32 : Int) < (s.length : Int)) = False := by rw [eq_iff_iff, iff_false]; omega
  have e2'' : (32 < s.length) = False := by rw [eq_iff_iff, iff_false]; omega
  cases b with
  | true =>
    have HW := hideT (show labF D s = true by rw [HV.out]; simp)
    clear e1 e2
    go_wp2
    go_ret
    exact LabPost.bad HW.out (HS1.out.mono HBB.out) HSU.out
  | false =>
    have HW := hideT (show ¬ labF D s = true by rw [HV.out, decide_eq_false e1, decide_eq_false e2]; simp)
    clear e1 e2
    go_wp2_with fail
    have t0 : U.drew.cell? ⟨m, 1, none⟩ = some (.map (some mb)) ∧ U.drew.cell? ⟨g, o + 9, none⟩ = some (.string ⟨s.toArray⟩) := ⟨d1, dl⟩
    refine wp_region_held (S := fun V => V.cell? ⟨m, 1, none⟩ = some (.map (some mb)) ∧ V.cell? ⟨g, o + 9, none⟩ = some (.string ⟨s.toArray⟩)) (by kernel_rfl) ?_
    refine' take_d 0 (some 35) rfl rfl (by kernel_rfl) (by kernel_rfl) (by kernel_rfl) (fun _ _ _ h => h) (wanted_none rfl _) t0 ?tk14 ?rs14
    case tk14 => intro V hV; go_simp; (try with_reducible rfl)
    refine' take_d 1 (some 36) rfl rfl (by kernel_rfl) (by kernel_rfl) (by kernel_rfl) (fun _ _ _ h => h) (wanted_none rfl _) t0 ?tk15 ?rs15
    case tk15 => intro V hV; go_simp; (try with_reducible rfl)
    refine' take_d 2 (some 37) rfl rfl (by kernel_rfl) (by kernel_rfl) (by kernel_rfl) (fun _ _ _ h => h) (wanted_none rfl _) t0 ?tk16 ?rs16
    case tk16 => intro V hV; go_simp; (try with_reducible rfl)
    refine' take_d 3 (some 38) rfl rfl (by kernel_rfl) (by kernel_rfl) (by kernel_rfl) (fun _ _ _ h => h) (wanted_none rfl _) t0 ?tk17 ?rs17
    case tk17 => intro V hV; have hc := hV.1; go_simp; (try with_reducible rfl)
    refine' take_d 4 (some 39) rfl rfl (by kernel_rfl) (by kernel_rfl) (by kernel_rfl) (fun _ _ _ h => h) (wanted_none rfl _) t0 ?tk18 ?rs18
    case tk18 => intro V hV; go_simp; (try with_reducible rfl)
    refine' take_d 5 (some 40) rfl rfl (by kernel_rfl) (by kernel_rfl) (by kernel_rfl) (fun _ _ _ h => h) (wanted_none rfl _) t0 ?tk19 ?rs19
    case tk19 => intro V hV; go_simp; (try with_reducible rfl)
    refine' take_d 6 (some 41) rfl rfl (by kernel_rfl) (by kernel_rfl) (by kernel_rfl) (fun _ _ _ h => h) (wanted_none rfl _) t0 ?tk20 ?rs20
    case tk20 => intro V hV; go_simp; (try with_reducible rfl)
    refine' take_d 7 (some 42) rfl rfl (by kernel_rfl) (by kernel_rfl) (by kernel_rfl) (fun _ _ _ h => h) (wanted_none rfl _) t0 ?tk21 ?rs21
    case tk21 => intro V hV; have hc := hV.2; go_simp; (try with_reducible rfl)
    refine' take_d 8 (some 43) rfl rfl (by kernel_rfl) (by kernel_rfl) (by kernel_rfl) (fun _ _ _ h => h) (wanted_none rfl _) t0 ?tk22 ?rs22
    case tk22 => intro V hV; go_simp; (try with_reducible rfl)
    simp only [Act.put, List.setIfInBounds_toArray, List.set_cons_zero, List.set_cons_succ]
    refine wpAnyH_all (rs := [9]) (by kernel_rfl) (by simp) (fun i hi => ?_)
    obtain rfl : i = 9 := List.mem_singleton.1 hi
    obtain ⟨w2, hrun, hown, hgr⟩ := (HSU.out.step ((Below.refl _ U).drew)).map.update (Maps.string_keyed Try.underlying9) Try.underlying42 (by have := HNN.out; unfold maxLen; omega) (WideMaps.keyOf_string_mk Try.underlying9 (s := ⟨s.toArray⟩) (by have := HSS.out; unfold maxLen; show s.length ≤ _; omega)) (d := .agg []) (ps := []) unitElem_mk
    refine op_skip (w' := w2) rfl rfl (wanted_none rfl _) (update_skip rfl rfl rfl rfl hrun) ?_
    have hms := HSU.out.mlt
    have hap := HSU.out.apart
    have hgU : g < U.heap.size := World.block_lt_of_cell? U _ dl
    have hmb := HSU.out.hmb
    have hw2 : ∀ k, k < U.heap.size → k ≠ mb → w2.heap[k]? = U.heap[k]? := fun k hk hne => hgr.block k hk (fun e => hne (by cases e; rfl))
    have t1 : w2.cell? ⟨m, 1, none⟩ = some (.map (some mb)) ∧ w2.cell? ⟨g, o + 9, none⟩ = some (.string ⟨s.toArray⟩) := ⟨(World.cell?_of_block (hw2 m hms hap)).trans d1, (World.cell?_of_block (hw2 g hgU (by have := HG.out; omega))).trans dl⟩
    refine And.intro t1 ?_
    refine wpAnyH_done (by kernel_rfl) ?_ _
    simp only [Act.put]
    have HFB := hideT (show Below B W w2 from ((HS1.out.mono HBB.out).drew).trans (below_grown (W := U.drew) hgr (fun k hk => by cases hk; exact hmb) (show B ≤ U.heap.size from Nat.le_trans HBB.out HS1.out.size)))
    have HFS := hideT (show Sof w2 B m mb v st (D.put (.string s) (.agg [])) (n + 1) from ⟨HSU.out.hm, hmb, (hw2 m hms hap).trans HSU.out.blk, owns_keep HSU.out.own (fun k hk => hw2 k (HSU.out.rowNe hk).2.2.2 (HSU.out.rowNe hk).2.1), hown⟩)
    clear hms hap hgU hmb hw2 t1 t0 hrun hown hgr d1 dl
    go_wp2
    go_ret
    exact LabPost.good HW.out HFB.out HFS.out
end Go.Proofs.Ytdlceppiblodmaa
