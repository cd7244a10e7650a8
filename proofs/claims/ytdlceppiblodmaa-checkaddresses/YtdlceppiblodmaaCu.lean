/- check: the document's SameList of two copies of one list. -/
import Derived.Test.YtdlceppiblodmaaCt
namespace Go.Proofs.Ytdlceppiblodmaa
open Go.RowKit
open chkP

theorem op_call {P : Program} {ops : Array Oper} {Q : Exit → Act → World → Prop} {i : Nat} {o : Oper} {K : Act → World → Prop} {a : Act} {w : World} {f : FuncId} {args : Array Value} {R : Value → World → Prop} (d : Option Tmp) (hi : ops[i]? = some o) (hd : o.dst = d) (hw : Region.wanted o (yielded ops a.tmps) = true) (hx : (execOp a.eval o).run P w = .ok (.enter f args) w) (hc : Calls P f args w fun e w' => ∃ v, e = .returned v ∧ R v w') (h : ∀ v w', R v w' → K (a.put d v) w') : wpOp P ops Q i K a w := by
  unfold wpOp
  rw [hi]
  dsimp only
  rw [if_pos hw]
  refine .inl ?_
  unfold Oper.wp
  rw [hx]
  refine Calls.mono hc ?_
  rintro e w' ⟨v, rfl, hR⟩
  show K (a.put o.dst v) w'
  rw [hd]
  exact h v w' hR
theorem load_yield {g o : Nat} {c : Cm} {r : Rst} {V : World} {a : Act} {op : Oper} {x : Operand} (ho : op.op = .load 27 x) (hx : a.eval x = .pointer (some ⟨g, o, none⟩)) (h : V.rangeAt g o (cmV c r)) : (execOp a.eval op).run Try.prog V = .ok (.value (.agg (cmV c r).toArray)) V := by
  have h1 := run_loadAt_mid (P := Try.prog) V g o 27 (cmV c r) _ h und_cmd rfl (by rw [info_cmd]; rfl)
  simp [execOp, ho, hx, h1]

set_option maxRecDepth 100000 in
set_option maxHeartbeats 4000000 in
theorem sameList_any (a b : Value) (l : List (Cm × Rst)) (W : World) (ha : FRow W a l) (hb : FRow W b l) (hp : ∀ p ∈ l, PtOk W p.2 ∧ p.2.pn ≤ 1000000000000000) (hl : l.length ≤ 100000000) : Calls Try.prog 10 #[a, b, .bool true] W fun e w' => e = .returned (.bool true) ∧ Below W.heap.size W w' := by
  obtain ⟨pa, ca, rfl, ha⟩ := ha
  obtain ⟨pb, cb, rfl, hb⟩ := hb
  have HA := hideT ha
  have HB := hideT hb
  have HP := hideT hp
  clear ha hb hp
  go_enter Try.func10, Try.ntmps10
  go_wp2_with fail
  go_loopw [7] (fun i wr => ∃ k : Nat, k ≤ l.length ∧ i = .int .i64 k ∧ Hid (Below W.heap.size W wr)) (fun i _ => l.length - (intOf i).toNat)
  case atStart => exact ⟨0, by omega, rfl, hideT (Below.refl _ _)⟩
  case round =>
    obtain ⟨k, hk, rfl, HW⟩ := hrel
    by_cases hlt : k < l.length
    · obtain ⟨g, o, rfl, a1, _⟩ := HA.out k _ (List.getElem?_eq_getElem hlt)
      obtain ⟨g2, o2, rfl, b1, _⟩ := HB.out k _ (List.getElem?_eq_getElem hlt)
      have hpk := HP.out _ (List.getElem_mem hlt)
      generalize (l[k]'hlt) = p at *
      obtain ⟨x, r⟩ := p
      have i1 : (k : Int) < (l.length : Int) := by omega
      have i2 : (0 : Int) ≤ (k : Int) := by omega
      have q1 := range_keep a1 (HW.out.block g (range_lt a1))
      have q2 := range_keep b1 (HW.out.block g2 (range_lt b1))
      have HR1 := hideT (fun (V : World) (hV : Below wr.heap.size wr V) => range_keep q1 (hV.block g (range_lt q1)))
      have HR2 := hideT (fun (V : World) (hV : Below wr.heap.size wr V) => range_keep q2 (hV.block g2 (range_lt q2)))
      have s0 : Below wr.heap.size wr wr.drew := (Below.refl _ _).drew
      have HS := hideT (same_cmd x r wr.drew ((hpk.1.step HW.out).step s0) hpk.2)
      clear a1 b1 hpk q1 q2
      go_wp2_with fail
      refine wp_region_held (S := fun V => Below wr.heap.size wr V) (by kernel_rfl) ?_
      refine' take_d 0 (some 19) rfl rfl (by kernel_rfl) (by kernel_rfl) (by kernel_rfl) (fun _ _ _ h => h) (wanted_none rfl _) s0 ?tk1 ?rs1
      case tk1 => intro V hV; go_simp; (try with_reducible rfl)
      refine' take_d 1 (some 20) rfl rfl (by kernel_rfl) (by kernel_rfl) (by kernel_rfl) (fun _ _ _ h => h) (wanted_none rfl _) s0 ?tk2 ?rs2
      case tk2 => intro V hV; go_simp; (try with_reducible rfl)
      refine' take_d 2 (some 21) rfl rfl (by kernel_rfl) (by kernel_rfl) (by kernel_rfl) (fun _ _ _ h => h) (wanted_none rfl _) s0 ?tk3 ?rs3
      case tk3 => intro V hV; go_simp; (try with_reducible rfl)
      simp only [Act.put, List.setIfInBounds_toArray, List.set_cons_zero, List.set_cons_succ]
      refine' take_d 3 (some 22) rfl rfl (by kernel_rfl) (by kernel_rfl) (by kernel_rfl) (fun _ _ _ h => h) (wanted_none rfl _) s0 ?tk4 ?rs4
      case tk4 => intro V hV; exact load_yield rfl rfl (HR1.out V hV)
      refine' take_d 4 (some 23) rfl rfl (by kernel_rfl) (by kernel_rfl) (by kernel_rfl) (fun _ _ _ h => h) (wanted_none rfl _) s0 ?tk5 ?rs5
      case tk5 => intro V hV; go_simp; (try with_reducible rfl)
      refine' take_d 5 (some 24) rfl rfl (by kernel_rfl) (by kernel_rfl) (by kernel_rfl) (fun _ _ _ h => h) (wanted_none rfl _) s0 ?tk6 ?rs6
      case tk6 => intro V hV; go_simp; (try with_reducible rfl)
      refine' take_d 6 (some 25) rfl rfl (by kernel_rfl) (by kernel_rfl) (by kernel_rfl) (fun _ _ _ h => h) (wanted_none rfl _) s0 ?tk7 ?rs7
      case tk7 => intro V hV; go_simp; (try with_reducible rfl)
      simp only [Act.put, List.setIfInBounds_toArray, List.set_cons_zero, List.set_cons_succ]
      refine' take_d 7 (some 26) rfl rfl (by kernel_rfl) (by kernel_rfl) (by kernel_rfl) (fun _ _ _ h => h) (wanted_none rfl _) s0 ?tk8 ?rs8
      case tk8 => intro V hV; exact load_yield rfl rfl (HR2.out V hV)
      refine' take_d 8 (some 27) rfl rfl (by kernel_rfl) (by kernel_rfl) (by kernel_rfl) (fun _ _ _ h => h) (wanted_none rfl _) s0 ?tk9 ?rs9
      case tk9 => intro V hV; go_simp; (try with_reducible rfl)
      simp only [Act.put, List.setIfInBounds_toArray, List.set_cons_zero, List.set_cons_succ]
      refine wpAnyH_all (rs := [9]) (by kernel_rfl) (by simp) (fun i hi => ?_)
      obtain rfl : i = 9 := List.mem_singleton.1 hi
      refine op_call (some 28) rfl rfl (wanted_none rfl _) (by go_simp; (try with_reducible rfl)) (R := fun v w' => v = .bool true ∧ Below wr.heap.size wr w') (HS.out.mono (fun e w' h => ⟨_, h.1, rfl, s0.trans (h.2.mono s0.size)⟩)) ?_
      rintro v8 w8 ⟨rfl, hb8⟩
      refine And.intro hb8 ?_
      refine' take_d 10 (some 29) rfl rfl (by kernel_rfl) (by kernel_rfl) (by kernel_rfl) (fun _ _ _ h => h) (wanted_none rfl _) hb8 ?tk10 ?rs10
      case tk10 => intro V hV; go_simp; (try with_reducible rfl)
      refine wpAnyH_done (by kernel_rfl) ?_ _
      simp only [Act.put, List.setIfInBounds_toArray, List.set_cons_zero, List.set_cons_succ]
      have HF := hideT (HW.out.trans (hb8.mono HW.out.size))
      clear hb8 s0 HS HR1 HR2
      go_wp2
      exact ⟨⟨k + 1, by omega, by go_num, HF⟩, by simp [intOf]; omega⟩
    · obtain rfl : k = l.length := by omega
      have i1 : ((l.length : Int) < (l.length : Int)) = False := by rw [eq_iff_iff, iff_false]; omega
      go_wp2
      go_ret
      exact ⟨rfl, HW.out⟩
end Go.Proofs.Ytdlceppiblodmaa
