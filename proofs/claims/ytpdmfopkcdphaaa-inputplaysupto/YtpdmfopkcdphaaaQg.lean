/- input: InputPlays, from any program's queue. -/
import Derived.Test.YtpdmfopkcdphaaaQf
import Derived.OrdersHeld
import Derived.Deep.RegionHeld3
namespace Go.Proofs.Ytpdmfopkcdphaaa
open Go.RowKit

theorem start {I : World → (Nat → Prop) → Nat → Qs → Prop} (imp : Imp I) {W w2 w3 : World} {ib : Nat} (h : Fr I W w2 ib q0) (h3 : w3 = w2.alloc (.cells #[.slice none 0 0, .int .i64 0, .bool false] 28)) : Bo0 I w3 W.heap.size ib w2.heap.size q0 q0 ∧ Below W.heap.size W w3 := by
  subst h3
  obtain ⟨F, hI, h0, hF⟩ := h
  have hb : Below w2.heap.size w2 (w2.alloc (.cells #[.slice none 0 0, .int .i64 0, .bool false] 28)) := (Below.refl w2.heap.size w2).alloc (Nat.le_refl _) _
  refine ⟨⟨F, .slice none 0 0, imp.keep hI hb.size (fun k hk => hb.block k (imp.lt hI k hk)), ⟨h0.size, heap_alloc_new w2 _, ⟨by simp [q0, strV], .inl ⟨rfl, rfl⟩⟩⟩, fun k hk => ⟨hF k hk, fun hf => ?_⟩⟩, h0.trans (hb.mono h0.size)⟩
  have := imp.lt hI k hk
  rcases hf with e | e
  · omega
  · cases e

theorem op_value {P : Program} {ops : Array Oper} {Q : Exit → Act → World → Prop} {i : Nat} {o : Oper} {K : Act → World → Prop} {a : Act} {w w' : World} {v : Value} (d : Option Tmp) (hi : ops[i]? = some o) (hd : o.dst = d) (hw : Region.wanted o (yielded ops a.tmps) = true) (hx : (execOp a.eval o).run P w = .ok (.value v) w') (h : K (a.put d v) w') : wpOp P ops Q i K a w := by
  subst hd
  unfold wpOp
  rw [hi]
  dsimp only
  rw [if_pos hw]
  refine .inl ?_
  unfold Oper.wp
  rw [hx]
  exact h
theorem op_skip {P : Program} {ops : Array Oper} {Q : Exit → Act → World → Prop} {i : Nat} {o : Oper} {K : Act → World → Prop} {a : Act} {w w' : World} (hi : ops[i]? = some o) (hd : o.dst = none) (hw : Region.wanted o (yielded ops a.tmps) = true) (hx : (execOp a.eval o).run P w = .ok .skip w') (h : K (a.put none undef) w') : wpOp P ops Q i K a w := by
  rw [← hd] at h
  unfold wpOp
  rw [hi]
  dsimp only
  rw [if_pos hw]
  refine .inl ?_
  unfold Oper.wp
  rw [hx]
  exact h
theorem take_d {P : Program} {ops : Array Oper} {Q : Exit → Act → World → Prop} {S : World → Prop} {md : Region.Mode} (i : Nat) (d : Option Tmp) {oi : Oper} {v : Value} {fuel : Nat} {listed : Array Bool} {a : Act} {w : World} (hi : ops[i]? = some oi) (hd : oi.dst = d)
    (hs : Region.noSelect ops = true) (hf : Region.free md ops listed i = true) (hr : (Region.ready md ops listed).contains i = true)
    (hQ : ∀ c a w, Q (.panic c) (a.put d v) w → Q (.panic c) a w) (hw : Region.wanted oi (yielded ops a.tmps) = true) (hS : S w) (hy : ∀ w, S w → (execOp a.eval oi).run P w = .ok (.value v) w)
    (h : wpAnyH P md ops Q S fuel (listed.setIfInBounds i true) (a.put d v) w) : wpAnyH P md ops Q S (fuel + 1) listed a w := by
  subst hd
  exact wpAnyH_take hi hs hf hr hQ (Or.inl ⟨hw, hy⟩) hS h
theorem wanted_none {o : Oper} (h : o.guard = none) (y : Nat → Option Bool) : Region.wanted o y = true := by simp [Region.wanted, h]
theorem op_call {P : Program} {ops : Array Oper} {Q : Exit → Act → World → Prop} {i : Nat} {o : Oper} {K : Act → World → Prop} {a : Act} {w : World} {f : FuncId} {args : Array Value} {R : Value → World → Prop} (d : Option Tmp) (hi : ops[i]? = some o) (hd : o.dst = d) (hw : Region.wanted o (yielded ops a.tmps) = true) (hx : (execOp a.eval o).run P w = .ok (.enter f args) w) (hc : Calls P f args w fun e w' => ∃ v, e = .returned v ∧ R v w') (h : ∀ v w', R v w' → K (a.put d v) w') : wpOp P ops Q i K a w := by
  unfold wpOp
  rw [hi]
  dsimp only
  rw [if_pos hw]
  refine .inl ?_
  unfold Oper.wp
  rw [hx]
  refine Calls.mono hc ?_
  rintro e w' ⟨v, rfl, hR⟩
  show K (a.put o.dst v) w'
  rw [hd]
  exact h v w' hR
/-- Both queues and the call that is played, as they lie. -/
structure St (I : World → (Nat → Prop) → Nat → Qs → Prop) (W W1 : World) (B ib rb ob : Nat) (kd : Int) (s : ByteArray) (qi qd : Qs) : Prop where
  bo : Bo I W1 B ib rb ob qi qd
  oc : W1.heap[ob]? = some (.cells #[.int .i64 kd, .string s] 30 (0, 0))
  bl : Below B W W1
theorem St.line {I : World → (Nat → Prop) → Nat → Qs → Prop} {W W1 : World} {B ib rb ob : Nat} {kd : Int} {s : ByteArray} {qi qd : Qs} (h : St I W W1 B ib rb ob kd s qi qd) : W1.cell? ⟨ob, 1, none⟩ = some (.string s) := by simp [World.cell?, h.oc]
theorem St.tk {I : World → (Nat → Prop) → Nat → Qs → Prop} {W W1 : World} {B ib rb ob : Nat} {kd : Int} {s : ByteArray} {qi qd : Qs} (h : St I W W1 B ib rb ob kd s qi qd) : W1.cell? ⟨rb, 1, none⟩ = some (.int .i64 (qd.tk : Nat)) := by
  obtain ⟨_, _, _, hQ, _⟩ := h.bo
  exact hQ.c1.1
theorem St.drew {I : World → (Nat → Prop) → Nat → Qs → Prop} (imp : Imp I) {W W1 : World} {B ib rb ob : Nat} {kd : Int} {s : ByteArray} {qi qd : Qs} (h : St I W W1 B ib rb ob kd s qi qd) : St I W W1.drew B ib rb ob kd s qi qd :=
  ⟨h.bo.step imp ((Below.refl _ _).drew), h.oc, h.bl.drew⟩
theorem St.call {I : World → (Nat → Prop) → Nat → Qs → Prop} {W W1 : World} {B ib rb ob : Nat} {kd : Int} {s : ByteArray} {qi qd qi' qd' : Qs} (h : St I W W1 B ib rb ob kd s qi qd) {f : FuncId} {args : Array Value} {R : Value} (c : Calls Try.prog f args W1 fun e w' => e = .returned R ∧ Bo I w' B ib rb ob qi' qd' ∧ Kp B ob W1 w') : Calls Try.prog f args W1 fun e w' => ∃ v, e = .returned v ∧ v = R ∧ St I W w' B ib rb ob kd s qi' qd' := by
  refine c.mono ?_
  rintro e w' ⟨rfl, hb, hk⟩
  exact ⟨R, rfl, rfl, hb, hk.2.trans h.oc, h.bl.trans hk.1⟩
theorem Bo0.new {I : World → (Nat → Prop) → Nat → Qs → Prop} (imp : Imp I) {W wr : World} {B ib rb : Nat} {q : Qs} (h : Bo0 I wr B ib rb q q) (hb : Below B W wr) (hB : B ≤ wr.heap.size) (kd : Int) (s : ByteArray) : St I W (wr.alloc (.cells #[.int .i64 kd, .string s] 30)) B ib rb wr.heap.size kd s q q :=
  ⟨h.at imp ((Below.refl _ _).alloc (Nat.le_refl _) _) (Nat.le_refl _) (by rw [World.size_alloc]; omega), heap_alloc_new wr _, hb.alloc hB _⟩

set_option maxRecDepth 100000 in
set_option maxHeartbeats 40000000 in
theorem plays_any {I : World → (Nat → Prop) → Nat → Qs → Prop} (imp : Imp I) (W : World) (v : Value) (l : List (Int × ByteArray)) (hv : SRow W W.heap.size v l) (hl : l.length ≤ 10000000) (hs : ∀ x ∈ l, x.2.size ≤ 140737488355000) : Calls Try.prog 3 #[v] W fun e w' => e = .returned (.bool true) ∧ Below W.heap.size W w' := by
  obtain ⟨a, cp, rfl, hv⟩ := hv
  have HV := hideT hv
  have HS := hideT hs
  have IM := hideT imp
  clear hv hs imp
  obtain ⟨B, hB⟩ : ∃ B, B = W.heap.size := ⟨_, rfl⟩
  rw [← hB] at HV ⊢
  have HBB := hideT hB
  clear hB
  go_enter Try.func3, Try.ntmps3
  go_wp2_with fail
  refine (frNew IM.out (Below.refl _ W)).mono ?_
  rintro e w1 ⟨ib, rfl, h1⟩
  have H1 := hideT h1
  clear h1
  go_wp2_with fail
  refine (awake_any IM.out w1).mono ?_
  rintro e w2 ⟨rfl, h2⟩
  have H2 := hideT (frStep IM.out H1.out h2)
  clear h2 H1
  go_wp2_with fail
  obtain ⟨w3, hw3⟩ : ∃ w3, w3 = w2.alloc (.cells #[.slice none 0 0, .int .i64 0, .bool false] 28) := ⟨_, rfl⟩
  rw [← hw3]
  have HST := hideT (start IM.out H2.out hw3)
  obtain ⟨rb, hrb⟩ : ∃ rb, rb = w2.heap.size := ⟨_, rfl⟩
  rw [← hrb] at HST ⊢
  rw [← HBB.out] at HST
  clear hw3 hrb H2
  go_loopw [20] (fun i wr => ∃ (k : Nat) (q : Qs), k ≤ l.length ∧ i = .int .i64 k ∧ Hid (Bo0 I wr B ib rb q q ∧ QOk q k ∧ Below B W wr)) (fun i _ => l.length - (intOf i).toNat)
  case atStart => exact ⟨0, q0, by omega, rfl, hideT ⟨HST.out.1, ⟨by decide, by decide, by simp [q0]⟩, HST.out.2⟩⟩
  case round =>
    obtain ⟨k, q, hk, rfl, HI⟩ := hrel
    by_cases hlt : k < l.length
    · have i1 : (k : Int) < (l.length : Int) := by omega
      have i2 : (0 : Int) ≤ (k : Int) := by omega
      obtain ⟨g, o, rfl, hg, c0, c1⟩ := HV.out k _ (List.getElem?_eq_getElem hlt)
      have hsz := HS.out _ (List.getElem_mem hlt)
      generalize (l[k]'hlt) = x at *
      obtain ⟨kd, s⟩ := x
      have d0 : wr.cell? ⟨g, o + k * 2, none⟩ = some (.int .i64 kd) := (World.cell?_of_block (a := ⟨g, o + k * 2, none⟩) (HI.out.2.2.block g hg)).trans c0
      have d1 : wr.cell? ⟨g, o + k * 2 + 1, none⟩ = some (.string s) := (World.cell?_of_block (a := ⟨g, o + k * 2 + 1, none⟩) (HI.out.2.2.block g hg)).trans c1
      clear c0 c1 hg
      have hn : k + 1 ≤ 100000000 := by omega
      have hn0 : k ≤ 100000000 := by omega
      have HK := hideT HI.out.2.1
      have HW := hideT (HI.out.1.new IM.out HI.out.2.2 (by have := HI.out.2.2.size; have := HBB.out; omega) kd s)
      obtain ⟨ob, hob⟩ : ∃ ob, ob = wr.heap.size := ⟨_, rfl⟩
      rw [← hob] at HW
      clear HI
      by_cases e0 : kd = 0
      · subst e0
        go_wp2_with fail
        rw [← hob]
        have HN := hideT (HW.out.drew IM.out)
        have s9 := HN.out.line
        clear hob
        refine wp_region_held (S := fun V => V.cell? ⟨ob, 1, none⟩ = some (.string s)) (by kernel_rfl) ?_
        refine' take_d 0 (some 28) rfl rfl (by kernel_rfl) (by kernel_rfl) (by kernel_rfl) (fun _ _ _ h => h) (wanted_none rfl _) s9 ?tk1 ?rs1
        case tk1 => intro V hV; go_simp; (try with_reducible rfl)
        simp only [Act.put, List.setIfInBounds_toArray, List.set_cons_zero, List.set_cons_succ]
        refine' take_d 1 (some 29) rfl rfl (by kernel_rfl) (by kernel_rfl) (by kernel_rfl) (fun _ _ _ h => h) (wanted_none rfl _) s9 ?tk2 ?rs2
        case tk2 => intro V hV; go_simp; (try with_reducible rfl)
        simp only [Act.put, List.setIfInBounds_toArray, List.set_cons_zero, List.set_cons_succ]
        refine' take_d 2 (some 30) rfl rfl (by kernel_rfl) (by kernel_rfl) (by kernel_rfl) (fun _ _ _ h => h) (wanted_none rfl _) s9 ?tk3 ?rs3
        case tk3 => intro V hV; have hc := hV; go_simp; (try with_reducible rfl)
        simp only [Act.put, List.setIfInBounds_toArray, List.set_cons_zero, List.set_cons_succ]
        refine' take_d 4 (some 32) rfl rfl (by kernel_rfl) (by kernel_rfl) (by kernel_rfl) (fun _ _ _ h => h) (wanted_none rfl _) s9 ?tk4 ?rs4
        case tk4 => intro V hV; go_simp; (try with_reducible rfl)
        simp only [Act.put, List.setIfInBounds_toArray, List.set_cons_zero, List.set_cons_succ]
        refine' take_d 5 (some 33) rfl rfl (by kernel_rfl) (by kernel_rfl) (by kernel_rfl) (fun _ _ _ h => h) (wanted_none rfl _) s9 ?tk5 ?rs5
        case tk5 => intro V hV; have hc := hV; go_simp; (try with_reducible rfl)
        simp only [Act.put, List.setIfInBounds_toArray, List.set_cons_zero, List.set_cons_succ]
        have H9 := hideT HN.out
        clear HN
        refine wpAnyH_all (rs := [3]) (by kernel_rfl) (by simp) (fun i hi => ?_)
        obtain rfl : i = 3 := List.mem_singleton.1 hi
        refine op_call (some 31) rfl rfl (wanted_none rfl _) (by go_simp; (try with_reducible rfl)) (R := fun v w' => v = .int .i64 (feedE q s.data.toList : Nat) ∧ St I W w' B ib rb ob 0 s (q.feed s.data.toList) q) (H9.out.call (H9.out.bo.impl (fun F hI => IM.out.feed hI HK.out hn0 s hsz))) ?_
        clear hi
        rintro v10 w10 ⟨rfl, h10⟩
        have s10 := h10.line
        have H10 := hideT h10
        clear h10 H9 s9
        refine And.intro s10 ?_
        simp only [Act.put, List.setIfInBounds_toArray, List.set_cons_zero, List.set_cons_succ]
        refine wpAnyH_all (rs := [6]) (by kernel_rfl) (by simp) (fun i hi => ?_)
        obtain rfl : i = 6 := List.mem_singleton.1 hi
        refine op_call (some 34) rfl rfl (wanted_none rfl _) (by go_simp; (try with_reducible rfl)) (R := fun v w' => v = .int .i64 (feedE q s.data.toList : Nat) ∧ St I W w' B ib rb ob 0 s (q.feed s.data.toList) (q.feed s.data.toList)) (H10.out.call (H10.out.bo.doc IM.out (fun v hQ => docFeed_any hQ HK.out hn0 hQ.hB s hsz))) ?_
        clear hi
        rintro v11 w11 ⟨rfl, h11⟩
        have s11 := h11.line
        have H11 := hideT h11
        clear h11 H10 s10
        refine And.intro s11 ?_
        simp only [Act.put, List.setIfInBounds_toArray, List.set_cons_zero, List.set_cons_succ]
        refine' take_d 7 (some 35) rfl rfl (by kernel_rfl) (by kernel_rfl) (by kernel_rfl) (fun _ _ _ h => h) (wanted_none rfl _) s11 ?tk6 ?rs6
        case tk6 => intro V hV; go_simp; (try with_reducible rfl)
        simp only [Act.put, List.setIfInBounds_toArray, List.set_cons_zero, List.set_cons_succ]
        refine wpAnyH_done (by kernel_rfl) ?_ _
        clear s11
        have HQ := hideT (HK.out.feed s.data.toList)
        generalize q.feed s.data.toList = q2 at *
        go_wp2_with fail
        have h100 := H11.out.drew IM.out
        have s100 := h100.tk
        have H100 := hideT h100
        clear h100 H11
        refine wp_region_held (S := fun V => V.cell? ⟨rb, 1, none⟩ = some (.int .i64 (q2.tk : Nat))) (by kernel_rfl) ?_
        refine' take_d 0 (some 61) rfl rfl (by kernel_rfl) (by kernel_rfl) (by kernel_rfl) (fun _ _ _ h => h) (wanted_none rfl _) s100 ?tk7 ?rs7
        case tk7 => intro V hV; go_simp; (try with_reducible rfl)
        simp only [Act.put, List.setIfInBounds_toArray, List.set_cons_zero, List.set_cons_succ]
        refine wpAnyH_all (rs := [1]) (by kernel_rfl) (by simp) (fun i hi => ?_)
        obtain rfl : i = 1 := List.mem_singleton.1 hi
        refine op_call (some 62) rfl rfl (wanted_none rfl _) (by go_simp; (try with_reducible rfl)) (R := fun v w' => v = .bool q2.ready ∧ St I W w' B ib rb ob 0 s q2 q2) (H100.out.call (H100.out.bo.stillI IM.out (fun F hI => IM.out.ready hI HQ.out hn))) ?_
        clear hi
        rintro v101 w101 ⟨rfl, h101⟩
        have s101 := h101.tk
        have H101 := hideT h101
        clear h101 H100 s100
        refine And.intro s101 ?_
        simp only [Act.put, List.setIfInBounds_toArray, List.set_cons_zero, List.set_cons_succ]
        refine wpAnyH_all (rs := [2]) (by kernel_rfl) (by simp) (fun i hi => ?_)
        obtain rfl : i = 2 := List.mem_singleton.1 hi
        refine op_call (some 63) rfl rfl (wanted_none rfl _) (by go_simp; (try with_reducible rfl)) (R := fun v w' => v = .bool q2.ready ∧ St I W w' B ib rb ob 0 s q2 q2) (H101.out.call (H101.out.bo.stillD IM.out (fun v hQ => docReady_any hQ HQ.out hn))) ?_
        clear hi
        rintro v102 w102 ⟨rfl, h102⟩
        have s102 := h102.tk
        have H102 := hideT h102
        clear h102 H101 s101
        refine And.intro s102 ?_
        simp only [Act.put, List.setIfInBounds_toArray, List.set_cons_zero, List.set_cons_succ]
        refine' take_d 3 (some 64) rfl rfl (by kernel_rfl) (by kernel_rfl) (by kernel_rfl) (fun _ _ _ h => h) (wanted_none rfl _) s102 ?tk8 ?rs8
        case tk8 => intro V hV; go_simp; (try with_reducible rfl)
        simp only [Act.put, List.setIfInBounds_toArray, List.set_cons_zero, List.set_cons_succ]
        refine' take_d 4 (some 65) rfl rfl (by kernel_rfl) (by kernel_rfl) (by kernel_rfl) (fun _ _ _ h => h) (wanted_none rfl _) s102 ?tk9 ?rs9
        case tk9 => intro V hV; go_simp; (try with_reducible rfl)
        simp only [Act.put, List.setIfInBounds_toArray, List.set_cons_zero, List.set_cons_succ]
        refine' take_d 5 (some 66) rfl rfl (by kernel_rfl) (by kernel_rfl) (by kernel_rfl) (fun _ _ _ h => h) (by rfl) s102 ?tk10 ?rs10
        case tk10 => intro V hV; go_simp; (try with_reducible rfl)
        simp only [Act.put, List.setIfInBounds_toArray, List.set_cons_zero, List.set_cons_succ]
        refine wpAnyH_all (rs := [6]) (by kernel_rfl) (by simp) (fun i hi => ?_)
        obtain rfl : i = 6 := List.mem_singleton.1 hi
        refine op_call (some 67) rfl rfl (by rfl) (by go_simp; (try with_reducible rfl)) (R := fun v w' => v = .bool q2.last ∧ St I W w' B ib rb ob 0 s q2 q2) (H102.out.call (H102.out.bo.stillI IM.out (fun F hI => IM.out.last hI HQ.out hn))) ?_
        clear hi
        rintro v103 w103 ⟨rfl, h103⟩
        have s103 := h103.tk
        have H103 := hideT h103
        clear h103 H102 s102
        refine And.intro s103 ?_
        simp only [Act.put, List.setIfInBounds_toArray, List.set_cons_zero, List.set_cons_succ]
        refine wpAnyH_all (rs := [7]) (by kernel_rfl) (by simp) (fun i hi => ?_)
        obtain rfl : i = 7 := List.mem_singleton.1 hi
        refine op_call (some 68) rfl rfl (by rfl) (by go_simp; (try with_reducible rfl)) (R := fun v w' => v = .bool q2.last ∧ St I W w' B ib rb ob 0 s q2 q2) (H103.out.call (H103.out.bo.stillD IM.out (fun v hQ => docLast_any hQ HQ.out hn))) ?_
        clear hi
        rintro v104 w104 ⟨rfl, h104⟩
        have s104 := h104.tk
        have H104 := hideT h104
        clear h104 H103 s103
        refine And.intro s104 ?_
        simp only [Act.put, List.setIfInBounds_toArray, List.set_cons_zero, List.set_cons_succ]
        refine' take_d 8 (some 69) rfl rfl (by kernel_rfl) (by kernel_rfl) (by kernel_rfl) (fun _ _ _ h => h) (by rfl) s104 ?tk11 ?rs11
        case tk11 => intro V hV; go_simp; (try with_reducible rfl)
        simp only [Act.put, List.setIfInBounds_toArray, List.set_cons_zero, List.set_cons_succ]
        refine' take_d 9 (some 70) rfl rfl (by kernel_rfl) (by kernel_rfl) (by kernel_rfl) (fun _ _ _ h => h) (wanted_none rfl _) s104 ?tk12 ?rs12
        case tk12 => intro V hV; go_simp; (try with_reducible rfl)
        simp only [Act.put, List.setIfInBounds_toArray, List.set_cons_zero, List.set_cons_succ]
        refine' take_d 10 (some 71) rfl rfl (by kernel_rfl) (by kernel_rfl) (by kernel_rfl) (fun _ _ _ h => h) (wanted_none rfl _) s104 ?tk13 ?rs13
        case tk13 => intro V hV; go_simp; (try with_reducible rfl)
        simp only [Act.put, List.setIfInBounds_toArray, List.set_cons_zero, List.set_cons_succ]
        refine' take_d 11 (some 72) rfl rfl (by kernel_rfl) (by kernel_rfl) (by kernel_rfl) (fun _ _ _ h => h) (by rfl) s104 ?tk14 ?rs14
        case tk14 => intro V hV; go_simp; (try with_reducible rfl)
        simp only [Act.put, List.setIfInBounds_toArray, List.set_cons_zero, List.set_cons_succ]
        refine' take_d 13 (some 74) rfl rfl (by kernel_rfl) (by kernel_rfl) (by kernel_rfl) (fun _ _ _ h => h) (by rfl) s104 ?tk15 ?rs15
        case tk15 => intro V hV; go_simp; (try with_reducible rfl)
        simp only [Act.put, List.setIfInBounds_toArray, List.set_cons_zero, List.set_cons_succ]
        refine' take_d 14 (some 75) rfl rfl (by kernel_rfl) (by kernel_rfl) (by kernel_rfl) (fun _ _ _ h => h) (by rfl) s104 ?tk16 ?rs16
        case tk16 => intro V hV; have hc := hV; go_simp; (try with_reducible rfl)
        simp only [Act.put, List.setIfInBounds_toArray, List.set_cons_zero, List.set_cons_succ]
        refine wpAnyH_all (rs := [12]) (by kernel_rfl) (by simp) (fun i hi => ?_)
        obtain rfl : i = 12 := List.mem_singleton.1 hi
        refine op_call (some 73) rfl rfl (by rfl) (by go_simp; (try with_reducible rfl)) (R := fun v w' => v = .int .i64 (q2.tk : Nat) ∧ St I W w' B ib rb ob 0 s q2 q2) (H104.out.call (H104.out.bo.stillI IM.out (fun F hI => IM.out.number hI HQ.out hn))) ?_
        clear hi
        rintro v105 w105 ⟨rfl, h105⟩
        have s105 := h105.tk
        have H105 := hideT h105
        clear h105 H104 s104
        refine And.intro s105 ?_
        simp only [Act.put, List.setIfInBounds_toArray, List.set_cons_zero, List.set_cons_succ]
        refine' take_d 15 (some 76) rfl rfl (by kernel_rfl) (by kernel_rfl) (by kernel_rfl) (fun _ _ _ h => h) (by rfl) s105 ?tk17 ?rs17
        case tk17 => intro V hV; go_simp; (try with_reducible rfl)
        simp only [Act.put, List.setIfInBounds_toArray, List.set_cons_zero, List.set_cons_succ]
        refine' take_d 16 (some 77) rfl rfl (by kernel_rfl) (by kernel_rfl) (by kernel_rfl) (fun _ _ _ h => h) (wanted_none rfl _) s105 ?tk18 ?rs18
        case tk18 => intro V hV; go_simp; (try with_reducible rfl)
        simp only [Act.put, List.setIfInBounds_toArray, List.set_cons_zero, List.set_cons_succ]
        refine' take_d 17 (some 78) rfl rfl (by kernel_rfl) (by kernel_rfl) (by kernel_rfl) (fun _ _ _ h => h) (wanted_none rfl _) s105 ?tk19 ?rs19
        case tk19 => intro V hV; go_simp; (try with_reducible rfl)
        simp only [Act.put, List.setIfInBounds_toArray, List.set_cons_zero, List.set_cons_succ]
        refine' take_d 18 (some 79) rfl rfl (by kernel_rfl) (by kernel_rfl) (by kernel_rfl) (fun _ _ _ h => h) (by rfl) s105 ?tk20 ?rs20
        case tk20 => intro V hV; go_simp; (try with_reducible rfl)
        simp only [Act.put, List.setIfInBounds_toArray, List.set_cons_zero, List.set_cons_succ]
        refine wpAnyH_all (rs := [19]) (by kernel_rfl) (by simp) (fun i hi => ?_)
        obtain rfl : i = 19 := List.mem_singleton.1 hi
        refine op_call (some 80) rfl rfl (by rfl) (by go_simp; (try with_reducible rfl)) (R := fun v w' => v = .int .i64 (q2.wait : Nat) ∧ St I W w' B ib rb ob 0 s q2 q2) (H105.out.call (H105.out.bo.stillI IM.out (fun F hI => IM.out.waiting hI HQ.out hn))) ?_
        clear hi
        rintro v106 w106 ⟨rfl, h106⟩
        have s106 := h106.tk
        have H106 := hideT h106
        clear h106 H105 s105
        refine And.intro s106 ?_
        simp only [Act.put, List.setIfInBounds_toArray, List.set_cons_zero, List.set_cons_succ]
        refine wpAnyH_all (rs := [20]) (by kernel_rfl) (by simp) (fun i hi => ?_)
        obtain rfl : i = 20 := List.mem_singleton.1 hi
        refine op_call (some 81) rfl rfl (by rfl) (by go_simp; (try with_reducible rfl)) (R := fun v w' => v = .int .i64 (q2.wait : Nat) ∧ St I W w' B ib rb ob 0 s q2 q2) (H106.out.call (H106.out.bo.stillD IM.out (fun v hQ => docWaiting_any hQ HQ.out hn))) ?_
        clear hi
        rintro v107 w107 ⟨rfl, h107⟩
        have s107 := h107.tk
        have H107 := hideT h107
        clear h107 H106 s106
        refine And.intro s107 ?_
        simp only [Act.put, List.setIfInBounds_toArray, List.set_cons_zero, List.set_cons_succ]
        refine' take_d 21 (some 82) rfl rfl (by kernel_rfl) (by kernel_rfl) (by kernel_rfl) (fun _ _ _ h => h) (by rfl) s107 ?tk21 ?rs21
        case tk21 => intro V hV; go_simp; (try with_reducible rfl)
        simp only [Act.put, List.setIfInBounds_toArray, List.set_cons_zero, List.set_cons_succ]
        refine' take_d 22 (some 83) rfl rfl (by kernel_rfl) (by kernel_rfl) (by kernel_rfl) (fun _ _ _ h => h) (wanted_none rfl _) s107 ?tk22 ?rs22
        case tk22 => intro V hV; go_simp; (try with_reducible rfl)
        simp only [Act.put, List.setIfInBounds_toArray, List.set_cons_zero, List.set_cons_succ]
        refine' take_d 23 (some 84) rfl rfl (by kernel_rfl) (by kernel_rfl) (by kernel_rfl) (fun _ _ _ h => h) (wanted_none rfl _) s107 ?tk23 ?rs23
        case tk23 => intro V hV; go_simp; (try with_reducible rfl)
        simp only [Act.put, List.setIfInBounds_toArray, List.set_cons_zero, List.set_cons_succ]
        refine' take_d 24 (some 85) rfl rfl (by kernel_rfl) (by kernel_rfl) (by kernel_rfl) (fun _ _ _ h => h) (by rfl) s107 ?tk24 ?rs24
        case tk24 => intro V hV; go_simp; (try with_reducible rfl)
        simp only [Act.put, List.setIfInBounds_toArray, List.set_cons_zero, List.set_cons_succ]
        refine wpAnyH_all (rs := [25]) (by kernel_rfl) (by simp) (fun i hi => ?_)
        obtain rfl : i = 25 := List.mem_singleton.1 hi
        refine op_call (some 86) rfl rfl (by rfl) (by go_simp; (try with_reducible rfl)) (R := fun v w' => v = .int .i64 (q2.held : Nat) ∧ St I W w' B ib rb ob 0 s q2 q2) (H107.out.call (H107.out.bo.stillI IM.out (fun F hI => IM.out.held hI HQ.out hn))) ?_
        clear hi
        rintro v108 w108 ⟨rfl, h108⟩
        have s108 := h108.tk
        have H108 := hideT h108
        clear h108 H107 s107
        refine And.intro s108 ?_
        simp only [Act.put, List.setIfInBounds_toArray, List.set_cons_zero, List.set_cons_succ]
        refine wpAnyH_all (rs := [26]) (by kernel_rfl) (by simp) (fun i hi => ?_)
        obtain rfl : i = 26 := List.mem_singleton.1 hi
        refine op_call (some 87) rfl rfl (by rfl) (by go_simp; (try with_reducible rfl)) (R := fun v w' => v = .int .i64 (q2.held : Nat) ∧ St I W w' B ib rb ob 0 s q2 q2) (H108.out.call (H108.out.bo.stillD IM.out (fun v hQ => (docHeld_any hQ HQ.out hn).mono (fun _ _ h => ⟨h.1, by rw [h.2]; exact Below.refl _ _⟩)))) ?_
        clear hi
        rintro v109 w109 ⟨rfl, h109⟩
        have s109 := h109.tk
        have H109 := hideT h109
        clear h109 H108 s108
        refine And.intro s109 ?_
        simp only [Act.put, List.setIfInBounds_toArray, List.set_cons_zero, List.set_cons_succ]
        refine' take_d 27 (some 88) rfl rfl (by kernel_rfl) (by kernel_rfl) (by kernel_rfl) (fun _ _ _ h => h) (by rfl) s109 ?tk25 ?rs25
        case tk25 => intro V hV; go_simp; (try with_reducible rfl)
        simp only [Act.put, List.setIfInBounds_toArray, List.set_cons_zero, List.set_cons_succ]
        refine' take_d 28 (some 89) rfl rfl (by kernel_rfl) (by kernel_rfl) (by kernel_rfl) (fun _ _ _ h => h) (wanted_none rfl _) s109 ?tk26 ?rs26
        case tk26 => intro V hV; go_simp; (try with_reducible rfl)
        simp only [Act.put, List.setIfInBounds_toArray, List.set_cons_zero, List.set_cons_succ]
        refine wpAnyH_done (by kernel_rfl) ?_ _
        clear s109
        go_wp2
        exact ⟨⟨k + 1, q2, by omega, by go_num, hideT ⟨H109.out.bo.drop, HQ.out, H109.out.bl⟩⟩, by simp [intOf]; omega⟩
      by_cases e1 : kd = 1
      · subst e1
        clear e0
        go_wp2_with fail
        refine (HW.out.call (HW.out.bo.impl (fun F hI => IM.out.close hI HK.out hn0))).mono ?_
        rintro e w10 ⟨v10, rfl, rfl, h10⟩
        rw [← hob]
        have H10 := hideT h10
        clear h10 hob HW
        go_wp2_with fail
        refine (H10.out.call (H10.out.bo.doc IM.out (fun v hQ => (docClose_any hQ).mono (fun _ _ h => ⟨h.1, h.2.1, v, h.2.2, fun _ hk => .inl hk⟩)))).mono ?_
        rintro e w11 ⟨v11, rfl, rfl, h11⟩
        have H11 := hideT h11
        clear h11 H10
        have HQ := hideT HK.out.close.more
        generalize q.close = q2 at *
        go_wp2_with fail
        have h100 := H11.out.drew IM.out
        have s100 := h100.tk
        have H100 := hideT h100
        clear h100 H11
        refine wp_region_held (S := fun V => V.cell? ⟨rb, 1, none⟩ = some (.int .i64 (q2.tk : Nat))) (by kernel_rfl) ?_
        refine' take_d 0 (some 61) rfl rfl (by kernel_rfl) (by kernel_rfl) (by kernel_rfl) (fun _ _ _ h => h) (wanted_none rfl _) s100 ?tk27 ?rs27
        case tk27 => intro V hV; go_simp; (try with_reducible rfl)
        simp only [Act.put, List.setIfInBounds_toArray, List.set_cons_zero, List.set_cons_succ]
        refine wpAnyH_all (rs := [1]) (by kernel_rfl) (by simp) (fun i hi => ?_)
        obtain rfl : i = 1 := List.mem_singleton.1 hi
        refine op_call (some 62) rfl rfl (wanted_none rfl _) (by go_simp; (try with_reducible rfl)) (R := fun v w' => v = .bool q2.ready ∧ St I W w' B ib rb ob 1 s q2 q2) (H100.out.call (H100.out.bo.stillI IM.out (fun F hI => IM.out.ready hI HQ.out hn))) ?_
        clear hi
        rintro v101 w101 ⟨rfl, h101⟩
        have s101 := h101.tk
        have H101 := hideT h101
        clear h101 H100 s100
        refine And.intro s101 ?_
        simp only [Act.put, List.setIfInBounds_toArray, List.set_cons_zero, List.set_cons_succ]
        refine wpAnyH_all (rs := [2]) (by kernel_rfl) (by simp) (fun i hi => ?_)
        obtain rfl : i = 2 := List.mem_singleton.1 hi
        refine op_call (some 63) rfl rfl (wanted_none rfl _) (by go_simp; (try with_reducible rfl)) (R := fun v w' => v = .bool q2.ready ∧ St I W w' B ib rb ob 1 s q2 q2) (H101.out.call (H101.out.bo.stillD IM.out (fun v hQ => docReady_any hQ HQ.out hn))) ?_
        clear hi
        rintro v102 w102 ⟨rfl, h102⟩
        have s102 := h102.tk
        have H102 := hideT h102
        clear h102 H101 s101
        refine And.intro s102 ?_
        simp only [Act.put, List.setIfInBounds_toArray, List.set_cons_zero, List.set_cons_succ]
        refine' take_d 3 (some 64) rfl rfl (by kernel_rfl) (by kernel_rfl) (by kernel_rfl) (fun _ _ _ h => h) (wanted_none rfl _) s102 ?tk28 ?rs28
        case tk28 => intro V hV; go_simp; (try with_reducible rfl)
        simp only [Act.put, List.setIfInBounds_toArray, List.set_cons_zero, List.set_cons_succ]
        refine' take_d 4 (some 65) rfl rfl (by kernel_rfl) (by kernel_rfl) (by kernel_rfl) (fun _ _ _ h => h) (wanted_none rfl _) s102 ?tk29 ?rs29
        case tk29 => intro V hV; go_simp; (try with_reducible rfl)
        simp only [Act.put, List.setIfInBounds_toArray, List.set_cons_zero, List.set_cons_succ]
        refine' take_d 5 (some 66) rfl rfl (by kernel_rfl) (by kernel_rfl) (by kernel_rfl) (fun _ _ _ h => h) (by rfl) s102 ?tk30 ?rs30
        case tk30 => intro V hV; go_simp; (try with_reducible rfl)
        simp only [Act.put, List.setIfInBounds_toArray, List.set_cons_zero, List.set_cons_succ]
        refine wpAnyH_all (rs := [6]) (by kernel_rfl) (by simp) (fun i hi => ?_)
        obtain rfl : i = 6 := List.mem_singleton.1 hi
        refine op_call (some 67) rfl rfl (by rfl) (by go_simp; (try with_reducible rfl)) (R := fun v w' => v = .bool q2.last ∧ St I W w' B ib rb ob 1 s q2 q2) (H102.out.call (H102.out.bo.stillI IM.out (fun F hI => IM.out.last hI HQ.out hn))) ?_
        clear hi
        rintro v103 w103 ⟨rfl, h103⟩
        have s103 := h103.tk
        have H103 := hideT h103
        clear h103 H102 s102
        refine And.intro s103 ?_
        simp only [Act.put, List.setIfInBounds_toArray, List.set_cons_zero, List.set_cons_succ]
        refine wpAnyH_all (rs := [7]) (by kernel_rfl) (by simp) (fun i hi => ?_)
        obtain rfl : i = 7 := List.mem_singleton.1 hi
        refine op_call (some 68) rfl rfl (by rfl) (by go_simp; (try with_reducible rfl)) (R := fun v w' => v = .bool q2.last ∧ St I W w' B ib rb ob 1 s q2 q2) (H103.out.call (H103.out.bo.stillD IM.out (fun v hQ => docLast_any hQ HQ.out hn))) ?_
        clear hi
        rintro v104 w104 ⟨rfl, h104⟩
        have s104 := h104.tk
        have H104 := hideT h104
        clear h104 H103 s103
        refine And.intro s104 ?_
        simp only [Act.put, List.setIfInBounds_toArray, List.set_cons_zero, List.set_cons_succ]
        refine' take_d 8 (some 69) rfl rfl (by kernel_rfl) (by kernel_rfl) (by kernel_rfl) (fun _ _ _ h => h) (by rfl) s104 ?tk31 ?rs31
        case tk31 => intro V hV; go_simp; (try with_reducible rfl)
        simp only [Act.put, List.setIfInBounds_toArray, List.set_cons_zero, List.set_cons_succ]
        refine' take_d 9 (some 70) rfl rfl (by kernel_rfl) (by kernel_rfl) (by kernel_rfl) (fun _ _ _ h => h) (wanted_none rfl _) s104 ?tk32 ?rs32
        case tk32 => intro V hV; go_simp; (try with_reducible rfl)
        simp only [Act.put, List.setIfInBounds_toArray, List.set_cons_zero, List.set_cons_succ]
        refine' take_d 10 (some 71) rfl rfl (by kernel_rfl) (by kernel_rfl) (by kernel_rfl) (fun _ _ _ h => h) (wanted_none rfl _) s104 ?tk33 ?rs33
        case tk33 => intro V hV; go_simp; (try with_reducible rfl)
        simp only [Act.put, List.setIfInBounds_toArray, List.set_cons_zero, List.set_cons_succ]
        refine' take_d 11 (some 72) rfl rfl (by kernel_rfl) (by kernel_rfl) (by kernel_rfl) (fun _ _ _ h => h) (by rfl) s104 ?tk34 ?rs34
        case tk34 => intro V hV; go_simp; (try with_reducible rfl)
        simp only [Act.put, List.setIfInBounds_toArray, List.set_cons_zero, List.set_cons_succ]
        refine' take_d 13 (some 74) rfl rfl (by kernel_rfl) (by kernel_rfl) (by kernel_rfl) (fun _ _ _ h => h) (by rfl) s104 ?tk35 ?rs35
        case tk35 => intro V hV; go_simp; (try with_reducible rfl)
        simp only [Act.put, List.setIfInBounds_toArray, List.set_cons_zero, List.set_cons_succ]
        refine' take_d 14 (some 75) rfl rfl (by kernel_rfl) (by kernel_rfl) (by kernel_rfl) (fun _ _ _ h => h) (by rfl) s104 ?tk36 ?rs36
        case tk36 => intro V hV; have hc := hV; go_simp; (try with_reducible rfl)
        simp only [Act.put, List.setIfInBounds_toArray, List.set_cons_zero, List.set_cons_succ]
        refine wpAnyH_all (rs := [12]) (by kernel_rfl) (by simp) (fun i hi => ?_)
        obtain rfl : i = 12 := List.mem_singleton.1 hi
        refine op_call (some 73) rfl rfl (by rfl) (by go_simp; (try with_reducible rfl)) (R := fun v w' => v = .int .i64 (q2.tk : Nat) ∧ St I W w' B ib rb ob 1 s q2 q2) (H104.out.call (H104.out.bo.stillI IM.out (fun F hI => IM.out.number hI HQ.out hn))) ?_
        clear hi
        rintro v105 w105 ⟨rfl, h105⟩
        have s105 := h105.tk
        have H105 := hideT h105
        clear h105 H104 s104
        refine And.intro s105 ?_
        simp only [Act.put, List.setIfInBounds_toArray, List.set_cons_zero, List.set_cons_succ]
        refine' take_d 15 (some 76) rfl rfl (by kernel_rfl) (by kernel_rfl) (by kernel_rfl) (fun _ _ _ h => h) (by rfl) s105 ?tk37 ?rs37
        case tk37 => intro V hV; go_simp; (try with_reducible rfl)
        simp only [Act.put, List.setIfInBounds_toArray, List.set_cons_zero, List.set_cons_succ]
        refine' take_d 16 (some 77) rfl rfl (by kernel_rfl) (by kernel_rfl) (by kernel_rfl) (fun _ _ _ h => h) (wanted_none rfl _) s105 ?tk38 ?rs38
        case tk38 => intro V hV; go_simp; (try with_reducible rfl)
        simp only [Act.put, List.setIfInBounds_toArray, List.set_cons_zero, List.set_cons_succ]
        refine' take_d 17 (some 78) rfl rfl (by kernel_rfl) (by kernel_rfl) (by kernel_rfl) (fun _ _ _ h => h) (wanted_none rfl _) s105 ?tk39 ?rs39
        case tk39 => intro V hV; go_simp; (try with_reducible rfl)
        simp only [Act.put, List.setIfInBounds_toArray, List.set_cons_zero, List.set_cons_succ]
        refine' take_d 18 (some 79) rfl rfl (by kernel_rfl) (by kernel_rfl) (by kernel_rfl) (fun _ _ _ h => h) (by rfl) s105 ?tk40 ?rs40
        case tk40 => intro V hV; go_simp; (try with_reducible rfl)
        simp only [Act.put, List.setIfInBounds_toArray, List.set_cons_zero, List.set_cons_succ]
        refine wpAnyH_all (rs := [19]) (by kernel_rfl) (by simp) (fun i hi => ?_)
        obtain rfl : i = 19 := List.mem_singleton.1 hi
        refine op_call (some 80) rfl rfl (by rfl) (by go_simp; (try with_reducible rfl)) (R := fun v w' => v = .int .i64 (q2.wait : Nat) ∧ St I W w' B ib rb ob 1 s q2 q2) (H105.out.call (H105.out.bo.stillI IM.out (fun F hI => IM.out.waiting hI HQ.out hn))) ?_
        clear hi
        rintro v106 w106 ⟨rfl, h106⟩
        have s106 := h106.tk
        have H106 := hideT h106
        clear h106 H105 s105
        refine And.intro s106 ?_
        simp only [Act.put, List.setIfInBounds_toArray, List.set_cons_zero, List.set_cons_succ]
        refine wpAnyH_all (rs := [20]) (by kernel_rfl) (by simp) (fun i hi => ?_)
        obtain rfl : i = 20 := List.mem_singleton.1 hi
        refine op_call (some 81) rfl rfl (by rfl) (by go_simp; (try with_reducible rfl)) (R := fun v w' => v = .int .i64 (q2.wait : Nat) ∧ St I W w' B ib rb ob 1 s q2 q2) (H106.out.call (H106.out.bo.stillD IM.out (fun v hQ => docWaiting_any hQ HQ.out hn))) ?_
        clear hi
        rintro v107 w107 ⟨rfl, h107⟩
        have s107 := h107.tk
        have H107 := hideT h107
        clear h107 H106 s106
        refine And.intro s107 ?_
        simp only [Act.put, List.setIfInBounds_toArray, List.set_cons_zero, List.set_cons_succ]
        refine' take_d 21 (some 82) rfl rfl (by kernel_rfl) (by kernel_rfl) (by kernel_rfl) (fun _ _ _ h => h) (by rfl) s107 ?tk41 ?rs41
        case tk41 => intro V hV; go_simp; (try with_reducible rfl)
        simp only [Act.put, List.setIfInBounds_toArray, List.set_cons_zero, List.set_cons_succ]
        refine' take_d 22 (some 83) rfl rfl (by kernel_rfl) (by kernel_rfl) (by kernel_rfl) (fun _ _ _ h => h) (wanted_none rfl _) s107 ?tk42 ?rs42
        case tk42 => intro V hV; go_simp; (try with_reducible rfl)
        simp only [Act.put, List.setIfInBounds_toArray, List.set_cons_zero, List.set_cons_succ]
        refine' take_d 23 (some 84) rfl rfl (by kernel_rfl) (by kernel_rfl) (by kernel_rfl) (fun _ _ _ h => h) (wanted_none rfl _) s107 ?tk43 ?rs43
        case tk43 => intro V hV; go_simp; (try with_reducible rfl)
        simp only [Act.put, List.setIfInBounds_toArray, List.set_cons_zero, List.set_cons_succ]
        refine' take_d 24 (some 85) rfl rfl (by kernel_rfl) (by kernel_rfl) (by kernel_rfl) (fun _ _ _ h => h) (by rfl) s107 ?tk44 ?rs44
        case tk44 => intro V hV; go_simp; (try with_reducible rfl)
        simp only [Act.put, List.setIfInBounds_toArray, List.set_cons_zero, List.set_cons_succ]
        refine wpAnyH_all (rs := [25]) (by kernel_rfl) (by simp) (fun i hi => ?_)
        obtain rfl : i = 25 := List.mem_singleton.1 hi
        refine op_call (some 86) rfl rfl (by rfl) (by go_simp; (try with_reducible rfl)) (R := fun v w' => v = .int .i64 (q2.held : Nat) ∧ St I W w' B ib rb ob 1 s q2 q2) (H107.out.call (H107.out.bo.stillI IM.out (fun F hI => IM.out.held hI HQ.out hn))) ?_
        clear hi
        rintro v108 w108 ⟨rfl, h108⟩
        have s108 := h108.tk
        have H108 := hideT h108
        clear h108 H107 s107
        refine And.intro s108 ?_
        simp only [Act.put, List.setIfInBounds_toArray, List.set_cons_zero, List.set_cons_succ]
        refine wpAnyH_all (rs := [26]) (by kernel_rfl) (by simp) (fun i hi => ?_)
        obtain rfl : i = 26 := List.mem_singleton.1 hi
        refine op_call (some 87) rfl rfl (by rfl) (by go_simp; (try with_reducible rfl)) (R := fun v w' => v = .int .i64 (q2.held : Nat) ∧ St I W w' B ib rb ob 1 s q2 q2) (H108.out.call (H108.out.bo.stillD IM.out (fun v hQ => (docHeld_any hQ HQ.out hn).mono (fun _ _ h => ⟨h.1, by rw [h.2]; exact Below.refl _ _⟩)))) ?_
        clear hi
        rintro v109 w109 ⟨rfl, h109⟩
        have s109 := h109.tk
        have H109 := hideT h109
        clear h109 H108 s108
        refine And.intro s109 ?_
        simp only [Act.put, List.setIfInBounds_toArray, List.set_cons_zero, List.set_cons_succ]
        refine' take_d 27 (some 88) rfl rfl (by kernel_rfl) (by kernel_rfl) (by kernel_rfl) (fun _ _ _ h => h) (by rfl) s109 ?tk45 ?rs45
        case tk45 => intro V hV; go_simp; (try with_reducible rfl)
        simp only [Act.put, List.setIfInBounds_toArray, List.set_cons_zero, List.set_cons_succ]
        refine' take_d 28 (some 89) rfl rfl (by kernel_rfl) (by kernel_rfl) (by kernel_rfl) (fun _ _ _ h => h) (wanted_none rfl _) s109 ?tk46 ?rs46
        case tk46 => intro V hV; go_simp; (try with_reducible rfl)
        simp only [Act.put, List.setIfInBounds_toArray, List.set_cons_zero, List.set_cons_succ]
        refine wpAnyH_done (by kernel_rfl) ?_ _
        clear s109
        go_wp2
        exact ⟨⟨k + 1, q2, by omega, by go_num, hideT ⟨H109.out.bo.drop, HQ.out, H109.out.bl⟩⟩, by simp [intOf]; omega⟩
      by_cases e2 : kd = 2
      · subst e2
        clear e0 e1
        go_wp2_with fail
        refine (HW.out.call (HW.out.bo.impl (fun F hI => IM.out.next hI HK.out hn0))).mono ?_
        rintro e w10 ⟨v10, rfl, rfl, h10⟩
        rw [← hob]
        have H10 := hideT h10
        clear h10 hob HW
        go_wp2_with fail
        refine (H10.out.call (H10.out.bo.doc IM.out (fun v hQ => (docNext_any hQ HK.out hn0).mono (fun _ _ h => ⟨h.1, h.2.1, v, h.2.2, fun _ hk => .inl hk⟩)))).mono ?_
        rintro e w11 ⟨v11, rfl, rfl, h11⟩
        have H11 := hideT h11
        clear h11 H10
        have HQ := hideT HK.out.next.more
        generalize q.next = q2 at *
        go_wp2_with fail
        have h100 := H11.out.drew IM.out
        have s100 := h100.tk
        have H100 := hideT h100
        clear h100 H11
        refine wp_region_held (S := fun V => V.cell? ⟨rb, 1, none⟩ = some (.int .i64 (q2.tk : Nat))) (by kernel_rfl) ?_
        refine' take_d 0 (some 61) rfl rfl (by kernel_rfl) (by kernel_rfl) (by kernel_rfl) (fun _ _ _ h => h) (wanted_none rfl _) s100 ?tk47 ?rs47
        case tk47 => intro V hV; go_simp; (try with_reducible rfl)
        simp only [Act.put, List.setIfInBounds_toArray, List.set_cons_zero, List.set_cons_succ]
        refine wpAnyH_all (rs := [1]) (by kernel_rfl) (by simp) (fun i hi => ?_)
        obtain rfl : i = 1 := List.mem_singleton.1 hi
        refine op_call (some 62) rfl rfl (wanted_none rfl _) (by go_simp; (try with_reducible rfl)) (R := fun v w' => v = .bool q2.ready ∧ St I W w' B ib rb ob 2 s q2 q2) (H100.out.call (H100.out.bo.stillI IM.out (fun F hI => IM.out.ready hI HQ.out hn))) ?_
        clear hi
        rintro v101 w101 ⟨rfl, h101⟩
        have s101 := h101.tk
        have H101 := hideT h101
        clear h101 H100 s100
        refine And.intro s101 ?_
        simp only [Act.put, List.setIfInBounds_toArray, List.set_cons_zero, List.set_cons_succ]
        refine wpAnyH_all (rs := [2]) (by kernel_rfl) (by simp) (fun i hi => ?_)
        obtain rfl : i = 2 := List.mem_singleton.1 hi
        refine op_call (some 63) rfl rfl (wanted_none rfl _) (by go_simp; (try with_reducible rfl)) (R := fun v w' => v = .bool q2.ready ∧ St I W w' B ib rb ob 2 s q2 q2) (H101.out.call (H101.out.bo.stillD IM.out (fun v hQ => docReady_any hQ HQ.out hn))) ?_
        clear hi
        rintro v102 w102 ⟨rfl, h102⟩
        have s102 := h102.tk
        have H102 := hideT h102
        clear h102 H101 s101
        refine And.intro s102 ?_
        simp only [Act.put, List.setIfInBounds_toArray, List.set_cons_zero, List.set_cons_succ]
        refine' take_d 3 (some 64) rfl rfl (by kernel_rfl) (by kernel_rfl) (by kernel_rfl) (fun _ _ _ h => h) (wanted_none rfl _) s102 ?tk48 ?rs48
        case tk48 => intro V hV; go_simp; (try with_reducible rfl)
        simp only [Act.put, List.setIfInBounds_toArray, List.set_cons_zero, List.set_cons_succ]
        refine' take_d 4 (some 65) rfl rfl (by kernel_rfl) (by kernel_rfl) (by kernel_rfl) (fun _ _ _ h => h) (wanted_none rfl _) s102 ?tk49 ?rs49
        case tk49 => intro V hV; go_simp; (try with_reducible rfl)
        simp only [Act.put, List.setIfInBounds_toArray, List.set_cons_zero, List.set_cons_succ]
        refine' take_d 5 (some 66) rfl rfl (by kernel_rfl) (by kernel_rfl) (by kernel_rfl) (fun _ _ _ h => h) (by rfl) s102 ?tk50 ?rs50
        case tk50 => intro V hV; go_simp; (try with_reducible rfl)
        simp only [Act.put, List.setIfInBounds_toArray, List.set_cons_zero, List.set_cons_succ]
        refine wpAnyH_all (rs := [6]) (by kernel_rfl) (by simp) (fun i hi => ?_)
        obtain rfl : i = 6 := List.mem_singleton.1 hi
        refine op_call (some 67) rfl rfl (by rfl) (by go_simp; (try with_reducible rfl)) (R := fun v w' => v = .bool q2.last ∧ St I W w' B ib rb ob 2 s q2 q2) (H102.out.call (H102.out.bo.stillI IM.out (fun F hI => IM.out.last hI HQ.out hn))) ?_
        clear hi
        rintro v103 w103 ⟨rfl, h103⟩
        have s103 := h103.tk
        have H103 := hideT h103
        clear h103 H102 s102
        refine And.intro s103 ?_
        simp only [Act.put, List.setIfInBounds_toArray, List.set_cons_zero, List.set_cons_succ]
        refine wpAnyH_all (rs := [7]) (by kernel_rfl) (by simp) (fun i hi => ?_)
        obtain rfl : i = 7 := List.mem_singleton.1 hi
        refine op_call (some 68) rfl rfl (by rfl) (by go_simp; (try with_reducible rfl)) (R := fun v w' => v = .bool q2.last ∧ St I W w' B ib rb ob 2 s q2 q2) (H103.out.call (H103.out.bo.stillD IM.out (fun v hQ => docLast_any hQ HQ.out hn))) ?_
        clear hi
        rintro v104 w104 ⟨rfl, h104⟩
        have s104 := h104.tk
        have H104 := hideT h104
        clear h104 H103 s103
        refine And.intro s104 ?_
        simp only [Act.put, List.setIfInBounds_toArray, List.set_cons_zero, List.set_cons_succ]
        refine' take_d 8 (some 69) rfl rfl (by kernel_rfl) (by kernel_rfl) (by kernel_rfl) (fun _ _ _ h => h) (by rfl) s104 ?tk51 ?rs51
        case tk51 => intro V hV; go_simp; (try with_reducible rfl)
        simp only [Act.put, List.setIfInBounds_toArray, List.set_cons_zero, List.set_cons_succ]
        refine' take_d 9 (some 70) rfl rfl (by kernel_rfl) (by kernel_rfl) (by kernel_rfl) (fun _ _ _ h => h) (wanted_none rfl _) s104 ?tk52 ?rs52
        case tk52 => intro V hV; go_simp; (try with_reducible rfl)
        simp only [Act.put, List.setIfInBounds_toArray, List.set_cons_zero, List.set_cons_succ]
        refine' take_d 10 (some 71) rfl rfl (by kernel_rfl) (by kernel_rfl) (by kernel_rfl) (fun _ _ _ h => h) (wanted_none rfl _) s104 ?tk53 ?rs53
        case tk53 => intro V hV; go_simp; (try with_reducible rfl)
        simp only [Act.put, List.setIfInBounds_toArray, List.set_cons_zero, List.set_cons_succ]
        refine' take_d 11 (some 72) rfl rfl (by kernel_rfl) (by kernel_rfl) (by kernel_rfl) (fun _ _ _ h => h) (by rfl) s104 ?tk54 ?rs54
        case tk54 => intro V hV; go_simp; (try with_reducible rfl)
        simp only [Act.put, List.setIfInBounds_toArray, List.set_cons_zero, List.set_cons_succ]
        refine' take_d 13 (some 74) rfl rfl (by kernel_rfl) (by kernel_rfl) (by kernel_rfl) (fun _ _ _ h => h) (by rfl) s104 ?tk55 ?rs55
        case tk55 => intro V hV; go_simp; (try with_reducible rfl)
        simp only [Act.put, List.setIfInBounds_toArray, List.set_cons_zero, List.set_cons_succ]
        refine' take_d 14 (some 75) rfl rfl (by kernel_rfl) (by kernel_rfl) (by kernel_rfl) (fun _ _ _ h => h) (by rfl) s104 ?tk56 ?rs56
        case tk56 => intro V hV; have hc := hV; go_simp; (try with_reducible rfl)
        simp only [Act.put, List.setIfInBounds_toArray, List.set_cons_zero, List.set_cons_succ]
        refine wpAnyH_all (rs := [12]) (by kernel_rfl) (by simp) (fun i hi => ?_)
        obtain rfl : i = 12 := List.mem_singleton.1 hi
        refine op_call (some 73) rfl rfl (by rfl) (by go_simp; (try with_reducible rfl)) (R := fun v w' => v = .int .i64 (q2.tk : Nat) ∧ St I W w' B ib rb ob 2 s q2 q2) (H104.out.call (H104.out.bo.stillI IM.out (fun F hI => IM.out.number hI HQ.out hn))) ?_
        clear hi
        rintro v105 w105 ⟨rfl, h105⟩
        have s105 := h105.tk
        have H105 := hideT h105
        clear h105 H104 s104
        refine And.intro s105 ?_
        simp only [Act.put, List.setIfInBounds_toArray, List.set_cons_zero, List.set_cons_succ]
        refine' take_d 15 (some 76) rfl rfl (by kernel_rfl) (by kernel_rfl) (by kernel_rfl) (fun _ _ _ h => h) (by rfl) s105 ?tk57 ?rs57
        case tk57 => intro V hV; go_simp; (try with_reducible rfl)
        simp only [Act.put, List.setIfInBounds_toArray, List.set_cons_zero, List.set_cons_succ]
        refine' take_d 16 (some 77) rfl rfl (by kernel_rfl) (by kernel_rfl) (by kernel_rfl) (fun _ _ _ h => h) (wanted_none rfl _) s105 ?tk58 ?rs58
        case tk58 => intro V hV; go_simp; (try with_reducible rfl)
        simp only [Act.put, List.setIfInBounds_toArray, List.set_cons_zero, List.set_cons_succ]
        refine' take_d 17 (some 78) rfl rfl (by kernel_rfl) (by kernel_rfl) (by kernel_rfl) (fun _ _ _ h => h) (wanted_none rfl _) s105 ?tk59 ?rs59
        case tk59 => intro V hV; go_simp; (try with_reducible rfl)
        simp only [Act.put, List.setIfInBounds_toArray, List.set_cons_zero, List.set_cons_succ]
        refine' take_d 18 (some 79) rfl rfl (by kernel_rfl) (by kernel_rfl) (by kernel_rfl) (fun _ _ _ h => h) (by rfl) s105 ?tk60 ?rs60
        case tk60 => intro V hV; go_simp; (try with_reducible rfl)
        simp only [Act.put, List.setIfInBounds_toArray, List.set_cons_zero, List.set_cons_succ]
        refine wpAnyH_all (rs := [19]) (by kernel_rfl) (by simp) (fun i hi => ?_)
        obtain rfl : i = 19 := List.mem_singleton.1 hi
        refine op_call (some 80) rfl rfl (by rfl) (by go_simp; (try with_reducible rfl)) (R := fun v w' => v = .int .i64 (q2.wait : Nat) ∧ St I W w' B ib rb ob 2 s q2 q2) (H105.out.call (H105.out.bo.stillI IM.out (fun F hI => IM.out.waiting hI HQ.out hn))) ?_
        clear hi
        rintro v106 w106 ⟨rfl, h106⟩
        have s106 := h106.tk
        have H106 := hideT h106
        clear h106 H105 s105
        refine And.intro s106 ?_
        simp only [Act.put, List.setIfInBounds_toArray, List.set_cons_zero, List.set_cons_succ]
        refine wpAnyH_all (rs := [20]) (by kernel_rfl) (by simp) (fun i hi => ?_)
        obtain rfl : i = 20 := List.mem_singleton.1 hi
        refine op_call (some 81) rfl rfl (by rfl) (by go_simp; (try with_reducible rfl)) (R := fun v w' => v = .int .i64 (q2.wait : Nat) ∧ St I W w' B ib rb ob 2 s q2 q2) (H106.out.call (H106.out.bo.stillD IM.out (fun v hQ => docWaiting_any hQ HQ.out hn))) ?_
        clear hi
        rintro v107 w107 ⟨rfl, h107⟩
        have s107 := h107.tk
        have H107 := hideT h107
        clear h107 H106 s106
        refine And.intro s107 ?_
        simp only [Act.put, List.setIfInBounds_toArray, List.set_cons_zero, List.set_cons_succ]
        refine' take_d 21 (some 82) rfl rfl (by kernel_rfl) (by kernel_rfl) (by kernel_rfl) (fun _ _ _ h => h) (by rfl) s107 ?tk61 ?rs61
        case tk61 => intro V hV; go_simp; (try with_reducible rfl)
        simp only [Act.put, List.setIfInBounds_toArray, List.set_cons_zero, List.set_cons_succ]
        refine' take_d 22 (some 83) rfl rfl (by kernel_rfl) (by kernel_rfl) (by kernel_rfl) (fun _ _ _ h => h) (wanted_none rfl _) s107 ?tk62 ?rs62
        case tk62 => intro V hV; go_simp; (try with_reducible rfl)
        simp only [Act.put, List.setIfInBounds_toArray, List.set_cons_zero, List.set_cons_succ]
        refine' take_d 23 (some 84) rfl rfl (by kernel_rfl) (by kernel_rfl) (by kernel_rfl) (fun _ _ _ h => h) (wanted_none rfl _) s107 ?tk63 ?rs63
        case tk63 => intro V hV; go_simp; (try with_reducible rfl)
        simp only [Act.put, List.setIfInBounds_toArray, List.set_cons_zero, List.set_cons_succ]
        refine' take_d 24 (some 85) rfl rfl (by kernel_rfl) (by kernel_rfl) (by kernel_rfl) (fun _ _ _ h => h) (by rfl) s107 ?tk64 ?rs64
        case tk64 => intro V hV; go_simp; (try with_reducible rfl)
        simp only [Act.put, List.setIfInBounds_toArray, List.set_cons_zero, List.set_cons_succ]
        refine wpAnyH_all (rs := [25]) (by kernel_rfl) (by simp) (fun i hi => ?_)
        obtain rfl : i = 25 := List.mem_singleton.1 hi
        refine op_call (some 86) rfl rfl (by rfl) (by go_simp; (try with_reducible rfl)) (R := fun v w' => v = .int .i64 (q2.held : Nat) ∧ St I W w' B ib rb ob 2 s q2 q2) (H107.out.call (H107.out.bo.stillI IM.out (fun F hI => IM.out.held hI HQ.out hn))) ?_
        clear hi
        rintro v108 w108 ⟨rfl, h108⟩
        have s108 := h108.tk
        have H108 := hideT h108
        clear h108 H107 s107
        refine And.intro s108 ?_
        simp only [Act.put, List.setIfInBounds_toArray, List.set_cons_zero, List.set_cons_succ]
        refine wpAnyH_all (rs := [26]) (by kernel_rfl) (by simp) (fun i hi => ?_)
        obtain rfl : i = 26 := List.mem_singleton.1 hi
        refine op_call (some 87) rfl rfl (by rfl) (by go_simp; (try with_reducible rfl)) (R := fun v w' => v = .int .i64 (q2.held : Nat) ∧ St I W w' B ib rb ob 2 s q2 q2) (H108.out.call (H108.out.bo.stillD IM.out (fun v hQ => (docHeld_any hQ HQ.out hn).mono (fun _ _ h => ⟨h.1, by rw [h.2]; exact Below.refl _ _⟩)))) ?_
        clear hi
        rintro v109 w109 ⟨rfl, h109⟩
        have s109 := h109.tk
        have H109 := hideT h109
        clear h109 H108 s108
        refine And.intro s109 ?_
        simp only [Act.put, List.setIfInBounds_toArray, List.set_cons_zero, List.set_cons_succ]
        refine' take_d 27 (some 88) rfl rfl (by kernel_rfl) (by kernel_rfl) (by kernel_rfl) (fun _ _ _ h => h) (by rfl) s109 ?tk65 ?rs65
        case tk65 => intro V hV; go_simp; (try with_reducible rfl)
        simp only [Act.put, List.setIfInBounds_toArray, List.set_cons_zero, List.set_cons_succ]
        refine' take_d 28 (some 89) rfl rfl (by kernel_rfl) (by kernel_rfl) (by kernel_rfl) (fun _ _ _ h => h) (wanted_none rfl _) s109 ?tk66 ?rs66
        case tk66 => intro V hV; go_simp; (try with_reducible rfl)
        simp only [Act.put, List.setIfInBounds_toArray, List.set_cons_zero, List.set_cons_succ]
        refine wpAnyH_done (by kernel_rfl) ?_ _
        clear s109
        go_wp2
        exact ⟨⟨k + 1, q2, by omega, by go_num, hideT ⟨H109.out.bo.drop, HQ.out, H109.out.bl⟩⟩, by simp [intOf]; omega⟩
      have k0 : (kd == 0) = false := by rw [beq_eq_false_iff_ne]; exact e0
      have k1 : (kd == 1) = false := by rw [beq_eq_false_iff_ne]; exact e1
      have k2 : (kd == 2) = false := by rw [beq_eq_false_iff_ne]; exact e2
      clear e0 e1 e2
      have HQ := hideT HK.out.more
      go_wp2_with fail
      rw [← hob]
      clear hob
      have h100 := HW.out.drew IM.out
      have s100 := h100.tk
      have H100 := hideT h100
      clear h100 HW
      refine wp_region_held (S := fun V => V.cell? ⟨rb, 1, none⟩ = some (.int .i64 (q.tk : Nat))) (by kernel_rfl) ?_
      refine' take_d 0 (some 61) rfl rfl (by kernel_rfl) (by kernel_rfl) (by kernel_rfl) (fun _ _ _ h => h) (wanted_none rfl _) s100 ?tk67 ?rs67
      case tk67 => intro V hV; go_simp; (try with_reducible rfl)
      simp only [Act.put, List.setIfInBounds_toArray, List.set_cons_zero, List.set_cons_succ]
      refine wpAnyH_all (rs := [1]) (by kernel_rfl) (by simp) (fun i hi => ?_)
      obtain rfl : i = 1 := List.mem_singleton.1 hi
      refine op_call (some 62) rfl rfl (wanted_none rfl _) (by go_simp; (try with_reducible rfl)) (R := fun v w' => v = .bool q.ready ∧ St I W w' B ib rb ob kd s q q) (H100.out.call (H100.out.bo.stillI IM.out (fun F hI => IM.out.ready hI HQ.out hn))) ?_
      clear hi
      rintro v101 w101 ⟨rfl, h101⟩
      have s101 := h101.tk
      have H101 := hideT h101
      clear h101 H100 s100
      refine And.intro s101 ?_
      simp only [Act.put, List.setIfInBounds_toArray, List.set_cons_zero, List.set_cons_succ]
      refine wpAnyH_all (rs := [2]) (by kernel_rfl) (by simp) (fun i hi => ?_)
      obtain rfl : i = 2 := List.mem_singleton.1 hi
      refine op_call (some 63) rfl rfl (wanted_none rfl _) (by go_simp; (try with_reducible rfl)) (R := fun v w' => v = .bool q.ready ∧ St I W w' B ib rb ob kd s q q) (H101.out.call (H101.out.bo.stillD IM.out (fun v hQ => docReady_any hQ HQ.out hn))) ?_
      clear hi
      rintro v102 w102 ⟨rfl, h102⟩
      have s102 := h102.tk
      have H102 := hideT h102
      clear h102 H101 s101
      refine And.intro s102 ?_
      simp only [Act.put, List.setIfInBounds_toArray, List.set_cons_zero, List.set_cons_succ]
      refine' take_d 3 (some 64) rfl rfl (by kernel_rfl) (by kernel_rfl) (by kernel_rfl) (fun _ _ _ h => h) (wanted_none rfl _) s102 ?tk68 ?rs68
      case tk68 => intro V hV; go_simp; (try with_reducible rfl)
      simp only [Act.put, List.setIfInBounds_toArray, List.set_cons_zero, List.set_cons_succ]
      refine' take_d 4 (some 65) rfl rfl (by kernel_rfl) (by kernel_rfl) (by kernel_rfl) (fun _ _ _ h => h) (wanted_none rfl _) s102 ?tk69 ?rs69
      case tk69 => intro V hV; go_simp; (try with_reducible rfl)
      simp only [Act.put, List.setIfInBounds_toArray, List.set_cons_zero, List.set_cons_succ]
      refine' take_d 5 (some 66) rfl rfl (by kernel_rfl) (by kernel_rfl) (by kernel_rfl) (fun _ _ _ h => h) (by rfl) s102 ?tk70 ?rs70
      case tk70 => intro V hV; go_simp; (try with_reducible rfl)
      simp only [Act.put, List.setIfInBounds_toArray, List.set_cons_zero, List.set_cons_succ]
      refine wpAnyH_all (rs := [6]) (by kernel_rfl) (by simp) (fun i hi => ?_)
      obtain rfl : i = 6 := List.mem_singleton.1 hi
      refine op_call (some 67) rfl rfl (by rfl) (by go_simp; (try with_reducible rfl)) (R := fun v w' => v = .bool q.last ∧ St I W w' B ib rb ob kd s q q) (H102.out.call (H102.out.bo.stillI IM.out (fun F hI => IM.out.last hI HQ.out hn))) ?_
      clear hi
      rintro v103 w103 ⟨rfl, h103⟩
      have s103 := h103.tk
      have H103 := hideT h103
      clear h103 H102 s102
      refine And.intro s103 ?_
      simp only [Act.put, List.setIfInBounds_toArray, List.set_cons_zero, List.set_cons_succ]
      refine wpAnyH_all (rs := [7]) (by kernel_rfl) (by simp) (fun i hi => ?_)
      obtain rfl : i = 7 := List.mem_singleton.1 hi
      refine op_call (some 68) rfl rfl (by rfl) (by go_simp; (try with_reducible rfl)) (R := fun v w' => v = .bool q.last ∧ St I W w' B ib rb ob kd s q q) (H103.out.call (H103.out.bo.stillD IM.out (fun v hQ => docLast_any hQ HQ.out hn))) ?_
      clear hi
      rintro v104 w104 ⟨rfl, h104⟩
      have s104 := h104.tk
      have H104 := hideT h104
      clear h104 H103 s103
      refine And.intro s104 ?_
      simp only [Act.put, List.setIfInBounds_toArray, List.set_cons_zero, List.set_cons_succ]
      refine' take_d 8 (some 69) rfl rfl (by kernel_rfl) (by kernel_rfl) (by kernel_rfl) (fun _ _ _ h => h) (by rfl) s104 ?tk71 ?rs71
      case tk71 => intro V hV; go_simp; (try with_reducible rfl)
      simp only [Act.put, List.setIfInBounds_toArray, List.set_cons_zero, List.set_cons_succ]
      refine' take_d 9 (some 70) rfl rfl (by kernel_rfl) (by kernel_rfl) (by kernel_rfl) (fun _ _ _ h => h) (wanted_none rfl _) s104 ?tk72 ?rs72
      case tk72 => intro V hV; go_simp; (try with_reducible rfl)
      simp only [Act.put, List.setIfInBounds_toArray, List.set_cons_zero, List.set_cons_succ]
      refine' take_d 10 (some 71) rfl rfl (by kernel_rfl) (by kernel_rfl) (by kernel_rfl) (fun _ _ _ h => h) (wanted_none rfl _) s104 ?tk73 ?rs73
      case tk73 => intro V hV; go_simp; (try with_reducible rfl)
      simp only [Act.put, List.setIfInBounds_toArray, List.set_cons_zero, List.set_cons_succ]
      refine' take_d 11 (some 72) rfl rfl (by kernel_rfl) (by kernel_rfl) (by kernel_rfl) (fun _ _ _ h => h) (by rfl) s104 ?tk74 ?rs74
      case tk74 => intro V hV; go_simp; (try with_reducible rfl)
      simp only [Act.put, List.setIfInBounds_toArray, List.set_cons_zero, List.set_cons_succ]
      refine' take_d 13 (some 74) rfl rfl (by kernel_rfl) (by kernel_rfl) (by kernel_rfl) (fun _ _ _ h => h) (by rfl) s104 ?tk75 ?rs75
      case tk75 => intro V hV; go_simp; (try with_reducible rfl)
      simp only [Act.put, List.setIfInBounds_toArray, List.set_cons_zero, List.set_cons_succ]
      refine' take_d 14 (some 75) rfl rfl (by kernel_rfl) (by kernel_rfl) (by kernel_rfl) (fun _ _ _ h => h) (by rfl) s104 ?tk76 ?rs76
      case tk76 => intro V hV; have hc := hV; go_simp; (try with_reducible rfl)
      simp only [Act.put, List.setIfInBounds_toArray, List.set_cons_zero, List.set_cons_succ]
      refine wpAnyH_all (rs := [12]) (by kernel_rfl) (by simp) (fun i hi => ?_)
      obtain rfl : i = 12 := List.mem_singleton.1 hi
      refine op_call (some 73) rfl rfl (by rfl) (by go_simp; (try with_reducible rfl)) (R := fun v w' => v = .int .i64 (q.tk : Nat) ∧ St I W w' B ib rb ob kd s q q) (H104.out.call (H104.out.bo.stillI IM.out (fun F hI => IM.out.number hI HQ.out hn))) ?_
      clear hi
      rintro v105 w105 ⟨rfl, h105⟩
      have s105 := h105.tk
      have H105 := hideT h105
      clear h105 H104 s104
      refine And.intro s105 ?_
      simp only [Act.put, List.setIfInBounds_toArray, List.set_cons_zero, List.set_cons_succ]
      refine' take_d 15 (some 76) rfl rfl (by kernel_rfl) (by kernel_rfl) (by kernel_rfl) (fun _ _ _ h => h) (by rfl) s105 ?tk77 ?rs77
      case tk77 => intro V hV; go_simp; (try with_reducible rfl)
      simp only [Act.put, List.setIfInBounds_toArray, List.set_cons_zero, List.set_cons_succ]
      refine' take_d 16 (some 77) rfl rfl (by kernel_rfl) (by kernel_rfl) (by kernel_rfl) (fun _ _ _ h => h) (wanted_none rfl _) s105 ?tk78 ?rs78
      case tk78 => intro V hV; go_simp; (try with_reducible rfl)
      simp only [Act.put, List.setIfInBounds_toArray, List.set_cons_zero, List.set_cons_succ]
      refine' take_d 17 (some 78) rfl rfl (by kernel_rfl) (by kernel_rfl) (by kernel_rfl) (fun _ _ _ h => h) (wanted_none rfl _) s105 ?tk79 ?rs79
      case tk79 => intro V hV; go_simp; (try with_reducible rfl)
      simp only [Act.put, List.setIfInBounds_toArray, List.set_cons_zero, List.set_cons_succ]
      refine' take_d 18 (some 79) rfl rfl (by kernel_rfl) (by kernel_rfl) (by kernel_rfl) (fun _ _ _ h => h) (by rfl) s105 ?tk80 ?rs80
      case tk80 => intro V hV; go_simp; (try with_reducible rfl)
      simp only [Act.put, List.setIfInBounds_toArray, List.set_cons_zero, List.set_cons_succ]
      refine wpAnyH_all (rs := [19]) (by kernel_rfl) (by simp) (fun i hi => ?_)
      obtain rfl : i = 19 := List.mem_singleton.1 hi
      refine op_call (some 80) rfl rfl (by rfl) (by go_simp; (try with_reducible rfl)) (R := fun v w' => v = .int .i64 (q.wait : Nat) ∧ St I W w' B ib rb ob kd s q q) (H105.out.call (H105.out.bo.stillI IM.out (fun F hI => IM.out.waiting hI HQ.out hn))) ?_
      clear hi
      rintro v106 w106 ⟨rfl, h106⟩
      have s106 := h106.tk
      have H106 := hideT h106
      clear h106 H105 s105
      refine And.intro s106 ?_
      simp only [Act.put, List.setIfInBounds_toArray, List.set_cons_zero, List.set_cons_succ]
      refine wpAnyH_all (rs := [20]) (by kernel_rfl) (by simp) (fun i hi => ?_)
      obtain rfl : i = 20 := List.mem_singleton.1 hi
      refine op_call (some 81) rfl rfl (by rfl) (by go_simp; (try with_reducible rfl)) (R := fun v w' => v = .int .i64 (q.wait : Nat) ∧ St I W w' B ib rb ob kd s q q) (H106.out.call (H106.out.bo.stillD IM.out (fun v hQ => docWaiting_any hQ HQ.out hn))) ?_
      clear hi
      rintro v107 w107 ⟨rfl, h107⟩
      have s107 := h107.tk
      have H107 := hideT h107
      clear h107 H106 s106
      refine And.intro s107 ?_
      simp only [Act.put, List.setIfInBounds_toArray, List.set_cons_zero, List.set_cons_succ]
      refine' take_d 21 (some 82) rfl rfl (by kernel_rfl) (by kernel_rfl) (by kernel_rfl) (fun _ _ _ h => h) (by rfl) s107 ?tk81 ?rs81
      case tk81 => intro V hV; go_simp; (try with_reducible rfl)
      simp only [Act.put, List.setIfInBounds_toArray, List.set_cons_zero, List.set_cons_succ]
      refine' take_d 22 (some 83) rfl rfl (by kernel_rfl) (by kernel_rfl) (by kernel_rfl) (fun _ _ _ h => h) (wanted_none rfl _) s107 ?tk82 ?rs82
      case tk82 => intro V hV; go_simp; (try with_reducible rfl)
      simp only [Act.put, List.setIfInBounds_toArray, List.set_cons_zero, List.set_cons_succ]
      refine' take_d 23 (some 84) rfl rfl (by kernel_rfl) (by kernel_rfl) (by kernel_rfl) (fun _ _ _ h => h) (wanted_none rfl _) s107 ?tk83 ?rs83
      case tk83 => intro V hV; go_simp; (try with_reducible rfl)
      simp only [Act.put, List.setIfInBounds_toArray, List.set_cons_zero, List.set_cons_succ]
      refine' take_d 24 (some 85) rfl rfl (by kernel_rfl) (by kernel_rfl) (by kernel_rfl) (fun _ _ _ h => h) (by rfl) s107 ?tk84 ?rs84
      case tk84 => intro V hV; go_simp; (try with_reducible rfl)
      simp only [Act.put, List.setIfInBounds_toArray, List.set_cons_zero, List.set_cons_succ]
      refine wpAnyH_all (rs := [25]) (by kernel_rfl) (by simp) (fun i hi => ?_)
      obtain rfl : i = 25 := List.mem_singleton.1 hi
      refine op_call (some 86) rfl rfl (by rfl) (by go_simp; (try with_reducible rfl)) (R := fun v w' => v = .int .i64 (q.held : Nat) ∧ St I W w' B ib rb ob kd s q q) (H107.out.call (H107.out.bo.stillI IM.out (fun F hI => IM.out.held hI HQ.out hn))) ?_
      clear hi
      rintro v108 w108 ⟨rfl, h108⟩
      have s108 := h108.tk
      have H108 := hideT h108
      clear h108 H107 s107
      refine And.intro s108 ?_
      simp only [Act.put, List.setIfInBounds_toArray, List.set_cons_zero, List.set_cons_succ]
      refine wpAnyH_all (rs := [26]) (by kernel_rfl) (by simp) (fun i hi => ?_)
      obtain rfl : i = 26 := List.mem_singleton.1 hi
      refine op_call (some 87) rfl rfl (by rfl) (by go_simp; (try with_reducible rfl)) (R := fun v w' => v = .int .i64 (q.held : Nat) ∧ St I W w' B ib rb ob kd s q q) (H108.out.call (H108.out.bo.stillD IM.out (fun v hQ => (docHeld_any hQ HQ.out hn).mono (fun _ _ h => ⟨h.1, by rw [h.2]; exact Below.refl _ _⟩)))) ?_
      clear hi
      rintro v109 w109 ⟨rfl, h109⟩
      have s109 := h109.tk
      have H109 := hideT h109
      clear h109 H108 s108
      refine And.intro s109 ?_
      simp only [Act.put, List.setIfInBounds_toArray, List.set_cons_zero, List.set_cons_succ]
      refine' take_d 27 (some 88) rfl rfl (by kernel_rfl) (by kernel_rfl) (by kernel_rfl) (fun _ _ _ h => h) (by rfl) s109 ?tk85 ?rs85
      case tk85 => intro V hV; go_simp; (try with_reducible rfl)
      simp only [Act.put, List.setIfInBounds_toArray, List.set_cons_zero, List.set_cons_succ]
      refine' take_d 28 (some 89) rfl rfl (by kernel_rfl) (by kernel_rfl) (by kernel_rfl) (fun _ _ _ h => h) (wanted_none rfl _) s109 ?tk86 ?rs86
      case tk86 => intro V hV; go_simp; (try with_reducible rfl)
      simp only [Act.put, List.setIfInBounds_toArray, List.set_cons_zero, List.set_cons_succ]
      refine wpAnyH_done (by kernel_rfl) ?_ _
      clear s109
      go_wp2
      exact ⟨⟨k + 1, q, by omega, by go_num, hideT ⟨H109.out.bo.drop, HQ.out, H109.out.bl⟩⟩, by simp [intOf]; omega⟩
    · obtain rfl : k = l.length := by omega
      have i1 : ((l.length : Int) < (l.length : Int)) = False := by rw [eq_iff_iff, iff_false]; omega
      go_wp2
      go_ret
      exact ⟨rfl, HI.out.2.2⟩
end Go.Proofs.Ytpdmfopkcdphaaa
