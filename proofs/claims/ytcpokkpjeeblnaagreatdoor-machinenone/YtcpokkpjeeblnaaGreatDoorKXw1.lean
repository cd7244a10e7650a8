/- script: table. -/
import Derived.Test.YtcpokkpjeeblnaaGreatDoorKBa
import Derived.Test.YtcpokkpjeeblnaaGreatDoorKXa
import Derived.Test.YtcpokkpjeeblnaaGreatDoorKXw
import Derived.Test.YtcpokkpjeeblnaaGreatDoorKXs1
import Derived.Test.YtcpokkpjeeblnaaGreatDoorKMf
import Derived.Test.YtcpokkpjeeblnaaGreatDoorKCk
import Derived.Laws.EntriesVeiled
import Derived.Test.YtcpokkpjeeblnaaGreatDoorRows
import Derived.LaidHandle
import Derived.Lay
set_option maxRecDepth 100000
set_option maxHeartbeats 4000000
namespace Go.Proofs.YtcpokkpjeeblnaaGreatDoor
open Go.RowKit
open scanP scrP tpl ytb
variable {P : Prop} {i : Nat}
theorem bxw10 (h : P := by
 have d0 := H8.out.m.cell 0 (v := .int .i64 c.pl) rfl;by_cases hbad : f.length ≠ t.length \/ twB f = true
 ·rw [if_pos hbad] at hE R1;have HN1 := hideT (xc4 E c.pl (by rw [hE]; decide));rw [hE] at HN1;subst hE
  go_wp2_with fail
  refine (HN1.out _).mono ?_;rintro x w9 ⟨rfl, rfl⟩;go_wp2;rw [R1.out];exact ⟨rfl, rfl, T9.out⟩
 ·rw [if_neg hbad] at hE R1;have HN1 := hideT (xdx c.pl);subst hE
  go_wp2_with fail
  refine (HN1.out _).mono ?_;rintro x w9 ⟨rfl, rfl⟩;go_wp2
  go_end0
  rw [R1.out];exact ⟨rfl, H8.out.r, T9.out, pv, H8.out.m, H8.out.p⟩) : P := h
theorem bxw11 (h : P := by
 have u3 := ytb.put2 u0 (.int .i64 0) (.int .i64 0);refine bodyPost_ret (tpl.fault_result (b := w.heap.size) (fr := (0, 0)) rfl rfl u3) rfl ?_;refine ⟨(u2.setCell (p := ⟨w.heap.size, 0, none⟩) qr _).setCell (p := ⟨w.heap.size, 1, none⟩) qr _, .inl ⟨trivial, w2.heap.size, rfl, ?_⟩⟩;refine (World.cell?_of_block ((put_far _ w.heap.size 1 _ HNE.out).trans (put_far _ w.heap.size 0 _ HNE.out))).trans ?_;simp only [World.cell?, u1]; rfl) : P := h
theorem bxw12 (h : P := by
 split at h
 ·cases h
 ·have := xen n (by exact hc) h; exact ⟨this.pl, this.nm, this.a, this.b, this.lb, this.tx, this.fr, this.to, this.nh⟩) : P := h
theorem bxw13 (h : P := by
 rename_i hm;rw [if_pos hm];split at h
 ·cases h
 ·rename_i ha;rw [if_neg ha];exact xmv l r n (xct hm) (by omega) h) : P := h
theorem bxw14 (h : P := by
 unfold br.tokenT;rw [if_neg (by decide), if_neg (by decide), if_neg (by decide), if_neg (by decide), if_neg (by decide), if_neg (by decide)];rfl) : P := h
theorem bxw15 (h : P := by
 rw [this, Bool.false_and, Bool.or_false] at hb;obtain ⟨d, a, b, e⟩ := h.la t ht hb;exact ⟨d, a, by simp only at *; omega, e⟩) : P := h
theorem xp8 {P : Program} {ops : Array Oper} {Q : Exit -> Act -> World -> Prop} {o : Oper} {K : Act -> World -> Prop} {a : Act} {w : World} {f : FuncId} {args : Array Value} {R : Value -> World -> Prop} (d : Option Tmp) (hi : ops[i]? = some o) (hd : o.dst = d) (hw : Region.wanted o (yielded ops a.tmps) = true) (hx : (execOp a.eval o).run P w = .ok (.enter f args) w) (hc : Calls P f args w fun e w' => ∃ v, e = .returned v /\ R v w') (h : ∀ v w', R v w' -> K (a.put d v) w') : wpOp P ops Q i K a w := by
 unfold wpOp;rw [hi];dsimp only;rw [if_pos hw];refine .inl ?_;unfold Oper.wp;rw [hx];refine Calls.mono hc ?_;rintro e w' ⟨v, rfl, hR⟩;show K (a.put o.dst v) w'
 rw [hd];exact h v w' hR
theorem xp9 {b g B : Nat} {s : ByteArray} {c : Co} {pv : Value} (w : World) (h : Both w b g B s i c pv) (hi : i <= s.size) (hs : s.size <= 4096) : Calls Tryz.prog 174 #[.pointer (some ⟨b, 0, none⟩), .pointer (some ⟨g, 0, none⟩)] w (PC b g B s w (tabR s.data.toList c i)) := by
 generalize hRR : tabR s.data.toList c i = RR;have HRR := hideT hRR;have HH := hideT h;have d0 := h.m.cell 0 (v := .int .i64 c.pl) rfl;clear hRR h;go_enter Tryz.func174, Tryz.ntmps174
 go_wp2_with fail
 refine (xcx 19 c.pl w HH.out.r hi hs).mono ?_;intro e w1 hp;rcases hd : delR s.data.toList i 19 c.pl with x | ⟨d, j⟩
 ·rw [hd] at hp;obtain ⟨rfl, ht⟩ := hp;have T := hideT (ht.wide (g := g));have ER := hideT (show RR = .error x by rw [<- HRR.out]; unfold tabR; rw [hd]);clear ht hd HRR;go_wp2;rw [ER.out];exact ⟨rfl, rfl, T.out⟩
 rw [hd] at hp;obtain ⟨rfl, hr, ht⟩ := hp;obtain ⟨rfl, hj, _, _⟩ := xb4 hd;have H1 := hideT (HH.out.step hr ht);have T1 := hideT (ht.wide (g := g));have R1 := hideT (show tabR s.data.toList c i = (match sidR s.data.toList d c.pl (i + 1) with
  | .error x => .error x
  | .ok (f, k) => match sidR s.data.toList d c.pl k with
   | .error x => .error x
   | .ok (t, m) => if f.length ≠ t.length \/ twB f = true then .error (21, c.pl) else .ok ({ c with fr := f, to := t }, m)) by unfold tabR; rw [hd]; first | done | rfl)
 rw [HRR.out] at R1;clear hr ht hd HRR HH d0;have d0 := H1.out.m.cell 0 (v := .int .i64 c.pl) rfl
 go_wp2_with fail
 refine (xl5 d c.pl w1 H1.out.r hj hs).mono ?_;intro e w2 hp;rcases hd : sidR s.data.toList d c.pl (i + 1) with x | ⟨f, k⟩
 ·rw [hd] at hp R1;obtain ⟨rfl, ht⟩ := hp;have T := hideT (T1.out.more (ht.wide (g := g)));clear ht hd;go_wp2;rw [R1.out];exact ⟨rfl, rfl, T.out⟩
 rw [hd] at hp R1;obtain ⟨rfl, hr, ht⟩ := hp;have hkl := xkc hd hj;have hfl := xir (sid_sz hd hj) hs;have H2 := hideT (H1.out.step hr ht);have T2 := hideT (T1.out.more (ht.wide (g := g)));clear hr ht hd T1 H1 d0;have d17 := H2.out.m.cell 17 (v := .string (bst c.fr)) rfl;have f17 := H2.out.m.fz 17;have d0 := H2.out.m.cell 0 (v := .int .i64 c.pl) rfl;have H3 := hideT (H2.out.set 17 (.string (bst f)) (c' := { c with fr := f }) rfl rfl);have T3 := hideT (T2.out.putg 17 (.string (bst f)))
 go_wp2_with fail
 clear d0 d17 f17 H2 T2;generalize w2.setCell ⟨g, 17, none⟩ (.string (bst f)) = W3 at *;refine (xl5 d c.pl W3 H3.out.r hkl hs).mono ?_;intro e w4 hp;rcases hd : sidR s.data.toList d c.pl k with x | ⟨t, m⟩
 ·rw [hd] at hp R1;obtain ⟨rfl, ht⟩ := hp;have T := hideT (T3.out.more (ht.wide (g := g)));clear ht hd;go_wp2;rw [R1.out];exact ⟨rfl, rfl, T.out⟩
 rw [hd] at hp R1;obtain ⟨rfl, hr, ht⟩ := hp;have H4 := hideT (H3.out.step hr ht);have T4 := hideT (T3.out.more (ht.wide (g := g)));clear hr ht hd T3 H3;have d18 := H4.out.m.cell 18 (v := .string (bst c.to)) rfl;have f18 := H4.out.m.fz 18;have H5 := hideT (H4.out.set 18 (.string (bst t)) (c' := { c with fr := f, to := t }) rfl rfl);have T5 := hideT (T4.out.putg 18 (.string (bst t)))
 go_wp2_with fail
 clear d18 f18 H4 T4;have d0 : True := trivial;generalize w4.setCell ⟨g, 18, none⟩ (.string (bst t)) = W5 at *;clear d0;have d0 := H5.out.m.cell 0 (v := .int .i64 c.pl) rfl;have d17 := H5.out.m.cell 17 (v := .string (bst f)) rfl;have d18 := H5.out.m.cell 18 (v := .string (bst t)) rfl;have HNW := hideT (fun W => new_any (bst f) (bst t) (by rw [xbt]; omega) W);rw [xbu, xbu] at HNW;have hone := new_one f t;have hE : (newR f t).2 = if f.length ≠ t.length \/ twB f = true then 21 else 0 := by unfold newR; split <;> rfl
 have hAl := xb3 (newR f t).1;generalize arV (newR f t).1 = A at *;generalize (newR f t).2 = E at *;have hZ : ∀ w, (zeroValue 208).run Tryz.prog w = .ok (.agg (arV fun _ => .int .u8 0).toArray) w := (zero_of_info inf31).1;have hZl := xb3 (fun _ => .int .u8 0);generalize (arV fun _ => Value.int .u8 0) = Z at *;have s0 : W5.drew.cell? ⟨g, 17, none⟩ = some (.string (bst f)) /\ W5.drew.cell? ⟨g, 18, none⟩ = some (.string (bst t)) := ⟨d17, d18⟩;refine wp_region_held (S := fun V => V.cell? ⟨g, 17, none⟩ = some (.string (bst f)) /\ V.cell? ⟨g, 18, none⟩ = some (.string (bst t))) (by kernel_rfl) ?_;refine tq 0 34 s0 ?_;refine tq 1 35 s0 ?_;refine tq 2 36 s0 ?_;refine tq 3 37 s0 ?_ (hy := by intro V hV; have hc := hV.1; go_simp; (try with_reducible rfl));refine tq 4 38 s0 ?_;refine tq 5 39 s0 ?_;refine tq 6 40 s0 ?_;refine tq 7 41 s0 ?_ (hy := by intro V hV; have hc := hV.2; go_simp; (try with_reducible rfl));refine wpAnyH_all (rs := [8, 12]) (by kernel_rfl) (by simp) (fun i hi => ?_);simp only [List.mem_cons, List.not_mem_nil, or_false] at hi;rcases hi with rfl | rfl
 ·simp only [Act.put, List.setIfInBounds_toArray, List.set_cons_succ, List.set_cons_zero];refine xp8 (some 42) rfl rfl (wanted_none rfl _) (by go_simp; (try with_reducible rfl)) (R := fun u w' => u = .tuple #[.agg A.toArray, .int .i64 E] /\ Below W5.drew.heap.size W5.drew w') ((HNW.out _).mono (fun e w' h => ⟨_, h.1, rfl, h.2⟩)) ?_;rintro u w6 ⟨rfl, hb⟩;have s1 : w6.cell? ⟨g, 17, none⟩ = some (.string (bst f)) /\ w6.cell? ⟨g, 18, none⟩ = some (.string (bst t)) := ⟨keep_cell hb s0.1, keep_cell hb s0.2⟩;refine ⟨s1, ?_⟩;refine tq 9 33 s1 ?_;refine tq 10 43 s1 ?_;refine tq 11 44 s1 ?_;refine wpAnyH_all (rs := [12]) (by kernel_rfl) (by simp) (fun i hi => ?_);obtain rfl : i = 12 := by simpa using hi
  simp only [Act.put, List.setIfInBounds_toArray, List.set_cons_succ, List.set_cons_zero];have hA := Bal w6 (.cells Z.toArray 208);have hN := heap_alloc_new w6 (.cells Z.toArray 208);refine op_value (some 5) (w' := w6.alloc (.cells Z.toArray 208)) (v := .pointer (some ⟨w6.heap.size, 0, none⟩)) rfl rfl (wanted_none rfl _) (by go_simp; (try with_reducible rfl)) ?_;have s2 := And.intro (keep_cell hA s1.1) (keep_cell hA s1.2);refine ⟨s2, ?_⟩;have TW := hideT (Tch.of (F := fun _ => False) (hb.trans (hA.mono hb.size))).und;have HN := hideT hN;have hNB : W5.heap.size <= w6.heap.size := hb.size;have hgn : g ≠ w6.heap.size := by have := xah H5.out.m; omega
  clear hb hA hN;generalize w6.alloc (.cells Z.toArray 208) = W7 at *;refine wpAnyH_all (rs := [13]) (by kernel_rfl) (by simp) (fun i hi => ?_);obtain rfl : i = 13 := by simpa using hi
  simp only [Act.put, List.setIfInBounds_toArray, List.set_cons_succ, List.set_cons_zero];have hsz : A.toArray.size = 256 := hAl;refine op_of rfl (wanted_none rfl _) (wp_store_mid 208 _ _ rfl w6.heap.size 0 A.toArray rfl rfl (by rw [hsz]; exact xcd HN.out 256 hZl) (by rw [xlu, hsz]) (by rw [Array.all_eq_true_iff_forall_mem]; exact fun u hu => hone u (by simpa using hu)) ?_);have T8 := hideT (Tch.newC (TW.out) hNB A 0);have s3 : (W7.setCells w6.heap.size 0 A).cell? ⟨g, 17, none⟩ = some (.string (bst f)) /\ (W7.setCells w6.heap.size 0 A).cell? ⟨g, 18, none⟩ = some (.string (bst t)) := ⟨(World.cell?_of_block (xbg W7 w6.heap.size hgn A 0)).trans s2.1, (World.cell?_of_block (xbg W7 w6.heap.size hgn A 0)).trans s2.2⟩;refine ⟨s3, ?_⟩;refine tq 14 6 s3 ?_;refine wpAnyH_done (by kernel_rfl) ?_ _;simp only [Act.put, List.setIfInBounds_toArray];have H8 := hideT (H5.out.tch T8.out);have T9 := hideT (T5.out.more (T8.out.mono (fun _ h => h.elim)));generalize W7.setCells w6.heap.size 0 A = W8 at *;exact bxw10
 ·simp only [Act.put, List.setIfInBounds_toArray, List.set_cons_succ, List.set_cons_zero];have hA := (Below.refl W5.drew.heap.size W5.drew).alloc qr (.cells Z.toArray 208);have hN := heap_alloc_new W5.drew (.cells Z.toArray 208);refine op_value (some 5) (w' := W5.drew.alloc (.cells Z.toArray 208)) (v := .pointer (some ⟨W5.drew.heap.size, 0, none⟩)) rfl rfl (wanted_none rfl _) (by go_simp; (try with_reducible rfl)) ?_;have s1 := And.intro (keep_cell hA s0.1) (keep_cell hA s0.2);refine ⟨s1, ?_⟩;have TA := hideT (Tch.of (F := fun _ => False) hA).und;have hgn : g ≠ W5.drew.heap.size := by have := xah H5.out.m; show g ≠ W5.heap.size; omega
  have hNB : W5.heap.size <= W5.drew.heap.size := Nat.le_refl _;generalize W5.drew.alloc (.cells Z.toArray 208) = W6 at *;refine wpAnyH_all (rs := [8]) (by kernel_rfl) (by simp) (fun i hi => ?_);obtain rfl : i = 8 := by simpa using hi
  simp only [Act.put, List.setIfInBounds_toArray, List.set_cons_succ, List.set_cons_zero];refine xp8 (some 42) rfl rfl (wanted_none rfl _) (by go_simp; (try with_reducible rfl)) (R := fun u w' => u = .tuple #[.agg A.toArray, .int .i64 E] /\ Below W6.heap.size W6 w') ((HNW.out _).mono (fun e w' h => ⟨_, h.1, rfl, h.2⟩)) ?_;rintro u W7 ⟨rfl, hb⟩;have s2 : W7.cell? ⟨g, 17, none⟩ = some (.string (bst f)) /\ W7.cell? ⟨g, 18, none⟩ = some (.string (bst t)) := ⟨keep_cell hb s1.1, keep_cell hb s1.2⟩;refine ⟨s2, ?_⟩;have TW := hideT (TA.out.more (Tch.of (F := fun _ => False) hb));have HN := hideT ((hb.block _ (xah hN)).trans hN);generalize W5.drew.heap.size = NB at *;clear hb hA hN;refine tq 9 33 s2 ?_;refine tq 10 43 s2 ?_;refine tq 11 44 s2 ?_;refine wpAnyH_all (rs := [13]) (by kernel_rfl) (by simp) (fun i hi => ?_);obtain rfl : i = 13 := by simpa using hi
  simp only [Act.put, List.setIfInBounds_toArray, List.set_cons_succ, List.set_cons_zero];have hsz : A.toArray.size = 256 := hAl;refine op_of rfl (wanted_none rfl _) (wp_store_mid 208 _ _ rfl NB 0 A.toArray rfl rfl (by rw [hsz]; exact xcd HN.out 256 hZl) (by rw [xlu, hsz]) (by rw [Array.all_eq_true_iff_forall_mem]; exact fun u hu => hone u (by simpa using hu)) ?_);have T8 := hideT (Tch.newC (TW.out) hNB A 0);have s3 : (W7.setCells NB 0 A).cell? ⟨g, 17, none⟩ = some (.string (bst f)) /\ (W7.setCells NB 0 A).cell? ⟨g, 18, none⟩ = some (.string (bst t)) := ⟨(World.cell?_of_block (xbg W7 NB hgn A 0)).trans s2.1, (World.cell?_of_block (xbg W7 NB hgn A 0)).trans s2.2⟩;refine ⟨s3, ?_⟩;refine tq 14 6 s3 ?_;refine wpAnyH_done (by kernel_rfl) ?_ _;simp only [Act.put, List.setIfInBounds_toArray];have H8 := hideT (H5.out.tch T8.out);have T9 := hideT (T5.out.more (T8.out.mono (fun _ h => h.elim)));generalize W7.setCells NB 0 A = W8 at *;exact bxw10
theorem tabOk : xop := fun _ _ _ _ _ _ _ w h hi hs => xp9 w h hi hs
theorem xqa (w : World) (o1 o2 : Obj) : Below w.heap.size w ((w.alloc o1).alloc o2) /\ ((w.alloc o1).alloc o2).heap[w.heap.size]? = some o1 /\ ((w.alloc o1).alloc o2).heap[w.heap.size + 1]? = some o2 := by
 have e1 : (w.alloc o1).heap.size = w.heap.size + 1 := by simp
 have hA := Bal w o1;have hA2 := (Below.refl (w.alloc o1).heap.size (w.alloc o1)).alloc qr o2;refine ⟨hA.trans (hA2.mono hA.size), (hA2.block _ (by rw [e1]; omega)).trans (heap_alloc_new w o1), ?_⟩;rw [<- e1];exact heap_alloc_new _ _
noncomputable def gM : Gr := fun t => ((br.ofM (bst t)).2.1.toNat, (br.ofM (bst t)).1.groups.toNat)
theorem xqb (s : ByteArray) : 0 <= (br.ofM s).1.groups := by
 unfold br.ofM;cases h : br.parseT s with
 | ok ts => exact (br.parse_measure s ts h).2.2.1
 | error x => exact Int.le_refl 0
theorem newOk (hpos : ∀ s, 0 <= (br.ofM s).2.1) : xf2 gM := by
 intro t w ht hg;have hmf : ∀ (fn : Fn) (first cap : Array Value) (w : World), (Instr.makeFunc fn first cap).run Tryz.prog w = .ok (.func fn first cap) w := fun _ _ _ _ => rfl;have hA := Bal w (.cells #[.int .i64 0, .int .i64 0] 45);have hN := heap_alloc_new w (.cells #[.int .i64 0, .int .i64 0] 45);have HO := hideT (br.mOf_any (bst t) (w.alloc (.cells #[.int .i64 0, .int .i64 0] 45)) (show br.Glob _ from (hg.stay (Tch.of (F := fun _ => False) hA) (fun _ h => h.elim)).1));have hp := hpos (bst t);have hgr := xqb (bst t);have HE : gM t = ((br.ofM (bst t)).2.1.toNat, (br.ofM (bst t)).1.groups.toNat) := rfl;rw [HE];clear HE hpos;generalize br.ofM (bst t) = M at *;obtain ⟨⟨m1, m2, m3, m4, m5, m6, m7⟩, e, p⟩ := M;simp only at hp hgr HO ⊢;obtain ⟨en, rfl⟩ := Int.eq_ofNat_of_zero_le hp;obtain ⟨gn, rfl⟩ := Int.eq_ofNat_of_zero_le hgr;simp only [Int.toNat_natCast];have HA := hideT (And.intro hA hN);have HC := hideT (fun w => prg.clone_any (bst t) w (by rw [xbt]; omega));clear hA hN hp hgr hg;by_cases he : en = 0
 ·subst he;go_enter Tryz.func72, Tryz.ntmps72
  go_wp2_with fail
  generalize w.alloc (.cells #[.int .i64 0, .int .i64 0] 45) = Y at *;refine HO.out.mono ?_;rintro x w1 ⟨rfl, hb⟩;have N1 := (hb.block _ (xah HA.out.2)).trans HA.out.2;have B1 := HA.out.1.trans (hb.mono HA.out.1.size);obtain ⟨hB2, k1, k2⟩ := xqa w1 (.cells #[.int .i64 m1, .int .i64 gn, .int .i64 m3, .int .i64 m4, .bool m5, .bool m6, .bool m7] 187) (.cells #[.int .i64 ((0 : Nat) : Int), .int .i64 p] 45);have hw1 := xah N1;have N2 := (hB2.block _ hw1).trans N1;have B2 := B1.trans (hB2.mono B1.size);have K := hideT (And.intro N2 (And.intro k1 (And.intro k2 B2)));clear hb HO HA N1 B1 hB2 k1 k2 N2 B2;simp only [br.Ms.arr]
  go_wp2_with fail
  generalize (w1.alloc (.cells #[.int .i64 m1, .int .i64 gn, .int .i64 m3, .int .i64 m4, .bool m5, .bool m6, .bool m7] 187)).alloc (.cells #[.int .i64 ((0 : Nat) : Int), .int .i64 p] 45) = V at *;refine (HC.out V).mono ?_;rintro x w2 ⟨rfl, hb2⟩;obtain ⟨h0, h1, h2, h3⟩ := K.out;have g1 := (hb2.block _ (xah h1)).trans h1;have g0 := (hb2.block _ (xah h0)).trans h0;have B3 := h3.trans (hb2.mono h3.size);have hA := (Below.refl w2.heap.size w2).alloc qr;have q1 := clq 1 g1 rfl;have hlt1 := xah g1;have hlt0 := xah g0;have q4 : ∀ o, (w2.alloc o).cell? ⟨w1.heap.size, 4, none⟩ = some (.bool m5) := fun o => by rw [World.cell?_alloc_lt _ _ _ hlt1]; simp [World.cell?, g1]
  have r0 : ∀ o, (w2.alloc o).cell? ⟨w.heap.size, 0, none⟩ = some (.int .i64 0) := fun o => by rw [World.cell?_alloc_lt _ _ _ hlt0]; simp [World.cell?, g0]
  have r1 : ∀ o, (w2.alloc o).cell? ⟨w.heap.size, 1, none⟩ = some (.int .i64 0) := fun o => by rw [World.cell?_alloc_lt _ _ _ hlt0]; simp [World.cell?, g0]
  have z0 : ∀ o, (w2.alloc o).frozen? ⟨w.heap.size, 0, none⟩ = false := fun o => by rw [World.frozen?_alloc_old _ _ _ (Nat.ne_of_lt hlt0)]; simp [World.frozen?, g0]
  have z1 : ∀ o, (w2.alloc o).frozen? ⟨w.heap.size, 1, none⟩ = false := fun o => by rw [World.frozen?_alloc_old _ _ _ (Nat.ne_of_lt hlt0)]; simp [World.frozen?, g0]
  have KN : ∀ fv, Hid ((w2.alloc (.cells #[.string (bst t), .int .i64 gn, fv, .int .i64 0] 194)).heap[w.heap.size]? = some (.cells #[.int .i64 0, .int .i64 0] 45) /\ (w2.alloc (.cells #[.string (bst t), .int .i64 gn, fv, .int .i64 0] 194)).heap[w2.heap.size]? = some (.cells #[.string (bst t), .int .i64 gn, fv, .int .i64 0] 194) /\ Below w.heap.size w (w2.alloc (.cells #[.string (bst t), .int .i64 gn, fv, .int .i64 0] 194))) := fun fv => by
   have hX := Bal w2 (.cells #[.string (bst t), .int .i64 gn, fv, .int .i64 0] 194);exact hideT ⟨(hX.block _ hlt0).trans g0, heap_alloc_new w2 _, B3.trans (hX.mono B3.size)⟩
  have hne : w2.heap.size ≠ w.heap.size := by omega
  have HNE := hideT hne;clear h0 h1 h2 h3 g0 g1 B3 K hb2 HC hA hlt0 hlt1 hw1 hne;cases m5 with
  | false =>
   go_wp2;obtain ⟨u0, u1, u2⟩ := (KN (.func (.func 104) #[.string (bst t)] #[])).out;exact bxw11
  | true =>
   go_wp2;obtain ⟨u0, u1, u2⟩ := (KN (.func (.func 105) #[.string (bst t)] #[])).out;exact bxw11
 ·have c1 : ((en : Int) != 0) = true := qb;go_enter Tryz.func72, Tryz.ntmps72
  go_wp2_with fail
  generalize w.alloc (.cells #[.int .i64 0, .int .i64 0] 45) = Y at *;refine HO.out.mono ?_;rintro x w1 ⟨rfl, hb⟩;have N1 := (hb.block _ (xah HA.out.2)).trans HA.out.2;have B1 := HA.out.1.trans (hb.mono HA.out.1.size);obtain ⟨hB2, k1, k2⟩ := xqa w1 (.cells #[.int .i64 m1, .int .i64 gn, .int .i64 m3, .int .i64 m4, .bool m5, .bool m6, .bool m7] 187) (.cells #[.int .i64 ((en : Nat) : Int), .int .i64 p] 45);have hw1 := xah N1;have N2 := (hB2.block _ hw1).trans N1;have B2 := B1.trans (hB2.mono B1.size);have K := hideT (And.intro N2 (And.intro k1 (And.intro k2 B2)));clear hb HO HA N1 B1 hB2 k1 k2 N2 B2;simp only [br.Ms.arr]
  go_wp2_with fail
  generalize hV : (w1.alloc (.cells #[.int .i64 m1, .int .i64 gn, .int .i64 m3, .int .i64 m4, .bool m5, .bool m6, .bool m7] 187)).alloc (.cells #[.int .i64 ((en : Nat) : Int), .int .i64 p] 45) = V at *;clear hV;obtain ⟨h0, h1, h2, h3⟩ := K.out;have a0 := clq 0 h2 rfl;have a1 := clq 1 h2 rfl;have b0 := clq 0 h0 rfl;have b1 := clq 1 h0 rfl;have z0 := fzq 0 h0;have z1 := fzq 1 h0;have HF := hideT (ytb.put2 h0 (.int .i64 en) (.int .i64 p));have B3 := hideT ((h3.setCell (p := ⟨w.heap.size, 0, none⟩) qr (.int .i64 en)).setCell (p := ⟨w.heap.size, 1, none⟩) qr (.int .i64 p));clear h0 h1 h2 h3 K;go_region
  all_goals
   go_wp2;generalize (V.setCell ⟨w.heap.size, 0, none⟩ (.int .i64 en)).setCell ⟨w.heap.size, 1, none⟩ (.int .i64 p) = V2 at *;refine bodyPost_ret (tpl.fault_result (b := w.heap.size) (fr := (0, 0)) rfl rfl HF.out) rfl ?_;exact ⟨B3.out.drew, .inr ⟨he, p, rfl⟩⟩
end Go.Proofs.YtcpokkpjeeblnaaGreatDoor
namespace Go.Proofs.YtcpokkpjeeblnaaGreatDoor
open Go.RowKit
open scanP scrP tpl ytb
namespace br
theorem xqc (s : ByteArray) : 0 <= xi9 s := cc0 s
theorem mark_pos (s : ByteArray) (i : Nat) : 0 <= (xa2 s i).e := by
 unfold xa2;split
 ·show (0 : Int) <= 6; decide
 ·split
  ·exact xqc _
  ·split
   ·exact Int.le_refl 0
   ·show (0 : Int) <= 8; decide
theorem xmo (s : ByteArray) (i : Nat) : 0 <= (xa4 s i).e := by
 unfold xa4;split
 ·split
  ·exact mark_pos s i
  ·exact Int.le_refl 0
 ·show (0 : Int) <= 6; decide
theorem xqd (s : ByteArray) (a : It) : 0 <= (xg4 s a).e := by
 have h := xmo s (a.next + 1);unfold xg4;split
 ·show (0 : Int) <= 6; decide
 ·split
  ·show (0 : Int) <= 7; decide
  ·split
   ·exact h
   ·split
    ·show (0 : Int) <= 7; decide
    ·exact Int.le_refl 0
theorem xqe (s : ByteArray) (i : Nat) : 0 <= (xa6 s i).e := by
 have h := xmo s i;unfold xa6;split
 ·exact h
 ·split
  ·exact xqd s _
  ·exact Int.le_refl 0
theorem xib (s : ByteArray) : ∀ (f : Nat) (b : Bool) (q : Nat -> Bool) (i : Nat), 0 <= (xbe s f b q i).e
 | 0, b, q, i => by rw [xbe]; show (0 : Int) <= 6; decide
 | f + 1, b, q, i => by
  have h := xqe s i;rw [xbe];split
  ·exact Int.le_refl 0
  ·split
   ·exact h
   ·exact xib s f _ _ _
theorem xnx (s : ByteArray) (i : Nat) : 0 <= (xco s i).e := by
 have h1 := xib s (s.size + 2) true xad (i + 1);have h2 := xib s (s.size + 2) true xad (i + 2);unfold xco;split
 ·split
  ·split
   ·exact h2
   ·exact Int.le_refl 0
  ·split
   ·exact h1
   ·exact Int.le_refl 0
 ·show (0 : Int) <= 1; decide
theorem xny (s : ByteArray) (x : Int) : 0 <= (xay s x).e := by
 unfold xay;split
 ·exact xnx s _
 ·show (0 : Int) <= 1; decide
theorem xld (s : ByteArray) (i : Nat) : 0 <= (xcp s i).e := by
 have h := xny s i;unfold xcp;split
 ·exact h
 ·exact Int.le_refl 0
theorem xjx (s : ByteArray) (i : Nat) : 0 <= (xbm s i).e := by
 unfold xbm ivlT;dsimp only
 repeat' split
 all_goals first | exact Int.le_refl 0 | (show (0 : Int) <= 9; decide)
theorem xnz (s : ByteArray) (i k : Nat) : 0 <= (xc6 s i k).e := by
 have h := xjx s i;unfold xc6;split
 ·show (0 : Int) <= 6; decide
 ·unfold escB
  repeat' split
  all_goals first | exact h | exact Int.le_refl 0 | (show (0 : Int) <= 9; decide) | (show (0 : Int) <= 12; decide)
theorem xqf (s : ByteArray) (i k : Nat) : 0 <= (tokenT s i k).e := by
 have h1 := xnz s i k;have h2 := xld s i;unfold tokenT;split
 ·exact h1
 ·split
  ·exact h2
  ·repeat' split
   all_goals exact Int.le_refl 0
theorem xdi (P : Ps) : 0 <= P.grown.1 := by
 show 0 <= bigE P.size
 unfold bigE;split <;> decide
theorem take_pos (P : Ps) (t : Tk) (h : 0 <= t.e) : 0 <= (P.take t).1 := by
 unfold Ps.take;split
 ·exact h
 ·exact xdi _
 ·exact xdi _
 ·exact xdi _
 ·split
  ·show (0 : Int) <= 4; decide
  ·exact Int.le_refl 0
 ·split
  ·show (0 : Int) <= 10; decide
  ·exact Int.le_refl 0
 ·split
  ·exact xdi _
  ·show (0 : Int) <= 11; decide
 ·split
  ·exact Int.le_refl 0
  ·exact xdi _
theorem xqg (s : ByteArray) : ∀ (f i k : Nat) (P : Ps) (e : Int) (p : Nat), runT s f i k P = .error (e, p) -> 0 <= e
 | 0, i, k, P, e, p, h => by rw [runT] at h; cases h
 | f + 1, i, k, P, e, p, h => by
  rw [runT] at h;split at h
  ·split at h
   ·exact xqg s f _ _ _ e p h
   ·cases h; exact take_pos P _ (xqf s i k)
  ·cases h
theorem xn0 (s : ByteArray) (e : Int) (p : Nat) (h : parseT s = .error (e, p)) : 0 <= e := by
 unfold parseT at h;split at h
 ·cases h; decide
 ·split at h
  ·rename_i x hx;cases h;exact xqg s _ _ _ _ e p hx
  ·split at h
   ·cases h
   ·cases h; decide
theorem of_pos (s : ByteArray) : 0 <= (ofM s).2.1 := by
 unfold ofM;cases h : parseT s with
 | ok ts => exact Int.le_refl 0
 | error x => obtain ⟨e, p⟩ := x; exact xn0 s e p h
end br
theorem new_ok : xf2 gM := newOk br.of_pos
end Go.Proofs.YtcpokkpjeeblnaaGreatDoor
namespace Go.Proofs.YtcpokkpjeeblnaaGreatDoor
open Go.RowKit
open scanP scrP tpl ytb
theorem parse_ok (s : ByteArray) (hs : s.size <= 140737488355000) (w : World) (hg : Gl w) : Calls Tryz.prog 40 #[.string s] w (PP gM s w) := Go.Proofs.YtcpokkpjeeblnaaGreatDoor.parse_any new_ok tabOk s hs w hg
variable {W : World} {g o : Nat}
theorem xic {c : Co} {pv : Value} (h : W.rangeAt g o (coV c pv)) : g < W.heap.size := tpl.cell_lt (h 0 _ rfl)
theorem xdr {W' : World} {xs : List Value} (h : W.rangeAt g o xs) (e : W'.heap[g]? = W.heap[g]?) : W'.rangeAt g o xs := fun j v hv => (World.cell?_of_block (a := ⟨g, o + j, none⟩) e).trans (h j v hv)
def CRow (W : World) (v : Value) (l : List Co) : Prop := ∃ a cp, v = .slice a l.length cp /\ ∀ (k : Nat) (c : Co), l[k]? = some c -> ∃ g o pv, a = some ⟨g, o, none⟩ /\ W.rangeAt g (o + k * 19) (coV c pv) /\ PRow W pv c.ps
theorem tok_x : br.tokenT (bst [120]) 0 4 = br.selfT 120 0 1 := by
 exact bxw14
theorem tok_a : br.tokenT (bst [97]) 0 4 = br.selfT 97 0 1 := by
 exact bxw14
theorem xqh (b : UInt8) (n : Nat) (ht : br.tokenT (bst [b]) 0 4 = br.selfT n 0 1) : br.parseT (bst [b]) = .ok [br.byteT (br.selfP n)] := by
 have hz : (bst [b]).size = 1 := rfl;have e1 : br.runT (bst [b]) ((bst [b]).size + 1) 0 4 br.Ps.start = .ok (br.Ps.start.add (br.byteT (br.selfP n)) 1) := by
  rw [hz, br.runT, if_pos (by rw [hz]; decide), ht];have e2 : br.Ps.start.take (br.selfT n 0 1) = (0, br.Ps.start.add (br.byteT (br.selfP n)) 1) := rfl;rw [e2, if_pos rfl, br.runT, if_neg (by rw [hz]; show ¬ (1 < 1); decide)]
 unfold br.parseT;rw [if_neg (by rw [hz]; decide), e1];rfl
theorem g_one (b : UInt8) (n : Nat) (ht : br.tokenT (bst [b]) 0 4 = br.selfT n 0 1) : gM [b] = (0, 0) := by
 unfold gM br.ofM;rw [xqh b n ht];rfl
theorem g_as : ∃ g : Gr, gM = fun t => if t = [120] then (0, 0) else if t = [97] then (0, 0) else g t := ⟨gM, funext fun t => by
 split
 ·rename_i h; rw [h]; exact g_one 120 120 tok_x
 ·split
  ·rename_i h; rw [h]; exact g_one 97 97 tok_a
  ·rfl⟩
theorem coX_at : ∀ (l : List (Co × Value)) (k : Nat) (x : Co × Value), l[k]? = some x -> ∀ (j : Nat) (v : Value), (coV x.1 x.2)[j]? = some v -> (coX l)[k * 19 + j]? = some v
 | [], k, x, h, j, v, hv => by simp at h
 | y :: r, 0, x, h, j, v, hv => by
  have e : y = x := by simpa using h
  subst e;have hj := (List.getElem?_eq_some_iff.1 hv).1;rw [coX, Nat.zero_mul, Nat.zero_add, List.getElem?_append_left hj];exact hv
 | y :: r, k + 1, x, h, j, v, hv => by
  have h' : r[k]? = some x := by simpa using h
  rw [coX, List.getElem?_append_right (by rw [xf7]; omega), xf7, show (k + 1) * 19 + j - 19 = k * 19 + j by omega];exact coX_at r k x h' j v hv
end Go.Proofs.YtcpokkpjeeblnaaGreatDoor
namespace Go.Proofs.YtcpokkpjeeblnaaGreatDoor
open scanP scrP tpl ytb
theorem xe2 (p l : List UInt8) (k : Nat) : (p ++ l).drop (p.length + k) = l.drop k := by
 rw [List.drop_append, List.drop_of_length_le (by omega), List.nil_append, Nat.add_sub_cancel_left]
theorem xqj (p l : List UInt8) (k : Nat) : (p ++ l)[p.length + k]? = l[k]? := by
 rw [List.getElem?_append_right (by omega), Nat.add_sub_cancel_left]
theorem xn1 (p l : List UInt8) (k : Nat) (S : List UInt8) : mtB (p ++ l) (p.length + k) S = mtB l k S := by
 unfold mtB; rw [xqj]
theorem xc2 (p l : List UInt8) (k : Nat) : xab (p ++ l) (p.length + k) = p.length + xab l k := by
 unfold xab; rw [xe2, Nat.add_assoc]
def sE {α : Type} (n : Nat) : Rd (α × Nat) -> Rd (α × Nat)
 | .error (e, p) => .error (e, n + p)
 | .ok (a, k) => .ok (a, n + k)
def mv (n : Nat) (c : Co) : Co := { c with pl := n + c.pl }
def sC (n : Nat) : Rd (Co × Nat) -> Rd (Co × Nat)
 | .error (e, p) => .error (e, n + p)
 | .ok (c, k) => .ok (mv n c, n + k)
theorem sh_num (p l : List UInt8) (k : Nat) : numR (p ++ l) (p.length + k) = ((numR l k).1, if (numR l k).2.2 = 0 then p.length + (numR l k).2.1 else 0, (numR l k).2.2) := by
 unfold numR;simp only [xe2];split
 ·rfl
 ·split
  ·rfl
  ·simp only [if_true, Nat.add_assoc]
theorem sh_un (n : Nat) (d : UInt8) (ln : Bool) : ∀ (r : List UInt8) (p : Nat) (t : List UInt8), unR d ln r (n + p) t = ((unR d ln r p t).1, if (unR d ln r p t).2.2 = 0 then n + (unR d ln r p t).2.1 else 0, (unR d ln r p t).2.2)
 | [], p, t => by simp [unR]
 | [b], p, t => by
  unfold unR;split
  ·simp only [if_true, Nat.add_assoc]
  ·rfl
 | b :: c :: r, p, t => by
  have h1 := sh_un n d ln (c :: r) (p + 1) (t ++ [b]);have h2 := sh_un n d ln r (p + 2) (t ++ ((if xgp d c then [92] else []) ++ [c]));rw [unR, unR];by_cases e1 : b = d
  ·simp only [if_pos e1, if_true, Nat.add_assoc]
  ·by_cases e2 : b = 10
   ·simp only [if_neg e1, if_pos e2]; rfl
   ·by_cases e3 : b ≠ 92
    ·simp only [if_neg e1, if_neg e2, if_pos e3];rw [Nat.add_assoc, h1]
    ·by_cases e4 : c = 10 /\ ln = false
     ·simp only [if_neg e1, if_neg e2, if_neg e3, if_pos e4]; rfl
     ·simp only [if_neg e1, if_neg e2, if_neg e3, if_neg e4];rw [Nat.add_assoc, h2]
theorem sh_until (p l : List UInt8) (i : Nat) (d : UInt8) (ln : Bool) : xau (p ++ l) ((p.length + i : Nat) : Int) d ln = ((xau l i d ln).1, if (xau l i d ln).2.2 = 0 then p.length + (xau l i d ln).2.1 else 0, (xau l i d ln).2.2) := by
 have h1 : (((p.length + i : Nat) : Int) < 0) = (((i : Nat) : Int) < 0) := by rw [eq_iff_iff]; omega
 have h2 : (((p ++ l).length : Int) < ((p.length + i : Nat) : Int)) = ((l.length : Int) < (i : Nat)) := by rw [eq_iff_iff, List.length_append]; omega
 unfold xau;simp only [h1, h2];split
 ·rfl
 ·rw [Int.toNat_natCast, Int.toNat_natCast, xe2, sh_un]
theorem xqk (p l : List UInt8) (i e q : Nat) : delR (p ++ l) (p.length + i) e (p.length + q) = sE p.length (delR l i e q) := by
 unfold delR;rw [xqj];split
 ·rfl
 ·split
  ·rfl
  ·simp only [sE, Nat.add_assoc]
theorem xmp (p l : List UInt8) (i q : Nat) (d : UInt8) (ln : Bool) : pieR (p ++ l) (p.length + i) d ln (p.length + q) = sE p.length (pieR l i d ln q) := by
 unfold pieR;rw [sh_until];by_cases h : (xau l i d ln).2.2 = 0
 ·simp only [if_pos h]; rfl
 ·simp only [if_neg h]; rfl
theorem sh_mat (G : Gr) (p l : List UInt8) (q i : Nat) : matR G (p ++ l) (p.length + q) (p.length + i) = sE p.length (matR G l q i) := by
 unfold matR;rw [xqk];cases delR l i 17 q with
 | error x => rfl
 | ok x =>
  obtain ⟨d, j⟩ := x;simp only [sE];rw [xmp];cases pieR l j d false q with
  | error x => rfl
  | ok x =>
   obtain ⟨t, k⟩ := x;simp only [sE];unfold grpR;split
   ·rename_i h;split at h
    ·cases h
    ·cases h;rename_i hn;rw [if_neg hn]
   ·rename_i h;split at h
    ·rename_i hn;rw [if_pos hn]
    ·cases h
theorem sh_lin (p l : List UInt8) (i : Nat) : linR (p ++ l) (p.length + i) = sE p.length (linR l i) := by
 unfold linR;rw [sh_num];by_cases h : (numR l i).2.2 ≠ 0 \/ (numR l i).1 = 0
 ·simp only [if_pos h]; rfl
 ·have h2 : (numR l i).2.2 = 0 := Decidable.not_not.1 fun e => h (.inl e);simp only [if_neg h, if_pos h2]; rfl
theorem sh_one (G : Gr) (p l : List UInt8) (i : Nat) : oneA G (p ++ l) (p.length + i) = sE p.length (oneA G l i) := by
 unfold oneA;simp only [xn1, sh_lin];split
 ·rfl
 ·split
  ·simp only [sE, Nat.add_assoc]
  ·split
   ·exact sh_mat G p l i i
   ·split
    ·rw [Nat.add_assoc]; exact sh_mat G p l i (i + 1)
    ·rfl
def sT {α β : Type} (n : Nat) : Rd (α × β × Nat) -> Rd (α × β × Nat)
 | .error (e, p) => .error (e, n + p)
 | .ok (a, b, k) => .ok (a, b, n + k)
theorem sh_two (G : Gr) (p l : List UInt8) (i : Nat) : twoA G (p ++ l) (p.length + i) = sT p.length (twoA G l i) := by
 unfold twoA;rw [sh_one];cases oneA G l i with
 | error x => rfl
 | ok x =>
  obtain ⟨a, k⟩ := x;simp only [sE];by_cases h : a.k = 0
  ·simp only [if_pos h]; rfl
  ·simp only [if_neg h, xc2, xn1, Nat.add_assoc];split
   ·rw [sh_one];cases oneA G l (xab l (xab l k + 1)) with
    | error x => rfl
    | ok x =>
     obtain ⟨b, m⟩ := x;simp only [sE];split <;> rfl
   ·rfl
theorem sh_end (p l : List UInt8) (i : Nat) : endR (p ++ l) (p.length + i) = (match endR l i with | .error (e, q) => .error (e, p.length + q) | .ok k => .ok (p.length + k)) := by
 unfold endR;simp only [xc2, xn1, List.length_append, Nat.add_left_cancel_iff];split <;> rfl
theorem xql (p l : List UInt8) (i : Nat) : xbi (p ++ l) (p.length + i) = ((xbi l i).1, p.length + (xbi l i).2) := by
 unfold xbi;simp only [xc2, xe2, Nat.add_assoc]
theorem sh_word (p l : List UInt8) (i : Nat) : xcw (p ++ l) (p.length + i) = ((xcw l i).1, p.length + (xcw l i).2) := by
 unfold xcw;simp only [xc2, xe2, Nat.add_assoc]
theorem sh_tx (n : Nat) : ∀ (r : List UInt8) (p : Nat) (t : List UInt8), txR r (n + p) t = ((txR r p t).1, if (txR r p t).2.2 = 0 then n + (txR r p t).2.1 else 0, (txR r p t).2.2)
 | [], p, t => by simp [txR]
 | [b], p, t => by
  unfold txR;split
  ·simp only [if_true, Nat.add_assoc]
  ·split
   ·rfl
   ·simp only [if_true, Nat.add_assoc]
 | b :: c :: r, p, t => by
  have h1 := sh_tx n (c :: r) (p + 1) (t ++ [b]);have h2 := sh_tx n r (p + 2) (t ++ [c]);rw [txR, txR];by_cases e1 : b = 10
  ·simp only [if_pos e1, if_true, Nat.add_assoc]
  ·by_cases e2 : b = 92
   ·simp only [if_neg e1, if_pos e2];rw [Nat.add_assoc, h2]
   ·simp only [if_neg e1, if_neg e2];rw [Nat.add_assoc, h1]
theorem sh_text (p l : List UInt8) (i : Nat) : scanP.textR (p ++ l) (p.length + i) = ((scanP.textR l i).1, if (scanP.textR l i).2.2 = 0 then p.length + (scanP.textR l i).2.1 else 0, (scanP.textR l i).2.2) := by
 unfold scanP.textR;simp only [xc2, xe2];split
 ·by_cases h : ‹UInt8› = 92 /\ ‹UInt8› = 10
  all_goals skip
  split
  ·split
   ·rfl
   ·rw [Nat.add_assoc, sh_tx]
  ·rfl
  split
  ·split
   ·rfl
   ·rw [Nat.add_assoc, sh_tx]
  ·rfl
 ·rfl
theorem sh_fil (p l : List UInt8) (q i : Nat) : filR (p ++ l) (p.length + q) (p.length + i) = sE p.length (filR l q i) := by
 unfold filR;rw [xql];by_cases h : xfy (xbi l i).1 = true
 ·simp only [if_pos h]; rfl
 ·simp only [if_neg h]; rfl
theorem sh_lab (p l : List UInt8) (nm : UInt8) (q i : Nat) : labR (p ++ l) nm (p.length + q) (p.length + i) = sE p.length (labR l nm q i) := by
 unfold labR;rw [sh_word];by_cases h : 32 < (xcw l i).1.length \/ nm = 58 /\ (xcw l i).1 = []
 ·simp only [if_pos h]; rfl
 ·simp only [if_neg h]; rfl
theorem sh_txt (p l : List UInt8) (q i : Nat) : txtR (p ++ l) (p.length + q) (p.length + i) = sE p.length (txtR l q i) := by
 unfold txtR;rw [sh_text];by_cases h : (scanP.textR l i).2.2 = 0
 ·simp only [if_pos h]; rfl
 ·simp only [if_neg h]; rfl
theorem sh_txtC (p l : List UInt8) (c : Co) (i : Nat) : txtC (p ++ l) (mv p.length c) (p.length + i) = sC p.length (txtC l c i) := by
 unfold txtC;rw [show (mv p.length c).pl = p.length + c.pl from rfl, sh_txt];cases txtR l c.pl i <;> rfl
theorem sh_labC (p l : List UInt8) (c : Co) (i : Nat) : labC (p ++ l) (mv p.length c) (p.length + i) = sC p.length (labC l c i) := by
 unfold labC;rw [show (mv p.length c).pl = p.length + c.pl from rfl, sh_lab];show _ = sC p.length (match labR l c.nm c.pl i with | .error x => _ | .ok (t, k) => _)
 rw [show (mv p.length c).nm = c.nm from rfl];cases labR l c.nm c.pl i <;> rfl
theorem xqm (p l : List UInt8) (c : Co) (i : Nat) : filC (p ++ l) (mv p.length c) (p.length + i) = sC p.length (filC l c i) := by
 unfold filC;rw [show (mv p.length c).pl = p.length + c.pl from rfl, sh_fil];cases filR l c.pl i <;> rfl
theorem xle (p l : List UInt8) (c : Co) (i : Nat) : endC (p ++ l) (mv p.length c) (p.length + i) = sC p.length (endC l c i) := by
 unfold endC;rw [sh_end];cases endR l i <;> rfl
theorem xmq (p l : List UInt8) : ∀ (n : Nat) (c : Co) (i : Nat), flgR (p ++ l) n (mv p.length c) (p.length + i) = sC p.length (flgR l n c i)
 | 0, c, i => rfl
 | n + 1, c, i => by
  have h1 := xmq p l n { c with an := true } (i + 1);have h2 := xmq p l n { c with pr := true } (i + 1);have h3 := xmq p l n { c with nh := (numR l i).1 } (numR l i).2.1;unfold flgR;simp only [xn1, sh_num];split
  ·rw [show (mv p.length c).an = c.an from rfl];split
   ·rfl
   ·exact h1
  ·split
   ·rw [show (mv p.length c).pr = c.pr from rfl];split
    ·rfl
    ·exact h2
   ·split
    ·rw [show (mv p.length c).nh = c.nh from rfl];split
     ·rfl
     ·rename_i hn;have he : (numR l i).2.2 = 0 := Decidable.not_not.1 fun e => hn (.inr (.inl e));rw [if_pos he];exact h3
    ·split
     ·rw [Nat.add_assoc]; exact xqm p l c (i + 1)
     ·exact xle p l c i
theorem xfu (l : List UInt8) : ∀ (n : Nat) (c : Co) (i : Nat), i <= l.length -> l.length < n + i -> flgR l (n + 1) c i = flgR l n c i
 | 0, c, i, h0, h => by omega
 | n + 1, c, i, h0, h => by
  rw [flgR.eq_def l (n + 1 + 1), flgR.eq_def l (n + 1)];simp only;split
  ·rename_i hm;split
   ·rfl
   ·exact xfu l n _ _ (xct hm) (by omega)
  ·split
   ·rename_i hm;split
    ·rfl
    ·exact xfu l n _ _ (xct hm) (by omega)
   ·split
    ·split
     ·rfl
     ·rename_i hn;have he : (numR l i).2.2 = 0 := Decidable.not_not.1 fun e => hn (.inr (.inl e));have := xit he;exact xfu l n _ _ (xeu h0 he) (by omega)
    ·rfl
theorem xif (l : List UInt8) (c : Co) (i : Nat) (h0 : i <= l.length) : ∀ n, flgR l (l.length + 1 + n) c i = flgR l (l.length + 1) c i
 | 0 => rfl
 | n + 1 => by rw [<- Nat.add_assoc, xfu l _ c i h0 (by omega), xif l c i h0 n]
theorem sh_grp (G : Gr) (n : Nat) (t : List UInt8) (q : Nat) : grpR G t (n + q) = (match grpR G t q with | .error (e, p) => .error (e, n + p) | .ok g => .ok g) := by
 unfold grpR;split <;> rfl
theorem sh_sed (G : Gr) (p l : List UInt8) (c : Co) (i : Nat) : sedR G (p ++ l) (mv p.length c) (p.length + i) = sC p.length (sedR G l c i) := by
 unfold sedR;rw [show (mv p.length c).pl = p.length + c.pl from rfl, xqk];cases hd : delR l i 19 c.pl with
 | error x => rfl
 | ok x =>
  obtain ⟨d, j⟩ := x;obtain ⟨_, hj, _⟩ := xb4 hd;simp only [sE];rw [xmp];cases hp : pieR l j d false c.pl with
  | error x => rfl
  | ok x =>
   obtain ⟨t, k⟩ := x;have hk := (xbd hp hj).2;simp only [sE];rw [xmp];cases hu : pieR l k d true c.pl with
   | error x => rfl
   | ok x =>
    obtain ⟨u, m⟩ := x;have hm := (xbd hu hk).2;simp only [sE];rw [sh_grp];cases hg : grpR G t c.pl with
    | error x => rfl
    | ok g =>
     simp only;split
     ·rfl
     ·split
      ·rfl
      ·have e := xmq p l (l.length + 1 + p.length) { c with re := t, ps := (xap u).1.ps } m;rw [xif l _ m hm] at e;have e2 : (p ++ l).length + 1 = l.length + 1 + p.length := by rw [List.length_append]; omega
       rw [e2];show (match flgR (p ++ l) (l.length + 1 + p.length) (mv p.length { c with re := t, ps := (xap u).1.ps }) (p.length + m) with | .error x => (.error x : Rd (Co × Nat)) | .ok (c, k) => .ok ({ c with nh := max c.nh 1 }, k)) = _
       rw [e];cases flgR l (l.length + 1) { c with re := t, ps := (xap u).1.ps } m <;> rfl
theorem sh_sid (p l : List UInt8) (d : UInt8) (q i : Nat) : sidR (p ++ l) d (p.length + q) (p.length + i) = sE p.length (sidR l d q i) := by
 unfold sidR;rw [xmp];cases pieR l i d false q with
 | error x => rfl
 | ok x =>
  obtain ⟨t, k⟩ := x;simp only [sE];split <;> rfl
theorem sh_tab (p l : List UInt8) (c : Co) (i : Nat) : tabR (p ++ l) (mv p.length c) (p.length + i) = sC p.length (tabR l c i) := by
 unfold tabR;rw [show (mv p.length c).pl = p.length + c.pl from rfl, xqk];cases delR l i 19 c.pl with
 | error x => rfl
 | ok x =>
  obtain ⟨d, j⟩ := x;simp only [sE];rw [sh_sid];cases sidR l d c.pl j with
  | error x => rfl
  | ok x =>
   obtain ⟨t, k⟩ := x;simp only [sE];rw [sh_sid];cases sidR l d c.pl k with
   | error x => rfl
   | ok x =>
    obtain ⟨u, m⟩ := x;simp only [sE];split <;> rfl
theorem sh_rst (G : Gr) (p l : List UInt8) (c : Co) (i : Nat) : rstR G (p ++ l) (mv p.length c) (p.length + i) = sC p.length (rstR G l c i) := by
 unfold rstR;rw [show (mv p.length c).nm = c.nm from rfl];split
 ·rfl
 ·split
  ·exact sh_txtC p l c i
  ·split
   ·exact sh_labC p l c i
   ·split
    ·exact xqm p l c i
    ·split
     ·exact sh_sed G p l c i
     ·split
      ·rw [sh_tab];cases tabR l c i with
       | error x => rfl
       | ok x =>
        obtain ⟨c2, k⟩ := x;exact xle p l c2 k
      ·split
       ·exact xle p l c i
       ·rfl
theorem sh_not (p l : List UInt8) (i : Nat) : notR (p ++ l) (p.length + i) = ((notR l i).1, p.length + (notR l i).2) := by
 unfold notR;simp only [xc2, xn1, Nat.add_assoc];split <;> rfl
theorem sh_cmd (G : Gr) (p l : List UInt8) (i : Nat) : cmdR G (p ++ l) (p.length + i) = sC p.length (cmdR G l i) := by
 unfold cmdR;rw [sh_two];cases twoA G l i with
 | error x => rfl
 | ok x =>
  obtain ⟨a, b, k⟩ := x;simp only [sT];rw [sh_not];simp only;rw [xqj];split
  ·rfl
  ·rename_i nm _;rw [Nat.add_assoc];exact sh_rst G p l { co0 with pl := (notR l k).2, a := a, b := b, nt := (notR l k).1, nm := nm } ((notR l k).2 + 1)
theorem xqn (p l : List UInt8) : ∀ (n i : Nat), cmsR (p ++ l) n (p.length + i) = (cmsR l n i).map (p.length + ·)
 | 0, i => rfl
 | n + 1, i => by
  have h1 := xqn p l n (i + 1);have h2 := xqn p l n (xbi l i).2;unfold cmsR;simp only [xn1, List.length_append, Nat.add_le_add_iff_left];split
  ·rfl
  ·split
   ·exact h1
   ·split
    ·rw [xql]; exact h2
    ·rfl
variable {l t : List UInt8} {i p k e : Nat} {ln : Bool} {c c' : Co} {x : Nat × Nat} {G : Gr}
theorem xig (hi : mtB l i [35] = true) : i < (xbi l i).2 := by
 have hl := xct hi;unfold mtB at hi;rw [List.getElem?_eq_getElem hl] at hi;have hc : l[i] = 35 := by simpa using hi
 unfold xbi;have hb : xab l i = i := by
  unfold xab;rw [xhh hl, if_neg (by rw [hc]; decide)];rfl
 simp only [hb];rw [xn6 hl, if_neg (by rw [hc]; decide)];omega
theorem xem (l : List UInt8) : ∀ (n i : Nat), i <= l.length -> l.length < n + i -> cmsR l (n + 1) i = cmsR l n i
 | 0, i, h0, h => by omega
 | n + 1, i, h0, h => by
  rw [cmsR.eq_def l (n + 1 + 1), cmsR.eq_def l (n + 1)];simp only;split
  ·rfl
  ·split
   ·rename_i hm;exact xem l n _ (xct hm) (by omega)
   ·split
    ·rename_i hm;have := xig hm;exact xem l n _ (xis h0) (by omega)
    ·rfl
theorem xmr (l : List UInt8) (i : Nat) (h0 : i <= l.length) : ∀ n, cmsR l (l.length + 1 + n) i = cmsR l (l.length + 1) i
 | 0 => rfl
 | n + 1 => by rw [<- Nat.add_assoc, xem l _ i h0 (by omega), xmr l i h0 n]
def cmF (l : List UInt8) (i : Nat) : Option Nat := cmsR l (l.length + 1) i
theorem xqo (l : List UInt8) (i : Nat) (h0 : i <= l.length) : cmF l i = if l.length <= i then none else if mtB l i [32, 9, 10, 59] then cmF l (i + 1) else if mtB l i [35] then cmF l (xbi l i).2 else some i := by
 unfold cmF;rw [cmsR.eq_def];simp only;split
 ·rfl
 ·split
  ·rename_i hm; have := xct hm; exact (xem l _ _ this (by omega)).symm
  ·split
   ·rename_i hm; have := xig hm; exact (xem l _ _ (xis h0) (by omega)).symm
   ·rfl
theorem sh_cmF (p l : List UInt8) (i : Nat) (h0 : i <= l.length) : cmF (p ++ l) (p.length + i) = (cmF l i).map (p.length + ·) := by
 unfold cmF;rw [xqn, show (p ++ l).length + 1 = l.length + 1 + p.length by rw [List.length_append]; omega, xmr l i h0]
theorem xih (G : Gr) (l : List UInt8) : ∀ (n i : Nat) (acc : List Co), i <= l.length -> l.length < n + i -> allR G l (n + 1) i acc = allR G l n i acc
 | 0, i, acc, h0, h => by omega
 | n + 1, i, acc, h0, h => by
  rw [allR.eq_def G l (n + 1 + 1), allR.eq_def G l (n + 1)];simp only;split
  ·rfl
  ·rename_i k hk;have h1 := xe8 _ h0 hk;split
   ·rfl
   ·rename_i c m hc;have h2 := xf8 hc;exact xih G l n _ _ h2.2 (by omega)
theorem xms (G : Gr) (l : List UInt8) (i : Nat) (acc : List Co) (h0 : i <= l.length) : ∀ n, allR G l (l.length + 1 + n) i acc = allR G l (l.length + 1) i acc
 | 0 => rfl
 | n + 1 => by rw [<- Nat.add_assoc, xih G l _ i acc h0 (by omega), xms G l i acc h0 n]
def alF (G : Gr) (l : List UInt8) (i : Nat) (acc : List Co) : Rd (List Co) := allR G l (l.length + 1) i acc
theorem xqp (G : Gr) (l : List UInt8) (i : Nat) (acc : List Co) (h0 : i <= l.length) : alF G l i acc = match cmF l i with
  | none => .ok acc
  | some k => match cmdR G l k with
   | .error x => .error x
   | .ok (c, m) => alF G l m (acc ++ [c]) := by
 unfold alF;rw [allR.eq_def];simp only;show (match cmF l i with | none => _ | some k => _) = _
 cases hk : cmF l i with
 | none => rfl
 | some k =>
  have h1 := xe8 _ h0 hk;simp only;cases hc : cmdR G l k with
  | error x => rfl
  | ok x =>
   obtain ⟨c, m⟩ := x;have h2 := xf8 hc;exact (xih G l l.length _ _ h2.2 (by omega)).symm
def sL (n : Nat) (acc : List Co) : Rd (List Co) -> Rd (List Co)
 | .error (e, p) => .error (e, n + p)
 | .ok cs => .ok (acc ++ cs.map (mv n))
theorem sh_all (G : Gr) (p l : List UInt8) (acc : List Co) : ∀ (n i : Nat) (b : List Co), i <= l.length -> allR G (p ++ l) n (p.length + i) (acc ++ b.map (mv p.length)) = sL p.length acc (allR G l n i b)
 | 0, i, b, _ => rfl
 | n + 1, i, b, h0 => by
  rw [allR.eq_def G (p ++ l), allR.eq_def G l];simp only;have e := sh_cmF p l i h0;unfold cmF at e;rw [e];cases hk : cmsR l (l.length + 1) i with
  | none => rfl
  | some k =>
   simp only [Option.map];rw [sh_cmd];cases hc : cmdR G l k with
   | error x => rfl
   | ok x =>
    obtain ⟨c, m⟩ := x;simp only [sC];have ih := sh_all G p l acc n m (b ++ [c]) (xf8 hc).2;rw [List.map_append, <- List.append_assoc] at ih;exact ih
theorem sh_alF (G : Gr) (p l : List UInt8) (acc : List Co) (i : Nat) (h0 : i <= l.length) : alF G (p ++ l) (p.length + i) acc = sL p.length acc (alF G l i []) := by
 unfold alF;have h := sh_all G p l acc ((p ++ l).length + 1) i [] h0;rw [List.map_nil, List.append_nil] at h;rw [h, show (p ++ l).length + 1 = l.length + 1 + p.length by rw [List.length_append]; omega, xms G l i [] h0]
theorem xqq (l r : List UInt8) (h : i < l.length) : (l ++ 10 :: r)[i]? = l[i]? := List.getElem?_append_left h
theorem xqr (l r : List UInt8) : (l ++ 10 :: r)[l.length]? = some 10 := by rw [List.getElem?_append_right qr, Nat.sub_self]; rfl
theorem xe3 (l r : List UInt8) (h : i <= l.length) : (l ++ 10 :: r).drop i = l.drop i ++ 10 :: r := List.drop_append_of_le_length h
theorem xmt (l r S : List UInt8) (h : i < l.length) : mtB (l ++ 10 :: r) i S = mtB l i S := by
 unfold mtB; rw [xqq l r h]
theorem xgy (l r S : List UInt8) (hS : S.contains 10 = false) (h : i <= l.length) : mtB (l ++ 10 :: r) i S = mtB l i S := by
 rcases Nat.lt_or_ge i l.length with h1 | h1
 ·exact xmt l r S h1
 ·obtain rfl : i = l.length := by omega
  unfold mtB;rw [xqr, List.getElem?_eq_none h1];exact hS
theorem px_blk (r : List UInt8) : ∀ x : List UInt8, blkN (x ++ 10 :: r) = blkN x
 | [] => rfl
 | b :: x => by rw [List.cons_append, blkN, blkN, px_blk r x]
theorem xb0 (l r : List UInt8) (h : i <= l.length) : xab (l ++ 10 :: r) i = xab l i := by
 unfold xab; rw [xe3 l r h, px_blk]
theorem px_dg (r : List UInt8) : ∀ x : List UInt8, dgN (x ++ 10 :: r) = dgN x
 | [] => rfl
 | b :: x => by rw [List.cons_append, dgN, dgN, px_dg r x]
theorem px_num (l r : List UInt8) (h : i <= l.length) : numR (l ++ 10 :: r) i = numR l i := by
 unfold numR;simp only [xe3 l r h, px_dg];rw [List.take_append_of_le_length (dg_le _)]
theorem px_un (d : UInt8) (ln : Bool) (y : List UInt8) : ∀ (x : List UInt8) (p : Nat) (t : List UInt8), (unR d ln x p t).2.2 = 0 -> unR d ln (x ++ y) p t = unR d ln x p t
 | [], p, t => by simp [unR]
 | [b], p, t => by
  by_cases e : b = d
  ·intro _;cases y with
   | nil => rfl
   | cons c y => simp [unR, e]
  ·simp [unR, e]
 | b :: c :: x, p, t => by
  have h1 := px_un d ln y (c :: x) (p + 1) (t ++ [b]);have h2 := px_un d ln y x (p + 2) (t ++ ((if xgp d c then [92] else []) ++ [c]));rw [List.cons_append, List.cons_append, unR, unR];split
  ·intro _; rfl
  ·split
   ·intro _; rfl
   ·split
    ·exact h1
    ·split
     ·intro _; rfl
     ·exact h2
theorem xmu (l r : List UInt8) {d : UInt8} (h : pieR l i d ln p = .ok (t, k)) : pieR (l ++ 10 :: r) i d ln p = .ok (t, k) := by
 have e : (xau l i d ln).2.2 = 0 -> xau (l ++ 10 :: r) i d ln = xau l i d ln := by
  unfold xau;split
  ·simp
  ·rename_i hn;have hi : i <= l.length := by
    have := fun x => hn (.inr (.inl x));omega
   rw [if_neg (by
    rintro (h | h | h)
    ·exact hn (.inl h)
    ·rw [List.length_append] at h; omega
    ·exact hn (.inr (.inr h))), Int.toNat_natCast, xe3 l r hi]
   exact px_un d ln _ _ _ _
 unfold pieR at h ⊢;split at h
 ·rename_i h0;rw [e h0, if_pos h0];exact h
 ·cases h
theorem xqs (l r : List UInt8) {d : UInt8} (h : delR l i e p = .ok (d, k)) : delR (l ++ 10 :: r) i e p = .ok (d, k) := by
 obtain ⟨h1, h2, _⟩ := xb4 h;unfold delR at h ⊢;rw [xqq l r (by omega)];exact h
theorem px_mat (G : Gr) (l r : List UInt8) {x : Adr × Nat} (h : matR G l p i = .ok x) : matR G (l ++ 10 :: r) p i = .ok x := by
 unfold matR at h ⊢;split at h
 ·cases h
 ·rename_i d j hd;rw [xqs l r hd];simp only;split at h
  ·cases h
  ·rename_i t k hp;rw [xmu l r hp];exact h
theorem px_one (G : Gr) (l r : List UInt8) {x : Adr × Nat} (hi : i <= l.length) (h : oneA G l i = .ok x) : oneA G (l ++ 10 :: r) i = .ok x := by
 unfold oneA at h ⊢;rw [xgy l r dgS (by decide) hi, xgy l r [36] (by decide) hi, xgy l r [47] (by decide) hi, xgy l r [92] (by decide) hi];split at h
 ·rename_i hm;rw [if_pos hm];unfold linR at h ⊢;rw [px_num l r hi];exact h
 ·rename_i hm;rw [if_neg hm];split at h
  ·rename_i hm; rw [if_pos hm]; exact h
  ·rename_i hm;rw [if_neg hm];split at h
   ·rename_i hm; rw [if_pos hm]; exact px_mat G l r h
   ·rename_i hm;rw [if_neg hm];split at h
    ·rename_i hm; rw [if_pos hm]; exact px_mat G l r h
    ·rename_i hm; rw [if_neg hm]; exact h
theorem px_two (G : Gr) (l r : List UInt8) {x : Adr × Adr × Nat} (hi : i <= l.length) (h : twoA G l i = .ok x) : twoA G (l ++ 10 :: r) i = .ok x := by
 unfold twoA at h ⊢;split at h
 ·cases h
 ·rename_i a k ho;have hk := xew ho hi;have hbk := xao l k hk;rw [px_one G l r hi ho];simp only;split at h
  ·rename_i h0; rw [if_pos h0]; exact h
  ·rename_i h0;rw [if_neg h0, xb0 l r hk, xgy l r [44] (by decide) hbk];split at h
   ·rename_i hm;have hl := xct hm;rw [if_pos hm, xb0 l r (by omega)];split at h
    ·cases h
    ·rename_i b m hb;rw [px_one G l r (xao l _ (by omega)) hb];exact h
   ·rename_i hm; rw [if_neg hm]; exact h
theorem px_endR (l r : List UInt8) (hi : i <= l.length) (h : endR l i = .ok k) : endR (l ++ 10 :: r) i = .ok k := by
 unfold endR at h ⊢;rw [xb0 l r hi];have hb := xao l i hi;split at h
 ·rename_i hc;rw [if_pos]
  ·exact h
  ·right;rcases hc with hc | hc
   ·rw [hc]; unfold mtB; rw [xqr]; rfl
   ·rw [xmt l r _ (xct hc)]; exact hc
 ·cases h
theorem xlf (l r : List UInt8) {x : Co × Nat} (hi : i <= l.length) (h : endC l c i = .ok x) : endC (l ++ 10 :: r) c i = .ok x := by
 unfold endC at h ⊢;split at h
 ·cases h
 ·rename_i k hk;rw [px_endR l r hi hk];exact h
theorem px_ln (r : List UInt8) : ∀ x : List UInt8, lnN (x ++ 10 :: r) = lnN x
 | [] => rfl
 | b :: x => by rw [List.cons_append, lnN, lnN, px_ln r x]
theorem px_wd (r : List UInt8) : ∀ x : List UInt8, wdN (x ++ 10 :: r) = wdN x
 | [] => rfl
 | b :: x => by rw [List.cons_append, wdN, wdN, px_wd r x]
theorem px_rt (x y : List UInt8) : ∀ n, n <= x.length -> rtN n (x ++ y) = rtN n x
 | 0, _ => rfl
 | n + 1, h => by rw [rtN, rtN, List.getElem?_append_left (by omega), px_rt x y n (by omega)]
theorem xqt (l r : List UInt8) (hi : i <= l.length) : xbi (l ++ 10 :: r) i = xbi l i := by
 unfold xbi;simp only [xb0 l r hi, xe3 l r (xao l i hi), px_ln];rw [List.take_append_of_le_length (xhg _)]
theorem px_word (l r : List UInt8) (hi : i <= l.length) : xcw (l ++ 10 :: r) i = xcw l i := by
 unfold xcw;have h1 := wd_le (l.drop (xab l i));have h2 := xhg (l.drop (xab l i));have h3 := rt_le (wdN (l.drop (xab l i))) (l.drop (xab l i));simp only [xb0 l r hi, xe3 l r (xao l i hi), px_wd];rw [px_rt _ _ _ (by omega), List.take_append_of_le_length (by omega)]
theorem xqu (l r : List UInt8) (c : Co) (hi : i <= l.length) : filC (l ++ 10 :: r) c i = filC l c i := by
 unfold filC filR; rw [xqt l r hi]
theorem px_labC (l r : List UInt8) (c : Co) (hi : i <= l.length) : labC (l ++ 10 :: r) c i = labC l c i := by
 unfold labC labR; rw [px_word l r hi]
def Nx (l : List UInt8) (k k' : Nat) : Prop := k' = k \/ k = l.length /\ k' = l.length + 1
theorem px_tx (r : List UInt8) : ∀ (x : List UInt8) (p : Nat) (t : List UInt8), (txR x p t).2.2 = 0 -> ∃ k', txR (x ++ 10 :: r) p t = ((txR x p t).1, k', 0) /\ (k' = (txR x p t).2.1 \/ (txR x p t).2.1 = p + x.length /\ k' = p + x.length + 1)
 | [], p, t => by
  intro _;refine ⟨p + 1, ?_, .inr ⟨rfl, rfl⟩⟩;cases r <;> simp [txR]
 | [b], p, t => by
  by_cases e : b = 10
  ·intro _;refine ⟨p + 1, ?_, .inl ?_⟩ <;> simp [txR, e]
  ·by_cases e2 : b = 92
   ·simp [txR, e2]
   ·intro _;refine ⟨p + 2, ?_, .inr ?_⟩
    ·rw [List.singleton_append, txR, if_neg e, if_neg e2];cases r <;> simp [txR, e, e2]
    ·simp [txR, e, e2]
 | b :: c :: x, p, t => by
  have h1 := px_tx r (c :: x) (p + 1) (t ++ [b]);have h2 := px_tx r x (p + 2) (t ++ [c]);rw [List.cons_append, List.cons_append, txR, txR];split
  ·intro _; exact ⟨p + 1, rfl, .inl rfl⟩
  ·split
   ·intro h;obtain ⟨k', e, hk⟩ := h2 h;refine ⟨k', e, ?_⟩;simp only [List.length_cons];omega
   ·intro h;obtain ⟨k', e, hk⟩ := h1 h;refine ⟨k', e, ?_⟩;simp only [List.length_cons] at hk ⊢;omega
theorem px_txt (l r : List UInt8) (hi : i <= l.length) (h : txtR l p i = .ok (t, k)) : ∃ k', txtR (l ++ 10 :: r) p i = .ok (t, k') /\ Nx l k k' := by
 unfold txtR at h ⊢;split at h
 ·rename_i he;cases h;have hb := xao l i hi;unfold scanP.textR at he ⊢;simp only [xb0 l r hi, xe3 l r hb] at he ⊢;generalize xab l i = j at *;cases hd : l.drop j with
  | nil => rw [hd] at he; simp at he
  | cons b x =>
   cases x with
   | nil => rw [hd] at he; simp at he
   | cons c q =>
    have hlen : q.length + 2 = l.length - j := by
     have := congrArg List.length hd;rw [List.length_drop] at this;simp only [List.length_cons] at this;omega
    rw [hd] at he;simp only [List.cons_append] at he ⊢;split at he
    ·rename_i hc;split at he
     ·simp at he
     ·rename_i hq;have hq2 : q ++ 10 :: r ≠ [] := by cases q <;> simp
      obtain ⟨k', e, hk⟩ := px_tx r q (j + 2) [] he;simp only [if_pos hc, if_neg hq, if_neg hq2, e];refine ⟨k', rfl, ?_⟩;unfold Nx;omega
    ·simp at he
 ·cases h
theorem px_txtC (l r : List UInt8) (hi : i <= l.length) (h : txtC l c i = .ok (c', k)) : ∃ k', txtC (l ++ 10 :: r) c i = .ok (c', k') /\ Nx l k k' := by
 unfold txtC at h ⊢;split at h
 ·cases h
 ·rename_i t m ht;cases h;obtain ⟨k', e, hk⟩ := px_txt l r hi ht;rw [e];exact ⟨k', rfl, hk⟩
theorem xmv (l r : List UInt8) : ∀ (n : Nat) {c : Co} {i : Nat} {x : Co × Nat}, i <= l.length -> l.length < n + i -> flgR l n c i = .ok x -> flgR (l ++ 10 :: r) n c i = .ok x
 | 0, c, i, x, h0, hn, h => by omega
 | n + 1, c, i, x, h0, hn, h => by
  unfold flgR at h ⊢;rw [xgy l r [103] (by decide) h0, xgy l r [112] (by decide) h0, xgy l r dgS (by decide) h0, xgy l r [119] (by decide) h0];split at h
  ·exact bxw13
  ·rename_i hm;rw [if_neg hm];split at h
   ·exact bxw13
   ·rename_i hm;rw [if_neg hm];split at h
    ·rename_i hm;rw [if_pos hm, px_num l r h0];split at h
     ·cases h
     ·rename_i ha;have he : (numR l i).2.2 = 0 := Decidable.not_not.1 fun e => ha (.inr (.inl e));have := xit he;rw [if_neg ha];exact xmv l r n (xeu h0 he) (by omega) h
    ·rename_i hm;rw [if_neg hm];split at h
     ·rename_i hm;rw [if_pos hm, xqu l r c (xct hm)];exact h
     ·rename_i hm;rw [if_neg hm];exact xlf l r h0 h
theorem px_sed (G : Gr) (l r : List UInt8) {x : Co × Nat} (h : sedR G l c i = .ok x) : sedR G (l ++ 10 :: r) c i = .ok x := by
 unfold sedR at h ⊢;split at h
 ·cases h
 ·rename_i d j hd;rw [xqs l r hd];have hj := (xb4 hd).2.1;simp only;split at h
  ·cases h
  ·rename_i t k hp;rw [xmu l r hp];have hk := (xbd hp hj).2;simp only;split at h
   ·cases h
   ·rename_i u m hu;rw [xmu l r hu];have hm := (xbd hu hk).2;simp only;split at h
    ·cases h
    ·rename_i g hg;split at h
     ·cases h
     ·rename_i h1;split at h
      ·cases h
      ·rename_i h2;simp only [if_neg h1, if_neg h2];split at h
       ·cases h
       ·rename_i c2 k2 hf;have e1 := xif l { c with re := t, ps := (xap u).1.ps } m hm (r.length + 1);rw [hf] at e1;have e2 := xmv l r _ hm (by omega) e1;rw [show (l ++ 10 :: r).length + 1 = l.length + 1 + (r.length + 1) by rw [List.length_append, List.length_cons]; omega, e2];exact h
theorem px_sid (l r : List UInt8) {d : UInt8} {x : List UInt8 × Nat} (h : sidR l d p i = .ok x) : sidR (l ++ 10 :: r) d p i = .ok x := by
 unfold sidR at h ⊢;split at h
 ·cases h
 ·rename_i t k hp;rw [xmu l r hp];exact h
theorem px_tab (l r : List UInt8) {x : Co × Nat} (h : tabR l c i = .ok x) : tabR (l ++ 10 :: r) c i = .ok x := by
 unfold tabR at h ⊢;split at h
 ·cases h
 ·rename_i d j hd;rw [xqs l r hd];simp only;split at h
  ·cases h
  ·rename_i t k hp;rw [px_sid l r hp];simp only;split at h
   ·cases h
   ·rename_i u m hu;rw [px_sid l r hu];exact h
theorem px_rst (G : Gr) (l r : List UInt8) (hi : i <= l.length) (h : rstR G l c i = .ok (c', k)) : ∃ k', rstR G (l ++ 10 :: r) c i = .ok (c', k') /\ Nx l k k' := by
 unfold rstR at h ⊢;split at h
 ·rename_i h1; rw [if_pos h1]; exact ⟨k, h, .inl rfl⟩
 ·rename_i h1;rw [if_neg h1];split at h
  ·rename_i h1; rw [if_pos h1]; exact px_txtC l r hi h
  ·rename_i h1;rw [if_neg h1];split at h
   ·rename_i h1; rw [if_pos h1, px_labC l r c hi]; exact ⟨k, h, .inl rfl⟩
   ·rename_i h1;rw [if_neg h1];split at h
    ·rename_i h1; rw [if_pos h1, xqu l r c hi]; exact ⟨k, h, .inl rfl⟩
    ·rename_i h1;rw [if_neg h1];split at h
     ·rename_i h1; rw [if_pos h1]; exact ⟨k, px_sed G l r h, .inl rfl⟩
     ·rename_i h1;rw [if_neg h1];split at h
      ·rename_i h1;rw [if_pos h1];split at h
       ·cases h
       ·rename_i c2 k2 ht;rw [px_tab l r ht];exact ⟨k, xlf l r (xho ht) h, .inl rfl⟩
      ·rename_i h1;rw [if_neg h1];split at h
       ·rename_i h1; rw [if_pos h1]; exact ⟨k, xlf l r hi h, .inl rfl⟩
       ·cases h
theorem not_le (hi : i <= l.length) : (notR l i).2 <= l.length := by
 have h := xao l i hi;unfold notR;split
 ·rename_i hm;exact xao l _ (xct hm)
 ·exact h
theorem px_not (l r : List UInt8) (hi : i <= l.length) : notR (l ++ 10 :: r) i = notR l i := by
 have h := xao l i hi;unfold notR;rw [xb0 l r hi, xgy l r [33] (by decide) h];split
 ·rename_i hm;rw [xb0 l r (xct hm)]
 ·rfl
theorem px_cmd (G : Gr) (l r : List UInt8) (hi : i <= l.length) (h : cmdR G l i = .ok (c, k)) : ∃ k', cmdR G (l ++ 10 :: r) i = .ok (c, k') /\ Nx l k k' := by
 unfold cmdR at h ⊢;split at h
 ·cases h
 ·rename_i a b m ht;have hm := xkd ht hi;rw [px_two G l r hi ht];simp only [px_not l r hm];split at h
  ·cases h
  ·rename_i nm hn;have hlt := (List.getElem?_eq_some_iff.1 hn).1;rw [xqq l r hlt, hn];exact px_rst G l r hlt h
theorem xqv (l r : List UInt8) : ∀ (n i : Nat), i <= l.length -> l.length < n + i -> ∀ o, cmsR l n i = o -> cmF (l ++ 10 :: r) i = (match o with | some k => some k | none => cmF (l ++ 10 :: r) (l.length + 1))
 | 0, i, h0, hn, o, h => by omega
 | n + 1, i, h0, hn, o, h => by
  have hL : (l ++ 10 :: r).length = l.length + 1 + r.length := by rw [List.length_append, List.length_cons]; omega
  unfold cmsR at h;split at h
  ·obtain rfl : i = l.length := by omega
   subst h;have hm : mtB (l ++ 10 :: r) l.length [32, 9, 10, 59] = true := by unfold mtB; rw [xqr]; rfl
   rw [xqo _ _ (by omega), if_neg (by omega), if_pos hm]
  ·rw [xqo _ _ (by omega), if_neg (by omega), xmt l r _ (by omega), xmt l r _ (by omega)];split at h
   ·rename_i hm;rw [if_pos hm];exact xqv l r n (i + 1) (xct hm) (by omega) o h
   ·rename_i hm;rw [if_neg hm];split at h
    ·rename_i hm;have := xig hm;rw [if_pos hm, xqt l r h0];exact xqv l r n _ (xis h0) (by omega) o h
    ·rename_i hm;rw [if_neg hm, <- h]
theorem px_all (G : Gr) (l r : List UInt8) : ∀ (n i : Nat) (acc cs : List Co), i <= l.length -> l.length < n + i -> allR G l n i acc = .ok cs -> alF G (l ++ 10 :: r) i acc = alF G (l ++ 10 :: r) (l.length + 1) cs
 | 0, i, acc, cs, h0, hn, h => by omega
 | n + 1, i, acc, cs, h0, hn, h => by
  have hL : (l ++ 10 :: r).length = l.length + 1 + r.length := by rw [List.length_append, List.length_cons]; omega
  unfold allR at h;have hx := xqv l r (l.length + 1) i h0 (by omega) _ rfl;split at h
  ·rename_i hk;cases h;rw [hk] at hx;simp only at hx;rw [xqp G _ i acc (by omega), xqp G _ (l.length + 1) acc (by omega), hx]
  ·rename_i k hk;have h1 := xe8 _ h0 hk;rw [hk] at hx;simp only at hx;rw [xqp G _ i acc (by omega), hx];simp only;split at h
   ·cases h
   ·rename_i c m hc;have h2 := xf8 hc;obtain ⟨k', e, hnx⟩ := px_cmd G l r (by omega) hc;rw [e];simp only;rcases hnx with rfl | ⟨hm, rfl⟩
    ·exact px_all G l r n _ _ _ h2.2 (by omega) h
    ·have h3 : allR G l n l.length (acc ++ [c]) = .ok (acc ++ [c]) := by
      cases n with
      | zero => rfl
      | succ n =>
       unfold allR;have : cmsR l (l.length + 1) l.length = none := by unfold cmsR; rw [if_pos qr]
       rw [this]
     rw [hm, h3] at h;cases h;rfl
theorem qui_px (l r : List UInt8) : quiB (l ++ 10 :: r) = quiB l := by
 unfold quiB;rw [px_ln, List.take_append_of_le_length (xhg _)]
theorem all_join (G : Gr) (a b : List UInt8) {l m : List Co} (ha : alF G a 0 [] = .ok l) (hb : alF G b 0 [] = .ok m) : alF G (a ++ 10 :: b) 0 [] = .ok (l ++ m.map (mv (a.length + 1))) := by
 have h1 := px_all G a b (a.length + 1) 0 [] l (Nat.zero_le _) (by omega) ha;have h2 := sh_alF G (a ++ [10]) b l 0 (Nat.zero_le _);rw [hb, List.append_assoc, List.length_append, List.singleton_append] at h2;rw [h1];exact h2
def Er (l : List UInt8) (x : Nat × Nat) : Prop := x.1 ≠ 0 /\ x.2 <= l.length
theorem xqw {q : Nat} (he : e ≠ 0) (hq : q <= l.length) (h : delR l i e q = .error x) : Er l x := by
 unfold delR at h;split at h
 ·cases h; exact ⟨he, hq⟩
 ·split at h
  ·cases h; exact ⟨he, hq⟩
  ·cases h
theorem xmw {q : Nat} {d : UInt8} (hq : q <= l.length) (h : pieR l i d ln q = .error x) : Er l x := by
 unfold pieR at h;split at h
 ·cases h
 ·rename_i hn; cases h; exact ⟨hn, hq⟩
theorem er_grp {q : Nat} (hq : q <= l.length) (h : grpR G t q = .error x) : Er l x := by
 unfold grpR at h;split at h
 ·cases h
 ·rename_i hn; cases h; exact ⟨hn, hq⟩
theorem er_mat {q : Nat} (hq : q <= l.length) (h : matR G l q i = .error x) : Er l x := by
 unfold matR at h;split at h
 ·rename_i hd; cases h; exact xqw (by decide) hq hd
 ·split at h
  ·rename_i hp; cases h; exact xmw hq hp
  ·split at h
   ·rename_i hg; cases h; exact er_grp hq hg
   ·cases h
theorem er_one (hi : i <= l.length) (h : oneA G l i = .error x) : Er l x := by
 unfold oneA at h;split at h
 ·unfold linR at h;split at h
  ·cases h; exact ⟨Nat.succ_ne_zero _, hi⟩
  ·cases h
 ·split at h
  ·cases h
  ·split at h
   ·exact er_mat hi h
   ·split at h
    ·exact er_mat hi h
    ·cases h
theorem er_two (hi : i <= l.length) (h : twoA G l i = .error x) : Er l x := by
 unfold twoA at h;split at h
 ·rename_i ho; cases h; exact er_one hi ho
 ·rename_i a k ho;have hk := xew ho hi;split at h
  ·cases h
  ·split at h
   ·rename_i hm;have h1 := xao l (xab l k + 1) (xct hm);split at h
    ·rename_i h2; cases h; exact er_one h1 h2
    ·rename_i h2;split at h
     ·cases h; exact ⟨Nat.succ_ne_zero _, xew h2 h1⟩
     ·cases h
   ·cases h
theorem xlg (hi : i <= l.length) (h : endC l c i = .error x) : Er l x := by
 unfold endC endR at h;split at h
 ·rename_i he;cases h;split at he
  ·cases he
  ·cases he; exact ⟨Nat.succ_ne_zero _, xao l i hi⟩
 ·cases h
theorem xqx (hc : c.pl <= l.length) (h : filC l c i = .error x) : Er l x := by
 unfold filC filR at h;split at h
 ·rename_i he;cases h;split at he
  ·cases he
  ·cases he; exact ⟨Nat.succ_ne_zero _, hc⟩
 ·cases h
theorem er_labC (hc : c.pl <= l.length) (h : labC l c i = .error x) : Er l x := by
 unfold labC labR at h;split at h
 ·rename_i he;cases h;split at he
  ·cases he; exact ⟨Nat.succ_ne_zero _, hc⟩
  ·cases he
 ·cases h
theorem er_txtC (hc : c.pl <= l.length) (h : txtC l c i = .error x) : Er l x := by
 unfold txtC txtR at h;split at h
 ·rename_i he;cases h;split at he
  ·cases he
  ·rename_i hn; cases he; exact ⟨hn, hc⟩
 ·cases h
theorem xmx : ∀ (n : Nat) {c : Co} {i : Nat} {x : Nat × Nat}, c.pl <= l.length -> i <= l.length -> flgR l n c i = .error x -> Er l x
 | 0, c, i, x, hc, hi, h => by cases h
 | n + 1, c, i, x, hc, hi, h => by
  unfold flgR at h;split at h
  ·rename_i hm;split at h
   ·cases h; exact ⟨Nat.succ_ne_zero _, hi⟩
   ·exact xmx n (by exact hc) (xct hm) h
  ·split at h
   ·rename_i hm;split at h
    ·cases h; exact ⟨Nat.succ_ne_zero _, hi⟩
    ·exact xmx n (by exact hc) (xct hm) h
   ·split at h
    ·split at h
     ·cases h; exact ⟨Nat.succ_ne_zero _, hi⟩
     ·rename_i hn;have he : (numR l i).2.2 = 0 := Decidable.not_not.1 fun e => hn (.inr (.inl e));exact xmx n (by exact hc) (xeu hi he) h
    ·split at h
     ·exact xqx hc h
     ·exact xlg hi h
theorem er_sed (hc : c.pl <= l.length) (h : sedR G l c i = .error x) : Er l x := by
 unfold sedR at h;split at h
 ·rename_i hd; cases h; exact xqw (by decide) hc hd
 ·rename_i d j hd;have hj := (xb4 hd).2.1;split at h
  ·rename_i hp; cases h; exact xmw hc hp
  ·rename_i t k hp;have hk := (xbd hp hj).2;split at h
   ·rename_i hp; cases h; exact xmw hc hp
   ·rename_i u m hu;have hm := (xbd hu hk).2;split at h
    ·rename_i hg; cases h; exact er_grp hc hg
    ·split at h
     ·rename_i hn; cases h; exact ⟨hn, hc⟩
     ·split at h
      ·cases h; exact ⟨Nat.succ_ne_zero _, hc⟩
      ·split at h
       ·rename_i hf; cases h; exact xmx _ (by exact hc) hm hf
       ·cases h
theorem er_sid {d : UInt8} {q : Nat} (hq : q <= l.length) (h : sidR l d q i = .error x) : Er l x := by
 unfold sidR at h;split at h
 ·rename_i hp; cases h; exact xmw hq hp
 ·split at h
  ·cases h
  ·rename_i hn; cases h; exact ⟨hn, hq⟩
theorem er_tab (hc : c.pl <= l.length) (h : tabR l c i = .error x) : Er l x := by
 unfold tabR at h;split at h
 ·rename_i hd; cases h; exact xqw (by decide) hc hd
 ·split at h
  ·rename_i hp; cases h; exact er_sid hc hp
  ·split at h
   ·rename_i hp; cases h; exact er_sid hc hp
   ·split at h
    ·cases h; exact ⟨Nat.succ_ne_zero _, hc⟩
    ·cases h
theorem er_rst (hc : c.pl <= l.length) (hi : i <= l.length) (h : rstR G l c i = .error x) : Er l x := by
 unfold rstR at h;split at h
 ·cases h
 ·split at h
  ·exact er_txtC hc h
  ·split at h
   ·exact er_labC hc h
   ·split at h
    ·exact xqx hc h
    ·split at h
     ·exact er_sed hc h
     ·split at h
      ·split at h
       ·rename_i ht; cases h; exact er_tab hc ht
       ·rename_i ht;exact xlg (xho ht) h
      ·split at h
       ·exact xlg hi h
       ·cases h; exact ⟨Nat.succ_ne_zero _, hc⟩
theorem er_cmd (hi : i <= l.length) (h : cmdR G l i = .error x) : Er l x := by
 unfold cmdR at h;split at h
 ·rename_i ht; cases h; exact er_two hi ht
 ·rename_i a b k ht;have hn := not_le (xkd ht hi);split at h
  ·cases h; exact ⟨Nat.succ_ne_zero _, hn⟩
  ·rename_i nm hm;have hlt := (List.getElem?_eq_some_iff.1 hm).1;exact er_rst (by exact hn) hlt h
theorem xqy : ∀ (n : Nat) {i : Nat} {acc : List Co} {x : Nat × Nat}, i <= l.length -> allR G l n i acc = .error x -> Er l x
 | 0, i, acc, x, hi, h => by cases h
 | n + 1, i, acc, x, hi, h => by
  unfold allR at h;split at h
  ·cases h
  ·rename_i k hk;have h1 := xe8 _ hi hk;split at h
   ·rename_i hc; cases h; exact er_cmd (by omega) hc
   ·rename_i c m hc;exact xqy n (xf8 hc).2 h
theorem xqz (G : Gr) (l : List UInt8) (hl : l.length <= 4096) : scrR G l = (match alF G l 0 [] with | .error (e, p) => ([], false, e, p) | .ok cs => (cs, quiB l, 0, 0)) := by
 unfold scrR;rw [if_neg (by omega)];rfl
theorem xhc (h : (scrR G l).2.2.1 = 0) : l.length <= 4096 /\ ∃ cs, alF G l 0 [] = .ok cs /\ scrR G l = (cs, quiB l, 0, 0) := by
 have hl : l.length <= 4096 := by
  unfold scrR at h;split at h
  ·simp at h
  ·omega
 refine ⟨hl, ?_⟩;rw [xqz G l hl] at h ⊢;cases ha : alF G l 0 [] with
 | error x =>
  rw [ha] at h;exact absurd h (xqy _ (Nat.zero_le _) ha).1
 | ok cs => exact ⟨cs, rfl, rfl⟩
theorem scr_bad (h : (scrR G l).2.2.1 ≠ 0) : (scrR G l).1 = [] /\ (scrR G l).2.1 = false /\ (scrR G l).2.2.2 <= l.length := by
 unfold scrR at h ⊢;split
 ·exact ⟨rfl, rfl, Nat.zero_le _⟩
 ·rename_i hn;rw [if_neg hn] at h;split
  ·rename_i e p he;exact ⟨rfl, rfl, (xqy _ (Nat.zero_le _) he).2⟩
  ·rename_i he;rw [he] at h;exact absurd rfl h
theorem scr_join {a b : List UInt8} (ha : (scrR G a).2.2.1 = 0) (hb : (scrR G b).2.2.1 = 0) (hl : a.length + b.length <= 4095) : scrR G (a ++ 10 :: b) = ((scrR G a).1 ++ (scrR G b).1.map (mv (a.length + 1)), (scrR G a).2.1, 0, 0) := by
 obtain ⟨_, l, h1, e1⟩ := xhc ha;obtain ⟨_, m, h2, e2⟩ := xhc hb;rw [xqz G _ (by rw [List.length_append, List.length_cons]; omega), all_join G a b h1 h2, e1, e2, qui_px]
def Sep (p : List UInt8) : Prop := ∀ q l : List UInt8, cmF (q ++ (p ++ l)) q.length = cmF (q ++ (p ++ l)) (q.length + p.length)
theorem Sep.nil : Sep [] := fun _ _ => rfl
theorem Sep.one {b : UInt8} (hb : [32, 9, 10, 59].contains b = true) : Sep [b] := fun q l => by
 have hg : (q ++ ([b] ++ l))[q.length]? = some b := by rw [List.getElem?_append_right qr, Nat.sub_self]; rfl
 have hm : mtB (q ++ ([b] ++ l)) q.length [32, 9, 10, 59] = true := by unfold mtB; rw [hg]; exact hb
 have hlt := xct hm;rw [xqo _ _ (by omega), if_neg (by omega), if_pos hm];rfl
structure FO (c : Co) : Prop where
 lb : c.nm ≠ 58 -> c.nm ≠ 98 -> c.nm ≠ 116 -> c.lb = []
 tx : c.nm ≠ 97 -> c.nm ≠ 105 -> c.nm ≠ 99 -> c.tx = []
 fl : c.nm ≠ 114 -> c.nm ≠ 119 -> c.nm ≠ 115 -> c.fl = []
 fr : c.nm ≠ 121 -> c.fr = [] /\ c.to = []
 sd : c.nm ≠ 115 -> c.re = [] /\ c.ps = [] /\ c.nh = 0 /\ c.an = false /\ c.pr = false
 nh : c.nm = 115 -> 1 <= c.nh /\ c.nh <= 512
 te : c.nm = 97 \/ c.nm = 105 \/ c.nm = 99 -> ∃ t, c.tx = t ++ [10]
 ft : c.fr.length = c.to.length
 ad : c.a.k = 0 -> c.b.k = 0
structure Bg (c : Co) : Prop where
 lb : c.lb = []
 tx : c.tx = []
 fl : c.fl = []
 fr : c.fr = []
 to : c.to = []
 re : c.re = []
 ps : c.ps = []
 nh : c.nh = 0
 an : c.an = false
 pr : c.pr = false
 ad : c.a.k = 0 -> c.b.k = 0
theorem two_ad {a b : Adr} (h : twoA G l i = .ok (a, b, k)) : a.k = 0 -> b.k = 0 := by
 unfold twoA at h;split at h
 ·cases h
 ·split at h
  ·cases h; intro _; rfl
  ·rename_i hn;split at h
   ·split at h
    ·cases h
    ·split at h
     ·cases h
     ·cases h; intro h0; exact absurd h0 hn
   ·cases h; intro _; rfl
structure Fg (c : Co) (d : Co) : Prop where
 pl : d.pl = c.pl
 nm : d.nm = c.nm
 a : d.a = c.a
 b : d.b = c.b
 lb : d.lb = c.lb
 tx : d.tx = c.tx
 fr : d.fr = c.fr
 to : d.to = c.to
 nh : d.nh <= 512
theorem xen : ∀ (n : Nat) {c d : Co} {i k : Nat}, c.nh <= 512 -> flgR l n c i = .ok (d, k) -> Fg c d
 | 0, c, d, i, k, hc, h => by cases h; exact ⟨rfl, rfl, rfl, rfl, rfl, rfl, rfl, rfl, hc⟩
 | n + 1, c, d, i, k, hc, h => by
  unfold flgR at h;split at h
  ·exact bxw12
  ·split at h
   ·exact bxw12
   ·split at h
    ·split at h
     ·cases h
     ·rename_i hn;have h5 : (numR l i).1 <= 512 := Nat.le_of_not_lt fun e => hn (.inr (.inr (.inr e)));have := xen n (by exact h5) h; exact ⟨this.pl, this.nm, this.a, this.b, this.lb, this.tx, this.fr, this.to, this.nh⟩
    ·split at h
     ·unfold filC at h;split at h
      ·cases h
      ·cases h; exact ⟨rfl, rfl, rfl, rfl, rfl, rfl, rfl, rfl, hc⟩
     ·unfold endC at h;split at h
      ·cases h
      ·cases h; exact ⟨rfl, rfl, rfl, rfl, rfl, rfl, rfl, rfl, hc⟩
theorem xlh : ∀ (x : List UInt8) (p : Nat) (t : List UInt8), (txR x p t).2.2 = 0 -> ∃ y, (txR x p t).1 = y ++ [10]
 | [], p, t => by intro _; exact ⟨t, by simp [txR]⟩
 | [b], p, t => by
  unfold txR;split
  ·intro _; exact ⟨t, rfl⟩
  ·split
   ·simp
   ·intro _; exact ⟨t ++ [b], rfl⟩
 | b :: c :: r, p, t => by
  have h1 := xlh (c :: r) (p + 1) (t ++ [b]);have h2 := xlh r (p + 2) (t ++ [c]);unfold txR;split
  ·intro _; exact ⟨t, rfl⟩
  ·split
   ·exact h2
   ·exact h1
theorem xq0 (h : (scanP.textR l i).2.2 = 0) : ∃ y, (scanP.textR l i).1 = y ++ [10] := by
 unfold scanP.textR at h ⊢;simp only at h ⊢;split
 ·rename_i b c r hd;rw [hd] at h;simp only at h;split
  ·rename_i hc;rw [if_pos hc] at h;split
   ·rename_i hr; rw [if_pos hr] at h; simp at h
   ·rename_i hr; rw [if_neg hr] at h; exact xlh _ _ _ h
  ·rename_i hc; rw [if_neg hc] at h; simp at h
 ·rename_i hx;exfalso;split at h
  ·rename_i hd; exact hx _ _ _ hd
  ·simp at h
theorem rst_fo {d : Co} (hc : Bg c) (h : rstR G l c i = .ok (d, k)) : FO d /\ d.pl = c.pl /\ d.nm = c.nm := by
 unfold rstR at h;split at h
 ·rename_i hn;cases h;exact ⟨⟨fun _ _ _ => hc.lb, fun _ _ _ => hc.tx, fun _ _ _ => hc.fl, fun _ => ⟨hc.fr, hc.to⟩, fun _ => ⟨hc.re, hc.ps, hc.nh, hc.an, hc.pr⟩, fun e => (by rw [hn] at e; cases e), fun e => absurd e (by rw [hn]; decide), by rw [hc.fr, hc.to], hc.ad⟩, rfl, rfl⟩
 ·split at h
  ·rename_i hn;unfold txtC txtR at h;split at h
   ·cases h
   ·rename_i ht;split at ht
    ·rename_i he;cases ht;cases h;have hl := xq0 he;refine ⟨⟨fun _ _ _ => hc.lb, fun a b e => ?_, fun _ _ _ => hc.fl, fun _ => ⟨hc.fr, hc.to⟩, fun _ => ⟨hc.re, hc.ps, hc.nh, hc.an, hc.pr⟩, fun e => ?_, fun _ => hl, by rw [hc.fr, hc.to], hc.ad⟩, rfl, rfl⟩
     ·rcases hn with hn | hn | hn
      ·exact absurd hn a
      ·exact absurd hn b
      ·exact absurd hn e
     ·rcases hn with hn | hn | hn <;> · rw [show c.nm = 115 from e] at hn; cases hn
    ·cases ht
  ·rename_i hn1;split at h
   ·rename_i hn;unfold labC labR at h;split at h
    ·cases h
    ·rename_i ht;split at ht
     ·cases ht
     ·cases ht;cases h;refine ⟨⟨fun a b e => ?_, fun _ _ _ => hc.tx, fun _ _ _ => hc.fl, fun _ => ⟨hc.fr, hc.to⟩, fun _ => ⟨hc.re, hc.ps, hc.nh, hc.an, hc.pr⟩, fun e => ?_, fun e => absurd e hn1, by rw [hc.fr, hc.to], hc.ad⟩, rfl, rfl⟩
      ·rcases hn with hn | hn | hn
       ·exact absurd hn a
       ·exact absurd hn b
       ·exact absurd hn e
      ·rcases hn with hn | hn | hn <;> · rw [show c.nm = 115 from e] at hn; cases hn
   ·split at h
    ·rename_i hn;unfold filC filR at h;split at h
     ·cases h
     ·cases h;refine ⟨⟨fun _ _ _ => hc.lb, fun _ _ _ => hc.tx, fun a b e => ?_, fun _ => ⟨hc.fr, hc.to⟩, fun _ => ⟨hc.re, hc.ps, hc.nh, hc.an, hc.pr⟩, fun e => ?_, fun e => absurd e hn1, by rw [hc.fr, hc.to], hc.ad⟩, rfl, rfl⟩
      ·rcases hn with hn | hn
       ·exact absurd hn a
       ·exact absurd hn b
      ·rcases hn with hn | hn <;> · rw [show c.nm = 115 from e] at hn; cases hn
    ·split at h
     ·rename_i hn;unfold sedR at h;split at h
      ·cases h
      ·split at h
       ·cases h
       ·split at h
        ·cases h
        ·split at h
         ·cases h
         ·split at h
          ·cases h
          ·split at h
           ·cases h
           ·split at h
            ·cases h
            ·rename_i d2 k2 hf;cases h;have hk := xen _ (by show c.nh <= 512; rw [hc.nh]; omega) hf;have en : d2.nm = 115 := hk.nm.trans hn;refine ⟨⟨fun _ _ _ => hk.lb.trans hc.lb, fun _ _ _ => hk.tx.trans hc.tx, fun _ _ e => absurd en e, fun _ => ⟨hk.fr.trans hc.fr, hk.to.trans hc.to⟩, fun e => absurd en e, fun _ => ⟨Nat.le_max_right _ _, Nat.max_le.2 ⟨hk.nh, by omega⟩⟩, fun e => absurd ?_ hn1, by show d2.fr.length = d2.to.length; rw [hk.fr, hk.to]; show c.fr.length = c.to.length; rw [hc.fr, hc.to], fun e => ?_⟩, hk.pl, hk.nm⟩
             ·have e2 : d2.nm = c.nm := hk.nm;rw [<- e2]; exact e
             ·have e1 : d2.a = c.a := hk.a;have e2 : d2.b = c.b := hk.b;show d2.b.k = 0
              rw [e2];refine hc.ad ?_;rw [<- e1]; exact e
     ·rename_i hns;split at h
      ·rename_i hn;split at h
       ·cases h
       ·rename_i c2 k2 ht;unfold endC at h;split at h
        ·cases h
        ·cases h;unfold tabR at ht;split at ht
         ·cases ht
         ·split at ht
          ·cases ht
          ·split at ht
           ·cases ht
           ·split at ht
            ·cases ht
            ·rename_i hne;cases ht;exact ⟨⟨fun _ _ _ => hc.lb, fun _ _ _ => hc.tx, fun _ _ _ => hc.fl, fun e => absurd hn e, fun _ => ⟨hc.re, hc.ps, hc.nh, hc.an, hc.pr⟩, fun e => absurd e hns, fun e => absurd e hn1, Decidable.not_not.1 fun e => hne (.inl e), hc.ad⟩, rfl, rfl⟩
      ·split at h
       ·unfold endC at h;split at h
        ·cases h
        ·cases h;exact ⟨⟨fun _ _ _ => hc.lb, fun _ _ _ => hc.tx, fun _ _ _ => hc.fl, fun _ => ⟨hc.fr, hc.to⟩, fun _ => ⟨hc.re, hc.ps, hc.nh, hc.an, hc.pr⟩, fun e => absurd e hns, fun e => absurd e hn1, by rw [hc.fr, hc.to], hc.ad⟩, rfl, rfl⟩
       ·cases h
theorem not_ge (l : List UInt8) (i : Nat) : i <= (notR l i).2 := by
 have h1 := xgr l i;unfold notR;split
 ·have h2 := xgr l (xab l i + 1);show i <= xab l (xab l i + 1)
  omega
 ·exact h1
theorem cmd_fo (h : cmdR G l i = .ok (c, k)) : FO c /\ i <= c.pl /\ c.pl < k /\ l[c.pl]? = some c.nm := by
 unfold cmdR at h;split at h
 ·cases h
 ·rename_i a b m ht;have hm := two_ge ht;have hg := not_ge l m;split at h
  ·cases h
  ·rename_i nm hn;have hlt := (List.getElem?_eq_some_iff.1 hn).1;obtain ⟨h1, h2, h3⟩ := rst_fo ⟨rfl, rfl, rfl, rfl, rfl, rfl, rfl, rfl, rfl, rfl, two_ad ht⟩ h;have h4 := rst_fw hlt h;have h2' : c.pl = (notR l m).2 := h2;have h3' : c.nm = nm := h3;exact ⟨h1, by omega, by omega, by rw [h2', h3']; exact hn⟩
structure Fields (l : List UInt8) (cs : List Co) : Prop where
 fo : ∀ c ∈ cs, FO c /\ l[c.pl]? = some c.nm
 up : ∀ (k : Nat) (c d : Co), cs[k]? = some c -> cs[k + 1]? = some d -> c.pl < d.pl
theorem all_fo : ∀ (n : Nat) {i : Nat} {acc cs : List Co}, i <= l.length -> Fields l acc -> (∀ c ∈ acc, c.pl < i) -> allR G l n i acc = .ok cs -> Fields l cs
 | 0, i, acc, cs, hi, ha, hp, h => by cases h; exact ha
 | n + 1, i, acc, cs, hi, ha, hp, h => by
  unfold allR at h;split at h
  ·cases h; exact ha
  ·rename_i k hk;have h1 := xe8 _ hi hk;split at h
   ·cases h
   ·rename_i c m hc;have h2 := xf8 hc;obtain ⟨f1, f2, f3, f4⟩ := cmd_fo hc;refine all_fo n h2.2 ⟨fun d hd => ?_, fun j x y hx hy => ?_⟩ (fun d hd => ?_) h
    ·rcases List.mem_append.1 hd with hd | hd
     ·exact ha.fo d hd
     ·rw [List.mem_singleton.1 hd]; exact ⟨f1, f4⟩
    ·rcases Nat.lt_or_ge (j + 1) acc.length with hj | hj
     ·rw [List.getElem?_append_left (by omega)] at hx hy;exact ha.up j x y hx hy
     ·have hjl : j + 1 = acc.length := by
       have := (List.getElem?_eq_some_iff.1 hy).1;rw [List.length_append, List.length_singleton] at this;omega
      rw [List.getElem?_append_left (by omega)] at hx;rw [List.getElem?_append_right hj, hjl, Nat.sub_self] at hy;cases hy;have := hp x (List.mem_of_getElem? hx);omega
    ·rcases List.mem_append.1 hd with hd | hd
     ·have := hp d hd; omega
     ·rw [List.mem_singleton.1 hd]; exact f3
theorem xe4 (h : (scrR G l).2.2.1 = 0) : Fields l (scrR G l).1 := by
 obtain ⟨_, cs, h1, e⟩ := xhc h;rw [e];exact all_fo _ (Nat.zero_le _) ⟨fun c hc => by simp at hc, fun k c d hc => by simp at hc⟩ (fun c hc => by simp at hc) h1
end Go.Proofs.YtcpokkpjeeblnaaGreatDoor
namespace Go.Proofs.YtcpokkpjeeblnaaGreatDoor
open Go.RowKit
open scanP scrP tpl ytb
variable {w w' : World}
theorem Gl.below (h : Gl w) (hb : Below w.heap.size w w') : Gl w' := (h.stay (Tch.of (F := fun _ => False) hb) (fun _ h => h.elim))
theorem xid {P : Program} {ops : Array Oper} {rest : List Oper} {op : Oper} {a : Act} {Q : Exit -> Act -> World -> Prop} {v : Value} (hgd : op.guard = none) (hx : (execOp a.eval op).run P w = .ok (.value v) w') (h : wpList P ops Q rest (a.put op.dst v) w') : wpList P ops Q (op :: rest) a w := by
 refine wpList_plain hgd fun K hK => ?_;unfold Oper.wp;rw [hx];exact hK _ _ h
theorem xcl (w : World) (o : Obj) : (w.alloc o).heap.size = w.heap.size + 1 := Array.size_push _
end Go.Proofs.YtcpokkpjeeblnaaGreatDoor
namespace Go.Proofs.YtcpokkpjeeblnaaGreatDoor
open Go.ChangeShapes Go.WideShapes Go.RowKit
def laidS : List (String × DataW Unit) := [("math/bits.deBruijn64tab", Rows.laid_math_bits_deBruijn64tab), ("unicode/utf8.acceptRanges", Rows.laid_unicode_utf8_acceptRanges), ("errors.errorType", Rows.laid_errors_errorType), ("unicode/utf8.first", Rows.laid_unicode_utf8_first)]
def plainS : List (String × DataW Unit) := [("math/bits.deBruijn64tab", Rows.laid_math_bits_deBruijn64tab), ("unicode/utf8.acceptRanges", Rows.laid_unicode_utf8_acceptRanges), ("unicode/utf8.first", Rows.laid_unicode_utf8_first)]
theorem et : Tryz.prog.globalNamed "errors.errorType" = some 0 := by kernel_rfl
theorem rt : (Tryz.prog.cutTypes.find? (·.1 == "internal/reflectlite.rtype")).map (·.2) = some 220 := by kernel_rfl
theorem tysize : Tryz.prog.types.size = 539 := by kernel_rfl
theorem oneRow : ((List.range 539).filter fun t => Tryz.prog.rowNamed t [101, 114, 114, 111, 114]) = [125] := by kernel_rfl
theorem xn2 : (laidS.filter fun x => x.2.handleName?.isSome) = [("errors.errorType", Rows.laid_errors_errorType)] := by kernel_rfl
theorem xn3 : (laidS.filter fun x => x.2.handleName?.isNone) = plainS := by kernel_rfl
theorem gl_of {W : World} (h : laidMetH Tryz.prog laidS W) (hm : ∃ m : Int, W.cell? ⟨1, 0, none⟩ = some (.int .i64 m)) : Gl W := by
 refine ⟨hm, ?_⟩;unfold laidMetH at h;rw [xn2] at h;obtain ⟨name, u, ty, e1, e2, e3, e4, e5⟩ := h.2 _ (List.mem_singleton.2 rfl);have en : name = [101, 114, 114, 111, 114] := (Option.some.inj e1).symm;subst en;obtain rfl := Option.some.inj (rt.symm.trans e2);have hx : ty ∈ (List.range 539).filter fun t => Tryz.prog.rowNamed t [101, 114, 114, 111, 114] := List.mem_filter.2 ⟨List.mem_range.2 (by rw [<- tysize]; exact e3), e4⟩;rw [oneRow] at hx;obtain rfl := List.mem_singleton.1 hx;have hh : typeHandle Tryz.prog 125 = .pointer (some ⟨7, 125, none⟩) := by kernel_rfl
 rw [hh] at e5;simpa using World.var?_cell et e5 0
noncomputable def startW (os : Os) : World :=
 let w0 := World.holding Tryz.prog os ⟨#[], #[], []⟩
 { w0 with heap := w0.heap.modify 0 fun
   | .cells _ t frozen => .cells #[.iface 220 (.agg #[.pointer (some ⟨7, 125, none⟩)])] t frozen
   | o => o }
noncomputable def xeo (os : Os) : World := (startW os).layVars Tryz.prog plainS
theorem xjz (os : Os) : (xeo os).os = os := World.layVars_os _ _ _
theorem xii (os : Os) (args : Array Value) : laidMetH Tryz.prog laidS ((xeo os).forCall (fun _ _ => 0) ⟨#[], args, []⟩).memory := by
 refine laidMetH_of_parts ?_ (by kernel_rfl);rw [xn3];have e1 : (plainS.filter fun x => (plainS.map (·.1)).contains x.1) = plainS := List.filter_eq_self.2 fun x hx => List.contains_iff_mem.2 (List.mem_map.2 ⟨x, hx, rfl⟩);have e2 : (plainS.filter fun x => !(plainS.map (·.1)).contains x.1) = [] := List.filter_eq_nil_iff.2 fun x hx => by rw [List.contains_iff_mem.2 (List.mem_map.2 ⟨x, hx, rfl⟩)]; simp
 have h : laidMet Tryz.prog plainS (xeo os) := laidMet_layVars (w0 := startW os) (plainS.map (·.1)) [] (by rw [e1]; rfl) (by rw [e1]; kernel_rfl) (by rw [e1]; kernel_rfl) (by rw [e2]; exact LaidIn.none);exact h.of_heap (by simp [World.memory, World.forCall, Input.heap])
end Go.Proofs.YtcpokkpjeeblnaaGreatDoor
namespace Go.Proofs.YtcpokkpjeeblnaaGreatDoor
namespace emP
open scrP ckp ckp.chkP
def toCm (c : Co) : Cm := ⟨c.pl, c.a.k, c.b.k, c.nt, c.nm, c.lb⟩
def wrB (c : Co) : Bool := c.nm == 119 || c.nm == 115 && !c.fl.isEmpty
def wtR : List Co -> List (List UInt8) -> Nat ⊕ List (List UInt8)
 | [], fs => .inr fs
 | c :: r, fs => if wrB c = false \/ c.fl ∈ fs then wtR r fs else if fs.length = 16 then .inl c.pl else wtR r (fs ++ [c.fl])
def slN : List Co -> Nat
 | [] => 0
 | c :: r => (if c.b.k = 0 then 0 else 1) + slN r
theorem slN_app (l m : List Co) : slN (l ++ m) = slN l + slN m := by
 induction l with
 | nil => simp [slN]
 | cons c r ih => simp [slN, ih]; omega
structure Js where
 ends : Nat -> Nat
 labs : List UInt8 -> Nat
 op : List Nat
def Js.step (s : Js) (i : Nat) (c : Co) : Js :=
 if c.nm = 123 then { s with op := s.op ++ [i] }
 else if c.nm = 125 then { s with ends := fun j => if j = s.op.getLastD 0 then i else s.ends j, op := s.op.dropLast }
 else if c.nm = 58 then { s with labs := fun t => if t = c.lb then i else s.labs t }
 else s
def jsR (l : List Co) : Nat -> Js
 | 0 => ⟨fun _ => 0, fun t => if t = [] then l.length else 0, []⟩
 | k + 1 => match l[k]? with
  | none => jsR l k
  | some c => (jsR l k).step k c
theorem xie (l : List Co) (k : Nat) (c : Co) (h : l[k]? = some c) : jsR l (k + 1) = (jsR l k).step k c := by
 rw [jsR, h]
def jmN (l : List Co) (i : Nat) (c : Co) : Nat :=
 if c.nm = 123 then (jsR l l.length).ends i else if c.nm = 98 \/ c.nm = 116 then (jsR l l.length).labs c.lb else 0
def depO : List Co -> Option Nat -> Option Nat
 | [], o => o
 | c :: r, o => depO r (match o with
  | none => none
  | some n => if c.nm = 123 then some (n + 1) else if c.nm = 125 then (if n <= 1 then none else some (n - 1)) else if n = 0 then none else some n)
theorem xek (x y : List Co) (o : Option Nat) : depO (x ++ y) o = depO y (depO x o) := by
 induction x generalizing o with
 | nil => rfl
 | cons c r ih => exact ih _
variable {l : List Co} {k i n : Nat} {c : Co}
theorem xel (h : l[k]? = some c) (hi : i <= k) : (l.take (k + 1)).drop i = (l.take k).drop i ++ [c] := by
 obtain ⟨hk, e⟩ := List.getElem?_eq_some_iff.1 h;rw [List.take_succ_eq_append_getElem hk, e, List.drop_append_of_le_length (by rw [List.length_take]; omega)]
theorem dep_open (h : l[k]? = some c) (hi : i <= k) (hc : c.nm = 123) (hd : depO ((l.take k).drop i) (some 0) = some n) : depO ((l.take (k + 1)).drop i) (some 0) = some (n + 1) := by
 rw [xel h hi, xek, hd]; simp [depO, hc]
theorem dep_shut (h : l[k]? = some c) (hi : i <= k) (hc : c.nm = 125) (hn : 2 <= n) (hd : depO ((l.take k).drop i) (some 0) = some n) : depO ((l.take (k + 1)).drop i) (some 0) = some (n - 1) := by
 rw [xel h hi, xek, hd]; simp [depO, hc]; omega
theorem dep_else (h : l[k]? = some c) (hi : i <= k) (h1 : c.nm ≠ 123) (h2 : c.nm ≠ 125) (hn : 1 <= n) (hd : depO ((l.take k).drop i) (some 0) = some n) : depO ((l.take (k + 1)).drop i) (some 0) = some n := by
 rw [xel h hi, xek, hd]; simp [depO, h1, h2]; omega
def Meets (l : List Co) (k i j : Nat) : Prop := i < j /\ j < k /\ (∃ c, l[j]? = some c /\ c.nm = 125) /\ depO ((l.take j).drop i) (some 0) = some 1
structure JI (l : List Co) (k : Nat) (s : Js) : Prop where
 st : ∀ (p i : Nat), s.op[p]? = some i -> i < k /\ depO ((l.take k).drop i) (some 0) = some (s.op.length - p)
 br : ∀ (i : Nat) (c : Co), i < k -> l[i]? = some c -> c.nm = 123 -> i ∈ s.op \/ Meets l k i (s.ends i)
 la : ∀ (t : List UInt8), t ≠ [] -> labB ((l.take k).map toCm) t = true -> ∃ c, l[s.labs t]? = some c /\ s.labs t < k /\ c.nm = 58 /\ c.lb = t
 le : s.labs [] = l.length
 en : ∀ i, s.ends i <= l.length
 lt : ∀ t, s.labs t <= l.length
theorem JI.start (l : List Co) : JI l 0 (jsR l 0) := ⟨fun p i h => by simp [jsR] at h, fun i c h => by omega, fun t _ h => by simp [labB] at h, by simp [jsR], fun i => Nat.zero_le _, fun t => by simp only [jsR]; split <;> omega⟩
theorem Meets.up {j : Nat} (h : Meets l k i j) : Meets l (k + 1) i j := ⟨h.1, by have := h.2.1; omega, h.2.2⟩
theorem xft (l : List Co) (k : Nat) (c : Co) (h : l[k]? = some c) (t : List UInt8) : labB ((l.take (k + 1)).map toCm) t = (labB ((l.take k).map toCm) t || (c.nm == 58 && c.lb == t)) := by
 obtain ⟨hk, e⟩ := List.getElem?_eq_some_iff.1 h;rw [List.take_succ_eq_append_getElem hk, e];simp [labB, toCm]
variable {s : Js}
theorem JI.next (h : JI l k s) (hc : l[k]? = some c) (hs : c.nm = 125 -> s.op ≠ []) (hl : c.nm = 58 -> c.lb ≠ []) : JI l (k + 1) (s.step k c) := by
 have hk := (List.getElem?_eq_some_iff.1 hc).1;unfold Js.step;by_cases h1 : c.nm = 123
 ·rw [if_pos h1];refine ⟨fun p i hp => ?_, fun i d hi hd hn => ?_, fun t ht hb => ?_, h.le, h.en, h.lt⟩
  ·simp only at hp ⊢;rcases Nat.lt_or_ge p s.op.length with hq | hq
   ·rw [List.getElem?_append_left hq] at hp;obtain ⟨a, b⟩ := h.st p i hp;refine ⟨by omega, ?_⟩;rw [dep_open hc (by omega) h1 b, List.length_append];simp only [List.length_singleton];congr 1; omega
   ·rw [List.getElem?_append_right hq] at hp;have : p - s.op.length = 0 := by
     have := (List.getElem?_eq_some_iff.1 hp).1;simp at this; omega
    rw [this] at hp;simp at hp;subst hp;refine ⟨by omega, ?_⟩;rw [xel hc qr, List.drop_of_length_le (by simp; omega)];simp [depO, h1];omega
  ·simp only at *;rcases Nat.lt_or_ge i k with hik | hik
   ·rcases h.br i d hik hd hn with h2 | h2
    ·exact .inl (by simp [h2])
    ·exact .inr h2.up
   ·obtain rfl : i = k := by omega
    exact .inl (by simp)
  ·rw [xft l k c hc] at hb;have : (c.nm == 58) = false := by rw [h1]; rfl
   exact bxw15
 ·rw [if_neg h1];by_cases h2 : c.nm = 125
  ·rw [if_pos h2];obtain ⟨q, z, hz⟩ : ∃ q z, s.op = q ++ [z] := by
    rcases List.eq_nil_or_concat s.op with e | ⟨q, z, e⟩
    ·exact absurd e (hs h2)
    ·exact ⟨q, z, by rw [e, List.concat_eq_append]⟩
   have hq : s.op[q.length]? = some z := by rw [hz]; simp
   have htop := h.st _ _ hq;have hlast : s.op.getLastD 0 = z := by rw [hz]; simp
   have hdr : s.op.dropLast = q := by rw [hz]; simp
   refine ⟨fun p i hp => ?_, fun i d hi hd hn => ?_, fun t ht hb => ?_, h.le, fun i => ?_, h.lt⟩
   ·simp only at hp ⊢;rw [hdr] at hp ⊢;have hpl := (List.getElem?_eq_some_iff.1 hp).1;obtain ⟨a, b⟩ := h.st p i (by rw [hz, List.getElem?_append_left hpl]; exact hp);refine ⟨by omega, ?_⟩;rw [hz, List.length_append] at b;rw [dep_shut hc (by omega) h2 (by simp; omega) b];simp only [List.length_singleton];congr 1; omega
   ·simp only;rw [hlast, hdr];rcases Nat.lt_or_ge i k with hik | hik
    ·by_cases hiz : i = z
     ·right;rw [if_pos hiz];subst hiz;refine ⟨hik, by omega, ⟨c, hc, h2⟩, ?_⟩;have := htop.2;rw [hz] at this;simpa using this
     ·rw [if_neg hiz];rcases h.br i d hik hd hn with h3 | h3
      ·left;rw [hz] at h3;rcases List.mem_append.1 h3 with h3 | h3
       ·exact h3
       ·exact absurd (List.mem_singleton.1 h3) hiz
      ·exact .inr h3.up
    ·obtain rfl : i = k := by omega
     rw [hc] at hd;cases hd;exact absurd hn h1
   ·rw [xft l k c hc] at hb;have : (c.nm == 58) = false := by rw [h2]; rfl
    exact bxw15
   ·simp only;split
    ·omega
    ·exact h.en i
  ·rw [if_neg h2];have hst : ∀ (p i : Nat), s.op[p]? = some i -> i < k + 1 /\ depO ((l.take (k + 1)).drop i) (some 0) = some (s.op.length - p) := fun p i hp => by
    obtain ⟨a, b⟩ := h.st p i hp;have hpl := (List.getElem?_eq_some_iff.1 hp).1;exact ⟨by omega, dep_else hc (by omega) h1 h2 (by omega) b⟩
   have hbr : ∀ (i : Nat) (d : Co), i < k + 1 -> l[i]? = some d -> d.nm = 123 -> i ∈ s.op \/ Meets l (k + 1) i (s.ends i) := fun i d hi hd hn => by
    rcases Nat.lt_or_ge i k with hik | hik
    ·rcases h.br i d hik hd hn with h3 | h3
     ·exact .inl h3
     ·exact .inr h3.up
    ·obtain rfl : i = k := by omega
     rw [hc] at hd;cases hd;exact absurd hn h1
   by_cases h3 : c.nm = 58
   ·rw [if_pos h3];refine ⟨hst, hbr, fun t ht hb => ?_, ?_, h.en, fun t => ?_⟩
    ·simp only;by_cases htc : t = c.lb
     ·rw [if_pos htc];exact ⟨c, hc, by omega, h3, htc.symm⟩
     ·rw [if_neg htc];rw [xft l k c hc] at hb;have : (c.lb == t) = false := by rw [beq_eq_false_iff_ne]; exact fun e => htc e.symm
      rw [this, Bool.and_false, Bool.or_false] at hb;obtain ⟨d, a, b, e⟩ := h.la t ht hb;exact ⟨d, a, by omega, e⟩
    ·simp only;rw [if_neg (fun e => hl h3 e.symm)];exact h.le
    ·simp only;split
     ·omega
     ·exact h.lt t
   ·rw [if_neg h3];refine ⟨hst, hbr, fun t ht hb => ?_, h.le, h.en, h.lt⟩;rw [xft l k c hc] at hb;have : (c.nm == 58) = false := by rw [beq_eq_false_iff_ne]; exact h3
    rw [this, Bool.false_and, Bool.or_false] at hb;obtain ⟨d, a, b, e⟩ := h.la t ht hb;exact ⟨d, a, by omega, e⟩
theorem one_ok {pre : List Cm} {d : Nat} {c : Cm} (h : (oneR pre d c).1 = 0) : (c.nm = 123 -> (oneR pre d c).2 = d + 1 /\ d + 1 <= 16) /\ (c.nm = 125 -> 0 < d /\ (oneR pre d c).2 = d - 1) /\ (c.nm ≠ 123 -> c.nm ≠ 125 -> (oneR pre d c).2 = d) /\ (c.nm = 58 -> c.lb ≠ []) := by
 unfold oneR at h ⊢;by_cases ha : adrR c = 0
 ·simp only [ha, ne_eq, not_true, if_false] at h ⊢;by_cases h1 : c.nm = 123
  ·simp only [h1, if_true] at h ⊢;by_cases h2 : 16 < d + 1
   ·simp [h2] at h
   ·simp [h2]; omega
  ·by_cases h2 : c.nm = 125
   ·simp only [h2] at h ⊢;by_cases h3 : d = 0
    ·simp [h3] at h
    ·simp [h3]; omega
   ·simp only [h1, h2, if_false] at h ⊢;by_cases h3 : c.nm = 58 /\ (c.lb = [] \/ 32 < c.lb.length \/ labB pre c.lb = true)
    ·rw [if_pos h3] at h; cases h
    ·rw [if_neg h3];refine ⟨fun e => absurd e id, fun e => absurd e id, fun _ _ => rfl, fun e he => h3 ⟨e, .inl he⟩⟩
 ·simp [ha] at h
structure GI (l : List Co) (k : Nat) (s : Js) : Prop where
 ji : JI l k s
 go : goR ((l.take k).map toCm) s.op.length ((l.drop k).map toCm) = .inr 0
 le : s.op.length <= 16
theorem GI.start (h : goR [] 0 (l.map toCm) = .inr 0) : GI l 0 (jsR l 0) := ⟨JI.start l, by simpa [jsR] using h, by simp [jsR]⟩
theorem GI.facts (h : GI l k s) (hc : l[k]? = some c) : (c.nm = 125 -> s.op ≠ []) /\ (c.nm = 58 -> c.lb ≠ []) /\ (c.nm = 123 -> s.op.length + 1 <= 16) /\ GI l (k + 1) (s.step k c) := by
 obtain ⟨hk, e⟩ := List.getElem?_eq_some_iff.1 hc;have hg := h.go;rw [List.drop_eq_getElem_cons hk, e, List.map_cons, goR] at hg;split at hg
 ·cases hg
 ·rename_i h0;have h0 : (oneR ((l.take k).map toCm) s.op.length (toCm c)).1 = 0 := by simpa using h0
  obtain ⟨o1, o2, o3, o4⟩ := one_ok h0;have a1 : c.nm = 125 -> s.op ≠ [] := fun hn he => by have := (o2 hn).1; rw [he] at this; simp at this
  refine ⟨a1, o4, fun hn => (o1 hn).2, h.ji.next hc a1 o4, ?_, ?_⟩
  ·have ht : (l.take (k + 1)).map toCm = (l.take k).map toCm ++ [toCm c] := by rw [List.take_succ_eq_append_getElem hk, e, List.map_append]; rfl
   have hlen : (s.step k c).op.length = (oneR ((l.take k).map toCm) s.op.length (toCm c)).2 := by
    unfold Js.step;by_cases h1 : c.nm = 123
    ·rw [if_pos h1, (o1 h1).1]; simp
    ·rw [if_neg h1];by_cases h2 : c.nm = 125
     ·rw [if_pos h2, (o2 h2).2]; simp
     ·rw [if_neg h2, o3 h1 h2];split <;> rfl
   rw [ht, hlen];exact hg
  ·unfold Js.step;by_cases h1 : c.nm = 123
   ·rw [if_pos h1]; have := (o1 h1).2; simp; omega
   ·rw [if_neg h1];have := h.le;split
    ·simp; omega
    ·split <;> exact this
theorem GI.all (h : goR [] 0 (l.map toCm) = .inr 0) : ∀ k, k <= l.length -> GI l k (jsR l k)
 | 0, _ => GI.start h
 | k + 1, hk => by
  have hc : l[k]? = some (l[k]'hk) := List.getElem?_eq_getElem hk;rw [xie l k _ hc];exact ((GI.all h k (by omega)).facts hc).2.2.2
theorem xhb {l : List Cm} (h : (chkR l).1 = 0) : goR [] 0 l = .inr 0 /\ xjw l l = none := by
 unfold chkR at h;split at h
 ·rename_i x hx;exfalso;have : ∀ (r pre : List Cm) (d : Nat) (x : Nat × Int), goR pre d r = .inl x -> x.1 ≠ 0 := by
   intro r;induction r with
   | nil => intro pre d x h; cases h
   | cons c r ih =>
    intro pre d x h;unfold goR at h;split at h
    ·rename_i h1; cases h; exact h1
    ·exact ih _ _ _ h
  exact this _ _ _ _ hx h
 ·rename_i d hd;split at h
  ·cases h
  ·rename_i hd0;have hd0 : d = 0 := by simpa using hd0
   subst hd0;refine ⟨hd, ?_⟩;cases hj : xjw l l with
   | none => rfl
   | some p => rw [hj] at h; cases h
theorem xjy {all : List Cm} : ∀ {l : List Cm}, xjw all l = none -> ∀ c ∈ l, c.nm = 98 \/ c.nm = 116 -> c.lb ≠ [] -> labB all c.lb = true
 | [], _, c, hc, _, _ => by cases hc
 | x :: r, h, c, hc, hn, hl => by
  unfold xjw at h;split at h
  ·cases h
  ·rename_i h1;rcases List.mem_cons.1 hc with rfl | hc
   ·cases hb : labB all c.lb with
    | true => rfl
    | false => exact absurd ⟨hn, hl, hb⟩ h1
   ·exact xjy h c hc hn hl
theorem jmp_block (h : (chkR (l.map toCm)).1 = 0) (hc : l[i]? = some c) (hn : c.nm = 123) : Meets l l.length i (jmN l i c) := by
 have hg := GI.all (xhb h).1 l.length qr;have ho : (jsR l l.length).op = [] := by
  have h1 := hg.go;rw [List.drop_of_length_le qr] at h1;have h2 : (jsR l l.length).op.length = 0 := by
   simp only [List.map_nil, goR] at h1;exact Sum.inr.inj h1
  exact List.eq_nil_of_length_eq_zero h2
 unfold jmN;rw [if_pos hn];rcases hg.ji.br i c (List.getElem?_eq_some_iff.1 hc).1 hc hn with h1 | h1
 ·rw [ho] at h1; cases h1
 ·exact h1
theorem jmp_label (h : (chkR (l.map toCm)).1 = 0) (hc : l[i]? = some c) (hn : c.nm = 98 \/ c.nm = 116) : (c.lb = [] -> jmN l i c = l.length) /\ (c.lb ≠ [] -> ∃ d, l[jmN l i c]? = some d /\ d.nm = 58 /\ d.lb = c.lb) := by
 have hg := GI.all (xhb h).1 l.length qr;have hj : jmN l i c = (jsR l l.length).labs c.lb := by
  unfold jmN;rw [if_neg (by rcases hn with e | e <;> rw [e] <;> decide), if_pos hn]
 rw [hj];refine ⟨fun e => by rw [e]; exact hg.ji.le, fun e => ?_⟩;have hb := xjy (xhb h).2 (toCm c) (List.mem_map.2 ⟨c, List.mem_of_getElem? hc, rfl⟩) hn e;obtain ⟨d, h1, _, h2, h3⟩ := hg.ji.la c.lb e (by rw [List.take_length]; exact hb);exact ⟨d, h1, h2, h3⟩
theorem jmp_else (h1 : c.nm ≠ 123) (h2 : c.nm ≠ 98) (h3 : c.nm ≠ 116) : jmN l i c = 0 := by
 unfold jmN;rw [if_neg h1, if_neg (fun e => e.elim h2 h3)]
theorem jm_le (h : (chkR (l.map toCm)).1 = 0) (i : Nat) (c : Co) : jmN l i c <= l.length := by
 have hg := GI.all (xhb h).1 l.length qr;unfold jmN;split
 ·exact hg.ji.en i
 ·split
  ·exact hg.ji.lt _
  ·omega
theorem xqi : ∀ (l : List Co) (fs gs : List (List UInt8)), fs.length <= 16 -> wtR l fs = .inr gs -> gs.length <= 16
 | [], fs, gs, h, e => by cases e; exact h
 | c :: r, fs, gs, h, e => by
  unfold wtR at e;split at e
  ·exact xqi r fs gs h e
  ·split at e
   ·cases e
   ·exact xqi r _ gs (by rw [List.length_append]; simp; omega) e
end emP
end Go.Proofs.YtcpokkpjeeblnaaGreatDoor
