/- script: substitution. -/
import Derived.Test.YtcpokkpjeeblnaaGreatDoorKBa
import Derived.Test.YtcpokkpjeeblnaaGreatDoorKYa
import Derived.Test.YtcpokkpjeeblnaaGreatDoorKXk
import Derived.Test.YtcpokkpjeeblnaaGreatDoorKTd
set_option maxRecDepth 100000
set_option maxHeartbeats 4000000
namespace Go.Proofs.YtcpokkpjeeblnaaGreatDoor
open Go.RowKit
open scanP scrP tpl ytb
variable {P : Prop} {w : World} {b g B i k p : Nat} {s : ByteArray} {c c' : Co} {pv : Value} {ps : List Pt} {t l : List UInt8} {ops : Array Oper} {Q : Exit -> Act -> World -> Prop} {a : Act} {G : Gr}
theorem bxr0 (h : P := by
 go_enter Tryz.func138, Tryz.ntmps138
 go_wp2_with fail
 refine (xa8 w HH.out.r hi hs).mono ?_;intro e2 w2 hp2;unfold endC at R1;rcases hd2 : endR s.data.toList i with x | k2
 ·rw [hd2] at hp2 R1;obtain ⟨rfl, ht2⟩ := hp2;have T2 := hideT (ht2.wide (g := g));clear ht2 hd2;go_wp2;rw [<- R1.out];exact ⟨rfl, rfl, T2.out⟩
 rw [hd2] at hp2 R1;obtain ⟨rfl, hr2, ht2⟩ := hp2;have T2 := hideT (And.intro (ht2.wide (g := g)) (HH.out.step hr2 ht2));clear hr2 ht2 hd2;go_wp2
 go_end0
 rw [<- R1.out];exact ⟨rfl, T2.out.2.r, T2.out.1, pv, T2.out.2.m, T2.out.2.p⟩) : P := h
theorem bxr1 (h : P := by
 rw [hd] at hp R1;obtain ⟨rfl, hr, ht, pv', hm, hq⟩ := hp;have T := hideT (And.intro hr (And.intro ht (And.intro hm hq)));clear hr ht hm hq hd;go_wp2
 go_end0
 rw [<- R1.out];exact ⟨rfl, T.out.1, T.out.2.1, pv', T.out.2.2.1, T.out.2.2.2⟩) : P := h
theorem bxr2 (h : P := by
 rw [hd] at hp R1;obtain ⟨rfl, ht⟩ := hp;have T := hideT ht;clear ht hd;go_wp2;rw [<- R1.out];exact ⟨rfl, rfl, T.out⟩) : P := h
theorem bxr3 (h : P := by
 rw [hf] at hp R1;obtain ⟨rfl, hr, ht, pv9, hm, hp9⟩ := hp;have HE := hideT (show Both wa b g B s k9 c9 pv9 from ⟨hr, hm, hp9, HF.out.ne, HF.out.lb, HF.out.lg⟩);have TG := hideT (TF.out.more ht);clear ht hf hr hm hp9 HF TF;have d14 := HE.out.m.cell 14 (v := .int .i64 c9.nh) rfl;have f14 := HE.out.m.fz 14;have mx : max ((c9.nh : Nat) : Int) 1 = ((max c9.nh 1 : Nat) : Int) := by omega
 have HZ := hideT (HE.out.set 14 (.int .i64 ((max c9.nh 1 : Nat) : Int)) (c' := { c9 with nh := max c9.nh 1 }) rfl rfl);go_wp2
 go_end0
 rw [R1.out];exact ⟨rfl, HZ.out.r, TG.out.putg _ _, pv9, HZ.out.m, HZ.out.p⟩) : P := h
theorem bxr4 (h : P := by
 go_enter Tryz.func138, Tryz.ntmps138
 go_wp2_with fail
 refine (xf4 w HH.out hi hs).mono ?_;intro e w1 hp;rcases hd : txtC s.data.toList c i with x | ⟨c', k⟩
 ·exact bxr2
 exact bxr1) : P := h
theorem bxr5 (h : P := by
 go_enter Tryz.func138, Tryz.ntmps138
 go_wp2_with fail
 refine (xf5 w HH.out hi hs).mono ?_;intro e w1 hp;rcases hd : labC s.data.toList c i with x | ⟨c', k⟩
 ·exact bxr2
 exact bxr1) : P := h
theorem bxr6 (h : P := by
 go_enter Tryz.func138, Tryz.ntmps138
 go_wp2_with fail
 refine (xfm w HH.out hi hs).mono ?_;intro e w1 hp;rcases hd : filC s.data.toList c i with x | ⟨c', k⟩
 ·exact bxr2
 exact bxr1) : P := h
theorem bxr7 (h : P := by
 rw [hf] at hp R1;obtain ⟨rfl, ht⟩ := hp;have TG := hideT (TF.out.more ht);clear ht hf;go_wp2;rw [R1.out];exact ⟨rfl, rfl, TG.out⟩) : P := h
theorem bxr8 (h : P := by
 simp only [List.length_append, List.length_cons, List.length_nil] at this ⊢;omega) : P := h
theorem Both.step {w' : World} (h : Both w b g B s i c pv) (hr : RAt w' b s k) (ht : Tch (· = b) w w') : Both w' b g B s k c pv := ⟨hr, h.m.stay ht (fun e => h.ne e.symm), h.p.stay ht (fun k e => by subst e; exact h.lb), h.ne, h.lb, h.lg⟩
theorem Both.set (h : Both w b g B s i c pv) (k : Nat) (u : Value) (hs : (coV c pv).set k u = coV c' pv) (hp : c'.ps = c.ps) : Both (w.setCell ⟨g, k, none⟩ u) b g B s i c' pv :=
 ⟨h.r.far h.ne k u, by rw [<- hs]; exact h.m.put k u, by rw [hp]; exact h.p.stay ((Tch.refl (bg b g) _).putg k u) (xf3 h.lb h.lg), h.ne, h.lb, h.lg⟩
theorem Both.parts {v : Value} (h : Both w b g B s i c pv) (hv : PaAt w B v ps) : Both (w.setCell ⟨g, 13, none⟩ v) b g B s i { c with ps := ps } v :=
 ⟨h.r.far h.ne 13 v, h.m.put 13 v, hv.stay ((Tch.refl (bg b g) _).putg 13 v) (xf3 h.lb h.lg), h.ne, h.lb, h.lg⟩
theorem need_ok' (e p : Nat) (h : e = 0) (w : World) : Calls Tryz.prog 209 #[.int .i64 e, .int .i64 p] w fun x w' => x = .returned (.tuple #[]) /\ w' = w := by
 subst h;exact xdx p w
theorem ne_emp (h : t ≠ []) : (bst t).toList.isEmpty = false := by
 cases t with
 | nil => exact absurd rfl h
 | cons a r => rw [Lib.toList_data]; rfl
theorem op_pan {P : Program} {o : Oper} {K : Act -> World -> Prop} {f : FuncId} {args : Array Value} {ch : List PanicEntry} {R : World -> Prop} (hi : ops[i]? = some o) (hw : Region.wanted o (yielded ops a.tmps) = true) (hx : (execOp a.eval o).run P w = .ok (.enter f args) w) (hc : Calls P f args w fun e w' => e = .panicked ch /\ R w') (h : ∀ w', R w' -> Q (.panic ch) a w') : wpOp P ops Q i K a w := by
 unfold wpOp;rw [hi];dsimp only;rw [if_pos hw];refine .inl ?_;unfold Oper.wp;rw [hx];refine Calls.mono hc ?_;rintro e w' ⟨rfl, hR⟩;exact h w' hR
theorem tq {P : Program} {S : World -> Prop} {md : Region.Mode} (i : Nat) (d : Tmp) (hS : S w) {oi : Oper} {v : Value} {fuel : Nat} {listed : Array Bool} (h : wpAnyH P md ops Q S fuel (listed.setIfInBounds i true) (a.put (some d) v) w) (hi : ops[i]? = some oi := by rfl) (hd : oi.dst = some d := by rfl)
  (hs : Region.noSelect ops = true := by kernel_rfl) (hf : Region.free md ops listed i = true := by kernel_rfl) (hr : (Region.ready md ops listed).contains i = true := by kernel_rfl)
  (hQ : ∀ c a w, Q (.panic c) (a.put (some d) v) w -> Q (.panic c) a w := by exact fun _ _ _ h => h) (hw : Region.wanted oi (yielded ops a.tmps) = true := by first | exact wanted_none rfl _ | rfl) (hy : ∀ w, S w -> (execOp a.eval oi).run P w = .ok (.value v) w := by intro V hV; go_simp; (try with_reducible rfl)) : wpAnyH P md ops Q S (fuel + 1) listed a w :=
 take_d i (some d) hi hd hs hf hr hQ hw hS hy h
theorem xfn : ∀ (n : Nat) (l : List UInt8), l.length <= n -> ∀ (k : Nat) (x : Ga), (runP l k x).1.ps.length <= x.wt + l.length
 | n, [], _, k, x => by rw [xlz]; have := out_wt x; simp only [List.length_nil]; omega
 | 0, b :: r, h, _, _ => by simp at h
 | n + 1, b :: r, h, k, x => by
  rw [List.length_cons] at h;by_cases h1 : b.toNat = 38
  ·rw [xl0 b r k x h1];have := xfn n r (by omega) (k + 1) (x.group 0);have := xhj x 0;rw [List.length_cons];omega
  ·by_cases h2 : b.toNat = 10
   ·rw [xol b r k x h2];simp
   ·by_cases h3 : b.toNat = 92
    ·cases r with
     | nil => rw [xl1 b k x h3]; simp
     | cons c q =>
      rw [xl2 b c q k x h3];rw [List.length_cons] at h;have := xfn n q (by omega) (k + 2) (x.esc c);have := esc_wt x c;rw [List.length_cons, List.length_cons];omega
    ·rw [xom b r k x h1 h2 h3];have := xfn n r (by omega) (k + 1) (x.plain b);have := xhi x b;rw [List.length_cons];omega
theorem xoo (l : List UInt8) : (xap l).1.ps.length <= l.length := by
 unfold xap;split
 ·simp
 ·have := xfn l.length l qr 0 ⟨[], []⟩;simpa [Ga.wt] using this
theorem xhn {W : World} {B' : Nat} {v : Value} (h : W.ownsRow B' 266 2 v ps.length (ptV ps)) (hB : B <= B') : PaAt W B v ps := owns_mono h hB
theorem sub_any (hG : xf2 G) (w : World) (h : Both w b g B s i c pv) (hi : i <= s.size) (hs : s.size <= 4096) (hg : Gl w) (hb1 : 1 < b) (hg1 : 1 < g) (hB : B <= w.heap.size) : Calls Tryz.prog 173 #[.pointer (some ⟨b, 0, none⟩), .pointer (some ⟨g, 0, none⟩)] w (PC b g B s w (sedR G s.data.toList c i)) := by
 generalize hRR : sedR G s.data.toList c i = RR;have HRR := hideT hRR;have HH := hideT h;have d0 := h.m.cell 0 (v := .int .i64 c.pl) rfl;have HG := hideT (fun W (ht : Tch (bg b g) w W) => hg.stay ht (fun k e => by rcases e with rfl | rfl <;> assumption));have HQ := hideT hG;clear hRR h hg hG;go_enter Tryz.func173, Tryz.ntmps173
 go_wp2_with fail
 refine (xcx 19 c.pl w HH.out.r hi hs).mono ?_;intro e w1 hp;rcases hd : delR s.data.toList i 19 c.pl with x | ⟨d, j⟩
 ·rw [hd] at hp;obtain ⟨rfl, ht⟩ := hp;have T := hideT (ht.wide (g := g));have ER := hideT (show RR = .error x by rw [<- HRR.out]; unfold sedR; rw [hd]);clear ht hd HRR;go_wp2;rw [ER.out];exact ⟨rfl, rfl, T.out⟩
 rw [hd] at hp;obtain ⟨rfl, hr, ht⟩ := hp;obtain ⟨rfl, hj, _, _⟩ := xb4 hd;have H1 := hideT (HH.out.step hr ht);have T1 := hideT (ht.wide (g := g));have R1 := hideT (show sedR G s.data.toList c i = (match pieR s.data.toList (i + 1) d false c.pl with
  | .error x => .error x
  | .ok (t, k) => match pieR s.data.toList k d true c.pl with
   | .error x => .error x
   | .ok (u, m) => match grpR G t c.pl with
    | .error x => .error x
    | .ok g =>
     if (xap u).2.1 ≠ 0 then .error ((xap u).2.1, c.pl)
     else if t ≠ [] /\ (g : Int) < xfz (xap u).1.ps 0 then .error (11, c.pl)
     else match flgR s.data.toList (s.data.toList.length + 1) { c with re := t, ps := (xap u).1.ps } m with
      | .error x => .error x
      | .ok (c, k) => .ok ({ c with nh := max c.nh 1 }, k)) by unfold sedR; rw [hd]; first | done | rfl)
 rw [HRR.out] at R1;clear hr ht hd HRR HH d0;have d0 := H1.out.m.cell 0 (v := .int .i64 c.pl) rfl;have d12 := H1.out.m.cell 12 (v := .string (bst c.re)) rfl
 go_wp2_with fail
 refine (xb9 d false c.pl w1 H1.out.r hs).mono ?_;intro e w2 hp;rcases hd : pieR s.data.toList (i + 1) d false c.pl with x | ⟨t, k⟩
 ·rw [hd] at hp R1;obtain ⟨rfl, ht⟩ := hp;have T := hideT (T1.out.more (ht.wide (g := g)));clear ht hd;go_wp2;rw [R1.out];exact ⟨rfl, rfl, T.out⟩
 rw [hd] at hp R1;obtain ⟨rfl, hr, ht⟩ := hp;obtain ⟨htl, hkl⟩ := xbd hd hj;have htl2 := xir htl hs;have H2 := hideT (H1.out.step hr ht);have T2 := hideT (T1.out.more (ht.wide (g := g)));clear hr ht hd T1 H1 d0 d12;have d0 := H2.out.m.cell 0 (v := .int .i64 c.pl) rfl;have d12 := H2.out.m.cell 12 (v := .string (bst c.re)) rfl;have f12 := H2.out.m.fz 12;have H3 := hideT (H2.out.set 12 (.string (bst t)) (c' := { c with re := t }) rfl rfl);have T3 := hideT (T2.out.putg 12 (.string (bst t)))
 go_wp2_with fail
 clear d0 d12 f12 H2 T2;generalize w2.setCell ⟨g, 12, none⟩ (.string (bst t)) = W3 at *;refine (xb9 d true c.pl W3 H3.out.r hs).mono ?_;intro e w4 hp;rcases hd : pieR s.data.toList k d true c.pl with x | ⟨u, m⟩
 ·rw [hd] at hp R1;obtain ⟨rfl, ht⟩ := hp;have T := hideT (T3.out.more (ht.wide (g := g)));clear ht hd;go_wp2;rw [R1.out];exact ⟨rfl, rfl, T.out⟩
 rw [hd] at hp R1;obtain ⟨rfl, hr, ht⟩ := hp;obtain ⟨hul, hml⟩ := xbd hd hkl;have hul2 := xir hul hs;have H4 := hideT (H3.out.step hr ht);have T4 := hideT (T3.out.more (ht.wide (g := g)));clear hr ht hd T3 H3;have d0 := H4.out.m.cell 0 (v := .int .i64 c.pl) rfl;have d12 := H4.out.m.cell 12 (v := .string (bst t)) rfl;have HS := hideT (fun W hW => xet HQ.out t c.pl W htl2 hW);have HW4 := hideT (HG.out w4 T4.out)
 go_wp2_with fail
 rcases hq : grpR G t c.pl with x | gn
 ·rw [hq] at R1 HS;have s0 : w4.drew.cell? ⟨g, 12, none⟩ = some (.string (bst t)) /\ w4.drew.cell? ⟨g, 0, none⟩ = some (.int .i64 c.pl) := ⟨d12, d0⟩;refine wp_region_held (S := fun V => V.cell? ⟨g, 12, none⟩ = some (.string (bst t)) /\ V.cell? ⟨g, 0, none⟩ = some (.int .i64 c.pl)) (by kernel_rfl) ?_;refine tq 0 32 s0 ?_;refine tq 1 33 s0 ?_;refine tq 2 34 s0 ?_;refine tq 3 35 s0 ?_ (hy := by intro V hV; have hc := hV.1; go_simp; (try with_reducible rfl));refine tq 4 36 s0 ?_;refine tq 5 37 s0 ?_;refine tq 6 38 s0 ?_;refine tq 7 39 s0 ?_ (hy := by intro V hV; have hc := hV.2; go_simp; (try with_reducible rfl));refine wpAnyH_all (rs := [8]) (by kernel_rfl) (by simp) (fun i hi => ?_);obtain rfl : i = 8 := by simpa using hi
  simp only [Act.put, List.setIfInBounds_toArray, List.set_cons_succ, List.set_cons_zero];refine op_pan (ch := [{ v := gvV x.1 x.2, recovered := false }]) (R := fun w5 => Below w4.drew.heap.size w4.drew w5) rfl (wanted_none rfl _) (by go_simp; (try with_reducible rfl)) (HS.out w4.drew (show Gl w4.drew from HW4.out)) ?_;intro w5 hb5;refine ⟨rfl, ?_⟩;rw [R1.out];exact ⟨rfl, T4.out.more (Tch.of (F := bg b g) hb5).und⟩
 rw [hq] at R1 HS
 go_region_with (first | (go_at_call 213; refine (HS.out _ (show Gl w4.drew from HW4.out)).mono ?_; rintro e w5 ⟨rfl, hb5⟩; have H5 := hideT (H4.out.tch (tF hb5)); have T5 := hideT (T4.out.more (Tch.of (F := bg b g) hb5).und); clear hb5))
 all_goals
  clear H4 T4 d0 d12 HS HW4 hq;have HP := hideT (fun W => parse_any (bst u) (by rw [xbt]; omega) W);rw [xbu] at HP;have hpl := xoo u
  go_wp2_with fail
  refine (HP.out w5).mono ?_;rintro e w6 ⟨v, rfl, hv, hb6⟩;have hA := Bal w6 (.cells #[.int .i64 ((xap u).2.1 : Nat), .int .i64 ((xap u).2.2 : Nat)] 45);have hb7 := hb6.trans (hA.mono hb6.size);have H6 := hideT (H5.out.tch (Tch.of hb7));have T6 := hideT (T5.out.more (Tch.of (F := bg b g) hb7));have V6 := hideT (xhn (B := B) (owns_below hv hA) (Nat.le_trans hB (T5.out.size)));have N6 := heap_alloc_new w6 (.cells #[.int .i64 ((xap u).2.1 : Nat), .int .i64 ((xap u).2.2 : Nat)] 45);clear hv hb6 hb7 hA HP H5 T5
  go_wp2_with fail
  generalize w6.alloc (.cells #[.int .i64 ((xap u).2.1 : Nat), .int .i64 ((xap u).2.2 : Nat)] 45) = W6 at *;have x0 : W6.cell? ⟨w6.heap.size, 0, none⟩ = some (.int .i64 ((xap u).2.1 : Nat)) := by simp [World.cell?, N6]
  have d0 := H6.out.m.cell 0 (v := .int .i64 c.pl) rfl;clear N6;by_cases hz : (xap u).2.1 ≠ 0
  ·rw [if_pos hz] at R1;have HN := hideT (xc4 (xap u).2.1 c.pl hz);have s0 : W6.drew.cell? ⟨w6.heap.size, 0, none⟩ = some (.int .i64 ((xap u).2.1 : Nat)) /\ W6.drew.cell? ⟨g, 0, none⟩ = some (.int .i64 c.pl) := ⟨x0, d0⟩;refine wp_region_held (S := fun V => V.cell? ⟨w6.heap.size, 0, none⟩ = some (.int .i64 ((xap u).2.1 : Nat)) /\ V.cell? ⟨g, 0, none⟩ = some (.int .i64 c.pl)) (by kernel_rfl) ?_;refine tq 0 46 s0 ?_;refine tq 1 47 s0 ?_ (hy := by intro V hV; have hc := hV.1; go_simp; (try with_reducible rfl));refine tq 2 48 s0 ?_;refine tq 3 49 s0 ?_;refine tq 4 50 s0 ?_;refine tq 5 51 s0 ?_ (hy := by intro V hV; have hc := hV.2; go_simp; (try with_reducible rfl));refine wpAnyH_all (rs := [6]) (by kernel_rfl) (by simp) (fun i hi => ?_);obtain rfl : i = 6 := by simpa using hi
   simp only [Act.put, List.setIfInBounds_toArray, List.set_cons_succ, List.set_cons_zero];refine op_pan (ch := [{ v := gvV (xap u).2.1 c.pl, recovered := false }]) (R := fun w7 => w7 = W6.drew) rfl (wanted_none rfl _) (by go_simp; (try with_reducible rfl)) (HN.out W6.drew) ?_;rintro w7 rfl;refine ⟨rfl, ?_⟩;rw [R1.out];exact ⟨rfl, T6.out.dr⟩
  rw [if_neg hz] at R1;replace hz := Decidable.not_not.1 hz;have HN := hideT (need_ok' (xap u).2.1 c.pl hz);clear hz
  go_region_with (first | (go_at_call 209; refine (HN.out _).mono ?_; rintro e w7 ⟨rfl, rfl⟩))
  all_goals
   have H7 := hideT (H6.out.dn 1);have T7 := hideT T6.out.dr;have V7 := hideT (V6.out.stay (Tch.drewN (fun _ => False) W6 1) (fun _ h => h.elim));have HX := hideT (show W6.drewN 1 = W6.drew from rfl);rw [HX.out] at H7 V7;clear H6 T6 V6 x0 d0 HN HX;generalize W6.drew = W7 at *;obtain ⟨va, vc, hv⟩ := owns_shape V7.out;subst hv;have d12 := H7.out.m.cell 12 (v := .string (bst t)) rfl;have d0 := H7.out.m.cell 0 (v := .int .i64 c.pl) rfl;have HB := hideT (xaw 11 c.pl);have HR := hideT (refs_any _ (xap u).1.ps W7 (PRow.of_owns V7.out) (by omega));by_cases ht : t = []
   ·subst ht;have k3 : (bst []).toList.isEmpty = true := by rw [Lib.toList_data]; rfl
    rw [if_neg (fun h => h.1 rfl)] at R1;have d13 := H7.out.m.cell 13 (v := pv) rfl;have f13 := H7.out.m.fz 13;have HF := hideT (H7.out.parts V7.out);have TF := hideT (T7.out.putg 13 (.slice va (xap u).1.ps.length vc))
    go_wp2_with fail
    clear d13 f13 H7 T7 V7;generalize W7.setCell ⟨g, 13, none⟩ (.slice va (xap u).1.ps.length vc) = W9 at *;refine (xiu (s.data.toList.length + 1) W9 HF.out hml hs (by show s.size < m + (s.size + 1); omega)).mono ?_;intro e wa hp;rcases hf : flgR s.data.toList (s.data.toList.length + 1) { c with re := [], ps := (xap u).1.ps } m with x | ⟨c9, k9⟩
    ·exact bxr7
    exact bxr3
   ·have k3 := ne_emp ht;by_cases hc : (gn : Int) < xfz (xap u).1.ps 0
    ·rw [if_pos ⟨ht, hc⟩] at R1
     go_wp2_with fail
     refine HR.out.mono ?_;rintro e w8 ⟨rfl, hb8⟩;have H8 := hideT (H7.out.tch (Tch.of hb8));have T8 := hideT (T7.out.more (Tch.of (F := bg b g) hb8));have d0 := H8.out.m.cell 0 (v := .int .i64 c.pl) rfl;clear hb8
     go_wp2_with fail
     refine (HB.out _).mono ?_;rintro e w9 ⟨rfl, rfl⟩;go_wp2;rw [R1.out];exact ⟨rfl, rfl, T8.out⟩
    ·rw [if_neg (fun h => hc h.2)] at R1;have k4 : ((gn : Int) < xfz (xap u).1.ps 0) = False := by rw [eq_iff_iff, iff_false]; exact hc
     go_wp2_with fail
     refine HR.out.mono ?_;rintro e w8 ⟨rfl, hb8⟩;have H8 := hideT (H7.out.tch (Tch.of hb8));have T8 := hideT (T7.out.more (Tch.of (F := bg b g) hb8));have V8 := hideT (V7.out.stay (Tch.of (F := fun _ => False) hb8) (fun _ h => h.elim));clear hb8;have d13 := H8.out.m.cell 13 (v := pv) rfl;have f13 := H8.out.m.fz 13;have HF := hideT (H8.out.parts V8.out);have TF := hideT (T8.out.putg 13 (.slice va (xap u).1.ps.length vc))
     go_wp2_with fail
     clear d13 f13 H8 T8 V8;generalize w8.setCell ⟨g, 13, none⟩ (.slice va (xap u).1.ps.length vc) = W9 at *;refine (xiu (s.data.toList.length + 1) W9 HF.out hml hs (by show s.size < m + (s.size + 1); omega)).mono ?_;intro e wa hp;rcases hf : flgR s.data.toList (s.data.toList.length + 1) { c with re := t, ps := (xap u).1.ps } m with x | ⟨c9, k9⟩
     ·exact bxr7
     exact bxr3
theorem xl5 (d : UInt8) (p : Nat) (w : World) (h : RAt w b s i) (hi : i <= s.size) (hs : s.size <= 4096) : Calls Tryz.prog 216 #[.pointer (some ⟨b, 0, none⟩), .int .u8 d.toNat, .int .i64 p] w (PR b s w (fun t : List UInt8 => .string (bst t)) (sidR s.data.toList d p i)) := by
 have HU := hideT (xb9 d false p w h hs);unfold sidR;rcases hd : pieR s.data.toList i d false p with x | ⟨t, k⟩
 ·rw [hd] at HU;go_enter Tryz.func216, Tryz.ntmps216
  go_wp2_with fail
  refine HU.out.mono ?_;rintro e w1 ⟨rfl, ht⟩;have T := hideT ht;clear ht;go_wp2;exact ⟨rfl, rfl, T.out⟩
 rw [hd] at HU;obtain ⟨htl, _⟩ := xbd hd hi;have htl2 := xir htl hs;have HP := hideT (fun W => xob (bst t) (by rw [xbt]; omega) W);rw [xbu] at HP;simp only;generalize xd7 t = q at *;obtain ⟨m, e, a⟩ := q;by_cases he : e = 0
 ·subst he;rw [if_pos rfl];have HN := hideT (xdx p);go_enter Tryz.func216, Tryz.ntmps216
  go_wp2_with fail
  refine HU.out.mono ?_;rintro x w1 ⟨rfl, hr, ht⟩;have T := hideT ht;have R := hideT hr;clear ht hr
  go_wp2_with fail
  refine (HP.out w1).mono ?_;rintro x w2 ⟨rfl, hb⟩;have hA := Bal w2 (.cells #[.int .i64 0, .int .i64 a] 45);have hb2 := hb.trans (hA.mono hb.size);have T2 := hideT (T.out.more (Tch.of hb2));have R2 := hideT (R.out.move hb2);clear hb hA hb2
  go_wp2_with fail
  refine (HN.out _).mono ?_;rintro x w3 ⟨rfl, rfl⟩;go_wp2;go_ret;exact ⟨rfl, R2.out, T2.out⟩
 ·rw [if_neg he];have HN := hideT (xc4 e p he);go_enter Tryz.func216, Tryz.ntmps216
  go_wp2_with fail
  refine HU.out.mono ?_;rintro x w1 ⟨rfl, hr, ht⟩;have T := hideT ht;clear ht hr
  go_wp2_with fail
  refine (HP.out w1).mono ?_;rintro x w2 ⟨rfl, hb⟩;have hA := Bal w2 (.cells #[.int .i64 e, .int .i64 a] 45);have T2 := hideT (T.out.more (Tch.of (hb.trans (hA.mono hb.size))));clear hb hA
  go_wp2_with fail
  refine (HN.out _).mono ?_;rintro x w3 ⟨rfl, rfl⟩;go_wp2;exact ⟨rfl, rfl, T2.out⟩
theorem xkc {d : UInt8} (h : sidR l d p i = .ok (t, k)) (hi : i <= l.length) : k <= l.length := by
 unfold sidR at h;split at h
 ·cases h
 ·rename_i hp;split at h
  ·cases h;exact (xbd hp hi).2
  ·cases h
theorem xl6 : ∀ (n : Nat) (l : List UInt8), l.length <= n -> ∀ (k : Nat) (acc : List UInt8), (pcR l k acc).1.length <= acc.length + l.length
 | n, [], _, k, acc => by rw [pc_nil]; simp
 | 0, b :: r, h, _, _ => by simp at h
 | n + 1, b :: r, h, k, acc => by
  rw [List.length_cons] at h;by_cases h1 : b.toNat = 92
  ·cases r with
   | nil => rw [pc_end b k acc h1]; simp
   | cons c q =>
    rw [List.length_cons] at h;by_cases h2 : c.toNat = 110
    ·rw [pc_n b c q k acc h1 h2];have := xl6 n q (by omega) (k + 2) (acc ++ [10]);exact bxr8
    ·rcases alnB_dec c with h3 | h3
     ·rw [xn7 b c q k acc h1 h2 h3]; simp
     ·rw [pc_esc b c q k acc h1 h2 h3];have := xl6 n q (by omega) (k + 2) (acc ++ [c]);exact bxr8
  ·rw [pc_pl b r k acc h1];have := xl6 n r (by omega) (k + 1) (acc ++ [b]);exact bxr8
theorem sid_sz {d : UInt8} (h : sidR l d p i = .ok (t, k)) (hi : i <= l.length) : t.length <= l.length := by
 unfold sidR at h;split at h
 ·cases h
 ·rename_i u m hp;split at h
  ·cases h;have := xl6 u.length u qr 0 [];have := (xbd hp hi).1;unfold xd7;simp only [List.length_nil] at *;omega
  ·cases h
def xop : Prop := ∀ (b g B : Nat) (s : ByteArray) (i : Nat) (c : Co) (pv : Value) (w : World), Both w b g B s i c pv -> i <= s.size -> s.size <= 4096 -> Calls Tryz.prog 174 #[.pointer (some ⟨b, 0, none⟩), .pointer (some ⟨g, 0, none⟩)] w (PC b g B s w (tabR s.data.toList c i))
structure RIn (G : Gr) (w : World) (b g B : Nat) (s : ByteArray) (i : Nat) (c : Co) (pv : Value) : Prop where
 n : xf2 G
 t : xop
 h : Both w b g B s i c pv
 hi : i <= s.size
 hs : s.size <= 4096
 gl : Gl w
 b1 : 1 < b
 g1 : 1 < g
 hB : B <= w.heap.size
theorem xoq (w : World) (H : RIn G w b g B s i c pv) (e : c.nm = 123) : Calls Tryz.prog 138 #[.pointer (some ⟨b, 0, none⟩), .pointer (some ⟨g, 0, none⟩)] w (PC b g B s w (rstR G s.data.toList c i)) := by
 have HH := hideT H.h;have HQ := hideT H.n;have HTB := hideT H.t;have HGL := hideT H.gl;have hi := H.hi;have hs := H.hs;have hb1 := H.b1;have hg1 := H.g1;have hB := H.hB;clear H;generalize hRR : rstR G s.data.toList c i = RR;have R1 := hideT hRR;clear hRR;unfold rstR at R1;rw [if_pos e] at R1;have d8 : w.cell? ⟨g, 8, none⟩ = some (.int .u8 123) := by have := HH.out.m.cell 8 (v := .int .u8 c.nm.toNat) rfl; rw [e] at this; exact this
 go_enter Tryz.func138, Tryz.ntmps138;go_wp2
 go_end0
 rw [<- R1.out];exact ⟨rfl, HH.out.r, Tch.refl _ _, pv, HH.out.m, HH.out.p⟩
theorem xm4 (w : World) (H : RIn G w b g B s i c pv) (e : c.nm = 97 \/ c.nm = 105 \/ c.nm = 99) : Calls Tryz.prog 138 #[.pointer (some ⟨b, 0, none⟩), .pointer (some ⟨g, 0, none⟩)] w (PC b g B s w (rstR G s.data.toList c i)) := by
 have HH := hideT H.h;have HQ := hideT H.n;have HTB := hideT H.t;have HGL := hideT H.gl;have hi := H.hi;have hs := H.hs;have hb1 := H.b1;have hg1 := H.g1;have hB := H.hB;clear H;generalize hRR : rstR G s.data.toList c i = RR;have R1 := hideT hRR;clear hRR;unfold rstR at R1;have hn : ∀ k : UInt8, k ∉ ([97, 105, 99] : List UInt8) -> c.nm ≠ k := fun k hk h => hk (by subst h; simpa using e);rw [if_neg (hn 123 (by decide))] at R1;rw [if_pos e] at R1;clear hn;rcases e with e | e | e
 ·have d8 : w.cell? ⟨g, 8, none⟩ = some (.int .u8 97) := by have := HH.out.m.cell 8 (v := .int .u8 c.nm.toNat) rfl; rw [e] at this; exact this
  exact bxr4
 ·have d8 : w.cell? ⟨g, 8, none⟩ = some (.int .u8 105) := by have := HH.out.m.cell 8 (v := .int .u8 c.nm.toNat) rfl; rw [e] at this; exact this
  exact bxr4
 ·have d8 : w.cell? ⟨g, 8, none⟩ = some (.int .u8 99) := by have := HH.out.m.cell 8 (v := .int .u8 c.nm.toNat) rfl; rw [e] at this; exact this
  exact bxr4
theorem xm5 (w : World) (H : RIn G w b g B s i c pv) (e : c.nm = 58 \/ c.nm = 98 \/ c.nm = 116) : Calls Tryz.prog 138 #[.pointer (some ⟨b, 0, none⟩), .pointer (some ⟨g, 0, none⟩)] w (PC b g B s w (rstR G s.data.toList c i)) := by
 have HH := hideT H.h;have HQ := hideT H.n;have HTB := hideT H.t;have HGL := hideT H.gl;have hi := H.hi;have hs := H.hs;have hb1 := H.b1;have hg1 := H.g1;have hB := H.hB;clear H;generalize hRR : rstR G s.data.toList c i = RR;have R1 := hideT hRR;clear hRR;unfold rstR at R1;have hn : ∀ k : UInt8, k ∉ ([58, 98, 116] : List UInt8) -> c.nm ≠ k := fun k hk h => hk (by subst h; simpa using e);rw [if_neg (hn 123 (by decide))] at R1;rw [if_neg (by rintro (h | h | h) <;> exact absurd h (hn _ (by decide)))] at R1;rw [if_pos e] at R1;clear hn;rcases e with e | e | e
 ·have d8 : w.cell? ⟨g, 8, none⟩ = some (.int .u8 58) := by have := HH.out.m.cell 8 (v := .int .u8 c.nm.toNat) rfl; rw [e] at this; exact this
  exact bxr5
 ·have d8 : w.cell? ⟨g, 8, none⟩ = some (.int .u8 98) := by have := HH.out.m.cell 8 (v := .int .u8 c.nm.toNat) rfl; rw [e] at this; exact this
  exact bxr5
 ·have d8 : w.cell? ⟨g, 8, none⟩ = some (.int .u8 116) := by have := HH.out.m.cell 8 (v := .int .u8 c.nm.toNat) rfl; rw [e] at this; exact this
  exact bxr5
theorem xos (w : World) (H : RIn G w b g B s i c pv) (e : c.nm = 114 \/ c.nm = 119) : Calls Tryz.prog 138 #[.pointer (some ⟨b, 0, none⟩), .pointer (some ⟨g, 0, none⟩)] w (PC b g B s w (rstR G s.data.toList c i)) := by
 have HH := hideT H.h;have HQ := hideT H.n;have HTB := hideT H.t;have HGL := hideT H.gl;have hi := H.hi;have hs := H.hs;have hb1 := H.b1;have hg1 := H.g1;have hB := H.hB;clear H;generalize hRR : rstR G s.data.toList c i = RR;have R1 := hideT hRR;clear hRR;unfold rstR at R1;have hn : ∀ k : UInt8, k ∉ ([114, 119] : List UInt8) -> c.nm ≠ k := fun k hk h => hk (by subst h; simpa using e);rw [if_neg (hn 123 (by decide))] at R1;rw [if_neg (by rintro (h | h | h) <;> exact absurd h (hn _ (by decide)))] at R1;rw [if_neg (by rintro (h | h | h) <;> exact absurd h (hn _ (by decide)))] at R1;rw [if_pos e] at R1;clear hn;rcases e with e | e
 ·have d8 : w.cell? ⟨g, 8, none⟩ = some (.int .u8 114) := by have := HH.out.m.cell 8 (v := .int .u8 c.nm.toNat) rfl; rw [e] at this; exact this
  exact bxr6
 ·have d8 : w.cell? ⟨g, 8, none⟩ = some (.int .u8 119) := by have := HH.out.m.cell 8 (v := .int .u8 c.nm.toNat) rfl; rw [e] at this; exact this
  exact bxr6
theorem rest_sub (w : World) (H : RIn G w b g B s i c pv) (e : c.nm = 115) : Calls Tryz.prog 138 #[.pointer (some ⟨b, 0, none⟩), .pointer (some ⟨g, 0, none⟩)] w (PC b g B s w (rstR G s.data.toList c i)) := by
 have HH := hideT H.h;have HQ := hideT H.n;have HTB := hideT H.t;have HGL := hideT H.gl;have hi := H.hi;have hs := H.hs;have hb1 := H.b1;have hg1 := H.g1;have hB := H.hB;clear H;generalize hRR : rstR G s.data.toList c i = RR;have R1 := hideT hRR;clear hRR;unfold rstR at R1;have hn : ∀ k : UInt8, k ∉ ([115] : List UInt8) -> c.nm ≠ k := fun k hk h => hk (by subst h; simpa using e);rw [if_neg (hn 123 (by decide))] at R1;rw [if_neg (by rintro (h | h | h) <;> exact absurd h (hn _ (by decide)))] at R1;rw [if_neg (by rintro (h | h | h) <;> exact absurd h (hn _ (by decide)))] at R1;rw [if_neg (by rintro (h | h) <;> exact absurd h (hn _ (by decide)))] at R1;rw [if_pos e] at R1;clear hn;have d8 : w.cell? ⟨g, 8, none⟩ = some (.int .u8 115) := by have := HH.out.m.cell 8 (v := .int .u8 c.nm.toNat) rfl; rw [e] at this; exact this
 go_enter Tryz.func138, Tryz.ntmps138
 go_wp2_with fail
 refine (sub_any HQ.out w HH.out hi hs HGL.out hb1 hg1 hB).mono ?_;intro e w1 hp;rcases hd : sedR G s.data.toList c i with x | ⟨c', k⟩
 ·exact bxr2
 exact bxr1
theorem xho (h : tabR l c i = .ok (c', k)) : k <= l.length := by
 unfold tabR at h;split at h
 ·cases h
 ·rename_i d j hd;split at h
  ·cases h
  ·rename_i f m hf;split at h
   ·cases h
   ·rename_i t n ht;split at h
    ·cases h
    ·cases h;exact xkc ht (xkc hf (xb4 hd).2.1)
theorem rest_y (w : World) (H : RIn G w b g B s i c pv) (e : c.nm = 121) : Calls Tryz.prog 138 #[.pointer (some ⟨b, 0, none⟩), .pointer (some ⟨g, 0, none⟩)] w (PC b g B s w (rstR G s.data.toList c i)) := by
 have HH := hideT H.h;have HQ := hideT H.n;have HTB := hideT H.t;have HGL := hideT H.gl;have hi := H.hi;have hs := H.hs;have hb1 := H.b1;have hg1 := H.g1;have hB := H.hB;clear H;generalize hRR : rstR G s.data.toList c i = RR;have R1 := hideT hRR;clear hRR;unfold rstR at R1;have hn : ∀ k : UInt8, k ∉ ([121] : List UInt8) -> c.nm ≠ k := fun k hk h => hk (by subst h; simpa using e);rw [if_neg (hn 123 (by decide))] at R1;rw [if_neg (by rintro (h | h | h) <;> exact absurd h (hn _ (by decide)))] at R1;rw [if_neg (by rintro (h | h | h) <;> exact absurd h (hn _ (by decide)))] at R1;rw [if_neg (by rintro (h | h) <;> exact absurd h (hn _ (by decide)))] at R1;rw [if_neg (hn 115 (by decide))] at R1;rw [if_pos e] at R1;clear hn;have d8 : w.cell? ⟨g, 8, none⟩ = some (.int .u8 121) := by have := HH.out.m.cell 8 (v := .int .u8 c.nm.toNat) rfl; rw [e] at this; exact this
 go_enter Tryz.func138, Tryz.ntmps138
 go_wp2_with fail
 refine (HTB.out _ _ _ _ _ _ _ w HH.out hi hs).mono ?_;intro e1 w1 hp;rcases hd : tabR s.data.toList c i with x | ⟨c', k⟩
 ·exact bxr2
 rw [hd] at hp R1;simp only at R1;obtain ⟨rfl, hr, ht, pv', hm, hq⟩ := hp;have hk := xho hd;have B1 := hideT (show Both w1 b g B s k c' pv' from ⟨hr, hm, hq, HH.out.ne, HH.out.lb, HH.out.lg⟩);have T1 := hideT ht;clear hr ht hm hq hd
 go_wp2_with fail
 refine (xa8 w1 B1.out.r hk hs).mono ?_;intro e2 w2 hp2;unfold endC at R1;rcases hd2 : endR s.data.toList k with x | k2
 ·rw [hd2] at hp2 R1;obtain ⟨rfl, ht2⟩ := hp2;have T2 := hideT (T1.out.more ht2.wide);clear ht2 hd2;go_wp2;rw [<- R1.out];exact ⟨rfl, rfl, T2.out⟩
 rw [hd2] at hp2 R1;obtain ⟨rfl, hr2, ht2⟩ := hp2;have T2 := hideT (And.intro (T1.out.more (ht2.wide (g := g))) (B1.out.step hr2 ht2));clear hr2 ht2 hd2;go_wp2
 go_end0
 rw [<- R1.out];exact ⟨rfl, T2.out.2.r, T2.out.1, pv', T2.out.2.m, T2.out.2.p⟩
theorem xm6 (w : World) (H : RIn G w b g B s i c pv) (e : plnS.contains c.nm = true) : Calls Tryz.prog 138 #[.pointer (some ⟨b, 0, none⟩), .pointer (some ⟨g, 0, none⟩)] w (PC b g B s w (rstR G s.data.toList c i)) := by
 have HH := hideT H.h;have HQ := hideT H.n;have HTB := hideT H.t;have HGL := hideT H.gl;have hi := H.hi;have hs := H.hs;have hb1 := H.b1;have hg1 := H.g1;have hB := H.hB;clear H;generalize hRR : rstR G s.data.toList c i = RR;have R1 := hideT hRR;clear hRR;unfold rstR at R1;have hn : ∀ k : UInt8, plnS.contains k = false -> c.nm ≠ k := fun k hk h => by rw [h, hk] at e; cases e
 rw [if_neg (hn 123 (by decide))] at R1;rw [if_neg (by rintro (h | h | h) <;> exact absurd h (hn _ (by decide)))] at R1;rw [if_neg (by rintro (h | h | h) <;> exact absurd h (hn _ (by decide)))] at R1;rw [if_neg (by rintro (h | h) <;> exact absurd h (hn _ (by decide)))] at R1;rw [if_neg (hn 115 (by decide))] at R1;rw [if_neg (hn 121 (by decide))] at R1;rw [if_pos e] at R1;clear hn;have e' : c.nm = 125 \/ c.nm = 61 \/ c.nm = 100 \/ c.nm = 68 \/ c.nm = 103 \/ c.nm = 71 \/ c.nm = 104 \/ c.nm = 72 \/ c.nm = 108 \/ c.nm = 110 \/ c.nm = 78 \/ c.nm = 112 \/ c.nm = 80 \/ c.nm = 113 \/ c.nm = 120 := by
  revert e;generalize c.nm = q;intro e;simpa [plnS] using e
 clear e;rcases e' with e | e | e | e | e | e | e | e | e | e | e | e | e | e | e
 ·have d8 : w.cell? ⟨g, 8, none⟩ = some (.int .u8 125) := by have := HH.out.m.cell 8 (v := .int .u8 c.nm.toNat) rfl; rw [e] at this; exact this
  exact bxr0
 ·have d8 : w.cell? ⟨g, 8, none⟩ = some (.int .u8 61) := by have := HH.out.m.cell 8 (v := .int .u8 c.nm.toNat) rfl; rw [e] at this; exact this
  exact bxr0
 ·have d8 : w.cell? ⟨g, 8, none⟩ = some (.int .u8 100) := by have := HH.out.m.cell 8 (v := .int .u8 c.nm.toNat) rfl; rw [e] at this; exact this
  exact bxr0
 ·have d8 : w.cell? ⟨g, 8, none⟩ = some (.int .u8 68) := by have := HH.out.m.cell 8 (v := .int .u8 c.nm.toNat) rfl; rw [e] at this; exact this
  exact bxr0
 ·have d8 : w.cell? ⟨g, 8, none⟩ = some (.int .u8 103) := by have := HH.out.m.cell 8 (v := .int .u8 c.nm.toNat) rfl; rw [e] at this; exact this
  exact bxr0
 ·have d8 : w.cell? ⟨g, 8, none⟩ = some (.int .u8 71) := by have := HH.out.m.cell 8 (v := .int .u8 c.nm.toNat) rfl; rw [e] at this; exact this
  exact bxr0
 ·have d8 : w.cell? ⟨g, 8, none⟩ = some (.int .u8 104) := by have := HH.out.m.cell 8 (v := .int .u8 c.nm.toNat) rfl; rw [e] at this; exact this
  exact bxr0
 ·have d8 : w.cell? ⟨g, 8, none⟩ = some (.int .u8 72) := by have := HH.out.m.cell 8 (v := .int .u8 c.nm.toNat) rfl; rw [e] at this; exact this
  exact bxr0
 ·have d8 : w.cell? ⟨g, 8, none⟩ = some (.int .u8 108) := by have := HH.out.m.cell 8 (v := .int .u8 c.nm.toNat) rfl; rw [e] at this; exact this
  exact bxr0
 ·have d8 : w.cell? ⟨g, 8, none⟩ = some (.int .u8 110) := by have := HH.out.m.cell 8 (v := .int .u8 c.nm.toNat) rfl; rw [e] at this; exact this
  exact bxr0
 ·have d8 : w.cell? ⟨g, 8, none⟩ = some (.int .u8 78) := by have := HH.out.m.cell 8 (v := .int .u8 c.nm.toNat) rfl; rw [e] at this; exact this
  exact bxr0
 ·have d8 : w.cell? ⟨g, 8, none⟩ = some (.int .u8 112) := by have := HH.out.m.cell 8 (v := .int .u8 c.nm.toNat) rfl; rw [e] at this; exact this
  exact bxr0
 ·have d8 : w.cell? ⟨g, 8, none⟩ = some (.int .u8 80) := by have := HH.out.m.cell 8 (v := .int .u8 c.nm.toNat) rfl; rw [e] at this; exact this
  exact bxr0
 ·have d8 : w.cell? ⟨g, 8, none⟩ = some (.int .u8 113) := by have := HH.out.m.cell 8 (v := .int .u8 c.nm.toNat) rfl; rw [e] at this; exact this
  exact bxr0
 ·have d8 : w.cell? ⟨g, 8, none⟩ = some (.int .u8 120) := by have := HH.out.m.cell 8 (v := .int .u8 c.nm.toNat) rfl; rw [e] at this; exact this
  exact bxr0
theorem xot (w : World) (H : RIn G w b g B s i c pv) (e : ∀ k : UInt8, k ∈ ([123, 97, 105, 99, 58, 98, 116, 114, 119, 115, 121, 125, 61, 100, 68, 103, 71, 104, 72, 108, 110, 78, 112, 80, 113, 120] : List UInt8) -> c.nm ≠ k) : Calls Tryz.prog 138 #[.pointer (some ⟨b, 0, none⟩), .pointer (some ⟨g, 0, none⟩)] w (PC b g B s w (rstR G s.data.toList c i)) := by
 have HH := hideT H.h;have HQ := hideT H.n;have HTB := hideT H.t;have HGL := hideT H.gl;have hi := H.hi;have hs := H.hs;have hb1 := H.b1;have hg1 := H.g1;have hB := H.hB;clear H;generalize hRR : rstR G s.data.toList c i = RR;have R1 := hideT hRR;clear hRR;unfold rstR at R1;rw [if_neg (e 123 (by decide))] at R1;rw [if_neg (by rintro (h | h | h) <;> exact absurd h (e _ (by decide)))] at R1;rw [if_neg (by rintro (h | h | h) <;> exact absurd h (e _ (by decide)))] at R1;rw [if_neg (by rintro (h | h) <;> exact absurd h (e _ (by decide)))] at R1;rw [if_neg (e 115 (by decide))] at R1;rw [if_neg (e 121 (by decide))] at R1;rw [if_neg (by intro h; have h2 : c.nm ∈ plnS := (by simpa using h); exact e c.nm (by revert h2; generalize c.nm = q; intro h2; exact List.mem_append_right [123, 97, 105, 99, 58, 98, 116, 114, 119, 115, 121] h2) rfl)] at R1;have d8 := HH.out.m.cell 8 (v := .int .u8 c.nm.toNat) rfl;have d0 := HH.out.m.cell 0 (v := .int .i64 c.pl) rfl;have x123 := xam (z := 123) rfl (e 123 (by decide));have x97 := xam (z := 97) rfl (e 97 (by decide));have x105 := xam (z := 105) rfl (e 105 (by decide));have x99 := xam (z := 99) rfl (e 99 (by decide));have x58 := xam (z := 58) rfl (e 58 (by decide));have x98 := xam (z := 98) rfl (e 98 (by decide));have x116 := xam (z := 116) rfl (e 116 (by decide));have x114 := xam (z := 114) rfl (e 114 (by decide));have x119 := xam (z := 119) rfl (e 119 (by decide));have x115 := xam (z := 115) rfl (e 115 (by decide));have x121 := xam (z := 121) rfl (e 121 (by decide));have x125 := xam (z := 125) rfl (e 125 (by decide));have x61 := xam (z := 61) rfl (e 61 (by decide));have x100 := xam (z := 100) rfl (e 100 (by decide));have x68 := xam (z := 68) rfl (e 68 (by decide));have x103 := xam (z := 103) rfl (e 103 (by decide))
 have x71 := xam (z := 71) rfl (e 71 (by decide));have x104 := xam (z := 104) rfl (e 104 (by decide));have x72 := xam (z := 72) rfl (e 72 (by decide));have x108 := xam (z := 108) rfl (e 108 (by decide));have x110 := xam (z := 110) rfl (e 110 (by decide));have x78 := xam (z := 78) rfl (e 78 (by decide));have x112 := xam (z := 112) rfl (e 112 (by decide));have x80 := xam (z := 80) rfl (e 80 (by decide));have x113 := xam (z := 113) rfl (e 113 (by decide));have x120 := xam (z := 120) rfl (e 120 (by decide));clear e;go_enter Tryz.func138, Tryz.ntmps138
 go_wp2_with fail
 refine (xaw 18 c.pl _).mono ?_;rintro x w1 ⟨rfl, rfl⟩;go_wp2;rw [<- R1.out];exact ⟨rfl, rfl, Tch.refl _ _⟩
theorem xl7 (w : World) (H : RIn G w b g B s i c pv) : Calls Tryz.prog 138 #[.pointer (some ⟨b, 0, none⟩), .pointer (some ⟨g, 0, none⟩)] w (PC b g B s w (rstR G s.data.toList c i)) := by
 by_cases e1 : c.nm = 123
 ·exact xoq w H e1
 by_cases e2 : c.nm = 97 \/ c.nm = 105 \/ c.nm = 99
 ·exact xm4 w H e2
 by_cases e3 : c.nm = 58 \/ c.nm = 98 \/ c.nm = 116
 ·exact xm5 w H e3
 by_cases e4 : c.nm = 114 \/ c.nm = 119
 ·exact xos w H e4
 by_cases e5 : c.nm = 115
 ·exact rest_sub w H e5
 by_cases e6 : c.nm = 121
 ·exact rest_y w H e6
 by_cases e7 : plnS.contains c.nm = true
 ·exact xm6 w H e7
 refine xot w H (fun k hk h => ?_);subst h;simp only [List.mem_cons, List.not_mem_nil, or_false] at hk;simp only [plnS, List.contains_eq_any_beq, List.any_cons, List.any_nil, Bool.or_false, Bool.or_eq_true, beq_iff_eq] at e7;rcases hk with h | h | h | h | h | h | h | h | h | h | h | hk
 ·exact e1 h
 ·exact e2 (.inl h)
 ·exact e2 (.inr (.inl h))
 ·exact e2 (.inr (.inr h))
 ·exact e3 (.inl h)
 ·exact e3 (.inr (.inl h))
 ·exact e3 (.inr (.inr h))
 ·exact e4 (.inl h)
 ·exact e4 (.inr h)
 ·exact e5 h
 ·exact e6 h
 ·exact e7 hk
end Go.Proofs.YtcpokkpjeeblnaaGreatDoor
