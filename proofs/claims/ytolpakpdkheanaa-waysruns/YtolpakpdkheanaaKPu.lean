/- bre: Parse. -/
import Derived.Test.YtolpakpdkheanaaKPt
set_option maxRecDepth 100000
set_option maxHeartbeats 2000000
namespace Go.Proofs.Ytolpakpdkheanaa.br
open Go.RowKit Go.Shelf
attribute [local go_sem] Oper.semAt_some
theorem xnt (s : ByteArray) (hs : s.size ≤ 512) (w : World) (hg : Glob w) :
  Calls Try.prog 14 #[.string s] w (xjm s w) := by
 have k1 : ((512 : Int) < (s.size : Int)) = False := eq_false (by omega)
 have hw0 : 0 < w.heap.size := by
  obtain ⟨m, hm⟩ := hg
  exact World.block_lt_of_cell? w _ hm
 refine (callsIn_wide (n := 5)).1 ?_
 refine callsIn_of_wp_marks Try.func14 rfl trivial ?_ rfl
 simp only [Try.ntmps14, List.size_toArray, List.length_cons, List.length_nil, Nat.reduceAdd, Nat.reduceSub, Array.replicate_succ, Array.replicate_zero, List.push_toArray, List.append_toArray, List.nil_append, List.cons_append]
 gi_wp2_with (refine ⟨trivial, ?_⟩; gi_at_call 20; refine (xpv _ _ _).mono ?_; rintro e w' ⟨rfl, rfl⟩)
 obtain ⟨W0, hW0⟩ : ∃ W0, W0 = (((((w.alloc (.cells #[.int .i64 0, .int .u64 0, .int .u64 0, .int .u64 0, .int .u64 0, .int .i64 0, .int .i64 0, .int .i64 0, .slice none 0 0] 41)).alloc (.cells #[.int .i64 0, .int .i64 0] 43)).alloc (.cells #[.int .i64 0, .int .i64 0, .int .i64 0, .slice none 0 0] 63)).alloc (.cells #[.slice (some ⟨w.heap.size + 1 + 1, 0, none⟩) 1 1, .int .i64 0, .bool false, .bool false, .bool false, .bool false, .bool false, .bool false, .bool false, .bool false, .bool false, .bool false, .int .i64 0, .int .i64 0] 67)).alloc (.cells #[.string s] 9)) := ⟨_, rfl⟩
 rw [← hW0]
 have b0 : W0.heap[w.heap.size]? = some (.cells #[.int .i64 0, .int .u64 0, .int .u64 0, .int .u64 0, .int .u64 0, .int .i64 0, .int .i64 0, .int .i64 0, .slice none 0 0] 41) := by rw [hW0, Below.heap_alloc _ _ _ (by simp only [World.size_alloc]; omega), Below.heap_alloc _ _ _ (by simp only [World.size_alloc]; omega), Below.heap_alloc _ _ _ (by simp only [World.size_alloc]; omega), Below.heap_alloc _ _ _ (by simp only [World.size_alloc]; omega)]; exact heap_alloc_new w _
 have nw := fun (W : World) (ob : Obj) (H : Nat) (hH : W.heap.size = H) => (show (W.alloc ob).heap[H]? = some ob from hH ▸ heap_alloc_new W ob)
 have b1 : W0.heap[w.heap.size + 1]? = some (.cells #[.int .i64 0, .int .i64 0] 43) := by rw [hW0, Below.heap_alloc _ _ _ (by simp only [World.size_alloc]; omega), Below.heap_alloc _ _ _ (by simp only [World.size_alloc]; omega), Below.heap_alloc _ _ _ (by simp only [World.size_alloc]; omega)]; exact nw _ _ _ (by simp only [World.size_alloc])
 have b2 : W0.heap[w.heap.size + 1 + 1]? = some (.cells #[.int .i64 0, .int .i64 0, .int .i64 0, .slice none 0 0] 63) := by rw [hW0, Below.heap_alloc _ _ _ (by simp only [World.size_alloc]; omega), Below.heap_alloc _ _ _ (by simp only [World.size_alloc]; omega)]; exact nw _ _ _ (by simp only [World.size_alloc])
 have b3 : W0.heap[w.heap.size + 1 + 1 + 1]? = some (.cells #[.slice (some ⟨w.heap.size + 1 + 1, 0, none⟩) 1 1, .int .i64 0, .bool false, .bool false, .bool false, .bool false, .bool false, .bool false, .bool false, .bool false, .bool false, .bool false, .int .i64 0, .int .i64 0] 67) := by rw [hW0, Below.heap_alloc _ _ _ (by simp only [World.size_alloc]; omega)]; exact nw _ _ _ (by simp only [World.size_alloc])
 have b4 : W0.heap[w.heap.size + 1 + 1 + 1 + 1]? = some (.cells #[.string s] 9) := by rw [hW0]; exact nw _ _ _ (by simp only [World.size_alloc])
 have hB0 : Below w.heap.size w W0 := by
  rw [hW0]
  exact (((((Below.refl _ w).alloc (Nat.le_refl _) _).alloc (by simp only [World.size_alloc]; omega) _).alloc (by simp only [World.size_alloc]; omega) _).alloc (by simp only [World.size_alloc]; omega) _).alloc (by simp only [World.size_alloc]; omega) _
 have hsz0 : W0.heap.size = w.heap.size + 5 := by rw [hW0]; simp only [World.size_alloc]
 have hI0 : xk2 s w ⟨0, 4, Ps.start⟩ W0 := ⟨⟨start_at b2 b3, b0, b1⟩, hB0, by omega, xg6, Nat.zero_le _, fun h => absurd rfl h, by show 4 ≠ 0; omega, s.size + 1, by show s.size - 0 < s.size + 1; omega, rfl⟩
 have hgW := hg.below hB0 (Nat.le_refl _)
 clear hW0 b0 b1 b2 b3 nw
 refine xnq (by omega) (gf := 34) (lb := #[.pointer (some ⟨w.heap.size + 1 + 1 + 1 + 1, 0, none⟩)]) rfl (enters_of Try.func34 (by kernel_rfl) rfl)
  (xk1 4 (by omega) s (by omega) _ ⟨0, 4, Ps.start⟩ ⟨rfl, rfl⟩ W0 hgW b4) (fun _ => rfl) kp_trans (kp_put (by omega)) (xk2 s w) (LoopX s w) (xjl s w _ hB0.size) (xpw s w _ hB0.size) hI0 (LoopA s w) (fun x a' => xpx s w x a' _) ?assign ?body ?done ?stop
 case assign =>
  intro l x W K hgo hI hK
  have HI := hideT hI
  have HK := hideT hK
  clear hI hK
  gi_wp2
  refine HK.out _ _ ⟨by rw [World.size_alloc]; omega, fun k o _ hk _ => (Below.heap_alloc W _ k (Array.getElem?_eq_some_iff.1 hk).1).trans hk⟩ (kp_alloc W _ (by have := HI.out.2.2.1; omega)) (OwnFrom.alloc (xjl s w _ hB0.size) _ HI.out) ⟨W.heap.size, rfl, heap_alloc_new W _, HI.out.2.2.1⟩
 case body =>
  rintro l x a' W hgo hI ⟨bx, rfl, hbx, hbl⟩
  have hta : TokAt s x.i x.k (x.tok s) := xbf s x.i x.k hgo.1
  have ht7 : (x.tok s).kind = 7 → x.P.top.parts ≠ [] := fun h => hI.2.2.2.2.2.1 (fun e => by have := hta.rep h; rw [e] at this; cases this)
  have htk := take_any (x.tok s) W hI.1.1 (by have := hI.2.2.1; omega) hI.2.2.2.1 (by have := hI.2.2.2.2.1; omega) hta.ok ht7
  have HH := hideT (And.intro hI (And.intro hbx (And.intro hbl (And.intro hta (And.intro ht7 (And.intro htk hgo))))))
  have HX := hideT (show x.nx s = ⟨(x.tok s).to, (x.tok s).kind, (x.P.take (x.tok s)).2⟩ from rfl)
  have HT := hideT (show tokenT s x.i x.k = x.tok s from rfl)
  have c0 : W.cell? ⟨bx, 0, none⟩ = some (.int .i64 ((x.tok s).kind : Nat)) := by simp [World.cell?, hbx]
  have c1 : W.cell? ⟨bx, 1, none⟩ = some (.int .i64 ((x.tok s).fr : Nat)) := by simp [World.cell?, hbx]
  have c2 : W.cell? ⟨bx, 2, none⟩ = some (.int .i64 ((x.tok s).to : Nat)) := by simp [World.cell?, hbx]
  have c3 : W.cell? ⟨bx, 3, none⟩ = some (.int .i64 (x.tok s).e) := by simp [World.cell?, hbx]
  have c4 : W.cell? ⟨bx, 4, none⟩ = some (.int .u64 (wd (x.tok s).q 0)) := by simp [World.cell?, hbx]
  have c5 : W.cell? ⟨bx, 5, none⟩ = some (.int .u64 (wd (x.tok s).q 1)) := by simp [World.cell?, hbx]
  have c6 : W.cell? ⟨bx, 6, none⟩ = some (.int .u64 (wd (x.tok s).q 2)) := by simp [World.cell?, hbx]
  have c7 : W.cell? ⟨bx, 7, none⟩ = some (.int .u64 (wd (x.tok s).q 3)) := by simp [World.cell?, hbx]
  have c8 : W.cell? ⟨bx, 8, none⟩ = some (.int .i64 ((x.tok s).grp : Nat)) := by simp [World.cell?, hbx]
  have c9 : W.cell? ⟨bx, 9, none⟩ = some (.int .i64 (x.tok s).lo) := by simp [World.cell?, hbx]
  have c10 : W.cell? ⟨bx, 10, none⟩ = some (.int .i64 (x.tok s).hi) := by simp [World.cell?, hbx]
  have HL := hideT (And.intro (fun h W2 => xpz (W2 := W2) hI hgo h) (xns hI hgo))
  clear hI hbx hbl hta ht7 htk hgo
  generalize x.tok s = T at *
  generalize hR : x.P.take T = R at *
  gi_wp2_with fail
  refine ⟨trivial, ?_⟩
  refine (CallsIn.inRound l (callsIn_wide.2 HH.out.2.2.2.2.2.1)).mono ?_
  rintro e W2 ⟨rfl, hP2, hF2⟩
  by_cases h0 : R.1 = 0
  ·have HN := hideT (And.intro (HL.out.1 h0 W2 hP2 hF2) (And.intro (xmi (B' := w.heap.size + 5) hF2) (kp_fr hF2 (by omega))))
   clear HH HX HT HL hP2 hF2 c0 c1 c2 c3 c4 c5 c6 c7 c8 c9 c10
   rw [h0]
   gi_wp2
   exact ⟨hsz0 ▸ HN.out.2.1, HN.out.2.2, HN.out.1⟩
  ·have hb1 := hF2.same _ _ HH.out.2.1 rfl
   have d1 : W2.cell? ⟨bx, 1, none⟩ = some (.int .i64 T.fr) := by simp [World.cell?, hb1]
   have r0 := (hF2.below.block _ (show w.heap.size < w.heap.size + 1 + 1 by omega)).trans HH.out.1.1.2.1
   have r1 := (hF2.below.block _ (show w.heap.size + 1 < w.heap.size + 1 + 1 by omega)).trans HH.out.1.1.2.2
   have e0 : W2.cell? ⟨w.heap.size, 0, none⟩ = some (.int .i64 0) := by simp [World.cell?, r0]
   have f0 : W2.frozen? ⟨w.heap.size, 0, none⟩ = false := by simp [World.frozen?, r0]
   have e1 : W2.cell? ⟨w.heap.size, 1, none⟩ = some (.int .u64 0) := by simp [World.cell?, r0]
   have f1 : W2.frozen? ⟨w.heap.size, 1, none⟩ = false := by simp [World.frozen?, r0]
   have e2 : W2.cell? ⟨w.heap.size, 2, none⟩ = some (.int .u64 0) := by simp [World.cell?, r0]
   have f2 : W2.frozen? ⟨w.heap.size, 2, none⟩ = false := by simp [World.frozen?, r0]
   have e3 : W2.cell? ⟨w.heap.size, 3, none⟩ = some (.int .u64 0) := by simp [World.cell?, r0]
   have f3 : W2.frozen? ⟨w.heap.size, 3, none⟩ = false := by simp [World.frozen?, r0]
   have e4 : W2.cell? ⟨w.heap.size, 4, none⟩ = some (.int .u64 0) := by simp [World.cell?, r0]
   have f4 : W2.frozen? ⟨w.heap.size, 4, none⟩ = false := by simp [World.frozen?, r0]
   have e5 : W2.cell? ⟨w.heap.size, 5, none⟩ = some (.int .i64 0) := by simp [World.cell?, r0]
   have f5 : W2.frozen? ⟨w.heap.size, 5, none⟩ = false := by simp [World.frozen?, r0]
   have e6 : W2.cell? ⟨w.heap.size, 6, none⟩ = some (.int .i64 0) := by simp [World.cell?, r0]
   have f6 : W2.frozen? ⟨w.heap.size, 6, none⟩ = false := by simp [World.frozen?, r0]
   have e7 : W2.cell? ⟨w.heap.size, 7, none⟩ = some (.int .i64 0) := by simp [World.cell?, r0]
   have f7 : W2.frozen? ⟨w.heap.size, 7, none⟩ = false := by simp [World.frozen?, r0]
   have e8 : W2.cell? ⟨w.heap.size, 8, none⟩ = some (.slice none 0 0) := by simp [World.cell?, r0]
   have f8 : W2.frozen? ⟨w.heap.size, 8, none⟩ = false := by simp [World.frozen?, r0]
   have e10 : W2.cell? ⟨w.heap.size + 1, 0, none⟩ = some (.int .i64 0) := by simp [World.cell?, r1]
   have f10 : W2.frozen? ⟨w.heap.size + 1, 0, none⟩ = false := by simp [World.frozen?, r1]
   have e11 : W2.cell? ⟨w.heap.size + 1, 1, none⟩ = some (.int .i64 0) := by simp [World.cell?, r1]
   have f11 : W2.frozen? ⟨w.heap.size + 1, 1, none⟩ = false := by simp [World.frozen?, r1]
   have hfl := HL.out.2 h0
   have HN := hideT (And.intro r0 (And.intro r1 (And.intro hF2 (And.intro hfl HH.out.1))))
   have hbb : (R.1 != 0) = true := by simp [h0]
   have hbl := HH.out.2.2.1
   have n1 : bx ≠ w.heap.size := by omega
   have n2 : bx ≠ w.heap.size + 1 := by omega
   clear hbl
   clear HH HX HT HL hP2 hF2 c0 c1 c2 c3 c4 c5 c6 c7 c8 c9 c10 hb1 r0 r1 hfl
   generalize (Value.agg #[.int .i64 0, .int .i64 0, .int .i64 0, .slice none 0 0]) = y1
   generalize (Value.agg #[.slice (some ⟨w.heap.size + 1 + 1, 0, none⟩) 1 1, .int .i64 0, .bool false, .bool false, .bool false, .bool false, .bool false, .bool false, .bool false, .bool false, .bool false, .bool false, .int .i64 0, .int .i64 0]) = y2
   generalize (Value.agg #[.int .i64 T.kind, .int .i64 T.fr, .int .i64 T.to, .int .i64 T.e, .int .u64 (wd T.q 0), .int .u64 (wd T.q 1), .int .u64 (wd T.q 2), .int .u64 (wd T.q 3), .int .i64 T.grp, .int .i64 T.lo, .int .i64 T.hi]) = y3
   generalize (Value.func (.func 34) #[] #[.pointer (some ⟨w.heap.size + 1 + 1 + 1 + 1, 0, none⟩)]) = y4
   generalize (Value.slice (some ⟨w.heap.size + 1 + 1, 0, none⟩) 1 1) = y5
   gi_wp2_with fail
   gi_region
   all_goals
    gi_wp2
    with_reducible exact ends_ret (xp1 HN.out.2.2.2.2 HN.out.2.2.1 HN.out.1 HN.out.2.1 HN.out.2.2.2.1)
 case done =>
  rintro D x W hD hng hI hK
  obtain ⟨⟨hps, r0, r1⟩, hB, hsz, hG, hxi, _, hk0, f, hf, hr⟩ := hI
  have hxs : x.i = s.size := by
   rcases Nat.lt_or_ge x.i s.size with h | h
   ·exact absurd ⟨h, hk0⟩ hng
   ·omega
  rw [xpy s f x.i x.k x.P (by omega)] at hr
  have hpt : parseT s = if x.P.outer.length = 0 then .ok x.P.top.parts else .error (10, x.P.top.pos) := by
   unfold parseT
   rw [if_neg (by omega), ← hr]
  obtain ⟨o, vs, v, fz, hP⟩ := hps
  obtain ⟨go, cap, co, rfl, hgo, hbgo, hpg⟩ := hP.levels
  obtain ⟨us, hul, own, hkids⟩ := hP.row
  obtain ⟨pa, pc, rfl⟩ := owns_shape own
  have c0 := (hP.cell 0 _ rfl).1
  have hml : x.P.outer.length ≤ 9 := Nat.le_trans hG.len hG.g9
  have d0 := (xbx hP.own (x.P.outer.length * 4 + 0) _ (by rw [xa1 _ _ _ _ (xb7 _ _ hP.len)]; rfl)).1
  have d3 := (xbx hP.own (x.P.outer.length * 4 + 3) _ (by rw [xa1 _ _ _ _ (xb7 _ _ hP.len)]; rfl)).1
  rw [Nat.add_zero] at d0
  have HP := hideT (And.intro hP (And.intro hpt (And.intro hB (And.intro r0 (And.intro r1 (And.intro hsz (And.intro hbgo (And.intro hK hD))))))))
  clear hP hpt hB own hkids hul hgo hbgo hpg hr hng hG hf hK hD
  have a0 : W.cell? ⟨w.heap.size, 0, none⟩ = some (.int .i64 0) := by simp [World.cell?, r0]
  have fa0 : W.frozen? ⟨w.heap.size, 0, none⟩ = false := by simp [World.frozen?, r0]
  have a1 : W.cell? ⟨w.heap.size, 1, none⟩ = some (.int .u64 0) := by simp [World.cell?, r0]
  have fa1 : W.frozen? ⟨w.heap.size, 1, none⟩ = false := by simp [World.frozen?, r0]
  have a2 : W.cell? ⟨w.heap.size, 2, none⟩ = some (.int .u64 0) := by simp [World.cell?, r0]
  have fa2 : W.frozen? ⟨w.heap.size, 2, none⟩ = false := by simp [World.frozen?, r0]
  have a3 : W.cell? ⟨w.heap.size, 3, none⟩ = some (.int .u64 0) := by simp [World.cell?, r0]
  have fa3 : W.frozen? ⟨w.heap.size, 3, none⟩ = false := by simp [World.frozen?, r0]
  have a4 : W.cell? ⟨w.heap.size, 4, none⟩ = some (.int .u64 0) := by simp [World.cell?, r0]
  have fa4 : W.frozen? ⟨w.heap.size, 4, none⟩ = false := by simp [World.frozen?, r0]
  have a5 : W.cell? ⟨w.heap.size, 5, none⟩ = some (.int .i64 0) := by simp [World.cell?, r0]
  have fa5 : W.frozen? ⟨w.heap.size, 5, none⟩ = false := by simp [World.frozen?, r0]
  have a6 : W.cell? ⟨w.heap.size, 6, none⟩ = some (.int .i64 0) := by simp [World.cell?, r0]
  have fa6 : W.frozen? ⟨w.heap.size, 6, none⟩ = false := by simp [World.frozen?, r0]
  have a7 : W.cell? ⟨w.heap.size, 7, none⟩ = some (.int .i64 0) := by simp [World.cell?, r0]
  have fa7 : W.frozen? ⟨w.heap.size, 7, none⟩ = false := by simp [World.frozen?, r0]
  have a8 : W.cell? ⟨w.heap.size, 8, none⟩ = some (.slice none 0 0) := by simp [World.cell?, r0]
  have fa8 : W.frozen? ⟨w.heap.size, 8, none⟩ = false := by simp [World.frozen?, r0]
  have b0 : W.cell? ⟨w.heap.size + 1, 0, none⟩ = some (.int .i64 0) := by simp [World.cell?, r1]
  have fb0 : W.frozen? ⟨w.heap.size + 1, 0, none⟩ = false := by simp [World.frozen?, r1]
  have b1 : W.cell? ⟨w.heap.size + 1, 1, none⟩ = some (.int .i64 0) := by simp [World.cell?, r1]
  have fb1 : W.frozen? ⟨w.heap.size + 1, 1, none⟩ = false := by simp [World.frozen?, r1]
  clear r0 r1
  generalize hm : x.P.outer.length = m at *
  have HM := hideT hm
  clear hm
  have HC := hideT (xcf (w.heap.size + 1 + 1 + 1) go m cap (by omega) W c0)
  gi_wp2_with fail
  refine ⟨trivial, ?_⟩
  refine (callsIn_wide.2 HC.out).mono ?_
  rintro e w1 ⟨rfl, n1, rfl⟩
  by_cases hm0 : m = 0
  ·subst hm0
   simp only [Nat.zero_mul, Nat.zero_add] at c0 d0 d3
   obtain ⟨X, hX, x0, x1, x2, x3, x4, x5, x6⟩ := xk3 (w := w) (W2 := W.drewN n1) (pv := .slice pa x.P.top.parts.length pc) (er := 0) (p := 0) HP.out.2.2.2.1 HP.out.2.2.2.2.1
   have hsz1 := HP.out.2.2.2.2.2.1
   have hD1 : w.heap.size + 5 ≤ D := by have := HP.out.2.2.2.2.2.2.2.2; omega
   have hKX : X.heap[D]? = some (.deferred (some [])) := (x2 D (by omega) (by omega)).trans HP.out.2.2.2.2.2.2.2.1
   obtain ⟨Z, hZ⟩ : ∃ Z, Z = X.putObj D (.deferred none) := ⟨_, rfl⟩
   have zo : ∀ j, j ≠ D → Z.heap[j]? = X.heap[j]? := fun j hj => by rw [hZ]; exact World.putObj_heap_other hj
   have z0 := (zo w.heap.size (by omega)).trans x0
   have z1 := (zo (w.heap.size + 1) (by omega)).trans x1
   have htd : (Instr.takeDeferred D).run Try.prog X = .ok [] Z := by rw [hZ]; exact run_takeDeferred hKX
   have hZB : Below w.heap.size w Z := by
    have hb := HP.out.2.2.1
    refine ⟨?_, ?_, ?_, ?_, fun k hk => (zo k (by omega)).trans ((x2 k (by omega) (by omega)).trans (hb.block k hk))⟩
    ·rw [hZ]; exact x4.trans hb.os
    ·rw [hZ]; exact x5.trans hb.tape
    ·rw [hZ]; exact x6.trans hb.output
    ·have h1 : Z.heap.size = X.heap.size := by rw [hZ]; simp
     rw [h1, x3]
     exact hb.size
   have u0 : Z.cell? ⟨w.heap.size, 0, none⟩ = some (.int .i64 0) := by simp [World.cell?, z0]
   have u1 : Z.cell? ⟨w.heap.size, 1, none⟩ = some (.int .u64 0) := by simp [World.cell?, z0]
   have u2 : Z.cell? ⟨w.heap.size, 2, none⟩ = some (.int .u64 0) := by simp [World.cell?, z0]
   have u3 : Z.cell? ⟨w.heap.size, 3, none⟩ = some (.int .u64 0) := by simp [World.cell?, z0]
   have u4 : Z.cell? ⟨w.heap.size, 4, none⟩ = some (.int .u64 0) := by simp [World.cell?, z0]
   have u5 : Z.cell? ⟨w.heap.size, 5, none⟩ = some (.int .i64 0) := by simp [World.cell?, z0]
   have u6 : Z.cell? ⟨w.heap.size, 6, none⟩ = some (.int .i64 0) := by simp [World.cell?, z0]
   have u7 : Z.cell? ⟨w.heap.size, 7, none⟩ = some (.int .i64 0) := by simp [World.cell?, z0]
   have u8 : Z.cell? ⟨w.heap.size, 8, none⟩ = some (.slice pa x.P.top.parts.length pc) := by simp [World.cell?, z0]
   have v0 : Z.cell? ⟨w.heap.size + 1, 0, none⟩ = some (.int .i64 0) := by simp [World.cell?, z1]
   have v1 : Z.cell? ⟨w.heap.size + 1, 1, none⟩ = some (.int .i64 0) := by simp [World.cell?, z1]
   have hzk : Kids Z (fun g => w.heap.size ≤ g) (.slice pa x.P.top.parts.length pc) x.P.top.parts := xp0 HP.out.1 (fun k o hk ho hB => (zo k (fun e => by rw [e, HP.out.2.2.2.2.2.2.2.1] at hk; cases hk; cases ho)).trans (x2 k (by omega) (by omega)))
   have HF := hideT (And.intro hX (And.intro htd (And.intro hZB hzk)))
   clear hX htd hZB hzk zo x0 x1 x2 x3 x4 x5 x6 z0 z1 hZ hKX hsz1 hD1
   gi_wp2
   rw [← HF.out.1]
   refine ⟨by simp, .inl ⟨D, Z, rfl, HF.out.2.1, ?_⟩⟩
   exact ⟨.tuple #[.agg #[.int .i64 0, .int .u64 0, .int .u64 0, .int .u64 0, .int .u64 0, .int .i64 0, .int .i64 0, .int .i64 0, .slice pa x.P.top.parts.length pc], .agg #[.int .i64 0, .int .i64 0]], by simp [results, Try.results14, go_sem, u0, u1, u2, u3, u4, u5, u6, u7, u8, v0, v1], HF.out.2.2.1, .inr ⟨x.P.top.parts, pa, _, pc, HP.out.2.1, rfl, HF.out.2.2.2⟩⟩
  ·have hk1 : (1 : Int) < (m : Int) + 1 := by omega
   obtain ⟨X, hX, x0, x1, x2, x3, x4, x5, x6⟩ := xk3 (w := w) (W2 := W.drewN (n1 + 1)) (pv := .slice none 0 0) (er := 10) (p := (x.P.top.pos : Nat)) HP.out.2.2.2.1 HP.out.2.2.2.2.1
   have hsz1 := HP.out.2.2.2.2.2.1
   have hD1 : w.heap.size + 5 ≤ D := by have := HP.out.2.2.2.2.2.2.2.2; omega
   have hKX : X.heap[D]? = some (.deferred (some [])) := (x2 D (by omega) (by omega)).trans HP.out.2.2.2.2.2.2.2.1
   obtain ⟨Z, hZ⟩ : ∃ Z, Z = X.putObj D (.deferred none) := ⟨_, rfl⟩
   have zo : ∀ j, j ≠ D → Z.heap[j]? = X.heap[j]? := fun j hj => by rw [hZ]; exact World.putObj_heap_other hj
   have z0 := (zo w.heap.size (by omega)).trans x0
   have z1 := (zo (w.heap.size + 1) (by omega)).trans x1
   have htd : (Instr.takeDeferred D).run Try.prog X = .ok [] Z := by rw [hZ]; exact run_takeDeferred hKX
   have hZB : Below w.heap.size w Z := by
    have hb := HP.out.2.2.1
    refine ⟨?_, ?_, ?_, ?_, fun k hk => (zo k (by omega)).trans ((x2 k (by omega) (by omega)).trans (hb.block k hk))⟩
    ·rw [hZ]; exact x4.trans hb.os
    ·rw [hZ]; exact x5.trans hb.tape
    ·rw [hZ]; exact x6.trans hb.output
    ·have h1 : Z.heap.size = X.heap.size := by rw [hZ]; simp
     rw [h1, x3]
     exact hb.size
   have u0 : Z.cell? ⟨w.heap.size, 0, none⟩ = some (.int .i64 0) := by simp [World.cell?, z0]
   have u1 : Z.cell? ⟨w.heap.size, 1, none⟩ = some (.int .u64 0) := by simp [World.cell?, z0]
   have u2 : Z.cell? ⟨w.heap.size, 2, none⟩ = some (.int .u64 0) := by simp [World.cell?, z0]
   have u3 : Z.cell? ⟨w.heap.size, 3, none⟩ = some (.int .u64 0) := by simp [World.cell?, z0]
   have u4 : Z.cell? ⟨w.heap.size, 4, none⟩ = some (.int .u64 0) := by simp [World.cell?, z0]
   have u5 : Z.cell? ⟨w.heap.size, 5, none⟩ = some (.int .i64 0) := by simp [World.cell?, z0]
   have u6 : Z.cell? ⟨w.heap.size, 6, none⟩ = some (.int .i64 0) := by simp [World.cell?, z0]
   have u7 : Z.cell? ⟨w.heap.size, 7, none⟩ = some (.int .i64 0) := by simp [World.cell?, z0]
   have u8 : Z.cell? ⟨w.heap.size, 8, none⟩ = some (.slice none 0 0) := by simp [World.cell?, z0]
   have v0 : Z.cell? ⟨w.heap.size + 1, 0, none⟩ = some (.int .i64 10) := by simp [World.cell?, z1]
   have v1 : Z.cell? ⟨w.heap.size + 1, 1, none⟩ = some (.int .i64 x.P.top.pos) := by simp [World.cell?, z1]
   have hpe : parseT s = .error (10, x.P.top.pos) := HP.out.2.1.trans (if_neg hm0)
   have HF := hideT (And.intro hX (And.intro htd (And.intro hZB hpe)))
   have n1' : go ≠ w.heap.size := by have := HP.out.2.2.2.2.2.2.1; omega
   have n2' : go ≠ w.heap.size + 1 := by have := HP.out.2.2.2.2.2.2.1; omega
   clear hX htd hZB hpe zo x0 x1 x2 x3 x4 x5 x6 z0 z1 hZ hKX hsz1 hD1
   generalize (Value.agg #[.int .i64 0, .int .i64 0, .int .i64 0, .slice none 0 0]) = y1
   generalize (Value.agg #[.slice (some ⟨w.heap.size + 1 + 1, 0, none⟩) 1 1, .int .i64 0, .bool false, .bool false, .bool false, .bool false, .bool false, .bool false, .bool false, .bool false, .bool false, .bool false, .int .i64 0, .int .i64 0]) = y2
   generalize (Value.func (.func 34) #[] #[.pointer (some ⟨w.heap.size + 1 + 1 + 1 + 1, 0, none⟩)]) = y4
   generalize (Value.slice (some ⟨w.heap.size + 1 + 1, 0, none⟩) 1 1) = y5
   gi_wp2_with fail
   refine wpIn_wide.2 ?_
   go_region
   all_goals
    gi_wp2
    rw [← HF.out.1]
    refine ⟨by simp, .inl ⟨D, Z, rfl, HF.out.2.1, ?_⟩⟩
    exact ⟨.tuple #[.agg #[.int .i64 0, .int .u64 0, .int .u64 0, .int .u64 0, .int .u64 0, .int .i64 0, .int .i64 0, .int .i64 0, .slice none 0 0], .agg #[.int .i64 10, .int .i64 x.P.top.pos]], by simp [results, Try.results14, go_sem, u0, u1, u2, u3, u4, u5, u6, u7, u8, v0, v1], HF.out.2.2.1, .inl ⟨10, x.P.top.pos, HF.out.2.2.2, rfl⟩⟩
 case stop =>
  rintro D x W hD hX hK
  obtain ⟨er, p, h1, ⟨h2, h3⟩, h4⟩ := hX
  obtain ⟨Z, hZ⟩ : ∃ Z, Z = W.putObj D (.deferred none) := ⟨_, rfl⟩
  have z0 : Z.heap[w.heap.size]? = some (.cells #[.int .i64 0, .int .u64 0, .int .u64 0, .int .u64 0, .int .u64 0, .int .i64 0, .int .i64 0, .int .i64 0, .slice none 0 0] 41) := by rw [hZ]; exact (World.putObj_heap_other (by omega)).trans h2
  have z1 : Z.heap[w.heap.size + 1]? = some (.cells #[.int .i64 er, .int .i64 p] 43) := by rw [hZ]; exact (World.putObj_heap_other (by omega)).trans h3
  have u0 : Z.cell? ⟨w.heap.size, 0, none⟩ = some (.int .i64 0) := by simp [World.cell?, z0]
  have u1 : Z.cell? ⟨w.heap.size, 1, none⟩ = some (.int .u64 0) := by simp [World.cell?, z0]
  have u2 : Z.cell? ⟨w.heap.size, 2, none⟩ = some (.int .u64 0) := by simp [World.cell?, z0]
  have u3 : Z.cell? ⟨w.heap.size, 3, none⟩ = some (.int .u64 0) := by simp [World.cell?, z0]
  have u4 : Z.cell? ⟨w.heap.size, 4, none⟩ = some (.int .u64 0) := by simp [World.cell?, z0]
  have u5 : Z.cell? ⟨w.heap.size, 5, none⟩ = some (.int .i64 0) := by simp [World.cell?, z0]
  have u6 : Z.cell? ⟨w.heap.size, 6, none⟩ = some (.int .i64 0) := by simp [World.cell?, z0]
  have u7 : Z.cell? ⟨w.heap.size, 7, none⟩ = some (.int .i64 0) := by simp [World.cell?, z0]
  have u8 : Z.cell? ⟨w.heap.size, 8, none⟩ = some (.slice none 0 0) := by simp [World.cell?, z0]
  have v0 : Z.cell? ⟨w.heap.size + 1, 0, none⟩ = some (.int .i64 er) := by simp [World.cell?, z1]
  have v1 : Z.cell? ⟨w.heap.size + 1, 1, none⟩ = some (.int .i64 p) := by simp [World.cell?, z1]
  have hZB : Below w.heap.size w Z := by
   rw [hZ]
   exact h4.trans ⟨rfl, rfl, rfl, by simp, fun k hk => World.putObj_heap_other (by omega)⟩
  have hpt : parseT s = .error (er, p) := by
   unfold parseT
   rw [if_neg (by omega), h1]
  have htd : (Instr.takeDeferred D).run Try.prog W = .ok [] Z := by rw [hZ]; exact run_takeDeferred hK
  gi_wp2
  refine ⟨by simp, .inl ⟨D, Z, rfl, htd, ?_⟩⟩
  exact ⟨.tuple #[.agg #[.int .i64 0, .int .u64 0, .int .u64 0, .int .u64 0, .int .u64 0, .int .i64 0, .int .i64 0, .int .i64 0, .slice none 0 0], .agg #[.int .i64 er, .int .i64 p]], by simp [results, Try.results14, go_sem, u0, u1, u2, u3, u4, u5, u6, u7, u8, v0, v1], hZB, .inl ⟨er, p, hpt, rfl⟩⟩
end Go.Proofs.Ytolpakpdkheanaa.br
