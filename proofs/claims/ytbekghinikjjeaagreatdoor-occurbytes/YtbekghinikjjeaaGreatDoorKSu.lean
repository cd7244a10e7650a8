/- KSu -/
import Derived.Test.YtbekghinikjjeaaGreatDoorKA3
import Derived.Test.YtbekghinikjjeaaGreatDoorKA1
import Derived.Deep.CutRange
set_option maxRecDepth 100000
set_option maxHeartbeats 4000000
namespace Go.Proofs.YtbekghinikjjeaaGreatDoor.smt
open Go.RowKit Go.Proofs.YtbekghinikjjeaaGreatDoor.br
theorem pt_first {W : World} {b : Nat} {p : Pt} {vl vt vn : Value} (h : W.heap[b]? = some (.cells (ptV p vl vt vn).toArray 164 (0, 0))) {k : Nat} (hk : k < 4) : (W.cell? ⟨b, 5 + k * 9, none⟩ = some (.bool (bat p.bds k).no)) ∧ (W.cell? ⟨b, 5 + k * 9 + 1, none⟩ = some (.int .u64 (wd (Nat.testBit (bat p.bds k).fi) 0 : Nat)) ∧ W.cell? ⟨b, 5 + k * 9 + 1 + 1, none⟩ = some (.int .u64 (wd (Nat.testBit (bat p.bds k).fi) 1 : Nat)) ∧ W.cell? ⟨b, 5 + k * 9 + 1 + 2, none⟩ = some (.int .u64 (wd (Nat.testBit (bat p.bds k).fi) 2 : Nat)) ∧ W.cell? ⟨b, 5 + k * 9 + 1 + 3, none⟩ = some (.int .u64 (wd (Nat.testBit (bat p.bds k).fi) 3 : Nat))) ∧ (W.cell? ⟨b, 5 + k * 9 + 5, none⟩ = some (.int .u64 (wd (Nat.testBit (bat p.bds k).la) 0 : Nat)) ∧ W.cell? ⟨b, 5 + k * 9 + 5 + 1, none⟩ = some (.int .u64 (wd (Nat.testBit (bat p.bds k).la) 1 : Nat)) ∧ W.cell? ⟨b, 5 + k * 9 + 5 + 2, none⟩ = some (.int .u64 (wd (Nat.testBit (bat p.bds k).la) 2 : Nat)) ∧ W.cell? ⟨b, 5 + k * 9 + 5 + 3, none⟩ = some (.int .u64 (wd (Nat.testBit (bat p.bds k).la) 3 : Nat))) := by
 have hr := pt_range h
 have g : ∀ (j : Nat) (v : Value), j < 9 → (bdV (bat p.bds k))[j]? = some v → W.cell? ⟨b, 5 + k * 9 + j, none⟩ = some v := fun j v hj hv => by
  have := hr (k * 9 + j) v ((bs_get p.bds k j hk hj).trans hv)
  rwa [← Nat.add_assoc] at this
 exact ⟨g 0 _ (by omega) rfl, ⟨g 1 _ (by omega) rfl, g 2 _ (by omega) rfl, g 3 _ (by omega) rfl, g 4 _ (by omega) rfl⟩, g 5 _ (by omega) rfl, g 6 _ (by omega) rfl, g 7 _ (by omega) rfl, g 8 _ (by omega) rfl⟩
theorem fold_lt {p : Pt} (hok : OkP p) : ∀ (l : List Nat) (a : Nat), a < 2 ^ p.takes.length → l.foldl (fun a i => a ||| p.next.getD i 0) a < 2 ^ p.takes.length
 | [], _, h => h
 | i :: l, a, h => by
  refine fold_lt hok l _ (Nat.or_lt_two_pow h ?_)
  rw [List.getD_eq_getElem?_getD]
  cases e : p.next[i]? with
  | none => exact Nat.pow_pos (by omega)
  | some y => exact hok.nx y (List.mem_of_getElem? e)
theorem onward_lt {p : Pt} (hok : OkP p) (t : Nat) : onward p t < 2 ^ p.takes.length := fold_lt hok _ _ (Nat.pow_pos (by omega))
theorem in_next {p : Pt} (hok : OkP p) {t : Nat} (h : t < 2 ^ p.takes.length) : ∀ x ∈ mem 256 t, x < p.next.length := fun x hx => by rw [hok.nl]; exact mem_len h hx
theorem longest_any {S : Nat → Prop} {sb h lg lo c base at_ fr te B : Nat} {q : Pt} {s : ByteArray} {tv sv uv : Value} {us : List Nat} (w : World) (hs : SrAt w sb s h tv sv) (hq : PtAt w S c q) (hSw : ∀ g, S g → g < w.heap.size) (hok : OkP q) (hT : Tab w) (l0 : w.cell? ⟨lg, lo, none⟩ = some (.pointer (some ⟨c, 0, none⟩))) (l1 : w.cell? ⟨lg, lo + 1, none⟩ = some (.int .i64 (base : Nat))) (hb : base < 1000000) (ow : w.ownsRow B 157 4 uv us.length (nxV us)) (hus : us.length = te - fr) (hub : ∀ u ∈ us, u < 2 ^ 256) (hat : fr ≤ at_ ∧ at_ ≤ te) (hto : te < 1073741824) :
  Calls Tryz.prog 99 #[.pointer (some ⟨sb, 0, none⟩), .pointer (some ⟨lg, lo, none⟩), .int .i64 (at_ : Nat), .agg #[.int .i64 (fr : Nat), .int .i64 (te : Nat), uv]] w fun e w' => e = .returned (.int .i64 (longF q base us fr te (te - at_ + 1) (bat q.bds (kindAt s.size at_)).fi at_ : Nat)) ∧ Below w.heap.size w w' := by
 have hq0 := hq
 have HSw := hSw
 clear hSw
 have hslt := hs.lt
 have hpos := hT.pos
 obtain ⟨c, q, vl, vt, vn, cs, -, blk, -, -, -, -, -, -, -, -⟩ := hq0
 obtain ⟨a, cp, rfl⟩ := owns_shape ow
 obtain ⟨q0, -⟩ := hs.cells
 have hcl : c < w.heap.size := (Array.getElem?_eq_some_iff.1 blk).1
 have hll : lg < w.heap.size := World.block_lt_of_cell? w _ l0
 obtain ⟨R, hR⟩ : ∃ R, longF q base us fr te (te - at_ + 1) (bat q.bds (kindAt s.size at_)).fi at_ = R := ⟨_, rfl⟩
 rw [hR]
 have hk4 := kind_lt s.size at_
 have hfi := (hok.bd.at (kindAt s.size at_)).1
 obtain ⟨-, ⟨r0, r1, r2, r3⟩, -⟩ := pt_first blk hk4
 have HK := hideT (fun W (e : W.cell? ⟨sb, 0, none⟩ = some (.string s)) => kind_any (W := W) (b := sb) (o := 0) s at_ e)
 generalize kindAt s.size at_ = kd at *
 have i1 : (kd : Int) < 4 := by omega
 have i2 : (0 : Int) ≤ (kd : Int) := by omega
 have HH := hideT (And.intro hs (And.intro hq (And.intro hT (And.intro ow blk))))
 have HUS := hideT hus
 clear hs hq hT ow blk hus
 generalize us.length = un at *
 go_enter Tryz.func99, Tryz.ntmps99
 go_upto_region 1 with fail
 rename_i K1 hK1
 have hK1v := hK1
 clear hK1
 obtain ⟨X, hX⟩ : ∃ X, X = w.alloc (.cells #[.int .i64 (fr : Nat), .int .i64 (te : Nat), .slice a un cp] 228) := ⟨_, rfl⟩
 rw [← hX]
 have hBX : Below w.heap.size w X := by rw [hX]; exact (Below.refl _ w).alloc (Nat.le_refl _) _
 have HsX := hideT (show X.heap.size = w.heap.size + 1 by rw [hX, World.size_alloc])
 have x0 : X.heap[w.heap.size]? = some (.cells #[.int .i64 (fr : Nat), .int .i64 (te : Nat), .slice a un cp] 228) := by rw [hX]; exact World.alloc_heap_new w _
 have y0 := keep_cell hBX l0
 have y1 := keep_cell hBX l1
 have y2 := keep_cell hBX q0
 have hSof : ∀ V : World, Below X.heap.size X V → (fun V : World => Below X.heap.size X V ∧ V.cell? ⟨lg, lo, none⟩ = some (.pointer (some ⟨c, 0, none⟩)) ∧ V.cell? ⟨sb, 0, none⟩ = some (.string s) ∧ V.cell? ⟨c, 5 + kd * 9 + 1, none⟩ = some (.int .u64 (wd (Nat.testBit (bat q.bds kd).fi) 0 : Nat)) ∧ V.cell? ⟨c, 5 + kd * 9 + 1 + 1, none⟩ = some (.int .u64 (wd (Nat.testBit (bat q.bds kd).fi) 1 : Nat)) ∧ V.cell? ⟨c, 5 + kd * 9 + 1 + 2, none⟩ = some (.int .u64 (wd (Nat.testBit (bat q.bds kd).fi) 2 : Nat)) ∧ V.cell? ⟨c, 5 + kd * 9 + 1 + 3, none⟩ = some (.int .u64 (wd (Nat.testBit (bat q.bds kd).fi) 3 : Nat))) V := fun V hV => ⟨hV, keep_cell hV y0, keep_cell hV y2, keep_cell hV (keep_cell hBX r0), keep_cell hV (keep_cell hBX r1), keep_cell hV (keep_cell hBX r2), keep_cell hV (keep_cell hBX r3)⟩
 clear hX l0 l1 q0 r0 r1 r2 r3
 go_cut [9] from 11 to 24 (fun s9 w' => ∃ nb, s9 = .pointer (some ⟨nb, 0, none⟩) ∧ Hid (X.heap.size ≤ nb ∧ Ps4 w' nb (bat q.bds kd).fi ∧ Below X.heap.size X w'))
 case first =>
  rename_i J hJ
  have hS1 := hSof X.drew (Below.refl _ _).drew
  have hA := ((Below.refl X.heap.size X).drew).alloc (Nat.le_refl _) (.cells #[.int .u64 0, .int .u64 0, .int .u64 0, .int .u64 0] 157)
  obtain ⟨U, hU⟩ : ∃ U, U = X.drew.alloc (.cells #[.int .u64 0, .int .u64 0, .int .u64 0, .int .u64 0] 157) := ⟨_, rfl⟩
  rw [← hU] at hA
  have hS2 := hSof _ hA
  have hz : Ps4 U X.heap.size 0 := by rw [hU]; exact Ps4.zero X.drew
  have hZ := hz.put (bat q.bds kd).fi
  have hZB := put_below hA (Nat.le_refl _) 0 (bat q.bds kd).fi
  obtain ⟨⟨c0, c1, c2, c3⟩, f0, f1, f2, f3⟩ := hz.cells
  have HUU := hideT hU
  clear hU
  refine wp_region_held (S := fun V : World => Below X.heap.size X V ∧ V.cell? ⟨lg, lo, none⟩ = some (.pointer (some ⟨c, 0, none⟩)) ∧ V.cell? ⟨sb, 0, none⟩ = some (.string s) ∧ V.cell? ⟨c, 5 + kd * 9 + 1, none⟩ = some (.int .u64 (wd (Nat.testBit (bat q.bds kd).fi) 0 : Nat)) ∧ V.cell? ⟨c, 5 + kd * 9 + 1 + 1, none⟩ = some (.int .u64 (wd (Nat.testBit (bat q.bds kd).fi) 1 : Nat)) ∧ V.cell? ⟨c, 5 + kd * 9 + 1 + 2, none⟩ = some (.int .u64 (wd (Nat.testBit (bat q.bds kd).fi) 2 : Nat)) ∧ V.cell? ⟨c, 5 + kd * 9 + 1 + 3, none⟩ = some (.int .u64 (wd (Nat.testBit (bat q.bds kd).fi) 3 : Nat))) (by kernel_rfl) ?_
  refine tq 0 11 hS1 ?_
  refine tq 1 12 hS1 ?_
  refine tq 2 13 hS1 ?_
  refine tq 3 14 hS1 ?_
  refine tq 4 15 hS1 ?_
  refine tq 5 16 hS1 ?_
  refine tq 6 17 hS1 ?_
  refine tq 7 18 hS1 ?_
  refine tq 9 20 hS1 ?_
  refine tq 10 21 hS1 ?_
  simp only [Act.put, List.setIfInBounds_toArray, List.set_cons_zero, List.set_cons_succ]
  refine wpAnyH_all (rs := [8, 14]) (by kernel_rfl) (by simp) (fun i hi => ?_)
  have hc2 : i = 8 ∨ i = 14 := by simpa using hi
  rcases hc2 with rfl | rfl
  ·
   refine op_call (R := fun v w1 => v = .int .i64 (kd : Nat) ∧ X.drew = w1) (f := 66) (some 19) rfl rfl (by rfl) (by go_simp; (try with_reducible rfl)) ((HK.out _ hS1.2.2.1).mono ?_) ?_
   · rintro e w1 ⟨rfl, rfl⟩
     exact ⟨_, rfl, rfl, rfl⟩
   rintro v w1 ⟨rfl, rfl⟩
   refine ⟨hS1, ?_⟩
   simp only [Act.put, List.setIfInBounds_toArray, List.set_cons_zero, List.set_cons_succ]
   refine tq 11 22 hS1 ?_
   refine tq 12 23 hS1 ?_
   refine tq 13 24 hS1 ?_
   refine wpAnyH_all (rs := [14]) (by kernel_rfl) (by simp) (fun i hi => ?_)
   obtain rfl : i = 14 := List.mem_singleton.1 hi
   refine op_value (some 9) rfl rfl (by rfl) (v := .pointer (some ⟨X.heap.size, 0, none⟩)) (w' := U) (by rw [HUU.out]; go_simp; (try with_reducible rfl)) ⟨hS2, ?_⟩
   simp only [Act.put, List.setIfInBounds_toArray, List.set_cons_zero, List.set_cons_succ]
   refine wpAnyH_all (rs := [15]) (by kernel_rfl) (by simp) (fun i hi => ?_)
   obtain rfl : i = 15 := List.mem_singleton.1 hi
   refine op_skip rfl rfl (by rfl) (w' := put4at U X.heap.size 0 (bat q.bds kd).fi) (by go_simp; (try with_reducible rfl)) ⟨hSof _ hZB, ?_⟩
   refine wpAnyH_done (by kernel_rfl) ?_ _
   refine hJ _ _ ?_
   simp only [Act.put]
   go_meet
   exact ⟨_, rfl, hideT ⟨Nat.le_refl _, hZ, hZB⟩⟩
  ·
   refine op_value (some 9) rfl rfl (by rfl) (v := .pointer (some ⟨X.heap.size, 0, none⟩)) (w' := U) (by rw [HUU.out]; go_simp; (try with_reducible rfl)) ⟨hS2, ?_⟩
   simp only [Act.put, List.setIfInBounds_toArray, List.set_cons_zero, List.set_cons_succ]
   refine wpAnyH_all (rs := [8]) (by kernel_rfl) (by simp) (fun i hi => ?_)
   obtain rfl : i = 8 := List.mem_singleton.1 hi
   refine op_call (R := fun v w1 => v = .int .i64 (kd : Nat) ∧ U = w1) (f := 66) (some 19) rfl rfl (by rfl) (by go_simp; (try with_reducible rfl)) ((HK.out _ hS2.2.2.1).mono ?_) ?_
   · rintro e w1 ⟨rfl, rfl⟩
     exact ⟨_, rfl, rfl, rfl⟩
   rintro v w1 ⟨rfl, rfl⟩
   refine ⟨hS2, ?_⟩
   simp only [Act.put, List.setIfInBounds_toArray, List.set_cons_zero, List.set_cons_succ]
   refine tq 11 22 hS2 ?_
   refine tq 12 23 hS2 ?_
   refine tq 13 24 hS2 ?_
   simp only [Act.put, List.setIfInBounds_toArray, List.set_cons_zero, List.set_cons_succ]
   refine wpAnyH_all (rs := [15]) (by kernel_rfl) (by simp) (fun i hi => ?_)
   obtain rfl : i = 15 := List.mem_singleton.1 hi
   refine op_skip rfl rfl (by rfl) (w' := put4at U X.heap.size 0 (bat q.bds kd).fi) (by go_simp; (try with_reducible rfl)) ⟨hSof _ hZB, ?_⟩
   refine wpAnyH_done (by kernel_rfl) ?_ _
   refine hJ _ _ ?_
   simp only [Act.put]
   go_meet
   exact ⟨_, rfl, hideT ⟨Nat.le_refl _, hZ, hZB⟩⟩
 case rest =>
 obtain ⟨nb, rfl, HC⟩ := hcut
 obtain ⟨hnb, hps, hbc⟩ := HC.out
 refine hK1v _ _ ?_
 have hsX := HsX.out
 clear HC HK hSof i1 i2
 have hst : ∃ wt f, longF q base us fr te f wt at_ = R ∧ f = te - at_ + 1 ∧ wt < 2 ^ q.takes.length ∧ Ps4 wc nb wt := ⟨_, _, hR, rfl, hfi, hps⟩
 have x0c : wc.heap[w.heap.size]? = some (.cells #[.int .i64 (fr : Nat), .int .i64 (te : Nat), .slice a un cp] 228) := (hbc.block _ (by omega)).trans x0
 have hBc : Below w.heap.size w wc := hBX.trans (hbc.mono hBX.size)
 have hnb2 : w.heap.size < nb := by omega
 have z0 := (World.cell?_of_block (a := ⟨lg, lo, none⟩) (hbc.block lg (by omega))).trans y0
 have z1 := (World.cell?_of_block (a := ⟨lg, lo + 1, none⟩) (hbc.block lg (by omega))).trans y1
 clear hR hfi hps hbc x0 y0 y1 y2 hnb hsX HsX
 go_wp2_with fail
 go_loopg [2] (te - at_ + 1) (fun f v wr => ∃ at1 wt, v = .int .i64 (at1 : Nat) ∧ (fr ≤ at1 ∧ at1 ≤ te) ∧ Hid (f = te - at1 + 1 ∧ longF q base us fr te f wt at1 = R ∧ wt < 2 ^ q.takes.length ∧ Ps4 wr nb wt ∧ wr.heap[w.heap.size]? = some (.cells #[.int .i64 (fr : Nat), .int .i64 (te : Nat), .slice a un cp] 228) ∧ Below w.heap.size w wr ∧ wr.cell? ⟨lg, lo, none⟩ = some (.pointer (some ⟨c, 0, none⟩)) ∧ wr.cell? ⟨lg, lo + 1, none⟩ = some (.int .i64 (base : Nat))))
 case atStart =>
  obtain ⟨wt, f, h1, rfl, h3, h4⟩ := hst
  exact ⟨at_, wt, rfl, hat, hideT ⟨rfl, h1, h3, h4, x0c, hBc, z0, z1⟩⟩
 case round =>
  obtain ⟨k, wt, rfl, hkk, HR⟩ := hrel
  obtain ⟨hf, hrun, hwt, hps, hx0, hB, hz0, hz1⟩ := HR.out
  clear HR hst x0c hBc z0 z1
  have t0 : wr.cell? ⟨w.heap.size, 0, none⟩ = some (.int .i64 (fr : Nat)) := by simp [World.cell?, hx0]
  have t1 : wr.cell? ⟨w.heap.size, 1, none⟩ = some (.int .i64 (te : Nat)) := by simp [World.cell?, hx0]
  have t2 : wr.cell? ⟨w.heap.size, 2, none⟩ = some (.slice a un cp) := by simp [World.cell?, hx0]
  obtain ⟨f', rfl⟩ : ∃ f', gk = f' + 1 := ⟨gk - 1, by omega⟩
  have HQ := hideT (And.intro hf (And.intro hx0 hB))
  have hnl : nb < wr.heap.size := hps.lt
  have HP := hideT hps
  by_cases hlt : k < te
  · have i1 : (k : Int) < (te : Int) := by omega
    have hble : Nat.ble te k = false := by rw [← Bool.not_eq_true, Nat.ble_eq]; omega
    rw [longF, hble, cond_false] at hrun
    have hul : k - fr < us.length := by have h1 := HH.out.2.2.2.1.1; rw [nxV_len] at h1; have h2 := HUS.out; omega
    obtain ⟨u, hu⟩ : ∃ u, us[k - fr]? = some u := ⟨us[k - fr], List.getElem?_eq_getElem hul⟩
    rw [List.getD_eq_getElem?_getD, hu, Option.getD_some] at hrun
    have hu256 := hub u (List.mem_of_getElem? hu)
    have howr : ∀ V : World, Below wr.heap.size wr V → V.ownsRow B 157 4 (.slice a un cp) us.length (nxV us) := fun V hV => by
     have h1 := HH.out.2.2.2.1
     have h2 : us.length = un := by have h3 := h1.1; rw [nxV_len] at h3; omega
     rw [h2]
     exact owns_keep h1 fun g hg => (hV.block g (by have := (owns_blk h1 hg).2.1; have := HQ.out.2.2.size; omega)).trans (HQ.out.2.2.block g (owns_blk h1 hg).2.1)
    have HA := hideT (fun (V : World) (hV : Below wr.heap.size wr V) => at_any (te := te) V (howr V hV) hu (show k = fr + (k - fr) by omega) (by omega))
    have HD := hideT (fun W => down_any u base hu256 hb W)
    have HN := hideT (fun W => and_any wt (u >>> base) W)
    have HE := hideT (And.intro hrun hwt)
    obtain ⟨⟨p0, p1, p2, p3⟩, -⟩ := hps.cells
    have hSof : ∀ V : World, Below wr.heap.size wr V → (fun V : World => Below wr.heap.size wr V ∧ V.cell? ⟨lg, lo, none⟩ = some (.pointer (some ⟨c, 0, none⟩)) ∧ V.cell? ⟨lg, lo + 1, none⟩ = some (.int .i64 (base : Nat)) ∧ (V.cell? ⟨w.heap.size, 0, none⟩ = some (.int .i64 (fr : Nat)) ∧ V.cell? ⟨w.heap.size, 1, none⟩ = some (.int .i64 (te : Nat)) ∧ V.cell? ⟨w.heap.size, 2, none⟩ = some (.slice a un cp)) ∧ V.cell? ⟨nb, 0, none⟩ = some (.int .u64 (wd (Nat.testBit wt) 0 : Nat)) ∧ V.cell? ⟨nb, 1, none⟩ = some (.int .u64 (wd (Nat.testBit wt) 1 : Nat)) ∧ V.cell? ⟨nb, 2, none⟩ = some (.int .u64 (wd (Nat.testBit wt) 2 : Nat)) ∧ V.cell? ⟨nb, 3, none⟩ = some (.int .u64 (wd (Nat.testBit wt) 3 : Nat))) V := fun V hV => ⟨hV, keep_cell hV hz0, keep_cell hV hz1, ⟨keep_cell hV t0, keep_cell hV t1, keep_cell hV t2⟩, keep_cell hV p0, keep_cell hV p1, keep_cell hV p2, keep_cell hV p3⟩
    clear hrun hf hx0 hB hu hul howr hps
    go_upto_region 4 with fail
    rename_i KB hKB K4 hK4
    go_cut [10] from 25 to 41 (fun s10 w' => ∃ n2, s10 = .pointer (some ⟨n2, 0, none⟩) ∧ Hid (wr.heap.size ≤ n2 ∧ Ps4 w' n2 (wt &&& (u >>> base)) ∧ Below wr.heap.size wr w'))
    case first =>
     rename_i J hJ
     have hS0b : Below wr.heap.size wr wr.drew := (Below.refl _ _).drew
     have hS0 := hSof _ hS0b
     refine wp_region_held (S := fun V : World => Below wr.heap.size wr V ∧ V.cell? ⟨lg, lo, none⟩ = some (.pointer (some ⟨c, 0, none⟩)) ∧ V.cell? ⟨lg, lo + 1, none⟩ = some (.int .i64 (base : Nat)) ∧ (V.cell? ⟨w.heap.size, 0, none⟩ = some (.int .i64 (fr : Nat)) ∧ V.cell? ⟨w.heap.size, 1, none⟩ = some (.int .i64 (te : Nat)) ∧ V.cell? ⟨w.heap.size, 2, none⟩ = some (.slice a un cp)) ∧ V.cell? ⟨nb, 0, none⟩ = some (.int .u64 (wd (Nat.testBit wt) 0 : Nat)) ∧ V.cell? ⟨nb, 1, none⟩ = some (.int .u64 (wd (Nat.testBit wt) 1 : Nat)) ∧ V.cell? ⟨nb, 2, none⟩ = some (.int .u64 (wd (Nat.testBit wt) 2 : Nat)) ∧ V.cell? ⟨nb, 3, none⟩ = some (.int .u64 (wd (Nat.testBit wt) 3 : Nat))) (by kernel_rfl) ?_
     refine tq 0 32 hS0 ?_
     refine tq 1 33 hS0 ?_
     refine tq 2 34 hS0 ?_
     refine tq 4 36 hS0 ?_
     refine tq 5 37 hS0 ?_
     refine tq 6 38 hS0 ?_
     refine tq 7 39 hS0 ?_
     simp only [Act.put, List.setIfInBounds_toArray, List.set_cons_zero, List.set_cons_succ]
     refine wpAnyH_all (rs := [3, 10]) (by kernel_rfl) (by simp) (fun i hi => ?_)
     have hc1 : i = 3 ∨ i = 10 := by simpa using hi
     rcases hc1 with rfl | rfl
     · refine op_call (R := fun v w1 => v = .agg #[.int .u64 (wd (Nat.testBit u) 0 : Nat), .int .u64 (wd (Nat.testBit u) 1 : Nat), .int .u64 (wd (Nat.testBit u) 2 : Nat), .int .u64 (wd (Nat.testBit u) 3 : Nat)] ∧ Below wr.drew.heap.size wr.drew w1) (f := 124) (some 35) rfl rfl (by rfl) (by go_simp; (try with_reducible rfl)) ((HA.out _ hS0b).mono ?_) ?_
       · rintro e w2 ⟨rfl, hb0⟩; exact ⟨_, rfl, rfl, hb0⟩
       rintro v w2 ⟨rfl, hb3⟩
       have b4 := hS0b.trans (hb3.mono hS0b.size)
       have hS5 := hSof _ b4
       refine ⟨hS5, ?_⟩
       simp only [Act.put, List.setIfInBounds_toArray, List.set_cons_zero, List.set_cons_succ]
       refine wpAnyH_all (rs := [8, 10]) (by kernel_rfl) (by simp) (fun i hi => ?_)
       have hc6 : i = 8 ∨ i = 10 := by simpa using hi
       rcases hc6 with rfl | rfl
       · refine op_call (R := fun v w1 => v = .agg #[.int .u64 (wd (Nat.testBit (u >>> base)) 0 : Nat), .int .u64 (wd (Nat.testBit (u >>> base)) 1 : Nat), .int .u64 (wd (Nat.testBit (u >>> base)) 2 : Nat), .int .u64 (wd (Nat.testBit (u >>> base)) 3 : Nat)] ∧ Below w2.heap.size w2 w1) (f := 125) (some 40) rfl rfl (by rfl) (by go_simp; (try with_reducible rfl)) ((HD.out _).mono ?_) ?_
         · rintro e w2 ⟨rfl, hb0⟩; exact ⟨_, rfl, rfl, hb0⟩
         rintro v w7 ⟨rfl, hb8⟩
         have b9 := b4.trans (hb8.mono b4.size)
         have hS10 := hSof _ b9
         refine ⟨hS10, ?_⟩
         simp only [Act.put, List.setIfInBounds_toArray, List.set_cons_zero, List.set_cons_succ]
         refine wpAnyH_all (rs := [9, 10]) (by kernel_rfl) (by simp) (fun i hi => ?_)
         have hc11 : i = 9 ∨ i = 10 := by simpa using hi
         rcases hc11 with rfl | rfl
         · refine op_call (R := fun v w1 => v = .agg #[.int .u64 (wd (Nat.testBit (wt &&& (u >>> base))) 0 : Nat), .int .u64 (wd (Nat.testBit (wt &&& (u >>> base))) 1 : Nat), .int .u64 (wd (Nat.testBit (wt &&& (u >>> base))) 2 : Nat), .int .u64 (wd (Nat.testBit (wt &&& (u >>> base))) 3 : Nat)] ∧ Below w7.heap.size w7 w1) (f := 123) (some 41) rfl rfl (by rfl) (by go_simp; (try with_reducible rfl)) ((HN.out _).mono ?_) ?_
           · rintro e w2 ⟨rfl, hb0⟩; exact ⟨_, rfl, rfl, hb0⟩
           rintro v w12 ⟨rfl, hb13⟩
           have b14 := b9.trans (hb13.mono b9.size)
           have hS15 := hSof _ b14
           refine ⟨hS15, ?_⟩
           simp only [Act.put, List.setIfInBounds_toArray, List.set_cons_zero, List.set_cons_succ]
           refine wpAnyH_all (rs := [10]) (by kernel_rfl) (by simp) (fun i hi => ?_)
           obtain rfl : i = 10 := List.mem_singleton.1 hi
           obtain ⟨U16, hU17⟩ : ∃ U, U = w12.alloc (.cells #[.int .u64 0, .int .u64 0, .int .u64 0, .int .u64 0] 157) := ⟨_, rfl⟩
           have b18 : Below wr.heap.size wr U16 := by rw [hU17]; exact b14.alloc b14.size _
           obtain ⟨n20, hn21⟩ : ∃ n, n = w12.heap.size := ⟨_, rfl⟩
           have z22 : Ps4 U16 n20 0 := by rw [hU17, hn21]; exact Ps4.zero _
           have le23 : wr.heap.size ≤ n20 := by rw [hn21]; exact b14.size
           have hS19 := hSof _ b18
           refine op_value (some 10) rfl rfl (by rfl) (v := .pointer (some ⟨n20, 0, none⟩)) (w' := U16) (by rw [hU17, hn21]; clear z22 hS19; go_simp; (try with_reducible rfl)) ⟨hS19, ?_⟩
           clear hU17 hn21
           simp only [Act.put, List.setIfInBounds_toArray, List.set_cons_zero, List.set_cons_succ]
           refine wpAnyH_all (rs := [11]) (by kernel_rfl) (by simp) (fun i hi => ?_)
           obtain rfl : i = 11 := List.mem_singleton.1 hi
           obtain ⟨⟨c0, c1, c2, c3⟩, f0, f1, f2, f3⟩ := z22.cells
           refine op_skip rfl rfl (by rfl) (w' := put4at U16 n20 0 (wt &&& (u >>> base))) (by go_simp; (try with_reducible rfl)) ⟨hSof _ (put_below b18 le23 0 _), ?_⟩
           refine wpAnyH_done (by kernel_rfl) (hJ _ _ ?_) _
           simp only [Act.put]
           go_meet
           exact ⟨_, rfl, hideT ⟨le23, z22.put _, put_below b18 le23 0 _⟩⟩
         · obtain ⟨U24, hU25⟩ : ∃ U, U = w7.alloc (.cells #[.int .u64 0, .int .u64 0, .int .u64 0, .int .u64 0] 157) := ⟨_, rfl⟩
           have b26 : Below wr.heap.size wr U24 := by rw [hU25]; exact b9.alloc b9.size _
           obtain ⟨n28, hn29⟩ : ∃ n, n = w7.heap.size := ⟨_, rfl⟩
           have z30 : Ps4 U24 n28 0 := by rw [hU25, hn29]; exact Ps4.zero _
           have le31 : wr.heap.size ≤ n28 := by rw [hn29]; exact b9.size
           have hS27 := hSof _ b26
           refine op_value (some 10) rfl rfl (by rfl) (v := .pointer (some ⟨n28, 0, none⟩)) (w' := U24) (by rw [hU25, hn29]; clear z30 hS27; go_simp; (try with_reducible rfl)) ⟨hS27, ?_⟩
           clear hU25 hn29
           simp only [Act.put, List.setIfInBounds_toArray, List.set_cons_zero, List.set_cons_succ]
           refine wpAnyH_all (rs := [9]) (by kernel_rfl) (by simp) (fun i hi => ?_)
           obtain rfl : i = 9 := List.mem_singleton.1 hi
           refine op_call (R := fun v w1 => v = .agg #[.int .u64 (wd (Nat.testBit (wt &&& (u >>> base))) 0 : Nat), .int .u64 (wd (Nat.testBit (wt &&& (u >>> base))) 1 : Nat), .int .u64 (wd (Nat.testBit (wt &&& (u >>> base))) 2 : Nat), .int .u64 (wd (Nat.testBit (wt &&& (u >>> base))) 3 : Nat)] ∧ Below U24.heap.size U24 w1) (f := 123) (some 41) rfl rfl (by rfl) (by go_simp; (try with_reducible rfl)) ((HN.out _).mono ?_) ?_
           · rintro e w2 ⟨rfl, hb0⟩; exact ⟨_, rfl, rfl, hb0⟩
           rintro v w32 ⟨rfl, hb33⟩
           have b34 := b26.trans (hb33.mono b26.size)
           have hS35 := hSof _ b34
           refine ⟨hS35, ?_⟩
           simp only [Act.put, List.setIfInBounds_toArray, List.set_cons_zero, List.set_cons_succ]
           have z36 := z30.below hb33 z30.lt
           refine wpAnyH_all (rs := [11]) (by kernel_rfl) (by simp) (fun i hi => ?_)
           obtain rfl : i = 11 := List.mem_singleton.1 hi
           obtain ⟨⟨c0, c1, c2, c3⟩, f0, f1, f2, f3⟩ := z36.cells
           refine op_skip rfl rfl (by rfl) (w' := put4at w32 n28 0 (wt &&& (u >>> base))) (by go_simp; (try with_reducible rfl)) ⟨hSof _ (put_below b34 le31 0 _), ?_⟩
           refine wpAnyH_done (by kernel_rfl) (hJ _ _ ?_) _
           simp only [Act.put]
           go_meet
           exact ⟨_, rfl, hideT ⟨le31, z36.put _, put_below b34 le31 0 _⟩⟩
       · obtain ⟨U37, hU38⟩ : ∃ U, U = w2.alloc (.cells #[.int .u64 0, .int .u64 0, .int .u64 0, .int .u64 0] 157) := ⟨_, rfl⟩
         have b39 : Below wr.heap.size wr U37 := by rw [hU38]; exact b4.alloc b4.size _
         obtain ⟨n41, hn42⟩ : ∃ n, n = w2.heap.size := ⟨_, rfl⟩
         have z43 : Ps4 U37 n41 0 := by rw [hU38, hn42]; exact Ps4.zero _
         have le44 : wr.heap.size ≤ n41 := by rw [hn42]; exact b4.size
         have hS40 := hSof _ b39
         refine op_value (some 10) rfl rfl (by rfl) (v := .pointer (some ⟨n41, 0, none⟩)) (w' := U37) (by rw [hU38, hn42]; clear z43 hS40; go_simp; (try with_reducible rfl)) ⟨hS40, ?_⟩
         clear hU38 hn42
         simp only [Act.put, List.setIfInBounds_toArray, List.set_cons_zero, List.set_cons_succ]
         refine wpAnyH_all (rs := [8]) (by kernel_rfl) (by simp) (fun i hi => ?_)
         obtain rfl : i = 8 := List.mem_singleton.1 hi
         refine op_call (R := fun v w1 => v = .agg #[.int .u64 (wd (Nat.testBit (u >>> base)) 0 : Nat), .int .u64 (wd (Nat.testBit (u >>> base)) 1 : Nat), .int .u64 (wd (Nat.testBit (u >>> base)) 2 : Nat), .int .u64 (wd (Nat.testBit (u >>> base)) 3 : Nat)] ∧ Below U37.heap.size U37 w1) (f := 125) (some 40) rfl rfl (by rfl) (by go_simp; (try with_reducible rfl)) ((HD.out _).mono ?_) ?_
         · rintro e w2 ⟨rfl, hb0⟩; exact ⟨_, rfl, rfl, hb0⟩
         rintro v w45 ⟨rfl, hb46⟩
         have b47 := b39.trans (hb46.mono b39.size)
         have hS48 := hSof _ b47
         refine ⟨hS48, ?_⟩
         simp only [Act.put, List.setIfInBounds_toArray, List.set_cons_zero, List.set_cons_succ]
         have z49 := z43.below hb46 z43.lt
         refine wpAnyH_all (rs := [9]) (by kernel_rfl) (by simp) (fun i hi => ?_)
         obtain rfl : i = 9 := List.mem_singleton.1 hi
         refine op_call (R := fun v w1 => v = .agg #[.int .u64 (wd (Nat.testBit (wt &&& (u >>> base))) 0 : Nat), .int .u64 (wd (Nat.testBit (wt &&& (u >>> base))) 1 : Nat), .int .u64 (wd (Nat.testBit (wt &&& (u >>> base))) 2 : Nat), .int .u64 (wd (Nat.testBit (wt &&& (u >>> base))) 3 : Nat)] ∧ Below w45.heap.size w45 w1) (f := 123) (some 41) rfl rfl (by rfl) (by go_simp; (try with_reducible rfl)) ((HN.out _).mono ?_) ?_
         · rintro e w2 ⟨rfl, hb0⟩; exact ⟨_, rfl, rfl, hb0⟩
         rintro v w50 ⟨rfl, hb51⟩
         have b52 := b47.trans (hb51.mono b47.size)
         have hS53 := hSof _ b52
         refine ⟨hS53, ?_⟩
         simp only [Act.put, List.setIfInBounds_toArray, List.set_cons_zero, List.set_cons_succ]
         have z54 := z49.below hb51 z49.lt
         refine wpAnyH_all (rs := [11]) (by kernel_rfl) (by simp) (fun i hi => ?_)
         obtain rfl : i = 11 := List.mem_singleton.1 hi
         obtain ⟨⟨c0, c1, c2, c3⟩, f0, f1, f2, f3⟩ := z54.cells
         refine op_skip rfl rfl (by rfl) (w' := put4at w50 n41 0 (wt &&& (u >>> base))) (by go_simp; (try with_reducible rfl)) ⟨hSof _ (put_below b52 le44 0 _), ?_⟩
         refine wpAnyH_done (by kernel_rfl) (hJ _ _ ?_) _
         simp only [Act.put]
         go_meet
         exact ⟨_, rfl, hideT ⟨le44, z54.put _, put_below b52 le44 0 _⟩⟩
     · obtain ⟨U55, hU56⟩ : ∃ U, U = wr.drew.alloc (.cells #[.int .u64 0, .int .u64 0, .int .u64 0, .int .u64 0] 157) := ⟨_, rfl⟩
       have b57 : Below wr.heap.size wr U55 := by rw [hU56]; exact hS0b.alloc hS0b.size _
       obtain ⟨n59, hn60⟩ : ∃ n, n = wr.drew.heap.size := ⟨_, rfl⟩
       have z61 : Ps4 U55 n59 0 := by rw [hU56, hn60]; exact Ps4.zero _
       have le62 : wr.heap.size ≤ n59 := by rw [hn60]; exact hS0b.size
       have hS58 := hSof _ b57
       refine op_value (some 10) rfl rfl (by rfl) (v := .pointer (some ⟨n59, 0, none⟩)) (w' := U55) (by rw [hU56, hn60]; clear z61 hS58; go_simp; (try with_reducible rfl)) ⟨hS58, ?_⟩
       clear hU56 hn60
       simp only [Act.put, List.setIfInBounds_toArray, List.set_cons_zero, List.set_cons_succ]
       refine wpAnyH_all (rs := [3]) (by kernel_rfl) (by simp) (fun i hi => ?_)
       obtain rfl : i = 3 := List.mem_singleton.1 hi
       refine op_call (R := fun v w1 => v = .agg #[.int .u64 (wd (Nat.testBit u) 0 : Nat), .int .u64 (wd (Nat.testBit u) 1 : Nat), .int .u64 (wd (Nat.testBit u) 2 : Nat), .int .u64 (wd (Nat.testBit u) 3 : Nat)] ∧ Below U55.heap.size U55 w1) (f := 124) (some 35) rfl rfl (by rfl) (by go_simp; (try with_reducible rfl)) ((HA.out _ b57).mono ?_) ?_
       · rintro e w2 ⟨rfl, hb0⟩; exact ⟨_, rfl, rfl, hb0⟩
       rintro v w63 ⟨rfl, hb64⟩
       have b65 := b57.trans (hb64.mono b57.size)
       have hS66 := hSof _ b65
       refine ⟨hS66, ?_⟩
       simp only [Act.put, List.setIfInBounds_toArray, List.set_cons_zero, List.set_cons_succ]
       have z67 := z61.below hb64 z61.lt
       refine wpAnyH_all (rs := [8]) (by kernel_rfl) (by simp) (fun i hi => ?_)
       obtain rfl : i = 8 := List.mem_singleton.1 hi
       refine op_call (R := fun v w1 => v = .agg #[.int .u64 (wd (Nat.testBit (u >>> base)) 0 : Nat), .int .u64 (wd (Nat.testBit (u >>> base)) 1 : Nat), .int .u64 (wd (Nat.testBit (u >>> base)) 2 : Nat), .int .u64 (wd (Nat.testBit (u >>> base)) 3 : Nat)] ∧ Below w63.heap.size w63 w1) (f := 125) (some 40) rfl rfl (by rfl) (by go_simp; (try with_reducible rfl)) ((HD.out _).mono ?_) ?_
       · rintro e w2 ⟨rfl, hb0⟩; exact ⟨_, rfl, rfl, hb0⟩
       rintro v w68 ⟨rfl, hb69⟩
       have b70 := b65.trans (hb69.mono b65.size)
       have hS71 := hSof _ b70
       refine ⟨hS71, ?_⟩
       simp only [Act.put, List.setIfInBounds_toArray, List.set_cons_zero, List.set_cons_succ]
       have z72 := z67.below hb69 z67.lt
       refine wpAnyH_all (rs := [9]) (by kernel_rfl) (by simp) (fun i hi => ?_)
       obtain rfl : i = 9 := List.mem_singleton.1 hi
       refine op_call (R := fun v w1 => v = .agg #[.int .u64 (wd (Nat.testBit (wt &&& (u >>> base))) 0 : Nat), .int .u64 (wd (Nat.testBit (wt &&& (u >>> base))) 1 : Nat), .int .u64 (wd (Nat.testBit (wt &&& (u >>> base))) 2 : Nat), .int .u64 (wd (Nat.testBit (wt &&& (u >>> base))) 3 : Nat)] ∧ Below w68.heap.size w68 w1) (f := 123) (some 41) rfl rfl (by rfl) (by go_simp; (try with_reducible rfl)) ((HN.out _).mono ?_) ?_
       · rintro e w2 ⟨rfl, hb0⟩; exact ⟨_, rfl, rfl, hb0⟩
       rintro v w73 ⟨rfl, hb74⟩
       have b75 := b70.trans (hb74.mono b70.size)
       have hS76 := hSof _ b75
       refine ⟨hS76, ?_⟩
       simp only [Act.put, List.setIfInBounds_toArray, List.set_cons_zero, List.set_cons_succ]
       have z77 := z72.below hb74 z72.lt
       refine wpAnyH_all (rs := [11]) (by kernel_rfl) (by simp) (fun i hi => ?_)
       obtain rfl : i = 11 := List.mem_singleton.1 hi
       obtain ⟨⟨c0, c1, c2, c3⟩, f0, f1, f2, f3⟩ := z77.cells
       refine op_skip rfl rfl (by rfl) (w' := put4at w73 n59 0 (wt &&& (u >>> base))) (by go_simp; (try with_reducible rfl)) ⟨hSof _ (put_below b75 le62 0 _), ?_⟩
       refine wpAnyH_done (by kernel_rfl) (hJ _ _ ?_) _
       simp only [Act.put]
       go_meet
       exact ⟨_, rfl, hideT ⟨le62, z77.put _, put_below b75 le62 0 _⟩⟩
    case rest =>
    obtain ⟨n2, rfl, HC2⟩ := hcut
    refine hK4 _ _ ?_
    obtain ⟨hn2, hp2, hb2⟩ := HC2.out
    clear HC2 HA HD HN hSof t0 t1 t2 p0 p1 p2 p3
    have hrun := HE.out.1
    have hwt := HE.out.2
    have htk : wt &&& (u >>> base) < 2 ^ q.takes.length := Nat.lt_of_le_of_lt Nat.and_le_left hwt
    clear HE
    generalize wt &&& (u >>> base) = tk at *
    have hc0 := none_any (lt_mono htk hok.len) wc
    have hz0 := keep_cell hb2 hz0
    have hz1 := keep_cell hb2 hz1
    have hB2 : Below w.heap.size w wc := HQ.out.2.2.trans (hb2.mono HQ.out.2.2.size)
    have hx2 := (hb2.block w.heap.size (by have := HQ.out.2.2.size; omega)).trans HQ.out.2.1
    have hnb3 : Ps4 wc nb wt := HP.out.below hb2 hnl
    obtain ⟨⟨c0, c1, c2, c3⟩, -⟩ := hp2.cells
    have HS := hideT (And.intro hp2 (And.intro hB2 (And.intro hx2 (And.intro hnb3 HQ.out.1))))
    have hn2n : nb ≠ n2 := by omega
    have hwn2 : w.heap.size < n2 := by omega
    have hn2l := hp2.lt
    clear hp2 hb2 hB2 hx2 hnb3 HQ HP hnl hn2
    go_wp2_with fail
    refine hc0.mono ?_
    rintro e w3 ⟨rfl, hb3⟩
    have hz0 := keep_cell hb3 hz0
    have hz1 := keep_cell hb3 hz1
    obtain ⟨hp2, hB2, hx2, hnb3, hf⟩ := HS.out
    have hp3 := hp2.below hb3 hp2.lt
    have hB3 := hB2.trans (hb3.mono hB2.size)
    have hx3 := (hb3.block w.heap.size (by have := hB2.size; have := hp2.lt; omega)).trans hx2
    have hnb4 := hnb3.below hb3 hnb3.lt
    obtain ⟨⟨c0, c1, c2, c3⟩, -⟩ := hp3.cells
    obtain ⟨⟨d0, d1, d2, d3⟩, g0, g1, g2, g3⟩ := hnb4.cells
    have HS := hideT (And.intro hp3 (And.intro hB3 (And.intro hx3 (And.intro hnb4 hf))))
    clear hp2 hB2 hx2 hnb3 hp3 hB3 hx3 hnb4 hf hb3 hc0
    cases hbq : Nat.beq tk 0 with
    | true =>
     rw [hbq, cond_true] at hrun
     have HR2 := hideT hrun
     clear hrun hbq
     go_wp2
     go_ret
     exact ⟨by rw [← HR2.out]; rfl, HS.out.2.1⟩
    | false =>
     rw [hbq, cond_false] at hrun
     have HR2 := hideT hrun
     clear hrun hbq
     have hS6 : (fun V : World => V.cell? ⟨lg, lo, none⟩ = some (.pointer (some ⟨c, 0, none⟩)) ∧ V.cell? ⟨n2, 0, none⟩ = some (.int .u64 (wd (Nat.testBit tk) 0 : Nat)) ∧ V.cell? ⟨n2, 1, none⟩ = some (.int .u64 (wd (Nat.testBit tk) 1 : Nat)) ∧ V.cell? ⟨n2, 2, none⟩ = some (.int .u64 (wd (Nat.testBit tk) 2 : Nat)) ∧ V.cell? ⟨n2, 3, none⟩ = some (.int .u64 (wd (Nat.testBit tk) 3 : Nat))) w3.drew := ⟨hz0, c0, c1, c2, c3⟩
     have HPT := hideT (fun (V : World) (hV : Below w.heap.size w V) => And.intro (HH.out.2.1.keep (W' := V) (S' := S) (fun g hg => hV.block g (HSw g hg)) (fun _ h => h)) (HH.out.2.2.1.below hV hpos))
     have HO := hideT (fun (V : World) (hV : Below w.heap.size w V) => onward_any (took := tk) V (HPT.out V hV).1 (HPT.out V hV).2 (in_next hok htk))
     go_upto_region 6 with fail
     refine wp_region_held (S := fun V : World => V.cell? ⟨lg, lo, none⟩ = some (.pointer (some ⟨c, 0, none⟩)) ∧ V.cell? ⟨n2, 0, none⟩ = some (.int .u64 (wd (Nat.testBit tk) 0 : Nat)) ∧ V.cell? ⟨n2, 1, none⟩ = some (.int .u64 (wd (Nat.testBit tk) 1 : Nat)) ∧ V.cell? ⟨n2, 2, none⟩ = some (.int .u64 (wd (Nat.testBit tk) 2 : Nat)) ∧ V.cell? ⟨n2, 3, none⟩ = some (.int .u64 (wd (Nat.testBit tk) 3 : Nat))) (by kernel_rfl) ?_
     refine tq 0 44 hS6 ?_
     refine tq 1 45 hS6 ?_
     refine tq 2 46 hS6 ?_
     refine tq 3 47 hS6 ?_
     refine tq 4 48 hS6 ?_
     simp only [Act.put, List.setIfInBounds_toArray, List.set_cons_zero, List.set_cons_succ]
     refine wpAnyH_all (rs := [5]) (by kernel_rfl) (by simp) (fun i hi => ?_)
     obtain rfl : i = 5 := List.mem_singleton.1 hi
     refine op_call (R := fun v w1 => v = .agg #[.int .u64 (wd (Nat.testBit (onward q tk)) 0 : Nat), .int .u64 (wd (Nat.testBit (onward q tk)) 1 : Nat), .int .u64 (wd (Nat.testBit (onward q tk)) 2 : Nat), .int .u64 (wd (Nat.testBit (onward q tk)) 3 : Nat)] ∧ Below w3.heap.size w3 w1) (f := 71) (some 49) rfl rfl (by rfl) (by go_simp; (try with_reducible rfl)) ((HO.out _ HS.out.2.1.drew).mono ?_) ?_
     · rintro e w4 ⟨rfl, hb0⟩
       exact ⟨_, rfl, rfl, ((Below.refl w3.heap.size w3).drew).trans hb0⟩
     rintro v w4 ⟨rfl, hb4⟩
     obtain ⟨s0, s1, s2, s3, s4⟩ := hS6
     have hnb5 := HS.out.2.2.2.1.below hb4 HS.out.2.2.2.1.lt
     obtain ⟨⟨d0, d1, d2, d3⟩, g0, g1, g2, g3⟩ := hnb5.cells
     refine ⟨⟨keep_cell hb4 s0, keep_cell hb4 s1, keep_cell hb4 s2, keep_cell hb4 s3, keep_cell hb4 s4⟩, ?_⟩
     simp only [Act.put, List.setIfInBounds_toArray, List.set_cons_zero, List.set_cons_succ]
     refine wpAnyH_all (rs := [6]) (by kernel_rfl) (by simp) (fun i hi => ?_)
     obtain rfl : i = 6 := List.mem_singleton.1 hi
     have pc : ∀ a : Addr, a.block ≠ nb → (put4at w4 nb 0 (onward q tk)).cell? a = w4.cell? a := fun a h => World.cell?_of_block (put4at_far w4 _ _ _ h)
     refine op_skip rfl rfl (by rfl) (w' := put4at w4 nb 0 (onward q tk)) (by go_simp; (try with_reducible rfl)) ⟨⟨(pc _ (by show lg ≠ _; omega)).trans (keep_cell hb4 s0), (pc _ (by show n2 ≠ _; omega)).trans (keep_cell hb4 s1), (pc _ (by show n2 ≠ _; omega)).trans (keep_cell hb4 s2), (pc _ (by show n2 ≠ _; omega)).trans (keep_cell hb4 s3), (pc _ (by show n2 ≠ _; omega)).trans (keep_cell hb4 s4)⟩, ?_⟩
     refine wpAnyH_done (by kernel_rfl) (hKB _ _ ?_) _
     have e1 := hnb5.put (onward q tk)
     have e2 := put_below (HS.out.2.1.trans (hb4.mono HS.out.2.1.size)) (Nat.le_of_lt hnb2) 0 (onward q tk)
     have e3 := (put4at_far w4 nb 0 (onward q tk) (j := w.heap.size) (by omega)).trans ((hb4.block w.heap.size (by have := HS.out.2.1.size; have := HS.out.1.lt; omega)).trans HS.out.2.2.1)
     have e4 := (pc ⟨lg, lo, none⟩ (by show lg ≠ _; omega)).trans (keep_cell hb4 s0)
     have e5 := (pc ⟨lg, lo + 1, none⟩ (by show lg ≠ _; omega)).trans (keep_cell hb4 hz1)
     have hfe := HS.out.2.2.2.2
     generalize put4at w4 nb 0 (onward q tk) = Z at *
     have HE := hideT (And.intro e1 (And.intro e2 (And.intro e3 (And.intro e4 (And.intro e5 hfe)))))
     clear e1 e2 e3 e4 e5 hfe d0 d1 d2 d3 g0 g1 g2 g3 c0 c1 c2 c3 s0 s1 s2 s3 s4 hnb5 hb4 pc HS HO HPT hz0 hz1
     simp only [Act.put]
     go_wp2
     go_roundg f'
     case measure => omega
     case rel => exact ⟨k + 1, onward q tk, by go_num, by omega, hideT ⟨by have := HE.out.2.2.2.2.2; omega, HR2.out, onward_lt hok tk, HE.out.1, HE.out.2.2.1, HE.out.2.1, HE.out.2.2.2.1, HE.out.2.2.2.2.1⟩⟩
  · obtain rfl : k = te := by omega
    have hble : Nat.ble k k = true := by rw [Nat.ble_eq]; exact Nat.le_refl _
    rw [longF, hble, cond_true] at hrun
    have HR2 := hideT (And.intro hrun hB)
    clear hrun hf hx0 hB hps
    go_wp2
    go_ret
    exact ⟨by rw [← HR2.out.1]; rfl, HR2.out.2⟩
end Go.Proofs.YtbekghinikjjeaaGreatDoor.smt
