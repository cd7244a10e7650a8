/- tally: join walked. -/
import Derived.Test.YtolpakpdkheanaaKTd
set_option maxRecDepth 100000
set_option maxHeartbeats 4000000
namespace Go.Proofs.Ytolpakpdkheanaa.tly
open Go.RowKit Go.Proofs.Ytolpakpdkheanaa.br
theorem PtAt.core {W : World} {S : Nat → Prop} {c : Nat} {p : Tp} (h : PtAt W S c p) : ∃ vl u, W.heap[c]? = some (.cells (ptV p.kind p.grp vl p.again p.set p.size u).toArray 87 (0, 0)) ∧ EsR W S u p.eds := by
 cases h with
 | mk _ _ vl u cs vs hS blk hl hv ol es => exact ⟨vl, u, blk, es⟩
theorem lkV_at {W : World} {B n g cap : Nat} {links : List Lk} {cs : List Nat} {us : List Value} (h : W.ownsRow B 125 4 (.slice (some ⟨g, 0, none⟩) n cap) n (lkV links cs us)) {i : Nat} {l : Lk} {c : Nat} (hi : links[i]? = some l) (hc : cs[i]? = some c) (hu : us.length = links.length) : W.cell? ⟨g, i * 4, none⟩ = some (.pointer (some ⟨c, 0, none⟩)) ∧ W.cell? ⟨g, i * 4 + 1, none⟩ = some (.int .i64 (l.2.1 : Nat)) ∧ W.cell? ⟨g, i * 4 + 2, none⟩ = some (.bool l.2.2.1) ∧ ∃ v, W.cell? ⟨g, i * 4 + 3, none⟩ = some v ∧ W.frozen? ⟨g, i * 4 + 3, none⟩ = false := by
 have hil := (List.getElem?_eq_some_iff.1 hi).1
 obtain ⟨v, hv⟩ : ∃ v, us[i]? = some v := ⟨_, List.getElem?_eq_getElem (by omega)⟩
 obtain ⟨a0, a1, a2, a3⟩ := lkV_get hi hc hv
 exact ⟨(row_cell h _ _ a0).1, (row_cell h _ _ a1).1, (row_cell h _ _ a2).1, v, (row_cell h _ _ a3).1, (row_cell h _ _ a3).2⟩
theorem row_some {W : World} {B n : Nat} {e : TypeId} {v : Value} {xs : List Value} (h : W.ownsRow B e 4 v n xs) (hn : 0 < n) : ∃ g cap, v = .slice (some ⟨g, 0, none⟩) n cap ∧ n ≤ cap := by
 rcases h.2 with ⟨_, rfl⟩ | ⟨g, cap, cur, rfl, _, _, hc, _⟩
 · omega
 · exact ⟨g, cap, rfl, hc⟩
theorem drop_at {ls : List Lk} {i : Nat} {l : Lk} (h : ls[i]? = some l) : ls.drop i = l :: ls.drop (i + 1) := by
 obtain ⟨h1, h2⟩ := List.getElem?_eq_some_iff.1 h
 rw [List.drop_eq_getElem_cons h1, h2]
/-- before the loop over the last link's edges, and behind each of its rounds -/
def endK (l : Lk) (k : Nat) : List Ed := [0, 1, 2, 3].map fun j => ⟨true, bif Nat.blt j k then (eat (upE l) j).fi else [], []⟩
theorem endK_step (l : Lk) : ∀ {k : Nat}, k < 4 → (endK l k).set k ⟨(eat (endK l k) k).no, (eat (upE l) k).fi, (eat (endK l k) k).la⟩ = endK l (k + 1)
 | 0, _ => rfl
 | 1, _ => rfl
 | 2, _ => rfl
 | 3, _ => rfl
theorem endK_all (l : Lk) (h : (upE l).length = 4) : endK l 4 = (upE l).map fun e => ⟨true, e.fi, []⟩ := four_ext rfl (by rw [List.length_map]; exact h) fun j hj => by
 rw [eat_map _ (by omega)]
 match j, hj with
 | 0, _ => rfl
 | 1, _ => rfl
 | 2, _ => rfl
 | 3, _ => rfl
theorem JnR.start {w V : World} {B b : Nat} {S : Nat → Prop} {kd gr : Nat} {ag : Bool} {links : List Lk} {n : Nat} {vl : Value} {cs : List Nat} {D : Nat} {es : List Ed} (h : GaV w B b S kd gr ag links n vl cs) (hb : Below w.heap.size w V) (hE : EdB V B D es) (hD : w.heap.size ≤ D) : JnR w B b S kd gr ag links n vl cs es D links.length V := by
 have hk := h.keep hb
 have hl := h.lt
 have hB := h.hb
 refine ⟨hk.blk, by rw [List.drop_length]; exact hE, ⟨nils links.length, by simp, hk.ol, fun j l hj hlj => ?_⟩, AcF.of hb (by omega) fun k hk => (h.nS k hk).2.1, by omega, by omega, hB⟩
 have := (List.getElem?_eq_some_iff.1 hlj).1
 rw [join_len] at this
 omega
theorem JnR.kid {w V : World} {B b : Nat} {S : Nat → Prop} {kd gr : Nat} {ag : Bool} {links : List Lk} {n : Nat} {vl : Value} {cs : List Nat} (h : AcF B S w V) (hg : GaV w B b S kd gr ag links n vl cs) {j : Nat} {l : Lk} {c : Nat} (hl : links[j]? = some l) (hc : cs[j]? = some c) : PtAt V S c l.1 := (hg.kids j l c hl hc).keep h.s fun _ h => h
theorem part_there {W : World} {b k g n : Nat} {vl : Value} {ag : Bool} {q : Nat → Bool} {u : Nat → Value} (h : W.heap[b]? = some (.cells (ptV k g vl ag q n u).toArray 87 (0, 0))) : W.there b 9 12 := fun j hj => by
 refine ⟨?_, by simp [World.frozen?, h]⟩
 rw [pt_cells h hj]; rfl
theorem join_any {w : World} {B b : Nat} {S : Nat → Prop} {kd gr : Nat} {ag : Bool} {links : List Lk} {n : Nat} {vl : Value} {cs : List Nat} (h : GaV w B b S kd gr ag links n vl cs) (hok : ∀ l ∈ links, OkP l.1 ∧ l.2.1 + l.1.size ≤ n) (hn : n ≤ 256) (hll : links.length ≤ 1000000) (hag : ag = true → links ≠ []) :
  Calls Try.prog 44 #[.pointer (some ⟨b, 0, none⟩)] w fun e w' => (∃ v, e = .returned v) ∧ PtAt w' (Sb B w'.heap.size) b (.mk kd gr (joinF (endE ag links) links).1 ag xad n (joinF (endE ag links) links).2) ∧ AcF B S w w' := by
 go_enter Try.func44, Try.ntmps44
 have hN := nothing_any w
 obtain ⟨x2, x3, x8, xf⟩ := h.cells
 have HP := hideT (And.intro h (And.intro hok (And.intro hn (And.intro hll hag))))
 clear h hok hn hll hag x8 xf
 go_wp2_with fail
 refine hN.mono ?_
 rintro e w1 ⟨rfl, hb1⟩
 have hcp := copy12 (w0 := w) (X := w1) (u := esU fun _ => true) hb1
 have HC := hideT (And.intro hcp (esU_one fun _ => true))
 have HB1 := hideT hb1
 clear hcp hN hb1
 go_upto_region 1 with (refine wpList_store_mid (by rfl) 85 _ _ (by rfl) w1.heap.size 0 (lst12 (esU fun _ => true)).toArray (by rfl) (by rfl) HC.out.1.1 (by rw [info_eds]; rfl) HC.out.2 ?_)
 obtain ⟨Y, hY⟩ : ∃ Y, Y = (w1.alloc z12).setCells w1.heap.size 0 (lst12 (esU fun _ => true)) := ⟨_, rfl⟩
 simp only [Act.put]
 show Code.wp _ _ _ _ ((w1.alloc z12).setCells w1.heap.size 0 (lst12 (esU fun _ => true)))
 rw [← hY]
 have HYB := hideT (show Below w.heap.size w Y by rw [hY]; exact HC.out.1.2.1)
 have HYE := hideT (show EdB Y B w1.heap.size noE by
  rw [hY]; exact ⟨_, HC.out.1.2.2.2, no_read _ _, rfl⟩)
 have HDw := hideT (show w.heap.size ≤ w1.heap.size from HB1.out.size)
 generalize w1.heap.size = D at *
 clear HC HB1 hY
 have y3 := keep_cell HYB.out x3
 have HX := hideT (And.intro x2 x3)
 clear x2 x3
 go_upto_if 11 with fail
 have HL0 := hideT (HX.out.1)
 go_cut [3, 4] from 8 to 62 (fun s3 s4 V => Hid (JnR w B b S kd gr ag links n vl cs (endE ag links) D links.length V))
 case first =>
  cases ag
  · have HN := hideT (JnR.start (es := endE false links) HP.out.1 HYB.out HYE.out HDw.out)
    go_wp2
    go_meet
    exact HN
  · have hne := HP.out.2.2.2.2 rfl
    have hlen : 0 < links.length := (List.length_pos_iff.2 hne)
    obtain ⟨m, hm⟩ : ∃ m, links.length = m + 1 := ⟨links.length - 1, by omega⟩
    obtain ⟨l, hl⟩ : ∃ l, links[m]? = some l := ⟨_, List.getElem?_eq_getElem (by omega)⟩
    obtain ⟨c, hc⟩ : ∃ c, cs[m]? = some c := ⟨_, List.getElem?_eq_getElem (by rw [HP.out.1.hl]; omega)⟩
    have hga := HP.out.1
    obtain ⟨g, cap, rfl, hcap⟩ := row_some hga.ol hlen
    have hlast : endE true links = (upE l).map fun e => ⟨true, e.fi, []⟩ := by
     unfold endE
     rw [cond_true, List.getLast?_eq_getElem?, show links.length - 1 = m by omega, hl]
    obtain ⟨vk, uk, kb, ke⟩ := (hga.kids m l c hl hc).core
    obtain ⟨a0, a1, a2, _⟩ := lkV_at hga.ol hl hc (by simp)
    have hokl := HP.out.2.1 l (List.mem_of_getElem? hl)
    have hBw : B ≤ w.heap.size := by have := hga.hb; have := hga.lt; omega
    have HB := hideT hBw
    have hbd : Below w.heap.size w Y.drew := HYB.out.trans (drew_below _ _)
    have hED := edges_any (w := Y.drew) (S := S) (keep_cell hbd a0) (keep_cell hbd a1) ((hbd.block c (Array.getElem?_eq_some_iff.1 kb).1).trans kb) (ke.keep (fun k hk => hbd.block k (hga.nS k hk).2.1) fun _ h => h) (fun k hk => Nat.lt_of_lt_of_le (hga.nS k hk).2.1 hbd.size) hokl.1.ed (by have := hokl.1.len; omega) (by have := HP.out.2.2.1; have := hokl.2; omega)
    have HU := hideT (And.intro hlast (show (upE l).length = 4 by rw [upE, List.length_map]; exact hokl.1.ed.len))
    rw [hm] at HL0
    have i1 : (m : Int) + 1 ≤ 2000000 := by have := HP.out.2.2.2.1; omega
    have i2 : (0 : Int) ≤ (m : Int) := by omega
    have HC := hideT (And.intro hm hcap)
    have H9 := hideT (show IntKind.i64.wrap (m : Int) = (m : Int) by exact IntWalk.i64_in _ (by omega))
    clear hne hlen hl hc hga hcap hlast kb ke a0 a1 a2 hokl hBw HX hm
    go_upto_region 2 with fail
    rename_i K2 hK2
    have hS0 : Y.drew.cell? ⟨b, 2, none⟩ = some (.slice (some ⟨g, 0, none⟩) (m + 1) cap) := keep_cell hbd HL0.out
    refine wp_region_held (S := fun V : World => V.cell? ⟨b, 2, none⟩ = some (.slice (some ⟨g, 0, none⟩) (m + 1) cap)) (by kernel_rfl) ?_
    refine tq 0 12 hS0 ?_
    refine tq 1 13 hS0 ?_
    refine tq 2 14 hS0 ?_
    refine tq 3 15 hS0 ?_
    refine tq 4 16 hS0 ?_
    refine tq 5 17 hS0 ?_
    refine tq 6 18 hS0 ?_
    refine tq 7 19 hS0 ?_
    refine tq 8 20 hS0 ?_
    refine tq (v := .int .i64 (m : Nat)) 9 21 hS0 ?_ (hy := fun V hV => by go_simp; (try rw [H9.out]); (try rfl))
    refine tq (v := .pointer (some ⟨g, m * 4, none⟩)) 10 22 hS0 ?_ (hy := fun V hV => by go_simp; (try (intro hh; exact absurd hh (by omega))); (try rfl))
    refine tq 12 24 hS0 ?_
    simp only [Act.put, List.setIfInBounds_toArray, List.set_cons_zero, List.set_cons_succ]
    refine wpAnyH_all (rs := [11]) (by kernel_rfl) (by simp) (fun j hj => ?_)
    obtain rfl : j = 11 := List.mem_singleton.1 hj
    clear hj
    refine op_call (R := fun v w2 => ∃ u', v = .agg (lst12 u').toArray ∧ EsR w2 (Sb Y.drew.heap.size w2.heap.size) u' (upE l) ∧ Below Y.drew.heap.size Y.drew w2) (f := 63) (some 23) rfl rfl (by rfl) (by go_simp; (try with_reducible rfl)) (hED.mono ?_) ?_
    · rintro e w2 ⟨u', rfl, h1, h2⟩
      exact ⟨_, rfl, u', rfl, h1, h2⟩
    rintro v w2 ⟨u', rfl, h1, h2⟩
    have hS2 := keep_cell h2 hS0
    have HS0 := hideT (show EdB w2 B D (endK l 0) ∧ Below w.heap.size w w2 ∧ EsR w2 (Sb B w2.heap.size) u' (upE l) ∧ Hid (D ≠ D → False) from ⟨HYE.out.below ((drew_below _ _).trans h2), hbd.trans (h2.mono hbd.size), ⟨h1.no, fun k hk => (h1.fi k hk).sub fun g hg => ⟨Nat.le_trans HB.out (Nat.le_trans hbd.size hg.1), hg.2⟩, fun k hk => (h1.la k hk).sub fun g hg => ⟨Nat.le_trans HB.out (Nat.le_trans hbd.size hg.1), hg.2⟩⟩, fun h => h rfl⟩)
    refine ⟨hS2, ?_⟩
    clear hED hS0 h1 h2 hbd
    simp only [Act.put, List.setIfInBounds_toArray, List.set_cons_zero, List.set_cons_succ]
    refine wpAnyH_done (by kernel_rfl) (hK2 _ _ ?_) _
    clear hS2 hK2 HYB HYE
    go_wp2_with fail
    go_loopw [24, 3, 4] (fun s24 s3 s4 wr => ∃ k : Nat, k ≤ 4 ∧ s24 = .int .i64 k ∧ Hid (EdB wr B D (endK l k) ∧ Below w.heap.size w wr ∧ EsR wr (Sb B wr.heap.size) u' (upE l))) (fun s24 _ _ _ => (4 - intOf s24).toNat)
    case atStart => exact ⟨0, by omega, rfl, HS0.out.1, HS0.out.2.1, HS0.out.2.2.1⟩
    case round =>
     obtain ⟨k, hk, rfl, HR⟩ := hrel
     by_cases hlt : k < 4
     · have j1 : (k : Int) < 4 := by omega
       have j2 : (0 : Int) ≤ (k : Int) := by omega
       have HI := hideT hlt
       have hcp := copy3 (X := wr) (u' (k * 3)) (u' (k * 3 + 1)) (u' (k * 3 + 2))
       have one3 : (#[u' (k * 3), u' (k * 3 + 1), u' (k * 3 + 2)] : Array Value).all (·.oneCell') = true := by
        simp [HR.out.2.2.one (show k * 3 < 12 by omega), HR.out.2.2.one (show k * 3 + 1 < 12 by omega), HR.out.2.2.one (show k * 3 + 2 < 12 by omega)]
       obtain ⟨fa, fc, huf⟩ := (HR.out.2.2.fi k hlt).shape
       go_upto_region 4 with fail
       rename_i K4 hK4
       refine wp_region_lit (l := [_, _, _, _, _]) ?_
       refine wl_value (v := .int .i64 (k : Nat)) (w' := wr) rfl (by go_simp; (try with_reducible rfl)) ?_
       refine wl_value (v := .agg #[u' (k * 3), u' (k * 3 + 1), u' (k * 3 + 2)]) (w' := wr) rfl (by
        clear HR hcp one3 huf hK4 j1 j2 HI
        match k, hlt with
        | 0, _ => rfl
        | 1, _ => rfl
        | 2, _ => rfl
        | 3, _ => rfl) ?_
       refine wl_value (v := .pointer (some ⟨wr.heap.size, 0, none⟩)) (w' := wr.alloc (.cells #[.bool false, .slice none 0 0, .slice none 0 0] 83)) rfl (by go_simp; (try rfl)) ?_
       refine wl_value (v := .int .i64 (k : Nat)) (w' := wr.alloc (.cells #[.bool false, .slice none 0 0, .slice none 0 0] 83)) rfl (by go_simp; (try with_reducible rfl)) ?_
       simp only [Act.put, List.setIfInBounds_toArray, List.set_cons_zero, List.set_cons_succ]
       refine wpList_store_mid rfl 83 _ _ rfl wr.heap.size 0 #[u' (k * 3), u' (k * 3 + 1), u' (k * 3 + 2)] rfl rfl hcp.1 (by rw [info_ed]; rfl) one3 ?_
       refine wpList_nil (hK4 _ _ ?_)
       simp only [Act.put]
       show Code.wp _ _ _ _ ((wr.alloc (.cells #[.bool false, .slice none 0 0, .slice none 0 0] 83)).setCells wr.heap.size 0 [u' (k * 3), u' (k * 3 + 1), u' (k * 3 + 2)])
       have hEZ := HR.out.1.below hcp.2.1
       have hbZ := HR.out.2.1.trans (hcp.2.1.mono HR.out.2.1.size)
       have hrZ := HR.out.2.2.grow hcp.2.1 (Nat.le_refl _)
       have z1 := (cells_at (cs := [u' (k * 3), u' (k * 3 + 1), u' (k * 3 + 2)]) hcp.2.2 (j := 1) rfl).1
       have HNE := hideT (show wr.heap.size ≠ D by have := HR.out.1.lt; omega)
       clear hcp one3 hK4 HR
       generalize (wr.alloc (.cells #[.bool false, .slice none 0 0, .slice none 0 0] 83)).setCells wr.heap.size 0 [u' (k * 3), u' (k * 3 + 1), u' (k * 3 + 2)] = Z at *
       generalize wr.heap.size = mm at *
       obtain ⟨vf, vx, m0, m1, m2, rf, rl, mf⟩ := hEZ.cells hlt
       have f1 := mf (k * 3 + 1)
       have hset := hEZ.setFi hlt (hrZ.fi k hlt)
       rw [endK_step l hlt] at hset
       have hDb : w.heap.size ≤ D := HDw.out
       have HN := hideT (show EdB (Z.setCell ⟨D, k * 3 + 1, none⟩ (u' (k * 3 + 1))) B D (endK l (k + 1)) ∧ Below w.heap.size w (Z.setCell ⟨D, k * 3 + 1, none⟩ (u' (k * 3 + 1))) ∧ EsR (Z.setCell ⟨D, k * 3 + 1, none⟩ (u' (k * 3 + 1))) (Sb B (Z.setCell ⟨D, k * 3 + 1, none⟩ (u' (k * 3 + 1))).heap.size) u' (upE l) from ⟨hset, hbZ.setCell (p := ⟨D, k * 3 + 1, none⟩) hDb _, by
        obtain ⟨uu, hu1, _⟩ := hEZ
        rw [show (Z.setCell ⟨D, k * 3 + 1, none⟩ (u' (k * 3 + 1))).heap.size = Z.heap.size by simp]
        exact hrZ.far hu1 (by decide) fun g hg => Below.heap_setCell Z ⟨D, k * 3 + 1, none⟩ _ g hg⟩)
       rw [huf] at z1 HN
       clear hEZ hbZ hrZ m0 m2 rf rl mf hset hDb hlt hk
       go_wp2_with fail
       exact ⟨⟨k + 1, HI.out, by go_num, HN⟩, by simp [intOf]; have := HI.out; omega⟩
     · obtain rfl : k = 4 := by omega
       have HN := hideT (JnR.start (es := endE true links) HP.out.1 HR.out.2.1 (by rw [HU.out.1, ← endK_all l HU.out.2]; exact HR.out.1) HDw.out)
       go_wp2_with fail
       go_meet
       exact HN
 case rest =>
  have HR0 := hcut
  clear hcut HYB HYE
  obtain ⟨va, vc, hvl⟩ := row_shape HP.out.1.ol
  subst hvl
  have w2 : wc.cell? ⟨b, 2, none⟩ = some (.slice va links.length vc) := (cells_at HR0.out.blk (j := 2) rfl).1
  have HH := hideT (show IntKind.i64.wrap ((links.length : Int) - 1) = (links.length : Int) - 1 by have := HP.out.2.2.2.1; exact IntWalk.i64_in _ (by omega))
  clear HX HL0
  obtain ⟨L, hL⟩ : ∃ L, L = links.length := ⟨_, rfl⟩
  rw [← hL] at w2 HH
  have HL := hideT hL
  clear hL
  go_wp2_with fail
  go_loopw [5, 6] (fun s5 s6 wr => ∃ k : Nat, k ≤ L ∧ s5 = .int .i64 ((k : Int) - 1) ∧ Hid (JnR w B b S kd gr ag links n (.slice va links.length vc) cs (endE ag links) D k wr)) (fun s5 _ _ => (intOf s5 + 1).toNat)
  case atStart => exact ⟨L, by omega, by exact congrArg (Value.int IntKind.i64) (IntWalk.wrap64_in _ (by have := HP.out.2.2.2.1; have := HL.out; omega)), by rw [HL.out]; exact HR0⟩
  case round =>
   obtain ⟨k, hk, rfl, HR⟩ := hrel
   clear w2 HR0
   rcases Nat.eq_zero_or_pos k with rfl | hpos
   · have hbb := HR.out.blk
     obtain ⟨ur, hur, hue, _⟩ := HR.out.beh
     have HF := hideT (HR.out.done HP.out.1 hur (by simpa using hue))
     have c0 := (cells_at hur (lst12_get ur (j := 0) (by decide))).1
     have c1 := (cells_at hur (lst12_get ur (j := 1) (by decide))).1
     have c2 := (cells_at hur (lst12_get ur (j := 2) (by decide))).1
     have c3 := (cells_at hur (lst12_get ur (j := 3) (by decide))).1
     have c4 := (cells_at hur (lst12_get ur (j := 4) (by decide))).1
     have c5 := (cells_at hur (lst12_get ur (j := 5) (by decide))).1
     have c6 := (cells_at hur (lst12_get ur (j := 6) (by decide))).1
     have c7 := (cells_at hur (lst12_get ur (j := 7) (by decide))).1
     have c8 := (cells_at hur (lst12_get ur (j := 8) (by decide))).1
     have c9 := (cells_at hur (lst12_get ur (j := 9) (by decide))).1
     have c10 := (cells_at hur (lst12_get ur (j := 10) (by decide))).1
     have c11 := (cells_at hur (lst12_get ur (j := 11) (by decide))).1
     have hall := hue.all
     have hth : wr.there b 9 12 := part_there hbb
     clear HR hbb hur hue
     go_wp2_with (refine wpList_store_mid (by rfl) 85 _ _ (by rfl) b 9 (lst12 ur).toArray (by rfl) (by rfl) hth (by rw [info_eds]; rfl) hall ?_)
     generalize wr.setCells b 9 (lst12 ur) = X at *
     go_end0
     exact ⟨⟨_, rfl⟩, HF.out.1, HF.out.2⟩
   · obtain ⟨i, rfl⟩ : ∃ i, k = i + 1 := ⟨k - 1, by omega⟩
     have hiL : i < links.length := by have := HL.out; omega
     obtain ⟨g, cap, hvl, hcap⟩ := row_some HP.out.1.ol (by omega)
     cases hvl
     obtain ⟨l, hl⟩ : ∃ l, links[i]? = some l := ⟨_, List.getElem?_eq_getElem hiL⟩
     obtain ⟨c, hc⟩ : ∃ c, cs[i]? = some c := ⟨_, List.getElem?_eq_getElem (by rw [HP.out.1.hl]; exact hiL)⟩
     have hok := HP.out.2.1 l (List.mem_of_getElem? hl)
     have e2 : wr.cell? ⟨b, 2, none⟩ = some (.slice (some ⟨g, 0, none⟩) links.length vc) := (cells_at HR.out.blk (j := 2) rfl).1
     obtain ⟨us, hus, hrow, hrr⟩ := HR.out.row
     obtain ⟨a0, a1, a2, av, a3, af⟩ := lkV_at hrow hl hc hus
     obtain ⟨vf, vx, m0, m1, m2, rf, rl, mf⟩ := HR.out.beh.cells (k := 0) (by decide)
     have hgn : ∀ k, S k → k ≠ g := fun k hk e => (HP.out.1.nS k hk).2.2.2 (by rw [e]; rfl)
     have hst := HR.out.store hiL HP.out.1.hl hgn rf
     obtain ⟨fa, fc, hff⟩ := rf.shape
     subst hff
     have hgD : g ≠ D := fun e => by
      obtain ⟨_, _, cur, hcur⟩ := row_blk hrow (g := g) rfl
      obtain ⟨ud, hud, _⟩ := HR.out.beh
      rw [e, hud] at hcur; cases hcur
     have j1 : (i : Int) < (links.length : Int) := by omega
     have j2 : (0 : Int) ≤ (i : Int) := by omega
     have j3 : (links.length : Int) ≤ 2000000 := by have := HP.out.2.2.2.1; omega
     have e1 : (((i + 1 : Nat) : Int) - 1) = (i : Int) := by omega
     have HST := hideT hst
     have HI := hideT (And.intro hiL (And.intro hl (And.intro hc hok)))
     have HSL := hideT (fun (k : Nat) (hk : S k) => (⟨Nat.lt_of_lt_of_le (HP.out.1.nS k hk).2.1 hst.2.2.2.size, by have := (HP.out.1.nS k hk).2.1; have := HDw.out; omega⟩ : k < (wr.setCell ⟨g, i * 4 + 3, none⟩ (.slice fa (eat (joinF (endE ag links) (links.drop (i + 1))).2 0).fi.length fc)).heap.size ∧ k ≠ D))
     have HKP := hideT (JnR.kid hst.2.2.2 HP.out.1 hl hc)
     have HNE := hideT HR.out.ne
     rw [e1]
     clear hst hgn hrow hus hrr us hok hl hc hiL hpos hk rf rl m0 m2 mf hgD HR
     go_upto_region 12 with fail
     generalize wr.setCell ⟨g, i * 4 + 3, none⟩ (.slice fa (eat (joinF (endE ag links) (links.drop (i + 1))).2 0).fi.length fc) = Z at *
     clear a0 a1 a2 a3 af m1 e2
     obtain ⟨us, hus, hrow, hrr⟩ := HST.out.2.2.1
     obtain ⟨ur, hur, hue, hul⟩ := HST.out.2.1
     obtain ⟨vk, uk, kb, ke⟩ := HKP.out.core
     obtain ⟨a0, a1, a2, a3⟩ := lkV_at hrow HI.out.2.1 HI.out.2.2.1 hus
     have hke : ∀ x ∈ links, EsOk x.1.size x.1.eds ∧ x.2.1 + x.1.size ≤ n := fun x hx => ⟨(HP.out.2.1 x hx).1.ed, (HP.out.2.1 x hx).2⟩
     have hjo := join_ok (end_ok (ag := ag) hke) (links.drop (i + 1)) fun x hx => hke x (List.mem_of_mem_drop hx)
     have hbase := HI.out.2.2.2.2
     have hA := ahead_any (w := Z) (n := n) a0 a1 a2 kb ke (fun k hk => (HSL.out k hk).1) (HI.out.2.2.2.1.ed.mono (by omega)) hue (fun k hk => hk.2) hjo (by have := HP.out.2.2.1; omega)
     have c0 := (cells_at hur (lst12_get ur (j := 0) (by decide))).1
     have c1 := (cells_at hur (lst12_get ur (j := 1) (by decide))).1
     have c2 := (cells_at hur (lst12_get ur (j := 2) (by decide))).1
     have c3 := (cells_at hur (lst12_get ur (j := 3) (by decide))).1
     have c4 := (cells_at hur (lst12_get ur (j := 4) (by decide))).1
     have c5 := (cells_at hur (lst12_get ur (j := 5) (by decide))).1
     have c6 := (cells_at hur (lst12_get ur (j := 6) (by decide))).1
     have c7 := (cells_at hur (lst12_get ur (j := 7) (by decide))).1
     have c8 := (cells_at hur (lst12_get ur (j := 8) (by decide))).1
     have c9 := (cells_at hur (lst12_get ur (j := 9) (by decide))).1
     have c10 := (cells_at hur (lst12_get ur (j := 10) (by decide))).1
     have c11 := (cells_at hur (lst12_get ur (j := 11) (by decide))).1
     have HJ := hideT (And.intro hjo hur)
     clear hus hrow hrr us hur hue hul kb ke a0 a1 a2 a3 hke hjo hbase
     go_wp2_with fail
     refine hA.mono ?_
     rintro e w2 ⟨u2, rfl, h1, h2⟩
     clear c0 c1 c2 c3 c4 c5 c6 c7 c8 c9 c10 c11 hA
     have hDZ : D < Z.heap.size := (Array.getElem?_eq_some_iff.1 HJ.out.2).1
     have hth : w2.there D 0 12 := there_block (cs := lst12 ur) ((h2.block D hDZ).trans HJ.out.2) 12 rfl
     have hjd : (joinF (endE ag links) (links.drop i)).2 = List.zipWith (aheadE l.2.2.1) (upE l) (joinF (endE ag links) (links.drop (i + 1))).2 := by rw [drop_at HI.out.2.1]; rfl
     have HN := hideT (JnR.round (u := u2) HST.out HSL.out HNE.out h2 (by have := HNE.out.2.1; omega) (by rw [hjd]; exact h1) (by rw [hjd, List.length_zipWith, upE, List.length_map, HI.out.2.2.2.1.ed.len, HJ.out.1.len]; rfl))
     have HS := hideT (And.intro hth h1.all)
     have HIL := hideT HI.out.1
     clear hth hjd hDZ h1 h2 HJ HST HSL HKP HI
     go_upto_region 9 with (refine wpList_store_mid (by rfl) 85 _ _ (by rfl) D 0 (lst12 u2).toArray (by rfl) (by rfl) HS.out.1 (by rw [info_eds]; rfl) HS.out.2 ?_)
     clear HS
     simp only [Act.put]
     show Code.wp _ _ _ _ (w2.setCells D 0 (lst12 u2))
     generalize w2.setCells D 0 (lst12 u2) = V at *
     go_wp2_with fail
     exact ⟨⟨i, by have := HIL.out; have := HL.out; omega, rfl, HN⟩, by simp [intOf]⟩
end Go.Proofs.Ytolpakpdkheanaa.tly
