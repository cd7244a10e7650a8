/- SameList of lists that are not alike; the walk of ShowOnes. -/
import Derived.Test.YtidgnebbibkmhaaGreatDoorKSw5
import Derived.Test.YtidgnebbibkmhaaGreatDoorKSq1
import Derived.Test.YtidgnebbibkmhaaGreatDoorKSq2
set_option maxRecDepth 100000
set_option maxHeartbeats 4000000
namespace Go.Proofs.YtidgnebbibkmhaaGreatDoor
open Go.RowKit
open scanP scrP tpl ytb
namespace sho
theorem same_n3 (c d : Co) (pv qv : Value) (W : World) (h : PRow W pv c.ps) (h' : PRow W qv d.ps) (hps : d.ps ≠ c.ps) (hl : c.ps.length ≤ 1000000000000000) (hl' : d.ps.length ≤ 1000000000000000) : Calls Tryz.prog 17 #[.agg (coV c pv).toArray, .agg (coV d qv).toArray, .bool false] W fun e w' => e = .returned (.bool false) ∧ Below W.heap.size W w' := by
 have HH := hideT (And.intro h h')
 have HL := hideT (And.intro hl hl')
 clear h h' hl hl'
 go_enter Tryz.func17, Tryz.ntmps17
 go_upto_region 1 with fail
 have hb : Below W.heap.size W ((W.alloc (.cells (coV c pv).toArray 39)).alloc (.cells (coV d qv).toArray 39)) := ((Below.refl _ _).alloc (Nat.le_refl _) _).alloc (by simp) _
 have hk1 : CmAt ((W.alloc (.cells (coV c pv).toArray 39)).alloc (.cells (coV d qv).toArray 39)) W.heap.size (coV c pv) := (Below.heap_alloc _ _ _ (by simp)).trans (heap_alloc_new W _)
 have hk2 : CmAt ((W.alloc (.cells (coV c pv).toArray 39)).alloc (.cells (coV d qv).toArray 39)) (W.heap.size + 1) (coV d qv) := by
  have h1 := heap_alloc_new (W.alloc (.cells (coV c pv).toArray 39)) (.cells (coV d qv).toArray 39)
  rw [World.size_alloc] at h1
  exact h1
 obtain ⟨X, hX⟩ : ∃ X, X = ((W.alloc (.cells (coV c pv).toArray 39)).alloc (.cells (coV d qv).toArray 39)) := ⟨_, rfl⟩
 rw [← hX] at hb hk1 hk2 ⊢
 obtain ⟨N, hN⟩ : ∃ N, N = W.heap.size := ⟨_, rfl⟩
 rw [← hN] at hk1 hk2 ⊢
 have HXB := hideT hb
 have HX1 := hideT hk1
 have HX2 := hideT hk2
 have p1 := hk1.cell 13 (v := pv) rfl
 have p2 := hk2.cell 13 (v := qv) rfl
 have HPA := hideT (HH.out.1.stay hb (Nat.le_refl _))
 have HPB := hideT (HH.out.2.stay hb (Nat.le_refl _))
 have HNN := hideT hN
 clear hX hb hk1 hk2 hN
 have HPS := hideT (parts_not pv qv c.ps d.ps X HPA.out HPB.out (Ne.symm hps) (by have := HL.out; omega) (by have := HL.out; omega))
 clear hps
 go_wp2_with fail
 refine HPS.out.mono ?_
 rintro e w1 ⟨rfl, hb1⟩
 have HF := hideT (HXB.out.trans (hb1.mono HXB.out.size))
 clear hb1 p1 p2 HPS
 go_wp2
 go_ret
 exact ⟨rfl, HF.out⟩
theorem same_not (c d : Co) (pv qv : Value) (W : World) (h : PRow W pv c.ps) (h' : PRow W qv d.ps) (he : nfC d ≠ nfC c) (hl : c.ps.length ≤ 1000000000000000) (hl' : d.ps.length ≤ 1000000000000000) : Calls Tryz.prog 17 #[.agg (coV c pv).toArray, .agg (coV d qv).toArray, .bool false] W fun e w' => e = .returned (.bool false) ∧ Below W.heap.size W w' := by
 by_cases hps : d.ps = c.ps
 ·by_cases hq : d.a.k = c.a.k ∧ d.a.ln = c.a.ln ∧ d.a.re = c.a.re ∧ d.b.k = c.b.k ∧ d.b.ln = c.b.ln ∧ d.b.re = c.b.re ∧ d.nt = c.nt ∧ d.nm = c.nm
  ·exact same_n2 c d pv qv W h h' hps hq he hl hl'
  ·exact same_n1 c d pv qv W h h' hps hq hl hl'
 ·exact same_n3 c d pv qv W h h' hps hl hl'
theorem nf_pl {c d : Co} (h : nfC d = nfC c) : ∃ q, d = { c with pl := q } := ⟨d.pl, by
 obtain ⟨p1, p2, p3, p4, p5, p6, p7, p8, p9, p10, p11, p12, p13, p14, p15⟩ := d
 obtain ⟨q1, q2, q3, q4, q5, q6, q7, q8, q9, q10, q11, q12, q13, q14, q15⟩ := c
 simp only [nfC, Co.mk.injEq, true_and] at h ⊢
 exact h⟩
theorem sameList_not (a b : Value) (l m : List Co) (W : World) (ha : CRow W a l) (hb : CRow W b m) (hm : m.map nfC ≠ l.map nfC) (hp : ∀ c ∈ l, c.ps.length ≤ 1000000000000000) (hq : ∀ c ∈ m, c.ps.length ≤ 1000000000000000) (hl : l.length ≤ 100000000) : Calls Tryz.prog 15 #[a, b, .bool false] W fun e w' => e = .returned (.bool false) ∧ Below W.heap.size W w' := by
 obtain ⟨pa, ca, rfl, ha⟩ := ha
 obtain ⟨pb, cb, rfl, hb⟩ := hb
 by_cases hml : m.length = l.length
 rotate_left
 ·have n1 : ((l.length : Int) != (m.length : Int)) = true := by simp; omega
  have n2 : ((l.length : Int) == (m.length : Int)) = false := by simp; omega
  go_enter Tryz.func15, Tryz.ntmps15
  go_wp2
  go_ret
  exact ⟨rfl, Below.refl _ _⟩
 rw [hml]
 have HM := hideT hm
 have HML := hideT hml
 have HQ := hideT hq
 clear hm hml hq
 have HA := hideT ha
 have HB := hideT hb
 have HP := hideT hp
 clear ha hb hp
 go_enter Tryz.func15, Tryz.ntmps15
 go_wp2_with fail
 go_loopw [7] (fun i wr => ∃ k : Nat, k ≤ l.length ∧ i = .int .i64 k ∧ Hid ((m.take k).map nfC = (l.take k).map nfC) ∧ Hid (Below W.heap.size W wr)) (fun i _ => l.length - (intOf i).toNat)
 case atStart => exact ⟨0, by omega, rfl, hideT (by simp), hideT (Below.refl _ _)⟩
 case round =>
  obtain ⟨k, hk, rfl, HT, HW⟩ := hrel
  by_cases hlt : k < l.length
  ·obtain ⟨g, o, pv, rfl, a1, u1⟩ := HA.out k _ (List.getElem?_eq_getElem hlt)
   have hlm : k < m.length := by have := HML.out; omega
   obtain ⟨g2, o2, qv, rfl, b1, u2⟩ := HB.out k _ (List.getElem?_eq_getElem hlm)
   have hpk := HP.out _ (List.getElem_mem hlt)
   have hqk := HQ.out _ (List.getElem_mem hlm)
   have HN : Hid (nfC (m[k]'hlm) = nfC (l[k]'hlt) → (m.take (k + 1)).map nfC = (l.take (k + 1)).map nfC) := hideT (fun h => by
    rw [List.take_succ_eq_append_getElem hlt, List.take_succ_eq_append_getElem hlm, List.map_append, List.map_append, HT.out]
    simp only [List.map_cons, List.map_nil, h])
   generalize (l[k]'hlt) = c at *
   generalize (m[k]'hlm) = d at *
   have i1 : (k : Int) < (l.length : Int) := by omega
   have i2 : (0 : Int) ≤ (k : Int) := by omega
   have q1 := xdr a1 (HW.out.block g (xic a1))
   have q2 := xdr b1 (HW.out.block g2 (xic b1))
   have HR1 := hideT (fun (V : World) (hV : Below wr.heap.size wr V) => xdr q1 (hV.block g (xic q1)))
   have HR2 := hideT (fun (V : World) (hV : Below wr.heap.size wr V) => xdr q2 (hV.block g2 (xic q2)))
   have s0 : Below wr.heap.size wr wr.drew := (Below.refl _ _).drew
   obtain ⟨r, hr, hS⟩ : ∃ r : Bool, (r = true → nfC d = nfC c) ∧ Calls Tryz.prog 17 #[.agg (coV c pv).toArray, .agg (coV d qv).toArray, .bool false] wr.drew fun e w' => e = .returned (.bool r) ∧ Below wr.drew.heap.size wr.drew w' := by
    have v1 := (u1.stay HW.out (Nat.le_refl _)).stay s0 (Nat.le_refl _)
    have v2 := (u2.stay HW.out (Nat.le_refl _)).stay s0 (Nat.le_refl _)
    by_cases h : nfC d = nfC c
    ·obtain ⟨q, rfl⟩ := nf_pl h
     exact ⟨true, fun _ => h, same_cmd c q pv qv wr.drew v1 v2 hpk⟩
    ·exact ⟨false, (fun h => nomatch h), same_not c d pv qv wr.drew v1 v2 h hpk hqk⟩
   have HS := hideT hS
   have HRR := hideT hr
   clear a1 b1 u1 u2 hpk hqk q1 q2 hS hr
   go_wp2_with fail
   refine wp_region_held (S := fun V => Below wr.heap.size wr V) (by kernel_rfl) ?_
   refine' take_d 0 (some 19) rfl rfl (by kernel_rfl) (by kernel_rfl) (by kernel_rfl) (fun _ _ _ h => h) (wanted_none rfl _) s0 ?tk1 ?rs1
   case tk1 => intro V hV; go_simp; (try with_reducible rfl)
   refine' take_d 1 (some 20) rfl rfl (by kernel_rfl) (by kernel_rfl) (by kernel_rfl) (fun _ _ _ h => h) (wanted_none rfl _) s0 ?tk2 ?rs2
   case tk2 => intro V hV; go_simp; (try with_reducible rfl)
   refine' take_d 2 (some 21) rfl rfl (by kernel_rfl) (by kernel_rfl) (by kernel_rfl) (fun _ _ _ h => h) (wanted_none rfl _) s0 ?tk3 ?rs3
   case tk3 => intro V hV; go_simp; (try with_reducible rfl)
   simp only [Act.put, List.setIfInBounds_toArray, List.set_cons_zero, List.set_cons_succ]
   refine' take_d 3 (some 22) rfl rfl (by kernel_rfl) (by kernel_rfl) (by kernel_rfl) (fun _ _ _ h => h) (wanted_none rfl _) s0 ?tk4 ?rs4
   case tk4 => intro V hV; exact load_yield rfl rfl (HR1.out V hV)
   refine' take_d 4 (some 23) rfl rfl (by kernel_rfl) (by kernel_rfl) (by kernel_rfl) (fun _ _ _ h => h) (wanted_none rfl _) s0 ?tk5 ?rs5
   case tk5 => intro V hV; go_simp; (try with_reducible rfl)
   refine' take_d 5 (some 24) rfl rfl (by kernel_rfl) (by kernel_rfl) (by kernel_rfl) (fun _ _ _ h => h) (wanted_none rfl _) s0 ?tk6 ?rs6
   case tk6 => intro V hV; go_simp; (try with_reducible rfl)
   refine' take_d 6 (some 25) rfl rfl (by kernel_rfl) (by kernel_rfl) (by kernel_rfl) (fun _ _ _ h => h) (wanted_none rfl _) s0 ?tk7 ?rs7
   case tk7 => intro V hV; go_simp; (try with_reducible rfl)
   simp only [Act.put, List.setIfInBounds_toArray, List.set_cons_zero, List.set_cons_succ]
   refine' take_d 7 (some 26) rfl rfl (by kernel_rfl) (by kernel_rfl) (by kernel_rfl) (fun _ _ _ h => h) (wanted_none rfl _) s0 ?tk8 ?rs8
   case tk8 => intro V hV; exact load_yield rfl rfl (HR2.out V hV)
   refine' take_d 8 (some 27) rfl rfl (by kernel_rfl) (by kernel_rfl) (by kernel_rfl) (fun _ _ _ h => h) (wanted_none rfl _) s0 ?tk9 ?rs9
   case tk9 => intro V hV; go_simp; (try with_reducible rfl)
   simp only [Act.put, List.setIfInBounds_toArray, List.set_cons_zero, List.set_cons_succ]
   refine wpAnyH_all (rs := [9]) (by kernel_rfl) (by simp) (fun i hi => ?_)
   obtain rfl : i = 9 := List.mem_singleton.1 hi
   refine xp8 (some 28) rfl rfl (wanted_none rfl _) (by go_simp; (try with_reducible rfl)) (R := fun v w' => v = .bool r ∧ Below wr.heap.size wr w') (HS.out.mono (fun e w' h => ⟨_, h.1, rfl, s0.trans (h.2.mono s0.size)⟩)) ?_
   rintro v8 w8 ⟨rfl, hb8⟩
   refine And.intro hb8 ?_
   refine' take_d 10 (some 29) rfl rfl (by kernel_rfl) (by kernel_rfl) (by kernel_rfl) (fun _ _ _ h => h) (wanted_none rfl _) hb8 ?tk10 ?rs10
   case tk10 => intro V hV; go_simp; (try with_reducible rfl)
   refine wpAnyH_done (by kernel_rfl) ?_ _
   simp only [Act.put, List.setIfInBounds_toArray, List.set_cons_zero, List.set_cons_succ]
   have HF := hideT (HW.out.trans (hb8.mono HW.out.size))
   clear hb8 s0 HS HR1 HR2
   cases r
   ·go_wp2
    go_ret
    exact ⟨rfl, HF.out⟩
   ·go_wp2
    exact ⟨⟨k + 1, by omega, by go_num, hideT (HN.out (HRR.out rfl)), HF⟩, by simp [intOf]; omega⟩
  ·obtain rfl : k = l.length := by omega
   exact absurd (by have := HT.out; rwa [List.take_length, ← HML.out, List.take_length] at this) HM.out
end sho
end Go.Proofs.YtidgnebbibkmhaaGreatDoor
namespace Go.Proofs.YtidgnebbibkmhaaGreatDoor
open Go.RowKit
open scanP scrP tpl ytb
theorem CRow.stay {W W' : World} {v : Value} {l : List Co} (h : CRow W v l) (hb : Below W.heap.size W W') : CRow W' v l := by
 obtain ⟨a, cp, e, h⟩ := h
 refine ⟨a, cp, e, fun k c hc => ?_⟩
 obtain ⟨g, o, pv, h1, h2, h3⟩ := h k c hc
 exact ⟨g, o, pv, h1, fun j u hu => (hb.cell (p := ⟨g, _, none⟩) (cell_lt (h2 j u hu))).trans (h2 j u hu), h3.stay hb (Nat.le_refl _)⟩
namespace sho
theorem ones_any (s t : ByteArray) (hs : s.size ≤ 140737488355000) (ht : t.size ≤ 140737488355000) (w : World) (hg : Gl w) (hG : Gs w) (hw : 2 < w.heap.size) : Calls Tryz.prog 6 #[.string s, .string t] w fun e w' => e = .returned (.bool true) ∧ Below w.heap.size w w' := by
 have HE := hideT (fun V (hV : Below w.heap.size w V) => And.intro (hg.stay (F := fun _ => False) (Tch.of hV) (fun k h => h.elim)) (And.intro (hG.below hV hw) (Nat.lt_of_lt_of_le hw hV.size)))
 have HAW := hideT (awake_any w hg hG hw)
 have HO := hideT (show_ones (G := gM) (a := s.data.toList) (b := t.data.toList))
 have HZ := hideT (And.intro (scr_sz (G := gM) (l := s.data.toList)) (scr_sz (G := gM) (l := t.data.toList)))
 have HY := hideT (And.intro (shR_ok (G := gM) (l := s.data.toList)) (shR_ok (G := gM) (l := t.data.toList)))
 have HS1 := hideT (fun V (hV : Below w.heap.size w V) => show_any s hs V (HE.out V hV).1 (HE.out V hV).2.1 (HE.out V hV).2.2)
 have HS2 := hideT (fun V (hV : Below w.heap.size w V) => show_any t ht V (HE.out V hV).1 (HE.out V hV).2.1 (HE.out V hV).2.2)
 have HP1 := hideT (fun V (hV : Below w.heap.size w V) => parse_reads s hs V (HE.out V hV).1)
 have HP2 := hideT (fun V (hV : Below w.heap.size w V) => parse_reads t ht V (HE.out V hV).1)
 clear hg hG HE
 generalize s.data.toList = A at *
 generalize t.data.toList = B at *
 generalize hA : shR gM A = SA at *
 generalize hB : shR gM B = SB at *
 generalize hPA : scrR gM A = PA at *
 generalize hPB : scrR gM B = PB at *
 have HZA := hideT (show SA.2.1 = 0 → (∀ c ∈ PA.1, SzC c) ∧ PA.1.length ≤ 4097 from fun h => HZ.out.1 (HY.out.1 h).1)
 have HZB := hideT (show SB.2.1 = 0 → (∀ c ∈ PB.1, SzC c) ∧ PB.1.length ≤ 4097 from fun h => HZ.out.2 (HY.out.2 h).1)
 clear HZ HY hA hB hPA hPB
 obtain ⟨x, e1, p1⟩ := SA
 obtain ⟨y, e2, p2⟩ := SB
 obtain ⟨cs, q, e3, p3⟩ := PA
 obtain ⟨ds, r, e4, p4⟩ := PB
 simp only at HS1 HS2 HP1 HP2 HO HZA HZB
 go_enter Tryz.func6, Tryz.ntmps6
 go_wp2_with fail
 refine HAW.out.mono ?_
 rintro e w1 ⟨rfl, hb1⟩
 have H1 := hideT hb1
 clear hb1 HAW
 go_wp2_with fail
 refine (HS1.out w1 H1.out).mono ?_
 rintro e w2 ⟨rfl, hb2⟩
 have hA := (Below.refl w2.heap.size w2).alloc (Nat.le_refl _) (.cells #[.int .i64 (e1 : Nat), .int .i64 (p1 : Nat)] 29)
 have hn := heap_alloc_new w2 (.cells #[.int .i64 (e1 : Nat), .int .i64 (p1 : Nat)] 29)
 have H2 := hideT (((H1.out.trans (hb2.mono H1.out.size))).trans (hA.mono (H1.out.trans (hb2.mono H1.out.size)).size))
 have HN := hideT (And.intro hn (Array.getElem?_eq_some_iff.1 hn).1)
 clear hA hn hb2 H1 HS1
 go_upto_region 4 with fail
 generalize w2.alloc (.cells #[.int .i64 (e1 : Nat), .int .i64 (p1 : Nat)] 29) = X at *
 go_wp2_with fail
 refine (HS2.out X H2.out).mono ?_
 rintro e w3 ⟨rfl, hb3⟩
 have hA := (Below.refl w3.heap.size w3).alloc (Nat.le_refl _) (.cells #[.int .i64 (e2 : Nat), .int .i64 (p2 : Nat)] 29)
 have hn := heap_alloc_new w3 (.cells #[.int .i64 (e2 : Nat), .int .i64 (p2 : Nat)] 29)
 have HXY := hideT (hb3.trans (hA.mono hb3.size))
 have HM := hideT (And.intro hn (Array.getElem?_eq_some_iff.1 hn).1)
 clear hA hn hb3 HS2
 go_upto_region 5 with fail
 generalize w3.alloc (.cells #[.int .i64 (e2 : Nat), .int .i64 (p2 : Nat)] 29) = Y at *
 have HB3 := hideT (H2.out.trans (HXY.out.mono H2.out.size))
 have HN1 := hideT (And.intro ((HXY.out.block _ HN.out.2).trans HN.out.1) (Nat.lt_of_lt_of_le HN.out.2 HXY.out.size))
 clear HN HXY H2
 go_wp2_with fail
 refine (HP1.out Y HB3.out).mono ?_
 rintro e w4 ⟨v4, rfl, hC4, hb4⟩
 have hA := (Below.refl w4.heap.size w4).alloc (Nat.le_refl _) (.cells #[.int .i64 (e3 : Nat), .int .i64 (p3 : Nat)] 29)
 have HYZ := hideT (hb4.trans (hA.mono hb4.size))
 have HC4 := hideT (hC4.stay hA)
 clear hC4 hb4 hA HP1
 go_upto_region 6 with fail
 generalize w4.alloc (.cells #[.int .i64 (e3 : Nat), .int .i64 (p3 : Nat)] 29) = Z at *
 go_wp2_with fail
 refine (HP2.out Z (HB3.out.trans (HYZ.out.mono HB3.out.size))).mono ?_
 rintro e w5 ⟨v5, rfl, hC5, hb5⟩
 have hA := (Below.refl w5.heap.size w5).alloc (Nat.le_refl _) (.cells #[.int .i64 (e4 : Nat), .int .i64 (p4 : Nat)] 29)
 have HZV := hideT (hb5.trans (hA.mono hb5.size))
 have HC5 := hideT (hC5.stay hA)
 clear hC5 hb5 hA HP2
 go_upto_region 7 with fail
 generalize w5.alloc (.cells #[.int .i64 (e4 : Nat), .int .i64 (p4 : Nat)] 29) = V at *
 have HYV := hideT (HYZ.out.trans (HZV.out.mono HYZ.out.size))
 have HCA := hideT (HC4.out.stay HZV.out)
 have u0 : V.cell? ⟨w2.heap.size, 0, none⟩ = some (.int .i64 (e1 : Nat)) := by rw [Lib.cell_of_heap ((HYV.out.block _ HN1.out.2).trans HN1.out.1)]; rfl
 have u1 : V.cell? ⟨w3.heap.size, 0, none⟩ = some (.int .i64 (e2 : Nat)) := by rw [Lib.cell_of_heap ((HYV.out.block _ HM.out.2).trans HM.out.1)]; rfl
 have HF := hideT (HB3.out.trans (HYV.out.mono HB3.out.size))
 clear HYZ HZV HC4 HN1 HM HB3 HYV
 have HLX := hideT (show ((bst x).size : Int) = (x.length : Int) by rw [xbt])
 have HLY := hideT (show ((bst y).size : Int) = (y.length : Int) by rw [xbt])
 by_cases h1 : e1 = 0
 rotate_left
 ·have n1 : (((e1 : Nat) : Int) != 0) = true := by simp; omega
  clear h1 HO HZA HZB
  go_wp2
  go_ret
  exact ⟨rfl, HF.out⟩
 have n1 : (((e1 : Nat) : Int) != 0) = false := by simp; omega
 by_cases h2 : e2 = 0
 rotate_left
 ·have n2 : (((e2 : Nat) : Int) != 0) = true := by simp; omega
  clear h1 h2 HO HZA HZB
  go_wp2
  go_ret
  exact ⟨rfl, HF.out⟩
 have n2 : (((e2 : Nat) : Int) != 0) = false := by simp; omega
 by_cases h3 : 4096 < x.length
 ·have n3 : ((4096 : Int) < ((bst x).size : Int)) = True := by rw [HLX.out, eq_iff_iff, iff_true]; omega
  have n4 : (4096 < (bst x).size) = True := by rw [xbt, eq_iff_iff, iff_true]; exact h3
  clear h1 h2 h3 HO HZA HZB
  go_wp2
  go_ret
  exact ⟨rfl, HF.out⟩
 have n3 : ((4096 : Int) < ((bst x).size : Int)) = False := by rw [HLX.out, eq_iff_iff, iff_false]; omega
 have n4 : (4096 < (bst x).size) = False := by rw [xbt, eq_iff_iff, iff_false]; exact h3
 by_cases h4 : 4096 < y.length
 ·have n5 : ((4096 : Int) < ((bst y).size : Int)) = True := by rw [HLY.out, eq_iff_iff, iff_true]; omega
  have n6 : (4096 < (bst y).size) = True := by rw [xbt, eq_iff_iff, iff_true]; exact h4
  clear h1 h2 h3 h4 HO HZA HZB
  go_wp2
  go_ret
  exact ⟨rfl, HF.out⟩
 have n5 : ((4096 : Int) < ((bst y).size : Int)) = False := by rw [HLY.out, eq_iff_iff, iff_false]; omega
 have n6 : (4096 < (bst y).size) = False := by rw [xbt, eq_iff_iff, iff_false]; exact h4
 have ho := HO.out h1 h2 (by omega) (by omega)
 have z1 := HZA.out h1
 have z2 := HZB.out h2
 clear h1 h2 h3 h4 HO HZA HZB
 by_cases hq : q = r
 ·have q1 : (q == r) = true := by simp [hq]
  obtain ⟨bl, hbl, hS⟩ : ∃ bl : Bool, ((bst x).toList == (bst y).toList) = bl ∧ Calls Tryz.prog 15 #[v4, v5, .bool false] V fun e w' => e = .returned (.bool bl) ∧ Below V.heap.size V w' := by
   by_cases hm : cs.map nfC = ds.map nfC
   ·refine ⟨true, ?_, sameList_any v4 v5 cs ds V HCA.out HC5.out hm.symm (fun c hc => by have := (z1.1 c hc).ps; have := bulkP_len c.ps; omega) (by omega)⟩
    rw [ho.2 ⟨hq, hm⟩]
    simp
   ·exact ⟨false, s_not (fun e => hm (ho.1 e).2), sameList_not v4 v5 cs ds V HCA.out HC5.out (Ne.symm hm) (fun c hc => by have := (z1.1 c hc).ps; have := bulkP_len c.ps; omega) (fun c hc => by have := (z2.1 c hc).ps; have := bulkP_len c.ps; omega) (by omega)⟩
  have HSL := hideT hS
  clear hS z1 z2 ho hq HCA HC5
  go_wp2_with fail
  refine HSL.out.mono ?_
  rintro e w6 ⟨rfl, hb6⟩
  have HF := hideT (HF.out.trans (hb6.mono HF.out.size))
  clear hb6 HSL
  cases bl
  ·go_wp2
   go_ret
   exact ⟨rfl, HF.out⟩
  ·go_wp2
   go_ret
   exact ⟨rfl, HF.out⟩
 ·have q1 : (q == r) = false := by simpa using hq
  have q2 := s_not (fun e => hq (ho.1 e).1)
  clear z1 z2 ho hq HCA HC5
  go_wp2
  go_ret
  exact ⟨rfl, HF.out⟩
end sho
end Go.Proofs.YtidgnebbibkmhaaGreatDoor
