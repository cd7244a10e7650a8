/- Build, pure: where a fault stands. -/
import Derived.Test.YtidgnebbibkmhaaGreatDoorKEj
set_option maxRecDepth 100000
set_option maxHeartbeats 4000000
namespace Go.Proofs.YtidgnebbibkmhaaGreatDoor
open Go.RowKit
open scanP scrP tpl ytb
namespace em
open emP ckp.chkP
theorem go_pl {n : Nat} : ∀ (r pre : List Cm) (d : Nat) {x : Nat × Int}, (∀ c ∈ r, 0 ≤ c.pl ∧ c.pl ≤ n) → goR pre d r = .inl x → 0 ≤ x.2 ∧ x.2 ≤ n
 | [], _, _, _, _, h => by cases h
 | c :: r, pre, d, x, hr, h => by
  unfold goR at h
  split at h
  ·cases h; exact hr c (by simp)
  ·exact go_pl r _ _ (fun y hy => hr y (by simp [hy])) h
theorem xra {n : Nat} : ∀ (r : List Cm) (st : List Int), (∀ c ∈ r, 0 ≤ c.pl ∧ c.pl ≤ n) → (∀ p ∈ st, 0 ≤ p ∧ p ≤ (n : Int)) → ∀ p ∈ xp7 r st, 0 ≤ p ∧ p ≤ (n : Int)
 | [], st, _, hs => hs
 | c :: r, st, hr, hs => by
  unfold xp7
  refine xra r _ (fun y hy => hr y (by simp [hy])) (fun p hp => ?_)
  split at hp
  ·rcases List.mem_cons.1 hp with rfl | hp
   ·exact hr c (by simp)
   ·exact hs p hp
  ·split at hp
   ·exact hs p (List.mem_of_mem_tail hp)
   ·exact hs p hp
theorem xrb {n : Nat} {all : List Cm} : ∀ (r : List Cm) {p : Int}, (∀ c ∈ r, 0 ≤ c.pl ∧ c.pl ≤ n) → xjw all r = some p → 0 ≤ p ∧ p ≤ n
 | [], _, _, h => by cases h
 | c :: r, p, hr, h => by
  unfold xjw at h
  split at h
  ·cases h; exact hr c (by simp)
  ·exact xrb r (fun y hy => hr y (by simp [hy])) h
theorem chk_pl {n : Nat} {l : List Cm} (hl : ∀ c ∈ l, 0 ≤ c.pl ∧ c.pl ≤ n) : 0 ≤ (chkR l).2 ∧ (chkR l).2 ≤ n := by
 unfold chkR
 split
 ·rename_i x hx
  exact go_pl l _ _ hl hx
 ·split
  ·have h := xra l [] hl (fun p hp => by cases hp)
   cases ho : xp7 l [] with
   | nil => simp
   | cons a r => rw [ho] at h; exact h a (by simp)
  ·split
   ·rename_i p hp
    exact xrb l hl hp
   ·simp
theorem wt_pl {n : Nat} : ∀ (r : List Co) (fs : List (List UInt8)) {p : Nat}, (∀ c ∈ r, c.pl ≤ n) → wtR r fs = .inl p → p ≤ n
 | [], _, _, _, h => by cases h
 | c :: r, fs, p, hr, h => by
  unfold wtR at h
  split at h
  ·exact wt_pl r _ (fun y hy => hr y (by simp [hy])) h
  ·split at h
   ·cases h; exact hr c (by simp)
   ·exact wt_pl r _ (fun y hy => hr y (by simp [hy])) h
theorem xrc {l : List UInt8} {x : Nat} {y : Int} (h : bldS (scrR gM l) = .inl (x, y)) : 0 ≤ y ∧ y ≤ l.length := by
 unfold bldS at h
 by_cases h0 : (scrR gM l).2.2.1 = 0
 ·have hf := xe4 h0
  have hpl : ∀ c ∈ (scrR gM l).1, c.pl ≤ l.length := fun c hc => Nat.le_of_lt (List.getElem?_eq_some_iff.1 (hf.fo c hc).2).1
  rw [if_neg (by simpa using h0)] at h
  split at h
  ·have h1 := chk_pl (n := l.length) (l := (scrR gM l).1.map toCm) (fun c hc => by
    obtain ⟨d, hd, rfl⟩ := List.mem_map.1 hc
    have := hpl d hd
    simp only [toCm]
    omega)
   have h2 : chkR ((scrR gM l).1.map toCm) = (x, y) := by simpa using h
   rw [h2] at h1
   exact h1
  ·split at h
   ·rename_i p hp
    have h1 := wt_pl _ _ hpl hp
    have h2 : (p : Int) = y := by
     have := Sum.inl.inj h
     exact (Prod.mk.inj this).2
    omega
   ·cases h
 ·rw [if_pos h0] at h
  have h1 := (scr_bad h0).2.2
  have h2 : ((scrR gM l).2.2.2 : Int) = y := by
   have := Sum.inl.inj h
   exact (Prod.mk.inj this).2
  omega
theorem brace_p : bldS (scrR gM [123, 112]) = .inl (23, 0) := by
 have h : ∀ G : Gr, bldS (scrR G [123, 112]) = .inl (23, 0) := fun G => by kernel_rfl
 exact h gM
theorem op_len {l : List Co} {k : Nat} {c : Co} (h : GI l k (jsR l k)) (hc : l[k]? = some c) : ((jsR l (k + 1)).op.length : Int) = (if c.nm = 123 then ((jsR l k).op.length : Int) + 1 else if c.nm = 125 then ((jsR l k).op.length : Int) - 1 else ((jsR l k).op.length : Int)) ∧ (c.nm = 125 → 0 < (jsR l k).op.length) := by
 have hf := h.facts hc
 rw [xie l k c hc]
 unfold Js.step
 by_cases h1 : c.nm = 123
 ·rw [if_pos h1, if_pos h1]
  refine ⟨by simp, fun h2 => ?_⟩
  rw [h1] at h2
  cases h2
 ·rw [if_neg h1, if_neg h1]
  by_cases h2 : c.nm = 125
  ·rw [if_pos h2, if_pos h2]
   have h3 := List.length_pos_iff.2 (hf.1 h2)
   refine ⟨?_, fun _ => h3⟩
   simp only [List.length_dropLast]
   omega
  ·rw [if_neg h2, if_neg h2]
   refine ⟨?_, fun h => absurd h h2⟩
   split <;> rfl
theorem loads_any (s : ByteArray) (hs : s.size ≤ 140737488355000) (w : World) (hg : Gl w) : Calls Tryz.prog 8 #[.string s] w fun e w' => e = .returned (.bool true) ∧ Below w.heap.size w w' := by
 have HB1 := hideT (xeq ⟨#[123, 112]⟩ (by decide) w hg)
 have HG := hideT hg
 clear hg
 go_enter Tryz.func8, Tryz.ntmps8
 go_wp2_with fail
 refine HB1.out.mono ?_
 intro e w1 h1
 have hb1 := h1.1
 have h1 := h1.2
 rw [show scrR gM (⟨#[123, 112]⟩ : ByteArray).data.toList = scrR gM [123, 112] from rfl, brace_p] at h1
 simp only at h1
 obtain ⟨_, rfl⟩ := h1
 have hA1 := (Below.refl w1.heap.size w1).alloc (Nat.le_refl _) (.cells #[.bool false, .slice none 0 0, .int .i64 0, .slice none 0 0] 26)
 have e1 := xcl w1 (.cells #[.bool false, .slice none 0 0, .int .i64 0, .slice none 0 0] 26)
 have hA2 := (Below.refl _ (w1.alloc (.cells #[.bool false, .slice none 0 0, .int .i64 0, .slice none 0 0] 26))).alloc (Nat.le_refl _) (.cells #[.int .i64 23, .int .i64 0] 29)
 rw [e1] at hA2
 have hW2 := hb1.trans ((hA1.trans (hA2.mono (by omega))).mono hb1.size)
 have HW2 := hideT hW2
 clear hA1 e1 hA2 hb1 HB1 hW2
 go_upto_region 4 with fail
 obtain ⟨Y, hY⟩ : ∃ Y, Y = (w1.alloc (.cells #[.bool false, .slice none 0 0, .int .i64 0, .slice none 0 0] 26)).alloc (.cells #[.int .i64 23, .int .i64 0] 29) := ⟨_, rfl⟩
 rw [← hY] at HW2 ⊢
 clear hY
 have HB2 := hideT (xeq s hs Y (HG.out.below HW2.out))
 obtain ⟨R, hR⟩ : ∃ R, R = scrR gM s.data.toList := ⟨_, rfl⟩
 rw [← hR] at HB2
 have HRR := hideT hR
 clear hR
 go_wp2_with fail
 refine HB2.out.mono ?_
 intro e w2 h2
 have hb2 := h2.1
 have h2 := h2.2
 clear HB2
 cases hbs : bldS R with
 | inl x =>
  obtain ⟨x, y⟩ := x
  rw [hbs] at h2
  simp only at h2
  obtain ⟨hx, rfl⟩ := h2
  have hpl := xrc (l := s.data.toList) (x := x) (y := y) (by rw [← HRR.out]; exact hbs)
  have p1 := hpl.1
  have p2 : y ≤ (s.size : Int) := hpl.2
  have p3 : ((x : Int) != 0) = true := by rw [bne_iff_ne]; omega
  have hA1 := (Below.refl w2.heap.size w2).alloc (Nat.le_refl _) (.cells #[.bool false, .slice none 0 0, .int .i64 0, .slice none 0 0] 26)
  have e1 := xcl w2 (.cells #[.bool false, .slice none 0 0, .int .i64 0, .slice none 0 0] 26)
  have hA2 := (Below.refl _ (w2.alloc (.cells #[.bool false, .slice none 0 0, .int .i64 0, .slice none 0 0] 26))).alloc (Nat.le_refl _) (.cells #[.int .i64 x, .int .i64 y] 29)
  rw [e1] at hA2
  have hW := HW2.out.trans (hb2.mono HW2.out.size)
  have HWF := hideT (hW.trans ((hA1.trans (hA2.mono (by omega))).mono hW.size))
  clear hA1 e1 hA2 hb2 hpl hbs hx hW
  go_wp2
  go_ret
  exact ⟨rfl, HWF.out⟩
 | inr fs =>
  rw [hbs] at h2
  simp only at h2
  obtain ⟨L, g, fv, hm, hsl, h0, hck, hwt, hgY, hgb, hfv, rfl⟩ := h2
  have HSL := hideT hsl
  clear hsl
  obtain ⟨fa, fc, hfs⟩ := owns_shape hfv
  subst hfs
  have hf16 := xqi _ _ _ (by simp) hwt
  obtain ⟨cs, qu, E, p⟩ := R
  simp only at hm h0 hck hwt hgb ⊢
  have HFO := hideT (show Fields s.data.toList cs by
   have := xe4 (G := gM) (l := s.data.toList) (by rw [← HRR.out]; exact h0)
   rw [← HRR.out] at this
   exact this)
  have HLE := hideT (show cs.length ≤ 10000 by
   have h1 := xhe HFO.out
   obtain ⟨h2, _⟩ := xhc (G := gM) (l := s.data.toList) (by rw [← HRR.out]; exact h0)
   omega)
  have HGI := hideT (GI.all (xhb hck).1)
  have HCK := hideT hck
  have HM := hideT hm
  have hA1 := (Below.refl w2.heap.size w2).alloc (Nat.le_refl _) (.cells #[.bool qu, .slice (some ⟨g, 0, none⟩) cs.length cs.length, .int .i64 (slN cs : Nat), .slice fa fs.length fc] 26)
  have hN1 := heap_alloc_new w2 (.cells #[.bool qu, .slice (some ⟨g, 0, none⟩) cs.length cs.length, .int .i64 (slN cs : Nat), .slice fa fs.length fc] 26)
  have e1 := xcl w2 (.cells #[.bool qu, .slice (some ⟨g, 0, none⟩) cs.length cs.length, .int .i64 (slN cs : Nat), .slice fa fs.length fc] 26)
  have hA2 := (Below.refl _ (w2.alloc (.cells #[.bool qu, .slice (some ⟨g, 0, none⟩) cs.length cs.length, .int .i64 (slN cs : Nat), .slice fa fs.length fc] 26))).alloc (Nat.le_refl _) (.cells #[.int .i64 0, .int .i64 0] 29)
  have hN2 := heap_alloc_new (w2.alloc (.cells #[.bool qu, .slice (some ⟨g, 0, none⟩) cs.length cs.length, .int .i64 (slN cs : Nat), .slice fa fs.length fc] 26)) (.cells #[.int .i64 0, .int .i64 0] 29)
  rw [e1] at hA2 hN2
  go_upto_region 5 with fail
  obtain ⟨X, hX⟩ : ∃ X, X = (w2.alloc (.cells #[.bool qu, .slice (some ⟨g, 0, none⟩) cs.length cs.length, .int .i64 (slN cs : Nat), .slice fa fs.length fc] 26)).alloc (.cells #[.int .i64 0, .int .i64 0] 29) := ⟨_, rfl⟩
  rw [← hX] at hA2 hN2 ⊢
  have hB : Below w2.heap.size w2 X := hA1.trans (hA2.mono (by omega))
  have HGB := hideT ((hB.block g (xah hgb)).trans hgb)
  have hNP := (hA2.block w2.heap.size (by omega)).trans hN1
  have hW := HW2.out.trans (hb2.mono HW2.out.size)
  have HWX := hideT (hW.trans (hB.mono hW.size))
  have HNP := hideT hNP
  have p1 := CmAt2.cell hNP 1 (v := .slice (some ⟨g, 0, none⟩) cs.length cs.length) rfl
  have p3 := CmAt2.cell hNP 3 (v := .slice fa fs.length fc) rfl
  have c0 := CmAt2.cell hN2 0 (v := .int .i64 0) rfl
  have HFN := hideT (show (fs.length : Int) ≤ 16 by omega)
  have HDR := hideT (show fs.length ≤ 16 by omega)
  clear hA1 hN1 e1 hA2 hN2 hX hB hNP hW hb2 hgb hgY hfv hbs hm h0 hck hwt hf16
  generalize w2.heap.size = b0 at *
  go_wp2_with fail
  go_loopw [7, 8, 46] (fun o d i wr => ∃ (k dp : Nat), k ≤ cs.length ∧ i = .int .i64 k ∧ o = .int .i64 ((jsR cs k).op.length : Nat) ∧ d = .int .i64 dp ∧ Hid (dp ≤ 16) ∧ Hid (Below X.heap.size X wr)) (fun _ _ i _ => cs.length - (intOf i).toNat)
  case atStart => exact ⟨0, 0, by omega, rfl, rfl, rfl, hideT (by omega), hideT (Below.refl _ _)⟩
  case round =>
   obtain ⟨k, dp, hk, rfl, rfl, rfl, HD, HW⟩ := hrel
   have hle := HLE.out
   by_cases hlt : k < cs.length
   ·obtain ⟨x, hx, hxc⟩ : ∃ x, L[k]? = some x ∧ cs[k]? = some x.1 := by
     have hkL : k < L.length := by rw [← HM.out, List.length_map] at hlt; exact hlt
     refine ⟨L[k]'hkL, List.getElem?_eq_getElem hkL, ?_⟩
     rw [← HM.out, List.getElem?_map, List.getElem?_eq_getElem hkL]; rfl
    have hgw := (HW.out.block g (xah HGB.out)).trans HGB.out
    have hr := xmz hgw hx
    have hfo := HFO.out.fo x.1 (List.mem_of_getElem? hxc)
    have hol := op_len (HGI.out k (by omega)) hxc
    have hg2 := (HGI.out (k + 1) (by omega)).le
    have hjl : jmF cs k = (jmN cs k x.1 : Nat) := by rw [jmF, hxc]
    have hjn := jm_le HCK.out k x.1
    obtain ⟨pb, pn, pm, hpv⟩ := HSL.out x (List.mem_of_getElem? hx)
    obtain ⟨c, pv⟩ := x
    simp only at hr hfo hol hjl hjn hxc hpv
    rw [hjl] at hr
    obtain ⟨J, hJ⟩ : ∃ J, J = jmN cs k c := ⟨_, rfl⟩
    rw [← hJ] at hr hjn
    have i1 : (k : Int) < (cs.length : Int) := by omega
    have i2 : (0 : Int) ≤ (k : Int) := by omega
    obtain ⟨xs, hxs⟩ : ∃ xs, xs = opV c pv (J : Nat) (slF cs k) := ⟨_, rfl⟩
    obtain ⟨ys, hys⟩ : ∃ ys, ys = coV c pv := ⟨_, rfl⟩
    rw [← hxs] at hr
    have HQ := hideT hr
    have hxl : xs.length = 21 := by rw [hxs]; rfl
    have hyl : ys.length = 19 := by rw [hys]; rfl
    have hpo : pv.oneCell' = true := by rw [hpv]; rfl
    have IM := hideT (show (Tryz.prog.info? 39).map (·.size) = some ys.length by rw [hyl]; exact xcm)
    have IO := hideT (show (Tryz.prog.info? 41).map (·.size) = some xs.length by rw [hxl]; exact xlk)
    have O9 := hideT (show ys.toArray.all (·.oneCell') = true by rw [hys]; exact xd0 _ _ hpo)
    have OO := hideT (show xs.toArray.all (·.oneCell') = true by rw [hxs]; exact xll _ _ _ _ hpo)
    have ZL := hideT (show zC.length = ys.length by rw [hyl]; rfl)
    have ZO := hideT (show zO.length = xs.length by rw [hxl]; rfl)
    have HRY := hideT (fun (V : World) (b : Nat) (h : V.heap[b]? = some (.cells xs.toArray 41)) => show V.rangeAt b 0 ys by rw [hxs] at h; rw [hys]; exact op_cmd h)
    have HX := hideT hxs
    have HY := hideT hys
    have HFX := hideT hfo
    have HOL := hideT hol
    have HG2 := hideT hg2
    have HJN := hideT hjn
    clear hx hxc hgw hr hfo hol hg2 hjl hjn hpv hJ hxs hys hxl hyl hpo
    go_upto_region 12 with (first | (refine wpList_load_mid rfl 41 _ rfl g (k * 21) rfl xs _ HQ.out und_op rfl IO.out ?_) | (refine al_op rfl rfl ?_; intro w3 H3) | (refine xj1 rfl 41 _ _ rfl xs zO rfl rfl H3.out ZO.out IO.out OO.out ?_; intro w4 H4) | (refine wpList_load_mid rfl 39 _ rfl wr.heap.size 0 rfl ys _ (HRY.out _ _ H4.out.blk) xc9 rfl IM.out ?_) | (refine xq2 rfl rfl ?_; intro w5 H5) | (refine xj1 rfl 39 _ _ rfl ys zC rfl rfl H5.out ZL.out IM.out O9.out ?_; intro w6 H6))
    have hb6 : Below wr.heap.size wr w6 := H4.out.bel.trans (H6.out.bel.mono (by have := H4.out.sz; omega))
    have hk10 := (H6.out.bel.block wr.heap.size (by have := H4.out.sz; omega)).trans H4.out.blk
    have HW6 := hideT (HW.out.trans (hb6.mono HW.out.size))
    have a0 : w6.cell? ⟨w4.heap.size, 0, none⟩ = some (.int .i64 c.pl) := CmAt2.cell H6.out.blk 0 (by rw [HY.out]; rfl)
    have a8 : w6.cell? ⟨w4.heap.size, 8, none⟩ = some (.int .u8 c.nm.toNat) := CmAt2.cell H6.out.blk 8 (by rw [HY.out]; rfl)
    have a19 : w6.cell? ⟨wr.heap.size, 19, none⟩ = some (.int .i64 J) := CmAt2.cell hk10 19 (by rw [HX.out]; rfl)
    have ap : w6.cell? ⟨b0, 1, none⟩ = some (.slice (some ⟨g, 0, none⟩) cs.length cs.length) := keep_cell HW6.out p1
    clear hb6 hk10 H3 H4 H5 H6 HQ IM IO O9 OO ZL ZO HRY HX HY HW
    generalize wr.heap.size = b1 at *
    generalize w4.heap.size = b2 at *
    obtain ⟨hpl, hnm⟩ := List.getElem?_eq_some_iff.1 HFX.out.2
    have hpl2 : c.pl < s.size := hpl
    have n1 : ((c.pl : Int) < 0) = False := by rw [eq_iff_iff, iff_false]; omega
    have n2 : ((s.size : Int) ≤ (c.pl : Int)) = False := by rw [eq_iff_iff, iff_false]; omega
    have n2' : (s.size ≤ c.pl) = False := by rw [eq_iff_iff, iff_false]; omega
    have n3 : (c.pl : Int) < (s.size : Int) := by omega
    have n4 : (0 : Int) ≤ (c.pl : Int) := by omega
    have n5 : s[c.pl]'hpl2 = c.nm := hnm
    obtain ⟨o, ho⟩ : ∃ o, o = (jsR cs k).op.length := ⟨_, rfl⟩
    obtain ⟨o2, ho2⟩ : ∃ o, o = (jsR cs (k + 1)).op.length := ⟨_, rfl⟩
    have hlo := (HGI.out k (by omega)).le
    rw [← ho, ← ho2] at HOL
    rw [← ho] at hlo ⊢
    rw [← ho2] at HG2
    have HO1 := hideT hlo
    have HO2 := hideT ho2.symm
    clear ho ho2 hlo
    have hJ0 : ((J : Int) < 0) = False := by rw [eq_iff_iff, iff_false]; omega
    have hJ1 : ((cs.length : Int) < (J : Int)) = False := by have := HJN.out; rw [eq_iff_iff, iff_false]; omega
    have hJ2 : (cs.length < J) = False := by have := HJN.out; rw [eq_iff_iff, iff_false]; omega
    go_quiet (fail)
    go_upto_region 14 with fail
    by_cases k1 : c.nm = 123
    ·have m1 : ((c.nm.toNat : Int) == 123) = true := by rw [k1]; rfl
     have ho2 : (o2 : Int) = (o : Int) + 1 := by rw [HOL.out.1, if_pos k1]
     obtain ⟨d2, hd2, hd3⟩ : ∃ d2 : Nat, max (dp : Int) ((o : Int) + 1) = (d2 : Int) ∧ d2 ≤ 16 := ⟨max dp o2, by rw [← ho2]; omega, by have := HD.out; have := HG2.out; omega⟩
     have v1 : IntKind.i64.wrap ((o : Int) + 1) = (o : Int) + 1 := by have := HO1.out; rw [IntKind.wrap_i64]; omega
     have v2 : (((o : Int) + 1 : Int) < 0) = False := by rw [eq_iff_iff, iff_false]; omega
     have HH := hideT ho2
     have HD3 := hideT hd3
     clear ho2 hd3 k1
     go_wp2
     exact ⟨⟨k + 1, d2, by omega, by go_num, by rw [HO2.out, HH.out], rfl, HD3, hideT (HW6.out.trans (below_drewN _ _ _))⟩, by simp [intOf]; omega⟩
    have m1 : ((c.nm.toNat : Int) == 123) = false := ckp.ne_byte c.nm 123 (by decide) k1
    by_cases k2 : c.nm = 125
    ·have m2 : ((c.nm.toNat : Int) == 125) = true := by rw [k2]; rfl
     have hpos := HOL.out.2 k2
     have ho2 : (o2 : Int) = (o : Int) - 1 := by rw [HOL.out.1, if_neg k1, if_pos k2]
     obtain ⟨d2, hd2, hd3⟩ : ∃ d2 : Nat, max (dp : Int) ((o : Int) - 1) = (d2 : Int) ∧ d2 ≤ 16 := ⟨max dp o2, by rw [← ho2]; omega, by have := HD.out; have := HG2.out; omega⟩
     have v1 : IntKind.i64.wrap ((o : Int) - 1) = (o : Int) - 1 := by have := HO1.out; rw [IntKind.wrap_i64]; omega
     have v2 : (((o : Int) - 1 : Int) < 0) = False := by rw [eq_iff_iff, iff_false]; omega
     have HH := hideT ho2
     have HD3 := hideT hd3
     clear ho2 hd3 k1 k2 hpos
     go_wp2
     exact ⟨⟨k + 1, d2, by omega, by go_num, by rw [HO2.out, HH.out], rfl, HD3, hideT (HW6.out.trans (below_drewN _ _ _))⟩, by simp [intOf]; omega⟩
    have m2 : ((c.nm.toNat : Int) == 125) = false := ckp.ne_byte c.nm 125 (by decide) k2
    have ho2 : (o2 : Int) = (o : Int) := by rw [HOL.out.1, if_neg k1, if_neg k2]
    obtain ⟨d2, hd2, hd3⟩ : ∃ d2 : Nat, max (dp : Int) (o : Int) = (d2 : Int) ∧ d2 ≤ 16 := ⟨max dp o2, by rw [← ho2]; omega, by have := HD.out; have := HG2.out; omega⟩
    have v2 : ((o : Int) < 0) = False := by rw [eq_iff_iff, iff_false]; omega
    have HH := hideT ho2
    have HD3 := hideT hd3
    clear ho2 hd3 k1 k2
    by_cases k4 : c.nm = 98
    ·have m4 : ((c.nm.toNat : Int) == 98) = true := by rw [k4]; rfl
     clear k4
     go_wp2
     exact ⟨⟨k + 1, d2, by omega, by go_num, by rw [HO2.out, HH.out], rfl, HD3, hideT (HW6.out.trans (below_drewN _ _ _))⟩, by simp [intOf]; omega⟩
    have m4 : ((c.nm.toNat : Int) == 98) = false := ckp.ne_byte c.nm 98 (by decide) k4
    clear k4
    by_cases k4 : c.nm = 116
    ·have m5 : ((c.nm.toNat : Int) == 116) = true := by rw [k4]; rfl
     clear k4
     go_wp2
     exact ⟨⟨k + 1, d2, by omega, by go_num, by rw [HO2.out, HH.out], rfl, HD3, hideT (HW6.out.trans (below_drewN _ _ _))⟩, by simp [intOf]; omega⟩
    have m5 : ((c.nm.toNat : Int) == 116) = false := ckp.ne_byte c.nm 116 (by decide) k4
    clear k4
    go_wp2
    exact ⟨⟨k + 1, d2, by omega, by go_num, by rw [HO2.out, HH.out], rfl, HD3, hideT (HW6.out.trans (below_drewN _ _ _))⟩, by simp [intOf]; omega⟩
   ·obtain rfl : k = cs.length := by omega
    have i1 : ((cs.length : Int) < (cs.length : Int)) = False := by rw [eq_iff_iff, iff_false]; omega
    have hop : (jsR cs cs.length).op.length = 0 := by
     have h1 := (HGI.out cs.length (Nat.le_refl _)).go
     rw [List.drop_of_length_le (Nat.le_refl _)] at h1
     simp only [List.map_nil, goR] at h1
     exact Sum.inr.inj h1
    rw [hop]
    have q3 := keep_cell HW.out p3
    have hd : (dp : Int) ≤ 16 := by have := HD.out; omega
    have hd' : dp ≤ 16 := HD.out
    have hfl := HFN.out
    have hfl' := HDR.out
    have HWF := hideT (HWX.out.trans (HW.out.mono HWX.out.size))
    clear hop
    go_wp2
    go_ret
    exact ⟨rfl, HWF.out⟩
end em
end Go.Proofs.YtidgnebbibkmhaaGreatDoor
