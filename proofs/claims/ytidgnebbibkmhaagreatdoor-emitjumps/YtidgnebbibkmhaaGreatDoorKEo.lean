/- EmitJumps: awake, depth: the walks. -/
import Derived.Test.YtidgnebbibkmhaaGreatDoorKEj
set_option maxRecDepth 100000
set_option maxHeartbeats 8000000
namespace Go.Proofs.YtidgnebbibkmhaaGreatDoor
open Go.RowKit
open scanP scrP tpl ytb
namespace em
open emP ckp.chkP
structure AwC (b g fg fc : Nat) (X : World) : Prop where
 a1 : X.cell? ⟨b, 1, none⟩ = some (.slice (some ⟨g, 0, none⟩) 6 6)
 a2 : X.cell? ⟨b, 2, none⟩ = some (.int .i64 1)
 a3 : X.cell? ⟨b, 3, none⟩ = some (.slice (some ⟨fg, 0, none⟩) 1 fc)
 a4 : X.cell? ⟨b + 1, 0, none⟩ = some (.int .i64 0)
 a5 : X.cell? ⟨g, 19, none⟩ = some (.int .i64 2)
 a6 : X.cell? ⟨g, 20, none⟩ = some (.int .i64 0)
 a7 : X.cell? ⟨g, 103, none⟩ = some (.int .i64 3)
 a8 : X.cell? ⟨g, 124, none⟩ = some (.int .i64 6)
 a9 : X.cell? ⟨g, 41, none⟩ = some (.int .i64 (-1))
 a10 : X.cell? ⟨fg, 0, none⟩ = some (.string (bst [102]))
theorem AwC.stay {b g fg fc : Nat} {X X' : World} (h : AwC b g fg fc X) (hb : Below X.heap.size X X') : AwC b g fg fc X' :=
 ⟨keep_cell hb h.a1, keep_cell hb h.a2, keep_cell hb h.a3, keep_cell hb h.a4, keep_cell hb h.a5, keep_cell hb h.a6, keep_cell hb h.a7, keep_cell hb h.a8, keep_cell hb h.a9, keep_cell hb h.a10⟩
theorem awake_any (w : World) (hg : Gl w) : Calls Tryz.prog 9 #[] w fun e w' => e = .returned (.bool true) ∧ Below w.heap.size w w' := by
 obtain ⟨cs, hsc, hlen, hbs, j0, s0, j4, j5, s1, hsl⟩ := aw_bld
 have HB1 := hideT (xeq ⟨#[49, 44, 51, 123, 115, 47, 97, 47, 98, 47, 119, 32, 102, 10, 125, 10, 58, 120, 59, 98, 120, 59, 98]⟩ (by decide) w hg)
 have HG := hideT hg
 clear hg
 go_enter Tryz.func9, Tryz.ntmps9
 go_wp2_with fail
 refine HB1.out.mono ?_
 intro e w1 h1
 have hb1 := h1.1
 have h1 := h1.2
 rw [show scrR gM (⟨#[49, 44, 51, 123, 115, 47, 97, 47, 98, 47, 119, 32, 102, 10, 125, 10, 58, 120, 59, 98, 120, 59, 98]⟩ : ByteArray).data.toList = scrR gM awT from rfl, hbs, hsc] at h1
 simp only at h1
 obtain ⟨L, g, fv, hm, _, _, _, _, hgY, hgb, hfv, rfl⟩ := h1
 rw [hlen, hsl]
 obtain ⟨fg, fc, hfs⟩ : ∃ fg fc, fv = .slice (some ⟨fg, 0, none⟩) 1 fc := by
  rcases hfv.2 with ⟨_, h0⟩ | ⟨fg, fc, cur, hfs, _⟩
  ·cases h0
  ·exact ⟨fg, fc, hfs⟩
 have hf0 := hfv.cells (g := fg) (by rw [hfs]; rfl) 0 (.string (bst [102])) rfl
 rw [show (⟨fg, 0, none⟩ : Addr).add 0 = ⟨fg, 0, none⟩ by unfold Addr.add; split <;> simp_all] at hf0
 have hLn : L.length = 6 := by rw [← hlen, ← hm, List.length_map]
 have hat : ∀ (k m : Nat) (u : Value) (hk : k < 6), (∀ x : Co × Value, (opV x.1 x.2 (jmF cs k) (slF cs k))[m]? = some u) → w1.cell? ⟨g, k * 21 + m, none⟩ = some u := fun k m u hk h => CmAt2.cell hgb _ (xhd _ _ (List.getElem?_eq_getElem (by rw [hLn]; exact hk)) (h _))
 have c1 := hat 0 19 (.int .i64 2) (by decide) (fun x => by rw [j0]; rfl)
 have c2 := hat 0 20 (.int .i64 0) (by decide) (fun x => by rw [s0]; rfl)
 have c3 := hat 4 19 (.int .i64 3) (by decide) (fun x => by rw [j4]; rfl)
 have c4 := hat 5 19 (.int .i64 6) (by decide) (fun x => by rw [j5]; rfl)
 have c5 := hat 1 20 (.int .i64 (-1)) (by decide) (fun x => by rw [s1]; rfl)
 subst hfs
 have hA1 := (Below.refl w1.heap.size w1).alloc (Nat.le_refl _) (.cells #[.bool false, .slice (some ⟨g, 0, none⟩) 6 6, .int .i64 1, .slice (some ⟨fg, 0, none⟩) 1 fc] 26)
 have hN1 := heap_alloc_new w1 (.cells #[.bool false, .slice (some ⟨g, 0, none⟩) 6 6, .int .i64 1, .slice (some ⟨fg, 0, none⟩) 1 fc] 26)
 have e1 := xcl w1 (.cells #[.bool false, .slice (some ⟨g, 0, none⟩) 6 6, .int .i64 1, .slice (some ⟨fg, 0, none⟩) 1 fc] 26)
 have hA2 := (Below.refl _ (w1.alloc (.cells #[.bool false, .slice (some ⟨g, 0, none⟩) 6 6, .int .i64 1, .slice (some ⟨fg, 0, none⟩) 1 fc] 26))).alloc (Nat.le_refl _) (.cells #[.int .i64 0, .int .i64 0] 29)
 have hN2 := heap_alloc_new (w1.alloc (.cells #[.bool false, .slice (some ⟨g, 0, none⟩) 6 6, .int .i64 1, .slice (some ⟨fg, 0, none⟩) 1 fc] 26)) (.cells #[.int .i64 0, .int .i64 0] 29)
 rw [e1] at hA2 hN2
 go_upto_region 2 with fail
 obtain ⟨X, hX⟩ : ∃ X, X = (w1.alloc (.cells #[.bool false, .slice (some ⟨g, 0, none⟩) 6 6, .int .i64 1, .slice (some ⟨fg, 0, none⟩) 1 fc] 26)).alloc (.cells #[.int .i64 0, .int .i64 0] 29) := ⟨_, rfl⟩
 rw [← hX] at hA2 hN2 ⊢
 have hB : Below w1.heap.size w1 X := hA1.trans (hA2.mono (by omega))
 have HWX := hideT (hb1.trans (hB.mono hb1.size))
 have hP := (hA2.block w1.heap.size (by omega)).trans hN1
 have HC := hideT (show AwC w1.heap.size g fg fc X from ⟨CmAt2.cell hP 1 rfl, CmAt2.cell hP 2 rfl, CmAt2.cell hP 3 rfl, CmAt2.cell hN2 0 rfl, keep_cell hB c1, keep_cell hB c2, keep_cell hB c3, keep_cell hB c4, keep_cell hB c5, keep_cell hB hf0⟩)
 have HB2 := hideT (xeq ⟨#[98, 120]⟩ (by decide) X (HG.out.below HWX.out))
 clear hA1 hN1 e1 hA2 hN2 hX hB hP hb1 hgb hgY hfv hf0 hat c1 c2 c3 c4 c5 hLn hm hsc hlen hbs j0 s0 j4 j5 s1 hsl HB1 HG
 generalize w1.heap.size = b0 at *
 go_wp2_with fail
 refine HB2.out.mono ?_
 intro e w2 h2
 have hb2 := h2.1
 have h2 := h2.2
 rw [show scrR gM (⟨#[98, 120]⟩ : ByteArray).data.toList = scrR gM [98, 120] from rfl, aw_bx] at h2
 simp only at h2
 obtain ⟨_, rfl⟩ := h2
 have hA1 := (Below.refl w2.heap.size w2).alloc (Nat.le_refl _) (.cells #[.bool false, .slice none 0 0, .int .i64 0, .slice none 0 0] 26)
 have e1 := xcl w2 (.cells #[.bool false, .slice none 0 0, .int .i64 0, .slice none 0 0] 26)
 have hA2 := (Below.refl _ (w2.alloc (.cells #[.bool false, .slice none 0 0, .int .i64 0, .slice none 0 0] 26))).alloc (Nat.le_refl _) (.cells #[.int .i64 22, .int .i64 0] 29)
 have hN2 := heap_alloc_new (w2.alloc (.cells #[.bool false, .slice none 0 0, .int .i64 0, .slice none 0 0] 26)) (.cells #[.int .i64 22, .int .i64 0] 29)
 rw [e1] at hA2 hN2
 go_upto_region 3 with fail
 obtain ⟨X2, hX⟩ : ∃ X, X = (w2.alloc (.cells #[.bool false, .slice none 0 0, .int .i64 0, .slice none 0 0] 26)).alloc (.cells #[.int .i64 22, .int .i64 0] 29) := ⟨_, rfl⟩
 rw [← hX] at hA2 hN2 ⊢
 have hB : Below w2.heap.size w2 X2 := hA1.trans (hA2.mono (by omega))
 have hB2 := hb2.trans (hB.mono hb2.size)
 have HWF := hideT (HWX.out.trans (hB2.mono HWX.out.size))
 obtain ⟨a1, a2, a3, a4, a5, a6, a7, a8, a9, a10⟩ := HC.out.stay hB2
 have d0 := CmAt2.cell (xs := [.int .i64 22, .int .i64 0]) hN2 0 rfl
 have d1 := CmAt2.cell (xs := [.int .i64 22, .int .i64 0]) hN2 1 rfl
 have t1 : ((bst [102]).toList == [102]) = true := by rw [xb5]; rfl
 clear hA1 e1 hA2 hN2 hX hB hB2 hb2 HB2 HC
 generalize w2.heap.size = b3 at *
 go_wp2
 go_ret
 exact ⟨rfl, HWF.out⟩
theorem xil : ∀ x : List Co, depO x none = none
 | [] => rfl
 | _ :: r => xil r
theorem dep_more {l : List Co} {i j m d : Nat} {c : Co} (hd : depO ((l.take j).drop i) (some 0) = some 1) (hm : i + m < j) (hc : l[i + m]? = some c) (hp : depO ((l.take (i + m)).drop i) (some 0) = some d) : ∃ e, depO ((l.take (i + (m + 1))).drop i) (some 0) = some e ∧ 1 ≤ e ∧ ((e : Int) = if c.nm = 123 then (d : Int) + 1 else if c.nm = 125 then (d : Int) - 1 else (d : Int)) := by
 have h1 : (l.take (i + (m + 1))).drop i = (l.take (i + m)).drop i ++ [c] := xel (k := i + m) (i := i) hc (by omega)
 have hj : l.take j = l.take (i + (m + 1)) ++ (l.take j).drop (i + (m + 1)) := by
  have := List.take_append_drop (i + (m + 1)) (l.take j)
  rw [List.take_take, Nat.min_eq_left (by omega)] at this
  exact this.symm
 have hk : i + m < l.length := (List.getElem?_eq_some_iff.1 hc).1
 have h2 : (l.take j).drop i = (l.take (i + (m + 1))).drop i ++ (l.take j).drop (i + (m + 1)) := by
  conv => lhs; rw [hj]
  rw [List.drop_append_of_le_length (by rw [List.length_take]; omega)]
 rw [h2, xek] at hd
 rw [h1, xek, hp] at hd ⊢
 simp only [depO] at hd ⊢
 by_cases n1 : c.nm = 123
 ·simp only [n1, if_true] at hd ⊢
  exact ⟨d + 1, rfl, by omega, by omega⟩
 ·simp only [if_neg n1] at hd ⊢
  by_cases n2 : c.nm = 125
  ·simp only [n2, if_true] at hd ⊢
   by_cases n3 : d ≤ 1
   ·rw [if_pos n3, xil] at hd; cases hd
   ·rw [if_neg n3]
    exact ⟨d - 1, rfl, by omega, by omega⟩
  ·simp only [if_neg n2] at hd ⊢
   by_cases n3 : d = 0
   ·rw [if_pos n3, xil] at hd; cases hd
   ·rw [if_neg n3]
    exact ⟨d, rfl, by omega, rfl⟩
theorem depth_any (W : World) (g i j cp : Nat) (L : List (Co × Value)) (cs : List Co) (J S : Nat → Int) (hm : L.map (·.1) = cs) (hsl : ∀ x ∈ L, ∃ b n m, x.2 = .slice b n m) (hg : W.heap[g]? = some (.cells (opF J S 0 L).toArray 41)) (hij : i < j) (hj : j ≤ cs.length) (hl : cs.length ≤ 10000) (hd : depO ((cs.take j).drop i) (some 0) = some 1) :
  Calls Tryz.prog 12 #[.slice (some ⟨g, i * 21, none⟩) (j - i) cp] W fun e w' => e = .returned (.int .i64 1) ∧ Below W.heap.size W w' := by
 have HG := hideT hg
 have HM := hideT hm
 have HSL := hideT hsl
 have HDD := hideT hd
 obtain ⟨M, hM⟩ : ∃ M, M = j - i := ⟨_, rfl⟩
 rw [← hM]
 have HMM := hideT hM
 have hMl : M ≤ 10000 := by omega
 clear hg hm hsl hd hM
 go_enter Tryz.func12, Tryz.ntmps12
 go_wp2_with fail
 go_loopw [3, 8] (fun n x wr => ∃ (m d : Nat), m ≤ M ∧ x = .int .i64 m ∧ n = .int .i64 d ∧ Hid (d ≤ m) ∧ Hid (depO ((cs.take (i + m)).drop i) (some 0) = some d) ∧ Hid (Below W.heap.size W wr)) (fun _ x _ => M - (intOf x).toNat)
 case atStart => exact ⟨0, 0, by omega, rfl, rfl, hideT (Nat.le_refl _), hideT (by rw [Nat.add_zero, List.drop_of_length_le (by rw [List.length_take]; omega)]; rfl), hideT (Below.refl _ _)⟩
 case round =>
  obtain ⟨m, d, hm, rfl, rfl, HDM, HD, HW⟩ := hrel
  by_cases hlt : m < M
  ·have him : i + m < j := by have := HMM.out; omega
   obtain ⟨x, hx, hxc⟩ : ∃ x, L[i + m]? = some x ∧ cs[i + m]? = some x.1 := by
    have hkL : i + m < L.length := by rw [← HM.out, List.length_map] at hj; omega
    refine ⟨L[i + m]'hkL, List.getElem?_eq_getElem hkL, ?_⟩
    rw [← HM.out, List.getElem?_map, List.getElem?_eq_getElem hkL]; rfl
   obtain ⟨e, he1, he2, he3⟩ := dep_more HDD.out him hxc HD.out
   have hgw := (HW.out.block g (xah HG.out)).trans HG.out
   have hr := xmz hgw hx
   obtain ⟨pb, pn, pm, hpv⟩ := HSL.out x (List.mem_of_getElem? hx)
   obtain ⟨c, pv⟩ := x
   simp only at hr he3 hpv
   have i1 : (m : Int) < (M : Int) := by omega
   have i2 : (0 : Int) ≤ (m : Int) := by omega
   obtain ⟨xs, hxs⟩ : ∃ xs, xs = opV c pv (J (i + m)) (S (i + m)) := ⟨_, rfl⟩
   rw [← hxs, show (i + m) * 21 = i * 21 + m * 21 by omega] at hr
   have HQ := hideT hr
   have hxl : xs.length = 21 := by rw [hxs]; rfl
   have IO := hideT (show (Tryz.prog.info? 41).map (·.size) = some xs.length by rw [hxl]; exact xlk)
   have OO := hideT (show xs.toArray.all (·.oneCell') = true by rw [hxs]; exact xll _ _ _ _ (by rw [hpv]; rfl))
   have ZO := hideT (show zO.length = xs.length by rw [hxl]; rfl)
   have HX := hideT hxs
   have HE := hideT (And.intro he1 he2)
   have HE3 := hideT he3
   clear hx hxc hgw hr hpv hxs hxl he1 he2 he3 him
   go_upto_region 5 with (first | (refine wpList_load_mid rfl 41 _ rfl g (i * 21 + m * 21) rfl xs _ HQ.out und_op rfl IO.out ?_) | (refine al_op rfl rfl ?_; intro w3 H3) | (refine xj1 rfl 41 _ _ rfl xs zO rfl rfl H3.out ZO.out IO.out OO.out ?_; intro w4 H4))
   have a8 : w4.cell? ⟨wr.heap.size, 8, none⟩ = some (.int .u8 c.nm.toNat) := CmAt2.cell H4.out.blk 8 (by rw [HX.out]; rfl)
   have HW4 := hideT (HW.out.trans (H4.out.bel.mono HW.out.size))
   have hdm := HDM.out
   clear H3 H4 HQ IO OO ZO HX
   generalize wr.heap.size = b1 at *
   by_cases k1 : c.nm = 123
   ·have m1 : ((c.nm.toNat : Int) == 123) = true := by rw [k1]; rfl
    have he : (e : Int) = (d : Int) + 1 := by rw [HE3.out, if_pos k1]
    have v2 : (((d : Int) + 1) < 1) = False := by rw [eq_iff_iff, iff_false]; omega
    have HH := hideT he
    have HEM := hideT (show e ≤ m + 1 by omega)
    clear he k1
    go_wp2
    exact ⟨⟨m + 1, e, by omega, by go_num, by rw [HH.out], HEM, hideT HE.out.1, HW4⟩, by simp [intOf]; omega⟩
   have m1 : ((c.nm.toNat : Int) == 123) = false := ckp.ne_byte c.nm 123 (by decide) k1
   by_cases k2 : c.nm = 125
   ·have m2 : ((c.nm.toNat : Int) == 125) = true := by rw [k2]; rfl
    have he : (e : Int) = (d : Int) - 1 := by rw [HE3.out, if_neg k1, if_pos k2]
    have v1 : IntKind.i64.wrap ((d : Int) - 1) = (d : Int) - 1 := by have := HE.out.2; rw [IntKind.wrap_i64]; omega
    have v2 : (((d : Int) - 1) < 1) = False := by have := HE.out.2; rw [eq_iff_iff, iff_false]; omega
    have HH := hideT he
    have HEM := hideT (show e ≤ m + 1 by omega)
    clear he k1 k2
    go_wp2
    exact ⟨⟨m + 1, e, by omega, by go_num, by rw [HH.out], HEM, hideT HE.out.1, HW4⟩, by simp [intOf]; omega⟩
   have m2 : ((c.nm.toNat : Int) == 125) = false := ckp.ne_byte c.nm 125 (by decide) k2
   have he : (e : Int) = (d : Int) := by rw [HE3.out, if_neg k1, if_neg k2]
   have v2 : ((d : Int) < 1) = False := by have := HE.out.2; rw [eq_iff_iff, iff_false]; omega
   have v3 : (d < 1) = False := by have := HE.out.2; rw [eq_iff_iff, iff_false]; omega
   have HH := hideT he
   have HEM := hideT (show e ≤ m + 1 by omega)
   clear he k1 k2
   go_wp2
   exact ⟨⟨m + 1, e, by omega, by go_num, by rw [HH.out], HEM, hideT HE.out.1, HW4⟩, by simp [intOf]; omega⟩
  ·obtain rfl : m = M := by omega
   have i1 : ((m : Int) < (m : Int)) = False := by rw [eq_iff_iff, iff_false]; omega
   have hd1 : d = 1 := by
    have h1 := HD.out
    rw [show i + m = j by have := HMM.out; omega, HDD.out] at h1
    exact (Option.some.inj h1).symm
   subst hd1
   go_wp2
   go_ret
   exact ⟨rfl, HW.out⟩
def xim (n : Nat) : Code → Option Code
 | .region i ops d => if i = n then some (.region i ops d) else none
 | .seq a b => match xim n a with
  | some r => some r
  | none => xim n b
 | .block _ c => xim n c
 | .scope c => xim n c
 | .loop c => xim n c
 | .cond _ a b => match xim n a with
  | some r => some r
  | none => xim n b
 | _ => none
noncomputable def reg14 : Code := ((Tryz.f3.body.bind (xim 14)).getD .skip)
theorem seg14 (K : Act → World → Prop) (E : Exit → Act → World → Prop) (W : World) (lg lo n lc k b2 : Nat) (pl nm ak al bk bl : Int) (ar br : ByteArray) (hk : k < n) (x0 : W.cell? ⟨b2, 0, none⟩ = some (.int .i64 pl)) (y0 : W.cell? ⟨lg, lo + k * 19, none⟩ = some (.int .i64 pl)) (x8 : W.cell? ⟨b2, 8, none⟩ = some (.int .u8 nm)) (y8 : W.cell? ⟨lg, lo + k * 19 + 8, none⟩ = some (.int .u8 nm)) (x1 : W.cell? ⟨b2, 1, none⟩ = some (.int .i64 ak)) (y1 : W.cell? ⟨lg, lo + k * 19 + 1, none⟩ = some (.int .i64 ak)) (x2 : W.cell? ⟨b2, 2, none⟩ = some (.int .i64 al)) (y2 : W.cell? ⟨lg, lo + k * 19 + 2, none⟩ = some (.int .i64 al)) (x3 : W.cell? ⟨b2, 3, none⟩ = some (.string ar)) (y3 : W.cell? ⟨lg, lo + k * 19 + 3, none⟩ = some (.string ar)) (x4 : W.cell? ⟨b2, 4, none⟩ = some (.int .i64 bk)) (y4 : W.cell? ⟨lg, lo + k * 19 + 4, none⟩ = some (.int .i64 bk)) (x5 : W.cell? ⟨b2, 5, none⟩ = some (.int .i64 bl)) (y5 : W.cell? ⟨lg, lo + k * 19 + 5, none⟩ = some (.int .i64 bl)) (x6 : W.cell? ⟨b2, 6, none⟩ = some (.string br)) (y6 : W.cell? ⟨lg, lo + k * 19 + 6, none⟩ = some (.string br)) {aa ab ac ad ae af ag ah ai aj am ao ap aq au av aw ax ay az a5 a9 ba bb bc bd be bf bg bh bi bj bm bn bo bp bq bs bt bu bv bw bx bz b0 b1 b3 b4 b5 b6 b7 b8 b9 ca cb cc cd ce cf cg ch ci cj ck cl cm cn co cp cq cr cs ct cu cv cw cx cy cz c0 c1 c2 c3 c4 c5 c6 c7 c8 c9 da db dc dd de df dg dh di dj dk dl dm dn dp dq dr ds dt du dv dw dx dy dz d0 d1 d2 d3 d4 d5 d6 d7 d8 d9 ea eb ec ed ee ef eg eh ei ej ek el en eo ep er es et eu ev ew ex ey ez e0 e1 e2 e3 e4 e5 e6 e7 e8 e9 fa fb fc fd fe ff fg fh fi fj fk fl fm fn fo fp fq fr fs ft fu fv fw fx fy fz f0 f1 f2 f3 f4 f5 f6 f7 f8 f9 ga gb gc gd gf gg gh gi gj gk gl gm gn go gp gq gr gs gu gv gw gx gy gz g0 g1 g2 g3 g4 g5 g6 g7 g8 : Value} (h : ∀ (g9 ha hb hc hd he hf hg hh hi hj hl hm hn ho hp hq hr hs ht hu hv hw hx hy hz h0 h1 h2 h3 h4 h5 h6 h7 h8 h9 ia : Value) (nq : Nat), K ⟨#[aa, ab, ac, ad, ae, .slice (some ⟨lg, lo, none⟩) n lc, af, ag, ah, .int .i64 k, ai, .pointer (some ⟨b2, 0, none⟩), aj, am, ao, ap, aq, au, av, aw, ax, ay, az, a5, a9, ba, bb, bc, bd, be, bf, bg, bh, bi, bj, bm, bn, bo, bp, bq, bs, bt, bu, bv, bw, bx, bz, b0, b1, b3, b4, b5, b6, b7, b8, b9, ca, cb, cc, cd, ce, cf, cg, ch, ci, cj, ck, cl, cm, cn, g9, ha, hb, hc, hd, he, hf, hg, hh, hi, hj, hl, hm, hn, ho, hp, hq, hr, hs, ht, hu, hv, hw, hx, hy, hz, h0, h1, h2, h3, h4, h5, h6, h7, h8, h9, ia, .bool false, dr, ds, dt, du, dv, dw, dx, dy, dz, d0, d1, d2, d3, d4, d5, d6, d7, d8, d9, ea, eb, ec, ed, ee, ef, eg, eh, ei, ej, ek, el, en, eo, ep, er, es, et, eu, ev, ew, ex, ey, ez, e0, e1, e2, e3, e4, e5, e6, e7, e8, e9, fa, fb, fc, fd, fe, ff, fg, fh, fi, fj, fk, fl, fm, fn, fo, fp, fq, fr, fs, ft, fu, fv, fw, fx, fy, fz, f0, f1, f2, f3, f4, f5, f6, f7, f8, f9, ga, gb, gc, gd, gf, gg, gh, gi, gj, gk, gl, gm, gn, go, gp, gq, gr, gs, gu, gv, gw, gx, gy, gz, g0, g1, g2, g3, g4, g5, g6, g7, g8], []⟩ (W.drewN nq)) : Code.wp Tryz.prog reg14 (Exit.then K E) ⟨#[aa, ab, ac, ad, ae, .slice (some ⟨lg, lo, none⟩) n lc, af, ag, ah, .int .i64 k, ai, .pointer (some ⟨b2, 0, none⟩), aj, am, ao, ap, aq, au, av, aw, ax, ay, az, a5, a9, ba, bb, bc, bd, be, bf, bg, bh, bi, bj, bm, bn, bo, bp, bq, bs, bt, bu, bv, bw, bx, bz, b0, b1, b3, b4, b5, b6, b7, b8, b9, ca, cb, cc, cd, ce, cf, cg, ch, ci, cj, ck, cl, cm, cn, co, cp, cq, cr, cs, ct, cu, cv, cw, cx, cy, cz, c0, c1, c2, c3, c4, c5, c6, c7, c8, c9, da, db, dc, dd, de, df, dg, dh, di, dj, dk, dl, dm, dn, dp, dq, dr, ds, dt, du, dv, dw, dx, dy, dz, d0, d1, d2, d3, d4, d5, d6, d7, d8, d9, ea, eb, ec, ed, ee, ef, eg, eh, ei, ej, ek, el, en, eo, ep, er, es, et, eu, ev, ew, ex, ey, ez, e0, e1, e2, e3, e4, e5, e6, e7, e8, e9, fa, fb, fc, fd, fe, ff, fg, fh, fi, fj, fk, fl, fm, fn, fo, fp, fq, fr, fs, ft, fu, fv, fw, fx, fy, fz, f0, f1, f2, f3, f4, f5, f6, f7, f8, f9, ga, gb, gc, gd, gf, gg, gh, gi, gj, gk, gl, gm, gn, go, gp, gq, gr, gs, gu, gv, gw, gx, gy, gz, g0, g1, g2, g3, g4, g5, g6, g7, g8], []⟩ W := by
 have H := hideT h
 clear h
 conv => arg 2; whnf
 have i1 : (k : Int) < (n : Int) := by omega
 have i2 : (0 : Int) ≤ (k : Int) := by omega
 clear hk
 go_quiet (fail)
 have h := H.out
 exact h _ _ _ _ _ _ _ _ _ _ _ _ _ _ _ _ _ _ _ _ _ _ _ _ _ _ _ _ _ _ _ _ _ _ _ _ _ _
end em
end Go.Proofs.YtidgnebbibkmhaaGreatDoor
