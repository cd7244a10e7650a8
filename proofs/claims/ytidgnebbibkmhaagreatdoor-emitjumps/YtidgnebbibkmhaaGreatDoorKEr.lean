/- EmitJumps: the switch, by itself. -/
import Derived.Test.YtidgnebbibkmhaaGreatDoorKEv
import Derived.Test.YtidgnebbibkmhaaGreatDoorKEu
import Derived.Test.YtidgnebbibkmhaaGreatDoorKEo
set_option maxRecDepth 100000
set_option maxHeartbeats 8000000
namespace Go.Proofs.YtidgnebbibkmhaaGreatDoor
open Go.RowKit
open scanP scrP tpl ytb
namespace em
open emP ckp.chkP
def seqOf (n : Nat) : Code → Option Code
 | .seq (.region i ops d) b => if i = n then some (.seq (.region i ops d) b) else seqOf n b
 | .seq a b => match seqOf n a with
  | some r => some r
  | none => seqOf n b
 | .block _ c => seqOf n c
 | .scope c => seqOf n c
 | .loop c => seqOf n c
 | .cond _ a b => match seqOf n a with
  | some r => some r
  | none => seqOf n b
 | _ => none
noncomputable def sw22 : Code := ((Tryz.f3.body.bind (seqOf 22)).getD .skip)
theorem sw_any (Q : Exit → Act → World → Prop) (hQ : ∀ c (a : Act) (d : Tmp) (v : Value) w, Q (.panic c) (a.put (some d) v) w → Q (.panic c) a w) (W : World) (b0 b1 b2 g k : Nat) (L : List (Co × Value)) (cs : List Co) (c : Co) (hm : L.map (·.1) = cs) (hsl : ∀ x ∈ L, ∃ b n m, x.2 = .slice b n m) (hg : W.heap[g]? = some (.cells (opF (jmF cs) (slF cs) 0 L).toArray 41)) (hle : cs.length ≤ 10000) (hck : (chkR (cs.map toCm)).1 = 0) (hc : cs[k]? = some c) (x1 : W.cell? ⟨b0, 1, none⟩ = some (.slice (some ⟨g, 0, none⟩) cs.length cs.length)) (h8 : W.cell? ⟨b2, 8, none⟩ = some (.int .u8 c.nm.toNat)) (h9 : W.cell? ⟨b2, 9, none⟩ = some (.string (bst c.lb))) (h19 : W.cell? ⟨b1, 19, none⟩ = some (.int .i64 (jmF cs k))) {aa ab ac ad ae af ag ah ai aj ak al am ao ap aq ar au av aw ax ay az a3 a9 ba bb bc bd be bf bg bh bi bj bk bl bm bn bo bp bq br bs bt bu bv bw bx bz b3 b4 b5 b6 b7 b8 b9 ca cb cc cd ce cf cg ch ci cj ck cl cm cn co cp cq cr ct cu cv cw cx cy cz c0 c1 c2 c3 c4 c5 c6 c7 c8 c9 da db dc dd de df dg dh di dj dk dl dm dn dp dq dr ds dt du dv dw dx dy dz d0 d1 d2 d3 d4 d5 d6 d7 d8 d9 ea eb ec ed ee ef eg eh ei ej ek el en eo ep er es et eu ev ew ex ey ez e0 e1 e2 e3 e4 e5 e6 e7 e8 e9 fa fb fc fd fe ff fg fh fi fj fk fl fm fn fo fp fq fr fs ft fu fv fw fx fy fz f0 f1 f2 f3 f4 f5 f6 f7 f8 f9 ga gb gc gd gf gg gh gi gj gk gl gm gn go gp gq gr gs gu gv gw gx gy gz g0 g4 g5 g6 g7 : Value} (h : ∀ (g8 g9 ha he hf hh hi hk hl ho hp hq hr hs ht hu hv hw hy hz h0 h1 h2 h3 h4 h5 h6 h7 ia ib ic id ie ig ih ii ij ik il im io ip iq ir it iu iv iw ix iy iz i0 i1 i2 i3 i4 i5 i6 i7 i8 i9 ja jb jc jd je jf jg jh ji jj jk jl jm jn jo jp jq jr js jt ju jv jw jx jy jz ka kc kd ke kf kg kh ki kj kk kl km kn ko kp kq kr : Value) (w' : World), Below W.heap.size W w' → Q .normal ⟨#[aa, ab, ac, .pointer (some ⟨b0, 0, none⟩), ad, ae, af, ag, ah, .int .i64 k, .pointer (some ⟨b1, 0, none⟩), .pointer (some ⟨b2, 0, none⟩), ai, aj, ak, al, am, ao, ap, aq, ar, au, av, aw, ax, ay, az, a3, a9, ba, bb, bc, bd, be, bf, bg, bh, bi, bj, bk, bl, bm, bn, bo, bp, bq, br, bs, bt, bu, bv, bw, bx, bz, b3, b4, b5, b6, b7, b8, b9, ca, cb, cc, cd, ce, cf, cg, ch, ci, cj, ck, cl, cm, cn, co, cp, cq, cr, ct, cu, cv, cw, cx, cy, cz, c0, c1, c2, c3, c4, c5, c6, c7, c8, c9, da, db, dc, dd, de, df, dg, dh, di, dj, dk, dl, dm, dn, dp, dq, dr, ds, dt, du, dv, dw, dx, dy, dz, g8, g9, ha, he, hf, hh, hi, hk, hl, ho, hp, hq, hr, hs, ht, hu, hv, hw, hy, hz, h0, h1, h2, h3, h4, h5, h6, h7, ia, ib, ic, id, ie, ig, ih, ii, ij, ik, il, im, io, ip, iq, ir, it, iu, iv, iw, ix, iy, iz, i0, i1, i2, i3, i4, i5, i6, i7, i8, i9, ja, jb, jc, jd, je, jf, jg, jh, ji, jj, jk, jl, jm, jn, jo, jp, jq, jr, js, jt, ju, jv, jw, jx, jy, jz, ka, kc, kd, ke, kf, kg, kh, ki, kj, kk, kl, km, kn, ko, kp, kq, kr, g0, g4, g5, g6, g7], []⟩ w') : Code.wp Tryz.prog sw22 Q ⟨#[aa, ab, ac, .pointer (some ⟨b0, 0, none⟩), ad, ae, af, ag, ah, .int .i64 k, .pointer (some ⟨b1, 0, none⟩), .pointer (some ⟨b2, 0, none⟩), ai, aj, ak, al, am, ao, ap, aq, ar, au, av, aw, ax, ay, az, a3, a9, ba, bb, bc, bd, be, bf, bg, bh, bi, bj, bk, bl, bm, bn, bo, bp, bq, br, bs, bt, bu, bv, bw, bx, bz, b3, b4, b5, b6, b7, b8, b9, ca, cb, cc, cd, ce, cf, cg, ch, ci, cj, ck, cl, cm, cn, co, cp, cq, cr, ct, cu, cv, cw, cx, cy, cz, c0, c1, c2, c3, c4, c5, c6, c7, c8, c9, da, db, dc, dd, de, df, dg, dh, di, dj, dk, dl, dm, dn, dp, dq, dr, ds, dt, du, dv, dw, dx, dy, dz, d0, d1, d2, d3, d4, d5, d6, d7, d8, d9, ea, eb, ec, ed, ee, ef, eg, eh, ei, ej, ek, el, en, eo, ep, er, es, et, eu, ev, ew, ex, ey, ez, e0, e1, e2, e3, e4, e5, e6, e7, e8, e9, fa, fb, fc, fd, fe, ff, fg, fh, fi, fj, fk, fl, fm, fn, fo, fp, fq, fr, fs, ft, fu, fv, fw, fx, fy, fz, f0, f1, f2, f3, f4, f5, f6, f7, f8, f9, ga, gb, gc, gd, gf, gg, gh, gi, gj, gk, gl, gm, gn, go, gp, gq, gr, gs, gu, gv, gw, gx, gy, gz, g0, g4, g5, g6, g7], []⟩ W := by
 have H := hideT h
 have HM := hideT hm
 have HSL := hideT hsl
 have HG := hideT hg
 have HC := hideT hc
 have HCK := hideT hck
 have hkn := (List.getElem?_eq_some_iff.1 hc).1
 have hjm : jmF cs k = (jmN cs k c : Nat) := by rw [jmF, hc]
 rw [hjm] at h19
 have hat : ∀ (j : Nat) (d : Co), cs[j]? = some d → W.cell? ⟨g, j * 21 + 8, none⟩ = some (.int .u8 (d.nm.toNat : Nat)) ∧ W.cell? ⟨g, j * 21 + 9, none⟩ = some (.string (bst d.lb)) := fun j d hd => by
  have hjL : j < L.length := by have := (List.getElem?_eq_some_iff.1 hd).1; rw [← HM.out, List.length_map] at this; exact this
  have hx := List.getElem?_eq_getElem hjL
  have e : (L[j]'hjL).1 = d := by rw [← HM.out, List.getElem?_map, hx] at hd; simpa using hd
  exact ⟨CmAt2.cell HG.out _ (xhd _ _ hx (m := 8) (by rw [e]; rfl)), CmAt2.cell HG.out _ (xhd _ _ hx (m := 9) (by rw [e]; rfl))⟩
 have HAT := hideT hat
 clear h hm hsl hg hc hck hjm hat
 conv => arg 2; whnf
 by_cases k1 : c.nm = 123
 ·have m1 : ((c.nm.toNat : Int) == 123) = true := by rw [k1]; rfl
  obtain ⟨g1, g2, ⟨d, hd, hdn⟩, g3⟩ := jmp_block HCK.out HC.out k1
  have hn8 := (HAT.out _ d hd).1
  rw [hdn] at hn8
  obtain ⟨j, hj⟩ : ∃ j, j = jmN cs k c := ⟨_, rfl⟩
  rw [← hj] at g1 g2 g3 hn8 h19
  obtain ⟨n, hn⟩ : ∃ n, n = cs.length := ⟨_, rfl⟩
  have HDE := hideT (depth_any W g k j (n - k) L cs (jmF cs) (slF cs) HM.out HSL.out HG.out g1 (by omega) hle g3)
  rw [← hn] at g2 hkn x1
  have j0 : ((j : Int) ≤ (k : Int)) = False := eq_false (by omega)
  have j1 : ((n : Int) ≤ (j : Int)) = False := eq_false (by omega)
  have j0' : (j ≤ k) = False := eq_false (by omega)
  have j1' : (n ≤ j) = False := eq_false (by omega)
  have j2 : (j : Int) < (n : Int) := by omega
  have j3 : (0 : Int) ≤ (j : Int) := by omega
  have j4 : (0 : Int) ≤ (k : Int) := by omega
  have j5 : (k : Int) ≤ (j : Int) := by omega
  have j6 : (j : Int) ≤ (n : Int) := by omega
  have j7 : (n = k) = False := eq_false (by omega)
  have j8 : ((j : Int) < 0) = False := eq_false (by omega)
  have j9 : ((k : Int) < 0) = False := eq_false (by omega)
  have j10 : ((j : Int) < (k : Int)) = False := eq_false (by omega)
  have j11 : ((n : Int) < (j : Int)) = False := eq_false (by omega)
  clear k1 g1 g2 g3 hd hdn hj hn hkn hle
  go_wp2_with fail
  refine HDE.out.mono ?_
  rintro e w2 ⟨rfl, hb2⟩
  go_wp2
  apply H.out
  exact hb2
 have m1 : ((c.nm.toNat : Int) == 123) = false := ckp.ne_byte c.nm 123 (by decide) k1
 by_cases kb : c.nm = 98 ∨ c.nm = 116
 ·obtain ⟨q1, q2⟩ := jmp_label HCK.out HC.out kb
  have hb : ((c.nm.toNat : Int) == 98) = true ∨ ((c.nm.toNat : Int) == 98) = false ∧ ((c.nm.toNat : Int) == 116) = true := by
   rcases kb with e | e <;> rw [e]
   ·exact .inl rfl
   ·exact .inr ⟨rfl, rfl⟩
  cases hlb : c.lb with
  | nil =>
   have hj := q1 hlb
   rw [hj] at h19
   rw [hlb] at h9
   clear q1 q2 hlb hj k1 kb hkn
   rcases hb with m4 | ⟨m4, m5⟩
   all_goals
    go_upto_region 30 with fail
    refine seg30a _ _ ?hE W b0 b1 b2 g cs.length x1 h19 h9 ?_
    case hE => exact fun c a d v w h => hQ c a d v w h
    intros
    go_wp2
    apply H.out
    exact (below_drewN _ _ _)
  | cons b r =>
   obtain ⟨d, hd, hd1, hd2⟩ := q2 (by rw [hlb]; simp)
   have hn := HAT.out _ d hd
   rw [hd1, hd2, hlb] at hn
   rw [hlb] at h9
   have hjn : jmN cs k c < cs.length := (List.getElem?_eq_some_iff.1 hd).1
   obtain ⟨j, hj⟩ : ∃ j, j = jmN cs k c := ⟨_, rfl⟩
   rw [← hj] at hn h19 hjn
   obtain ⟨n8, n9⟩ := hn
   clear q1 q2 hlb hd hd1 hd2 hj k1 kb hkn
   rcases hb with m4 | ⟨m4, m5⟩
   all_goals
    go_upto_region 30 with fail
    refine seg30b _ _ ?hE W b0 b1 b2 g cs.length x1 j b r hjn h19 h9 n8 n9 ?_
    case hE => exact fun c a d v w h => hQ c a d v w h
    intros
    go_wp2
    apply H.out
    exact (below_drewN _ _ _)
 ·have m4 : ((c.nm.toNat : Int) == 98) = false := ckp.ne_byte c.nm 98 (by decide) (fun e => kb (.inl e))
  have m5 : ((c.nm.toNat : Int) == 116) = false := ckp.ne_byte c.nm 116 (by decide) (fun e => kb (.inr e))
  rw [jmp_else k1 (fun e => kb (.inl e)) (fun e => kb (.inr e))] at h19
  clear k1 kb hkn
  go_wp2
  apply H.out
  exact (Below.refl _ _)
theorem slN_le (l : List Co) : slN l ≤ l.length := by
 induction l with
 | nil => exact Nat.le_refl _
 | cons c r ih => rw [slN, List.length_cons]; split <;> omega
theorem two_new (w : World) (o p : Obj) : ∃ X, X = (w.alloc o).alloc p ∧ Below w.heap.size w X ∧ X.heap[w.heap.size]? = some o ∧ X.heap[w.heap.size + 1]? = some p ∧ X.heap.size = w.heap.size + 1 + 1 := by
 have hA1 := (Below.refl w.heap.size w).alloc (Nat.le_refl _) o
 have e1 := xcl w o
 have hA2 := (Below.refl _ (w.alloc o)).alloc (Nat.le_refl _) p
 have hN2 := heap_alloc_new (w.alloc o) p
 rw [e1] at hA2 hN2
 exact ⟨_, rfl, hA1.trans (hA2.mono (by omega)), (hA2.block _ (by omega)).trans (heap_alloc_new w o), hN2, by rw [xcl, xcl]⟩
theorem jumps_any (s : ByteArray) (hs : s.size ≤ 140737488355000) (w : World) (hg : Gl w) : Calls Tryz.prog 3 #[.string s] w fun e w' => e = .returned (.bool true) ∧ Below w.heap.size w w' := by
 have HAW := hideT (awake_any w hg)
 have HG := hideT hg
 clear hg
 go_enter Tryz.func3, Tryz.ntmps3
 go_wp2_with fail
 refine HAW.out.mono ?_
 rintro e w1 ⟨rfl, hb1⟩
 have HW1 := hideT hb1
 have HB := hideT (xeq s hs w1 (HG.out.below hb1))
 obtain ⟨R, hR⟩ : ∃ R, R = scrR gM s.data.toList := ⟨_, rfl⟩
 rw [← hR] at HB
 have HRR := hideT hR
 clear hR hb1 HAW
 go_wp2_with fail
 refine HB.out.mono ?_
 intro e w2 h2
 have HB2 := hideT h2.1
 have h2 := h2.2
 clear HB
 cases hbs : bldS R with
 | inl x =>
  obtain ⟨x, y⟩ := x
  rw [hbs] at h2
  simp only at h2
  obtain ⟨hx, rfl⟩ := h2
  have p3 : ((x : Int) != 0) = true := by rw [bne_iff_ne]; omega
  obtain ⟨X, hX, hB, hP, hF, _⟩ := two_new w2 (.cells #[.bool false, .slice none 0 0, .int .i64 0, .slice none 0 0] 26) (.cells #[.int .i64 x, .int .i64 y] 29)
  have hW := HW1.out.trans (HB2.out.mono HW1.out.size)
  have hWX := hW.trans (hB.mono hW.size)
  have HPA := hideT (parse_ok s hs X (HG.out.below hWX))
  have c0 := CmAt2.cell hP 0 (v := .bool false) rfl
  have c1 := CmAt2.cell hP 1 (v := .slice none 0 0) rfl
  have c2 := CmAt2.cell hP 2 (v := .int .i64 0) rfl
  have c3 := CmAt2.cell hP 3 (v := .slice none 0 0) rfl
  have d0 := CmAt2.cell (xs := [.int .i64 x, .int .i64 y]) hF 0 rfl
  have HWX := hideT hWX
  clear hbs hx hW hB hP hF hWX
  go_upto_region 4 with fail
  rw [← hX]
  clear hX
  generalize w2.heap.size = b0 at *
  go_wp2_with fail
  refine HPA.out.mono ?_
  rintro e w3 ⟨v, L2, rfl, hL, hm, hb3⟩
  have k0 := keep_cell hb3 c0
  have k1 := keep_cell hb3 c1
  have k2 := keep_cell hb3 c2
  have k3 := keep_cell hb3 c3
  have k4 := keep_cell hb3 d0
  have HW3 := hideT (HWX.out.trans (hb3.mono HWX.out.size))
  clear hL hm hb3 c0 c1 c2 c3 d0 HPA
  obtain ⟨q1, hq1⟩ : ∃ q, q = (scrR gM s.data.toList).2.1 := ⟨_, rfl⟩
  obtain ⟨q2, hq2⟩ : ∃ q, q = (scrR gM s.data.toList).2.2.1 := ⟨_, rfl⟩
  obtain ⟨q3, hq3⟩ : ∃ q, q = (scrR gM s.data.toList).2.2.2 := ⟨_, rfl⟩
  rw [← hq1, ← hq2, ← hq3]
  clear hq1 hq2 hq3
  have hA := (Below.refl w3.heap.size w3).alloc (Nat.le_refl _) (.cells #[.int .i64 q2, .int .i64 q3] 29)
  have HWF := hideT (HW3.out.trans (hA.mono HW3.out.size))
  have l0 := keep_cell hA k0
  have l1 := keep_cell hA k1
  have l2 := keep_cell hA k2
  have l3 := keep_cell hA k3
  have l4 := keep_cell hA k4
  go_upto_region 5 with fail
  obtain ⟨X3, hX3⟩ : ∃ X, X = w3.alloc (.cells #[.int .i64 q2, .int .i64 q3] 29) := ⟨_, rfl⟩
  rw [← hX3] at l0 l1 l2 l3 l4 HWF ⊢
  clear hA hX3 k0 k1 k2 k3 k4
  go_wp2
  go_ret
  exact ⟨rfl, HWF.out⟩
 | inr fs =>
  rw [hbs] at h2
  simp only at h2
  obtain ⟨L, g, fv, hm, hsl, h0, hck, hwt, hgY, hgb, hfv, rfl⟩ := h2
  obtain ⟨fa, fc, hfs⟩ := owns_shape hfv
  subst hfs
  obtain ⟨cs, qu, E, p⟩ := R
  simp only at hm h0 hck hwt hgb ⊢
  have HLE := hideT (show cs.length ≤ 10000 by
   have hf : Fields s.data.toList cs := by
    have := xe4 (G := gM) (l := s.data.toList) (by rw [← HRR.out]; exact h0)
    rw [← HRR.out] at this
    exact this
   have h1 := xhe hf
   obtain ⟨h2, _⟩ := xhc (G := gM) (l := s.data.toList) (by rw [← HRR.out]; exact h0)
   omega)
  have HSL := hideT hsl
  have HM := hideT hm
  have HCK := hideT hck
  obtain ⟨X, hX, hB, hP, hF, _⟩ := two_new w2 (.cells #[.bool qu, .slice (some ⟨g, 0, none⟩) cs.length cs.length, .int .i64 (slN cs : Nat), .slice fa fs.length fc] 26) (.cells #[.int .i64 0, .int .i64 0] 29)
  have hW := HW1.out.trans (HB2.out.mono HW1.out.size)
  have hWX := hW.trans (hB.mono hW.size)
  have HPA := hideT (parse_ok s hs X (HG.out.below hWX))
  have hgX := (hB.block g (xah hgb)).trans hgb
  have HWX := hideT hWX
  have HGX := hideT hgX
  have HPX := hideT (And.intro hP hF)
  clear hbs hm hsl h0 hck hwt hgY hgb hfv hW hB hP hF hWX hgX
  go_upto_region 4 with fail
  rw [← hX]
  clear hX
  generalize w2.heap.size = b0 at *
  go_wp2_with fail
  refine HPA.out.mono ?_
  rintro e w3 ⟨v, L2, rfl, hL, hm2, hb3⟩
  rw [← HRR.out] at hm2 ⊢
  simp only at hm2 ⊢
  have HQ2 := hideT (QRow.of_ls hL)
  have HM2 := hideT hm2
  have hA := (Below.refl w3.heap.size w3).alloc (Nat.le_refl _) (.cells #[.int .i64 E, .int .i64 p] 29)
  have hBA := hb3.trans (hA.mono hb3.size)
  have HQ3 := hideT (HQ2.out.stay hA)
  have HGZ := hideT ((hBA.block g (xah HGX.out)).trans HGX.out)
  have HPZ := hideT (And.intro ((hBA.block b0 (xah HPX.out.1)).trans HPX.out.1) ((hBA.block (b0 + 1) (xah HPX.out.2)).trans HPX.out.2))
  have HWZ := hideT (HWX.out.trans (hBA.mono HWX.out.size))
  clear hL hm2 hb3 hA hBA HPA HQ2 HGX HPX HWX
  go_upto_region 5 with fail
  obtain ⟨Z, hZ⟩ : ∃ X, X = w3.alloc (.cells #[.int .i64 E, .int .i64 p] 29) := ⟨_, rfl⟩
  rw [← hZ] at HQ3 HGZ HPZ HWZ ⊢
  clear hZ
  obtain ⟨la, lc, rfl, _, hrow⟩ := HQ3.out
  have hll : L2.length = cs.length := by rw [← HM2.out, List.length_map]
  rw [hll]
  have HROW := hideT hrow
  clear hrow hll HQ3
  have c0 := CmAt2.cell HPZ.out.1 0 (v := .bool qu) rfl
  have c1 := CmAt2.cell HPZ.out.1 1 (v := .slice (some ⟨g, 0, none⟩) cs.length cs.length) rfl
  have c2 := CmAt2.cell HPZ.out.1 2 (v := .int .i64 (slN cs : Nat)) rfl
  have d0 := CmAt2.cell (xs := [.int .i64 0, .int .i64 0]) HPZ.out.2 0 rfl
  generalize w3.heap.size = b3 at *
  go_wp2_with fail
  go_loopw [8, 63] (fun sl i wr => ∃ k : Nat, k ≤ cs.length ∧ i = .int .i64 k ∧ sl = .int .i64 (slN (cs.take k) : Nat) ∧ Hid (Below Z.heap.size Z wr)) (fun _ i _ => cs.length - (intOf i).toNat)
  case atStart => exact ⟨0, by omega, rfl, rfl, hideT (Below.refl _ _)⟩
  case round =>
   obtain ⟨k, hk, rfl, rfl, HW⟩ := hrel
   have hle := HLE.out
   by_cases hlt : k < cs.length
   ·obtain ⟨x, hx, hxc⟩ : ∃ x, L[k]? = some x ∧ cs[k]? = some x.1 := by
     have hkL : k < L.length := by rw [← HM.out, List.length_map] at hlt; exact hlt
     refine ⟨L[k]'hkL, List.getElem?_eq_getElem hkL, ?_⟩
     rw [← HM.out, List.getElem?_map, List.getElem?_eq_getElem hkL]; rfl
    obtain ⟨x2, hx2, hxe⟩ : ∃ x2, L2[k]? = some x2 ∧ x2.1 = x.1 := by
     have hkL : k < L2.length := by rw [← HM2.out, List.length_map] at hlt; exact hlt
     refine ⟨L2[k]'hkL, List.getElem?_eq_getElem hkL, ?_⟩
     rw [← HM2.out, List.getElem?_map, List.getElem?_eq_getElem hkL] at hxc
     simpa using hxc
    obtain ⟨lg, lo, rfl, hr2⟩ := HROW.out k x2 hx2
    rw [hxe] at hr2
    have hgw := (HW.out.block g (xah HGZ.out)).trans HGZ.out
    have hr := xmz hgw hx
    obtain ⟨pb, pn, pm, hpv⟩ := HSL.out x (List.mem_of_getElem? hx)
    obtain ⟨c, pv⟩ := x
    obtain ⟨c2, pv2⟩ := x2
    simp only at hr hpv hxc hr2
    have HXC := hideT hxc
    have hR2 := xdr hr2 (HW.out.block lg (xic hr2))
    have HR2 := hideT hR2
    have i1 : (k : Int) < (cs.length : Int) := by omega
    have i2 : (0 : Int) ≤ (k : Int) := by omega
    obtain ⟨J, hJ⟩ : ∃ J, J = jmF cs k := ⟨_, rfl⟩
    obtain ⟨SL, hSL⟩ : ∃ J, J = slF cs k := ⟨_, rfl⟩
    rw [← hJ, ← hSL] at hr
    obtain ⟨xs, hxs⟩ : ∃ xs, xs = opV c pv J SL := ⟨_, rfl⟩
    obtain ⟨ys, hys⟩ : ∃ ys, ys = coV c pv := ⟨_, rfl⟩
    rw [← hxs] at hr
    have HQ := hideT hr
    have hxl : xs.length = 21 := by rw [hxs]; rfl
    have hyl : ys.length = 19 := by rw [hys]; rfl
    have hpo : pv.oneCell' = true := by rw [hpv]; rfl
    have IM := hideT (show (Tryz.prog.info? 39).map (·.size) = some ys.length by rw [hyl]; exact xcm)
    have IO := hideT (show (Tryz.prog.info? 41).map (·.size) = some xs.length by rw [hxl]; exact xlk)
    have O9 := hideT (show ys.toArray.all (·.oneCell') = true by rw [hys]; exact xd0 _ _ hpo)
    have OO := hideT (show xs.toArray.all (·.oneCell') = true by rw [hxs]; exact xll _ _ _ _ hpo)
    have ZL := hideT (show zC.length = ys.length by rw [hyl]; rfl)
    have ZO := hideT (show zO.length = xs.length by rw [hxl]; rfl)
    have HRY := hideT (fun (V : World) (b : Nat) (h : V.heap[b]? = some (.cells xs.toArray 41)) => show V.rangeAt b 0 ys by rw [hxs] at h; rw [hys]; exact op_cmd h)
    have HX := hideT hxs
    have HY := hideT hys
    have HJ := hideT hJ
    have HSS := hideT hSL
    clear hx hxc hx2 hxe hgw hr hr2 hR2 hpv hJ hSL hxs hys hxl hyl hpo
    go_upto_region 14 with (first | (refine wpList_load_mid rfl 41 _ rfl g (k * 21) rfl xs _ HQ.out und_op rfl IO.out ?_) | (refine al_op rfl rfl ?_; intro w4 H4) | (refine xj1 rfl 41 _ _ rfl xs zO rfl rfl H4.out ZO.out IO.out OO.out ?_; intro w5 H5) | (refine wpList_load_mid rfl 39 _ rfl wr.heap.size 0 rfl ys _ (HRY.out _ _ H5.out.blk) xc9 rfl IM.out ?_) | (refine xq2 rfl rfl ?_; intro w6 H6) | (refine xj1 rfl 39 _ _ rfl ys zC rfl rfl H6.out ZL.out IM.out O9.out ?_; intro w7 H7))
    have hb7 : Below wr.heap.size wr w7 := H5.out.bel.trans (H7.out.bel.mono (by have := H5.out.sz; omega))
    have hk10 := (H7.out.bel.block wr.heap.size (by have := H5.out.sz; omega)).trans H5.out.blk
    have HW7 := hideT (HW.out.trans (hb7.mono HW.out.size))
    have h39 : w7.rangeAt w5.heap.size 0 (coV c pv) := by have := H7.out.blk; rw [HY.out] at this; exact range_block this
    have hl39 := xdr HR2.out (hb7.block lg (xic HR2.out))
    have H41 := hideT (show w7.rangeAt wr.heap.size 0 (opV c pv J SL) by rw [HX.out] at hk10; exact range_block hk10)
    have H39 := hideT h39
    have HL39 := hideT hl39
    clear hb7 hk10 h39 hl39 H4 H5 H6 H7 HQ IM IO O9 OO ZL ZO HRY HX HY HW HR2
    generalize wr.heap.size = b1 at *
    generalize w5.heap.size = b2 at *
    refine seg14 _ _ _ lg lo cs.length lc k b2 (c.pl : Nat) (c.nm.toNat : Nat) (c.a.k : Nat) (c.a.ln : Nat) (c.b.k : Nat) (c.b.ln : Nat) (bst c.a.re) (bst c.b.re) hlt (H39.out 0 _ rfl) (HL39.out 0 _ rfl) (by simpa using H39.out 8 _ rfl) (HL39.out 8 _ rfl) (by simpa using H39.out 1 _ rfl) (HL39.out 1 _ rfl) (by simpa using H39.out 2 _ rfl) (HL39.out 2 _ rfl) (by simpa using H39.out 3 _ rfl) (HL39.out 3 _ rfl) (by simpa using H39.out 4 _ rfl) (HL39.out 4 _ rfl) (by simpa using H39.out 5 _ rfl) (HL39.out 5 _ rfl) (by simpa using H39.out 6 _ rfl) (HL39.out 6 _ rfl) ?_
    intros
    rename_i nq
    obtain ⟨w8, hw8⟩ : ∃ w8, w8 = w7.drewN nq := ⟨_, rfl⟩
    rw [← hw8]
    have HW8 := hideT (show Below Z.heap.size Z w8 by rw [hw8]; exact HW7.out.trans (below_drewN _ _ _))
    rw [show w7.rangeAt b1 0 (opV c pv J SL) = w8.rangeAt b1 0 (opV c pv J SL) by rw [hw8]; rfl] at H41
    rw [show w7.rangeAt b2 0 (coV c pv) = w8.rangeAt b2 0 (coV c pv) by rw [hw8]; rfl] at H39
    clear hw8 HL39 HW7
    have a4 : w8.cell? ⟨b2, 4, none⟩ = some (.int .i64 c.b.k) := by simpa using H39.out 4 _ rfl
    have a8 : w8.cell? ⟨b2, 8, none⟩ = some (.int .u8 c.nm.toNat) := by simpa using H39.out 8 _ rfl
    have a19 : w8.cell? ⟨b1, 19, none⟩ = some (.int .i64 J) := by simpa using H41.out 19 _ rfl
    have a20 : w8.cell? ⟨b1, 20, none⟩ = some (.int .i64 SL) := by simpa using H41.out 20 _ rfl
    go_upto_region 16 with fail
    rename_i K1 h1 K0 h0
    replace h1 := fun (a : Act) (w : World) (h : Code.wp Tryz.prog sw22 _ a w) => h1 a w h
    have hcf := HXC.out
    have hSn : SL = if c.b.k = 0 then (-1 : Int) else ((slN (cs.take k) : Nat) : Int) := by rw [HSS.out, slF, hcf]
    have htk : slN (cs.take (k + 1)) = slN (cs.take k) + (if c.b.k = 0 then 0 else 1) := by rw [List.take_add_one, hcf, slN_app]; simp [slN]
    have hsk : slN (cs.take k) ≤ k := Nat.le_trans (slN_le _) (by rw [List.length_take]; omega)
    have hx1 := keep_cell HW8.out c1
    have hx9 : w8.cell? ⟨b2, 9, none⟩ = some (.string (bst c.lb)) := by simpa using H39.out 9 _ rfl
    have HG8 := hideT ((HW8.out.block g (xah HGZ.out)).trans HGZ.out)
    rw [HJ.out] at a19
    obtain ⟨S, hS⟩ : ∃ S, S = slN (cs.take k) := ⟨_, rfl⟩
    rw [← hS] at hSn htk hsk ⊢
    clear hcf hS HSS HJ H39 H41
    have hh : (((c.b.k : Int) != 0) = false ∧ SL = -1 ∧ slN (cs.take (k + 1)) = S) ∨ (((c.b.k : Int) != 0) = true ∧ SL = S ∧ slN (cs.take (k + 1)) = S + 1) := by
     by_cases kb : c.b.k = 0
     ·rw [if_pos kb] at hSn htk; exact .inl ⟨by rw [kb]; rfl, hSn, htk⟩
     ·rw [if_neg kb] at hSn htk; exact .inr ⟨by rw [bne_iff_ne]; omega, hSn, htk⟩
    clear hSn htk
    rcases hh with ⟨hz, hSn, htk⟩ | ⟨hz, hSn, htk⟩
    all_goals
     rw [hSn] at a20
     have HTK := hideT htk
     clear hSn htk
     go_wp2_with fail
     refine sw_any _ (fun c a d v w h => h) w8 b0 b1 b2 g k L cs c HM.out HSL.out HG8.out HLE.out HCK.out HXC.out hx1 a8 hx9 a19 ?_
     intros
     rename_i wz hbz
     have HWQ := hideT (HW8.out.trans (hbz.mono HW8.out.size))
     clear hbz hx1 a4 a8 hx9 a19 a20
     go_wp2
     exact ⟨⟨k + 1, by omega, by go_num, by rw [HTK.out]; try go_num, HWQ⟩, by simp [intOf]; omega⟩
   ·obtain rfl : k = cs.length := by omega
    have i1 : ((cs.length : Int) < (cs.length : Int)) = False := eq_false (by omega)
    rw [List.take_length]
    have c2' := keep_cell HW.out c2
    have HWF := hideT (HWZ.out.trans (HW.out.mono HWZ.out.size))
    go_wp2
    go_ret
    exact ⟨rfl, HWF.out⟩
end em
end Go.Proofs.YtidgnebbibkmhaaGreatDoor
