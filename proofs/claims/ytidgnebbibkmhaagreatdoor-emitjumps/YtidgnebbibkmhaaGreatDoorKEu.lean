/- EmitJumps: region 30's test, without a label. -/
import Derived.Test.YtidgnebbibkmhaaGreatDoorKXr
set_option maxRecDepth 100000
set_option maxHeartbeats 8000000
namespace Go.Proofs.YtidgnebbibkmhaaGreatDoor
open Go.RowKit
namespace em
theorem bst_ta (s : List UInt8) : (bst s).toList = s := by rw [ByteArray.toList_eq]; rfl
def rga (n : Nat) : Code → Option Code
 | .region i ops d => if i = n then some (.region i ops d) else none
 | .seq a b => match rga n a with
  | some r => some r
  | none => rga n b
 | .block _ c => rga n c
 | .scope c => rga n c
 | .loop c => rga n c
 | .cond _ a b => match rga n a with
  | some r => some r
  | none => rga n b
 | _ => none
noncomputable def r30a : Code := ((Tryz.f3.body.bind (rga 30)).getD .skip)
theorem tZa {P : Program} {ops : Array Oper} {Q : Exit → Act → World → Prop} {S : World → Prop} {md : Region.Mode} (i : Nat) (d : Tmp) {w : World} (hS : S w) {oi : Oper} {fuel : Nat} {listed : Array Bool} {a : Act} (h : wpAnyH P md ops Q S fuel (listed.setIfInBounds i true) (a.put (some d) undef) w) (hi : ops[i]? = some oi := by rfl) (hd : oi.dst = some d := by rfl)
  (hs : Region.noSelect ops = true := by kernel_rfl) (hf : Region.free md ops listed i = true := by kernel_rfl) (hr : (Region.ready md ops listed).contains i = true := by kernel_rfl)
  (hQ : ∀ c (a : Act) (d : Tmp) (v : Value) w, Q (.panic c) (a.put (some d) v) w → Q (.panic c) a w := by assumption) (hw : Region.wanted oi (yielded ops a.tmps) = false := by rfl) : wpAnyH P md ops Q S (fuel + 1) listed a w := by
 have e : wpAnyH P md ops Q S fuel (listed.setIfInBounds i true) (a.put oi.dst undef) w := by rw [hd]; exact h
 exact wpAnyH_take hi hs hf hr (by rw [hd]; exact fun c a w h => hQ c a d undef w h) (Or.inr ⟨hw, rfl⟩) hS e
theorem tQa {P : Program} {ops : Array Oper} {Q : Exit → Act → World → Prop} {S : World → Prop} {md : Region.Mode} (i : Nat) (d : Tmp) {w : World} (hS : S w) {oi : Oper} {v : Value} {fuel : Nat} {listed : Array Bool} {a : Act} (h : wpAnyH P md ops Q S fuel (listed.setIfInBounds i true) (a.put (some d) v) w) (hi : ops[i]? = some oi := by rfl) (hd : oi.dst = some d := by rfl)
  (hs : Region.noSelect ops = true := by kernel_rfl) (hf : Region.free md ops listed i = true := by kernel_rfl) (hr : (Region.ready md ops listed).contains i = true := by kernel_rfl)
  (hQ : ∀ c (a : Act) (d : Tmp) (v : Value) w, Q (.panic c) (a.put (some d) v) w → Q (.panic c) a w := by assumption) (hw : Region.wanted oi (yielded ops a.tmps) = true := by first | exact wanted_none rfl _ | rfl) (hy : ∀ w, S w → (execOp a.eval oi).run P w = .ok (.value v) w := by intro V hV; go_simp; (try with_reducible rfl)) : wpAnyH P md ops Q S (fuel + 1) listed a w :=
 tq i d hS h hi hd hs hf hr (fun c a w h => hQ c a d v w h) hw hy
theorem seg30a (K : Act → World → Prop) (E : Exit → Act → World → Prop) (hE : ∀ c (a : Act) (d : Tmp) (v : Value) w, E (.panic c) (a.put (some d) v) w → E (.panic c) a w) (W : World) (pb b1 b2 g n : Nat) (x1 : W.cell? ⟨pb, 1, none⟩ = some (.slice (some ⟨g, 0, none⟩) n n)) (x2 : W.cell? ⟨b1, 19, none⟩ = some (.int .i64 n)) (x3 : W.cell? ⟨b2, 9, none⟩ = some (.string (bst []))) {aa ab ac ad ae af ag ah ai aj ak al am ao ap aq ar au av aw ax ay az a3 ba bb bc bd be bf bg bh bi bj bk bl bm bn bo bp bq br bs bt bu bv bw bx bz b0 b3 b4 b5 b6 b7 b8 b9 ca cb cc cd ce cf cg ch ci cj ck cl cm cn co cp cq cr cs ct cu cv cw cx cy cz c0 c1 c2 c3 c4 c5 c6 c7 c8 c9 da db dc dd de df dg dh di dj dk dl dm dn dp dq dr ds dt du dv dw dx dy dz d0 d1 d2 d3 d4 d5 d6 d7 d8 d9 ea eb ec ed ee ef eg eh ei ej ek el en eo ep er es et eu ev ew ex ey ez e0 e1 e2 e3 e4 e5 e6 e7 e8 e9 fa fb fc fd fe ff fg fh fi fj fk fl fm fn fo fp fq fr fs ft fu fv fw fx fy fz f0 f1 f2 f3 f4 f5 f6 f7 f8 f9 ga gb gc gd gf gg gh gi gj gk gl gm gn go gp gq gr gs gu gv gw gx gy gz g0 g1 g2 g3 g4 : Value} (h : ∀ (g5 g6 g7 g8 g9 ha hb hc he hg hh hj hk hl hm hn ho hp hq ht hu hv hx hz h0 h1 h2 h3 h4 h5 h6 h7 h8 h9 ia ib ic id ie ig ih ii ij ik il im io ip iq ir it iu iv iw ix iy iz i0 i1 i2 : Value) (nq : Nat), K ⟨#[aa, ab, ac, .pointer (some ⟨pb, 0, none⟩), ad, ae, af, ag, ah, ai, .pointer (some ⟨b1, 0, none⟩), .pointer (some ⟨b2, 0, none⟩), aj, ak, al, am, ao, ap, aq, ar, au, av, aw, ax, ay, az, a3, ba, bb, bc, bd, be, bf, bg, bh, bi, bj, bk, bl, bm, bn, bo, bp, bq, br, bs, bt, bu, bv, bw, bx, bz, b0, b3, b4, b5, b6, b7, b8, b9, ca, cb, cc, cd, ce, cf, cg, ch, ci, cj, ck, cl, cm, cn, co, cp, cq, cr, cs, ct, cu, cv, cw, cx, cy, cz, c0, c1, c2, c3, c4, c5, c6, c7, c8, c9, da, db, dc, dd, de, df, dg, dh, di, dj, dk, dl, dm, dn, dp, dq, dr, ds, dt, du, dv, dw, dx, dy, dz, d0, d1, d2, d3, d4, d5, d6, d7, d8, d9, ea, eb, ec, ed, ee, ef, eg, eh, ei, ej, ek, el, en, eo, ep, er, es, et, eu, ev, ew, ex, ey, ez, e0, e1, e2, e3, e4, e5, e6, e7, e8, g5, g6, g7, g8, g9, ha, hb, hc, he, hg, hh, hj, hk, hl, hm, hn, ho, hp, hq, ht, hu, hv, hx, hz, h0, h1, h2, h3, h4, h5, h6, h7, h8, h9, ia, ib, ic, id, ie, ig, ih, ii, ij, ik, il, im, io, ip, iq, ir, it, iu, iv, iw, ix, iy, iz, i0, i1, i2, .bool false, g0, g1, g2, g3, g4], []⟩ (W.drewN nq)) : Code.wp Tryz.prog r30a (Exit.then K E) ⟨#[aa, ab, ac, .pointer (some ⟨pb, 0, none⟩), ad, ae, af, ag, ah, ai, .pointer (some ⟨b1, 0, none⟩), .pointer (some ⟨b2, 0, none⟩), aj, ak, al, am, ao, ap, aq, ar, au, av, aw, ax, ay, az, a3, ba, bb, bc, bd, be, bf, bg, bh, bi, bj, bk, bl, bm, bn, bo, bp, bq, br, bs, bt, bu, bv, bw, bx, bz, b0, b3, b4, b5, b6, b7, b8, b9, ca, cb, cc, cd, ce, cf, cg, ch, ci, cj, ck, cl, cm, cn, co, cp, cq, cr, cs, ct, cu, cv, cw, cx, cy, cz, c0, c1, c2, c3, c4, c5, c6, c7, c8, c9, da, db, dc, dd, de, df, dg, dh, di, dj, dk, dl, dm, dn, dp, dq, dr, ds, dt, du, dv, dw, dx, dy, dz, d0, d1, d2, d3, d4, d5, d6, d7, d8, d9, ea, eb, ec, ed, ee, ef, eg, eh, ei, ej, ek, el, en, eo, ep, er, es, et, eu, ev, ew, ex, ey, ez, e0, e1, e2, e3, e4, e5, e6, e7, e8, e9, fa, fb, fc, fd, fe, ff, fg, fh, fi, fj, fk, fl, fm, fn, fo, fp, fq, fr, fs, ft, fu, fv, fw, fx, fy, fz, f0, f1, f2, f3, f4, f5, f6, f7, f8, f9, ga, gb, gc, gd, gf, gg, gh, gi, gj, gk, gl, gm, gn, go, gp, gq, gr, gs, gu, gv, gw, gx, gy, gz, g0, g1, g2, g3, g4], []⟩ W := by
 have H := hideT h
 clear h
 conv => arg 2; whnf
 have j0 : ((n : Int) < 0) = False := by rw [eq_iff_iff, iff_false]; omega
 have t1 : ((bst []).toList = []) = True := by rw [bst_ta]; simp
 have t2 : (bst []).toList.isEmpty = true := by rw [bst_ta]; rfl
 have t3 : ((bst []).toList == []) = true := by rw [bst_ta]; rfl
 refine wp_region_held (S := fun V => V.cell? ⟨pb, 1, none⟩ = some (.slice (some ⟨g, 0, none⟩) n n) ∧ V.cell? ⟨b1, 19, none⟩ = some (.int .i64 n) ∧ V.cell? ⟨b2, 9, none⟩ = some (.string (bst [])) ∧ True) (by kernel_rfl) ?_
 have s0 : (fun V => V.cell? ⟨pb, 1, none⟩ = some (.slice (some ⟨g, 0, none⟩) n n) ∧ V.cell? ⟨b1, 19, none⟩ = some (.int .i64 n) ∧ V.cell? ⟨b2, 9, none⟩ = some (.string (bst [])) ∧ True) W.drew := ⟨x1, x2, x3, trivial⟩
 refine tQa 0 164 s0 ?_
 refine tQa 1 165 s0 ?_ (hy := by intro V hV; have q := hV.2.1; go_simp; (try with_reducible rfl))
 refine tQa 2 166 s0 ?_
 refine tQa 3 167 s0 ?_
 refine tQa 4 168 s0 ?_
 refine tQa 5 169 s0 ?_ (hy := by intro V hV; have q := hV.2.1; go_simp; (try with_reducible rfl))
 simp only [Act.put, List.setIfInBounds_toArray, List.set_cons_zero, List.set_cons_succ]
 refine tQa 6 170 s0 ?_
 refine tQa 7 171 s0 ?_ (hy := by intro V hV; have q := hV.1; go_simp; (try with_reducible rfl))
 refine tQa 8 172 s0 ?_
 refine tQa 9 173 s0 ?_
 refine tQa 10 174 s0 ?_
 refine tQa 11 175 s0 ?_
 simp only [Act.put, List.setIfInBounds_toArray, List.set_cons_zero, List.set_cons_succ]
 refine tQa 12 176 s0 ?_
 refine tQa 13 177 s0 ?_ (hy := by intro V hV; have q := hV.2.2.1; go_simp; (try with_reducible rfl))
 refine tQa 14 178 s0 ?_
 refine tQa 15 179 s0 ?_
 refine tQa 16 180 s0 ?_
 refine tQa 17 181 s0 ?_ (hy := by intro V hV; have q := hV.2.1; go_simp; (try with_reducible rfl))
 simp only [Act.put, List.setIfInBounds_toArray, List.set_cons_zero, List.set_cons_succ]
 refine tQa 18 182 s0 ?_
 refine tQa 19 183 s0 ?_ (hy := by intro V hV; have q := hV.1; go_simp; (try with_reducible rfl))
 refine tQa 20 184 s0 ?_
 refine tQa 21 185 s0 ?_
 refine tQa 22 186 s0 ?_
 refine tQa 23 187 s0 ?_
 simp only [Act.put, List.setIfInBounds_toArray, List.set_cons_zero, List.set_cons_succ]
 refine tQa 24 188 s0 ?_
 refine tQa 25 189 s0 ?_
 refine tQa 26 190 s0 ?_ (hy := by intro V hV; have q := hV.2.2.1; go_simp; (try with_reducible rfl))
 refine tQa 27 191 s0 ?_
 refine tQa 28 192 s0 ?_
 refine tZa 29 193 s0 ?_
 simp only [Act.put, List.setIfInBounds_toArray, List.set_cons_zero, List.set_cons_succ]
 refine tZa 30 194 s0 ?_
 refine tZa 31 195 s0 ?_
 refine tZa 32 196 s0 ?_
 refine tZa 33 197 s0 ?_
 refine tZa 34 198 s0 ?_
 refine tZa 35 199 s0 ?_
 simp only [Act.put, List.setIfInBounds_toArray, List.set_cons_zero, List.set_cons_succ]
 refine tZa 36 200 s0 ?_
 refine tZa 37 201 s0 ?_
 refine tZa 38 202 s0 ?_
 refine tZa 39 203 s0 ?_
 refine tZa 40 204 s0 ?_
 refine tZa 41 205 s0 ?_
 simp only [Act.put, List.setIfInBounds_toArray, List.set_cons_zero, List.set_cons_succ]
 refine tZa 42 206 s0 ?_
 refine tZa 43 207 s0 ?_
 refine tZa 44 208 s0 ?_
 refine tZa 45 209 s0 ?_
 refine tZa 46 210 s0 ?_
 refine tZa 47 211 s0 ?_
 simp only [Act.put, List.setIfInBounds_toArray, List.set_cons_zero, List.set_cons_succ]
 refine tZa 48 212 s0 ?_
 refine tZa 49 213 s0 ?_
 refine tZa 50 214 s0 ?_
 refine tZa 51 215 s0 ?_
 refine tZa 52 216 s0 ?_
 refine tZa 53 217 s0 ?_
 simp only [Act.put, List.setIfInBounds_toArray, List.set_cons_zero, List.set_cons_succ]
 refine tZa 54 218 s0 ?_
 refine tZa 55 219 s0 ?_
 refine tZa 56 220 s0 ?_
 refine tZa 57 221 s0 ?_
 refine tZa 58 222 s0 ?_
 refine tQa 59 223 s0 ?_
 simp only [Act.put, List.setIfInBounds_toArray, List.set_cons_zero, List.set_cons_succ]
 refine tQa 60 224 s0 ?_
 simp only [Act.put, List.setIfInBounds_toArray, List.set_cons_zero, List.set_cons_succ]
 refine wpAnyH_done (by kernel_rfl) ?_ _
 have h := H.out
 exact h _ _ _ _ _ _ _ _ _ _ _ _ _ _ _ _ _ _ _ _ _ _ _ _ _ _ _ _ _ _ _ _ _ _ _ _ _ _ _ _ _ _ _ _ _ _ _ _ _ _ _ _ _ _ _ _ _ _ _ _ 1
end em
end Go.Proofs.YtidgnebbibkmhaaGreatDoor
