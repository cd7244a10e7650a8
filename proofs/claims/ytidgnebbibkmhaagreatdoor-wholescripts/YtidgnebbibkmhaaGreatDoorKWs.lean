/- WholeScripts: two regions by themselves; Build hangs on no place; Same of two commands; the walk. -/
import Derived.Test.YtidgnebbibkmhaaGreatDoorKBa
import Derived.Test.YtidgnebbibkmhaaGreatDoorKXw
import Derived.Test.YtidgnebbibkmhaaGreatDoorKXs1
import Derived.Test.YtidgnebbibkmhaaGreatDoorKXw1
import Derived.Test.YtidgnebbibkmhaaGreatDoorKEj
import Derived.Test.YtidgnebbibkmhaaGreatDoorKSw3
set_option maxRecDepth 100000
set_option maxHeartbeats 8000000
namespace Go.Proofs.YtidgnebbibkmhaaGreatDoor
open Go.RowKit
open scanP scrP tpl ytb
theorem bws0 {P : Prop} (h : P := by
 refine tQa 12 86 hb8 ?_;refine tQa 13 87 hb8 ?_;simp only [Act.put, List.setIfInBounds_toArray, List.set_cons_zero, List.set_cons_succ];refine tQa 14 88 hb8 ?_;refine tQa 15 89 hb8 ?_;refine tQa 16 90 hb8 ?_ (hy := by intro V hV; have q := keep_cell hV x1; go_simp; (try with_reducible rfl));refine tQa 17 91 hb8 ?_;refine tQa 18 92 hb8 ?_;simp only [Act.put, List.setIfInBounds_toArray, List.set_cons_zero, List.set_cons_succ];refine tQa 19 93 hb8 ?_ (hy := by intro V hV; have q := keep_cell hV y1; go_simp; (try with_reducible rfl));refine tQa 20 94 hb8 ?_;refine tQa 21 95 hb8 ?_;refine tQa 22 96 hb8 ?_;refine tQa 23 97 hb8 ?_;simp only [Act.put, List.setIfInBounds_toArray, List.set_cons_zero, List.set_cons_succ];refine tQa 24 2 hb8 ?_;simp only [Act.put, List.setIfInBounds_toArray, List.set_cons_zero, List.set_cons_succ];refine wpAnyH_done (by kernel_rfl) ?_ _;have h := H.out;exact h _ _ _ _ _ _ _ _ _ _ _ _ _ _ _ _ _ _ _ _ _ _ _ _ _ hb8) : P := h
namespace em
def rga (n : Nat) : Code -> Option Code
 | .region i ops d => if i = n then some (.region i ops d) else none
 | .seq a b => match rga n a with
  | some r => some r
  | none => rga n b
 | .block _ c => rga n c
 | .scope c => rga n c
 | .loop c => rga n c
 | .cond _ a b => match rga n a with
  | some r => some r
  | none => rga n b
 | _ => none
theorem tZa {P : Program} {ops : Array Oper} {Q : Exit -> Act -> World -> Prop} {S : World -> Prop} {md : Region.Mode} (i : Nat) (d : Tmp) {w : World} (hS : S w) {oi : Oper} {fuel : Nat} {listed : Array Bool} {a : Act} (h : wpAnyH P md ops Q S fuel (listed.setIfInBounds i true) (a.put (some d) undef) w) (hi : ops[i]? = some oi := by rfl) (hd : oi.dst = some d := by rfl)
  (hs : Region.noSelect ops = true := by kernel_rfl) (hf : Region.free md ops listed i = true := by kernel_rfl) (hr : (Region.ready md ops listed).contains i = true := by kernel_rfl)
  (hQ : ∀ c (a : Act) (d : Tmp) (v : Value) w, Q (.panic c) (a.put (some d) v) w -> Q (.panic c) a w := by assumption) (hw : Region.wanted oi (yielded ops a.tmps) = false := by rfl) : wpAnyH P md ops Q S (fuel + 1) listed a w := by
 have e : wpAnyH P md ops Q S fuel (listed.setIfInBounds i true) (a.put oi.dst undef) w := by rw [hd]; exact h
 exact wpAnyH_take hi hs hf hr (by rw [hd]; exact fun c a w h => hQ c a d undef w h) (Or.inr ⟨hw, rfl⟩) hS e
theorem tQa {P : Program} {ops : Array Oper} {Q : Exit -> Act -> World -> Prop} {S : World -> Prop} {md : Region.Mode} (i : Nat) (d : Tmp) {w : World} (hS : S w) {oi : Oper} {v : Value} {fuel : Nat} {listed : Array Bool} {a : Act} (h : wpAnyH P md ops Q S fuel (listed.setIfInBounds i true) (a.put (some d) v) w) (hi : ops[i]? = some oi := by rfl) (hd : oi.dst = some d := by rfl)
  (hs : Region.noSelect ops = true := by kernel_rfl) (hf : Region.free md ops listed i = true := by kernel_rfl) (hr : (Region.ready md ops listed).contains i = true := by kernel_rfl)
  (hQ : ∀ c (a : Act) (d : Tmp) (v : Value) w, Q (.panic c) (a.put (some d) v) w -> Q (.panic c) a w := by assumption) (hw : Region.wanted oi (yielded ops a.tmps) = true := by first | exact wanted_none rfl _ | rfl) (hy : ∀ w, S w -> (execOp a.eval oi).run P w = .ok (.value v) w := by intro V hV; go_simp; (try with_reducible rfl)) : wpAnyH P md ops Q S (fuel + 1) listed a w :=
 tq i d hS h hi hd hs hf hr (fun c a w h => hQ c a d v w h) hw hy
theorem load_yield {g o : Nat} {c : Co} {pv : Value} {V : World} {a : Act} {op : Oper} {x : Operand} (ho : op.op = .load 39 x) (hx : a.eval x = .pointer (some ⟨g, o, none⟩)) (h : V.rangeAt g o (coV c pv)) : (execOp a.eval op).run Tryz.prog V = .ok (.value (.agg (coV c pv).toArray)) V := by
 have h1 := run_loadAt_mid (P := Tryz.prog) V g o 39 (coV c pv) _ h xc9 rfl (by rw [xcm]; rfl);simp [execOp, ho, hx, h1]
theorem seg19 (K : Act -> World -> Prop) (E : Exit -> Act -> World -> Prop) (hE : ∀ c (a : Act) (d : Tmp) (v : Value) w, E (.panic c) (a.put (some d) v) w -> E (.panic c) a w) (W : World) (b1 b3 g1 g2 n k : Nat) (J S : Int) (c d : Co) (pv qv : Value) (hk : k < n) (x1 : W.cell? ⟨b1, 1, none⟩ = some (.slice (some ⟨g1, 0, none⟩) n n)) (y1 : W.cell? ⟨b3, 1, none⟩ = some (.slice (some ⟨g2, 0, none⟩) n n)) (j1 : W.cell? ⟨g1, k * 21 + 19, none⟩ = some (.int .i64 J)) (j2 : W.cell? ⟨g2, k * 21 + 19, none⟩ = some (.int .i64 J)) (s1 : W.cell? ⟨g1, k * 21 + 20, none⟩ = some (.int .i64 S)) (s2 : W.cell? ⟨g2, k * 21 + 20, none⟩ = some (.int .i64 S)) (r1 : W.rangeAt g1 (k * 21) (coV c pv)) (r2 : W.rangeAt g2 (k * 21) (coV d qv)) (hC : ∀ V, Below W.heap.size W V -> Calls Tryz.prog 17 #[.agg (coV c pv).toArray, .agg (coV d qv).toArray, .bool false] V fun e w' => e = .returned (.bool true) /\ Below V.heap.size V w') {aa ab ac ad ae af ag ah ai aj ak al am ao ap aq ar au av aw ax ay az a0 a1 a2 a3 a4 a5 a6 a7 a8 a9 ba bb bc bd be bf bg bh bi bj bk bl bm bn bo bp bq br bs bt bu bv bw bx bz b0 b2 b4 b5 b6 b7 b8 b9 ca cb cc cd ce cf cg ch ci cj ck cl cm cn cp cq cr cs ct cu cv cw cx cy cz c0 c1 c2 c3 c4 c5 c6 c7 c8 c9 da db dc dd de df dg dh di dj dk dl dm dn dp dq dr ds dt du dv dw dx dy dz d0 d1 d2 d3 d4 d5 d6 d7 d8 d9 ea eb ec ed ee ef eg eh ei ej ek el em en eo ep er es et eu ev ew ey ez e0 e1 e2 e3 e4 e5 e6 e7 e8 e9 fa fb fc fd fe ff fg fh fj fk fm fn fo fp fq fs ft fu fv fw fx fy fz f0 : Value} (h : ∀ (f1 f2 f3 f4 f5 f6 f7 f8 f9 ga gb gc gd gf gg gh gi gj gk gl gm gn gp gq gr gs gu gv gw gx gy gz g0 g3 g4 g5 g6 g7 g8 g9 ha hc hd : Value) (W' : World), Below W.heap.size W W' -> K ⟨#[aa, ab, ac, ad, ae, af, ag, .pointer (some ⟨b1, 0, none⟩), ah, .pointer (some ⟨b3, 0, none⟩), ai, aj, ak, al, .int .i64 (k : Nat), am, ao, ap, aq, ar, au, av, aw, ax, ay, az, a0, a1, a2, a3, a4, a5, a6, a7, a8, a9, ba, bb, bc, bd, be, bf, bg, bh, bi, bj, bk, bl, bm, bn, bo, bp, bq, br, bs, bt, bu, bv, bw, bx, bz, b0, b2, b4, b5, b6, b7, b8, b9, ca, cb, cc, cd, ce, cf, cg, ch, ci, cj, ck, cl, cm, cn, cp, cq, cr, cs, ct, cu, cv, cw, cx, cy, cz, c0, c1, c2, c3, c4, c5, c6, c7, c8, c9, da, db, dc, dd, de, df, dg, dh, di, dj, dk, dl, dm, dn, dp, dq, dr, ds, dt, du, dv, dw, dx, dy, dz, d0, d1, d2, d3, d4, f1, f2, f3, f4, f5, f6, f7, f8, f9, ga, gb, gc, gd, gf, gg, gh, gi, gj, gk, gl, gm, gn, gp, gq, gr, gs, gu, gv, gw, gx, gy, gz, g0, g3, g4, g5, g6, g7, g8, g9, ha, hc, hd, .bool false, ff, fg, fh, fj, fk, fm, fn, fo, fp, fq, fs, ft, fu, fv, fw, fx, fy, fz, f0], []⟩ W') : Code.wp Tryz.prog ((Tryz.f7.body.bind (rga 19)).getD .skip) (Exit.then K E) ⟨#[aa, ab, ac, ad, ae, af, ag, .pointer (some ⟨b1, 0, none⟩), ah, .pointer (some ⟨b3, 0, none⟩), ai, aj, ak, al, .int .i64 (k : Nat), am, ao, ap, aq, ar, au, av, aw, ax, ay, az, a0, a1, a2, a3, a4, a5, a6, a7, a8, a9, ba, bb, bc, bd, be, bf, bg, bh, bi, bj, bk, bl, bm, bn, bo, bp, bq, br, bs, bt, bu, bv, bw, bx, bz, b0, b2, b4, b5, b6, b7, b8, b9, ca, cb, cc, cd, ce, cf, cg, ch, ci, cj, ck, cl, cm, cn, cp, cq, cr, cs, ct, cu, cv, cw, cx, cy, cz, c0, c1, c2, c3, c4, c5, c6, c7, c8, c9, da, db, dc, dd, de, df, dg, dh, di, dj, dk, dl, dm, dn, dp, dq, dr, ds, dt, du, dv, dw, dx, dy, dz, d0, d1, d2, d3, d4, d5, d6, d7, d8, d9, ea, eb, ec, ed, ee, ef, eg, eh, ei, ej, ek, el, em, en, eo, ep, er, es, et, eu, ev, ew, ey, ez, e0, e1, e2, e3, e4, e5, e6, e7, e8, e9, fa, fb, fc, fd, fe, ff, fg, fh, fj, fk, fm, fn, fo, fp, fq, fs, ft, fu, fv, fw, fx, fy, fz, f0], []⟩ W := by
 have H := hideT h;have HC := hideT hC;have HR := hideT (fun (V : World) (hV : Below W.heap.size W V) => xdr r1 (hV.block g1 (xic r1)));have HS := hideT (fun (V : World) (hV : Below W.heap.size W V) => xdr r2 (hV.block g2 (xic r2)));clear h hC r1 r2;conv => arg 2; whnf
 have i1 : (k : Int) < (n : Int) := by omega
 have i2 : (0 : Int) <= (k : Int) := by omega
 clear hk;refine wp_region_held (S := fun V => Below W.heap.size W V) (by kernel_rfl) ?_;have s0 : Below W.heap.size W W.drew := (Below.refl _ _).drew;refine tQa 0 134 s0 ?_;refine tQa 1 135 s0 ?_ (hy := by intro V hV; have q := keep_cell hV x1; go_simp; (try with_reducible rfl));refine tQa 2 136 s0 ?_;refine tQa 3 137 s0 ?_;refine tQa 4 138 s0 ?_;refine tQa 5 139 s0 ?_ (hy := by intro V hV; have q := keep_cell hV j1; go_simp; (try with_reducible rfl));simp only [Act.put, List.setIfInBounds_toArray, List.set_cons_zero, List.set_cons_succ];refine tQa 6 140 s0 ?_;refine tQa 7 141 s0 ?_ (hy := by intro V hV; have q := keep_cell hV y1; go_simp; (try with_reducible rfl));refine tQa 8 142 s0 ?_;refine tQa 9 143 s0 ?_;refine tQa 10 144 s0 ?_;refine tQa 11 145 s0 ?_ (hy := by intro V hV; have q := keep_cell hV j2; go_simp; (try with_reducible rfl));simp only [Act.put, List.setIfInBounds_toArray, List.set_cons_zero, List.set_cons_succ];refine tQa 12 146 s0 ?_;refine tQa 13 147 s0 ?_;refine tQa 14 148 s0 ?_;refine tQa 15 149 s0 ?_ (hy := by intro V hV; have q := keep_cell hV x1; go_simp; (try with_reducible rfl));refine tQa 16 150 s0 ?_;refine tQa 17 151 s0 ?_;simp only [Act.put, List.setIfInBounds_toArray, List.set_cons_zero, List.set_cons_succ];refine tQa 18 152 s0 ?_;refine tQa 19 153 s0 ?_ (hy := by intro V hV; have q := keep_cell hV s1; go_simp; (try with_reducible rfl));refine tQa 20 154 s0 ?_;refine tQa 21 155 s0 ?_ (hy := by intro V hV; have q := keep_cell hV y1; go_simp; (try with_reducible rfl));refine tQa 22 156 s0 ?_;refine tQa 23 157 s0 ?_;simp only [Act.put, List.setIfInBounds_toArray, List.set_cons_zero, List.set_cons_succ];refine tQa 24 158 s0 ?_;refine tQa 25 159 s0 ?_ (hy := by intro V hV; have q := keep_cell hV s2; go_simp; (try with_reducible rfl))
 refine tQa 26 160 s0 ?_;refine tQa 27 161 s0 ?_;refine tQa 28 162 s0 ?_;refine tQa 29 163 s0 ?_;simp only [Act.put, List.setIfInBounds_toArray, List.set_cons_zero, List.set_cons_succ];refine tQa 30 164 s0 ?_ (hy := by intro V hV; have q := keep_cell hV x1; go_simp; (try with_reducible rfl));refine tQa 31 165 s0 ?_;refine tQa 32 166 s0 ?_;refine tQa 33 167 s0 ?_;simp only [Act.put, List.setIfInBounds_toArray, List.set_cons_zero, List.set_cons_succ];refine tQa 34 168 s0 ?_ (hy := by intro V hV; exact load_yield rfl rfl (HR.out V hV));refine tQa 35 169 s0 ?_;simp only [Act.put, List.setIfInBounds_toArray, List.set_cons_zero, List.set_cons_succ];refine tQa 36 170 s0 ?_ (hy := by intro V hV; have q := keep_cell hV y1; go_simp; (try with_reducible rfl));refine tQa 37 171 s0 ?_;refine tQa 38 172 s0 ?_;refine tQa 39 173 s0 ?_;simp only [Act.put, List.setIfInBounds_toArray, List.set_cons_zero, List.set_cons_succ];refine tQa 40 174 s0 ?_ (hy := by intro V hV; exact load_yield rfl rfl (HS.out V hV));simp only [Act.put, List.setIfInBounds_toArray, List.set_cons_zero, List.set_cons_succ];refine wpAnyH_all (rs := [41]) (by kernel_rfl) (by simp) (fun i hi => ?_);obtain rfl : i = 41 := List.mem_singleton.1 hi;refine xp8 (some 175) rfl rfl rfl (by go_simp; (try with_reducible rfl)) (R := fun v w' => v = .bool true /\ Below W.heap.size W w') ((HC.out _ s0).mono (fun e w' h => ⟨_, h.1, rfl, s0.trans (h.2.mono s0.size)⟩)) ?_;rintro v8 w8 ⟨rfl, hb8⟩;refine And.intro hb8 ?_;refine tQa 42 176 hb8 ?_;refine tQa 43 177 hb8 ?_;simp only [Act.put, List.setIfInBounds_toArray, List.set_cons_zero, List.set_cons_succ];refine wpAnyH_done (by kernel_rfl) ?_ _;have h := H.out;exact h _ _ _ _ _ _ _ _ _ _ _ _ _ _ _ _ _ _ _ _ _ _ _ _ _ _ _ _ _ _ _ _ _ _ _ _ _ _ _ _ _ _ _ _ hb8
end em
end Go.Proofs.YtidgnebbibkmhaaGreatDoor
namespace Go.Proofs.YtidgnebbibkmhaaGreatDoor
open Go.RowKit
open scanP scrP tpl ytb
namespace em
theorem seg13a (K : Act -> World -> Prop) (E : Exit -> Act -> World -> Prop) (hE : ∀ c (a : Act) (d : Tmp) (v : Value) w, E (.panic c) (a.put (some d) v) w -> E (.panic c) a w) (W : World) (b1 b2 b3 bf : Nat) (x y : Int) (v : Value) (x1 : W.cell? ⟨b1, 1, none⟩ = some (.slice none 0 0)) (y1 : W.cell? ⟨b3, 1, none⟩ = some (.slice none 0 0)) (f0 : W.cell? ⟨bf, 0, none⟩ = some (.int .i64 0)) (d0 : W.cell? ⟨b2, 0, none⟩ = some (.int .i64 x)) (d1 : W.cell? ⟨b2, 1, none⟩ = some (.int .i64 y)) (hC : ∀ V, Below W.heap.size W V -> Calls Tryz.prog 16 #[v] V fun e w' => e = .returned (.agg #[.int .i64 x, .int .i64 y]) /\ Below V.heap.size V w') {aa ab ac ad ae af ag ah ai aj ak al am ao ap aq ar au av aw ax ay az a0 a1 a2 a3 a4 a5 a6 a7 a8 a9 ba bb bc bd be bh bi bj bk bl bm bn bo bp bq br bs bt bu bv bw bx bz b0 b4 b5 b6 b7 b8 b9 ca cb cc cd ce cf cg ch ci cj ck cl cm cn cp cq cr cs ct cu cv cw cx cy cz c0 c1 c2 c3 c4 c5 c6 c7 c8 c9 da db dc dd de df dg dh di dj dk dl dm dn dp dq dr ds dt du dv dw dx dy dz d2 d3 d4 d5 d6 d7 d8 d9 ea eb ec ed ee ef eg eh ei ej ek el em en eo ep er es et eu ev ew ey ez e0 e1 e2 e3 e4 e5 e6 e7 e8 e9 fa fb fc fd fe ff fg fh fj fk fm fn fo fp fq fs ft fu fv fw fx fy fz f1 f2 f3 f4 : Value} (h : ∀ (f5 f6 f7 f8 f9 ga gb gc gd gf gg gh gi gj gk gl gm gn gp gq gr gs gu gv : Value) (W' : World), Below W.heap.size W W' -> K ⟨#[aa, ab, .bool true, ad, ae, af, ag, .pointer (some ⟨b1, 0, none⟩), .pointer (some ⟨b2, 0, none⟩), .pointer (some ⟨b3, 0, none⟩), ah, v, ai, .pointer (some ⟨bf, 0, none⟩), aj, ak, al, am, ao, ap, aq, ar, au, av, aw, ax, ay, az, a0, a1, a2, a3, a4, a5, a6, a7, a8, a9, ba, bb, bc, bd, be, bh, bi, bj, bk, bl, bm, bn, bo, bp, bq, br, bs, bt, bu, bv, bw, bx, bz, b0, b4, b5, b6, b7, b8, b9, ca, cb, cc, cd, ce, cf, f5, f6, f7, f8, f9, ga, gb, gc, gd, gf, gg, gh, gi, gj, gk, gl, gm, gn, gp, gq, gr, gs, gu, gv, c5, c6, c7, c8, c9, da, db, dc, dd, de, df, dg, dh, di, dj, dk, dl, dm, dn, dp, dq, dr, ds, dt, du, dv, dw, dx, dy, dz, d2, d3, d4, d5, d6, d7, d8, d9, ea, eb, ec, ed, ee, ef, eg, eh, ei, ej, ek, el, em, en, eo, ep, er, es, et, eu, ev, ew, ey, ez, e0, e1, e2, e3, e4, e5, e6, e7, e8, e9, fa, fb, fc, fd, fe, ff, fg, fh, fj, fk, fm, fn, fo, fp, fq, fs, ft, fu, fv, fw, fx, fy, fz, f1, f2, f3, f4], []⟩ W') : Code.wp Tryz.prog ((Tryz.f7.body.bind (rga 13)).getD .skip) (Exit.then K E) ⟨#[aa, ab, ac, ad, ae, af, ag, .pointer (some ⟨b1, 0, none⟩), .pointer (some ⟨b2, 0, none⟩), .pointer (some ⟨b3, 0, none⟩), ah, v, ai, .pointer (some ⟨bf, 0, none⟩), aj, ak, al, am, ao, ap, aq, ar, au, av, aw, ax, ay, az, a0, a1, a2, a3, a4, a5, a6, a7, a8, a9, ba, bb, bc, bd, be, bh, bi, bj, bk, bl, bm, bn, bo, bp, bq, br, bs, bt, bu, bv, bw, bx, bz, b0, b4, b5, b6, b7, b8, b9, ca, cb, cc, cd, ce, cf, cg, ch, ci, cj, ck, cl, cm, cn, cp, cq, cr, cs, ct, cu, cv, cw, cx, cy, cz, c0, c1, c2, c3, c4, c5, c6, c7, c8, c9, da, db, dc, dd, de, df, dg, dh, di, dj, dk, dl, dm, dn, dp, dq, dr, ds, dt, du, dv, dw, dx, dy, dz, d2, d3, d4, d5, d6, d7, d8, d9, ea, eb, ec, ed, ee, ef, eg, eh, ei, ej, ek, el, em, en, eo, ep, er, es, et, eu, ev, ew, ey, ez, e0, e1, e2, e3, e4, e5, e6, e7, e8, e9, fa, fb, fc, fd, fe, ff, fg, fh, fj, fk, fm, fn, fo, fp, fq, fs, ft, fu, fv, fw, fx, fy, fz, f1, f2, f3, f4], []⟩ W := by
 have H := hideT h;have HC := hideT hC;clear h hC;conv => arg 2; whnf
 refine wp_region_held (S := fun V => Below W.heap.size W V) (by kernel_rfl) ?_;have s0 : Below W.heap.size W W.drew := (Below.refl _ _).drew;refine tQa 0 74 s0 ?_;refine tQa 1 75 s0 ?_ (hy := by intro V hV; have q := keep_cell hV f0; go_simp; (try with_reducible rfl));refine tQa 2 76 s0 ?_;refine tQa 3 77 s0 ?_;refine tQa 4 78 s0 ?_;simp only [Act.put, List.setIfInBounds_toArray, List.set_cons_zero, List.set_cons_succ];refine tQa 6 80 s0 ?_ (hy := by intro V hV; have q := keep_cell hV d0; have q' := keep_cell hV d1; go_simp; (try with_reducible rfl));simp only [Act.put, List.setIfInBounds_toArray, List.set_cons_zero, List.set_cons_succ];refine wpAnyH_all (rs := [5]) (by kernel_rfl) (by simp) (fun i hi => ?_);obtain rfl : i = 5 := List.mem_singleton.1 hi;refine xp8 (some 79) rfl rfl rfl (by go_simp; (try with_reducible rfl)) (R := fun v w' => v = .agg #[.int .i64 x, .int .i64 y] /\ Below W.heap.size W w') ((HC.out _ s0).mono (fun e w' h => ⟨_, h.1, rfl, s0.trans (h.2.mono s0.size)⟩)) ?_;rintro v8 w8 ⟨rfl, hb8⟩;refine And.intro hb8 ?_;simp only [Act.put, List.setIfInBounds_toArray, List.set_cons_zero, List.set_cons_succ];refine tQa 7 81 hb8 ?_;refine tQa 8 82 hb8 ?_;simp only [Act.put, List.setIfInBounds_toArray, List.set_cons_zero, List.set_cons_succ];refine tZa 9 83 hb8 ?_;refine tZa 10 84 hb8 ?_;refine tZa 11 85 hb8 ?_;exact bws0
theorem seg13b (K : Act -> World -> Prop) (E : Exit -> Act -> World -> Prop) (hE : ∀ c (a : Act) (d : Tmp) (v : Value) w, E (.panic c) (a.put (some d) v) w -> E (.panic c) a w) (W : World) (b1 b2 b3 bf : Nat) (x y : Int) (v : Value) (x1 : W.cell? ⟨b1, 1, none⟩ = some (.slice none 0 0)) (y1 : W.cell? ⟨b3, 1, none⟩ = some (.slice none 0 0)) (f0 : W.cell? ⟨bf, 0, none⟩ = some (.int .i64 0)) (d0 : W.cell? ⟨b2, 0, none⟩ = some (.int .i64 4)) (d1 : W.cell? ⟨b2, 1, none⟩ = some (.int .i64 y)) (hC : ∀ V, Below W.heap.size W V -> Calls Tryz.prog 16 #[v] V fun e w' => e = .returned (.agg #[.int .i64 0, .int .i64 x]) /\ Below V.heap.size V w') {aa ab ac ad ae af ag ah ai aj ak al am ao ap aq ar au av aw ax ay az a0 a1 a2 a3 a4 a5 a6 a7 a8 a9 ba bb bc bd be bh bi bj bk bl bm bn bo bp bq br bs bt bu bv bw bx bz b0 b4 b5 b6 b7 b8 b9 ca cb cc cd ce cf cg ch ci cj ck cl cm cn cp cq cr cs ct cu cv cw cx cy cz c0 c1 c2 c3 c4 c5 c6 c7 c8 c9 da db dc dd de df dg dh di dj dk dl dm dn dp dq dr ds dt du dv dw dx dy dz d2 d3 d4 d5 d6 d7 d8 d9 ea eb ec ed ee ef eg eh ei ej ek el em en eo ep er es et eu ev ew ey ez e0 e1 e2 e3 e4 e5 e6 e7 e8 e9 fa fb fc fd fe ff fg fh fj fk fm fn fo fp fq fs ft fu fv fw fx fy fz f1 f2 f3 f4 : Value} (h : ∀ (f5 f6 f7 f8 f9 ga gb gc gd gf gg gh gi gj gk gl gm gn gp gq gr gs gu gv : Value) (W' : World), Below W.heap.size W W' -> K ⟨#[aa, ab, .bool true, ad, ae, af, ag, .pointer (some ⟨b1, 0, none⟩), .pointer (some ⟨b2, 0, none⟩), .pointer (some ⟨b3, 0, none⟩), ah, v, ai, .pointer (some ⟨bf, 0, none⟩), aj, ak, al, am, ao, ap, aq, ar, au, av, aw, ax, ay, az, a0, a1, a2, a3, a4, a5, a6, a7, a8, a9, ba, bb, bc, bd, be, bh, bi, bj, bk, bl, bm, bn, bo, bp, bq, br, bs, bt, bu, bv, bw, bx, bz, b0, b4, b5, b6, b7, b8, b9, ca, cb, cc, cd, ce, cf, f5, f6, f7, f8, f9, ga, gb, gc, gd, gf, gg, gh, gi, gj, gk, gl, gm, gn, gp, gq, gr, gs, gu, gv, c5, c6, c7, c8, c9, da, db, dc, dd, de, df, dg, dh, di, dj, dk, dl, dm, dn, dp, dq, dr, ds, dt, du, dv, dw, dx, dy, dz, d2, d3, d4, d5, d6, d7, d8, d9, ea, eb, ec, ed, ee, ef, eg, eh, ei, ej, ek, el, em, en, eo, ep, er, es, et, eu, ev, ew, ey, ez, e0, e1, e2, e3, e4, e5, e6, e7, e8, e9, fa, fb, fc, fd, fe, ff, fg, fh, fj, fk, fm, fn, fo, fp, fq, fs, ft, fu, fv, fw, fx, fy, fz, f1, f2, f3, f4], []⟩ W') : Code.wp Tryz.prog ((Tryz.f7.body.bind (rga 13)).getD .skip) (Exit.then K E) ⟨#[aa, ab, ac, ad, ae, af, ag, .pointer (some ⟨b1, 0, none⟩), .pointer (some ⟨b2, 0, none⟩), .pointer (some ⟨b3, 0, none⟩), ah, v, ai, .pointer (some ⟨bf, 0, none⟩), aj, ak, al, am, ao, ap, aq, ar, au, av, aw, ax, ay, az, a0, a1, a2, a3, a4, a5, a6, a7, a8, a9, ba, bb, bc, bd, be, bh, bi, bj, bk, bl, bm, bn, bo, bp, bq, br, bs, bt, bu, bv, bw, bx, bz, b0, b4, b5, b6, b7, b8, b9, ca, cb, cc, cd, ce, cf, cg, ch, ci, cj, ck, cl, cm, cn, cp, cq, cr, cs, ct, cu, cv, cw, cx, cy, cz, c0, c1, c2, c3, c4, c5, c6, c7, c8, c9, da, db, dc, dd, de, df, dg, dh, di, dj, dk, dl, dm, dn, dp, dq, dr, ds, dt, du, dv, dw, dx, dy, dz, d2, d3, d4, d5, d6, d7, d8, d9, ea, eb, ec, ed, ee, ef, eg, eh, ei, ej, ek, el, em, en, eo, ep, er, es, et, eu, ev, ew, ey, ez, e0, e1, e2, e3, e4, e5, e6, e7, e8, e9, fa, fb, fc, fd, fe, ff, fg, fh, fj, fk, fm, fn, fo, fp, fq, fs, ft, fu, fv, fw, fx, fy, fz, f1, f2, f3, f4], []⟩ W := by
 have H := hideT h;have HC := hideT hC;clear h hC;conv => arg 2; whnf
 refine wp_region_held (S := fun V => Below W.heap.size W V) (by kernel_rfl) ?_;have s0 : Below W.heap.size W W.drew := (Below.refl _ _).drew;refine tQa 0 74 s0 ?_;refine tQa 1 75 s0 ?_ (hy := by intro V hV; have q := keep_cell hV f0; go_simp; (try with_reducible rfl));refine tQa 2 76 s0 ?_;refine tQa 3 77 s0 ?_;refine tQa 4 78 s0 ?_;simp only [Act.put, List.setIfInBounds_toArray, List.set_cons_zero, List.set_cons_succ];refine tQa 6 80 s0 ?_ (hy := by intro V hV; have q := keep_cell hV d0; have q' := keep_cell hV d1; go_simp; (try with_reducible rfl));simp only [Act.put, List.setIfInBounds_toArray, List.set_cons_zero, List.set_cons_succ];refine wpAnyH_all (rs := [5]) (by kernel_rfl) (by simp) (fun i hi => ?_);obtain rfl : i = 5 := List.mem_singleton.1 hi;refine xp8 (some 79) rfl rfl rfl (by go_simp; (try with_reducible rfl)) (R := fun v w' => v = .agg #[.int .i64 0, .int .i64 x] /\ Below W.heap.size W w') ((HC.out _ s0).mono (fun e w' h => ⟨_, h.1, rfl, s0.trans (h.2.mono s0.size)⟩)) ?_;rintro v8 w8 ⟨rfl, hb8⟩;refine And.intro hb8 ?_;simp only [Act.put, List.setIfInBounds_toArray, List.set_cons_zero, List.set_cons_succ];refine tQa 7 81 hb8 ?_;refine tQa 8 82 hb8 ?_;simp only [Act.put, List.setIfInBounds_toArray, List.set_cons_zero, List.set_cons_succ];refine tQa 9 83 hb8 ?_;refine tQa 10 84 hb8 ?_ (hy := by intro V hV; have q := keep_cell hV d0; go_simp; (try with_reducible rfl));refine tQa 11 85 hb8 ?_;exact bws0
end em
end Go.Proofs.YtidgnebbibkmhaaGreatDoor
namespace Go.Proofs.YtidgnebbibkmhaaGreatDoor
open Go.RowKit
open scanP scrP tpl ytb
namespace sho
theorem parts_same (a b : Value) (l : List Pt) (w : World) (ha : PRow w a l) (hb : PRow w b l) (hl : l.length <= 9223372036854775807) :
  Calls Tryz.prog 30 #[a, b] w fun e w' => e = .returned (.bool true) /\ Below w.heap.size w w' := by
 obtain ⟨pa, ca, rfl⟩ := ha.shape;obtain ⟨pb, cb, rfl⟩ := hb.shape;go_enter Tryz.func30, Tryz.ntmps30
 go_wp2_with fail
 go_loopw [5] (fun i wr => ∃ k : Nat, k <= l.length /\ i = .int .i64 k /\ Below w.heap.size w wr) (fun i _ => l.length - (intOf i).toNat)
 case atStart => exact ⟨0, by omega, rfl, Below.refl _ _⟩
 case round =>
  obtain ⟨k, hk, rfl, hB⟩ := hrel;by_cases hlt : k < l.length
  ·rcases ha with ⟨rfl, -⟩ | ⟨g, off, c, e1, ha⟩
   ·simp at hlt
   rcases hb with ⟨rfl, -⟩ | ⟨g2, off2, c2, e2, hb⟩
   ·simp at hlt
   cases e1;cases e2;obtain ⟨a1, a2⟩ := ha k hlt;obtain ⟨b1, b2⟩ := hb k hlt;have c1 := tpl.keep_cell hB a1;have c2 := tpl.keep_cell hB a2;have d1 := tpl.keep_cell hB b1;have d2 := tpl.keep_cell hB b2;have i1 : (k : Int) < (l.length : Int) := by omega
   have i2 : (0 : Int) <= (k : Int) := by omega
   go_upto_region 6 with fail
   go_quiet (fail)
   go_wp2;exact ⟨⟨k + 1, by omega, by go_num, hB.trans (tpl.below_drewN _ _ _)⟩, by simp [intOf]; omega⟩
  ·obtain rfl : k = l.length := by omega
   go_wp2;go_ret;exact ⟨rfl, hB⟩
theorem same_cmd (c : Co) (q : Nat) (pv qv : Value) (W : World) (h : PRow W pv c.ps) (h' : PRow W qv c.ps) (hl : c.ps.length <= 1000000000000000) : Calls Tryz.prog 17 #[.agg (coV c pv).toArray, .agg (coV { c with pl := q } qv).toArray, .bool false] W fun e w' => e = .returned (.bool true) /\ Below W.heap.size W w' := by
 have HH := hideT (And.intro h h');have HL := hideT hl;clear h h' hl;go_enter Tryz.func17, Tryz.ntmps17;go_upto_region 1 with fail
 have hb : Below W.heap.size W ((W.alloc (.cells (coV c pv).toArray 39)).alloc (.cells (coV { c with pl := q } qv).toArray 39)) := ((Below.refl _ _).alloc qr _).alloc (by simp) _;have hk1 : CmAt ((W.alloc (.cells (coV c pv).toArray 39)).alloc (.cells (coV { c with pl := q } qv).toArray 39)) W.heap.size (coV c pv) := (Below.heap_alloc _ _ _ (by simp)).trans (heap_alloc_new W _);have hk2 : CmAt ((W.alloc (.cells (coV c pv).toArray 39)).alloc (.cells (coV { c with pl := q } qv).toArray 39)) (W.heap.size + 1) (coV { c with pl := q } qv) := by
  have h1 := heap_alloc_new (W.alloc (.cells (coV c pv).toArray 39)) (.cells (coV { c with pl := q } qv).toArray 39);rw [World.size_alloc] at h1;exact h1
 obtain ⟨X, hX⟩ : ∃ X, X = ((W.alloc (.cells (coV c pv).toArray 39)).alloc (.cells (coV { c with pl := q } qv).toArray 39)) := ⟨_, rfl⟩;rw [<- hX] at hb hk1 hk2 ⊢;obtain ⟨N, hN⟩ : ∃ N, N = W.heap.size := ⟨_, rfl⟩;rw [<- hN] at hk1 hk2 ⊢;have HXB := hideT hb;have HX1 := hideT hk1;have HX2 := hideT hk2;have p1 := hk1.cell 13 (v := pv) rfl;have p2 := hk2.cell 13 (v := qv) rfl;have HPS := hideT (parts_same pv qv c.ps X (HH.out.1.stay hb qr) (HH.out.2.stay hb qr) (by have := HL.out; omega));have HNN := hideT hN;clear hX hb hk1 hk2 hN
 go_wp2_with fail
 refine HPS.out.mono ?_;rintro e w1 ⟨rfl, hb1⟩;have HK1 := hideT (cm_keep HX1.out (hb1.block N (Array.getElem?_eq_some_iff.1 HX1.out).1));have HK2 := hideT (cm_keep HX2.out (hb1.block (N + 1) (Array.getElem?_eq_some_iff.1 HX2.out).1));have HF := hideT (HXB.out.trans (hb1.mono HXB.out.size));clear hb1 p1 p2 HPS;have a1 := HK1.out.cell 1 (v := .int .i64 (c.a.k : Nat)) rfl;have d1 := HK2.out.cell 1 (v := .int .i64 (c.a.k : Nat)) rfl;have a2 := HK1.out.cell 2 (v := .int .i64 (c.a.ln : Nat)) rfl;have d2 := HK2.out.cell 2 (v := .int .i64 (c.a.ln : Nat)) rfl;have a3 := HK1.out.cell 3 (v := .string (bst c.a.re)) rfl;have d3 := HK2.out.cell 3 (v := .string (bst c.a.re)) rfl;have a4 := HK1.out.cell 4 (v := .int .i64 (c.b.k : Nat)) rfl;have d4 := HK2.out.cell 4 (v := .int .i64 (c.b.k : Nat)) rfl;have a5 := HK1.out.cell 5 (v := .int .i64 (c.b.ln : Nat)) rfl;have d5 := HK2.out.cell 5 (v := .int .i64 (c.b.ln : Nat)) rfl;have a6 := HK1.out.cell 6 (v := .string (bst c.b.re)) rfl;have d6 := HK2.out.cell 6 (v := .string (bst c.b.re)) rfl;have a7 := HK1.out.cell 7 (v := .bool c.nt) rfl;have d7 := HK2.out.cell 7 (v := .bool c.nt) rfl;have a8 := HK1.out.cell 8 (v := .int .u8 (c.nm.toNat : Nat)) rfl;have d8 := HK2.out.cell 8 (v := .int .u8 (c.nm.toNat : Nat)) rfl;have a9 := HK1.out.cell 9 (v := .string (bst c.lb)) rfl;have d9 := HK2.out.cell 9 (v := .string (bst c.lb)) rfl;have a10 := HK1.out.cell 10 (v := .string (bst c.tx)) rfl;have d10 := HK2.out.cell 10 (v := .string (bst c.tx)) rfl;have a11 := HK1.out.cell 11 (v := .string (bst c.fl)) rfl;have d11 := HK2.out.cell 11 (v := .string (bst c.fl)) rfl;have a12 := HK1.out.cell 12 (v := .string (bst c.re)) rfl;have d12 := HK2.out.cell 12 (v := .string (bst c.re)) rfl;have a14 := HK1.out.cell 14 (v := .int .i64 (c.nh : Nat)) rfl
 have d14 := HK2.out.cell 14 (v := .int .i64 (c.nh : Nat)) rfl;have a15 := HK1.out.cell 15 (v := .bool c.an) rfl;have d15 := HK2.out.cell 15 (v := .bool c.an) rfl;have a16 := HK1.out.cell 16 (v := .bool c.pr) rfl;have d16 := HK2.out.cell 16 (v := .bool c.pr) rfl;have a17 := HK1.out.cell 17 (v := .string (bst c.fr)) rfl;have d17 := HK2.out.cell 17 (v := .string (bst c.fr)) rfl;have a18 := HK1.out.cell 18 (v := .string (bst c.to)) rfl;have d18 := HK2.out.cell 18 (v := .string (bst c.to)) rfl;clear HK1 HK2 HX1 HX2 HH;go_wp2;go_ret;exact ⟨rfl, HF.out⟩
theorem nf_pl {c d : Co} (h : nfC d = nfC c) : ∃ q, d = { c with pl := q } := ⟨d.pl, by
 obtain ⟨p1, p2, p3, p4, p5, p6, p7, p8, p9, p10, p11, p12, p13, p14, p15⟩ := d;obtain ⟨q1, q2, q3, q4, q5, q6, q7, q8, q9, q10, q11, q12, q13, q14, q15⟩ := c;simp only [nfC, Co.mk.injEq, true_and] at h ⊢;exact h⟩
end sho
namespace em
open emP ckp.chkP
open sho (nfC)
def zpC (c : Cm) : Cm := { c with pl := 0 }
theorem lab_z (l : List Cm) (s : List UInt8) : labB (l.map zpC) s = labB l s := by rw [labB, List.any_map]; rfl
theorem one_z (p : List Cm) (d : Nat) (c : Cm) : oneR (p.map zpC) d (zpC c) = oneR p d c := by unfold oneR; rw [lab_z]; rfl
theorem go_z : ∀ (l p : List Cm) (d : Nat), goR (p.map zpC) d (l.map zpC) = (match goR p d l with | .inl x => .inl (x.1, 0) | .inr n => .inr n)
 | [], _, _ => rfl
 | c :: r, p, d => by
  rw [List.map_cons, goR, goR, one_z];split
  ·rfl
  ·rw [<- go_z r (p ++ [c]), List.map_append]; rfl
theorem jump_z (a : List Cm) : ∀ l, xjw (a.map zpC) (l.map zpC) = (xjw a l).map fun _ => 0
 | [] => rfl
 | c :: r => by
  rw [List.map_cons, xjw, xjw, lab_z];by_cases h : (c.nm = 98 \/ c.nm = 116) /\ c.lb ≠ [] /\ labB a c.lb = false
  ·rw [if_pos h]; exact if_pos h
  ·rw [if_neg h]; exact (if_neg h).trans (jump_z a r)
theorem chk_z (l : List Cm) : (chkR (l.map zpC)).1 = (chkR l).1 := by
 have h := go_z l [] 0;unfold chkR;rw [show goR [] 0 (l.map zpC) = _ from h];cases goR [] 0 l with
 | inl x => rfl
 | inr n =>
  simp only;split
  ·rfl
  ·rw [jump_z]; cases xjw l l <;> rfl
theorem chk_nf (l : List Co) : (chkR ((l.map nfC).map toCm)).1 = (chkR (l.map toCm)).1 := by
 rw [<- chk_z (l.map toCm), List.map_map, List.map_map]; rfl
theorem wt_nf : ∀ (l : List Co) (f : List (List UInt8)), wtR (l.map nfC) f = (match wtR l f with | .inl _ => .inl 0 | .inr g => .inr g)
 | [], _ => rfl
 | c :: r, f => by
  rw [List.map_cons, wtR, wtR];by_cases h : wrB c = false \/ c.fl ∈ f
  ·rw [if_pos h, if_pos (show wrB (nfC c) = false \/ (nfC c).fl ∈ f from h)]; exact wt_nf r f
  ·rw [if_neg h, if_neg (show ¬ (wrB (nfC c) = false \/ (nfC c).fl ∈ f) from h)];split
   ·rfl
   ·exact wt_nf r _
theorem slN_nf : ∀ l : List Co, slN (l.map nfC) = slN l
 | [] => rfl
 | c :: r => by rw [List.map_cons, slN, slN, slN_nf r]; rfl
theorem slF_nf (l : List Co) (i : Nat) : slF (l.map nfC) i = slF l i := by
 unfold slF;rw [List.getElem?_map, <- List.map_take, slN_nf];cases l[i]? <;> rfl
theorem js_nf (l : List Co) : ∀ k, jsR (l.map nfC) k = jsR l k
 | 0 => by rw [jsR, jsR, List.length_map]
 | k + 1 => by
  rw [jsR, jsR, List.getElem?_map, js_nf l k];cases l[k]? <;> rfl
theorem jmF_nf (l : List Co) (i : Nat) : jmF (l.map nfC) i = jmF l i := by
 unfold jmF;rw [List.getElem?_map];cases l[i]? with
 | none => rfl
 | some c => show (jmN (l.map nfC) i (nfC c) : Int) = _; unfold jmN; rw [List.length_map, js_nf]; rfl
theorem bld_nf {cs ds : List Co} {q : Bool} {p p2 : Nat} (h : ds.map nfC = cs.map nfC) : (match bldS (cs, q, 0, p) with
  | .inl x => ((x.1 = 4 /\ (chkR (cs.map toCm)).1 = 0 \/ chkR (cs.map toCm) = x) /\ x.1 ≠ 0) /\ ∃ y, bldS (ds, q, 0, p2) = .inl (x.1, y)
  | .inr fs => bldS (ds, q, 0, p2) = .inr fs) /\ ds.length = cs.length /\ slN ds = slN cs /\ slF ds = slF cs /\ jmF ds = jmF cs := by
 have h1 := chk_nf ds;rw [h, chk_nf] at h1;have h2 := wt_nf ds [];rw [h, wt_nf] at h2;refine ⟨?_, by have := congrArg List.length h; simpa using this, by rw [<- slN_nf, h, slN_nf], funext fun i => by rw [<- slF_nf, h, slF_nf], funext fun i => by rw [<- jmF_nf, h, jmF_nf]⟩;unfold bldS;simp only [ne_eq, not_true, if_false];rw [<- h1];by_cases hz : (chkR (cs.map toCm)).1 = 0
 ·rw [if_neg (by simp [hz]), if_neg (by simp [hz])];cases hw : wtR cs [] with
  | inl z =>
   rw [hw] at h2;cases hv : wtR ds [] with
   | inl p' => exact ⟨⟨.inl ⟨rfl, hz⟩, by simp⟩, p', rfl⟩
   | inr f => rw [hv] at h2; cases h2
  | inr f =>
   rw [hw] at h2;cases hv : wtR ds [] with
   | inl p' => rw [hv] at h2; cases h2
   | inr f' => rw [hv] at h2; cases h2; rfl
 ·rw [if_pos hz, if_pos hz];refine ⟨⟨.inr rfl, hz⟩, (chkR (ds.map toCm)).2, ?_⟩;rw [h1]
theorem two_new2 (w : World) (o p : Obj) : ∃ X, X = (w.alloc o).alloc p /\ Below w.heap.size w X /\ X.heap[w.heap.size]? = some o /\ X.heap[w.heap.size + 1]? = some p /\ X.heap.size = w.heap.size + 1 + 1 := by
 have hA1 := Bal w o;have e1 := xcl w o;have hA2 := (Below.refl _ (w.alloc o)).alloc qr p;have hN2 := heap_alloc_new (w.alloc o) p;rw [e1] at hA2 hN2;exact ⟨_, rfl, hA1.trans (hA2.mono (by omega)), (hA2.block _ (by omega)).trans (heap_alloc_new w o), hN2, by rw [xcl, xcl]⟩
theorem pb_bld : ∃ cs, scrR gM [112, 59, 98] = (cs, false, 0, 0) /\ cs.length = 2 /\ bldS (scrR gM [112, 59, 98]) = .inr [] /\ jmF cs 1 = 2 /\ slN cs = 0 := by
 have h2 : ∀ G : Gr, scrR G [112, 59, 98] = (([⟨0, adr0, adr0, false, 112, [], [], [], [], [], 0, false, false, [], []⟩, ⟨2, adr0, adr0, false, 98, [], [], [], [], [], 0, false, false, [], []⟩] : List Co), false, 0, 0) := fun G => by kernel_rfl
 refine ⟨_, h2 gM, rfl, ?_, ?_, ?_⟩
 ·rw [h2 gM]; rfl
 all_goals rfl
end em
end Go.Proofs.YtidgnebbibkmhaaGreatDoor
namespace Go.Proofs.YtidgnebbibkmhaaGreatDoor
open Go.RowKit
open scanP scrP tpl ytb
namespace em
open emP ckp.chkP
open sho (nfC shR Gs show_any shR_ok show_back scr_sz SzC bulkP_len same_cmd nf_pl bulkP)
theorem range_left {W : World} {g o : Nat} {xs ys : List Value} (h : W.rangeAt g o (xs ++ ys)) : W.rangeAt g o xs := fun j v hv => h j v (by rw [List.getElem?_append_left (List.getElem?_eq_some_iff.1 hv).1]; exact hv)
theorem scripts_any (s : ByteArray) (hs : s.size <= 140737488355000) (w : World) (hg : Gl w) (hG : Gs w) (hw : 2 < w.heap.size) : Calls Tryz.prog 7 #[.string s] w fun e w' => e = .returned (.bool true) /\ Below w.heap.size w w' := by
 obtain ⟨c0, hsc, hlen, hbs, hj, hsl⟩ := pb_bld;have HE := hideT (fun V (hV : Below w.heap.size w V) => And.intro (hg.stay (F := fun _ => False) (Tch.of hV) (fun k h => h.elim)) (And.intro (hG.below hV hw) (Nat.lt_of_lt_of_le hw hV.size)));have HB1 := hideT (xeq ⟨#[112, 59, 98]⟩ (by decide) w hg);rw [show scrR gM (⟨#[112, 59, 98]⟩ : ByteArray).data.toList = scrR gM [112, 59, 98] from rfl, hsc] at HB1;rw [hsc] at hbs;have HSH := hideT (fun V (hV : Below w.heap.size w V) => show_any s hs V (HE.out V hV).1 (HE.out V hV).2.1 (HE.out V hV).2.2);have HBS := hideT (fun V (hV : Below w.heap.size w V) => xeq s hs V (HE.out V hV).1);have HPS := hideT (fun V (hV : Below w.heap.size w V) => show Calls Tryz.prog 11 #[.string s] V (fun e w' => ∃ v L, e = .returned (.tuple #[v, .bool (scrR gM s.data.toList).2.1, .agg #[.int .i64 ((scrR gM s.data.toList).2.2.1 : Nat), .int .i64 ((scrR gM s.data.toList).2.2.2 : Nat)]]) /\ LsAt w' V.heap.size v L /\ L.map (·.1) = (scrR gM s.data.toList).1 /\ Below V.heap.size V w') from parse_ok s hs V (HE.out V hV).1);have HBT := hideT (fun (T : List UInt8) (hT : T.length <= 4096) V (hV : Below w.heap.size w V) => show Calls Tryz.prog 10 #[.string (bst T)] V (BdPost (scrR gM T) V) by
  have := xeq (bst T) (by rw [xbt]; omega) V (HE.out V hV).1;rw [show (bst T).data.toList = T from xbu T] at this;exact this)
 have HOK := hideT (fun h => (shR_ok (G := gM) (l := s.data.toList) h).1);have HSB := hideT (fun h h2 => (show_back (G := gM) (l := s.data.toList) h h2).2);have HSZ := hideT (scr_sz (G := gM) (l := s.data.toList));have HLB := hideT (lb_small (l := s.data.toList));clear hg hG HE;generalize s.data.toList = A at *;generalize shR gM A = SA at *;generalize scrR gM A = PA at *;obtain ⟨T, e0, p0⟩ := SA;obtain ⟨cs, q, e1, p1⟩ := PA;simp only at HSH HBS HPS HOK HSB HSZ HLB;go_enter Tryz.func7, Tryz.ntmps7
 go_wp2_with fail
 refine HB1.out.mono ?_;intro e w1 h1;have hb1 := h1.1;have h1 := h1.2;rw [hbs] at h1;simp only at h1;obtain ⟨L, g, fv, hm, _, _, _, _, hgY, hgb, hfv, rfl⟩ := h1;rw [hlen, hsl];obtain ⟨fa, fc, hfs⟩ := owns_shape hfv;subst hfs;have hLn : L.length = 2 := by rw [<- hlen, <- hm, List.length_map]
 have cj : w1.cell? ⟨g, 1 * 21 + 19, none⟩ = some (.int .i64 2) := CmAt2.cell hgb _ (xhd _ _ (List.getElem?_eq_getElem (by rw [hLn]; decide)) (by rw [hj]; rfl));obtain ⟨X, hX, hBX, hP, hF, _⟩ := two_new2 w1 (.cells #[.bool false, .slice (some ⟨g, 0, none⟩) 2 2, .int .i64 0, .slice fa 0 fc] 26) (.cells #[.int .i64 0, .int .i64 0] 29);go_upto_region 2 with fail
 rw [<- hX];have HW1 := hideT (hb1.trans (hBX.mono hb1.size));have pc := CmAt2.cell hP 1 (v := .slice (some ⟨g, 0, none⟩) 2 2) rfl;have d0 := CmAt2.cell hF 0 (v := .int .i64 0) rfl;replace cj := keep_cell hBX cj;clear hX hBX hP hF hb1 hm hgY hgb hfv hLn hsc hlen hbs hj hsl HB1;generalize w1.heap.size = b0 at *
 go_wp2_with fail
 refine (HSH.out X HW1.out).mono ?_;rintro e w2 ⟨rfl, hb2⟩;have hA := Bal w2 (.cells #[.int .i64 (e0 : Nat), .int .i64 (p0 : Nat)] 29);have hn := heap_alloc_new w2 (.cells #[.int .i64 (e0 : Nat), .int .i64 (p0 : Nat)] 29);have HW2 := hideT (HW1.out.trans ((hb2.trans (hA.mono hb2.size)).mono HW1.out.size));clear hA hb2 pc d0 cj HSH HW1;go_upto_region 5 with fail
 generalize w2.alloc (.cells #[.int .i64 (e0 : Nat), .int .i64 (p0 : Nat)] 29) = Y at *;have x0 : Y.cell? ⟨w2.heap.size, 0, none⟩ = some (.int .i64 (e0 : Nat)) := by rw [Lib.cell_of_heap hn]; rfl
 clear hn;generalize w2.heap.size = bx at *;by_cases h0 : e0 = 0
 rotate_left
 ·have n1 : (((e0 : Nat) : Int) != 0) = true := by simp; omega
  clear h0 HBT HOK HSB HSZ HLB HBS HPS;go_wp2;go_ret;exact ⟨rfl, HW2.out⟩
 have n1 : (((e0 : Nat) : Int) != 0) = false := by simp; omega
 by_cases hT : 4096 < T.length
 ·have n3 : ((4096 : Int) < ((bst T).size : Int)) = True := by rw [xbt, eq_iff_iff, iff_true]; omega
  have n4 : (4096 < (bst T).size) = True := by rw [xbt, eq_iff_iff, iff_true]; exact hT
  clear h0 hT HBT HOK HSB HSZ HLB HBS HPS;go_wp2;go_ret;exact ⟨rfl, HW2.out⟩
 have n3 : ((4096 : Int) < ((bst T).size : Int)) = False := by rw [xbt, eq_iff_iff, iff_false]; omega
 have n4 : (4096 < (bst T).size) = False := by rw [xbt, eq_iff_iff, iff_false]; exact hT
 have hE := HOK.out h0;subst hE;obtain ⟨ds, k1, k2⟩ := HSB.out h0 (by omega);have HBT2 := hideT (HBT.out T (by omega));rw [k2] at HBT2;have hN := bld_nf (q := q) (p := p1) (p2 := 0) k1;have HK := hideT k1;have HZ := hideT (HSZ.out rfl);have HL2 := hideT (HLB.out rfl);clear k1 k2 h0 hT HBT HOK HSB HSZ HLB
 go_wp2_with fail
 refine (HBS.out Y HW2.out).mono ?_;intro e w3 h3;have hb3 := h3.1;have h3 := h3.2;clear x0 n1 n3 n4 HBS;cases hbl : bldS (cs, q, 0, p1) with
 | inl x =>
  rw [hbl] at h3 hN;obtain ⟨x, y⟩ := x;simp only at h3 hN;obtain ⟨hx, rfl⟩ := h3;obtain ⟨⟨⟨hor, _⟩, y2, hb2⟩, -⟩ := hN;obtain ⟨Z, hZ, hBZ, hP1, hF1, _⟩ := two_new2 w3 (.cells #[.bool false, .slice none 0 0, .int .i64 0, .slice none 0 0] 26) (.cells #[.int .i64 (x : Nat), .int .i64 y] 29);go_upto_region 8 with fail
  rw [<- hZ];have HW3 := hideT (HW2.out.trans ((hb3.trans (hBZ.mono hb3.size)).mono HW2.out.size));have u1 := CmAt2.cell hP1 1 (v := .slice none 0 0) rfl;have u2 := CmAt2.cell (xs := [.int .i64 (x : Nat), .int .i64 y]) hF1 0 rfl;have u3 := CmAt2.cell (xs := [.int .i64 (x : Nat), .int .i64 y]) hF1 1 rfl;have HU := hideT (And.intro u1 (And.intro u2 u3));clear hZ hBZ hP1 hF1 hb3 u1 u2 u3 hbl HW2;generalize w3.heap.size = b1 at *
  go_wp2_with fail
  refine (HBT2.out Z HW3.out).mono ?_;intro e w4 h4;have hb4 := h4.1;have h4 := h4.2;rw [hb2] at h4;simp only at h4;obtain ⟨_, rfl⟩ := h4;obtain ⟨U, hU, hBU, hP2, hF2, _⟩ := two_new2 w4 (.cells #[.bool false, .slice none 0 0, .int .i64 0, .slice none 0 0] 26) (.cells #[.int .i64 (x : Nat), .int .i64 y2] 29);go_upto_region 9 with fail
  rw [<- hU];have hZU := hb4.trans (hBU.mono hb4.size);have HW4 := hideT (HW3.out.trans (hZU.mono HW3.out.size));have v1 := keep_cell hZU HU.out.1;have v2 := keep_cell hZU HU.out.2.1;have v3 := keep_cell hZU HU.out.2.2;have v4 := CmAt2.cell hP2 1 (v := .slice none 0 0) rfl;have v5 := CmAt2.cell (xs := [.int .i64 (x : Nat), .int .i64 y2]) hF2 0 rfl;have n1 : ((x : Int) != (x : Int)) = false := by simp
  have n2 : ((x : Int) != 0) = true := by simp; omega
  have HV := hideT (And.intro v1 (And.intro v2 (And.intro v3 v4)));clear hU hBU hP2 hF2 hb4 hZU HU HW3 HBT2 hb2 hx;generalize w4.heap.size = b3 at *
  go_wp2_with fail
  refine (HPS.out U HW4.out).mono ?_;rintro e w5 ⟨v, L, rfl, hL, hm, hb5⟩;have hA := Bal w5 (.cells #[.int .i64 0, .int .i64 (p1 : Nat)] 29);have hn := heap_alloc_new w5 (.cells #[.int .i64 0, .int .i64 (p1 : Nat)] 29);obtain ⟨V, hV⟩ : ∃ V, V = w5.alloc (.cells #[.int .i64 0, .int .i64 (p1 : Nat)] 29) := ⟨_, rfl⟩;go_upto_region 13 with fail
  rw [<- hV] at hA hn ⊢;have hUV := hb5.trans (hA.mono hb5.size);have HWV := hideT (HW4.out.trans (hUV.mono HW4.out.size));have f0 := CmAt2.cell (xs := [.int .i64 0, .int .i64 (p1 : Nat)]) hn 0 rfl;have hQ := (QRow.of_ls hL).stay hA;have hmc : L.map (fun x => toCm x.1) = cs.map toCm := by rw [<- hm, List.map_map]; rfl
  have hLl : L.length = cs.length := by rw [<- hm, List.length_map]
  have HCK := hideT (fun V' (h : Below V.heap.size V V') => show Calls Tryz.prog 16 #[v] V' fun e w' => e = .returned (.agg #[.int .i64 ((chkR (cs.map toCm)).1 : Nat), .int .i64 (chkR (cs.map toCm)).2]) /\ Below V'.heap.size V' w' by
   have := ckp.check_any ((hQ.stay h).ck (fun x hx => HL2.out x.1 (by rw [<- hm]; exact List.mem_map_of_mem hx))) (by rw [List.length_map, hLl]; have := HZ.out.2; omega);rw [hmc] at this;exact this)
  have w1 := keep_cell hUV HV.out.1;have w2 := keep_cell hUV HV.out.2.1;have w3 := keep_cell hUV HV.out.2.2.1;have w4 := keep_cell hUV HV.out.2.2.2;clear hA hn hV hb5 hUV hQ hmc hLl hL hm HV v1 v2 v3 v4 v5 n1 n2 HPS HK HZ HL2;rcases hor with ⟨h4, hc⟩ | hc
  ·subst h4;refine seg13b _ _ ?hE V b1 (b1 + 1) b3 w5.heap.size (chkR (cs.map toCm)).2 y v w1 w4 f0 w2 w3 ?hC ?_
   case hE => exact fun _ _ _ _ _ h => h
   case hC =>
    intro V' h;have := HCK.out V' h;rw [hc] at this;exact this
   intros
   rename_i W' hb';go_wp2;go_ret;exact ⟨rfl, HWV.out.trans (hb'.mono HWV.out.size)⟩
  ·refine seg13a _ _ ?hE2 V b1 (b1 + 1) b3 w5.heap.size (x : Nat) y v w1 w4 f0 w2 w3 ?hC2 ?_
   case hE2 => exact fun _ _ _ _ _ h => h
   case hC2 =>
    intro V' h;have := HCK.out V' h;rw [hc] at this;exact this
   intros
   rename_i W' hb';go_wp2;go_ret;exact ⟨rfl, HWV.out.trans (hb'.mono HWV.out.size)⟩
 | inr fs =>
  rw [hbl] at h3 hN;simp only at h3 hN;obtain ⟨L1, g1, fv1, hm1, hpa1, _, _, hwt, hgY1, hgb1, hfv1, rfl⟩ := h3;obtain ⟨hb2, hl2, hs2, hsF, hjF⟩ := hN;have hf16 := xqi _ _ _ (by simp) hwt;obtain ⟨fa1, fc1, hfs1⟩ := owns_shape hfv1;subst hfs1;obtain ⟨Z, hZ, hBZ, hP1, hF1, _⟩ := two_new2 w3 (.cells #[.bool q, .slice (some ⟨g1, 0, none⟩) cs.length cs.length, .int .i64 (slN cs : Nat), .slice fa1 fs.length fc1] 26) (.cells #[.int .i64 0, .int .i64 0] 29);go_upto_region 8 with fail
  rw [<- hZ];have HW3 := hideT (HW2.out.trans ((hb3.trans (hBZ.mono hb3.size)).mono HW2.out.size));have HP1 := hideT hP1;have HF1 := hideT hF1;have HG1 := hideT ((hBZ.block g1 (xah hgb1)).trans hgb1);have HT1 := hideT (TRow.of_owns (owns_below hfv1 hBZ));have HA1 := hideT (fun x (hx : x ∈ L1) => (PRow.of_owns (hpa1 x hx)).stay hBZ qr);have HM1 := hideT hm1;have HFL := hideT hf16;clear hZ hBZ hP1 hF1 hb3 hbl HW2 hm1 hpa1 hwt hgY1 hgb1 hfv1 hf16 HPS HL2;generalize w3.heap.size = b1 at *
  go_wp2_with fail
  refine (HBT2.out Z HW3.out).mono ?_;intro e w4 h4;have hb4 := h4.1;have h4 := h4.2;rw [hb2] at h4;simp only at h4;obtain ⟨L2, g2, fv2, hm2, hpa2, _, _, _, hgY2, hgb2, hfv2, rfl⟩ := h4;obtain ⟨fa2, fc2, hfs2⟩ := owns_shape hfv2;subst hfs2;rw [hl2, hs2];rw [hsF, hjF] at hgb2;obtain ⟨U, hU, hBU, hP2, hF2, _⟩ := two_new2 w4 (.cells #[.bool q, .slice (some ⟨g2, 0, none⟩) cs.length cs.length, .int .i64 (slN cs : Nat), .slice fa2 fs.length fc2] 26) (.cells #[.int .i64 0, .int .i64 0] 29);go_upto_region 9 with fail
  rw [<- hU];have hZU := hb4.trans (hBU.mono hb4.size);have HW4 := hideT (HW3.out.trans (hZU.mono HW3.out.size));have q1 := (hZU.block b1 (xah HP1.out)).trans HP1.out;have HG1 := hideT ((hZU.block g1 (xah HG1.out)).trans HG1.out);have HG2 := hideT ((hBU.block g2 (xah hgb2)).trans hgb2);have HT1 := hideT (HT1.out.stay hZU);have HT2 := hideT (TRow.of_owns (owns_below hfv2 hBU));have HA1 := hideT (fun x (hx : x ∈ L1) => (HA1.out x hx).stay hZU qr);have HA2 := hideT (fun x (hx : x ∈ L2) => (PRow.of_owns (hpa2 x hx)).stay hBU qr);have HM2 := hideT hm2;have u0 := CmAt2.cell q1 0 (v := .bool q) rfl;have u1 := CmAt2.cell q1 1 (v := .slice (some ⟨g1, 0, none⟩) cs.length cs.length) rfl;have u2 := CmAt2.cell q1 2 (v := .int .i64 (slN cs : Nat)) rfl;have u3 := CmAt2.cell q1 3 (v := .slice fa1 fs.length fc1) rfl;have u4 := CmAt2.cell ((hZU.block (b1 + 1) (xah HF1.out)).trans HF1.out) 0 (v := .int .i64 0) rfl;have v0 := CmAt2.cell hP2 0 (v := .bool q) rfl;have v1 := CmAt2.cell hP2 1 (v := .slice (some ⟨g2, 0, none⟩) cs.length cs.length) rfl;have v2 := CmAt2.cell hP2 2 (v := .int .i64 (slN cs : Nat)) rfl;have v3 := CmAt2.cell hP2 3 (v := .slice fa2 fs.length fc2) rfl;have v4 := CmAt2.cell hF2 0 (v := .int .i64 0) rfl;have HLE := hideT (show cs.length <= 4097 from HZ.out.2);have HPL := hideT (fun c (hc : c ∈ cs) => show c.ps.length <= 1000000000000000 by have := (HZ.out.1 c hc).ps; have := bulkP_len c.ps; omega);have t1 : (q != q) = false := by simp
  have t2 : (q == q) = true := by simp
  clear hU hBU hP2 hF2 hb4 hZU HP1 HF1 HW3 HBT2 hb2 hl2 hs2 hsF hjF hm2 hpa2 hgY2 hgb2 hfv2 q1 HZ;generalize w4.heap.size = b3 at *;generalize slN cs = sn at *
  go_wp2_with fail
  clear u0 u2 u4 v0 v2 v4 t1 t2
  go_loopw [131] (fun i wr => ∃ k : Nat, k <= cs.length /\ i = .int .i64 k /\ Hid (Below U.heap.size U wr)) (fun i _ => cs.length - (intOf i).toNat)
  case atStart => exact ⟨0, by omega, rfl, hideT (Below.refl _ _)⟩
  case round =>
   obtain ⟨k, hk, rfl, HW⟩ := hrel;have hle := HLE.out;by_cases hlt : k < cs.length
   ·obtain ⟨x, hx, hxc⟩ : ∃ x, L1[k]? = some x /\ cs[k]? = some x.1 := by
     have hkL : k < L1.length := by rw [<- HM1.out, List.length_map] at hlt; exact hlt
     refine ⟨L1[k]'hkL, List.getElem?_eq_getElem hkL, ?_⟩;rw [<- HM1.out, List.getElem?_map, List.getElem?_eq_getElem hkL]; rfl
    obtain ⟨y, hy, hyn⟩ : ∃ y, L2[k]? = some y /\ nfC y.1 = nfC x.1 := by
     have h1 := congrArg (·[k]?) HK.out;rw [<- HM2.out] at h1;simp only [List.getElem?_map, hxc, Option.map_some] at h1;obtain ⟨d, e1, e2⟩ := Option.map_eq_some_iff.1 h1;obtain ⟨y, e3, e4⟩ := Option.map_eq_some_iff.1 e1;exact ⟨y, e3, by rw [e4]; exact e2⟩
    obtain ⟨z, hz⟩ := nf_pl hyn;have a1 := xmz ((HW.out.block g1 (xah HG1.out)).trans HG1.out) hx;have a2 := xmz ((HW.out.block g2 (xah HG2.out)).trans HG2.out) hy;have p1 := (HA1.out x (List.mem_of_getElem? hx)).stay HW.out qr;have p2 := (HA2.out y (List.mem_of_getElem? hy)).stay HW.out qr;have hpl := HPL.out x.1 (List.mem_of_getElem? hxc);obtain ⟨c, pv⟩ := x;obtain ⟨d, qv⟩ := y;simp only at hz a1 a2 p1 p2 hpl;subst hz;have HSM := hideT (fun V (hV : Below wr.heap.size wr V) => same_cmd c z pv qv V (p1.stay hV qr) (p2.stay hV qr) hpl);have x1 := keep_cell HW.out u1;have y1 := keep_cell HW.out v1;have HR := hideT (And.intro a1 a2);clear hx hxc hy hyn a1 a2 p1 p2 hpl;have i1 : (k : Int) < (cs.length : Int) := by omega
    have i2 : (0 : Int) <= (k : Int) := by omega
    go_upto_region 19 with fail
    refine seg19 _ _ ?hE wr b1 b3 g1 g2 cs.length k (jmF cs k) (slF cs k) c { c with pl := z } pv qv hlt x1 y1 (HR.out.1 19 _ rfl) (HR.out.2 19 _ rfl) (HR.out.1 20 _ rfl) (HR.out.2 20 _ rfl) (range_left HR.out.1) (range_left HR.out.2) HSM.out ?_
    case hE => exact fun _ _ _ _ _ h => h
    intros
    rename_i W' hb';have HW' := hideT (HW.out.trans (hb'.mono HW.out.size));clear hb' HR HSM x1 y1 HW;go_wp2;exact ⟨⟨k + 1, by omega, by go_num, HW'⟩, by simp [intOf]; omega⟩
   ·obtain rfl : k = cs.length := by omega
    have i1 : ((cs.length : Int) < (cs.length : Int)) = False := qg;have y3 := keep_cell HW.out u3;have z3 := keep_cell HW.out v3;have hf := HFL.out;obtain ⟨_, _, hv6, h6⟩ := HT1.out;cases hv6;obtain ⟨_, _, hv7, h7⟩ := HT2.out;cases hv7;have H6 := hideT h6;have H7 := hideT h7;clear h6 h7
    go_wp2_with fail
    go_loopw [182] (fun j wr => ∃ m : Nat, m <= fs.length /\ j = .int .i64 m /\ Hid (Below U.heap.size U wr)) (fun j _ => fs.length - (intOf j).toNat)
    case atStart => exact ⟨0, by omega, rfl, HW⟩
    case round =>
     obtain ⟨m, hm, rfl, HV⟩ := hrel;by_cases hml : m < fs.length
     ·obtain ⟨g5, o5, rfl, c1⟩ := H6.out m _ (List.getElem?_eq_getElem hml);obtain ⟨g6, o6, rfl, c2⟩ := H7.out m _ (List.getElem?_eq_getElem hml);have x5 := keep_cell HV.out c1;have x6 := keep_cell HV.out c2;have x3 := keep_cell HV.out u3;have x4 := keep_cell HV.out v3;have j1 : (m : Int) < (fs.length : Int) := by omega
      have j2 : (0 : Int) <= (m : Int) := by omega
      generalize bst (fs[m]'hml) = st at *;clear c1 c2;go_upto_region 25 with fail
      go_quiet (fail)
      go_wp2;exact ⟨⟨m + 1, by omega, by go_num, hideT (HV.out.trans (below_drewN _ _ _))⟩, by simp [intOf]; omega⟩
     ·obtain rfl : m = fs.length := by omega
      have j1 : ((fs.length : Int) < (fs.length : Int)) = False := qg;have HWF := hideT (HW4.out.trans (HV.out.mono HW4.out.size));go_wp2;go_ret;exact ⟨rfl, HWF.out⟩
end em
end Go.Proofs.YtidgnebbibkmhaaGreatDoor
