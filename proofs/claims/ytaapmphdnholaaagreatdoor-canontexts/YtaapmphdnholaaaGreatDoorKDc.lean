/- bre: Positions of a repeat of a small tree. -/
import Derived.Test.YtaapmphdnholaaaGreatDoorKQf
import Derived.Test.YtaapmphdnholaaaGreatDoorKRm
import Derived.Deep.Cut
import Derived.Handy
set_option maxRecDepth 100000
set_option maxHeartbeats 8000000
namespace Go.Proofs.YtaapmphdnholaaaGreatDoor
open Go.RowKit
theorem pos_wide (kd : Nat) (q : Nat → Bool) (lo hi : Int) (gp : Nat) (ks : List Tr) (hsm : 0 ≤ posT (.mk kd q lo hi gp ks) ∧ posT (.mk kd q lo hi gp ks) ≤ 1000000 ∧ (posL ks ≤ 256 ∧ ks.length ≤ 1000000) ∧ xdg ks) (ih : ∀ x ∈ ks, ∀ (w : World) (ok : Nat → Prop) (a : Option Addr) (n c : Nat), Kids w ok (.slice a n c) x.kids → Calls Tryz.prog 47 #[xcm x (.slice a n c)] w fun e w' => e = .returned (.int .i64 (posT x)) ∧ Below w.heap.size w w')
  (w : World) (ok : Nat → Prop) (a : Option Addr) (c : Nat) (hk : Kids w ok (.slice a ks.length c) ks) :
  Calls Tryz.prog 47 #[.agg #[.int .i64 kd, .int .u64 (wd q 0), .int .u64 (wd q 1), .int .u64 (wd q 2), .int .u64 (wd q 3), .int .i64 lo, .int .i64 hi, .int .i64 gp, .slice a ks.length c]] w fun e w' => e = .returned (.int .i64 (posT (.mk kd q lo hi gp ks))) ∧ Below w.heap.size w w' := by
 obtain ⟨hp0, hp1, ⟨hp2, hlen⟩, hp3⟩ := hsm
 have htr : ks.take ks.length = ks := List.take_length
 have HPT : Hid (posT (.mk kd q lo hi gp ks) = if kd = 1 ∨ kd = 6 then 1 else if kd = 5 then (if 0 ≤ hi then posL ks * hi else if 0 < lo then posL ks * lo else posL ks) else posL ks) := xab (by simp only [posT])
 generalize posT (.mk kd q lo hi gp ks) = p at *
 have HA := xab (And.intro hk (And.intro ih (And.intro hp3 htr)))
 clear hk ih hp3 htr
 go_enter Tryz.func47, Tryz.ntmps47
 go_wp2_with fail
 obtain ⟨X, hX⟩ : ∃ X, X = w.alloc (.cells #[.int .i64 kd, .int .u64 (wd q 0), .int .u64 (wd q 1), .int .u64 (wd q 2), .int .u64 (wd q 3), .int .i64 lo, .int .i64 hi, .int .i64 gp, .slice a ks.length c] 36) := ⟨_, rfl⟩
 have hbX : X.heap[w.heap.size]? = some (.cells #[.int .i64 kd, .int .u64 (wd q 0), .int .u64 (wd q 1), .int .u64 (wd q 2), .int .u64 (wd q 3), .int .i64 lo, .int .i64 hi, .int .i64 gp, .slice a ks.length c] 36) := by rw [hX]; exact heap_alloc_new w _
 have hBX : Below w.heap.size w X := by rw [hX]; exact (Below.refl _ _).alloc (Nat.le_refl _) _
 rw [← hX]
 clear hX
 have HX := xab (And.intro hbX hBX)
 clear hbX hBX
 go_loopw [3, 4] (fun v i wr => ∃ k : Nat, k ≤ ks.length ∧ i = .int .i64 k ∧ v = .int .i64 (posL (ks.take k)) ∧ Below X.heap.size X wr) (fun _ i _ => (ks.length - intOf i).toNat)
 case atStart => exact ⟨0, by omega, rfl, rfl, Below.refl _ _⟩
 case round =>
  obtain ⟨k, hk1, rfl, rfl, hB⟩ := hrel
  have hlw : w.heap.size < X.heap.size := (Array.getElem?_eq_some_iff.1 HX.out.1).1
  have hbr := (hB.block _ hlw).trans HX.out.1
  have z0 : wr.cell? ⟨w.heap.size, 0, none⟩ = some (.int .i64 kd) := by simp [World.cell?, hbr]
  have z5 : wr.cell? ⟨w.heap.size, 5, none⟩ = some (.int .i64 lo) := by simp [World.cell?, hbr]
  have z6 : wr.cell? ⟨w.heap.size, 6, none⟩ = some (.int .i64 hi) := by simp [World.cell?, hbr]
  have z8 : wr.cell? ⟨w.heap.size, 8, none⟩ = some (.slice a ks.length c) := by simp [World.cell?, hbr]
  clear hbr hlw
  by_cases hlt : k < ks.length
  ·have hkr := xbu (xbu HA.out.1 HX.out.2) hB
   obtain ⟨g, c', u, he, _, _, hcell, hku⟩ := xhx hkr (i := k) (List.getElem?_eq_getElem hlt)
   obtain rfl : a = some ⟨g, 0, none⟩ := by injection he
   obtain ⟨ua, uc, rfl⟩ := xba hku
   have hic := HA.out.2.1 ks[k] (List.getElem_mem hlt) wr ok ua _ uc hku
   have hsum : posL (ks.take (k + 1)) = posL (ks.take k) + posT ks[k] := by
    rw [List.take_succ_eq_append_getElem hlt, xeg, xcs]
   have hb1 := xe2 ks HA.out.2.2.1 k
   have hb2 := xe2 ks HA.out.2.2.1 (k + 1)
   have y0 := (hcell 0 _ rfl).1
   have y1 := (hcell 1 _ rfl).1
   have y2 := (hcell 2 _ rfl).1
   have y3 := (hcell 3 _ rfl).1
   have y4 := (hcell 4 _ rfl).1
   have y5 := (hcell 5 _ rfl).1
   have y6 := (hcell 6 _ rfl).1
   have y7 := (hcell 7 _ rfl).1
   have y8 := (hcell 8 _ rfl).1
   rw [Nat.add_zero] at y0
   have k3 : (k : Int) < (ks.length : Int) := by omega
   have k4 : (0 : Int) ≤ (k : Int) := by omega
   have k5 : IntKind.i64.wrap ((k : Int) + 1) = (k : Int) + 1 := by rw [IntKind.wrap_i64]; omega
   have k6 : IntKind.i64.wrap (posL (ks.take k) + posT ks[k]) = posL (ks.take k) + posT ks[k] := by rw [IntKind.wrap_i64]; omega
   have HC := xab (And.intro hic hsum)
   clear hkr hcell hku he hic hsum hb1 hb2
   go_wp2_with fail
   refine HC.out.1.mono ?_
   rintro e w2 ⟨rfl, hb2⟩
   have HB := xab (hB.trans (hb2.mono hB.size))
   clear y0 y1 y2 y3 y4 y5 y6 y7 y8 z0 z5 z6 z8 hB hb2
   go_wp2
   exact ⟨⟨k + 1, by omega, by go_num, by rw [HC.out.2], HB.out⟩, by simp [intOf]; omega⟩
  ·obtain rfl : k = ks.length := by omega
   have k3 : ¬ (ks.length : Int) < (ks.length : Int) := by omega
   rw [HA.out.2.2.2]
   have HB := xab (HX.out.2.trans (hB.mono HX.out.2.size))
   generalize posL ks = n at *
   clear hB
   by_cases c1 : kd = 1
   ·subst c1
    have hp := HPT.out
    rw [if_pos (.inl rfl)] at hp
    go_wp2
    go_ret
    exact ⟨rfl, HB.out⟩
   by_cases c6 : kd = 6
   ·subst c6
    have hp := HPT.out
    rw [if_pos (.inr rfl)] at hp
    go_wp2
    go_ret
    exact ⟨rfl, HB.out⟩
   have e1 : ((kd : Int) == 1) = false := by rw [beq_eq_false_iff_ne]; omega
   have e6 : ((kd : Int) == 6) = false := by rw [beq_eq_false_iff_ne]; omega
   have hp := HPT.out
   rw [if_neg (by omega)] at hp
   by_cases c5 : kd = 5
   ·subst c5
    rw [if_pos rfl] at hp
    by_cases h0 : 0 ≤ hi
    ·rw [if_pos h0] at hp
     have kk : IntKind.i64.wrap (n * hi) = n * hi := by rw [← hp, IntKind.wrap_i64]; omega
     have HP2 := xab hp
     clear hp
     go_wp2
     go_ret
     exact ⟨by rw [HP2.out]; rfl, HB.out⟩
    ·rw [if_neg h0] at hp
     have h0' : (0 ≤ hi) = False := eq_false h0
     by_cases h1 : 0 < lo
     ·rw [if_pos h1] at hp
      have kk : IntKind.i64.wrap (n * lo) = n * lo := by rw [← hp, IntKind.wrap_i64]; omega
      have HP2 := xab hp
      clear hp
      go_wp2
      go_ret
      exact ⟨by rw [HP2.out]; rfl, HB.out⟩
     ·rw [if_neg h1] at hp
      have h1' : (0 < lo) = False := eq_false h1
      have HP2 := xab hp
      clear hp
      go_wp2
      go_ret
      exact ⟨by rw [HP2.out]; rfl, HB.out⟩
   ·have e5 : ((kd : Int) == 5) = false := by rw [beq_eq_false_iff_ne]; omega
    rw [if_neg c5] at hp
    have HP2 := xab hp
    clear hp
    go_wp2
    go_ret
    exact ⟨by rw [HP2.out]; rfl, HB.out⟩
theorem xjf (t : Tr) (ht : xck t) (lo hi : Int) (h1 : 0 ≤ lo ∧ lo ≤ 255) (h2 : -1 ≤ hi ∧ hi ≤ 255) (w : World) (ok : Nat → Prop) (a : Option Addr) (c : Nat) (hk : Kids w ok (.slice a 1 c) [t]) :
  Calls Tryz.prog 47 #[.agg #[.int .i64 5, .int .u64 0, .int .u64 0, .int .u64 0, .int .u64 0, .int .i64 lo, .int .i64 hi, .int .i64 0, .slice a 1 c]] w fun e w' => e = .returned (.int .i64 (posT (repT lo hi t))) ∧ Below w.heap.size w w' := by
 have hp := xbt t ht
 have hm : posT t * xay lo hi ≤ 256 * 255 := by
  have ht2 : 0 ≤ xay lo hi ∧ xay lo hi ≤ 255 := by unfold xay; split <;> omega
  exact Int.mul_le_mul hp.2.1 ht2.2 ht2.1 (by omega)
 have h0 : 0 ≤ posT t * xay lo hi := Int.mul_nonneg hp.1 (by unfold xay; split <;> omega)
 have e := xgc lo hi t
 have z0 : wd xad 0 = 0 := xaa 0
 have z1 : wd xad 1 = 0 := xaa 1
 have z2 : wd xad 2 = 0 := xaa 2
 have z3 : wd xad 3 = 0 := xaa 3
 have hw := pos_wide 5 xad lo hi 0 [t] ⟨by show 0 ≤ posT (repT lo hi t); omega, by show posT (repT lo hi t) ≤ 1000000; omega, ⟨by rw [xcs]; exact hp.2.1, by simp⟩, ⟨ht, trivial⟩⟩
  (fun x hx => by rw [List.mem_singleton.1 hx]; exact fun w ok a n c hk => xka _ t (Nat.lt_succ_self _) ht w ok a n c hk) w ok a c hk
 rw [z0, z1, z2, z3] at hw
 exact hw
theorem xjg (r : Rd) (n : Int) (i : Nat) (h : r.e = 0) : (256 < r.size + n ∧ (r.grow n i).e = 13 ∧ (r.grow n i).place = i) ∨ (r.size + n ≤ 256 ∧ r.grow n i = { r with size := r.size + n }) := by
 unfold Rd.grow
 by_cases hg : r.size + n > 256
 ·rw [if_pos hg]
  have := xc5 (r := { r with size := r.size + n }) h 13 i
  exact .inl ⟨hg, this.1, this.2⟩
 ·rw [if_neg hg]
  exact .inr ⟨by omega, rfl⟩
theorem xia {s : ByteArray} (hs : s.size ≤ 512) {i k k1 : Nat} {P P1 : Ps} {r : Rd} {ts : List Tr} {t : Tr} (h : Goes s i k P r P1 k1 (ts ++ [t])) (hi : r.pos < s.size) (h7 : (xaf s r.pos k1).kind = 7) :
  Fails s i k P (({ r with pos := (xaf s r.pos k1).to } : Rd).grow (posT (repT (xaf s r.pos k1).lo (xaf s r.pos k1).hi t) - posT t) r.pos) ∨
  ∃ P2, Goes s i k P (({ r with pos := (xaf s r.pos k1).to } : Rd).grow (posT (repT (xaf s r.pos k1).lo (xaf s r.pos k1).hi t) - posT t) r.pos) P2 7 (ts ++ [repT (xaf s r.pos k1).lo (xaf s r.pos k1).hi t]) := by
 obtain ⟨T, hT⟩ : ∃ T, T = xaf s r.pos k1 := ⟨_, rfl⟩
 have hla : P1.top.parts.getLast? = some t := by rw [h.top]; simp
 have hdl : P1.top.parts.dropLast = ts := by rw [h.top]; simp
 have e : P1.take T = (P1.rep ts t T.lo T.hi).grown := by
  rw [← hT] at h7
  obtain ⟨kd, fr, to, er, q, gp, lo, hi⟩ := T
  have h7' : kd = 7 := h7
  subst h7'
  simp only [Ps.take, hla, hdl]
 have hl := h.sim.well.counts.last t hla
 have hn : P1.size + P1.last * (xay T.lo T.hi - 1) = r.size + (posT (repT T.lo T.hi t) - posT t) := by
  rw [xgc, hl, h.sim.z, Int.mul_sub, Int.mul_one]
 rw [← hT]
 have hsz : (P1.rep ts t T.lo T.hi).size = P1.size + P1.last * (xay T.lo T.hi - 1) := rfl
 rcases xjg ({ r with pos := T.to } : Rd) (posT (repT T.lo T.hi t) - posT t) r.pos h.sim.e with ⟨g1, g2, g3⟩ | ⟨g1, g2⟩
 ·refine .inl (h.fails (xf1 hi ?_ ?_ g3))
  ·rw [← hT, e]; show bigE (P1.rep ts t T.lo T.hi).size ≠ 0
   rw [hsz, hn]; unfold bigE; rw [if_pos g1]; decide
  ·rw [g2, ← hT, e]; show (13 : Int) = bigE (P1.rep ts t T.lo T.hi).size
   rw [hsz, hn]; unfold bigE; rw [if_pos g1]
 ·refine .inr ⟨(P1.take T).2, h.trans ?_⟩
  have h0 : (P1.take T).1 = 0 := by
   rw [e]; show bigE (P1.rep ts t T.lo T.hi).size = 0
   rw [hsz, hn]; unfold bigE; rw [if_neg (by have : r.size + (posT (repT T.lo T.hi t) - posT t) ≤ 256 := g1; omega)]
  rw [g2]
  have hk7 : T.kind = 7 := by rw [hT]; exact h7
  have := xki (r' := { ({ r with pos := T.to } : Rd) with size := r.size + (posT (repT T.lo T.hi t) - posT t) }) (ts := ts ++ [repT T.lo T.hi t]) hs h.sim hi (by rw [← hT]; exact h0) (by rw [h7]; omega)
   (by rw [← hT, e]; rfl) (by rw [← hT, e]; rfl) h.sim.e (by rw [← hT]) (by rw [← hT, e]; exact h.sim.g) (by rw [← hT, e]; exact h.sim.c) (by rw [← hT, e]; exact hn.symm)
  rw [h7, ← hT] at this
  exact this
structure RI (s : ByteArray) (b : Nat) (w : World) (ok : Nat → Prop) (W : World) (r : Rd) (t : Tr) (u : Value) : Prop where
 rd : IsRd W b s r
 tb : Blk9 W w.heap.size (xbf t u)
 zb : Blk9 W (w.heap.size + 1) xek
 kids : Kids W (fun g => (ok g ∧ g ≠ b ∧ g < w.heap.size) ∨ w.heap.size + 2 ≤ g) u t.kids
 gr : w.grownBy W (some b)
 old : b < w.heap.size
theorem Blk9.lt {W : World} {c : Nat} {vs : List Value} (h : Blk9 W c vs) : c < W.heap.size := (Array.getElem?_eq_some_iff.1 h.2).1
theorem Blk9.far {W W' : World} {c : Nat} {vs : List Value} (h : Blk9 W c vs) (k : W'.heap[c]? = W.heap[c]?) : Blk9 W' c vs := ⟨h.1, k.trans h.2⟩
theorem xd4 {W : World} {ok : Nat → Prop} {v : Value} {ts : List Tr} (h : Kids W ok v ts) : Kids W (fun g => ok g ∧ g < W.heap.size) v ts := by
 induction h with
 | mk v ts vs hl own hok _ ih => exact .mk v ts vs hl own (fun g hg => ⟨hok g hg, (xbs own hg).2.1⟩) ih
theorem RI.step {s : ByteArray} {b : Nat} {w : World} {ok : Nat → Prop} {W W' : World} {r r' : Rd} {t : Tr} {u : Value} (h : RI s b w ok W r t u) (g : W.grownBy W' (some b)) (hr : IsRd W' b s r') : RI s b w ok W' r' t u := by
 have ho := h.old
 have hz := h.zb.lt
 refine ⟨hr, h.tb.far (g.block _ (by omega) (fun e => by cases e; omega)), h.zb.far (g.block _ hz (fun e => by cases e; omega)), ?_, xag h.gr g, ho⟩
 refine (xd4 h.kids).keep (fun x hx => g.block x hx.2 (fun e => by cases e; rcases hx.1 with h1 | h1; exact h1.2.1 rfl; omega)) (fun x hx => hx.1)
theorem RI.below {s : ByteArray} {b : Nat} {w : World} {ok : Nat → Prop} {W W' : World} {r : Rd} {t : Tr} {u : Value} (h : RI s b w ok W r t u) (g : Below W.heap.size W W') : RI s b w ok W' r t u :=
 h.step (xar g _) (h.rd.below g h.rd.lt)
theorem RI.drew {s : ByteArray} {b : Nat} {w : World} {ok : Nat → Prop} {W : World} {r : Rd} {t : Tr} {u : Value} (h : RI s b w ok W r t u) (n : Nat) : RI s b w ok (W.drewN n) r t u := h.step (xbz _ _ _) (h.rd.drew n)
theorem RI.place {s : ByteArray} {b : Nat} {w : World} {ok : Nat → Prop} {W : World} {r : Rd} {t : Tr} {u : Value} (h : RI s b w ok W r t u) (p : Nat) : RI s b w ok (W.setCell ⟨b, 1, none⟩ (.int .i64 p)) { r with pos := p } t u :=
 h.step (xal _ _ _ _) (IsRd.put h.rd 1 _ rfl)
abbrev nine (W : World) (c : Nat) (x0 x1 x2 x3 x4 x5 x6 x7 x8 : Value) : World := ((((((((W.setCell ⟨c, 0, none⟩ x0).setCell ⟨c, 1, none⟩ x1).setCell ⟨c, 2, none⟩ x2).setCell ⟨c, 3, none⟩ x3).setCell ⟨c, 4, none⟩ x4).setCell ⟨c, 5, none⟩ x5).setCell ⟨c, 6, none⟩ x6).setCell ⟨c, 7, none⟩ x7).setCell ⟨c, 8, none⟩ x8
theorem xcc (W : World) {c : Nat} (x0 x1 x2 x3 x4 x5 x6 x7 x8 : Value) {j : Nat} (h : j ≠ c) : (nine W c x0 x1 x2 x3 x4 x5 x6 x7 x8).heap[j]? = W.heap[j]? := by
 exact (xas _ c 8 _ h).trans ((xas _ c 7 _ h).trans ((xas _ c 6 _ h).trans ((xas _ c 5 _ h).trans ((xas _ c 4 _ h).trans ((xas _ c 3 _ h).trans ((xas _ c 2 _ h).trans ((xas _ c 1 _ h).trans (xas _ c 0 _ h))))))))
theorem xfm {W : World} {c : Nat} {vs : List Value} (h : Blk9 W c vs) (x0 x1 x2 x3 x4 x5 x6 x7 x8 : Value) : Blk9 (nine W c x0 x1 x2 x3 x4 x5 x6 x7 x8) c [x0, x1, x2, x3, x4, x5, x6, x7, x8] := by
 refine ⟨rfl, ?_⟩
 obtain ⟨hl, hb⟩ := h
 obtain ⟨y0, y1, y2, y3, y4, y5, y6, y7, y8, rfl⟩ : ∃ y0 y1 y2 y3 y4 y5 y6 y7 y8, vs = [y0, y1, y2, y3, y4, y5, y6, y7, y8] := by
  match vs, hl with
  | [y0, y1, y2, y3, y4, y5, y6, y7, y8], _ => exact ⟨_, _, _, _, _, _, _, _, _, rfl⟩
 have h0 := xaq W c 0 x0 hb
 have h1 := xaq _ c 1 x1 h0
 have h2 := xaq _ c 2 x2 h1
 have h3 := xaq _ c 3 x3 h2
 have h4 := xaq _ c 4 x4 h3
 have h5 := xaq _ c 5 x5 h4
 have h6 := xaq _ c 6 x6 h5
 have h7 := xaq _ c 7 x7 h6
 have h8 := xaq _ c 8 x8 h7
 exact h8.trans (by simp)
theorem xdr (W : World) (c : Nat) (x0 x1 x2 x3 x4 x5 x6 x7 x8 : Value) : W.grownBy (nine W c x0 x1 x2 x3 x4 x5 x6 x7 x8) (some c) :=
 xag (xag (xag (xag (xag (xag (xag (xag (xal W c 0 _) (xal _ c 1 _)) (xal _ c 2 _)) (xal _ c 3 _)) (xal _ c 4 _)) (xal _ c 5 _)) (xal _ c 6 _)) (xal _ c 7 _)) (xal _ c 8 _)
theorem xee {w A B : World} {o : Option Nat} {c : Nat} (h : w.grownBy A o) (k : A.grownBy B (some c)) (hc : w.heap.size ≤ c) : w.grownBy B o :=
 ⟨k.os.trans h.os, k.tape.trans h.tape, k.output.trans h.output, Nat.le_trans h.size k.size, fun j hj hr => (k.block j (Nat.lt_of_lt_of_le hj h.size) (fun e => by cases e; omega)).trans (h.block j hj hr)⟩
theorem xox (W : World) (a k : Nat) (v : Value) : (W.setCell ⟨a, k, none⟩ v).heap.size = W.heap.size := by
 show (W.heap.modify a _).size = _
 rw [Array.size_modify]
theorem xl2 (W : World) (c : Nat) (x0 x1 x2 x3 x4 x5 x6 x7 x8 : Value) : (nine W c x0 x1 x2 x3 x4 x5 x6 x7 x8).heap.size = W.heap.size := by
 simp only [nine, xox]
theorem RI.wrap {s : ByteArray} {b : Nat} {w : World} {ok : Nat → Prop} {W : World} {r : Rd} {t : Tr} {u : Value} (h : RI s b w ok W r t u) (lo hi : Int) :
  RI s b w ok ((nine W w.heap.size (.int .i64 5) (.int .u64 0) (.int .u64 0) (.int .u64 0) (.int .u64 0) (.int .i64 lo) (.int .i64 hi) (.int .i64 0) (.slice (some ⟨W.heap.size, 0, none⟩) 1 1)).alloc (.cells (xbf t u).toArray 36)) r (repT lo hi t) (.slice (some ⟨W.heap.size, 0, none⟩) 1 1) := by
 have ho := h.old
 have hz := h.zb.lt
 have ht := h.tb.lt
 obtain ⟨V, hV⟩ : ∃ V, V = nine W w.heap.size (.int .i64 5) (.int .u64 0) (.int .u64 0) (.int .u64 0) (.int .u64 0) (.int .i64 lo) (.int .i64 hi) (.int .i64 0) (.slice (some ⟨W.heap.size, 0, none⟩) 1 1) := ⟨_, rfl⟩
 have hVs : V.heap.size = W.heap.size := by rw [hV]; exact xl2 _ _ _ _ _ _ _ _ _ _ _
 have hVf : ∀ j, j ≠ w.heap.size → V.heap[j]? = W.heap[j]? := fun j hj => by rw [hV]; exact xcc _ _ _ _ _ _ _ _ _ _ hj
 have hVt : Blk9 V w.heap.size [.int .i64 5, .int .u64 0, .int .u64 0, .int .u64 0, .int .u64 0, .int .i64 lo, .int .i64 hi, .int .i64 0, .slice (some ⟨W.heap.size, 0, none⟩) 1 1] := by rw [hV]; exact xfm h.tb _ _ _ _ _ _ _ _ _
 have hVg : W.grownBy V (some w.heap.size) := by rw [hV]; exact xdr _ _ _ _ _ _ _ _ _ _ _
 rw [← hV]
 clear hV
 have hb2 : Blk9 (V.alloc (.cells (xbf t u).toArray 36)) W.heap.size (xbf t u) := ⟨rfl, by rw [← hVs]; exact heap_alloc_new V _⟩
 have ha : ∀ j, j < W.heap.size → (V.alloc (.cells (xbf t u).toArray 36)).heap[j]? = V.heap[j]? := fun j hj => Below.heap_alloc _ _ _ (by omega)
 refine ⟨?_, ?_, ?_, ?_, ?_, ho⟩
 ·have h2 : _ = _ := h.rd
  show (V.alloc _).heap[b]? = _
  rw [ha b (by omega), hVf b (by omega)]
  exact h2
 ·rw [xk0]
  exact hVt.far (ha _ (by omega))
 ·exact h.zb.far ((ha _ (by omega)).trans (hVf _ (by omega)))
 ·refine xgz (b := W.heap.size) (t := t) (u := u) hb2.2 (.inr (by omega)) ?_
  refine (xd4 h.kids).keep (fun g hg => (ha g hg.2).trans (hVf g (fun e => ?_))) (fun _ hg => hg.1)
  rcases hg.1 with hg | hg <;> omega
 ·exact xbo (xee h.gr hVg (Nat.le_refl _)) ((Below.refl _ _).alloc (by rw [hVs]; exact h.gr.size) _)
structure RO (s : ByteArray) (b : Nat) (w : World) (ok : Nat → Prop) (W : World) (r : Rd) (t : Tr) (u : Value) : Prop where
 rd : IsRd W b s r
 kids : Kids W (fun g => ok g ∨ w.heap.size ≤ g) u t.kids
 gr : w.grownBy W (some b)
theorem RI.answer {s : ByteArray} {b : Nat} {w : World} {ok : Nat → Prop} {W : World} {r : Rd} {t : Tr} {u : Value} (h : RI s b w ok W r t u) :
  RO s b w ok (nine W (w.heap.size + 1) (.int .i64 t.kind) (.int .u64 (wd t.q 0)) (.int .u64 (wd t.q 1)) (.int .u64 (wd t.q 2)) (.int .u64 (wd t.q 3)) (.int .i64 t.lo) (.int .i64 t.hi) (.int .i64 t.grp) u) r t u ∧ Blk9 (nine W (w.heap.size + 1) (.int .i64 t.kind) (.int .u64 (wd t.q 0)) (.int .u64 (wd t.q 1)) (.int .u64 (wd t.q 2)) (.int .u64 (wd t.q 3)) (.int .i64 t.lo) (.int .i64 t.hi) (.int .i64 t.grp) u) (w.heap.size + 1) (xbf t u) := by
 have ho := h.old
 refine ⟨⟨?_, ?_, ?_⟩, xfm h.zb _ _ _ _ _ _ _ _ _⟩
 ·have h2 : _ = _ := h.rd
  exact (xcc _ _ _ _ _ _ _ _ _ _ (by omega)).trans h2
 ·refine h.kids.keep (fun g hg => xcc _ _ _ _ _ _ _ _ _ _ (fun e => ?_)) (fun g hg => ?_)
  ·rcases hg with hg | hg <;> omega
  ·rcases hg with hg | hg
   ·exact .inl hg.1
   ·exact .inr (by omega)
 ·exact xee h.gr (xdr _ _ _ _ _ _ _ _ _ _ _) (by omega)
def RL (s : ByteArray) (i k : Nat) (P : Ps) (ts : List Tr) (r : Rd) (t : Tr) : Prop := Fails s i k P r ∨ ∃ P' k', Goes s i k P r P' k' (ts ++ [t]) ∧ repB k' = true
def RQ (s : ByteArray) (i k : Nat) (P : Ps) (ts : List Tr) (r : Rd) (t : Tr) : Prop := Fails s i k P r ∨ ∃ P' k', Goes s i k P r P' k' (ts ++ [t]) ∧ k' ≠ 4 ∧ (repB k' = true → seeB s ⟨#[42]⟩ r.pos = false ∧ seeB s ⟨#[92, 123]⟩ r.pos = false)
theorem rep_ne4 {k : Nat} (h : repB k = true) : k ≠ 4 := fun e => by rw [e] at h; cases h
theorem star_tok {s : ByteArray} {i k : Nat} (h : seeB s ⟨#[42]⟩ i = true) (hk : repB k = true) : xaf s i k = ⟨7, i, i + 1, 0, xad, 0, 0, -1⟩ := by
 rw [see1] at h
 have h1 := of_decide_eq_true h
 have e : xac s i = 42 := h1.2
 unfold xaf
 rw [e]
 rw [if_neg (by omega), if_neg (by omega), if_neg (by omega), if_neg (by omega), if_neg (by omega), if_pos ⟨rfl, hk⟩]
theorem xs1 {s : ByteArray} {i k : Nat} (h : seeB s ⟨#[92, 123]⟩ i = true) (hk : repB k = true) : xaf s i k = xfz s i := by
 have hl := xdf h
 have hl' : i + 2 ≤ s.size := hl
 rw [see2] at h
 have h1 := of_decide_eq_true h
 have e1 : xac s i = 92 := h1.2.1
 have e2 : xac s (i + 1) = 123 := h1.2.2
 rw [← xkh s i hl']
 unfold xaf
 rw [if_pos e1]
 unfold xbr
 rw [if_neg (by omega), e2]
 unfold escB
 rw [if_neg (by decide), if_neg (by decide), if_pos ⟨rfl, hk⟩]
theorem xs2 (s : ByteArray) (p : Nat) (hp : p ≤ s.size) : (ivAt s p).2.2.2 = true → p ≤ (ivAt s p).1 ∧ (ivAt s p).1 ≤ s.size ∧ (0 ≤ (ivAt s p).2.1 ∧ (ivAt s p).2.1 ≤ 255) ∧ (-1 ≤ (ivAt s p).2.2.1 ∧ (ivAt s p).2.2.1 ≤ 255) := by
 intro h
 have hb := xj6 s p hp
 obtain ⟨p1, lo, hA⟩ : ∃ p1 lo, dgAt s p = (p1, lo) := ⟨_, _, rfl⟩
 obtain ⟨p2, hi, hH⟩ : ∃ p2 hi, ivHi s p1 lo = (p2, hi) := ⟨_, _, rfl⟩
 rw [hA] at hb
 have hb2 : p1 ≤ p2 ∧ p2 ≤ s.size ∧ -1 ≤ hi ∧ hi ≤ 256 := by
  unfold ivHi at hH
  split at hH
  ·rename_i hc
   have hc1 : p1 + 1 ≤ s.size := xdf hc
   have hb3 := xj6 s (p1 + 1) hc1
   rw [hH] at hb3
   simp only at hb3
   omega
  ·cases hH
   simp only at hb
   omega
 simp only at hb
 cases hbad : (xdw lo hi || !seeB s ⟨#[92, 125]⟩ p2) with
 | true => rw [xd1 hA hH hbad] at h; cases h
 | false =>
  rw [xnb hA hH hbad]
  simp only [Bool.or_eq_false_iff, Bool.not_eq_false'] at hbad
  have hl : p2 + 2 ≤ s.size := xdf hbad.2
  have h3 := hbad.1
  simp only [xdw, Bool.or_eq_false_iff, decide_eq_false_iff_not] at h3
  simp only
  omega
theorem xoy (r : Rd) (n : Int) (i : Nat) : (r.grow n i).pos = r.pos := by
 unfold Rd.grow Rd.failed
 split
 ·split <;> rfl
 ·rfl
theorem xoz {t : Tr} (ht : xck t) (lo hi : Int) (h1 : 0 ≤ lo ∧ lo ≤ 255) (h2 : -1 ≤ hi ∧ hi ≤ 255) : 0 ≤ posT (repT lo hi t) ∧ posT (repT lo hi t) ≤ 256 * 255 := by
 have hp := xbt t ht
 have ht2 : 0 ≤ xay lo hi ∧ xay lo hi ≤ 255 := by unfold xay; split <;> omega
 rw [xgc]
 exact ⟨Int.mul_nonneg hp.1 ht2.1, Int.mul_le_mul hp.2.1 ht2.2 ht2.1 (by omega)⟩
theorem xn3 (s : ByteArray) (hs : s.size ≤ 512) (b : Nat) (i k : Nat) (P : Ps) (ts : List Tr) (w : World) (ok : Nat → Prop) (hok : ∀ g, ok g → g ≠ b) (r0 : Rd) (t0 : Tr) (u0 : Value) (hr0 : IsRd w b s r0) (hk0 : Kids w ok u0 t0.kids) (hl0 : RL s i k P ts r0 t0) :
  Calls Tryz.prog 26 #[.pointer (some ⟨b, 0, none⟩), xcm t0 u0] w fun x w' => ∃ r t u, x = .returned (xcm t u) ∧ RO s b w ok w' r t u ∧ RQ s i k P ts r t := by
 have hs30 : s.size ≤ 1073741824 := by omega
 go_enter Tryz.func26, Tryz.ntmps26
 go_wp2_with fail
 obtain ⟨X, hX⟩ : ∃ X, X = (w.alloc (.cells #[.int .i64 t0.kind, .int .u64 (wd t0.q 0), .int .u64 (wd t0.q 1), .int .u64 (wd t0.q 2), .int .u64 (wd t0.q 3), .int .i64 t0.lo, .int .i64 t0.hi, .int .i64 t0.grp, u0] 36)).alloc (.cells #[.int .i64 0, .int .u64 0, .int .u64 0, .int .u64 0, .int .u64 0, .int .i64 0, .int .i64 0, .int .i64 0, .slice none 0 0] 36) := ⟨_, rfl⟩
 have hBX : Below w.heap.size w X := by
  rw [hX]
  exact ((Below.refl _ _).alloc (Nat.le_refl _) _).alloc (by rw [World.size_alloc]; omega) _
 have H0 : RI s b w ok X r0 t0 u0 := by
  refine ⟨hr0.below hBX hr0.lt, ⟨rfl, ?_⟩, ⟨rfl, ?_⟩, ?_, xar hBX _, hr0.lt⟩
  ·rw [hX, Below.heap_alloc _ _ _ (by rw [World.size_alloc]; omega)]
   exact heap_alloc_new w _
  ·rw [hX, ← World.size_alloc w (.cells #[.int .i64 t0.kind, .int .u64 (wd t0.q 0), .int .u64 (wd t0.q 1), .int .u64 (wd t0.q 2), .int .u64 (wd t0.q 3), .int .i64 t0.lo, .int .i64 t0.hi, .int .i64 t0.grp, u0] 36)]
   exact heap_alloc_new _ _
  ·exact (xd4 hk0).keep (fun g hg => hBX.block g hg.2) (fun g hg => .inl ⟨hg.1, hok g hg.1, hg.2⟩)
 rw [← hX]
 clear hX hBX hr0 hk0
 go_loopw [] (fun wr => ∃ r t u, Hid (RI s b w ok wr r t u) ∧ Hid (RL s i k P ts r t)) (fun wr => s.size - (intOf ((wr.cell? ⟨b, 1, none⟩).getD (.bool false))).toNat)
 case atStart => exact ⟨r0, t0, u0, H0, hl0⟩
 case round =>
  obtain ⟨r, t, u, HI, HL⟩ := hrel
  obtain ⟨ua, uc, rfl⟩ := xba HI.out.kids
  obtain ⟨rc1, rf1⟩ := HI.out.rd.cell 1 _ rfl
  obtain ⟨rc2, rf2⟩ := HI.out.rd.cell 2 _ rfl
  obtain ⟨tc0, tf0⟩ := HI.out.tb.cell 0 _ rfl
  obtain ⟨tc1, tf1⟩ := HI.out.tb.cell 1 _ rfl
  obtain ⟨tc2, tf2⟩ := HI.out.tb.cell 2 _ rfl
  obtain ⟨tc3, tf3⟩ := HI.out.tb.cell 3 _ rfl
  obtain ⟨tc4, tf4⟩ := HI.out.tb.cell 4 _ rfl
  obtain ⟨tc5, tf5⟩ := HI.out.tb.cell 5 _ rfl
  obtain ⟨tc6, tf6⟩ := HI.out.tb.cell 6 _ rfl
  obtain ⟨tc7, tf7⟩ := HI.out.tb.cell 7 _ rfl
  obtain ⟨tc8, tf8⟩ := HI.out.tb.cell 8 _ rfl
  obtain ⟨zc0, zf0⟩ := HI.out.zb.cell 0 _ rfl
  obtain ⟨zc1, zf1⟩ := HI.out.zb.cell 1 _ rfl
  obtain ⟨zc2, zf2⟩ := HI.out.zb.cell 2 _ rfl
  obtain ⟨zc3, zf3⟩ := HI.out.zb.cell 3 _ rfl
  obtain ⟨zc4, zf4⟩ := HI.out.zb.cell 4 _ rfl
  obtain ⟨zc5, zf5⟩ := HI.out.zb.cell 5 _ rfl
  obtain ⟨zc6, zf6⟩ := HI.out.zb.cell 6 _ rfl
  obtain ⟨zc7, zf7⟩ := HI.out.zb.cell 7 _ rfl
  obtain ⟨zc8, zf8⟩ := HI.out.zb.cell 8 _ rfl
  have ne1 : (w.heap.size = w.heap.size + 1) = False := eq_false (by omega)
  have ne2 : (w.heap.size + 1 = w.heap.size) = False := eq_false (by omega)
  have ne3 : (b = w.heap.size) = False := eq_false (by have := H0.old; omega)
  have ne4 : (b = w.heap.size + 1) = False := eq_false (by have := H0.old; omega)
  have ne5 : (w.heap.size = b) = False := eq_false (by have := H0.old; omega)
  have ne6 : (w.heap.size + 1 = b) = False := eq_false (by have := H0.old; omega)
  rcases HL.out with hf | ⟨P1, k1, hgo, hrep⟩
  ·have he : (r.e == 0) = false := by rw [beq_eq_false_iff_ne]; exact hf.e
   have HF := xab hf
   clear hf
   go_wp2
   obtain ⟨Y, hY⟩ : ∃ Y, Y = ((((((((wr.setCell ⟨w.heap.size + 1, 0, none⟩ (.int .i64 t.kind)).setCell ⟨w.heap.size + 1, 1, none⟩ (.int .u64 (wd t.q 0))).setCell ⟨w.heap.size + 1, 2, none⟩ (.int .u64 (wd t.q 1))).setCell ⟨w.heap.size + 1, 3, none⟩ (.int .u64 (wd t.q 2))).setCell ⟨w.heap.size + 1, 4, none⟩ (.int .u64 (wd t.q 3))).setCell ⟨w.heap.size + 1, 5, none⟩ (.int .i64 t.lo)).setCell ⟨w.heap.size + 1, 6, none⟩ (.int .i64 t.hi)).setCell ⟨w.heap.size + 1, 7, none⟩ (.int .i64 t.grp)).setCell ⟨w.heap.size + 1, 8, none⟩ (.slice ua t.kids.length uc) := ⟨_, rfl⟩
   have hYo : RO s b w ok Y r t (.slice ua t.kids.length uc) ∧ Blk9 Y (w.heap.size + 1) (xbf t (.slice ua t.kids.length uc)) := by rw [hY]; exact HI.out.answer
   rw [← hY]
   clear hY tc0 tc1 tc2 tc3 tc4 tc5 tc6 tc7 tc8 tf0 tf1 tf2 tf3 tf4 tf5 tf6 tf7 tf8 zc0 zc1 zc2 zc3 zc4 zc5 zc6 zc7 zc8 zf0 zf1 zf2 zf3 zf4 zf5 zf6 zf7 zf8
   have o0 := (hYo.2.cell 0 _ rfl).1
   have o1 := (hYo.2.cell 1 _ rfl).1
   have o2 := (hYo.2.cell 2 _ rfl).1
   have o3 := (hYo.2.cell 3 _ rfl).1
   have o4 := (hYo.2.cell 4 _ rfl).1
   have o5 := (hYo.2.cell 5 _ rfl).1
   have o6 := (hYo.2.cell 6 _ rfl).1
   have o7 := (hYo.2.cell 7 _ rfl).1
   have o8 := (hYo.2.cell 8 _ rfl).1
   refine bodyPost_ret (v := xcm t (.slice ua t.kids.length uc)) (by simp [results, Tryz.results26, go_sem, o0, o1, o2, o3, o4, o5, o6, o7, o8]; try rfl) rfl ?_
   exact ⟨r, t, _, rfl, hYo.1, .inl HF.out⟩
  ·have HG := xab (And.intro hgo hrep)
   have he := hgo.sim.e
   rw [he] at rc2
   have hle := hgo.sim.le
   have hS1 := xa0 s ⟨#[42]⟩ hs30 (by decide) r hle b wr HI.out.rd
   clear hgo hrep
   go_wp2_with fail
   refine hS1.mono ?_
   rintro e1 w1 ⟨rfl, n1, rfl⟩
   clear hS1
   have hsm := xcb _ (HG.out.1.sim.well.small P1.top (by simp)) t (by rw [HG.out.1.top]; simp)
   have HG := xab (And.intro HG.out.1 (And.intro HG.out.2 hsm))
   clear hsm he
   have HI1 := xab (HI.out.drew n1)
   generalize wr.drewN n1 = W1 at *
   clear rc1 rf1 rc2 rf2 tc0 tc1 tc2 tc3 tc4 tc5 tc6 tc7 tc8 tf0 tf1 tf2 tf3 tf4 tf5 tf6 tf7 tf8 zc0 zc1 zc2 zc3 zc4 zc5 zc6 zc7 zc8 zf0 zf1 zf2 zf3 zf4 zf5 zf6 zf7 zf8
   obtain ⟨rc1, rf1⟩ := HI1.out.rd.cell 1 _ rfl
   obtain ⟨rc2, rf2⟩ := HI1.out.rd.cell 2 _ rfl
   obtain ⟨tc0, tf0⟩ := HI1.out.tb.cell 0 _ rfl
   obtain ⟨tc1, tf1⟩ := HI1.out.tb.cell 1 _ rfl
   obtain ⟨tc2, tf2⟩ := HI1.out.tb.cell 2 _ rfl
   obtain ⟨tc3, tf3⟩ := HI1.out.tb.cell 3 _ rfl
   obtain ⟨tc4, tf4⟩ := HI1.out.tb.cell 4 _ rfl
   obtain ⟨tc5, tf5⟩ := HI1.out.tb.cell 5 _ rfl
   obtain ⟨tc6, tf6⟩ := HI1.out.tb.cell 6 _ rfl
   obtain ⟨tc7, tf7⟩ := HI1.out.tb.cell 7 _ rfl
   obtain ⟨tc8, tf8⟩ := HI1.out.tb.cell 8 _ rfl
   obtain ⟨zc0, zf0⟩ := HI1.out.zb.cell 0 _ rfl
   obtain ⟨zc1, zf1⟩ := HI1.out.zb.cell 1 _ rfl
   obtain ⟨zc2, zf2⟩ := HI1.out.zb.cell 2 _ rfl
   obtain ⟨zc3, zf3⟩ := HI1.out.zb.cell 3 _ rfl
   obtain ⟨zc4, zf4⟩ := HI1.out.zb.cell 4 _ rfl
   obtain ⟨zc5, zf5⟩ := HI1.out.zb.cell 5 _ rfl
   obtain ⟨zc6, zf6⟩ := HI1.out.zb.cell 6 _ rfl
   obtain ⟨zc7, zf7⟩ := HI1.out.zb.cell 7 _ rfl
   obtain ⟨zc8, zf8⟩ := HI1.out.zb.cell 8 _ rfl
   cases hst : seeB s ⟨#[42]⟩ r.pos with
   | true =>
    have hlt : r.pos < s.size := xdf hst
    have k1 : IntKind.i64.wrap ((r.pos : Int) + 1) = (r.pos : Int) + 1 := by rw [IntKind.wrap_i64]; omega
    have htok := star_tok hst HG.out.2.1
    have hstep := xia hs HG.out.1 hlt (by rw [htok])
    rw [htok] at hstep
    have HS : Hid (RL s i k P ts (({ r with pos := r.pos + 1 } : Rd).grow (posT (repT 0 (-1) t) - posT t) r.pos) (repT 0 (-1) t)) := hstep.imp id (fun ⟨P2, h2⟩ => ⟨P2, 7, h2, rfl⟩)
    clear htok hstep hst
    go_upto_region 14 with fail
    obtain ⟨W2, hW2⟩ : ∃ W2, W2 = W1.setCell ⟨b, 1, none⟩ (.int .i64 ((r.pos : Int) + 1)) := ⟨_, rfl⟩
    have HI2 : Hid (RI s b w ok W2 ({ r with pos := r.pos + 1 } : Rd) t (.slice ua t.kids.length uc)) := by rw [hW2]; exact HI1.out.place (r.pos + 1)
    rw [← hW2]
    clear hW2
    clear rc1 rf1 rc2 rf2 tc0 tc1 tc2 tc3 tc4 tc5 tc6 tc7 tc8 tf0 tf1 tf2 tf3 tf4 tf5 tf6 tf7 tf8 zc0 zc1 zc2 zc3 zc4 zc5 zc6 zc7 zc8 zf0 zf1 zf2 zf3 zf4 zf5 zf6 zf7 zf8
    obtain ⟨tc0, tf0⟩ := HI2.out.tb.cell 0 _ rfl
    obtain ⟨tc1, tf1⟩ := HI2.out.tb.cell 1 _ rfl
    obtain ⟨tc2, tf2⟩ := HI2.out.tb.cell 2 _ rfl
    obtain ⟨tc3, tf3⟩ := HI2.out.tb.cell 3 _ rfl
    obtain ⟨tc4, tf4⟩ := HI2.out.tb.cell 4 _ rfl
    obtain ⟨tc5, tf5⟩ := HI2.out.tb.cell 5 _ rfl
    obtain ⟨tc6, tf6⟩ := HI2.out.tb.cell 6 _ rfl
    obtain ⟨tc7, tf7⟩ := HI2.out.tb.cell 7 _ rfl
    obtain ⟨tc8, tf8⟩ := HI2.out.tb.cell 8 _ rfl
    have hpa := xka _ t (Nat.lt_succ_self _) HG.out.2.2 W2 _ ua _ uc HI2.out.kids
    go_wp2_with fail
    refine hpa.mono ?_
    rintro e3 w3 ⟨rfl, hb3⟩
    have HI3 := xab (HI2.out.below hb3)
    clear hpa hb3 tc0 tc1 tc2 tc3 tc4 tc5 tc6 tc7 tc8 tf0 tf1 tf2 tf3 tf4 tf5 tf6 tf7 tf8
    obtain ⟨tc0, tf0⟩ := HI3.out.tb.cell 0 _ rfl
    obtain ⟨tc1, tf1⟩ := HI3.out.tb.cell 1 _ rfl
    obtain ⟨tc2, tf2⟩ := HI3.out.tb.cell 2 _ rfl
    obtain ⟨tc3, tf3⟩ := HI3.out.tb.cell 3 _ rfl
    obtain ⟨tc4, tf4⟩ := HI3.out.tb.cell 4 _ rfl
    obtain ⟨tc5, tf5⟩ := HI3.out.tb.cell 5 _ rfl
    obtain ⟨tc6, tf6⟩ := HI3.out.tb.cell 6 _ rfl
    obtain ⟨tc7, tf7⟩ := HI3.out.tb.cell 7 _ rfl
    obtain ⟨tc8, tf8⟩ := HI3.out.tb.cell 8 _ rfl
    have hlt3 := HI3.out.tb.lt
    go_upto_region 16 with fail
    obtain ⟨W4, hW4⟩ : ∃ W4, W4 = (((((((((w3.setCell ⟨w.heap.size, 0, none⟩ (.int .i64 5)).setCell ⟨w.heap.size, 1, none⟩ (.int .u64 0)).setCell ⟨w.heap.size, 2, none⟩ (.int .u64 0)).setCell ⟨w.heap.size, 3, none⟩ (.int .u64 0)).setCell ⟨w.heap.size, 4, none⟩ (.int .u64 0)).setCell ⟨w.heap.size, 5, none⟩ (.int .i64 0)).setCell ⟨w.heap.size, 6, none⟩ (.int .i64 (-1))).setCell ⟨w.heap.size, 7, none⟩ (.int .i64 0)).setCell ⟨w.heap.size, 8, none⟩ (.slice (some ⟨w3.heap.size, 0, none⟩) 1 1)).alloc (.cells #[.int .i64 t.kind, .int .u64 (wd t.q 0), .int .u64 (wd t.q 1), .int .u64 (wd t.q 2), .int .u64 (wd t.q 3), .int .i64 t.lo, .int .i64 t.hi, .int .i64 t.grp, (.slice ua t.kids.length uc)] 36) := ⟨_, rfl⟩
    have HI4 : Hid (RI s b w ok W4 ({ r with pos := r.pos + 1 } : Rd) (repT 0 (-1) t) (.slice (some ⟨w3.heap.size, 0, none⟩) 1 1)) := by rw [hW4]; exact HI3.out.wrap 0 (-1)
    rw [← hW4]
    clear hW4 hlt3 tc0 tc1 tc2 tc3 tc4 tc5 tc6 tc7 tc8 tf0 tf1 tf2 tf3 tf4 tf5 tf6 tf7 tf8
    obtain ⟨tc0, _⟩ := HI4.out.tb.cell 0 _ rfl
    have tc1 : W4.cell? ⟨w.heap.size, 1, none⟩ = some (.int .u64 0) := (HI4.out.tb.cell 1 _ rfl).1
    have tc2 : W4.cell? ⟨w.heap.size, 2, none⟩ = some (.int .u64 0) := (HI4.out.tb.cell 2 _ rfl).1
    have tc3 : W4.cell? ⟨w.heap.size, 3, none⟩ = some (.int .u64 0) := (HI4.out.tb.cell 3 _ rfl).1
    have tc4 : W4.cell? ⟨w.heap.size, 4, none⟩ = some (.int .u64 0) := (HI4.out.tb.cell 4 _ rfl).1
    have tc5 : W4.cell? ⟨w.heap.size, 5, none⟩ = some (.int .i64 0) := (HI4.out.tb.cell 5 _ rfl).1
    have tc6 : W4.cell? ⟨w.heap.size, 6, none⟩ = some (.int .i64 (-1)) := (HI4.out.tb.cell 6 _ rfl).1
    have tc7 : W4.cell? ⟨w.heap.size, 7, none⟩ = some (.int .i64 0) := (HI4.out.tb.cell 7 _ rfl).1
    have tc8 := (HI4.out.tb.cell 8 _ rfl).1
    have tc0 : W4.cell? ⟨w.heap.size, 0, none⟩ = some (.int .i64 5) := tc0
    have hpb := xjf t HG.out.2.2 0 (-1) (by omega) (by omega) W4 _ _ 1 HI4.out.kids
    have hpm := xoz HG.out.2.2 0 (-1) (by omega) (by omega)
    have hps := (xbt t HG.out.2.2)
    have kk : IntKind.i64.wrap (posT (repT 0 (-1) t) - posT t) = posT (repT 0 (-1) t) - posT t := by rw [IntKind.wrap_i64]; omega
    go_wp2_with fail
    refine hpb.mono ?_
    rintro e5 w5 ⟨rfl, hb5⟩
    have HI5 := xab (HI4.out.below hb5)
    have hgr := xbe s ({ r with pos := r.pos + 1 } : Rd) b (posT (repT 0 (-1) t) - posT t) r.pos (by omega) (by have h9 := HG.out.1; have h8 := h9.sim.z; have h7 := h9.sim.well.good.big; have h6 := h9.sim.well.good.bounds; show 0 ≤ r.size ∧ r.size ≤ 1000000000; omega) w5 HI5.out.rd
    clear hpb hb5 tc0 tc1 tc2 tc3 tc4 tc5 tc6 tc7 tc8
    go_wp2_with fail
    refine hgr.mono ?_
    rintro e6 w6 ⟨⟨v6, rfl⟩, hI6, hg6⟩
    have HI6 := xab (HI5.out.step hg6 hI6)
    clear hgr hI6 hg6
    go_wp2
    exact ⟨⟨_, _, _, HI6, HS⟩, xhq HI.out.rd HI6.out.rd (by rw [xoy]; show r.pos < r.pos + 1; omega) hlt⟩
   | false =>
    have hS2 := xa0 s ⟨#[92, 123]⟩ hs30 (by decide) r HG.out.1.sim.le b W1 HI1.out.rd
    go_wp2_with fail
    refine hS2.mono ?_
    rintro e2 w2 ⟨rfl, n2, rfl⟩
    clear hS2
    have HJ := xab (HI1.out.drew n2)
    generalize W1.drewN n2 = V1 at *
    clear rc1 rf1 rc2 rf2 tc0 tc1 tc2 tc3 tc4 tc5 tc6 tc7 tc8 tf0 tf1 tf2 tf3 tf4 tf5 tf6 tf7 tf8 zc0 zc1 zc2 zc3 zc4 zc5 zc6 zc7 zc8 zf0 zf1 zf2 zf3 zf4 zf5 zf6 zf7 zf8
    obtain ⟨rc1, rf1⟩ := HJ.out.rd.cell 1 _ rfl
    obtain ⟨rc2, rf2⟩ := HJ.out.rd.cell 2 _ rfl
    obtain ⟨tc0, tf0⟩ := HJ.out.tb.cell 0 _ rfl
    obtain ⟨tc1, tf1⟩ := HJ.out.tb.cell 1 _ rfl
    obtain ⟨tc2, tf2⟩ := HJ.out.tb.cell 2 _ rfl
    obtain ⟨tc3, tf3⟩ := HJ.out.tb.cell 3 _ rfl
    obtain ⟨tc4, tf4⟩ := HJ.out.tb.cell 4 _ rfl
    obtain ⟨tc5, tf5⟩ := HJ.out.tb.cell 5 _ rfl
    obtain ⟨tc6, tf6⟩ := HJ.out.tb.cell 6 _ rfl
    obtain ⟨tc7, tf7⟩ := HJ.out.tb.cell 7 _ rfl
    obtain ⟨tc8, tf8⟩ := HJ.out.tb.cell 8 _ rfl
    obtain ⟨zc0, zf0⟩ := HJ.out.zb.cell 0 _ rfl
    obtain ⟨zc1, zf1⟩ := HJ.out.zb.cell 1 _ rfl
    obtain ⟨zc2, zf2⟩ := HJ.out.zb.cell 2 _ rfl
    obtain ⟨zc3, zf3⟩ := HJ.out.zb.cell 3 _ rfl
    obtain ⟨zc4, zf4⟩ := HJ.out.zb.cell 4 _ rfl
    obtain ⟨zc5, zf5⟩ := HJ.out.zb.cell 5 _ rfl
    obtain ⟨zc6, zf6⟩ := HJ.out.zb.cell 6 _ rfl
    obtain ⟨zc7, zf7⟩ := HJ.out.zb.cell 7 _ rfl
    obtain ⟨zc8, zf8⟩ := HJ.out.zb.cell 8 _ rfl
    cases hsb : seeB s ⟨#[92, 123]⟩ r.pos with
    | false =>
     have HQ : Hid (RQ s i k P ts r t) := .inr ⟨P1, k1, HG.out.1, rep_ne4 HG.out.2.1, fun _ => ⟨hst, hsb⟩⟩
     clear hst hsb
     go_wp2
     obtain ⟨Y, hY⟩ : ∃ Y, Y = ((((((((V1.setCell ⟨w.heap.size + 1, 0, none⟩ (.int .i64 t.kind)).setCell ⟨w.heap.size + 1, 1, none⟩ (.int .u64 (wd t.q 0))).setCell ⟨w.heap.size + 1, 2, none⟩ (.int .u64 (wd t.q 1))).setCell ⟨w.heap.size + 1, 3, none⟩ (.int .u64 (wd t.q 2))).setCell ⟨w.heap.size + 1, 4, none⟩ (.int .u64 (wd t.q 3))).setCell ⟨w.heap.size + 1, 5, none⟩ (.int .i64 t.lo)).setCell ⟨w.heap.size + 1, 6, none⟩ (.int .i64 t.hi)).setCell ⟨w.heap.size + 1, 7, none⟩ (.int .i64 t.grp)).setCell ⟨w.heap.size + 1, 8, none⟩ (.slice ua t.kids.length uc) := ⟨_, rfl⟩
     have hYo : RO s b w ok Y r t (.slice ua t.kids.length uc) ∧ Blk9 Y (w.heap.size + 1) (xbf t (.slice ua t.kids.length uc)) := by rw [hY]; exact HJ.out.answer
     rw [← hY]
     clear hY tc0 tc1 tc2 tc3 tc4 tc5 tc6 tc7 tc8 tf0 tf1 tf2 tf3 tf4 tf5 tf6 tf7 tf8 zc0 zc1 zc2 zc3 zc4 zc5 zc6 zc7 zc8 zf0 zf1 zf2 zf3 zf4 zf5 zf6 zf7 zf8
     have o0 := (hYo.2.cell 0 _ rfl).1
     have o1 := (hYo.2.cell 1 _ rfl).1
     have o2 := (hYo.2.cell 2 _ rfl).1
     have o3 := (hYo.2.cell 3 _ rfl).1
     have o4 := (hYo.2.cell 4 _ rfl).1
     have o5 := (hYo.2.cell 5 _ rfl).1
     have o6 := (hYo.2.cell 6 _ rfl).1
     have o7 := (hYo.2.cell 7 _ rfl).1
     have o8 := (hYo.2.cell 8 _ rfl).1
     refine bodyPost_ret (v := xcm t (.slice ua t.kids.length uc)) (by simp [results, Tryz.results26, go_sem, o0, o1, o2, o3, o4, o5, o6, o7, o8]; try rfl) rfl ?_
     exact ⟨r, t, _, rfl, hYo.1, HQ.out⟩
    | true =>
     have hlt2 : r.pos + 2 ≤ s.size := xdf hsb
     have hlt : r.pos < s.size := by omega
     have k1' : IntKind.i64.wrap ((r.pos : Int) + 2) = (r.pos : Int) + 2 := by rw [IntKind.wrap_i64]; omega
     have htok := xs1 hsb HG.out.2.1
     go_upto_region 10 with fail
     obtain ⟨V2, hV2⟩ : ∃ V2, V2 = V1.setCell ⟨b, 1, none⟩ (.int .i64 ((r.pos : Int) + 2)) := ⟨_, rfl⟩
     have HJ2 : Hid (RI s b w ok V2 ({ r with pos := r.pos + 2 } : Rd) t (.slice ua t.kids.length uc)) := by rw [hV2]; exact HJ.out.place (r.pos + 2)
     rw [← hV2]
     clear hV2
     have hiv := xlk s hs30 ({ r with pos := r.pos + 2 } : Rd) hlt2 b V2 HJ2.out.rd
     have hbd := xs2 s (r.pos + 2) hlt2
     obtain ⟨q, ivl, ivh, ivo, hiveq⟩ : ∃ q ivl ivh ivo, ivAt s (r.pos + 2) = (q, ivl, ivh, ivo) := ⟨_, _, _, _, rfl⟩
     simp only at hiv
     rw [hiveq] at hiv hbd
     simp only at hiv hbd
     have HT := xab (And.intro htok hiveq)
     clear htok hiveq hst hsb rc1 rf1 rc2 rf2 tc0 tc1 tc2 tc3 tc4 tc5 tc6 tc7 tc8 tf0 tf1 tf2 tf3 tf4 tf5 tf6 tf7 tf8 zc0 zc1 zc2 zc3 zc4 zc5 zc6 zc7 zc8 zf0 zf1 zf2 zf3 zf4 zf5 zf6 zf7 zf8
     go_wp2_with fail
     refine hiv.mono ?_
     rintro e3 W3 ⟨rfl, hI3, hG3⟩
     have HK := xab (HJ2.out.step hG3 hI3)
     clear hiv hI3 hG3
     cases ivo with
     | false =>
      have hfl := xb6 s _ b 9 r.pos W3 HK.out.rd
      go_wp2_with fail
      refine hfl.mono ?_
      rintro e4 W4 ⟨⟨v4, rfl⟩, hI4, hG4⟩
      have HK4 := xab (HK.out.step hG4 hI4)
      have hfe := xc5 (r := ({ r with pos := q } : Rd)) HG.out.1.sim.e 9 r.pos
      have HQ : Hid (RQ s i k P ts (if r.e = 0 then { ({ r with pos := q } : Rd) with e := 9, place := r.pos } else { r with pos := q }) t) := xab (.inl (HG.out.1.fails (by
       have hv : xfz s r.pos = xax 9 r.pos := by unfold xfz; rw [HT.out.2]; rfl
       have htk : P1.take (xaf s r.pos k1) = (9, P1) := by rw [HT.out.1, hv]; rfl
       exact xf1 hlt (by rw [htk]; show (9 : Int) ≠ 0; decide) (by rw [htk]; exact hfe.1) hfe.2)))
      clear hfl hI4 hG4 hfe
      generalize (if r.e = 0 then { ({ r with pos := q } : Rd) with e := 9, place := r.pos } else { r with pos := q }) = rr at *
      obtain ⟨tc0, tf0⟩ := HK4.out.tb.cell 0 _ rfl
      obtain ⟨tc1, tf1⟩ := HK4.out.tb.cell 1 _ rfl
      obtain ⟨tc2, tf2⟩ := HK4.out.tb.cell 2 _ rfl
      obtain ⟨tc3, tf3⟩ := HK4.out.tb.cell 3 _ rfl
      obtain ⟨tc4, tf4⟩ := HK4.out.tb.cell 4 _ rfl
      obtain ⟨tc5, tf5⟩ := HK4.out.tb.cell 5 _ rfl
      obtain ⟨tc6, tf6⟩ := HK4.out.tb.cell 6 _ rfl
      obtain ⟨tc7, tf7⟩ := HK4.out.tb.cell 7 _ rfl
      obtain ⟨tc8, tf8⟩ := HK4.out.tb.cell 8 _ rfl
      obtain ⟨zc0, zf0⟩ := HK4.out.zb.cell 0 _ rfl
      obtain ⟨zc1, zf1⟩ := HK4.out.zb.cell 1 _ rfl
      obtain ⟨zc2, zf2⟩ := HK4.out.zb.cell 2 _ rfl
      obtain ⟨zc3, zf3⟩ := HK4.out.zb.cell 3 _ rfl
      obtain ⟨zc4, zf4⟩ := HK4.out.zb.cell 4 _ rfl
      obtain ⟨zc5, zf5⟩ := HK4.out.zb.cell 5 _ rfl
      obtain ⟨zc6, zf6⟩ := HK4.out.zb.cell 6 _ rfl
      obtain ⟨zc7, zf7⟩ := HK4.out.zb.cell 7 _ rfl
      obtain ⟨zc8, zf8⟩ := HK4.out.zb.cell 8 _ rfl
      go_wp2
      obtain ⟨Y, hY⟩ : ∃ Y, Y = ((((((((W4.setCell ⟨w.heap.size + 1, 0, none⟩ (.int .i64 t.kind)).setCell ⟨w.heap.size + 1, 1, none⟩ (.int .u64 (wd t.q 0))).setCell ⟨w.heap.size + 1, 2, none⟩ (.int .u64 (wd t.q 1))).setCell ⟨w.heap.size + 1, 3, none⟩ (.int .u64 (wd t.q 2))).setCell ⟨w.heap.size + 1, 4, none⟩ (.int .u64 (wd t.q 3))).setCell ⟨w.heap.size + 1, 5, none⟩ (.int .i64 t.lo)).setCell ⟨w.heap.size + 1, 6, none⟩ (.int .i64 t.hi)).setCell ⟨w.heap.size + 1, 7, none⟩ (.int .i64 t.grp)).setCell ⟨w.heap.size + 1, 8, none⟩ (.slice ua t.kids.length uc) := ⟨_, rfl⟩
      have hYo : RO s b w ok Y rr t (.slice ua t.kids.length uc) ∧ Blk9 Y (w.heap.size + 1) (xbf t (.slice ua t.kids.length uc)) := by rw [hY]; exact HK4.out.answer
      rw [← hY]
      clear hY tc0 tc1 tc2 tc3 tc4 tc5 tc6 tc7 tc8 tf0 tf1 tf2 tf3 tf4 tf5 tf6 tf7 tf8 zc0 zc1 zc2 zc3 zc4 zc5 zc6 zc7 zc8 zf0 zf1 zf2 zf3 zf4 zf5 zf6 zf7 zf8
      have o0 := (hYo.2.cell 0 _ rfl).1
      have o1 := (hYo.2.cell 1 _ rfl).1
      have o2 := (hYo.2.cell 2 _ rfl).1
      have o3 := (hYo.2.cell 3 _ rfl).1
      have o4 := (hYo.2.cell 4 _ rfl).1
      have o5 := (hYo.2.cell 5 _ rfl).1
      have o6 := (hYo.2.cell 6 _ rfl).1
      have o7 := (hYo.2.cell 7 _ rfl).1
      have o8 := (hYo.2.cell 8 _ rfl).1
      refine bodyPost_ret (v := xcm t (.slice ua t.kids.length uc)) (by simp [results, Tryz.results26, go_sem, o0, o1, o2, o3, o4, o5, o6, o7, o8]; try rfl) rfl ?_
      exact ⟨rr, t, _, rfl, hYo.1, HQ.out⟩
     | true =>
      obtain ⟨hq1, hq2, hb1, hb2⟩ := hbd rfl
      have hv : xfz s r.pos = ⟨7, r.pos, q, 0, xad, 0, ivl, ivh⟩ := by unfold xfz; rw [HT.out.2]; rfl
      have hstep := xia hs HG.out.1 hlt (by rw [HT.out.1, hv])
      rw [HT.out.1, hv] at hstep
      have HS : Hid (RL s i k P ts (({ r with pos := q } : Rd).grow (posT (repT ivl ivh t) - posT t) r.pos) (repT ivl ivh t)) := hstep.imp id (fun ⟨P2, h2⟩ => ⟨P2, 7, h2, rfl⟩)
      clear hstep hv HT
      go_upto_region 14 with fail
      have HI2 := HK
      obtain ⟨W2, hW2⟩ : ∃ W2, W2 = W3 := ⟨_, rfl⟩
      rw [← hW2] at HI2 ⊢
      clear hW2
      obtain ⟨tc0, tf0⟩ := HI2.out.tb.cell 0 _ rfl
      obtain ⟨tc1, tf1⟩ := HI2.out.tb.cell 1 _ rfl
      obtain ⟨tc2, tf2⟩ := HI2.out.tb.cell 2 _ rfl
      obtain ⟨tc3, tf3⟩ := HI2.out.tb.cell 3 _ rfl
      obtain ⟨tc4, tf4⟩ := HI2.out.tb.cell 4 _ rfl
      obtain ⟨tc5, tf5⟩ := HI2.out.tb.cell 5 _ rfl
      obtain ⟨tc6, tf6⟩ := HI2.out.tb.cell 6 _ rfl
      obtain ⟨tc7, tf7⟩ := HI2.out.tb.cell 7 _ rfl
      obtain ⟨tc8, tf8⟩ := HI2.out.tb.cell 8 _ rfl
      have hpa := xka _ t (Nat.lt_succ_self _) HG.out.2.2 W2 _ ua _ uc HI2.out.kids
      go_wp2_with fail
      refine hpa.mono ?_
      rintro e3 w3 ⟨rfl, hb3⟩
      have HI3 := xab (HI2.out.below hb3)
      clear hpa hb3 tc0 tc1 tc2 tc3 tc4 tc5 tc6 tc7 tc8 tf0 tf1 tf2 tf3 tf4 tf5 tf6 tf7 tf8
      obtain ⟨tc0, tf0⟩ := HI3.out.tb.cell 0 _ rfl
      obtain ⟨tc1, tf1⟩ := HI3.out.tb.cell 1 _ rfl
      obtain ⟨tc2, tf2⟩ := HI3.out.tb.cell 2 _ rfl
      obtain ⟨tc3, tf3⟩ := HI3.out.tb.cell 3 _ rfl
      obtain ⟨tc4, tf4⟩ := HI3.out.tb.cell 4 _ rfl
      obtain ⟨tc5, tf5⟩ := HI3.out.tb.cell 5 _ rfl
      obtain ⟨tc6, tf6⟩ := HI3.out.tb.cell 6 _ rfl
      obtain ⟨tc7, tf7⟩ := HI3.out.tb.cell 7 _ rfl
      obtain ⟨tc8, tf8⟩ := HI3.out.tb.cell 8 _ rfl
      have hlt3 := HI3.out.tb.lt
      go_upto_region 16 with fail
      obtain ⟨W4, hW4⟩ : ∃ W4, W4 = (((((((((w3.setCell ⟨w.heap.size, 0, none⟩ (.int .i64 5)).setCell ⟨w.heap.size, 1, none⟩ (.int .u64 0)).setCell ⟨w.heap.size, 2, none⟩ (.int .u64 0)).setCell ⟨w.heap.size, 3, none⟩ (.int .u64 0)).setCell ⟨w.heap.size, 4, none⟩ (.int .u64 0)).setCell ⟨w.heap.size, 5, none⟩ (.int .i64 ivl)).setCell ⟨w.heap.size, 6, none⟩ (.int .i64 ivh)).setCell ⟨w.heap.size, 7, none⟩ (.int .i64 0)).setCell ⟨w.heap.size, 8, none⟩ (.slice (some ⟨w3.heap.size, 0, none⟩) 1 1)).alloc (.cells #[.int .i64 t.kind, .int .u64 (wd t.q 0), .int .u64 (wd t.q 1), .int .u64 (wd t.q 2), .int .u64 (wd t.q 3), .int .i64 t.lo, .int .i64 t.hi, .int .i64 t.grp, (.slice ua t.kids.length uc)] 36) := ⟨_, rfl⟩
      have HI4 : Hid (RI s b w ok W4 ({ r with pos := q } : Rd) (repT ivl ivh t) (.slice (some ⟨w3.heap.size, 0, none⟩) 1 1)) := by rw [hW4]; exact HI3.out.wrap ivl ivh
      rw [← hW4]
      clear hW4 hlt3 tc0 tc1 tc2 tc3 tc4 tc5 tc6 tc7 tc8 tf0 tf1 tf2 tf3 tf4 tf5 tf6 tf7 tf8
      obtain ⟨tc0, _⟩ := HI4.out.tb.cell 0 _ rfl
      have tc1 : W4.cell? ⟨w.heap.size, 1, none⟩ = some (.int .u64 0) := (HI4.out.tb.cell 1 _ rfl).1
      have tc2 : W4.cell? ⟨w.heap.size, 2, none⟩ = some (.int .u64 0) := (HI4.out.tb.cell 2 _ rfl).1
      have tc3 : W4.cell? ⟨w.heap.size, 3, none⟩ = some (.int .u64 0) := (HI4.out.tb.cell 3 _ rfl).1
      have tc4 : W4.cell? ⟨w.heap.size, 4, none⟩ = some (.int .u64 0) := (HI4.out.tb.cell 4 _ rfl).1
      have tc5 : W4.cell? ⟨w.heap.size, 5, none⟩ = some (.int .i64 ivl) := (HI4.out.tb.cell 5 _ rfl).1
      have tc6 : W4.cell? ⟨w.heap.size, 6, none⟩ = some (.int .i64 ivh) := (HI4.out.tb.cell 6 _ rfl).1
      have tc7 : W4.cell? ⟨w.heap.size, 7, none⟩ = some (.int .i64 0) := (HI4.out.tb.cell 7 _ rfl).1
      have tc8 := (HI4.out.tb.cell 8 _ rfl).1
      have tc0 : W4.cell? ⟨w.heap.size, 0, none⟩ = some (.int .i64 5) := tc0
      have hpb := xjf t HG.out.2.2 ivl ivh (by omega) (by omega) W4 _ _ 1 HI4.out.kids
      have hpm := xoz HG.out.2.2 ivl ivh (by omega) (by omega)
      have hps := (xbt t HG.out.2.2)
      have kk : IntKind.i64.wrap (posT (repT ivl ivh t) - posT t) = posT (repT ivl ivh t) - posT t := by rw [IntKind.wrap_i64]; omega
      go_wp2_with fail
      refine hpb.mono ?_
      rintro e5 w5 ⟨rfl, hb5⟩
      have HI5 := xab (HI4.out.below hb5)
      have hgr := xbe s ({ r with pos := q } : Rd) b (posT (repT ivl ivh t) - posT t) r.pos (by omega) (by have h9 := HG.out.1; have h8 := h9.sim.z; have h7 := h9.sim.well.good.big; have h6 := h9.sim.well.good.bounds; show 0 ≤ r.size ∧ r.size ≤ 1000000000; omega) w5 HI5.out.rd
      clear hpb hb5 tc0 tc1 tc2 tc3 tc4 tc5 tc6 tc7 tc8
      go_wp2_with fail
      refine hgr.mono ?_
      rintro e6 w6 ⟨⟨v6, rfl⟩, hI6, hg6⟩
      have HI6 := xab (HI5.out.step hg6 hI6)
      clear hgr hI6 hg6
      go_wp2
      exact ⟨⟨_, _, _, HI6, HS⟩, xhq HI.out.rd HI6.out.rd (by rw [xoy]; show r.pos < q; omega) hlt⟩
def xs3 (s : ByteArray) (k p : Nat) : Prop := repB k = true → seeB s ⟨#[42]⟩ p = false ∧ seeB s ⟨#[92, 123]⟩ p = false
def PL (s : ByteArray) (i k : Nat) (P : Ps) (ts : List Tr) (r : Rd) (t : Tr) : Prop :=
 Fails s i k P r ∨ ∃ P' k', Goes s i k P r P' k' (ts ++ [t]) ∧ ((t.kind = 2 ∨ t.kind = 3) → k' ≠ 4 ∧ xs3 s k' r.pos) ∧ (¬ (t.kind = 2 ∨ t.kind = 3) → repB k' = true)
theorem xjh {s : ByteArray} (hs : s.size ≤ 512) {r : Rd} {P : Ps} {k : Nat} {ts : List Tr} (h : Sim s r P k) (hts : P.top.parts = ts) (hi : r.pos < s.size) {t : Tr} (hk : (xaf s r.pos k).kind ≠ 4) (ht : P.take (xaf s r.pos k) = (P.add t 1).grown) (h23 : ¬ (t.kind = 2 ∨ t.kind = 3)) (hrep : repB (xaf s r.pos k).kind = true) :
  PL s r.pos k P ts (({ r with pos := (xaf s r.pos k).to } : Rd).grow 1 r.pos) t := by
 have hz : (P.add t 1).size = r.size + 1 := by rw [h.z]; rfl
 rcases xjg ({ r with pos := (xaf s r.pos k).to } : Rd) 1 r.pos h.e with ⟨g1, g2, g3⟩ | ⟨g1, g2⟩
 ·refine .inl (xf1 hi ?_ ?_ g3)
  ·rw [ht]; show bigE (P.add t 1).size ≠ 0
   rw [hz]; unfold bigE; rw [if_pos g1]; decide
  ·rw [g2, ht]; show (13 : Int) = bigE (P.add t 1).size
   rw [hz]; unfold bigE; rw [if_pos g1]
 ·have h0 : (P.take (xaf s r.pos k)).1 = 0 := by
   rw [ht]; show bigE (P.add t 1).size = 0
   rw [hz]; unfold bigE; rw [if_neg (by have : r.size + 1 ≤ 256 := g1; omega)]
  rw [g2]
  refine .inr ⟨_, _, xki (r' := { ({ r with pos := (xaf s r.pos k).to } : Rd) with size := r.size + 1 }) (ts := ts ++ [t]) hs h hi h0 hk (by rw [ht]; rfl) (by rw [ht, ← hts]; rfl) h.e rfl (by rw [ht]; exact h.g) (by rw [ht]; exact h.c) (by rw [ht]; exact hz.symm), fun h9 => absurd h9 h23, fun _ => hrep⟩
theorem xew {s : ByteArray} (hs : s.size ≤ 512) {r : Rd} {P : Ps} {k : Nat} {ts : List Tr} (h : Sim s r P k) (hts : P.top.parts = ts) (hi : r.pos < s.size) {to : Nat} {q : Nat → Bool} (ht : xaf s r.pos k = ⟨1, r.pos, to, 0, q, 0, 0, 0⟩) :
  PL s r.pos k P ts (({ r with pos := to } : Rd).grow 1 r.pos) (xbw q) := by
 have := xjh (t := xbw q) hs h hts hi (by rw [ht]; show (1 : Nat) ≠ 4; decide) (by rw [ht]; rfl) (by show ¬ ((1 : Nat) = 2 ∨ (1 : Nat) = 3); decide) (by rw [ht]; rfl)
 rw [ht] at this
 exact this
theorem xs4 {s : ByteArray} (hs : s.size ≤ 512) {r : Rd} {P : Ps} {k : Nat} {ts : List Tr} (h : Sim s r P k) (hts : P.top.parts = ts) (hi : r.pos < s.size) {to g : Nat} (ht : xaf s r.pos k = ⟨6, r.pos, to, 0, xad, g, 0, 0⟩) (hg : r.shut g = true) :
  PL s r.pos k P ts (({ r with pos := to } : Rd).grow 1 r.pos) (xd5 g) := by
 have := xjh (t := xd5 g) hs h hts hi (by rw [ht]; show (6 : Nat) ≠ 4; decide) (by rw [ht]; rw [h.c] at hg; simp only [Ps.take, hg, if_true]) (by show ¬ ((6 : Nat) = 2 ∨ (6 : Nat) = 3); decide) (by rw [ht]; rfl)
 rw [ht] at this
 exact this
theorem xc2 {s : ByteArray} {r r' : Rd} {P : Ps} {k : Nat} (hi : r.pos < s.size) {e : Int} (he : e ≠ 0) (ht : (P.take (xaf s r.pos k)).1 = e) (h1 : r'.e = e) (h2 : r'.place = r.pos) : Fails s r.pos k P r' :=
 xf1 hi (by rw [ht]; exact he) (by rw [ht]; exact h1) h2
theorem xib {s : ByteArray} (hs : s.size ≤ 512) {r : Rd} {P : Ps} {k : Nat} {ts : List Tr} (h : Sim s r P k) (hts : P.top.parts = ts) (hi : r.pos < s.size) {t : Tr} (hk : (xaf s r.pos k).kind ≠ 4) (ht : P.take (xaf s r.pos k) = (P.add t 0).grown) (h23 : t.kind = 2 ∨ t.kind = 3) (hq : xs3 s (xaf s r.pos k).kind (xaf s r.pos k).to) :
  PL s r.pos k P ts ({ r with pos := (xaf s r.pos k).to } : Rd) t := by
 have hz : (P.add t 0).size = r.size := by rw [h.z]; show P.size + 0 = P.size; omega
 have hb := h.well.good.big
 have h0 : (P.take (xaf s r.pos k)).1 = 0 := by
  rw [ht]; show bigE (P.add t 0).size = 0
  rw [hz, h.z]; unfold bigE; rw [if_neg (by omega)]
 exact .inr ⟨_, _, xki (r' := ({ r with pos := (xaf s r.pos k).to } : Rd)) (ts := ts ++ [t]) hs h hi h0 hk (by rw [ht]; rfl) (by rw [ht, ← hts]; rfl) h.e rfl (by rw [ht]; exact h.g) (by rw [ht]; exact h.c) (by rw [ht]; exact hz.symm), fun _ => ⟨hk, hq⟩, fun h9 => absurd h23 h9⟩
theorem leaf_bol {s : ByteArray} (hs : s.size ≤ 512) {r : Rd} {P : Ps} {k : Nat} {ts : List Tr} (h : Sim s r P k) (hts : P.top.parts = ts) (hi : r.pos < s.size) (ht : xaf s r.pos k = ⟨2, r.pos, r.pos + 1, 0, xad, 0, 0, 0⟩) :
  PL s r.pos k P ts ({ r with pos := r.pos + 1 } : Rd) bolT := by
 have := xib (t := bolT) hs h hts hi (by rw [ht]; show (2 : Nat) ≠ 4; decide) (by rw [ht]; rfl) (.inl rfl) (by rw [ht]; intro h9; cases h9)
 rw [ht] at this
 exact this
theorem xn4 {s : ByteArray} {k p : Nat} (h : shuts s p = true) (hp : p ≤ s.size) : xs3 s k p := by
 intro _
 unfold shuts at h
 rw [Bool.or_eq_true] at h
 rcases h with h | h
 ·have e : p = s.size := of_decide_eq_true h
  rw [see1, see2]
  exact ⟨decide_eq_false (fun h9 => by omega), decide_eq_false (fun h9 => by omega)⟩
 ·have hp2 := List.isPrefixOf_iff_prefix.1 (show ([92, 41] : List UInt8).isPrefixOf (s.extract p s.size).data.toList = true from h)
  obtain ⟨l, hl⟩ := hp2
  rw [xcg] at hl
  have hlen := congrArg List.length hl
  simp only [List.length_append, List.length_cons, List.length_nil, List.length_drop] at hlen
  have h3 : s.data.toList.length = s.size := by simp
  have hi1 : p + 1 < s.size := by omega
  have hi : p < s.size := by omega
  rw [xdq s p hi, xdq s (p + 1) hi1] at hl
  have e1 : s[p] = 92 := by injection hl with a _; exact a.symm
  have e2 : s[p + 1] = 41 := by injection hl with _ b; injection b with b _; exact b.symm
  rw [see1, see2, xah hi, xah hi1, e1, e2]
  exact ⟨by simp, by simp⟩
theorem xl3 {s : ByteArray} {p : Nat} (hp : p ≤ s.size) : shuts s p = (decide (p = s.size) || seeB s ⟨#[92, 41]⟩ p) := by
 unfold shuts
 rw [xd2 _ _ _ hp, xcg]
 rfl
theorem leaf_eol {s : ByteArray} (hs : s.size ≤ 512) {r : Rd} {P : Ps} {k : Nat} {ts : List Tr} (h : Sim s r P k) (hts : P.top.parts = ts) (hi : r.pos < s.size) (hsh : shuts s (r.pos + 1) = true) (ht : xaf s r.pos k = ⟨3, r.pos, r.pos + 1, 0, xad, 0, 0, 0⟩) :
  PL s r.pos k P ts ({ r with pos := r.pos + 1 } : Rd) eolT := by
 have := xib (t := eolT) hs h hts hi (by rw [ht]; show (3 : Nat) ≠ 4; decide) (by rw [ht]; rfl) (.inr rfl) (by rw [ht]; exact xn4 hsh (by show r.pos + 1 ≤ s.size; omega))
 rw [ht] at this
 exact this
theorem xe9 (r : Rd) (n : Int) (i : Nat) (h : r.e ≠ 0) : (r.grow n i).e = r.e ∧ (r.grow n i).place = r.place := by
 unfold Rd.grow
 split
 ·unfold Rd.failed
  have h9 : ¬ ({ r with size := r.size + n } : Rd).e = 0 := h
  rw [if_neg h9]
  exact ⟨rfl, rfl⟩
 ·exact ⟨rfl, rfl⟩
theorem esc_join {s : ByteArray} (hs : s.size ≤ 512) {r : Rd} {P : Ps} {k : Nat} {ts : List Tr} (h : Sim s r P k) (hts : P.top.parts = ts) (hi : r.pos < s.size) (hk : xaf s r.pos k = xaf s r.pos (if k = 4 then 4 else 2)) (h92 : xac s r.pos = 92)
  (n1 : seeB s ⟨#[92, 40]⟩ r.pos = false) (n2 : seeB s ⟨#[92, 41]⟩ r.pos = false) (n3 : seeB s ⟨#[92, 123]⟩ r.pos = false) (n4 : seeB s ⟨#[92, 125]⟩ r.pos = false) :
  ∃ t, xdc (escR s r).2.1 (escR s r).2.2.1 (escR s r).2.2.2 = xcm t (.slice none 0 0) ∧ t.kids = [] ∧ PL s r.pos k P ts (escR s r).1 t := by
 have htk : xaf s r.pos k = xbr s r.pos (if k = 4 then 4 else 2) := by rw [hk]; unfold xaf; rw [if_pos h92]
 have hrb : repB (if k = 4 then 4 else 2) = false := by split <;> rfl
 unfold xbr at htk
 unfold escR
 by_cases he : r.pos + 1 = s.size
 ·rw [if_pos he] at htk ⊢
  have hf := xc5 h.e 6 r.pos
  exact ⟨.mk 0 xad 0 0 0 [], rfl, rfl, .inl (xc2 (e := 6) hi (by decide) (by rw [htk]; rfl) hf.1 hf.2)⟩
 ·rw [if_neg he] at htk ⊢
  have hl : r.pos + 1 < s.size := by omega
  rw [see2] at n1 n2 n3 n4
  have m1 : ¬ xac s (r.pos + 1) = 40 := fun e => by simp [hl, h92, e] at n1
  have m2 : ¬ xac s (r.pos + 1) = 41 := fun e => by simp [hl, h92, e] at n2
  have m3 : ¬ xac s (r.pos + 1) = 123 := fun e => by simp [hl, h92, e] at n3
  have m4 : ¬ xac s (r.pos + 1) = 125 := fun e => by simp [hl, h92, e] at n4
  have hb0 : 0 ≤ xac s (r.pos + 1) := by rw [xah hl]; omega
  obtain ⟨b, hb⟩ : ∃ b : Nat, xac s (r.pos + 1) = (b : Int) := ⟨(xac s (r.pos + 1)).toNat, by omega⟩
  rw [hb] at htk m1 m2 m3 m4 ⊢
  rw [Int.toNat_natCast] at htk ⊢
  unfold escB at htk
  rw [if_neg (by omega), if_neg (by omega), if_neg (by omega), if_neg (by omega)] at htk
  by_cases c1 : b = 110
  ·subst c1
   rw [if_pos rfl] at htk
   rw [if_pos (show ((110 : Nat) : Int) = 110 by decide)]
   exact ⟨xbw (xaw 10), rfl, rfl, xew hs h hts hi htk⟩
  ·rw [if_neg c1] at htk
   rw [if_neg (show ¬ (b : Int) = 110 by omega)]
   by_cases c2 : 49 ≤ (b : Int) ∧ (b : Int) ≤ 57
   ·rw [if_pos ⟨by omega, by simp [digB]; omega⟩] at htk
    rw [if_pos c2]
    have hg : ((b : Int) - 48) = ((b - 48 : Nat) : Int) := by omega
    cases hsh : r.shut (b - 48) with
    | true =>
     simp only [if_true]
     exact ⟨xd5 (b - 48), by rw [hg]; rfl, rfl, xs4 hs h hts hi htk hsh⟩
    | false =>
     simp only [Bool.false_eq_true, if_false]
     have hf := xc5 (r := ({ r with pos := r.pos + 2 } : Rd)) h.e 11 r.pos
     refine ⟨xd5 (b - 48), by rw [hg]; rfl, rfl, .inl (xc2 (e := 11) hi (by decide) ?_ ?_ ?_)⟩
     ·rw [htk]; rw [h.c] at hsh; simp [Ps.take, hsh]
     ·exact (xe9 _ 1 r.pos (by rw [hf.1]; decide)).1.trans hf.1
     ·exact (xe9 _ 1 r.pos (by rw [hf.1]; decide)).2.trans hf.2
   ·rw [if_neg (by simp [digB]; omega)] at htk
    rw [if_neg c2]
    by_cases c3 : (b : Int) = 48 ∨ letB (b : Int) = true
    ·rw [if_pos (c3.elim (fun c3 => Or.inl (by simp [digB]; omega)) Or.inr)] at htk
     rw [if_pos c3]
     have hf := xc5 (r := ({ r with pos := r.pos + 2 } : Rd)) h.e 12 r.pos
     refine ⟨xbw (xaw b), rfl, rfl, .inl (xc2 (e := 12) hi (by decide) (by rw [htk]; rfl) ?_ ?_)⟩
     ·exact (xe9 _ 1 r.pos (by rw [hf.1]; decide)).1.trans hf.1
     ·exact (xe9 _ 1 r.pos (by rw [hf.1]; decide)).2.trans hf.2
    ·rw [if_neg (fun c4 => c4.elim (fun c4 => by simp [digB] at c4; omega) (fun c4 => c3 (.inr c4)))] at htk
     rw [if_neg c3]
     exact ⟨xbw (xaw b), rfl, rfl, xew hs h hts hi htk⟩
end Go.Proofs.YtaapmphdnholaaaGreatDoor
