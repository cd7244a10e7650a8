/- bre: the positions of a tree; the parser counts them. -/
import Derived.Test.YtaapmphdnholaaaGreatDoorKPp
import Derived.Test.YtaapmphdnholaaaGreatDoorKPv
set_option maxRecDepth 100000
set_option maxHeartbeats 2000000
namespace Go.Proofs.YtaapmphdnholaaaGreatDoor
open Go.RowKit
mutual
def posT : Tr → Int
 | .mk k _ lo hi _ kids => if k = 1 ∨ k = 6 then 1 else if k = 5 then (if 0 ≤ hi then posL kids * hi else if 0 < lo then posL kids * lo else posL kids) else posL kids
def posL : List Tr → Int
 | [] => 0
 | t :: ts => posT t + posL ts
end
theorem xeg (a b : List Tr) : posL (a ++ b) = posL a + posL b := by
 induction a with
 | nil => simp [posL]
 | cons t a ih => simp only [List.cons_append, posL, ih]; omega
theorem xcs (t : Tr) : posL [t] = posT t := by simp [posL]
theorem xgc (lo hi : Int) (t : Tr) : posT (repT lo hi t) = posT t * xay lo hi := by
 simp only [repT, posT, xcs, xay]
 rw [if_neg (by decide), if_pos trivial]
 by_cases h : 0 ≤ hi
 ·rw [if_pos h, if_neg (by omega)]
 ·rw [if_neg h, if_pos (show hi < 0 by omega)]
  by_cases h2 : 0 < lo
  ·rw [if_pos h2]; congr 1; omega
  ·rw [if_neg h2, show max lo 1 = 1 by omega, Int.mul_one]
theorem xng (ts : List Tr) : posT (catT ts) = posL ts := by simp [catT, posT]
theorem xhy (k : Nat) (ts : List Tr) : posT (xbj k ts) = posL ts := by simp [xbj, posT, xcs, xng]
def xiy : Int → List Lv → Prop
 | _, [] => True
 | n, l :: ls => l.before = n ∧ xiy (n + posL l.parts) ls
def xda (ls : List Lv) : Int := (ls.map fun l => posL l.parts).sum
theorem xfw (a b : List Lv) : xda (a ++ b) = xda a + xda b := by simp [xda]
theorem xdb : ∀ (a b : List Lv) (n : Int), xiy n (a ++ b) ↔ xiy n a ∧ xiy (n + xda a) b
 | [], b, n => by simp [xiy, xda]
 | l :: a, b, n => by
  have h := xdb a b (n + posL l.parts)
  simp only [List.cons_append, xiy, h]
  have e : n + posL l.parts + xda a = n + xda (l :: a) := by simp [xda]; omega
  rw [e]
  constructor
  ·rintro ⟨h1, h2, h3⟩; exact ⟨⟨h1, h2⟩, h3⟩
  ·rintro ⟨⟨h1, h2⟩, h3⟩; exact ⟨h1, h2, h3⟩
structure Counts (P : Ps) : Prop where
 size : P.size = xda P.outer + posL P.top.parts
 ahead : xiy 0 (P.outer ++ [P.top])
 last : ∀ x, P.top.parts.getLast? = some x → P.last = posT x
theorem xgp : Counts Ps.start := ⟨rfl, ⟨rfl, trivial⟩, fun x h => by cases h⟩
theorem xe1 {P : Ps} (h : Counts P) (t : Tr) (p : Int) (hp : posT t = p) : Counts (P.add t p) := by
 refine ⟨?_, ?_, fun x hx => ?_⟩
 ·show P.size + p = xda P.outer + posL (P.top.parts ++ [t])
  rw [xeg, xcs, h.size, hp]; omega
 ·have h1 := h.ahead
  rw [xdb] at h1 ⊢
  exact ⟨h1.1, h1.2.1, trivial⟩
 ·have hx' : (P.top.parts ++ [t]).getLast? = some x := hx
  simp at hx'
  rw [← hx', hp]
  rfl
theorem xnh {P : Ps} (h : Counts P) (i : Nat) : Counts (P.opened i) := by
 refine ⟨?_, ?_, fun x hx => by cases hx⟩
 ·show P.size = xda (P.outer ++ [P.top]) + posL []
  rw [xfw, h.size]
  simp [xda, posL]
 ·show xiy 0 ((P.outer ++ [P.top]) ++ [(P.opened i).top])
  rw [xdb]
  refine ⟨h.ahead, ?_, trivial⟩
  show P.size = 0 + xda (P.outer ++ [P.top])
  rw [xfw, h.size]
  simp [xda]
theorem xlq {P : Ps} (h : Counts P) {ou : List Lv} {l : Lv} (hou : P.outer = ou ++ [l]) : Counts (P.close ou l) := by
 have h1 := h.ahead
 have h2 := h.size
 rw [hou] at h1 h2
 rw [xfw] at h2
 have e : xda [l] = posL l.parts := by simp [xda]
 rw [e] at h2
 rw [xdb, xdb] at h1
 have hb : P.top.before = 0 + xda (ou ++ [l]) := h1.2.1
 rw [xfw, e] at hb
 refine ⟨?_, ?_, fun x hx => ?_⟩
 ·show P.size + 0 = xda ou + posL (l.parts ++ [xbj P.top.grp P.top.parts])
  rw [xeg, xcs, xhy, h2]; omega
 ·show xiy 0 (ou ++ [{ l with parts := l.parts ++ [xbj P.top.grp P.top.parts] }])
  rw [xdb]
  exact ⟨h1.1.1, h1.1.2.1, trivial⟩
 ·have hx' : (l.parts ++ [xbj P.top.grp P.top.parts]).getLast? = some x := hx
  simp at hx'
  rw [← hx', xhy]
  show P.size - P.top.before = _
  omega
theorem xp8 {P : Ps} (h : Counts P) {ts : List Tr} {x : Tr} (hs : P.top.parts = ts ++ [x]) (lo hi : Int) : Counts (P.rep ts x lo hi) := by
 have hl := h.last x (by rw [hs]; simp)
 have h2 := h.size
 rw [hs, xeg, xcs] at h2
 refine ⟨?_, ?_, fun y hy => ?_⟩
 ·show P.size + P.last * (xay lo hi - 1) = xda P.outer + posL (ts ++ [repT lo hi x])
  rw [xeg, xcs, xgc, hl, h2, Int.mul_sub, Int.mul_one]; omega
 ·have h1 := h.ahead
  rw [xdb] at h1
  show xiy 0 (P.outer ++ [(P.rep ts x lo hi).top])
  rw [xdb]
  exact ⟨h1.1, h1.2.1, trivial⟩
 ·have hy' : (ts ++ [repT lo hi x]).getLast? = some y := hy
  simp at hy'
  rw [← hy', xgc, ← hl]
  rfl
theorem xhz {P : Ps} (h : Counts P) (t : Tk) : Counts (P.take t).2 := by
 obtain ⟨kd, fr, to, er, q, gp, lo, hi⟩ := t
 unfold Ps.take
 split
 ·exact h
 ·exact xe1 h _ 1 (by simp [xbw, posT])
 ·exact xe1 h _ 0 (by simp [bolT, posT, posL])
 ·exact xe1 h _ 0 (by simp [eolT, posT, posL])
 ·split
  ·exact h
  ·exact xnh h _
 ·split
  ·exact h
  ·rename_i l hl
   exact xlq h (xcd hl)
 ·split
  ·exact xe1 h _ 1 (by simp [xd5, posT])
  ·exact h
 ·split
  ·exact h
  ·rename_i x hx
   exact xp8 h (xcd hx) _ _
theorem xi7 (s : ByteArray) : ∀ (f i k : Nat) (P Q : Ps), Counts P → runT s f i k P = .ok Q → Counts Q
 | 0, i, k, P, Q, h, hr => by cases hr; exact h
 | f + 1, i, k, P, Q, h, hr => by
  rw [runT] at hr
  split at hr
  ·split at hr
   ·exact xi7 s f _ _ _ Q (xhz h _) hr
   ·cases hr
  ·cases hr; exact h
theorem xlr (s : ByteArray) (ts : List Tr) (h : xav s = .ok ts) : ∃ P : Ps, runT s (s.size + 1) 0 4 Ps.start = .ok P ∧ P.outer = [] ∧ ts = P.top.parts ∧ posL ts = P.size := by
 unfold xav at h
 split at h
 ·cases h
 ·cases hr : runT s (s.size + 1) 0 4 Ps.start with
  | error x => rw [hr] at h; cases h
  | ok P =>
   rw [hr] at h
   have h2 : (if P.outer.length = 0 then Except.ok P.top.parts else Except.error (10, P.top.pos)) = (Except.ok ts : Except (Int × Nat) (List Tr)) := h
   split at h2
   ·rename_i h0
    cases h2
    have hc := xi7 s _ _ _ _ P xgp hr
    have ho : P.outer = [] := List.length_eq_zero_iff.1 h0
    refine ⟨P, rfl, ho, rfl, ?_⟩
    rw [hc.size, ho]
    simp [xda]
   ·cases h2
mutual
def xck : Tr → Prop
 | .mk k q lo hi g kids => 0 ≤ posT (.mk k q lo hi g kids) ∧ posT (.mk k q lo hi g kids) ≤ 256 ∧ (posL kids ≤ 256 ∧ kids.length ≤ 1000000) ∧ xdg kids
def xdg : List Tr → Prop
 | [] => True
 | t :: ts => xck t ∧ xdg ts
end
theorem xcb : ∀ (ts : List Tr), xdg ts → ∀ t ∈ ts, xck t
 | t :: ts, h, x, hx => by
  rcases List.mem_cons.1 hx with rfl | hx
  ·exact h.1
  ·exact xcb ts h.2 x hx
theorem xfx : ∀ (ts : List Tr), (∀ t ∈ ts, xck t) → xdg ts
 | [], _ => trivial
 | t :: ts, h => ⟨h t (by simp), xfx ts (fun x hx => h x (by simp [hx]))⟩
theorem xbt (t : Tr) (h : xck t) : 0 ≤ posT t ∧ posT t ≤ 256 ∧ (posL t.kids ≤ 256 ∧ t.kids.length ≤ 1000000) ∧ xdg t.kids := by
 obtain ⟨k, q, lo, hi, g, kids⟩ := t
 exact h
theorem xcz : ∀ (ts : List Tr), xdg ts → 0 ≤ posL ts
 | [], _ => Int.le_refl _
 | t :: ts, h => by
  have h1 := (xbt t h.1).1
  have h2 := xcz ts h.2
  simp only [posL]; omega
theorem xe2 (ts : List Tr) (h : xdg ts) (k : Nat) : 0 ≤ posL (ts.take k) ∧ posL (ts.take k) ≤ posL ts := by
 have h1 : xdg (ts.take k) := xfx _ (fun t ht => xcb ts h t (List.mem_of_mem_take ht))
 have h2 : xdg (ts.drop k) := xfx _ (fun t ht => xcb ts h t (List.mem_of_mem_drop ht))
 have h3 := xeg (ts.take k) (ts.drop k)
 rw [List.take_append_drop] at h3
 have := xcz _ h1
 have := xcz _ h2
 omega
abbrev xcm (t : Tr) (u : Value) : Value := .agg #[.int .i64 t.kind, .int .u64 (wd t.q 0), .int .u64 (wd t.q 1), .int .u64 (wd t.q 2), .int .u64 (wd t.q 3), .int .i64 t.lo, .int .i64 t.hi, .int .i64 t.grp, u]
theorem xh0 {t x : Tr} (h : x ∈ t.kids) : SizeOf.sizeOf x < SizeOf.sizeOf t := by
 obtain ⟨k, q, lo, hi, g, kids⟩ := t
 have h1 := List.sizeOf_lt_of_mem (show x ∈ kids from h)
 simp only [Tr.mk.sizeOf_spec]
 omega
theorem xbu {W W' : World} {ok : Nat → Prop} {v : Value} {ts : List Tr} (h : Kids W ok v ts) (hb : Below W.heap.size W W') : Kids W' ok v ts := by
 have h2 : Kids W (fun g => ok g ∧ g < W.heap.size) v ts := by
  induction h with
  | mk v ts vs hl own hok _ ih => exact .mk v ts vs hl own (fun g hg => ⟨hok g hg, (xbs own hg).2.1⟩) ih
 exact h2.keep (fun g hg => hb.block g hg.2) (fun g hg => hg.1)
theorem pos_walk (kd : Nat) (q : Nat → Bool) (lo hi : Int) (gp : Nat) (ks : List Tr) (hsm : xck (.mk kd q lo hi gp ks)) (ih : ∀ x ∈ ks, ∀ (w : World) (ok : Nat → Prop) (a : Option Addr) (n c : Nat), Kids w ok (.slice a n c) x.kids → Calls Tryz.prog 47 #[xcm x (.slice a n c)] w fun e w' => e = .returned (.int .i64 (posT x)) ∧ Below w.heap.size w w')
  (w : World) (ok : Nat → Prop) (a : Option Addr) (c : Nat) (hk : Kids w ok (.slice a ks.length c) ks) :
  Calls Tryz.prog 47 #[.agg #[.int .i64 kd, .int .u64 (wd q 0), .int .u64 (wd q 1), .int .u64 (wd q 2), .int .u64 (wd q 3), .int .i64 lo, .int .i64 hi, .int .i64 gp, .slice a ks.length c]] w fun e w' => e = .returned (.int .i64 (posT (.mk kd q lo hi gp ks))) ∧ Below w.heap.size w w' := by
 obtain ⟨hp0, hp1, ⟨hp2, hlen⟩, hp3⟩ := hsm
 have htr : ks.take ks.length = ks := List.take_length
 have HPT : Hid (posT (.mk kd q lo hi gp ks) = if kd = 1 ∨ kd = 6 then 1 else if kd = 5 then (if 0 ≤ hi then posL ks * hi else if 0 < lo then posL ks * lo else posL ks) else posL ks) := xab (by simp only [posT])
 generalize posT (.mk kd q lo hi gp ks) = p at *
 have HA := xab (And.intro hk (And.intro ih (And.intro hp3 htr)))
 clear hk ih hp3 htr
 go_enter Tryz.func47, Tryz.ntmps47
 go_wp2_with fail
 obtain ⟨X, hX⟩ : ∃ X, X = w.alloc (.cells #[.int .i64 kd, .int .u64 (wd q 0), .int .u64 (wd q 1), .int .u64 (wd q 2), .int .u64 (wd q 3), .int .i64 lo, .int .i64 hi, .int .i64 gp, .slice a ks.length c] 36) := ⟨_, rfl⟩
 have hbX : X.heap[w.heap.size]? = some (.cells #[.int .i64 kd, .int .u64 (wd q 0), .int .u64 (wd q 1), .int .u64 (wd q 2), .int .u64 (wd q 3), .int .i64 lo, .int .i64 hi, .int .i64 gp, .slice a ks.length c] 36) := by rw [hX]; exact heap_alloc_new w _
 have hBX : Below w.heap.size w X := by rw [hX]; exact (Below.refl _ _).alloc (Nat.le_refl _) _
 rw [← hX]
 clear hX
 have HX := xab (And.intro hbX hBX)
 clear hbX hBX
 go_loopw [3, 4] (fun v i wr => ∃ k : Nat, k ≤ ks.length ∧ i = .int .i64 k ∧ v = .int .i64 (posL (ks.take k)) ∧ Below X.heap.size X wr) (fun _ i _ => (ks.length - intOf i).toNat)
 case atStart => exact ⟨0, by omega, rfl, rfl, Below.refl _ _⟩
 case round =>
  obtain ⟨k, hk1, rfl, rfl, hB⟩ := hrel
  have hlw : w.heap.size < X.heap.size := (Array.getElem?_eq_some_iff.1 HX.out.1).1
  have hbr := (hB.block _ hlw).trans HX.out.1
  have z0 : wr.cell? ⟨w.heap.size, 0, none⟩ = some (.int .i64 kd) := by simp [World.cell?, hbr]
  have z5 : wr.cell? ⟨w.heap.size, 5, none⟩ = some (.int .i64 lo) := by simp [World.cell?, hbr]
  have z6 : wr.cell? ⟨w.heap.size, 6, none⟩ = some (.int .i64 hi) := by simp [World.cell?, hbr]
  have z8 : wr.cell? ⟨w.heap.size, 8, none⟩ = some (.slice a ks.length c) := by simp [World.cell?, hbr]
  clear hbr hlw
  by_cases hlt : k < ks.length
  ·have hkr := xbu (xbu HA.out.1 HX.out.2) hB
   obtain ⟨g, c', u, he, _, _, hcell, hku⟩ := xhx hkr (i := k) (List.getElem?_eq_getElem hlt)
   obtain rfl : a = some ⟨g, 0, none⟩ := by injection he
   obtain ⟨ua, uc, rfl⟩ := xba hku
   have hic := HA.out.2.1 ks[k] (List.getElem_mem hlt) wr ok ua _ uc hku
   have hsum : posL (ks.take (k + 1)) = posL (ks.take k) + posT ks[k] := by
    rw [List.take_succ_eq_append_getElem hlt, xeg, xcs]
   have hb1 := xe2 ks HA.out.2.2.1 k
   have hb2 := xe2 ks HA.out.2.2.1 (k + 1)
   have y0 := (hcell 0 _ rfl).1
   have y1 := (hcell 1 _ rfl).1
   have y2 := (hcell 2 _ rfl).1
   have y3 := (hcell 3 _ rfl).1
   have y4 := (hcell 4 _ rfl).1
   have y5 := (hcell 5 _ rfl).1
   have y6 := (hcell 6 _ rfl).1
   have y7 := (hcell 7 _ rfl).1
   have y8 := (hcell 8 _ rfl).1
   rw [Nat.add_zero] at y0
   have k3 : (k : Int) < (ks.length : Int) := by omega
   have k4 : (0 : Int) ≤ (k : Int) := by omega
   have k5 : IntKind.i64.wrap ((k : Int) + 1) = (k : Int) + 1 := by rw [IntKind.wrap_i64]; omega
   have k6 : IntKind.i64.wrap (posL (ks.take k) + posT ks[k]) = posL (ks.take k) + posT ks[k] := by rw [IntKind.wrap_i64]; omega
   have HC := xab (And.intro hic hsum)
   clear hkr hcell hku he hic hsum hb1 hb2
   go_wp2_with fail
   refine HC.out.1.mono ?_
   rintro e w2 ⟨rfl, hb2⟩
   have HB := xab (hB.trans (hb2.mono hB.size))
   clear y0 y1 y2 y3 y4 y5 y6 y7 y8 z0 z5 z6 z8 hB hb2
   go_wp2
   exact ⟨⟨k + 1, by omega, by go_num, by rw [HC.out.2], HB.out⟩, by simp [intOf]; omega⟩
  ·obtain rfl : k = ks.length := by omega
   have k3 : ¬ (ks.length : Int) < (ks.length : Int) := by omega
   rw [HA.out.2.2.2]
   have HB := xab (HX.out.2.trans (hB.mono HX.out.2.size))
   generalize posL ks = n at *
   clear hB
   by_cases c1 : kd = 1
   ·subst c1
    have hp := HPT.out
    rw [if_pos (.inl rfl)] at hp
    go_wp2
    go_ret
    exact ⟨rfl, HB.out⟩
   by_cases c6 : kd = 6
   ·subst c6
    have hp := HPT.out
    rw [if_pos (.inr rfl)] at hp
    go_wp2
    go_ret
    exact ⟨rfl, HB.out⟩
   have e1 : ((kd : Int) == 1) = false := by rw [beq_eq_false_iff_ne]; omega
   have e6 : ((kd : Int) == 6) = false := by rw [beq_eq_false_iff_ne]; omega
   have hp := HPT.out
   rw [if_neg (by omega)] at hp
   by_cases c5 : kd = 5
   ·subst c5
    rw [if_pos rfl] at hp
    by_cases h0 : 0 ≤ hi
    ·rw [if_pos h0] at hp
     have kk : IntKind.i64.wrap (n * hi) = n * hi := by rw [← hp, IntKind.wrap_i64]; omega
     have HP2 := xab hp
     clear hp
     go_wp2
     go_ret
     exact ⟨by rw [HP2.out]; rfl, HB.out⟩
    ·rw [if_neg h0] at hp
     have h0' : (0 ≤ hi) = False := eq_false h0
     by_cases h1 : 0 < lo
     ·rw [if_pos h1] at hp
      have kk : IntKind.i64.wrap (n * lo) = n * lo := by rw [← hp, IntKind.wrap_i64]; omega
      have HP2 := xab hp
      clear hp
      go_wp2
      go_ret
      exact ⟨by rw [HP2.out]; rfl, HB.out⟩
     ·rw [if_neg h1] at hp
      have h1' : (0 < lo) = False := eq_false h1
      have HP2 := xab hp
      clear hp
      go_wp2
      go_ret
      exact ⟨by rw [HP2.out]; rfl, HB.out⟩
   ·have e5 : ((kd : Int) == 5) = false := by rw [beq_eq_false_iff_ne]; omega
    rw [if_neg c5] at hp
    have HP2 := xab hp
    clear hp
    go_wp2
    go_ret
    exact ⟨by rw [HP2.out]; rfl, HB.out⟩
theorem xka : ∀ (m : Nat) (t : Tr), SizeOf.sizeOf t < m → xck t → ∀ (w : World) (ok : Nat → Prop) (a : Option Addr) (n c : Nat), Kids w ok (.slice a n c) t.kids →
  Calls Tryz.prog 47 #[xcm t (.slice a n c)] w fun e w' => e = .returned (.int .i64 (posT t)) ∧ Below w.heap.size w w'
 | 0, t, h, _, _, _, _, _, _, _ => absurd h (Nat.not_lt_zero _)
 | m + 1, t, h, hsm, w, ok, a, n, c, hk => by
  have hn : n = t.kids.length := by
   obtain ⟨a', c', he⟩ := xba hk
   injection he
  subst hn
  have ih : ∀ x ∈ t.kids, ∀ (w : World) (ok : Nat → Prop) (a : Option Addr) (n c : Nat), Kids w ok (.slice a n c) x.kids → Calls Tryz.prog 47 #[xcm x (.slice a n c)] w fun e w' => e = .returned (.int .i64 (posT x)) ∧ Below w.heap.size w w' :=
   fun x hx => xka m x (by have := xh0 hx; omega) (xcb _ (xbt t hsm).2.2.2 x hx)
  obtain ⟨kd, q, lo, hi, gp, ks⟩ := t
  exact pos_walk kd q lo hi gp ks hsm ih w ok a c hk
def xfy (P : Ps) : Prop := ∀ l, l ∈ P.outer ++ [P.top] → xdg l.parts
theorem xe3 (k : Nat) (q : Nat → Bool) (g : Nat) (hk : k ≠ 5) : xck (.mk k q 0 0 g []) := by
 have h : posT (.mk k q 0 0 g []) = if k = 1 ∨ k = 6 then 1 else 0 := by simp [posT, posL, hk]
 refine ⟨?_, ?_, ⟨by simp [posL], by simp⟩, trivial⟩
 ·rw [h]; split <;> omega
 ·rw [h]; split <;> omega
theorem xfh {ts : List Tr} {t : Tr} (h : xdg ts) (ht : xck t) : xdg (ts ++ [t]) := by
 refine xfx _ (fun x hx => ?_)
 rcases List.mem_append.1 hx with h1 | h1
 ·exact xcb ts h x h1
 ·rw [List.mem_singleton.1 h1]; exact ht
theorem xgq : ∀ ls : List Lv, (∀ l ∈ ls, xdg l.parts) → 0 ≤ xda ls
 | [], _ => by simp [xda]
 | l :: ls, h => by
  have h1 := xcz _ (h l (by simp))
  have h2 := xgq ls (fun x hx => h x (by simp [hx]))
  have e : xda (l :: ls) = posL l.parts + xda ls := by simp [xda]
  omega
theorem xls {ts : List Tr} (h : xdg ts) (hp : posL ts ≤ 256) (hl : ts.length ≤ 1000000) : xck (catT ts) := by
 have h0 := xcz _ h
 have e := xng ts
 exact ⟨by show 0 ≤ posT (catT ts); omega, by show posT (catT ts) ≤ 256; omega, ⟨hp, hl⟩, h⟩
theorem xni {ts : List Tr} (k : Nat) (h : xdg ts) (hp : posL ts ≤ 256) (hl : ts.length ≤ 1000000) : xck (xbj k ts) := by
 have h0 := xcz _ h
 have e := xhy k ts
 exact ⟨by show 0 ≤ posT (xbj k ts); omega, by show posT (xbj k ts) ≤ 256; omega, ⟨by rw [xcs, xng]; exact hp, by simp⟩, xls h hp hl, trivial⟩
theorem xr4 {t : Tr} (lo hi : Int) (h : xck t) (h0 : 0 ≤ posT t * xay lo hi) (h1 : posT t * xay lo hi ≤ 256) : xck (repT lo hi t) := by
 have e := xgc lo hi t
 exact ⟨by show 0 ≤ posT (repT lo hi t); omega, by show posT (repT lo hi t) ≤ 256; omega, ⟨by rw [xcs]; exact (xbt t h).2.1, by simp⟩, h, trivial⟩
theorem xkb {P : Ps} (h : xfy P) {t : Tr} (ht : xck t) (p : Int) : xfy (P.add t p) := by
 intro l hl
 rcases List.mem_append.1 hl with h1 | h1
 ·exact h l (List.mem_append_left _ h1)
 ·rw [List.mem_singleton.1 h1]
  exact xfh (h P.top (by simp)) ht
theorem xp9 {P : Ps} {n : Nat} (hn : n ≤ 600) (h : xfy P) (hC : Counts P) (hG : Good P n) (t : Tk) (ht : TkOk t) (h7 : t.kind = 7 → P.top.parts ≠ []) (hk : t.kind ≠ 0) (h0 : (P.take t).1 = 0) : xfy (P.take t).2 := by
 have hG2 := (xhw hG t ht h7 hk h0).1
 obtain ⟨kd, fr, to, er, q, gp, lo, hi⟩ := t
 have hkd : kd ≤ 7 := ht.kind
 rcases (show kd = 0 ∨ kd = 1 ∨ kd = 2 ∨ kd = 3 ∨ kd = 4 ∨ kd = 5 ∨ kd = 6 ∨ kd = 7 by omega) with rfl | rfl | rfl | rfl | rfl | rfl | rfl | rfl
 ·exact absurd rfl hk
 ·exact xkb h (xe3 1 q 0 (by omega)) 1
 ·exact xkb h (xe3 2 xad 0 (by omega)) 0
 ·exact xkb h (xe3 3 xad 0 (by omega)) 0
 ·by_cases h9 : P.groups = 9
  ·simp [Ps.take, h9] at h0
  ·have e : P.take ⟨4, fr, to, er, q, gp, lo, hi⟩ = (0, P.opened fr) := by simp [Ps.take, h9]
   rw [e]
   intro l hl
   have hl' : l ∈ (P.outer ++ [P.top]) ++ [(P.opened fr).top] := hl
   rcases List.mem_append.1 hl' with h1 | h1
   ·exact h l h1
   ·rw [List.mem_singleton.1 h1]
    exact trivial
 ·cases hl : P.outer.getLast? with
  | none => simp [Ps.take, hl] at h0
  | some l =>
   have e : P.take ⟨5, fr, to, er, q, gp, lo, hi⟩ = (0, P.close P.outer.dropLast l) := by simp only [Ps.take, hl]
   rw [e]
   have hs := xcd hl
   have htop := h P.top (by simp)
   have hpos : posL P.top.parts ≤ 256 := by
    have h1 := hC.size
    have h2 := xgq P.outer (fun x hx => h x (by simp [hx]))
    have h3 := hG.big
    omega
   have hg : xck (xbj P.top.grp P.top.parts) := xni _ htop hpos (by have := hG.top.2; omega)
   intro l' hl'
   have hl2 : l' ∈ P.outer.dropLast ++ [{ l with parts := l.parts ++ [xbj P.top.grp P.top.parts] }] := hl'
   rcases List.mem_append.1 hl2 with h1 | h1
   ·exact h l' (by rw [hs]; simp [h1])
   ·rw [List.mem_singleton.1 h1]
    exact xfh (h l (by rw [hs]; simp)) hg
 ·cases hc : P.shut gp
  ·simp [Ps.take, hc] at h0
  ·have e : P.take ⟨6, fr, to, er, q, gp, lo, hi⟩ = (P.add (xd5 gp) 1).grown := by simp only [Ps.take, hc]; rfl
   rw [e]
   exact xkb h (xe3 6 xad gp (by omega)) 1
 ·have h7' := h7 rfl
  cases hl : P.top.parts.getLast? with
  | none => exact absurd (List.getLast?_eq_none_iff.1 hl) h7'
  | some x =>
   have e : P.take ⟨7, fr, to, er, q, gp, lo, hi⟩ = (P.rep P.top.parts.dropLast x lo hi).grown := by simp only [Ps.take, hl]
   rw [e] at hG2 ⊢
   have hs := xcd hl
   have hla := hG2.last (by simp [Ps.grown, Ps.rep])
   have hbd := hG2.bounds
   have hbg := hG2.big
   have hx : posT x = P.last := (hC.last x hl).symm
   have hla' : 0 ≤ P.last * xay lo hi ∧ P.last * xay lo hi ≤ (P.rep P.top.parts.dropLast x lo hi).grown.2.size - (P.rep P.top.parts.dropLast x lo hi).grown.2.top.before := hla
   have htop := h P.top (by simp)
   have hxs : xck x := xcb _ htop x (by rw [hs]; simp)
   intro l' hl'
   have hl2 : l' ∈ P.outer ++ [{ P.top with parts := P.top.parts.dropLast ++ [repT lo hi x] }] := hl'
   rcases List.mem_append.1 hl2 with h1 | h1
   ·exact h l' (List.mem_append_left _ h1)
   ·rw [List.mem_singleton.1 h1]
    refine xfh (xfx _ (fun y hy => xcb _ htop y (List.dropLast_subset _ hy))) (xr4 lo hi hxs ?_ ?_)
    ·rw [hx]; exact hla'.1
    ·rw [hx]; omega
structure Well (P : Ps) (k n : Nat) : Prop where
 good : Good P n
 counts : Counts P
 small : xfy P
 parts : k ≠ 4 → P.top.parts ≠ []
theorem xed : Well Ps.start 4 0 := ⟨xi6, xgp, fun l hl => by
 have hl' : l = ⟨0, 0, 0, []⟩ := by simpa [Ps.start] using hl
 subst hl'
 exact trivial, fun h => absurd rfl h⟩
theorem xct {s : ByteArray} {P : Ps} {i k : Nat} (hi : i < s.size) (hs : s.size ≤ 512) (h : Well P k i) (h0 : (P.take (xaf s i k)).1 = 0) : Well (P.take (xaf s i k)).2 (xaf s i k).kind (xaf s i k).to ∧ i < (xaf s i k).to ∧ (xaf s i k).to ≤ s.size := by
 have hta := xbd s i k hi
 have hk : (xaf s i k).kind ≠ 0 := fun e => by
  have h9 : (P.take (xaf s i k)).1 = (xaf s i k).e := by simp only [Ps.take, e]
  rw [h0] at h9
  exact hta.fault e h9.symm
 have hn := hta.next hk
 have h7 : (xaf s i k).kind = 7 → P.top.parts ≠ [] := fun h7 => h.parts (fun e => by have := hta.rep h7; rw [e] at this; cases this)
 obtain ⟨g1, g2⟩ := xhw h.good _ hta.ok h7 hk h0
 exact ⟨⟨g1.mono (by omega), xhz h.counts _, xp9 (by omega) h.small h.counts h.good _ hta.ok h7 hk h0, g2⟩, hn⟩
theorem xom (s : ByteArray) (hs : s.size ≤ 512) : ∀ (f i k : Nat) (P Q : Ps), Well P k i → i ≤ s.size → runT s f i k P = .ok Q → ∃ k' n, n ≤ s.size ∧ Well Q k' n
 | 0, i, k, P, Q, h, hi, hr => by cases hr; exact ⟨k, i, hi, h⟩
 | f + 1, i, k, P, Q, h, hi, hr => by
  rw [runT] at hr
  split at hr
  ·rename_i hlt
   split at hr
   ·rename_i h0
    obtain ⟨h1, h2, h3⟩ := xct hlt hs h h0
    exact xom s hs f _ _ _ Q h1 h3 hr
   ·cases hr
  ·cases hr; exact ⟨k, i, hi, h⟩
theorem xh1 (s : ByteArray) (ts : List Tr) (h : xav s = .ok ts) : xck (catT ts) := by
 have hs : s.size ≤ 512 := by
  unfold xav at h
  split at h
  ·cases h
  ·omega
 obtain ⟨P, hr, ho, rfl, hp⟩ := xlr s ts h
 obtain ⟨k', n, hn, hw⟩ := xom s hs _ 0 4 _ P xed (Nat.zero_le _) hr
 have := hw.good.big
 have := hw.good.top.2
 exact xls (hw.small P.top (by simp)) (by omega) (by omega)
abbrev Sh := Nat × (Nat → Bool)
def Sh.shut (s : Sh) (g : Nat) : Sh := (s.1, fun x => if x = g then true else s.2 x)
mutual
def ShT : Tr → Sh → Sh → Prop
 | .mk k q lo hi g kids, s, s' =>
  (k = 0 ∧ q = xad ∧ lo = 0 ∧ hi = 0 ∧ g = 0 ∧ ShL kids s s') ∨
  ((k = 1 ∨ (k = 2 ∨ k = 3) ∧ q = xad) ∧ lo = 0 ∧ hi = 0 ∧ g = 0 ∧ kids = [] ∧ s' = s) ∨
  (k = 6 ∧ q = xad ∧ lo = 0 ∧ hi = 0 ∧ kids = [] ∧ 1 ≤ g ∧ g ≤ 9 ∧ s.2 g = true ∧ s' = s) ∨
  (k = 4 ∧ q = xad ∧ lo = 0 ∧ hi = 0 ∧ g = s.1 + 1 ∧ g ≤ 9 ∧ (∃ c, kids = [c] ∧ c.kind = 0) ∧ ∃ s1, ShL kids (s.1 + 1, s.2) s1 ∧ s' = s1.shut g) ∨
  (k = 5 ∧ q = xad ∧ g = 0 ∧ (0 ≤ lo ∧ lo ≤ 255) ∧ (hi = -1 ∨ lo ≤ hi ∧ hi ≤ 255) ∧ (∃ c, kids = [c] ∧ c.kind ≠ 0 ∧ c.kind ≠ 2 ∧ c.kind ≠ 3) ∧ ShL kids s s')
def ShL : List Tr → Sh → Sh → Prop
 | [], s, s' => s' = s
 | t :: ts, s, s' => ∃ s1, ShT t s s1 ∧ ShL ts s1 s'
end
theorem xkc : ∀ (a b : List Tr) (s s' : Sh), ShL (a ++ b) s s' ↔ ∃ s1, ShL a s s1 ∧ ShL b s1 s'
 | [], b, s, s' => by simp [ShL]
 | t :: a, b, s, s' => by
  simp only [List.cons_append, ShL]
  constructor
  ·rintro ⟨s1, h1, h2⟩
   obtain ⟨s2, h3, h4⟩ := (xkc a b s1 s').1 h2
   exact ⟨s2, ⟨s1, h1, h3⟩, h4⟩
  ·rintro ⟨s2, ⟨s1, h1, h3⟩, h4⟩
   exact ⟨s1, h1, (xkc a b s1 s').2 ⟨s2, h3, h4⟩⟩
theorem xkd (t : Tr) (s s' : Sh) : ShL [t] s s' ↔ ShT t s s' := by
 simp only [ShL]
 constructor
 ·rintro ⟨s1, h1, rfl⟩; exact h1
 ·intro h; exact ⟨s', h, rfl⟩
theorem xke {ts : List Tr} {t : Tr} {s s1 s' : Sh} (h : ShL ts s s1) (ht : ShT t s1 s') : ShL (ts ++ [t]) s s' := (xkc _ _ _ _).2 ⟨s1, h, (xkd _ _ _).2 ht⟩
def UpR : List Lv → Sh → Prop
 | [], _ => False
 | [l], s => ShL l.parts (0, fun _ => false) s
 | l :: l2 :: ls, s => ∃ s1, UpR (l2 :: ls) s1 ∧ l.grp = s1.1 + 1 ∧ ShL l.parts (s1.1 + 1, s1.2) s
theorem xon {l : Lv} {ls : List Lv} {s s' : Sh} {t : Tr} (h : UpR (l :: ls) s) (ht : ShT t s s') : UpR ({ l with parts := l.parts ++ [t] } :: ls) s' := by
 cases ls with
 | nil => exact xke h ht
 | cons l2 ls =>
  obtain ⟨s1, h1, h2, h3⟩ := h
  exact ⟨s1, h1, h2, xke h3 ht⟩
theorem upR_last {l : Lv} {ls : List Lv} {s : Sh} {ts : List Tr} {x y : Tr} (hs : l.parts = ts ++ [x]) (h : UpR (l :: ls) s) (hy : ∀ s0, ShT x s0 s → ShT y s0 s) : UpR ({ l with parts := ts ++ [y] } :: ls) s := by
 have key : ∀ s0, ShL l.parts s0 s → ShL (ts ++ [y]) s0 s := fun s0 h => by
  rw [hs] at h
  obtain ⟨s1, h1, h2⟩ := (xkc _ _ _ _).1 h
  exact xke h1 (hy s1 ((xkd _ _ _).1 h2))
 cases ls with
 | nil => exact key _ h
 | cons l2 ls =>
  obtain ⟨s1, h1, h2, h3⟩ := h
  exact ⟨s1, h1, h2, key _ h3⟩
structure Shapes (P : Ps) (k : Nat) : Prop where
 up : UpR (P.top :: P.outer.reverse) (P.groups, P.shut)
 last : ∀ x, P.top.parts.getLast? = some x → x.kind ≠ 0 ∧ (x.kind = 2 → k = 2) ∧ (x.kind = 3 → k = 3)
theorem xlt : Shapes Ps.start 4 := ⟨rfl, fun x h => by cases h⟩
theorem xe4 {P : Ps} {k : Nat} (h : Shapes P k) {t : Tr} (p : Int) (k' : Nat) (ht : ShT t (P.groups, P.shut) (P.groups, P.shut)) (hk : t.kind ≠ 0 ∧ (t.kind = 2 → k' = 2) ∧ (t.kind = 3 → k' = 3)) : Shapes (P.add t p) k' := by
 refine ⟨xon h.up ht, fun x hx => ?_⟩
 have hx' : (P.top.parts ++ [t]).getLast? = some x := hx
 simp at hx'
 rw [← hx']
 exact hk
theorem xnj {P : Ps} {k : Nat} (h : Shapes P k) (t : Tk) (hg9 : P.top.grp ≤ 9) (hk7 : t.kind ≤ 7) (hg : t.kind = 6 → 1 ≤ t.grp ∧ t.grp ≤ 9) (hr : t.kind = 7 → (0 ≤ t.lo ∧ t.lo ≤ 255) ∧ (t.hi = -1 ∨ t.lo ≤ t.hi ∧ t.hi ≤ 255)) (h7 : t.kind = 7 → k ≠ 2 ∧ k ≠ 3) (hk : t.kind ≠ 0) (h0 : (P.take t).1 = 0) : Shapes (P.take t).2 t.kind := by
 obtain ⟨kd, fr, to, er, q, gp, lo, hi⟩ := t
 have hkd : kd ≤ 7 := hk7
 rcases (show kd = 0 ∨ kd = 1 ∨ kd = 2 ∨ kd = 3 ∨ kd = 4 ∨ kd = 5 ∨ kd = 6 ∨ kd = 7 by omega) with rfl | rfl | rfl | rfl | rfl | rfl | rfl | rfl
 ·exact absurd rfl hk
 ·exact xe4 h 1 1 (.inr (.inl ⟨.inl rfl, rfl, rfl, rfl, rfl, rfl⟩)) ⟨by show 1 ≠ 0; omega, (fun e => by cases e), (fun e => by cases e)⟩
 ·exact xe4 h 0 2 (.inr (.inl ⟨.inr ⟨.inl rfl, rfl⟩, rfl, rfl, rfl, rfl, rfl⟩)) ⟨by show 2 ≠ 0; omega, fun _ => rfl, (fun e => by cases e)⟩
 ·exact xe4 h 0 3 (.inr (.inl ⟨.inr ⟨.inr rfl, rfl⟩, rfl, rfl, rfl, rfl, rfl⟩)) ⟨by show 3 ≠ 0; omega, (fun e => by cases e), fun _ => rfl⟩
 ·by_cases h9 : P.groups = 9
  ·simp [Ps.take, h9] at h0
  ·have e : P.take ⟨4, fr, to, er, q, gp, lo, hi⟩ = (0, P.opened fr) := by simp [Ps.take, h9]
   rw [e]
   refine ⟨?_, fun x hx => by cases hx⟩
   show UpR ((P.opened fr).top :: (P.outer ++ [P.top]).reverse) _
   rw [List.reverse_append]
   exact ⟨(P.groups, P.shut), h.up, rfl, rfl⟩
 ·cases hl : P.outer.getLast? with
  | none => simp [Ps.take, hl] at h0
  | some l =>
   have e : P.take ⟨5, fr, to, er, q, gp, lo, hi⟩ = (0, P.close P.outer.dropLast l) := by simp only [Ps.take, hl]
   rw [e]
   have hs := xcd hl
   have hup := h.up
   rw [hs, List.reverse_append] at hup
   obtain ⟨s1, h1, h2, h3⟩ := hup
   refine ⟨?_, fun x hx => ?_⟩
   ·refine xon h1 (.inr (.inr (.inr (.inl ⟨rfl, rfl, rfl, rfl, h2, hg9, ⟨catT P.top.parts, rfl, rfl⟩, (P.groups, P.shut), ?_, rfl⟩))))
    exact (xkd _ _ _).2 (.inl ⟨rfl, rfl, rfl, rfl, rfl, h3⟩)
   ·have hx' : (l.parts ++ [xbj P.top.grp P.top.parts]).getLast? = some x := hx
    simp at hx'
    rw [← hx']
    exact ⟨by show 4 ≠ 0; omega, (fun e => by cases e), (fun e => by cases e)⟩
 ·cases hc : P.shut gp
  ·simp [Ps.take, hc] at h0
  ·have e : P.take ⟨6, fr, to, er, q, gp, lo, hi⟩ = (P.add (xd5 gp) 1).grown := by simp only [Ps.take, hc]; rfl
   rw [e]
   have hg' := hg rfl
   exact xe4 h 1 6 (.inr (.inr (.inl ⟨rfl, rfl, rfl, rfl, rfl, hg'.1, hg'.2, hc, rfl⟩))) ⟨by show 6 ≠ 0; omega, (fun e => by cases e), (fun e => by cases e)⟩
 ·cases hl : P.top.parts.getLast? with
  | none =>
   have e : P.take ⟨7, fr, to, er, q, gp, lo, hi⟩ = (0, P) := by simp only [Ps.take, hl]
   rw [e]
   exact ⟨h.up, fun x hx => by rw [hl] at hx; cases hx⟩
  | some x =>
   have e : P.take ⟨7, fr, to, er, q, gp, lo, hi⟩ = (P.rep P.top.parts.dropLast x lo hi).grown := by simp only [Ps.take, hl]
   rw [e]
   have hs := xcd hl
   have hx := h.last x hl
   have h7' := h7 rfl
   have hr' := hr rfl
   refine ⟨?_, fun y hy => ?_⟩
   ·refine upR_last hs h.up (fun s0 hx0 => .inr (.inr (.inr (.inr ⟨rfl, rfl, rfl, hr'.1, hr'.2, ⟨x, rfl, hx.1, fun e => h7'.1 (hx.2.1 e), fun e => h7'.2 (hx.2.2 e)⟩, (xkd _ _ _).2 hx0⟩))))
   ·have hy' : (P.top.parts.dropLast ++ [repT lo hi x]).getLast? = some y := hy
    simp at hy'
    rw [← hy']
    exact ⟨by show 5 ≠ 0; omega, (fun e => by cases e), (fun e => by cases e)⟩
structure TokMore (s : ByteArray) (i k : Nat) (t : Tk) : Prop where
 grp : t.kind = 6 → 1 ≤ t.grp
 rep : t.kind = 7 → t.hi = -1 ∨ t.lo ≤ t.hi
 eol : t.kind = 3 → shuts s t.to = true
theorem xc0 (s : ByteArray) (i k : Nat) (t : Tk) (h3 : t.kind ≠ 3) (h6 : t.kind ≠ 6) (h7 : t.kind ≠ 7) : TokMore s i k t := ⟨fun h => absurd h h6, fun h => absurd h h7, fun h => absurd h h3⟩
theorem xcu (s : ByteArray) (i k : Nat) (e : Int) : TokMore s i k (xax e i) := xc0 _ _ _ _ (by show 0 ≠ 3; omega) (by show 0 ≠ 6; omega) (by show 0 ≠ 7; omega)
theorem xes (s : ByteArray) (i k b j : Nat) : TokMore s i k (xcn b i j) := xc0 _ _ _ _ (by show 1 ≠ 3; omega) (by show 1 ≠ 6; omega) (by show 1 ≠ 7; omega)
theorem xgv (s : ByteArray) (i k : Nat) : TokMore s i k (xa6 s i) := by
 unfold xa6 ivlT
 obtain ⟨inner, after, closed, hc⟩ : ∃ a b c, Lib.cut (s.data.toList.drop (i + 2)) [92, 125] = (a, b, c) := ⟨_, _, _, rfl⟩
 simp only [hc]
 split
 ·rename_i hu
  simp only [Bool.and_eq_true] at hu
  obtain ⟨_, hu⟩ := hu
  refine ⟨(fun h => by cases h), fun _ => ?_, (fun h => by cases h)⟩
  show (upper _ _ _).1 = -1 ∨ (((numS (Lib.cut inner [44]).1).1 : Nat) : Int) ≤ (upper _ _ _).1
  unfold upper at hu ⊢
  split at hu
  ·rename_i h2
   simp only [h2, if_true]
   split at hu
   ·rename_i h3
    simp only [h3, if_true]
    exact .inl trivial
   ·rename_i h3
    simp only [Bool.and_eq_true, decide_eq_true_eq] at hu
    simp only [h3]
    exact .inr (by simpa using hu.2)
  ·rename_i h2
   simp only [h2]
   exact .inr (Int.le_refl _)
 ·exact xcu s i k 9
theorem xkf (s : ByteArray) (i k : Nat) : TokMore s i k (xaf s i k) := by
 unfold xaf
 split
 ·unfold xbr
  split
  ·exact xcu s i k 6
  generalize (xac s (i + 1)).toNat = b
  unfold escB
  split
  ·exact xc0 _ _ _ _ (by show 4 ≠ 3; omega) (by show 4 ≠ 6; omega) (by show 4 ≠ 7; omega)
  split
  ·exact xc0 _ _ _ _ (by show 5 ≠ 3; omega) (by show 5 ≠ 6; omega) (by show 5 ≠ 7; omega)
  split
  ·exact xgv s i k
  split
  ·exact xcu s i k 9
  split
  ·exact xes s i k 10 _
  split
  ·rename_i h3
   refine ⟨fun _ => ?_, (fun h => by cases h), (fun h => by cases h)⟩
   have h4 := h3.2
   have h5 := h3.1
   simp [digB] at h4
   show 1 ≤ b - 48
   omega
  split
  ·exact xcu s i k 12
  ·exact xes s i k b _
 split
 ·unfold xcr
  split
  ·exact xcu s i k _
  ·exact xc0 _ _ _ _ (by show 1 ≠ 3; omega) (by show 1 ≠ 6; omega) (by show 1 ≠ 7; omega)
 split
 ·exact xc0 _ _ _ _ (by show 1 ≠ 3; omega) (by show 1 ≠ 6; omega) (by show 1 ≠ 7; omega)
 split
 ·exact xc0 _ _ _ _ (by show 2 ≠ 3; omega) (by show 2 ≠ 6; omega) (by show 2 ≠ 7; omega)
 split
 ·rename_i h
  exact ⟨(fun h => by cases h), (fun h => by cases h), fun _ => h.2⟩
 split
 ·exact ⟨(fun h => by cases h), fun _ => .inl rfl, (fun h => by cases h)⟩
 ·exact xes s i k _ _
theorem tok_shut (s : ByteArray) (i k : Nat) (hi : i < s.size) (h : shuts s i = true) : (xaf s i k).kind = 5 := by
 have hp : Lib.hasPrefix (s.extract i s.size).data.toList [92, 41] = true := by
  unfold shuts at h
  rw [Bool.or_eq_true] at h
  rcases h with h | h
  ·have := of_decide_eq_true h; omega
  ·exact h
 rw [xcg] at hp
 have hpre : [92, 41] <+: s.data.toList.drop i := by
  unfold Lib.hasPrefix at hp
  exact List.isPrefixOf_iff_prefix.1 hp
 obtain ⟨r, hr⟩ := hpre
 have hlen := congrArg List.length hr
 simp only [List.length_append, List.length_cons, List.length_nil, List.length_drop] at hlen
 have hsz : s.data.toList.length = s.size := by simp
 have b0 : xac s i = 92 := by
  rw [xah hi]
  have h1 : s.data.toList[i]? = some 92 := by
   have := congrArg (fun l => l[0]?) hr
   simp at this
   simpa using this.symm
  have h2 : s[i] = 92 := by
   have h3 : i < s.data.toList.length := by omega
   rw [List.getElem?_eq_getElem h3] at h1
   exact Option.some.inj h1
  rw [h2]; rfl
 have hi1 : i + 1 < s.size := by omega
 have b1 : xac s (i + 1) = 41 := by
  rw [xah hi1]
  have h1 : s.data.toList[i + 1]? = some 41 := by
   have := congrArg (fun l => l[1]?) hr
   simp at this
   simpa using this.symm
  have h2 : s[i + 1] = 41 := by
   have h3 : i + 1 < s.data.toList.length := by omega
   rw [List.getElem?_eq_getElem h3] at h1
   exact Option.some.inj h1
  rw [h2]; rfl
 unfold xaf
 rw [if_pos b0]
 unfold xbr
 rw [if_neg (by omega), b1]
 rfl
theorem xi8 (s : ByteArray) (hs : s.size ≤ 512) : ∀ (f i k : Nat) (P Q : Ps), Well P k i → Shapes P k → (k = 3 → shuts s i = true) → i ≤ s.size → runT s f i k P = .ok Q → ∃ k', Shapes Q k'
 | 0, i, k, P, Q, _, h, _, _, hr => by cases hr; exact ⟨k, h⟩
 | f + 1, i, k, P, Q, hw, h, h3, hi, hr => by
  rw [runT] at hr
  split at hr
  ·rename_i hlt
   split at hr
   ·rename_i h0
    obtain ⟨w1, w2, w3⟩ := xct hlt hs hw h0
    have hta := xbd s i k hlt
    have hm := xkf s i k
    have hk : (xaf s i k).kind ≠ 0 := fun e => by
     have h9 : (P.take (xaf s i k)).1 = (xaf s i k).e := by simp only [Ps.take, e]
     rw [h0] at h9
     exact hta.fault e h9.symm
    have hs7 : (xaf s i k).kind = 7 → k ≠ 2 ∧ k ≠ 3 := fun h7 => ⟨(fun e => by have := hta.rep h7; rw [e] at this; cases this), (fun e => by have := tok_shut s i k hlt (h3 e); omega)⟩
    have h2 := xnj h (xaf s i k) (by have := hw.good.top.1; have := hw.good.g9; omega) hta.ok.kind (fun h6 => ⟨hm.grp h6, hta.ok.grp h6⟩) (fun h7 => ⟨(hta.ok.rep h7).1, (hm.rep h7).imp id (fun e => ⟨e, (hta.ok.rep h7).2.2⟩)⟩) hs7 hk h0
    exact xi8 s hs f _ _ _ Q w1 h2 hm.eol w3 hr
   ·cases hr
  ·cases hr; exact ⟨k, h⟩
theorem xlu (s : ByteArray) (ts : List Tr) (h : xav s = .ok ts) : ∃ s', ShT (catT ts) (0, fun _ => false) s' := by
 have hs : s.size ≤ 512 := by
  unfold xav at h
  split at h
  ·cases h
  ·omega
 obtain ⟨P, hr, ho, rfl, _⟩ := xlr s ts h
 obtain ⟨k', hq⟩ := xi8 s hs _ 0 4 _ P xed xlt (fun e => by cases e) (Nat.zero_le _) hr
 have hu := hq.up
 rw [ho] at hu
 exact ⟨_, .inl ⟨rfl, rfl, rfl, rfl, rfl, hu⟩⟩
end Go.Proofs.YtaapmphdnholaaaGreatDoor
