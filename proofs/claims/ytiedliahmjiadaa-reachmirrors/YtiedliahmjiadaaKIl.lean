/- reach: link. -/
import Derived.Test.YtiedliahmjiadaaKId
set_option maxRecDepth 100000
set_option maxHeartbeats 1000000
namespace Go.Proofs.Ytiedliahmjiadaa
open Go.RowKit Go.Shelf
attribute [local go_sem] Oper.semAt_some
def lkN (d e : Nat → Bool) (k : Nat) (ps : List PosB) : List PosB := ps.mapIdx fun p x => ⟨x.tk, if d p && decide (p < k) then orB x.nx e else x.nx, x.pr⟩
def lkR (d e : Nat → Bool) (k : Nat) (ps : List PosB) : List PosB := ps.mapIdx fun p x => ⟨x.tk, x.nx, if d p && decide (p < k) then orB x.pr e else x.pr⟩
theorem lkN_len (d e : Nat → Bool) (k : Nat) (ps : List PosB) : (lkN d e k ps).length = ps.length := by simp [lkN]
theorem lkR_len (d e : Nat → Bool) (k : Nat) (ps : List PosB) : (lkR d e k ps).length = ps.length := by simp [lkR]
theorem lkN_zero (d e : Nat → Bool) (ps : List PosB) : lkN d e 0 ps = ps := by
 apply List.ext_getElem?
 intro p
 simp only [lkN, List.getElem?_mapIdx]
 cases ps[p]? with
 | none => rfl
 | some x => simp
theorem lkR_zero (d e : Nat → Bool) (ps : List PosB) : lkR d e 0 ps = ps := by
 apply List.ext_getElem?
 intro p
 simp only [lkR, List.getElem?_mapIdx]
 cases ps[p]? with
 | none => rfl
 | some x => simp
theorem lkN_get (d e : Nat → Bool) (k : Nat) (ps : List PosB) (p : Nat) : (lkN d e k ps)[p]? = ps[p]?.map fun x => ⟨x.tk, if d p && decide (p < k) then orB x.nx e else x.nx, x.pr⟩ := by simp [lkN, List.getElem?_mapIdx]
theorem lkR_get (d e : Nat → Bool) (k : Nat) (ps : List PosB) (p : Nat) : (lkR d e k ps)[p]? = ps[p]?.map fun x => ⟨x.tk, x.nx, if d p && decide (p < k) then orB x.pr e else x.pr⟩ := by simp [lkR, List.getElem?_mapIdx]
theorem step_cond {d : Nat → Bool} {k x : Nat} (hk : k ≤ x) (hno : ∀ z, k ≤ z → z < x → d z = false) {n : Nat} (hn : n ≠ x) : (d n && decide (n < x + 1)) = (d n && decide (n < k)) := by
 by_cases e : n < k
 ·simp [e, show n < x + 1 by omega]
 ·by_cases e2 : n < x
  ·simp [hno n (by omega) e2]
  ·simp [e, show ¬ n < x + 1 by omega]
theorem lkN_step {d e : Nat → Bool} {k x : Nat} {ps : List PosB} {y : PosB} (hk : k ≤ x) (hd : d x = true) (hno : ∀ z, k ≤ z → z < x → d z = false) (hy : (lkN d e k ps)[x]? = some y) : (lkN d e k ps).set x ⟨y.tk, orB y.nx e, y.pr⟩ = lkN d e (x + 1) ps := by
 apply List.ext_getElem?
 intro n
 rw [List.getElem?_set, lkN_get d e (x + 1)]
 by_cases h : x = n
 ·subst h
  have hl := (List.getElem?_eq_some_iff.1 hy).1
  rw [if_pos rfl, if_pos hl]
  rw [lkN_get] at hy
  cases hp : ps[x]? with
  | none => rw [hp] at hy; cases hy
  | some z =>
   rw [hp] at hy
   simp only [Option.map_some, Option.some.injEq] at hy ⊢
   subst hy
   simp [hd, show ¬ x < k by omega]
 ·rw [if_neg h, lkN_get, step_cond hk hno (fun e => h e.symm)]
theorem lkR_step {d e : Nat → Bool} {k x : Nat} {ps : List PosB} {y : PosB} (hk : k ≤ x) (hd : d x = true) (hno : ∀ z, k ≤ z → z < x → d z = false) (hy : (lkR d e k ps)[x]? = some y) : (lkR d e k ps).set x ⟨y.tk, y.nx, orB y.pr e⟩ = lkR d e (x + 1) ps := by
 apply List.ext_getElem?
 intro n
 rw [List.getElem?_set, lkR_get d e (x + 1)]
 by_cases h : x = n
 ·subst h
  have hl := (List.getElem?_eq_some_iff.1 hy).1
  rw [if_pos rfl, if_pos hl]
  rw [lkR_get] at hy
  cases hp : ps[x]? with
  | none => rw [hp] at hy; cases hy
  | some z =>
   rw [hp] at hy
   simp only [Option.map_some, Option.some.injEq] at hy ⊢
   subst hy
   simp [hd, show ¬ x < k by omega]
 ·rw [if_neg h, lkR_get, step_cond hk hno (fun e => h e.symm)]
theorem lkN_full {d e : Nat → Bool} {k : Nat} {ps : List PosB} (hp : ps.length ≤ 256) (h : ∀ y, k ≤ y → y < 256 → d y = false) : lkN d e k ps = lkN d e 256 ps := by
 apply List.ext_getElem?
 intro n
 rw [lkN_get, lkN_get]
 cases hn : ps[n]? with
 | none => rfl
 | some x =>
  have hl := (List.getElem?_eq_some_iff.1 hn).1
  by_cases e1 : n < k
  ·simp [e1, show n < 256 by omega]
  ·simp [h n (by omega) (by omega)]
theorem lkR_full {d e : Nat → Bool} {k : Nat} {ps : List PosB} (hp : ps.length ≤ 256) (h : ∀ y, k ≤ y → y < 256 → d y = false) : lkR d e k ps = lkR d e 256 ps := by
 apply List.ext_getElem?
 intro n
 rw [lkR_get, lkR_get]
 cases hn : ps[n]? with
 | none => rfl
 | some x =>
  have hl := (List.getElem?_eq_some_iff.1 hn).1
  by_cases e1 : n < k
  ·simp [e1, show n < 256 by omega]
  ·simp [h n (by omega) (by omega)]
theorem lk_both {a a1 : PaB} {ps : List PosB} (hp : ps.length ≤ 256) : lkR (a1 0).fs (a 0).ls 256 (lkN (a 0).ls (a1 0).fs 256 ps) = linkB a a1 ps := by
 apply List.ext_getElem?
 intro n
 rw [lkR_get, lkN_get, get_link]
 cases hn : ps[n]? with
 | none => rfl
 | some x =>
  have hl := (List.getElem?_eq_some_iff.1 hn).1
  simp [show n < 256 by omega]
abbrev put4at (W : World) (g o : Nat) (q : Nat → Bool) : World := (((W.setCell ⟨g, o, none⟩ (.int .u64 (wd q 0 : Nat))).setCell ⟨g, o + 1, none⟩ (.int .u64 (wd q 1 : Nat))).setCell ⟨g, o + 2, none⟩ (.int .u64 (wd q 2 : Nat))).setCell ⟨g, o + 3, none⟩ (.int .u64 (wd q 3 : Nat))
theorem put4at_far (W : World) (g o : Nat) (q : Nat → Bool) {j : Nat} (h : j ≠ g) : (put4at W g o q).heap[j]? = W.heap[j]? := setCells_far W g h [.int .u64 (wd q 0 : Nat), .int .u64 (wd q 1 : Nat), .int .u64 (wd q 2 : Nat), .int .u64 (wd q 3 : Nat)] o
theorem put4at_size (W : World) (g o : Nat) (q : Nat → Bool) : (put4at W g o q).heap.size = W.heap.size := setCells_size g [.int .u64 (wd q 0 : Nat), .int .u64 (wd q 1 : Nat), .int .u64 (wd q 2 : Nat), .int .u64 (wd q 3 : Nat)] W o
theorem put4at_cell {W : World} {g o : Nat} {q : Nat → Bool} {x : Addr} (h : x.block ≠ g) : (put4at W g o q).cell? x = W.cell? x := World.cell?_of_block (put4at_far W g o q h)
theorem web_put {W : World} {B b g cap : Nat} {ps ps' : List PosB} {cs : List Value} (hw : WebAt W B b ps cs) (cb : W.cell? ⟨b, 0, none⟩ = some (.slice (some ⟨g, 0, none⟩) ps.length cap)) (hgb : g ≠ b) (ho : W.ownsRow B 105 12 (.slice (some ⟨g, 0, none⟩) ps.length cap) ps.length (posV ps)) (o : Nat) (q : Nat → Bool) (hl : ps'.length = ps.length) (hv : set4L (posV ps) o q = posV ps') : WebAt (put4at W g o q) B b ps' cs ∧ WFr B W (put4at W g o q) := by
 obtain ⟨v, hv1, _, _⟩ := hw.row
 have ev : v = .slice (some ⟨g, 0, none⟩) ps.length cap := by
  simp [World.cell?, hv1] at cb
  exact cb
 subst ev
 obtain ⟨hgB, _, cur, hc⟩ := owns_blk ho (g := g) rfl
 refine ⟨⟨hw.base, ⟨_, (put4at_far W g o q hgb.symm).trans hv1, ?_⟩, by rw [hl]; exact hw.len⟩, ⟨?_, ?_⟩⟩
 ·have := owns_set (owns_set (owns_set (owns_set ho o (.int .u64 (wd q 0 : Nat))) (o + 1) (.int .u64 (wd q 1 : Nat))) (o + 2) (.int .u64 (wd q 2 : Nat))) (o + 3) (.int .u64 (wd q 3 : Nat))
  rw [hl, ← hv]
  exact this
 ·exact below_setCells g hgB [.int .u64 (wd q 0 : Nat), .int .u64 (wd q 1 : Nat), .int .u64 (wd q 2 : Nat), .int .u64 (wd q 3 : Nat)] W o (Below.refl _ _)
 ·intro k ob hk hm
  refine (put4at_far W g o q (fun e => ?_)).trans hk
  rw [e, hc] at hk
  cases hk
  cases hm
structure LkW (w : World) (B b P1 P2 : Nat) (d e : Nat → Bool) (cs : List Value) (qs : List PosB) (W : World) : Prop where
 box : Boxed W w.heap.size 52 (.pointer (some ⟨b, 0, none⟩))
 one : Set4 W P1 d
 two : Set4 W P2 e
 web : WebAt W B b qs cs
 fr : WFr B w W
theorem LkW.turn {w W W' : World} {B b P1 P2 n : Nat} {d e : Nat → Bool} {cs : List Value} {qs : List PosB} {row : Option Nat} (h : LkW w B b P1 P2 d e cs qs W) (hB : B ≤ w.heap.size) (hn : w.heap.size ≤ n) (hg : W.grownBy W' row) (hr : ∀ r, row = some r → n ≤ r ∧ ∃ o : Obj, W.heap[r]? = some o ∧ o.isCells = false) : LkW w B b P1 P2 d e cs qs W' :=
 ⟨cells_turn hg hr h.box rfl, cells_turn hg hr h.one rfl, cells_turn hg hr h.two rfl, h.web.keep (fun k o hk ho => cells_turn hg hr hk ho), ⟨h.fr.below.grown hg (Nat.le_trans hB h.fr.below.size) (fun k e => by have := (hr k e).1; omega), fun k o hk hm => by
  have h1 := h.fr.same k o hk hm
  refine (hg.block k (Array.getElem?_eq_some_iff.1 h1).1 (fun e => ?_)).trans h1
  have := (hr k e.symm).1
  have := (Array.getElem?_eq_some_iff.1 hk).1
  omega⟩⟩
theorem LkW.below {w W W' : World} {B b P1 P2 : Nat} {d e : Nat → Bool} {cs : List Value} {qs : List PosB} (h : LkW w B b P1 P2 d e cs qs W) (hB : B ≤ w.heap.size) (hb : Below W.heap.size W W') : LkW w B b P1 P2 d e cs qs W' :=
 ⟨(hb.block _ h.box.lt).trans h.box, h.one.below hb h.one.lt, h.two.below hb h.two.lt, h.web.below hb, h.fr.trans (WFr.of_below hb (Nat.le_trans hB h.fr.below.size))⟩
theorem LkW.put {w W : World} {B b P1 P2 g cap : Nat} {d e : Nat → Bool} {cs : List Value} {qs qs' : List PosB} (h : LkW w B b P1 P2 d e cs qs W) (cb : W.cell? ⟨b, 0, none⟩ = some (.slice (some ⟨g, 0, none⟩) qs.length cap)) (hgb : g ≠ b) (ho : W.ownsRow B 105 12 (.slice (some ⟨g, 0, none⟩) qs.length cap) qs.length (posV qs)) (o : Nat) (q : Nat → Bool) (hl : qs'.length = qs.length) (hv : set4L (posV qs) o q = posV qs') : LkW w B b P1 P2 d e cs qs' (put4at W g o q) := by
 obtain ⟨h1, h2⟩ := web_put h.web cb hgb ho o q hl hv
 exact ⟨h2.same _ _ h.box rfl, h2.same _ _ h.one rfl, h2.same _ _ h.two rfl, h1, h.fr.trans h2⟩
theorem lkW_own {w : World} {B b P1 P2 : Nat} {d e : Nat → Bool} {cs : List Value} {qs : List PosB} (hB : B ≤ w.heap.size) : OwnFrom w.heap.size (fun (_ : Unit) W => LkW w B b P1 P2 d e cs qs W) := fun _ _ _ _ h hg hr => h.turn hB (Nat.le_refl _) hg hr
theorem keep_frozen {W w1 : World} {a : Addr} {v : Value} (hb : Below W.heap.size W w1) (h : W.cell? a = some v) (hf : W.frozen? a = false) : w1.frozen? a = false := (World.frozen?_of_block (hb.block _ (World.block_lt_of_cell? W a h))).trans hf
def LaI (w : World) (B b P1 P2 n : Nat) (d e : Nat → Bool) (cs : List Value) (qs : List PosB) (D : Option Nat) (l : List Nat) (W : World) : Prop :=
 ∃ k, k ≤ 256 ∧ l = mr d k ∧ LkW w B b P1 P2 d e cs (lkN d e k qs) W ∧ n ≤ W.heap.size ∧ ∀ x, D = some x → W.heap[x]? = some (.deferred (some []))
theorem LaI_own (w : World) (B b P1 P2 n : Nat) (d e : Nat → Bool) (cs : List Value) (qs : List PosB) (D : Option Nat) (hB : B ≤ w.heap.size) (hn : w.heap.size ≤ n) (hD : ∀ x, D = some x → x < n) : OwnFrom n (LaI w B b P1 P2 n d e cs qs D) := by
 rintro l W W' row ⟨k, h1, h2, h3, h4, h5⟩ hg hr
 refine ⟨k, h1, h2, h3.turn hB hn hg hr, Nat.le_trans h4 hg.size, fun x hx => ?_⟩
 refine (hg.block x (Nat.lt_of_lt_of_le (hD x hx) h4) (fun e => ?_)).trans (h5 x hx)
 have := (hr x e.symm).1
 have := hD x hx
 omega
theorem La_next {w W W1 : World} {B b P1 P2 n M g cap x k : Nat} {d e : Nat → Bool} {cs : List Value} {qs : List PosB} {D : Option Nat} {y : PosB} {l' : List Nat} (hB : B ≤ w.heap.size) (h : LkW w B b P1 P2 d e cs (lkN d e k qs) W) (hn : n ≤ W.heap.size) (hD : ∀ x, D = some x → W.heap[x]? = some (.deferred (some []))) (hM : M < W.heap.size) (hMs : ∃ p, Set4 W M p) (cb : W.cell? ⟨b, 0, none⟩ = some (.slice (some ⟨g, 0, none⟩) (lkN d e k qs).length cap)) (hgb : g ≠ b) (ho : W.ownsRow B 105 12 (.slice (some ⟨g, 0, none⟩) (lkN d e k qs).length cap) (lkN d e k qs).length (posV (lkN d e k qs))) (hk : k ≤ x) (hx : x + 1 ≤ 256) (hdx : d x = true) (hno : ∀ z, k ≤ z → z < x → d z = false) (hy : (lkN d e k qs)[x]? = some y) (hl : l' = mr d (x + 1)) (hb1 : Below W.heap.size W W1) :
  KeepsFrom n W (put4at W1 g (x * 12 + 4) (orP y.nx e)) ∧ KeepAt M W (put4at W1 g (x * 12 + 4) (orP y.nx e)) ∧ LaI w B b P1 P2 n d e cs qs D l' (put4at W1 g (x * 12 + 4) (orP y.nx e)) := by
 obtain ⟨hgB, hglt, cur, hc⟩ := owns_blk ho (g := g) rfl
 have hs1 := hb1.size
 have hs := put4at_size W1 g (x * 12 + 4) (orP y.nx e)
 have far : ∀ j, j < W.heap.size → j ≠ g → (put4at W1 g (x * 12 + 4) (orP y.nx e)).heap[j]? = W.heap[j]? := fun j h1 h2 => (put4at_far W1 g _ _ h2).trans (hb1.block j h1)
 have h1 := h.below hB hb1
 have cb1 := keep_cell hb1 cb
 have ho1 := owns_below ho hb1
 have hMg : M ≠ g := fun e => by
  obtain ⟨p, hp⟩ := hMs
  rw [← e, show W.heap[M]? = _ from hp] at hc
  cases hc
 have hne : ∀ (k : Nat) (o : Obj), W.heap[k]? = some o → o.isCells = false → k ≠ g := fun k o hk ho e => by
  rw [e, hc] at hk
  cases hk
  cases ho
 refine ⟨⟨by omega, fun k o _ hk ho => (far k (Array.getElem?_eq_some_iff.1 hk).1 (hne k o hk ho)).trans hk⟩, ⟨by omega, far M hM hMg⟩, x + 1, hx, hl, ?_, by omega, fun z hz => ?_⟩
 ·exact h1.put cb1 hgb ho1 _ _ (by rw [lkN_len, lkN_len]) (by rw [posV_next y _ _ x hy, ← lkN_step hk hdx hno hy]; rfl)
 ·exact (far z (Array.getElem?_eq_some_iff.1 (hD z hz)).1 (hne z _ (hD z hz) rfl)).trans (hD z hz)
def LbI (w : World) (B b P1 P2 n : Nat) (d e : Nat → Bool) (cs : List Value) (qs : List PosB) (D : Option Nat) (l : List Nat) (W : World) : Prop :=
 ∃ k, k ≤ 256 ∧ l = mr e k ∧ LkW w B b P1 P2 d e cs (lkR e d k qs) W ∧ n ≤ W.heap.size ∧ ∀ x, D = some x → W.heap[x]? = some (.deferred (some []))
theorem LbI_own (w : World) (B b P1 P2 n : Nat) (d e : Nat → Bool) (cs : List Value) (qs : List PosB) (D : Option Nat) (hB : B ≤ w.heap.size) (hn : w.heap.size ≤ n) (hD : ∀ x, D = some x → x < n) : OwnFrom n (LbI w B b P1 P2 n d e cs qs D) := by
 rintro l W W' row ⟨k, h1, h2, h3, h4, h5⟩ hg hr
 refine ⟨k, h1, h2, h3.turn hB hn hg hr, Nat.le_trans h4 hg.size, fun x hx => ?_⟩
 refine (hg.block x (Nat.lt_of_lt_of_le (hD x hx) h4) (fun e => ?_)).trans (h5 x hx)
 have := (hr x e.symm).1
 have := hD x hx
 omega
theorem Lb_next {w W W1 : World} {B b P1 P2 n M g cap x k : Nat} {d e : Nat → Bool} {cs : List Value} {qs : List PosB} {D : Option Nat} {y : PosB} {l' : List Nat} (hB : B ≤ w.heap.size) (h : LkW w B b P1 P2 d e cs (lkR e d k qs) W) (hn : n ≤ W.heap.size) (hD : ∀ x, D = some x → W.heap[x]? = some (.deferred (some []))) (hM : M < W.heap.size) (hMs : ∃ p, Set4 W M p) (cb : W.cell? ⟨b, 0, none⟩ = some (.slice (some ⟨g, 0, none⟩) (lkR e d k qs).length cap)) (hgb : g ≠ b) (ho : W.ownsRow B 105 12 (.slice (some ⟨g, 0, none⟩) (lkR e d k qs).length cap) (lkR e d k qs).length (posV (lkR e d k qs))) (hk : k ≤ x) (hx : x + 1 ≤ 256) (hdx : e x = true) (hno : ∀ z, k ≤ z → z < x → e z = false) (hy : (lkR e d k qs)[x]? = some y) (hl : l' = mr e (x + 1)) (hb1 : Below W.heap.size W W1) :
  KeepsFrom n W (put4at W1 g (x * 12 + 8) (orP y.pr d)) ∧ KeepAt M W (put4at W1 g (x * 12 + 8) (orP y.pr d)) ∧ LbI w B b P1 P2 n d e cs qs D l' (put4at W1 g (x * 12 + 8) (orP y.pr d)) := by
 obtain ⟨hgB, hglt, cur, hc⟩ := owns_blk ho (g := g) rfl
 have hs1 := hb1.size
 have hs := put4at_size W1 g (x * 12 + 8) (orP y.pr d)
 have far : ∀ j, j < W.heap.size → j ≠ g → (put4at W1 g (x * 12 + 8) (orP y.pr d)).heap[j]? = W.heap[j]? := fun j h1 h2 => (put4at_far W1 g _ _ h2).trans (hb1.block j h1)
 have h1 := h.below hB hb1
 have cb1 := keep_cell hb1 cb
 have ho1 := owns_below ho hb1
 have hMg : M ≠ g := fun e => by
  obtain ⟨p, hp⟩ := hMs
  rw [← e, show W.heap[M]? = _ from hp] at hc
  cases hc
 have hne : ∀ (k : Nat) (o : Obj), W.heap[k]? = some o → o.isCells = false → k ≠ g := fun k o hk ho e => by
  rw [e, hc] at hk
  cases hk
  cases ho
 refine ⟨⟨by omega, fun k o _ hk ho => (far k (Array.getElem?_eq_some_iff.1 hk).1 (hne k o hk ho)).trans hk⟩, ⟨by omega, far M hM hMg⟩, x + 1, hx, hl, ?_, by omega, fun z hz => ?_⟩
 ·exact h1.put cb1 hgb ho1 _ _ (by rw [lkR_len, lkR_len]) (by rw [posV_prior y _ _ x hy, ← lkR_step hk hdx hno hy]; rfl)
 ·exact (far z (Array.getElem?_eq_some_iff.1 (hD z hz)).1 (hne z _ (hD z hz) rfl)).trans (hD z hz)
theorem link_any {B b : Nat} {ps : List PosB} {cs : List Value} (a a1 : PaB) (w : World) (hB : B ≤ w.heap.size) (hw : WebAt w B b ps cs) (h1 : ∀ x, (a 0).ls x = true → x < ps.length) (h2 : ∀ x, (a1 0).fs x = true → x < ps.length) :
  Calls Try.prog 68 #[.pointer (some ⟨b, 0, none⟩), partV a, partV a1] w fun e w' => (∃ v, e = .returned v) ∧ WebAt w' B b (linkB a a1 ps) cs ∧ WFr B w w' := by
 refine (callsIn_wide (n := 5)).1 ?_
 refine callsIn_of_wp_marks Try.func68 rfl trivial ?_ rfl
 simp only [Try.ntmps68, List.size_toArray, List.length_cons, List.length_nil, Nat.reduceAdd, Nat.reduceSub, Array.replicate_succ, Array.replicate_zero, List.push_toArray, List.append_toArray, List.nil_append, List.cons_append]
 unfold partV
 gi_wp2_with fail
 rename_i K1 hK1
 obtain ⟨X, hX⟩ : ∃ X, X = (((w.alloc (.cells #[.pointer (some ⟨b, 0, none⟩)] 52)).alloc (.cells (paV a).toArray 81)).alloc (.cells (paV a1).toArray 81)) := ⟨_, rfl⟩
 rw [← hX]
 have nw := fun (W : World) (ob : Obj) (H : Nat) (hH : W.heap.size = H) => (show (W.alloc ob).heap[H]? = some ob from hH ▸ World.alloc_heap_new W ob)
 have hsX : X.heap.size = w.heap.size + 3 := by rw [hX]; simp only [World.size_alloc]
 have hBX : Below w.heap.size w X := by
  rw [hX]
  exact (((Below.refl _ w).alloc (Nat.le_refl _) _).alloc (by simp only [World.size_alloc]; omega) _).alloc (by simp only [World.size_alloc]; omega) _
 have x0 : Boxed X w.heap.size 52 (.pointer (some ⟨b, 0, none⟩)) := by
  show X.heap[w.heap.size]? = _
  rw [hX, Below.heap_alloc _ _ _ (by simp only [World.size_alloc]; omega), Below.heap_alloc _ _ _ (by simp only [World.size_alloc]; omega)]
  exact World.alloc_heap_new w _
 have x1 : X.heap[w.heap.size + 1]? = some (.cells (paV a).toArray 81 (0, 0)) := by
  rw [hX, Below.heap_alloc _ _ _ (by simp only [World.size_alloc]; omega)]
  exact nw _ _ _ (by simp only [World.size_alloc])
 have x2 : X.heap[w.heap.size + 1 + 1]? = some (.cells (paV a1).toArray 81 (0, 0)) := by
  rw [hX]
  exact nw _ _ _ (by simp only [World.size_alloc])
 clear hX nw
 have p0 : X.cell? ⟨w.heap.size + 1, 5, none⟩ = some (.int .u64 (wd (a 0).ls 0 : Nat)) := by simp [World.cell?, x1, paV, bdV]
 have p1 : X.cell? ⟨w.heap.size + 1, 6, none⟩ = some (.int .u64 (wd (a 0).ls 1 : Nat)) := by simp [World.cell?, x1, paV, bdV]
 have p2 : X.cell? ⟨w.heap.size + 1, 7, none⟩ = some (.int .u64 (wd (a 0).ls 2 : Nat)) := by simp [World.cell?, x1, paV, bdV]
 have p3 : X.cell? ⟨w.heap.size + 1, 8, none⟩ = some (.int .u64 (wd (a 0).ls 3 : Nat)) := by simp [World.cell?, x1, paV, bdV]
 have q0 : X.cell? ⟨w.heap.size + 1 + 1, 1, none⟩ = some (.int .u64 (wd (a1 0).fs 0 : Nat)) := by simp [World.cell?, x2, paV, bdV]
 have q1 : X.cell? ⟨w.heap.size + 1 + 1, 2, none⟩ = some (.int .u64 (wd (a1 0).fs 1 : Nat)) := by simp [World.cell?, x2, paV, bdV]
 have q2 : X.cell? ⟨w.heap.size + 1 + 1, 3, none⟩ = some (.int .u64 (wd (a1 0).fs 2 : Nat)) := by simp [World.cell?, x2, paV, bdV]
 have q3 : X.cell? ⟨w.heap.size + 1 + 1, 4, none⟩ = some (.int .u64 (wd (a1 0).fs 3 : Nat)) := by simp [World.cell?, x2, paV, bdV]
 have key : ∀ (P1 P2 : Nat) (Y : World), Below X.heap.size X Y → Set4 Y P1 (a 0).ls → Set4 Y P2 (a1 0).fs → K1 { tmps := #[.pointer (some ⟨b, 0, none⟩), .agg (paV a).toArray, .agg (paV a1).toArray, .pointer (some ⟨w.heap.size, 0, none⟩), .pointer (some ⟨w.heap.size + 1, 0, none⟩), .pointer (some ⟨w.heap.size + 1 + 1, 0, none⟩), .pointer (some ⟨P1, 0, none⟩), .pointer (some ⟨P2, 0, none⟩), undef, undef, .pointer (some ⟨w.heap.size + 1, 0, none⟩), .pointer (some ⟨w.heap.size + 1, 5, none⟩), .agg #[.int .u64 (wd (a 0).ls 0 : Nat), .int .u64 (wd (a 0).ls 1 : Nat), .int .u64 (wd (a 0).ls 2 : Nat), .int .u64 (wd (a 0).ls 3 : Nat)], .pointer (some ⟨w.heap.size + 1 + 1, 0, none⟩), .pointer (some ⟨w.heap.size + 1 + 1, 1, none⟩), .agg #[.int .u64 (wd (a1 0).fs 0 : Nat), .int .u64 (wd (a1 0).fs 1 : Nat), .int .u64 (wd (a1 0).fs 2 : Nat), .int .u64 (wd (a1 0).fs 3 : Nat)], undef, undef, undef, undef, undef, undef, undef, undef, undef, undef, undef, undef, undef, undef, undef, undef, undef, undef, undef, undef, undef, undef, undef, undef, undef, undef, undef, undef, undef, undef, undef, undef, undef, undef, undef, undef, undef, undef, undef, undef, undef, undef, undef, undef, undef, undef, undef, undef], defers := [] } Y := by
  intro P1 P2 Y hY hp1 hp2
  refine hK1 _ _ ?_
  have hBY : Below w.heap.size w Y := hBX.trans (hY.mono (by omega))
  have hL0 : LkW w B b P1 P2 (a 0).ls (a1 0).fs cs ps Y := ⟨(hY.block _ (by omega)).trans x0, hp1, hp2, hw.below hBY, WFr.of_below hBY hB⟩
  have hsY := hY.size
  have hqA : ∀ (q : Nat → Bool) (W : World), (binOp .eql 45 (.agg #[.int .u64 (wd q 0 : Nat), .int .u64 (wd q 1 : Nat), .int .u64 (wd q 2 : Nat), .int .u64 (wd q 3 : Nat)]) (.agg #[.int .u64 0, .int .u64 0, .int .u64 0, .int .u64 0])).run Try.prog W = .ok (.bool (eqB q noneP)) W := fun q W => by
   have := run_eql_set q noneP W
   rw [show ∀ i, wd noneP i = 0 from fun i => wd_none i] at this
   exact this
  have hnone : ∀ q : Nat → Bool, eqB q noneP = true → (∀ x, q x = true → x < ps.length) → ∀ x, q x = false := fun q h1 h2 x => by
   cases h3 : q x with
   | false => rfl
   | true =>
    have := h2 x h3
    have h4 := (eqB_iff q noneP).1 h1 x (by have := hw.len; omega)
    rw [h3] at h4
    cases h4
  have hq1 := hqA (a 0).ls
  have hq2 := hqA (a1 0).fs
  obtain ⟨⟨c0, c1, c2, c3⟩, -⟩ := hp1.holds
  obtain ⟨⟨d0, d1, d2, d3⟩, -⟩ := hp2.holds
  have HN := hideT hnone
  have HL0 := hideT hL0
  have HS2 := hideT (And.intro hp1 hp2)
  clear hqA hnone hL0 x0 x1 x2 p0 p1 p2 p3 q0 q1 q2 q3 hp1 hp2 hK1
  cases e1 : eqB (a 0).ls noneP with
  | true =>
   rw [e1] at hq1
   gi_wp2
   exact ⟨_, results_none rfl _ _ _, ⟨_, rfl⟩, by rw [link_none ps (.inl (HN.out _ e1 h1))]; exact HL0.out.web, HL0.out.fr⟩
  | false =>
  rw [e1] at hq1
  cases e2 : eqB (a1 0).fs noneP with
  | true =>
   rw [e2] at hq2
   gi_wp2
   exact ⟨_, results_none rfl _ _ _, ⟨_, rfl⟩, by rw [link_none ps (.inr (HN.out _ e2 h2))]; exact HL0.out.web, HL0.out.fr⟩
  | false =>
  rw [e2] at hq2
  gi_wp2_with (refine ⟨trivial, ?_⟩; gi_at_call 45; refine (members_in _ _ _).mono ?_; rintro e w' ⟨rfl, rfl⟩)
  clear hq1 hq2 c0 c1 c2 c3 d0 d1 d2 d3
  have hb0 := (Below.refl Y.heap.size Y).alloc (Nat.le_refl _) (.cells #[.int .u64 (wd (a 0).ls 0 : Nat), .int .u64 (wd (a 0).ls 1 : Nat), .int .u64 (wd (a 0).ls 2 : Nat), .int .u64 (wd (a 0).ls 3 : Nat)] 45)
  have bS : Set4 (Y.alloc (.cells #[.int .u64 (wd (a 0).ls 0 : Nat), .int .u64 (wd (a 0).ls 1 : Nat), .int .u64 (wd (a 0).ls 2 : Nat), .int .u64 (wd (a 0).ls 3 : Nat)] 45)) Y.heap.size (a 0).ls := Set4.new Y (a 0).ls
  have hL1 := HL0.out.below hB hb0
  have hsz0 : (Y.alloc (.cells #[.int .u64 (wd (a 0).ls 0 : Nat), .int .u64 (wd (a 0).ls 1 : Nat), .int .u64 (wd (a 0).ls 2 : Nat), .int .u64 (wd (a 0).ls 3 : Nat)] 45)).heap.size = Y.heap.size + 1 := by simp
  obtain ⟨M, hMd⟩ : ∃ M, M = Y.heap.size := ⟨_, rfl⟩
  rw [← hMd] at bS hsz0 ⊢
  have hYM : Y.heap.size = M := hMd.symm
  have HYM := hideT hYM
  generalize Y.alloc (.cells #[.int .u64 (wd (a 0).ls 0 : Nat), .int .u64 (wd (a 0).ls 1 : Nat), .int .u64 (wd (a 0).ls 2 : Nat), .int .u64 (wd (a 0).ls 3 : Nat)] 45) = W0 at *
  have hMW0 : M < W0.heap.size := by omega
  have hwM : w.heap.size + 3 ≤ M := by omega
  clear hMd hYM
  have hI0 : LaI w B b P1 P2 W0.heap.size (a 0).ls (a1 0).fs cs ps none (mr (a 0).ls 0) W0 := ⟨0, by omega, rfl, by rw [lkN_zero]; exact hL1, Nat.le_refl _, fun x h => by cases h⟩
  refine range_feed (by omega) (gf := 60) (lb := #[.pointer (some ⟨M, 0, none⟩)]) rfl (enters_of Try.func60 (by kernel_rfl) rfl)
   (members_feed 4 (by omega) (a 0).ls _ W0 bS) (fun _ => rfl) keepAt_t (keepAt_put hMW0) (fun l W => LaI w B b P1 P2 W0.heap.size (a 0).ls (a1 0).fs cs ps none l W ∧ Set4 W M (a 0).ls) (fun _ _ => False) (fun s W W' row h hg hr => ⟨LaI_own _ _ _ _ _ _ _ _ _ _ _ hB (by omega) (fun x h => by cases h) s W W' row h.1 hg hr, cells_turn hg hr h.2 rfl⟩) (fun s W W' row h hg hr => h) ⟨hI0, bS⟩ (fun l a' _ => a' = { tmps := #[.pointer (some ⟨b, 0, none⟩), .agg (paV a).toArray, .agg (paV a1).toArray, .pointer (some ⟨w.heap.size, 0, none⟩), .pointer (some ⟨w.heap.size + 1, 0, none⟩), .pointer (some ⟨w.heap.size + 1 + 1, 0, none⟩), .pointer (some ⟨P1, 0, none⟩), .pointer (some ⟨P2, 0, none⟩), .int .u8 (l.headD 0 : Nat), undef, .pointer (some ⟨w.heap.size + 1, 0, none⟩), .pointer (some ⟨w.heap.size + 1, 5, none⟩), .agg #[.int .u64 (wd (a 0).ls 0 : Nat), .int .u64 (wd (a 0).ls 1 : Nat), .int .u64 (wd (a 0).ls 2 : Nat), .int .u64 (wd (a 0).ls 3 : Nat)], .pointer (some ⟨w.heap.size + 1 + 1, 0, none⟩), .pointer (some ⟨w.heap.size + 1 + 1, 1, none⟩), .agg #[.int .u64 (wd (a1 0).fs 0 : Nat), .int .u64 (wd (a1 0).fs 1 : Nat), .int .u64 (wd (a1 0).fs 2 : Nat), .int .u64 (wd (a1 0).fs 3 : Nat)], .agg #[.int .u64 (wd (a 0).ls 0 : Nat), .int .u64 (wd (a 0).ls 1 : Nat), .int .u64 (wd (a 0).ls 2 : Nat), .int .u64 (wd (a 0).ls 3 : Nat)], .agg #[.int .u64 0, .int .u64 0, .int .u64 0, .int .u64 0], .bool false, .bool false, .agg #[.int .u64 (wd (a1 0).fs 0 : Nat), .int .u64 (wd (a1 0).fs 1 : Nat), .int .u64 (wd (a1 0).fs 2 : Nat), .int .u64 (wd (a1 0).fs 3 : Nat)], .agg #[.int .u64 0, .int .u64 0, .int .u64 0, .int .u64 0], .bool false, .bool false, .agg #[.int .u64 (wd (a 0).ls 0 : Nat), .int .u64 (wd (a 0).ls 1 : Nat), .int .u64 (wd (a 0).ls 2 : Nat), .int .u64 (wd (a 0).ls 3 : Nat)], .func (.func 60) #[] #[.pointer (some ⟨M, 0, none⟩)], .int .u8 (l.headD 0 : Nat), undef, undef, undef, undef, undef, undef, undef, undef, undef, undef, undef, undef, undef, undef, undef, undef, undef, undef, undef, undef, undef, undef, undef, undef, undef, undef, undef, undef, undef, undef, undef, undef, undef, undef, undef, undef, undef], defers := [] }) (fun s a' x W W' row h hg hr => h) ?assign ?body ?done ?stop
  case assign =>
   intro lo l W K hgo hI hK
   obtain ⟨x, l', rfl⟩ : ∃ x l', l = x :: l' := List.exists_cons_of_ne_nil hgo
   simp only [List.headD_cons] at hK ⊢
   gi_wp2
   exact hK _ _ (KeepsFrom.refl _ _) (KeepAt.refl _ _) hI rfl
  case body =>
   rintro lo l a' W hgo hI rfl
   obtain ⟨x, l', rfl⟩ : ∃ x l', l = x :: l' := List.exists_cons_of_ne_nil hgo
   simp only [List.headD_cons, List.tail_cons]
   obtain ⟨⟨k, hk, hl, hL, hn, hDf⟩, hMS⟩ := hI
   obtain ⟨hkx, hx, htx, hl', hno⟩ := mr_head _ k rfl hk hl.symm
   have hxp : x < (lkN (a 0).ls (a1 0).fs k ps).length := by rw [lkN_len]; exact h1 x htx
   obtain ⟨g, cap, hgB, hgb, hglt, cb, ho⟩ := hL.web.at hxp
   obtain ⟨y, hy⟩ : ∃ y, (lkN (a 0).ls (a1 0).fs k ps)[x]? = some y := ⟨_, List.getElem?_eq_getElem hxp⟩
   have n0 := (owns_cell ho (x * 12 + 4) _ ((posV_get y 4 (by omega) _ x hy).trans rfl))
   have n1 := (owns_cell ho (x * 12 + 5) _ ((posV_get y 5 (by omega) _ x hy).trans rfl))
   have n2 := (owns_cell ho (x * 12 + 6) _ ((posV_get y 6 (by omega) _ x hy).trans rfl))
   have n3 := (owns_cell ho (x * 12 + 7) _ ((posV_get y 7 (by omega) _ x hy).trans rfl))
   have hM : M < W.heap.size := Nat.lt_of_lt_of_le hMW0 hn
   have HF := hideT (fun (W1 : World) (hMs : ∃ p, Set4 W M p) (hb1 : Below W.heap.size W W1) => La_next hB hL hn hDf hM hMs cb hgb ho hkx (by omega) htx hno hy hl' hb1)
   have ng : P2 ≠ g := fun e => by
    obtain ⟨_, _, cur, hc⟩ := owns_blk ho (g := g) rfl
    rw [← e, show W.heap[_]? = _ from hL.two] at hc
    cases hc
   have nH : w.heap.size ≠ g := fun e => by
    obtain ⟨_, _, cur, hc⟩ := owns_blk ho (g := g) rfl
    rw [← e, show W.heap[_]? = _ from hL.box] at hc
    cases hc
   have HOr := hideT (fun V => orD y.nx (a1 0).fs V)
   obtain ⟨⟨c0, c1, c2, c3⟩, -⟩ := hL.two.holds
   have cw := hL.box.cell
   generalize (lkN (a 0).ls (a1 0).fs k ps) = qs at *
   have hS0 : (fun V : World => V.cell? ⟨w.heap.size, 0, none⟩ = some (.pointer (some ⟨b, 0, none⟩)) ∧ V.cell? ⟨b, 0, none⟩ = some (.slice (some ⟨g, 0, none⟩) qs.length cap) ∧ V.cell? ⟨P2, 0, none⟩ = some (.int .u64 (wd (a1 0).fs 0 : Nat)) ∧ V.cell? ⟨P2, 1, none⟩ = some (.int .u64 (wd (a1 0).fs 1 : Nat)) ∧ V.cell? ⟨P2, 2, none⟩ = some (.int .u64 (wd (a1 0).fs 2 : Nat)) ∧ V.cell? ⟨P2, 3, none⟩ = some (.int .u64 (wd (a1 0).fs 3 : Nat))) W.drew := ⟨cw, cb, c0, c1, c2, c3⟩
   have e0 : W.drew.cell? ⟨g, x * 12 + 4, none⟩ = some (.int .u64 (wd y.nx 0 : Nat)) := n0.1
   have e1 : W.drew.cell? ⟨g, x * 12 + 4 + 1, none⟩ = some (.int .u64 (wd y.nx 1 : Nat)) := n1.1
   have e2 : W.drew.cell? ⟨g, x * 12 + 4 + 2, none⟩ = some (.int .u64 (wd y.nx 2 : Nat)) := n2.1
   have e3 : W.drew.cell? ⟨g, x * 12 + 4 + 3, none⟩ = some (.int .u64 (wd y.nx 3 : Nat)) := n3.1
   have HE := hideT (And.intro n0.1 (And.intro n1.1 (And.intro n2.1 n3.1)))
   have f0 : W.frozen? ⟨g, x * 12 + 4, none⟩ = false := n0.2
   have f1 : W.frozen? ⟨g, x * 12 + 4 + 1, none⟩ = false := n1.2
   have f2 : W.frozen? ⟨g, x * 12 + 4 + 2, none⟩ = false := n2.2
   have f3 : W.frozen? ⟨g, x * 12 + 4 + 3, none⟩ = false := n3.2
   have HW := hideT (And.intro f0 (And.intro f1 (And.intro f2 f3)))
   have HMS := hideT hMS
   clear n0 n1 n2 n3 f0 f1 f2 f3 cw cb c0 c1 c2 c3 ho hno hL hMS hDf hy
   have i1 : (x : Int) < (qs.length : Int) := by omega
   have i2 : (0 : Int) ≤ (x : Int) := by omega
   gi_wp2_with fail
   refine heldIn (fun V : World => V.cell? ⟨w.heap.size, 0, none⟩ = some (.pointer (some ⟨b, 0, none⟩)) ∧ V.cell? ⟨b, 0, none⟩ = some (.slice (some ⟨g, 0, none⟩) qs.length cap) ∧ V.cell? ⟨P2, 0, none⟩ = some (.int .u64 (wd (a1 0).fs 0 : Nat)) ∧ V.cell? ⟨P2, 1, none⟩ = some (.int .u64 (wd (a1 0).fs 1 : Nat)) ∧ V.cell? ⟨P2, 2, none⟩ = some (.int .u64 (wd (a1 0).fs 2 : Nat)) ∧ V.cell? ⟨P2, 3, none⟩ = some (.int .u64 (wd (a1 0).fs 3 : Nat))) (by kernel_rfl) (by kernel_rfl) (fun ⟨_, _, h⟩ => h) ?_
   refine' take_d 0 (some 27) rfl rfl (by kernel_rfl) (by kernel_rfl) (by kernel_rfl) (fun _ _ _ h => h) (by rfl) hS0 ?hy7 ?rest7
   case hy7 => intro V hV; go_simp; (try with_reducible rfl)
   refine' take_d 1 (some 28) rfl rfl (by kernel_rfl) (by kernel_rfl) (by kernel_rfl) (fun _ _ _ h => h) (by rfl) hS0 ?hy8 ?rest8
   case hy8 => intro V hV; go_simp; (try with_reducible rfl)
   refine' take_d 2 (some 29) rfl rfl (by kernel_rfl) (by kernel_rfl) (by kernel_rfl) (fun _ _ _ h => h) (by rfl) hS0 ?hy9 ?rest9
   case hy9 => intro V hV; go_simp; (try with_reducible rfl)
   refine' take_d 3 (some 30) rfl rfl (by kernel_rfl) (by kernel_rfl) (by kernel_rfl) (fun _ _ _ h => h) (by rfl) hS0 ?hy10 ?rest10
   case hy10 => intro V hV; go_simp; (try with_reducible rfl)
   refine' take_d 4 (some 31) rfl rfl (by kernel_rfl) (by kernel_rfl) (by kernel_rfl) (fun _ _ _ h => h) (by rfl) hS0 ?hy11 ?rest11
   case hy11 => intro V hV; go_simp; (try with_reducible rfl)
   refine' take_d 5 (some 32) rfl rfl (by kernel_rfl) (by kernel_rfl) (by kernel_rfl) (fun _ _ _ h => h) (by rfl) hS0 ?hy12 ?rest12
   case hy12 => intro V hV; go_simp; (try with_reducible rfl)
   refine' take_d 6 (some 33) rfl rfl (by kernel_rfl) (by kernel_rfl) (by kernel_rfl) (fun _ _ _ h => h) (by rfl) hS0 ?hy13 ?rest13
   case hy13 => intro V hV; go_simp; (try with_reducible rfl)
   refine' take_d 7 (some 34) rfl rfl (by kernel_rfl) (by kernel_rfl) (by kernel_rfl) (fun _ _ _ h => h) (by rfl) hS0 ?hy14 ?rest14
   case hy14 => intro V hV; go_simp; (try with_reducible rfl)
   refine' take_d 8 (some 35) rfl rfl (by kernel_rfl) (by kernel_rfl) (by kernel_rfl) (fun _ _ _ h => h) (by rfl) hS0 ?hy15 ?rest15
   case hy15 => intro V hV; go_simp; (try with_reducible rfl)
   refine' take_d 9 (some 36) rfl rfl (by kernel_rfl) (by kernel_rfl) (by kernel_rfl) (fun _ _ _ h => h) (by rfl) hS0 ?hy16 ?rest16
   case hy16 => intro V hV; go_simp; (try with_reducible rfl)
   refine' take_d 10 (some 37) rfl rfl (by kernel_rfl) (by kernel_rfl) (by kernel_rfl) (fun _ _ _ h => h) (by rfl) hS0 ?hy17 ?rest17
   case hy17 => intro V hV; go_simp; (try with_reducible rfl)
   refine' take_d 11 (some 38) rfl rfl (by kernel_rfl) (by kernel_rfl) (by kernel_rfl) (fun _ _ _ h => h) (by rfl) hS0 ?hy18 ?rest18
   case hy18 => intro V hV; go_simp; (try with_reducible rfl)
   refine' take_d 13 (some 40) rfl rfl (by kernel_rfl) (by kernel_rfl) (by kernel_rfl) (fun _ _ _ h => h) (by rfl) hS0 ?hy19 ?rest19
   case hy19 => intro V hV; go_simp; (try with_reducible rfl)
   refine wpAnyH_all (rs := [12]) (by kernel_rfl) (by simp) (fun i hi => ?_)
   obtain rfl : i = 12 := List.mem_singleton.1 hi
   refine op_value (some 39) rfl rfl (by rfl) (v := .agg #[.int .u64 (wd y.nx 0 : Nat), .int .u64 (wd y.nx 1 : Nat), .int .u64 (wd y.nx 2 : Nat), .int .u64 (wd y.nx 3 : Nat)]) (by go_simp; (try with_reducible rfl)) ⟨hS0, ?_⟩
   clear e0 e1 e2 e3
   refine wpAnyH_all (rs := [14]) (by kernel_rfl) (by simp) (fun i hi => ?_)
   obtain rfl : i = 14 := List.mem_singleton.1 hi
   refine op_call (R := fun v w1 => v = .agg #[.int .u64 (wd (orP y.nx (a1 0).fs) 0 : Nat), .int .u64 (wd (orP y.nx (a1 0).fs) 1 : Nat), .int .u64 (wd (orP y.nx (a1 0).fs) 2 : Nat), .int .u64 (wd (orP y.nx (a1 0).fs) 3 : Nat)] ∧ Below W.heap.size W w1) (f := 33) (some 41) rfl rfl (by rfl) (by go_simp; (try with_reducible rfl)) ((HOr.out _).mono ?_) ?_
   ·rintro e w1 ⟨rfl, hb0⟩
    exact ⟨_, rfl, rfl, ((Below.refl W.heap.size W).drew).trans hb0⟩
   rintro v w1 ⟨rfl, hb1⟩
   obtain ⟨s0, s1, s2, s3, s4, s5⟩ := hS0
   have hS1 : (fun V : World => V.cell? ⟨w.heap.size, 0, none⟩ = some (.pointer (some ⟨b, 0, none⟩)) ∧ V.cell? ⟨b, 0, none⟩ = some (.slice (some ⟨g, 0, none⟩) qs.length cap) ∧ V.cell? ⟨P2, 0, none⟩ = some (.int .u64 (wd (a1 0).fs 0 : Nat)) ∧ V.cell? ⟨P2, 1, none⟩ = some (.int .u64 (wd (a1 0).fs 1 : Nat)) ∧ V.cell? ⟨P2, 2, none⟩ = some (.int .u64 (wd (a1 0).fs 2 : Nat)) ∧ V.cell? ⟨P2, 3, none⟩ = some (.int .u64 (wd (a1 0).fs 3 : Nat))) w1 := ⟨keep_cell hb1 s0, keep_cell hb1 s1, keep_cell hb1 s2, keep_cell hb1 s3, keep_cell hb1 s4, keep_cell hb1 s5⟩
   clear s0 s1 s2 s3 s4 s5
   refine ⟨hS1, ?_⟩
   refine' take_d 15 (some 42) rfl rfl (by kernel_rfl) (by kernel_rfl) (by kernel_rfl) (fun _ _ _ h => h) (by rfl) hS1 ?hy20 ?rest20
   case hy20 => intro V hV; go_simp; (try with_reducible rfl)
   refine' take_d 16 (some 43) rfl rfl (by kernel_rfl) (by kernel_rfl) (by kernel_rfl) (fun _ _ _ h => h) (by rfl) hS1 ?hy21 ?rest21
   case hy21 => intro V hV; go_simp; (try with_reducible rfl)
   refine wpAnyH_all (rs := [17]) (by kernel_rfl) (by simp) (fun i hi => ?_)
   obtain rfl : i = 17 := List.mem_singleton.1 hi
   have d0 := keep_cell hb1 (HE.out.1)
   have d1 := keep_cell hb1 (HE.out.2.1)
   have d2 := keep_cell hb1 (HE.out.2.2.1)
   have d3 := keep_cell hb1 (HE.out.2.2.2)
   have g0 := keep_frozen hb1 (HE.out.1) (HW.out.1)
   have g1 := keep_frozen hb1 (HE.out.2.1) (HW.out.2.1)
   have g2 := keep_frozen hb1 (HE.out.2.2.1) (HW.out.2.2.1)
   have g3 := keep_frozen hb1 (HE.out.2.2.2) (HW.out.2.2.2)
   refine op_skip rfl rfl (by rfl) (w' := put4at w1 g (x * 12 + 4) (orP y.nx (a1 0).fs)) (by go_simp; (try with_reducible rfl)) ⟨⟨?_, ?_, ?_, ?_, ?_, ?_⟩, ?_⟩
   ·exact (put4at_cell nH).trans hS1.1
   ·exact (put4at_cell hgb.symm).trans hS1.2.1
   ·exact (put4at_cell ng).trans hS1.2.2.1
   ·exact (put4at_cell ng).trans hS1.2.2.2.1
   ·exact (put4at_cell ng).trans hS1.2.2.2.2.1
   ·exact (put4at_cell ng).trans hS1.2.2.2.2.2
   have HH := HF.out w1 ⟨_, HMS.out⟩ hb1
   exact wpAnyH_done (by kernel_rfl) ⟨HH.1, HH.2.1, HH.2.2, HMS.out.keep HH.2.1⟩ _
  case done =>
   rintro D l W hD hng ⟨⟨k, hk, hl, hL, hn, -⟩, -⟩ hK
   have hl0 : mr (a 0).ls k = [] := by
    rw [← hl]
    exact Classical.byContradiction hng
   rw [lkN_full hw.len (mr_nil _ k rfl hk hl0)] at hL
   obtain ⟨⟨d0, d1, d2, d3⟩, -⟩ := hL.two.holds
   have HL := hideT (And.intro hL (And.intro hK hD))
   clear hl hl0 hng hI0 bS hL hL1 hb0
   gi_wp2_with (refine ⟨trivial, ?_⟩; gi_at_call 45; refine (members_in _ _ _).mono ?_; rintro e w' ⟨rfl, rfl⟩)
   clear d0 d1 d2 d3
   have hb0 := (Below.refl W.heap.size W).alloc (Nat.le_refl _) (.cells #[.int .u64 (wd (a1 0).fs 0 : Nat), .int .u64 (wd (a1 0).fs 1 : Nat), .int .u64 (wd (a1 0).fs 2 : Nat), .int .u64 (wd (a1 0).fs 3 : Nat)] 45)
   have bS : Set4 (W.alloc (.cells #[.int .u64 (wd (a1 0).fs 0 : Nat), .int .u64 (wd (a1 0).fs 1 : Nat), .int .u64 (wd (a1 0).fs 2 : Nat), .int .u64 (wd (a1 0).fs 3 : Nat)] 45)) W.heap.size (a1 0).fs := Set4.new W (a1 0).fs
   have hL1 := HL.out.1.below hB hb0
   have hKD : (W.alloc (.cells #[.int .u64 (wd (a1 0).fs 0 : Nat), .int .u64 (wd (a1 0).fs 1 : Nat), .int .u64 (wd (a1 0).fs 2 : Nat), .int .u64 (wd (a1 0).fs 3 : Nat)] 45)).heap[D]? = some (.deferred (some [])) := (hb0.block D (Array.getElem?_eq_some_iff.1 HL.out.2.1).1).trans HL.out.2.1
   have hDW : D < W.heap.size := (Array.getElem?_eq_some_iff.1 HL.out.2.1).1
   have hsz1 : (W.alloc (.cells #[.int .u64 (wd (a1 0).fs 0 : Nat), .int .u64 (wd (a1 0).fs 1 : Nat), .int .u64 (wd (a1 0).fs 2 : Nat), .int .u64 (wd (a1 0).fs 3 : Nat)] 45)).heap.size = W.heap.size + 1 := by simp
   obtain ⟨M2, hMd⟩ : ∃ M2, M2 = W.heap.size := ⟨_, rfl⟩
   rw [← hMd] at bS hsz1 ⊢
   generalize W.alloc (.cells #[.int .u64 (wd (a1 0).fs 0 : Nat), .int .u64 (wd (a1 0).fs 1 : Nat), .int .u64 (wd (a1 0).fs 2 : Nat), .int .u64 (wd (a1 0).fs 3 : Nat)] 45) = W1 at *
   have hMW1 : M2 < W1.heap.size := by omega
   have hD1 : D < W1.heap.size := by omega
   have hwM2 : w.heap.size + 3 ≤ M2 := by omega
   have hDw : w.heap.size ≤ D := by omega
   clear hMd HL hDW
   have hI0 : LbI w B b P1 P2 W1.heap.size (a 0).ls (a1 0).fs cs (lkN (a 0).ls (a1 0).fs 256 ps) (some D) (mr (a1 0).fs 0) W1 := ⟨0, by omega, rfl, by rw [lkR_zero]; exact hL1, Nat.le_refl _, fun x h => by cases h; exact hKD⟩
   refine range_feed (by omega) (gf := 60) (lb := #[.pointer (some ⟨M2, 0, none⟩)]) rfl (enters_of Try.func60 (by kernel_rfl) rfl)
    (members_feed 4 (by omega) (a1 0).fs _ W1 bS) (fun _ => rfl) keepAt_t (keepAt_put hMW1) (fun l W => LbI w B b P1 P2 W1.heap.size (a 0).ls (a1 0).fs cs (lkN (a 0).ls (a1 0).fs 256 ps) (some D) l W ∧ Set4 W M2 (a1 0).fs) (fun _ _ => False) (fun s W W' row h hg hr => ⟨LbI_own _ _ _ _ _ _ _ _ _ _ _ hB (by omega) (fun x h => by cases h; exact hD1) s W W' row h.1 hg hr, cells_turn hg hr h.2 rfl⟩) (fun s W W' row h hg hr => h) ⟨hI0, bS⟩ (fun l a' _ => a' = { tmps := #[.pointer (some ⟨b, 0, none⟩), .agg (paV a).toArray, .agg (paV a1).toArray, .pointer (some ⟨w.heap.size, 0, none⟩), .pointer (some ⟨w.heap.size + 1, 0, none⟩), .pointer (some ⟨w.heap.size + 1 + 1, 0, none⟩), .pointer (some ⟨P1, 0, none⟩), .pointer (some ⟨P2, 0, none⟩), undef, .int .u8 (l.headD 0 : Nat), .pointer (some ⟨w.heap.size + 1, 0, none⟩), .pointer (some ⟨w.heap.size + 1, 5, none⟩), .agg #[.int .u64 (wd (a 0).ls 0 : Nat), .int .u64 (wd (a 0).ls 1 : Nat), .int .u64 (wd (a 0).ls 2 : Nat), .int .u64 (wd (a 0).ls 3 : Nat)], .pointer (some ⟨w.heap.size + 1 + 1, 0, none⟩), .pointer (some ⟨w.heap.size + 1 + 1, 1, none⟩), .agg #[.int .u64 (wd (a1 0).fs 0 : Nat), .int .u64 (wd (a1 0).fs 1 : Nat), .int .u64 (wd (a1 0).fs 2 : Nat), .int .u64 (wd (a1 0).fs 3 : Nat)], .agg #[.int .u64 (wd (a 0).ls 0 : Nat), .int .u64 (wd (a 0).ls 1 : Nat), .int .u64 (wd (a 0).ls 2 : Nat), .int .u64 (wd (a 0).ls 3 : Nat)], .agg #[.int .u64 0, .int .u64 0, .int .u64 0, .int .u64 0], .bool false, .bool false, .agg #[.int .u64 (wd (a1 0).fs 0 : Nat), .int .u64 (wd (a1 0).fs 1 : Nat), .int .u64 (wd (a1 0).fs 2 : Nat), .int .u64 (wd (a1 0).fs 3 : Nat)], .agg #[.int .u64 0, .int .u64 0, .int .u64 0, .int .u64 0], .bool false, .bool false, .agg #[.int .u64 (wd (a 0).ls 0 : Nat), .int .u64 (wd (a 0).ls 1 : Nat), .int .u64 (wd (a 0).ls 2 : Nat), .int .u64 (wd (a 0).ls 3 : Nat)], .func (.func 60) #[] #[.pointer (some ⟨M, 0, none⟩)], undef, undef, undef, undef, undef, undef, undef, undef, undef, undef, undef, undef, undef, undef, undef, undef, undef, undef, .agg #[.int .u64 (wd (a1 0).fs 0 : Nat), .int .u64 (wd (a1 0).fs 1 : Nat), .int .u64 (wd (a1 0).fs 2 : Nat), .int .u64 (wd (a1 0).fs 3 : Nat)], .func (.func 60) #[] #[.pointer (some ⟨M2, 0, none⟩)], .int .u8 (l.headD 0 : Nat), undef, undef, undef, undef, undef, undef, undef, undef, undef, undef, undef, undef, undef, undef, undef, undef, undef], defers := [] }) (fun s a' x W W' row h hg hr => h) ?assign2 ?body2 ?done2 ?stop2
   case assign2 =>
    intro lo l W K hgo hI hK
    obtain ⟨x, l', rfl⟩ : ∃ x l', l = x :: l' := List.exists_cons_of_ne_nil hgo
    simp only [List.headD_cons] at hK ⊢
    gi_wp2
    exact hK _ _ (KeepsFrom.refl _ _) (KeepAt.refl _ _) hI rfl
   case body2 =>
    rintro lo l a' W hgo hI rfl
    obtain ⟨x, l', rfl⟩ : ∃ x l', l = x :: l' := List.exists_cons_of_ne_nil hgo
    simp only [List.headD_cons, List.tail_cons]
    obtain ⟨⟨k, hk, hl, hL, hn, hDf⟩, hMS⟩ := hI
    obtain ⟨hkx, hx, htx, hl', hno⟩ := mr_head _ k rfl hk hl.symm
    have hxp : x < (lkR (a1 0).fs (a 0).ls k (lkN (a 0).ls (a1 0).fs 256 ps)).length := by rw [lkR_len]; exact (by rw [lkN_len]; exact h2 x htx)
    obtain ⟨g, cap, hgB, hgb, hglt, cb, ho⟩ := hL.web.at hxp
    obtain ⟨y, hy⟩ : ∃ y, (lkR (a1 0).fs (a 0).ls k (lkN (a 0).ls (a1 0).fs 256 ps))[x]? = some y := ⟨_, List.getElem?_eq_getElem hxp⟩
    have n0 := (owns_cell ho (x * 12 + 8) _ ((posV_get y 8 (by omega) _ x hy).trans rfl))
    have n1 := (owns_cell ho (x * 12 + 9) _ ((posV_get y 9 (by omega) _ x hy).trans rfl))
    have n2 := (owns_cell ho (x * 12 + 10) _ ((posV_get y 10 (by omega) _ x hy).trans rfl))
    have n3 := (owns_cell ho (x * 12 + 11) _ ((posV_get y 11 (by omega) _ x hy).trans rfl))
    have hM : M2 < W.heap.size := Nat.lt_of_lt_of_le hMW1 hn
    have HF := hideT (fun (W1 : World) (hMs : ∃ p, Set4 W M2 p) (hb1 : Below W.heap.size W W1) => Lb_next hB hL hn hDf hM hMs cb hgb ho hkx (by omega) htx hno hy hl' hb1)
    have ng : P1 ≠ g := fun e => by
     obtain ⟨_, _, cur, hc⟩ := owns_blk ho (g := g) rfl
     rw [← e, show W.heap[_]? = _ from hL.one] at hc
     cases hc
    have nH : w.heap.size ≠ g := fun e => by
     obtain ⟨_, _, cur, hc⟩ := owns_blk ho (g := g) rfl
     rw [← e, show W.heap[_]? = _ from hL.box] at hc
     cases hc
    have HOr := hideT (fun V => orD y.pr (a 0).ls V)
    obtain ⟨⟨c0, c1, c2, c3⟩, -⟩ := hL.one.holds
    have cw := hL.box.cell
    generalize (lkR (a1 0).fs (a 0).ls k (lkN (a 0).ls (a1 0).fs 256 ps)) = qs at *
    have hS0 : (fun V : World => V.cell? ⟨w.heap.size, 0, none⟩ = some (.pointer (some ⟨b, 0, none⟩)) ∧ V.cell? ⟨b, 0, none⟩ = some (.slice (some ⟨g, 0, none⟩) qs.length cap) ∧ V.cell? ⟨P1, 0, none⟩ = some (.int .u64 (wd (a 0).ls 0 : Nat)) ∧ V.cell? ⟨P1, 1, none⟩ = some (.int .u64 (wd (a 0).ls 1 : Nat)) ∧ V.cell? ⟨P1, 2, none⟩ = some (.int .u64 (wd (a 0).ls 2 : Nat)) ∧ V.cell? ⟨P1, 3, none⟩ = some (.int .u64 (wd (a 0).ls 3 : Nat))) W.drew := ⟨cw, cb, c0, c1, c2, c3⟩
    have e0 : W.drew.cell? ⟨g, x * 12 + 8, none⟩ = some (.int .u64 (wd y.pr 0 : Nat)) := n0.1
    have e1 : W.drew.cell? ⟨g, x * 12 + 8 + 1, none⟩ = some (.int .u64 (wd y.pr 1 : Nat)) := n1.1
    have e2 : W.drew.cell? ⟨g, x * 12 + 8 + 2, none⟩ = some (.int .u64 (wd y.pr 2 : Nat)) := n2.1
    have e3 : W.drew.cell? ⟨g, x * 12 + 8 + 3, none⟩ = some (.int .u64 (wd y.pr 3 : Nat)) := n3.1
    have HE := hideT (And.intro n0.1 (And.intro n1.1 (And.intro n2.1 n3.1)))
    have f0 : W.frozen? ⟨g, x * 12 + 8, none⟩ = false := n0.2
    have f1 : W.frozen? ⟨g, x * 12 + 8 + 1, none⟩ = false := n1.2
    have f2 : W.frozen? ⟨g, x * 12 + 8 + 2, none⟩ = false := n2.2
    have f3 : W.frozen? ⟨g, x * 12 + 8 + 3, none⟩ = false := n3.2
    have HW := hideT (And.intro f0 (And.intro f1 (And.intro f2 f3)))
    have HMS := hideT hMS
    clear n0 n1 n2 n3 f0 f1 f2 f3 cw cb c0 c1 c2 c3 ho hno hL hMS hDf hy
    have i1 : (x : Int) < (qs.length : Int) := by omega
    have i2 : (0 : Int) ≤ (x : Int) := by omega
    gi_wp2_with fail
    refine heldIn (fun V : World => V.cell? ⟨w.heap.size, 0, none⟩ = some (.pointer (some ⟨b, 0, none⟩)) ∧ V.cell? ⟨b, 0, none⟩ = some (.slice (some ⟨g, 0, none⟩) qs.length cap) ∧ V.cell? ⟨P1, 0, none⟩ = some (.int .u64 (wd (a 0).ls 0 : Nat)) ∧ V.cell? ⟨P1, 1, none⟩ = some (.int .u64 (wd (a 0).ls 1 : Nat)) ∧ V.cell? ⟨P1, 2, none⟩ = some (.int .u64 (wd (a 0).ls 2 : Nat)) ∧ V.cell? ⟨P1, 3, none⟩ = some (.int .u64 (wd (a 0).ls 3 : Nat))) (by kernel_rfl) (by kernel_rfl) (fun ⟨_, _, h⟩ => h) ?_
    refine' take_d 0 (some 47) rfl rfl (by kernel_rfl) (by kernel_rfl) (by kernel_rfl) (fun _ _ _ h => h) (by rfl) hS0 ?hy22 ?rest22
    case hy22 => intro V hV; go_simp; (try with_reducible rfl)
    refine' take_d 1 (some 48) rfl rfl (by kernel_rfl) (by kernel_rfl) (by kernel_rfl) (fun _ _ _ h => h) (by rfl) hS0 ?hy23 ?rest23
    case hy23 => intro V hV; go_simp; (try with_reducible rfl)
    refine' take_d 2 (some 49) rfl rfl (by kernel_rfl) (by kernel_rfl) (by kernel_rfl) (fun _ _ _ h => h) (by rfl) hS0 ?hy24 ?rest24
    case hy24 => intro V hV; go_simp; (try with_reducible rfl)
    refine' take_d 3 (some 50) rfl rfl (by kernel_rfl) (by kernel_rfl) (by kernel_rfl) (fun _ _ _ h => h) (by rfl) hS0 ?hy25 ?rest25
    case hy25 => intro V hV; go_simp; (try with_reducible rfl)
    refine' take_d 4 (some 51) rfl rfl (by kernel_rfl) (by kernel_rfl) (by kernel_rfl) (fun _ _ _ h => h) (by rfl) hS0 ?hy26 ?rest26
    case hy26 => intro V hV; go_simp; (try with_reducible rfl)
    refine' take_d 5 (some 52) rfl rfl (by kernel_rfl) (by kernel_rfl) (by kernel_rfl) (fun _ _ _ h => h) (by rfl) hS0 ?hy27 ?rest27
    case hy27 => intro V hV; go_simp; (try with_reducible rfl)
    refine' take_d 6 (some 53) rfl rfl (by kernel_rfl) (by kernel_rfl) (by kernel_rfl) (fun _ _ _ h => h) (by rfl) hS0 ?hy28 ?rest28
    case hy28 => intro V hV; go_simp; (try with_reducible rfl)
    refine' take_d 7 (some 54) rfl rfl (by kernel_rfl) (by kernel_rfl) (by kernel_rfl) (fun _ _ _ h => h) (by rfl) hS0 ?hy29 ?rest29
    case hy29 => intro V hV; go_simp; (try with_reducible rfl)
    refine' take_d 8 (some 55) rfl rfl (by kernel_rfl) (by kernel_rfl) (by kernel_rfl) (fun _ _ _ h => h) (by rfl) hS0 ?hy30 ?rest30
    case hy30 => intro V hV; go_simp; (try with_reducible rfl)
    refine' take_d 9 (some 56) rfl rfl (by kernel_rfl) (by kernel_rfl) (by kernel_rfl) (fun _ _ _ h => h) (by rfl) hS0 ?hy31 ?rest31
    case hy31 => intro V hV; go_simp; (try with_reducible rfl)
    refine' take_d 10 (some 57) rfl rfl (by kernel_rfl) (by kernel_rfl) (by kernel_rfl) (fun _ _ _ h => h) (by rfl) hS0 ?hy32 ?rest32
    case hy32 => intro V hV; go_simp; (try with_reducible rfl)
    refine' take_d 11 (some 58) rfl rfl (by kernel_rfl) (by kernel_rfl) (by kernel_rfl) (fun _ _ _ h => h) (by rfl) hS0 ?hy33 ?rest33
    case hy33 => intro V hV; go_simp; (try with_reducible rfl)
    refine' take_d 13 (some 60) rfl rfl (by kernel_rfl) (by kernel_rfl) (by kernel_rfl) (fun _ _ _ h => h) (by rfl) hS0 ?hy34 ?rest34
    case hy34 => intro V hV; go_simp; (try with_reducible rfl)
    refine wpAnyH_all (rs := [12]) (by kernel_rfl) (by simp) (fun i hi => ?_)
    obtain rfl : i = 12 := List.mem_singleton.1 hi
    refine op_value (some 59) rfl rfl (by rfl) (v := .agg #[.int .u64 (wd y.pr 0 : Nat), .int .u64 (wd y.pr 1 : Nat), .int .u64 (wd y.pr 2 : Nat), .int .u64 (wd y.pr 3 : Nat)]) (by go_simp; (try with_reducible rfl)) ⟨hS0, ?_⟩
    clear e0 e1 e2 e3
    refine wpAnyH_all (rs := [14]) (by kernel_rfl) (by simp) (fun i hi => ?_)
    obtain rfl : i = 14 := List.mem_singleton.1 hi
    refine op_call (R := fun v w1 => v = .agg #[.int .u64 (wd (orP y.pr (a 0).ls) 0 : Nat), .int .u64 (wd (orP y.pr (a 0).ls) 1 : Nat), .int .u64 (wd (orP y.pr (a 0).ls) 2 : Nat), .int .u64 (wd (orP y.pr (a 0).ls) 3 : Nat)] ∧ Below W.heap.size W w1) (f := 33) (some 61) rfl rfl (by rfl) (by go_simp; (try with_reducible rfl)) ((HOr.out _).mono ?_) ?_
    ·rintro e w1 ⟨rfl, hb0⟩
     exact ⟨_, rfl, rfl, ((Below.refl W.heap.size W).drew).trans hb0⟩
    rintro v w1 ⟨rfl, hb1⟩
    obtain ⟨s0, s1, s2, s3, s4, s5⟩ := hS0
    have hS1 : (fun V : World => V.cell? ⟨w.heap.size, 0, none⟩ = some (.pointer (some ⟨b, 0, none⟩)) ∧ V.cell? ⟨b, 0, none⟩ = some (.slice (some ⟨g, 0, none⟩) qs.length cap) ∧ V.cell? ⟨P1, 0, none⟩ = some (.int .u64 (wd (a 0).ls 0 : Nat)) ∧ V.cell? ⟨P1, 1, none⟩ = some (.int .u64 (wd (a 0).ls 1 : Nat)) ∧ V.cell? ⟨P1, 2, none⟩ = some (.int .u64 (wd (a 0).ls 2 : Nat)) ∧ V.cell? ⟨P1, 3, none⟩ = some (.int .u64 (wd (a 0).ls 3 : Nat))) w1 := ⟨keep_cell hb1 s0, keep_cell hb1 s1, keep_cell hb1 s2, keep_cell hb1 s3, keep_cell hb1 s4, keep_cell hb1 s5⟩
    clear s0 s1 s2 s3 s4 s5
    refine ⟨hS1, ?_⟩
    refine' take_d 15 (some 62) rfl rfl (by kernel_rfl) (by kernel_rfl) (by kernel_rfl) (fun _ _ _ h => h) (by rfl) hS1 ?hy35 ?rest35
    case hy35 => intro V hV; go_simp; (try with_reducible rfl)
    refine' take_d 16 (some 63) rfl rfl (by kernel_rfl) (by kernel_rfl) (by kernel_rfl) (fun _ _ _ h => h) (by rfl) hS1 ?hy36 ?rest36
    case hy36 => intro V hV; go_simp; (try with_reducible rfl)
    refine wpAnyH_all (rs := [17]) (by kernel_rfl) (by simp) (fun i hi => ?_)
    obtain rfl : i = 17 := List.mem_singleton.1 hi
    have d0 := keep_cell hb1 (HE.out.1)
    have d1 := keep_cell hb1 (HE.out.2.1)
    have d2 := keep_cell hb1 (HE.out.2.2.1)
    have d3 := keep_cell hb1 (HE.out.2.2.2)
    have g0 := keep_frozen hb1 (HE.out.1) (HW.out.1)
    have g1 := keep_frozen hb1 (HE.out.2.1) (HW.out.2.1)
    have g2 := keep_frozen hb1 (HE.out.2.2.1) (HW.out.2.2.1)
    have g3 := keep_frozen hb1 (HE.out.2.2.2) (HW.out.2.2.2)
    refine op_skip rfl rfl (by rfl) (w' := put4at w1 g (x * 12 + 8) (orP y.pr (a 0).ls)) (by go_simp; (try with_reducible rfl)) ⟨⟨?_, ?_, ?_, ?_, ?_, ?_⟩, ?_⟩
    ·exact (put4at_cell nH).trans hS1.1
    ·exact (put4at_cell hgb.symm).trans hS1.2.1
    ·exact (put4at_cell ng).trans hS1.2.2.1
    ·exact (put4at_cell ng).trans hS1.2.2.2.1
    ·exact (put4at_cell ng).trans hS1.2.2.2.2.1
    ·exact (put4at_cell ng).trans hS1.2.2.2.2.2
    have HH := HF.out w1 ⟨_, HMS.out⟩ hb1
    exact wpAnyH_done (by kernel_rfl) ⟨HH.1, HH.2.1, HH.2.2, HMS.out.keep HH.2.1⟩ _
   case done2 =>
    rintro D2 l W hD2 hng ⟨⟨k, hk, hl, hL, hn, hDf⟩, -⟩ hK2
    have hl0 : mr (a1 0).fs k = [] := by
     rw [← hl]
     exact Classical.byContradiction hng
    rw [lkR_full (by rw [lkN_len]; exact hw.len) (mr_nil _ k rfl hk hl0), lk_both hw.len] at hL
    have hne : D ≠ D2 := by omega
    have hKD2 : (W.putObj D2 (.deferred none)).heap[D]? = some (.deferred (some [])) := (World.putObj_heap_other hne).trans (hDf D rfl)
    have hZ := OwnFrom.putObj (lkW_own hB) (s := ()) (.deferred none) (OwnFrom.putObj (lkW_own hB) (s := ()) (.deferred none) hL (by omega) hK2 rfl) hDw hKD2 rfl
    have HZ := hideT (And.intro hZ (And.intro hK2 hKD2))
    clear hl hl0 hng hI0 bS hL hL1 hZ hDf
    gi_wp2
    refine ⟨by simp, .inl ⟨_, _, rfl, run_takeDeferred HZ.out.2.1, ⟨by simp, .inl ⟨_, _, rfl, run_takeDeferred HZ.out.2.2, ?_⟩⟩⟩⟩
    exact ⟨_, results_none rfl _ _ _, ⟨_, rfl⟩, HZ.out.1.web, HZ.out.1.fr⟩
   case stop2 => rintro D l W hD h; exact h.elim
  case stop => rintro D l W hD h; exact h.elim
 have HKEY := hideT key
 have HSX := hideT hsX
 clear key hsX
 have HX := hideT (And.intro x0 (And.intro x1 (And.intro x2 hBX)))
 clear x0 x1 x2 hBX hK1
 refine wpIn_wide.2 (wp_region_noPanic ?_)
 refine wp_region_held (S := fun V => Below X.heap.size X V) (by kernel_rfl) ?_
 have hS0 : Below X.heap.size X X.drew := (Below.refl _ _).drew
 refine' take_d 0 (some 10) rfl rfl (by kernel_rfl) (by kernel_rfl) (by kernel_rfl) (fun _ _ _ h => h) (by rfl) hS0 ?hy1 ?rest1
 case hy1 => intro V hV; go_simp; (try with_reducible rfl)
 refine' take_d 1 (some 11) rfl rfl (by kernel_rfl) (by kernel_rfl) (by kernel_rfl) (fun _ _ _ h => h) (by rfl) hS0 ?hy2 ?rest2
 case hy2 => intro V hV; go_simp; (try with_reducible rfl)
 refine' take_d 2 (some 12) rfl rfl (by kernel_rfl) (by kernel_rfl) (by kernel_rfl) (fun _ _ _ h => h) (by rfl) hS0 ?hy3 ?rest3
 case hy3 => intro V hV; have r0 := keep_cell hV p0; have r1 := keep_cell hV p1; have r2 := keep_cell hV p2; have r3 := keep_cell hV p3; have s0 := keep_cell hV q0; have s1 := keep_cell hV q1; have s2 := keep_cell hV q2; have s3 := keep_cell hV q3; go_simp; (try with_reducible rfl)
 refine' take_d 3 (some 13) rfl rfl (by kernel_rfl) (by kernel_rfl) (by kernel_rfl) (fun _ _ _ h => h) (by rfl) hS0 ?hy4 ?rest4
 case hy4 => intro V hV; go_simp; (try with_reducible rfl)
 refine' take_d 4 (some 14) rfl rfl (by kernel_rfl) (by kernel_rfl) (by kernel_rfl) (fun _ _ _ h => h) (by rfl) hS0 ?hy5 ?rest5
 case hy5 => intro V hV; go_simp; (try with_reducible rfl)
 refine' take_d 5 (some 15) rfl rfl (by kernel_rfl) (by kernel_rfl) (by kernel_rfl) (fun _ _ _ h => h) (by rfl) hS0 ?hy6 ?rest6
 case hy6 => intro V hV; have r0 := keep_cell hV p0; have r1 := keep_cell hV p1; have r2 := keep_cell hV p2; have r3 := keep_cell hV p3; have s0 := keep_cell hV q0; have s1 := keep_cell hV q1; have s2 := keep_cell hV q2; have s3 := keep_cell hV q3; go_simp; (try with_reducible rfl)
 refine wpAnyH_all (rs := [6, 7]) (by kernel_rfl) (by simp) (fun i hi => ?_)
 have hc2 : i = 6 ∨ i = 7 := by simpa using hi
 have hA1 := hS0.alloc (Nat.le_refl _) (.cells #[.int .u64 0, .int .u64 0, .int .u64 0, .int .u64 0] 45)
 have hA2 := hA1.alloc (by simp) (.cells #[.int .u64 0, .int .u64 0, .int .u64 0, .int .u64 0] 45)
 have z1 : Set4 ((X.drew.alloc (.cells #[.int .u64 0, .int .u64 0, .int .u64 0, .int .u64 0] 45)).alloc (.cells #[.int .u64 0, .int .u64 0, .int .u64 0, .int .u64 0] 45)) X.heap.size noB := (Below.heap_alloc _ _ _ (by rw [World.size_alloc]; exact Nat.lt_succ_self _)).trans (set4_zero X.drew)
 have z2 : Set4 ((X.drew.alloc (.cells #[.int .u64 0, .int .u64 0, .int .u64 0, .int .u64 0] 45)).alloc (.cells #[.int .u64 0, .int .u64 0, .int .u64 0, .int .u64 0] 45)) (X.heap.size + 1) noB := by
  have h := set4_zero (X.drew.alloc (.cells #[.int .u64 0, .int .u64 0, .int .u64 0, .int .u64 0] 45))
  rw [World.size_alloc] at h
  exact h
 rcases hc2 with rfl | rfl
 ·refine op_value (some 6) rfl rfl (by rfl) (v := .pointer (some ⟨X.heap.size, 0, none⟩)) (w' := X.drew.alloc (.cells #[.int .u64 0, .int .u64 0, .int .u64 0, .int .u64 0] 45)) (by clear p0 p1 p2 p3 q0 q1 q2 q3 z1 z2 hA1 hA2; go_simp; (try with_reducible rfl)) ⟨hA1, ?_⟩
  refine wpAnyH_all (rs := [7]) (by kernel_rfl) (by simp) (fun i hi => ?_)
  obtain rfl : i = 7 := List.mem_singleton.1 hi
  refine op_value (some 7) rfl rfl (by rfl) (v := .pointer (some ⟨X.heap.size + 1, 0, none⟩)) (w' := (X.drew.alloc (.cells #[.int .u64 0, .int .u64 0, .int .u64 0, .int .u64 0] 45)).alloc (.cells #[.int .u64 0, .int .u64 0, .int .u64 0, .int .u64 0] 45)) (by clear p0 p1 p2 p3 q0 q1 q2 q3 z1 z2 hA1 hA2; go_simp; (try with_reducible rfl)) ⟨hA2, ?_⟩
  generalize (X.drew.alloc (.cells #[.int .u64 0, .int .u64 0, .int .u64 0, .int .u64 0] 45)).alloc (.cells #[.int .u64 0, .int .u64 0, .int .u64 0, .int .u64 0] 45) = Y at *
  refine wpAnyH_all (rs := [8]) (by kernel_rfl) (by simp) (fun i hi => ?_)
  obtain rfl : i = 8 := List.mem_singleton.1 hi
  obtain ⟨⟨c0, c1, c2, c3⟩, f0, f1, f2, f3⟩ := (z1).holds
  refine op_skip rfl rfl (by rfl) (w' := put4 Y (X.heap.size) (a 0).ls) (by clear p0 p1 p2 p3 q0 q1 q2 q3 z1 z2 hA1 hA2; go_simp; (try with_reducible rfl)) ⟨below_put4 hA2 (by omega) _, ?_⟩
  have y1 := set4_put (z1) (a 0).ls
  have y2 : Set4 (put4 Y (X.heap.size) (a 0).ls) (X.heap.size + 1) noB := (put4_far Y _ _ (by omega)).trans z2
  clear c0 c1 c2 c3 f0 f1 f2 f3
  refine wpAnyH_all (rs := [9]) (by kernel_rfl) (by simp) (fun i hi => ?_)
  obtain rfl : i = 9 := List.mem_singleton.1 hi
  have hA3 := below_put4 hA2 (b := X.heap.size) (by omega) (a 0).ls
  generalize put4 Y (X.heap.size) (a 0).ls = Y1 at *
  obtain ⟨⟨c0, c1, c2, c3⟩, f0, f1, f2, f3⟩ := y2.holds
  refine op_skip rfl rfl (by rfl) (w' := put4 Y1 (X.heap.size + 1) (a1 0).fs) (by clear p0 p1 p2 p3 q0 q1 q2 q3 z1 z2 hA1 hA2 hA3; go_simp; (try with_reducible rfl)) ⟨below_put4 hA3 (by omega) _, ?_⟩
  exact wpAnyH_done (by kernel_rfl) (HKEY.out (X.heap.size) (X.heap.size + 1) _ (below_put4 hA3 (by omega) _) ((put4_far Y1 _ _ (by omega)).trans y1) (set4_put y2 _)) _
 ·refine op_value (some 7) rfl rfl (by rfl) (v := .pointer (some ⟨X.heap.size, 0, none⟩)) (w' := X.drew.alloc (.cells #[.int .u64 0, .int .u64 0, .int .u64 0, .int .u64 0] 45)) (by clear p0 p1 p2 p3 q0 q1 q2 q3 z1 z2 hA1 hA2; go_simp; (try with_reducible rfl)) ⟨hA1, ?_⟩
  refine wpAnyH_all (rs := [6]) (by kernel_rfl) (by simp) (fun i hi => ?_)
  obtain rfl : i = 6 := List.mem_singleton.1 hi
  refine op_value (some 6) rfl rfl (by rfl) (v := .pointer (some ⟨X.heap.size + 1, 0, none⟩)) (w' := (X.drew.alloc (.cells #[.int .u64 0, .int .u64 0, .int .u64 0, .int .u64 0] 45)).alloc (.cells #[.int .u64 0, .int .u64 0, .int .u64 0, .int .u64 0] 45)) (by clear p0 p1 p2 p3 q0 q1 q2 q3 z1 z2 hA1 hA2; go_simp; (try with_reducible rfl)) ⟨hA2, ?_⟩
  generalize (X.drew.alloc (.cells #[.int .u64 0, .int .u64 0, .int .u64 0, .int .u64 0] 45)).alloc (.cells #[.int .u64 0, .int .u64 0, .int .u64 0, .int .u64 0] 45) = Y at *
  refine wpAnyH_all (rs := [8]) (by kernel_rfl) (by simp) (fun i hi => ?_)
  obtain rfl : i = 8 := List.mem_singleton.1 hi
  obtain ⟨⟨c0, c1, c2, c3⟩, f0, f1, f2, f3⟩ := (z2).holds
  refine op_skip rfl rfl (by rfl) (w' := put4 Y (X.heap.size + 1) (a 0).ls) (by clear p0 p1 p2 p3 q0 q1 q2 q3 z1 z2 hA1 hA2; go_simp; (try with_reducible rfl)) ⟨below_put4 hA2 (by omega) _, ?_⟩
  have y1 := set4_put (z2) (a 0).ls
  have y2 : Set4 (put4 Y (X.heap.size + 1) (a 0).ls) (X.heap.size) noB := (put4_far Y _ _ (by omega)).trans z1
  clear c0 c1 c2 c3 f0 f1 f2 f3
  refine wpAnyH_all (rs := [9]) (by kernel_rfl) (by simp) (fun i hi => ?_)
  obtain rfl : i = 9 := List.mem_singleton.1 hi
  have hA3 := below_put4 hA2 (b := X.heap.size + 1) (by omega) (a 0).ls
  generalize put4 Y (X.heap.size + 1) (a 0).ls = Y1 at *
  obtain ⟨⟨c0, c1, c2, c3⟩, f0, f1, f2, f3⟩ := y2.holds
  refine op_skip rfl rfl (by rfl) (w' := put4 Y1 (X.heap.size) (a1 0).fs) (by clear p0 p1 p2 p3 q0 q1 q2 q3 z1 z2 hA1 hA2 hA3; go_simp; (try with_reducible rfl)) ⟨below_put4 hA3 (by omega) _, ?_⟩
  exact wpAnyH_done (by kernel_rfl) (HKEY.out (X.heap.size + 1) (X.heap.size) _ (below_put4 hA3 (by omega) _) ((put4_far Y1 _ _ (by omega)).trans y1) (set4_put y2 _)) _
end Go.Proofs.Ytiedliahmjiadaa
