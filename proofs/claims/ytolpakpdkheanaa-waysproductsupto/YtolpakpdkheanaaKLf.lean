/- tally: a link's edges together with what stands behind it. -/
import Derived.Test.YtolpakpdkheanaaKLe
set_option maxRecDepth 100000
set_option maxHeartbeats 4000000
namespace Go.Proofs.Ytolpakpdkheanaa.tly
open Go.RowKit Go.Proofs.Ytolpakpdkheanaa.br
/-- block b holds edges, whose steps lie in blocks from B on -/
def EdB (W : World) (B b : Nat) (es : List Ed) : Prop := ∃ u, W.heap[b]? = some (.cells (lst12 u).toArray 85 (0, 0)) ∧ EsR W (Sb B W.heap.size) u es ∧ es.length = 4
theorem EdB.lt {W : World} {B b : Nat} {es : List Ed} (h : EdB W B b es) : b < W.heap.size := by
 obtain ⟨u, h1, _⟩ := h
 exact (Array.getElem?_eq_some_iff.1 h1).1
theorem EsR.grow {W W' : World} {B E : Nat} {u : Nat → Value} {es : List Ed} (h : EsR W (Sb B E) u es) (hb : Below W.heap.size W W') (hE : E ≤ W.heap.size) : EsR W' (Sb B W'.heap.size) u es :=
 ⟨h.no, fun k hk => (h.fi k hk).grow hb hE (Nat.le_refl _), fun k hk => (h.la k hk).grow hb hE (Nat.le_refl _)⟩
theorem EsR.far {W W' : World} {S : Nat → Prop} {b : Nat} {u : Nat → Value} {es : List Ed} {t : TypeId} {cs : Array Value} (h : EsR W S u es) (ht : W.heap[b]? = some (.cells cs t (0, 0))) (hne : t ≠ 95) (hk : ∀ g, g ≠ b → W'.heap[g]? = W.heap[g]?) : EsR W' S u es :=
 ⟨h.no, fun k h4 => (h.fi k h4).far ht hne hk, fun k h4 => (h.la k h4).far ht hne hk⟩
theorem EdB.below {W W' : World} {B b : Nat} {es : List Ed} (h : EdB W B b es) (hb : Below W.heap.size W W') : EdB W' B b es := by
 have hl := h.lt
 obtain ⟨u, h1, h2, h3⟩ := h
 exact ⟨u, (hb.block b hl).trans h1, h2.grow hb (Nat.le_refl _), h3⟩
theorem eat_set {es : List Ed} {k j : Nat} {e : Ed} (hk : k < es.length) : eat (es.set k e) j = if j = k then e else eat es j := by
 unfold eat
 rw [List.getD_eq_getElem?_getD, List.getD_eq_getElem?_getD, List.getElem?_set]
 by_cases h : k = j
 · subst h; rw [if_pos rfl, if_pos hk, if_pos rfl]; rfl
 · rw [if_neg h, if_neg (fun e => h e.symm)]
theorem EdB.cells {W : World} {B b : Nat} {es : List Ed} (h : EdB W B b es) {k : Nat} (hk : k < 4) : ∃ vf vl, W.cell? ⟨b, k * 3, none⟩ = some (.bool (eat es k).no) ∧ W.cell? ⟨b, k * 3 + 1, none⟩ = some vf ∧ W.cell? ⟨b, k * 3 + 2, none⟩ = some vl ∧ StR W (Sb B W.heap.size) vf (eat es k).fi ∧ StR W (Sb B W.heap.size) vl (eat es k).la ∧ (∀ j, W.frozen? ⟨b, j, none⟩ = false) := by
 obtain ⟨u, h1, h2, h3⟩ := h
 refine ⟨u (k * 3 + 1), u (k * 3 + 2), ?_, (cells_at h1 (lst12_get u (show k * 3 + 1 < 12 by omega))).1, (cells_at h1 (lst12_get u (show k * 3 + 2 < 12 by omega))).1, h2.fi k hk, h2.la k hk, fun j => by simp [World.frozen?, h1]⟩
 rw [← h2.no k hk]
 exact (cells_at h1 (lst12_get u (show k * 3 < 12 by omega))).1
theorem EdB.set {W : World} {B b k : Nat} {es : List Ed} (h : EdB W B b es) (hk : k < 4) (j : Nat) (hj : j < 3) {v : Value} {e : Ed} (h0 : if j = 0 then v = .bool e.no else e.no = (eat es k).no) (h1 : if j = 1 then StR W (Sb B W.heap.size) v e.fi else e.fi = (eat es k).fi) (h2 : if j = 2 then StR W (Sb B W.heap.size) v e.la else e.la = (eat es k).la) : EdB (W.setCell ⟨b, k * 3 + j, none⟩ v) B b (es.set k e) := by
 obtain ⟨u, hu, hE, hl⟩ := h
 have hset := cells_set hu (k * 3 + j) v
 rw [lst12_set u (show k * 3 + j < 12 by omega)] at hset
 have hsz : (W.setCell ⟨b, k * 3 + j, none⟩ v).heap.size = W.heap.size := by simp
 have hf : ∀ g, g ≠ b → (W.setCell ⟨b, k * 3 + j, none⟩ v).heap[g]? = W.heap[g]? := fun g hg => Below.heap_setCell W ⟨b, k * 3 + j, none⟩ v g hg
 refine ⟨_, hset, ⟨fun i hi => ?_, fun i hi => ?_, fun i hi => ?_⟩, by rw [List.length_set]; exact hl⟩
 · rw [eat_set (by omega)]
   by_cases e1 : i = k
   · subst e1
     rw [if_pos rfl]
     by_cases e2 : j = 0
     · subst e2
       rw [if_pos rfl] at h0
       show setU u (i * 3 + 0) v (i * 3 + 0) = _
       rw [setU_same, h0]
     · rw [if_neg e2] at h0
       rw [setU_other _ _ (by omega), h0]
       exact hE.no i hi
   · rw [if_neg e1, setU_other _ _ (by omega)]
     exact hE.no i hi
 · rw [eat_set (by omega), hsz]
   by_cases e1 : i = k
   · subst e1
     rw [if_pos rfl]
     by_cases e2 : j = 1
     · subst e2
       rw [if_pos rfl] at h1
       rw [setU_same]
       exact h1.far hu (by decide) hf
     · rw [if_neg e2] at h1
       rw [setU_other _ _ (by omega), h1]
       exact (hE.fi i hi).far hu (by decide) hf
   · rw [if_neg e1, setU_other _ _ (by omega)]
     exact (hE.fi i hi).far hu (by decide) hf
 · rw [eat_set (by omega), hsz]
   by_cases e1 : i = k
   · subst e1
     rw [if_pos rfl]
     by_cases e2 : j = 2
     · subst e2
       rw [if_pos rfl] at h2
       rw [setU_same]
       exact h2.far hu (by decide) hf
     · rw [if_neg e2] at h2
       rw [setU_other _ _ (by omega), h2]
       exact (hE.la i hi).far hu (by decide) hf
   · rw [if_neg e1, setU_other _ _ (by omega)]
     exact (hE.la i hi).far hu (by decide) hf
theorem EdB.setNo {W : World} {B b k : Nat} {es : List Ed} (h : EdB W B b es) (hk : k < 4) (x : Bool) : EdB (W.setCell ⟨b, k * 3, none⟩ (.bool x)) B b (es.set k ⟨x, (eat es k).fi, (eat es k).la⟩) := h.set hk 0 (by decide) rfl rfl rfl
theorem EdB.setFi {W : World} {B b k : Nat} {es : List Ed} (h : EdB W B b es) (hk : k < 4) {v : Value} {l : Stp} (hv : StR W (Sb B W.heap.size) v l) : EdB (W.setCell ⟨b, k * 3 + 1, none⟩ v) B b (es.set k ⟨(eat es k).no, l, (eat es k).la⟩) := h.set hk 1 (by decide) rfl hv rfl
theorem EdB.setLa {W : World} {B b k : Nat} {es : List Ed} (h : EdB W B b es) (hk : k < 4) {v : Value} {l : Stp} (hv : StR W (Sb B W.heap.size) v l) : EdB (W.setCell ⟨b, k * 3 + 2, none⟩ v) B b (es.set k ⟨(eat es k).no, (eat es k).fi, l⟩) := h.set hk 2 (by decide) rfl rfl hv
theorem four_ext {a b : List Ed} (ha : a.length = 4) (hb : b.length = 4) (h : ∀ j, j < 4 → eat a j = eat b j) : a = b := by
 apply List.ext_getElem (by omega)
 intro i h1 h2
 have := h i (by omega)
 unfold eat at this
 rw [List.getD_eq_getElem?_getD, List.getD_eq_getElem?_getD, List.getElem?_eq_getElem h1, List.getElem?_eq_getElem h2] at this
 exact this
/-- what ahead keeps: own at block C, what is behind at block R -/
structure AhR (w : World) (free : Bool) (own rest : List Ed) (ur : Nat → Value) (R C T k : Nat) (W : World) : Prop where
 own : ∃ es, EdB W w.heap.size C es ∧ ∀ j, j < 4 → eat es j = if j < k then aheadE free (eat own j) (eat rest j) else eat own j
 rest : W.heap[R]? = some (.cells (lst12 ur).toArray 85 (0, 0))
 res : W.heap[T]? = some z12
 bel : Below w.heap.size w W
/-- within a round of ahead: link k's edges are E so far; the copy of what is behind at block m -/
structure AhM (w : World) (free : Bool) (own rest : List Ed) (ur : Nat → Value) (R C T k m : Nat) (E : Ed) (V : World) : Prop where
 ed : ∃ es, EdB V w.heap.size C es ∧ (∀ j, j < 4 → j ≠ k → eat es j = if j < k then aheadE free (eat own j) (eat rest j) else eat own j) ∧ eat es k = E
 rest : V.heap[R]? = some (.cells (lst12 ur).toArray 85 (0, 0))
 res : V.heap[T]? = some z12
 cp : V.heap[m]? = some (.cells #[ur (k * 3), ur (k * 3 + 1), ur (k * 3 + 2)] 83 (0, 0))
 bel : Below w.heap.size w V
 ne : R ≠ C ∧ T ≠ C ∧ m ≠ C ∧ w.heap.size ≤ C ∧ k < 4
theorem AhM.cells {w V : World} {free : Bool} {own rest : List Ed} {ur : Nat → Value} {R C T k m : Nat} {E : Ed} (h : AhM w free own rest ur R C T k m E V) : ∃ vf vl, V.cell? ⟨C, k * 3, none⟩ = some (.bool E.no) ∧ V.cell? ⟨C, k * 3 + 1, none⟩ = some vf ∧ V.cell? ⟨C, k * 3 + 2, none⟩ = some vl ∧ StR V (Sb w.heap.size V.heap.size) vf E.fi ∧ StR V (Sb w.heap.size V.heap.size) vl E.la ∧ (∀ j, V.frozen? ⟨C, j, none⟩ = false) ∧ V.cell? ⟨m, 0, none⟩ = some (ur (k * 3)) ∧ V.cell? ⟨m, 1, none⟩ = some (ur (k * 3 + 1)) ∧ V.cell? ⟨m, 2, none⟩ = some (ur (k * 3 + 2)) := by
 obtain ⟨es, h1, _, h3⟩ := h.ed
 obtain ⟨vf, vl, m0, m1, m2, rf, rl, mf⟩ := h1.cells h.ne.2.2.2.2
 rw [h3] at m0 rf rl
 have hc := h.cp
 exact ⟨vf, vl, m0, m1, m2, rf, rl, mf, by simp [World.cell?, hc], by simp [World.cell?, hc], by simp [World.cell?, hc]⟩
theorem AhM.set {w V V1 : World} {free : Bool} {own rest : List Ed} {ur : Nat → Value} {R C T k m : Nat} {E E' : Ed} (h : AhM w free own rest ur R C T k m E V) (hb : Below V.heap.size V V1) (j : Nat) (hj : j < 3) {v : Value} (h0 : if j = 0 then v = .bool E'.no else E'.no = E.no) (h1 : if j = 1 then StR V1 (Sb w.heap.size V1.heap.size) v E'.fi else E'.fi = E.fi) (h2 : if j = 2 then StR V1 (Sb w.heap.size V1.heap.size) v E'.la else E'.la = E.la) : AhM w free own rest ur R C T k m E' (V1.setCell ⟨C, k * 3 + j, none⟩ v) := by
 obtain ⟨es, e1, e2, e3⟩ := h.ed
 obtain ⟨n1, n2, n3, n4, n5⟩ := h.ne
 have hl : es.length = 4 := by obtain ⟨_, _, _, hl⟩ := e1; exact hl
 have es1 := (e1.below hb).set n5 j hj (v := v) (e := E') (by rw [e3]; exact h0) (by rw [e3]; exact h1) (by rw [e3]; exact h2)
 have far : ∀ g, g ≠ C → g < V.heap.size → (V1.setCell ⟨C, k * 3 + j, none⟩ v).heap[g]? = V.heap[g]? := fun g hg hgl => (Below.heap_setCell V1 ⟨C, k * 3 + j, none⟩ v g hg).trans (hb.block g hgl)
 refine ⟨⟨_, es1, fun i hi hik => ?_, ?_⟩, (far R n1 (Array.getElem?_eq_some_iff.1 h.rest).1).trans h.rest, (far T n2 (Array.getElem?_eq_some_iff.1 h.res).1).trans h.res, (far m n3 (Array.getElem?_eq_some_iff.1 h.cp).1).trans h.cp, (h.bel.trans (hb.mono h.bel.size)).setCell (p := ⟨C, k * 3 + j, none⟩) n4 v, h.ne⟩
 · rw [eat_set (by omega), if_neg hik]; exact e2 i hi hik
 · rw [eat_set (by omega), if_pos rfl]
theorem AhM.done {w V : World} {free : Bool} {own rest : List Ed} {ur : Nat → Value} {R C T k m : Nat} (h : AhM w free own rest ur R C T k m (aheadE free (eat own k) (eat rest k)) V) : AhR w free own rest ur R C T (k + 1) V := by
 obtain ⟨es, e1, e2, e3⟩ := h.ed
 refine ⟨⟨es, e1, fun j hj => ?_⟩, h.rest, h.res, h.bel⟩
 by_cases e : j = k
 · subst e; rw [if_pos (by omega), e3]
 · have := e2 j hj e
   by_cases e4 : j < k
   · rw [if_pos e4] at this; rw [if_pos (by omega)]; exact this
   · rw [if_neg e4] at this; rw [if_neg (by omega)]; exact this
theorem AhR.mid {w V W1 : World} {free : Bool} {own rest : List Ed} {ur : Nat → Value} {R C T k : Nat} (h : AhR w free own rest ur R C T k V) (hk : k < 4) (hn : R ≠ C ∧ T ≠ C ∧ w.heap.size ≤ C) (hb : Below V.heap.size V W1) (hm : W1.heap[V.heap.size]? = some (.cells #[ur (k * 3), ur (k * 3 + 1), ur (k * 3 + 2)] 83 (0, 0))) : AhM w free own rest ur R C T k V.heap.size (eat own k) W1 := by
 obtain ⟨es, e1, e2⟩ := h.own
 have hC := e1.lt
 refine ⟨⟨es, e1.below hb, fun j hj _ => e2 j hj, by have := e2 k hk; rw [if_neg (by omega)] at this; exact this⟩, (hb.block _ (Array.getElem?_eq_some_iff.1 h.rest).1).trans h.rest, (hb.block _ (Array.getElem?_eq_some_iff.1 h.res).1).trans h.res, hm, h.bel.trans (hb.mono h.bel.size), hn.1, hn.2.1, by omega, hn.2.2, hk⟩
theorem info_ed : (Try.prog.info? 83).map (·.size) = some 3 := by kernel_rfl
theorem copy3 {X : World} (a b c : Value) : (X.alloc (.cells #[.bool false, .slice none 0 0, .slice none 0 0] 83)).there X.heap.size 0 3 ∧ Below X.heap.size X ((X.alloc (.cells #[.bool false, .slice none 0 0, .slice none 0 0] 83)).setCells X.heap.size 0 [a, b, c]) ∧ ((X.alloc (.cells #[.bool false, .slice none 0 0, .slice none 0 0] 83)).setCells X.heap.size 0 [a, b, c]).heap[X.heap.size]? = some (.cells #[a, b, c] 83 (0, 0)) := by
 have hn : (X.alloc (.cells #[.bool false, .slice none 0 0, .slice none 0 0] 83)).heap[X.heap.size]? = some (.cells #[.bool false, .slice none 0 0, .slice none 0 0] 83) := World.alloc_heap_new X _
 exact ⟨there_block (cs := [.bool false, .slice none 0 0, .slice none 0 0]) hn 3 rfl, below_setCells _ (Nat.le_refl _) _ _ _ ((Below.refl _ X).alloc (Nat.le_refl _) _), setCells_whole (cs := [.bool false, .slice none 0 0, .slice none 0 0]) [a, b, c] hn rfl⟩
theorem zip_at (f : Ed → Ed → Ed) {a b : List Ed} {j : Nat} (ha : a.length = 4) (hb : b.length = 4) (hj : j < 4) : eat (List.zipWith f a b) j = f (eat a j) (eat b j) := by
 unfold eat
 rw [List.getD_eq_getElem?_getD, List.getD_eq_getElem?_getD, List.getD_eq_getElem?_getD, List.getElem?_zipWith, List.getElem?_eq_getElem (show j < a.length by omega), List.getElem?_eq_getElem (show j < b.length by omega)]
 rfl
theorem AhR.done {w V : World} {free : Bool} {own rest : List Ed} {ur : Nat → Value} {R C T : Nat} (h : AhR w free own rest ur R C T 4 V) (ho : own.length = 4) (hr : rest.length = 4) (hT : w.heap.size ≤ T) : ∃ uu, V.heap[C]? = some (.cells (lst12 uu).toArray 85 (0, 0)) ∧ (lst12 uu).toArray.all (·.oneCell') = true ∧ EsR (V.setCells T 0 (lst12 uu)) (Sb w.heap.size (V.setCells T 0 (lst12 uu)).heap.size) uu (List.zipWith (aheadE free) own rest) ∧ Below w.heap.size w (V.setCells T 0 (lst12 uu)) := by
 obtain ⟨es, ⟨u, h1, h2, h3⟩, e2⟩ := h.own
 have he : es = List.zipWith (aheadE free) own rest := four_ext h3 (by rw [List.length_zipWith]; omega) fun j hj => by
  rw [e2 j hj, if_pos hj, zip_at _ ho hr hj]
 subst he
 refine ⟨u, h1, h2.all, ?_, below_setCells _ hT _ _ _ h.bel⟩
 rw [setCells_size]
 exact h2.far h.res (by decide) fun g hg => setCells_far V _ hg _ _
theorem keep_cell_other {W : World} {m i b j : Nat} {v x : Value} (hne : m ≠ b) (h : W.cell? ⟨m, i, none⟩ = some v) : (W.setCell ⟨b, j, none⟩ x).cell? ⟨m, i, none⟩ = some v := (World.cell?_of_block (a := ⟨m, i, none⟩) (Below.heap_setCell W ⟨b, j, none⟩ x m hne)).trans h
theorem ahead_any {w : World} {S S2 : Nat → Prop} {lb o c base n : Nat} {k g sz : Nat} {vl : Value} {ag free : Bool} {q : Nat → Bool} {u ur : Nat → Value} {es rest : List Ed} (c0 : w.cell? ⟨lb, o, none⟩ = some (.pointer (some ⟨c, 0, none⟩))) (c1 : w.cell? ⟨lb, o + 1, none⟩ = some (.int .i64 (base : Nat))) (c2 : w.cell? ⟨lb, o + 2, none⟩ = some (.bool free))
  (hp : w.heap[c]? = some (.cells (ptV k g vl ag q sz u).toArray 87 (0, 0))) (he : EsR w S u es) (hS : ∀ g, S g → g < w.heap.size) (ho : EsOk n es) (hr : EsR w S2 ur rest) (hS2 : ∀ g, S2 g → g < w.heap.size) (hor : EsOk n rest) (hn : n + base ≤ 100000) :
  Calls Try.prog 64 #[.pointer (some ⟨lb, o, none⟩), .agg (lst12 ur).toArray] w fun e w' => ∃ u', e = .returned (.agg (lst12 u').toArray) ∧ EsR w' (Sb w.heap.size w'.heap.size) u' (List.zipWith (aheadE free) (es.map fun e => ⟨e.no, upS e.fi base, upS e.la base⟩) rest) ∧ Below w.heap.size w w' := by
 go_enter Try.func64, Try.ntmps64
 go_upto_region 1 with fail
 have hc : c < w.heap.size := (Array.getElem?_eq_some_iff.1 hp).1
 have hX1 := World.alloc_heap_new w (.cells (lst12 ur).toArray 85)
 have hs1 := World.size_alloc w (.cells (lst12 ur).toArray 85)
 have hB1 := (Below.refl w.heap.size w).alloc (Nat.le_refl _) (.cells (lst12 ur).toArray 85)
 generalize w.alloc (.cells (lst12 ur).toArray 85) = X1 at *
 have hX2 := World.alloc_heap_new X1 z12
 have hX3 := (Below.heap_alloc X1 z12 w.heap.size (by omega)).trans hX1
 have hs2 := World.size_alloc X1 z12
 have hB2 := hB1.alloc hB1.size z12
 rw [hs1] at hX2 hs2
 show Code.wp _ _ _ _ (X1.alloc z12)
 generalize X1.alloc z12 = X at *
 have hE := edges_any (keep_cell hB2 c0) (keep_cell hB2 c1) ((hB2.block c hc).trans hp) (he.keep (fun g hg => hB2.block g (hS g hg)) fun _ h => h) (fun g hg => Nat.lt_of_lt_of_le (hS g hg) hB2.size) ho (by omega) (by omega)
 have HX := hideT (And.intro hX3 (And.intro hX2 (And.intro hs2 hB2)))
 have HP := hideT (And.intro c2 (And.intro (hr.keep (W' := X) (fun g hg => hB2.block g (hS2 g hg)) fun _ h => h) (And.intro hS2 (And.intro hor (And.intro ho hn)))))
 clear hX1 hs1 hB1 hX2 hX3 hs2 hB2 c0 c1 c2 hp he hS ho hr hS2 hor hn hc
 go_wp2_with fail
 refine hE.mono ?_
 rintro e w1 ⟨u1, rfl, h1, h2⟩
 obtain ⟨ow, how⟩ : ∃ ow, ow = es.map fun e => (⟨e.no, upS e.fi base, upS e.la base⟩ : Ed) := ⟨_, rfl⟩
 rw [← how] at h1
 have hcp := copy12 (w0 := w) (X := w1) (u := u1) (HX.out.2.2.2.trans (h2.mono HX.out.2.2.2.size))
 have HC := hideT (And.intro hcp h1.all)
 have HO := hideT (And.intro how (And.intro h1 h2))
 clear hcp hE h1 h2 how
 go_upto_region 2 with (refine wpList_store_mid (by rfl) 85 _ _ (by rfl) w1.heap.size 0 (lst12 u1).toArray (by rfl) (by rfl) HC.out.1.1 (by rw [info_eds]; rfl) HC.out.2 ?_)
 obtain ⟨Y, hY⟩ : ∃ Y, Y = (w1.alloc z12).setCells w1.heap.size 0 (lst12 u1) := ⟨_, rfl⟩
 have HY := hideT (show AhR w free ow rest ur w.heap.size w1.heap.size (w.heap.size + 1) 0 Y by
  have hXs := HX.out.2.2.1
  have hw1 := HO.out.2.2.size
  have hl : ow.length = 4 := by rw [HO.out.1, List.length_map]; exact HP.out.2.2.2.2.1.len
  rw [hY]
  refine ⟨⟨ow, ⟨u1, HC.out.1.2.2.2, ?_, hl⟩, fun j _ => by rw [if_neg (by omega)]⟩, ?_, ?_, HC.out.1.2.1⟩
  · have hb := HC.out.1.2.2.1
    exact ⟨HO.out.2.1.no, fun k hk => (HO.out.2.1.fi k hk).grow hb (Nat.le_refl _) (by omega), fun k hk => (HO.out.2.1.la k hk).grow hb (Nat.le_refl _) (by omega)⟩
  · exact (HC.out.1.2.2.1.block _ (by omega)).trans ((HO.out.2.2.block _ (by omega)).trans HX.out.1)
  · exact (HC.out.1.2.2.1.block _ (by omega)).trans ((HO.out.2.2.block _ (by omega)).trans HX.out.2.1))
 have HLB := hideT (fun (V : World) (hV : Below w.heap.size w V) => keep_cell hV HP.out.1)
 have HW := hideT (show w.heap.size + 1 < w1.heap.size by have := HX.out.2.2.1; have := HO.out.2.2.size; omega)
 have HOK := hideT (show EsOk (n + base) ow ∧ EsOk n rest ∧ n + base ≤ 100000 ∧ (∀ V : World, Below w.heap.size w V → EsR V S2 ur rest) ∧ ∀ g, S2 g → g < w.heap.size from ⟨by
   rw [HO.out.1]
   exact ⟨by rw [List.length_map]; exact HP.out.2.2.2.2.1.len, fun e he => by
    obtain ⟨e0, h0, rfl⟩ := List.mem_map.1 he
    exact ⟨(HP.out.2.2.2.2.1.ok e0 h0).1.upS (by omega), (HP.out.2.2.2.2.1.ok e0 h0).2.upS (by omega)⟩⟩, HP.out.2.2.2.1, HP.out.2.2.2.2.2, fun V hV => HP.out.2.1.keep (fun g hg => (hV.block g (HP.out.2.2.1 g hg)).trans (HX.out.2.2.2.block g (HP.out.2.2.1 g hg)).symm) fun _ h => h, HP.out.2.2.1⟩)
 simp only [Act.put]
 show Code.wp _ _ _ _ ((w1.alloc z12).setCells w1.heap.size 0 (lst12 u1))
 rw [← hY]
 generalize w1.heap.size = C at *
 have HOW := hideT HO.out.1
 clear hY HC HX HP HO
 go_wp2_with fail
 go_loopw [11] (fun iv wr => ∃ k : Nat, k ≤ 4 ∧ iv = .int .i64 k ∧ Hid (AhR w free ow rest ur w.heap.size C (w.heap.size + 1) k wr)) (fun iv _ => (4 - intOf iv).toNat)
 case atStart => exact ⟨0, by omega, rfl, HY⟩
 case round =>
  obtain ⟨k, hk, rfl, HR⟩ := hrel
  by_cases hlt : k < 4
  · have i1 : (k : Int) < 4 := by omega
    have i2 : (0 : Int) ≤ (k : Int) := by omega
    obtain ⟨es0, he0, hes⟩ := HR.out.own
    obtain ⟨vf, vl, m0, m1, m2, rf, rl, mf⟩ := he0.cells hlt
    have r0 := (cells_at HR.out.rest (lst12_get ur (show k * 3 < 12 by omega))).1
    have r1 := (cells_at HR.out.rest (lst12_get ur (show k * 3 + 1 < 12 by omega))).1
    have r2 := (cells_at HR.out.rest (lst12_get ur (show k * 3 + 2 < 12 by omega))).1
    go_upto_region 5 with fail
    rename_i K5 hK5
    refine wp_region_held (S := fun V : World => V.cell? ⟨w.heap.size, k * 3, none⟩ = some (ur (k * 3)) ∧ V.cell? ⟨w.heap.size, k * 3 + 1, none⟩ = some (ur (k * 3 + 1)) ∧ V.cell? ⟨w.heap.size, k * 3 + 2, none⟩ = some (ur (k * 3 + 2))) (by kernel_rfl) ?_
    have hS0 : wr.drew.cell? ⟨w.heap.size, k * 3, none⟩ = some (ur (k * 3)) ∧ wr.drew.cell? ⟨w.heap.size, k * 3 + 1, none⟩ = some (ur (k * 3 + 1)) ∧ wr.drew.cell? ⟨w.heap.size, k * 3 + 2, none⟩ = some (ur (k * 3 + 2)) := ⟨r0, r1, r2⟩
    refine tq 0 14 hS0 ?_
    refine tq 1 15 hS0 ?_
    refine tq 2 16 hS0 ?_
    refine tq 3 17 hS0 ?_
    refine tq 4 18 hS0 ?_
    simp only [Act.put, List.setIfInBounds_toArray, List.set_cons_zero, List.set_cons_succ]
    refine wpAnyH_all (rs := [5]) (by kernel_rfl) (by simp) (fun j hj => ?_)
    obtain rfl : j = 5 := List.mem_singleton.1 hj
    clear hj
    have hcp := copy3 (X := wr.drew) (ur (k * 3)) (ur (k * 3 + 1)) (ur (k * 3 + 2))
    rw [show wr.drew.heap.size = wr.heap.size from rfl] at hcp
    have hb5 := (Below.refl wr.drew.heap.size wr.drew).alloc (Nat.le_refl _) (.cells #[.bool false, .slice none 0 0, .slice none 0 0] 83)
    have hS1 := And.intro (keep_cell hb5 hS0.1) (And.intro (keep_cell hb5 hS0.2.1) (keep_cell hb5 hS0.2.2))
    refine op_value (some 8) rfl rfl (by rfl) (v := .pointer (some ⟨wr.heap.size, 0, none⟩)) (w' := wr.drew.alloc (.cells #[.bool false, .slice none 0 0, .slice none 0 0] 83)) (by go_simp; (try rfl)) ⟨hS1, ?_⟩
    simp only [Act.put, List.setIfInBounds_toArray, List.set_cons_zero, List.set_cons_succ]
    refine tq 6 7 hS1 ?_
    simp only [Act.put, List.setIfInBounds_toArray, List.set_cons_zero, List.set_cons_succ]
    refine wpAnyH_all (rs := [7]) (by kernel_rfl) (by simp) (fun j hj => ?_)
    obtain rfl : j = 7 := List.mem_singleton.1 hj
    clear hj
    have hE4 := HOK.out.2.2.2.1 wr HR.out.bel
    have one3 : (#[ur (k * 3), ur (k * 3 + 1), ur (k * 3 + 2)] : Array Value).all (·.oneCell') = true := by
     simp [hE4.one (show k * 3 < 12 by omega), hE4.one (show k * 3 + 1 < 12 by omega), hE4.one (show k * 3 + 2 < 12 by omega)]
    refine op_store 83 8 18 wr.heap.size [ur (k * 3), ur (k * 3 + 1), ur (k * 3 + 2)] rfl rfl rfl rfl rfl rfl hcp.1 (by rw [info_ed]; rfl) one3 ?_
    refine ⟨And.intro (keep_cell hcp.2.1 hS0.1) (And.intro (keep_cell hcp.2.1 hS0.2.1) (keep_cell hcp.2.1 hS0.2.2)), ?_⟩
    have HM0 := hideT (HR.out.mid hlt (by have := HW.out; omega) ((drew_below _ wr).trans hcp.2.1) hcp.2.2)
    have HNE := hideT (show wr.heap.size ≠ C from (HR.out.mid hlt (by have := HW.out; omega) ((drew_below _ wr).trans hcp.2.1) hcp.2.2).ne.2.2.1)
    refine wpAnyH_done (by kernel_rfl) (hK5 _ _ ?_) _
    have HI := hideT hlt
    clear hS0 hS1 hb5 hK5 hcp r0 r1 r2 m0 m1 m2 rf rl mf he0 hes hE4 one3 hlt hk
    simp only [Act.put]
    generalize (wr.drew.alloc (.cells #[.bool false, .slice none 0 0, .slice none 0 0] 83)).setCells wr.heap.size 0 [ur (k * 3), ur (k * 3 + 1), ur (k * 3 + 2)] = Z at *
    generalize wr.heap.size = m at *
    obtain ⟨rn, hrn⟩ : ∃ rn, rn = (eat rest k).no := ⟨_, rfl⟩
    have hun : ur (k * 3) = .bool rn := by rw [hrn]; exact (HOK.out.2.2.2.1 w (Below.refl _ _)).no k HI.out
    obtain ⟨fa, fc, huf⟩ := ((HOK.out.2.2.2.1 w (Below.refl _ _)).fi k HI.out).shape
    obtain ⟨la, lc, hul⟩ := ((HOK.out.2.2.2.1 w (Below.refl _ _)).la k HI.out).shape
    obtain ⟨vf, vl, m0, m1, m2, rf, rl, mf, z0, z1, z2⟩ := HM0.out.cells
    rw [hun] at z0
    obtain ⟨va, vc, hvv⟩ := rl.shape
    rw [hvv] at m2
    have f2 := mf (k * 3 + 2)
    have HU := hideT (And.intro hrn (And.intro hun (And.intro huf hul)))
    clear m0 m1 mf rf rl z1 z2 hun huf hul hrn hvv
    go_upto_if 21 with fail
    go_cut [] from 12 to 67 (fun V => Hid (AhM w free ow rest ur w.heap.size C (w.heap.size + 1) k m ⟨(eat ow k).no, (eat ow k).fi, bif rn then (eat ow k).la else []⟩ V))
    case first =>
     cases rn
     · have HN := hideT (HM0.out.set (Below.refl _ _) 2 (by decide) (v := .slice none 0 0) (E' := ⟨(eat ow k).no, (eat ow k).fi, []⟩) rfl rfl (.inl ⟨rfl, rfl⟩))
       go_wp2
       go_meet
       exact HN
     · go_wp2
       go_meet
       exact HM0
    case rest =>
    clear HM0 z0 m2 f2
    have HM1 := hcut
    clear hcut
    obtain ⟨laE, hlaE⟩ : ∃ laE, laE = (bif rn then (eat ow k).la else []) := ⟨_, rfl⟩
    rw [← hlaE] at HM1
    have hoE : StOk (n + base) laE := by
     rw [hlaE]
     cases rn
     · exact StOk.nil _
     · exact (HOK.out.1.at k).2
    have HLE := hideT (And.intro hlaE hoE)
    clear hlaE hoE
    go_upto_region 8 with fail
    rename_i K8 hK8
    obtain ⟨vf, vl, m0, m1, m2, rf, rl, mf, z0, z1, z2⟩ := HM1.out.cells
    obtain ⟨va, vc, hvv⟩ := rl.shape
    rw [hvv] at rl m2
    have hrx := HOK.out.2.2.2.1 wc.drew (HM1.out.bel.trans (drew_below _ _))
    have hsum := sum_any (w := wc.drew) (S := fun g => g < wc.heap.size) ((rl.keep (W' := wc.drew) (fun _ _ => rfl) fun _ h => h.2)) ((hrx.la k HI.out).sub fun g hg => Nat.lt_of_lt_of_le (HOK.out.2.2.2.2 g hg) HM1.out.bel.size) (fun _ h => h) HLE.out.2 (((HOK.out.2.1.at k).2).mono (Nat.le_add_right n base)) HOK.out.2.2.1
    have hS0 : wc.drew.cell? ⟨m, 2, none⟩ = some (ur (k * 3 + 2)) := z2
    have n1 : wc.drew.cell? ⟨C, k * 3 + 2, none⟩ = _ := m2
    have n2 : wc.drew.frozen? ⟨C, k * 3 + 2, none⟩ = false := mf _
    clear m0 m1 m2 z0 z1 z2 mf rf rl hrx
    refine wp_region_held (S := fun V : World => V.cell? ⟨m, 2, none⟩ = some (ur (k * 3 + 2))) (by kernel_rfl) ?_
    refine tq 0 25 hS0 ?_
    refine tq 1 26 hS0 ?_
    refine tq 2 27 hS0 ?_
    refine tq 3 28 hS0 ?_
    refine tq 5 30 hS0 ?_
    refine tq 6 31 hS0 ?_
    simp only [Act.put, List.setIfInBounds_toArray, List.set_cons_zero, List.set_cons_succ]
    refine wpAnyH_all (rs := [4]) (by kernel_rfl) (by simp) (fun j hj => ?_)
    obtain rfl : j = 4 := List.mem_singleton.1 hj
    clear hj
    refine op_value (some 29) rfl rfl (by rfl) (by go_simp; (try with_reducible rfl)) ⟨hS0, ?_⟩
    simp only [Act.put, List.setIfInBounds_toArray, List.set_cons_zero, List.set_cons_succ]
    refine wpAnyH_all (rs := [7]) (by kernel_rfl) (by simp) (fun j hj => ?_)
    obtain rfl : j = 7 := List.mem_singleton.1 hj
    clear hj
    refine op_call (R := fun v w2 => w2.ownsRow wc.heap.size 95 2 v (sumS laE (eat rest k).la).length (stV (sumS laE (eat rest k).la)) ∧ Below wc.heap.size wc.drew w2) (f := 47) (some 32) rfl rfl (by rfl) (by go_simp; (try with_reducible rfl)) (hsum.mono ?_) ?_
    · rintro e w2 ⟨v, rfl, h1, h2⟩
      exact ⟨_, rfl, h1, h2⟩
    rintro v w2 ⟨h1, h2⟩
    obtain ⟨va2, vc2, rfl⟩ := row_shape h1
    have l1 := keep_cell h2 n1
    have l2 := keep_frozen h2 (World.block_lt_of_cell? _ _ n1) n2
    have hS1 := keep_cell h2 hS0
    refine ⟨hS1, ?_⟩
    have HM8 := hideT (HM1.out.set ((drew_below _ wc).trans h2) 2 (by decide) (E' := ⟨(eat ow k).no, (eat ow k).fi, sumS laE (eat rest k).la⟩) rfl rfl ((stR_new h1).sub fun g hg => ⟨Nat.le_trans HM1.out.bel.size hg.1, hg.2⟩))
    have hz9 := keep_cell_other (b := C) (j := k * 3 + 2) (x := .slice va2 (sumS laE (eat rest k).la).length vc2) HNE.out hS1
    clear hsum h1 h2 hS0 n1 n2
    simp only [Act.put, List.setIfInBounds_toArray, List.set_cons_zero, List.set_cons_succ]
    refine tq 8 33 hS1 ?_
    refine tq 9 34 hS1 ?_
    simp only [Act.put, List.setIfInBounds_toArray, List.set_cons_zero, List.set_cons_succ]
    refine wpAnyH_all (rs := [10]) (by kernel_rfl) (by simp) (fun j hj => ?_)
    obtain rfl : j = 10 := List.mem_singleton.1 hj
    clear hj
    refine op_skip rfl rfl (by rfl) (w' := w2.setCell ⟨C, k * 3 + 2, none⟩ (.slice va2 (sumS laE (eat rest k).la).length vc2)) (by go_simp; (try with_reducible rfl)) ⟨hz9, ?_⟩
    refine wpAnyH_done (by kernel_rfl) (hK8 _ _ ?_) _
    clear l1 l2 hS1 hz9 hK8
    simp only [Act.put]
    generalize w2.setCell ⟨C, k * 3 + 2, none⟩ (.slice va2 (sumS laE (eat rest k).la).length vc2) = Z8 at *
    have hfr := HLB.out Z8 HM8.out.bel
    obtain ⟨vf, vl, m0, m1, m2, rf, rl, mf, z0, z1, z2⟩ := HM8.out.cells
    have f0 := mf (k * 3)
    clear m1 m2 mf rf rl z0 z1 z2
    go_upto_if 38 with fail
    cases free
    case true =>
     have HN := hideT (AhM.done (free := true) (by
      have := HM8.out.set (Below.refl _ _) 0 (by decide) (v := .bool true) (E' := ⟨true, (eat ow k).fi, sumS laE (eat rest k).la⟩) rfl rfl rfl
      rw [HLE.out.1, HU.out.1] at this
      exact this))
     go_wp2_with fail
     go_roundw
     case rel => exact ⟨k + 1, HI.out, by go_num, HN⟩
     case measure => simp [intOf]; have := HI.out; omega
    case false =>
    go_upto_if 45 with fail
    obtain ⟨on, hon⟩ : ∃ on, on = (eat ow k).no := ⟨_, rfl⟩
    rw [← hon] at m0 HM8
    rw [← hon]
    have HON := hideT hon
    clear hon
    go_cut [] from 12 to 67 (fun V => Hid (AhM w false ow rest ur w.heap.size C (w.heap.size + 1) k m ⟨on, bif on then sumS (eat ow k).fi (eat rest k).fi else (eat ow k).fi, sumS laE (eat rest k).la⟩ V))
    case first =>
     cases on
     · go_wp2
       go_meet
       exact HM8
     · go_upto_region 12 with fail
       obtain ⟨vf, vl, m0, m1, m2, rf, rl, mf, z0, z1, z2⟩ := HM8.out.cells
       obtain ⟨va, vc, hvv⟩ := rf.shape
       rw [hvv] at rf m1
       have hrx := HOK.out.2.2.2.1 Z8.drew (HM8.out.bel.trans (drew_below _ _))
       have hsum := sum_any (w := Z8.drew) (S := fun g => g < Z8.heap.size) ((rf.keep (W' := Z8.drew) (fun _ _ => rfl) fun _ h => h.2)) ((hrx.fi k HI.out).sub fun g hg => Nat.lt_of_lt_of_le (HOK.out.2.2.2.2 g hg) HM8.out.bel.size) (fun _ h => h) (HOK.out.1.at k).1 (((HOK.out.2.1.at k).1).mono (Nat.le_add_right n base)) HOK.out.2.2.1
       have hS0 : Z8.drew.cell? ⟨m, 1, none⟩ = some (ur (k * 3 + 1)) := z1
       have n1 : Z8.drew.cell? ⟨C, k * 3 + 1, none⟩ = _ := m1
       have n2 : Z8.drew.frozen? ⟨C, k * 3 + 1, none⟩ = false := mf _
       clear m0 m1 m2 z0 z1 z2 mf rf rl hrx
       refine wp_region_held (S := fun V : World => V.cell? ⟨m, 1, none⟩ = some (ur (k * 3 + 1))) (by kernel_rfl) ?_
       refine tq 0 46 hS0 ?_
       refine tq 1 47 hS0 ?_
       refine tq 2 48 hS0 ?_
       refine tq 3 49 hS0 ?_
       refine tq 5 51 hS0 ?_
       refine tq 6 52 hS0 ?_
       simp only [Act.put, List.setIfInBounds_toArray, List.set_cons_zero, List.set_cons_succ]
       refine wpAnyH_all (rs := [4]) (by kernel_rfl) (by simp) (fun j hj => ?_)
       obtain rfl : j = 4 := List.mem_singleton.1 hj
       clear hj
       refine op_value (some 50) rfl rfl (by rfl) (by go_simp; (try with_reducible rfl)) ⟨hS0, ?_⟩
       simp only [Act.put, List.setIfInBounds_toArray, List.set_cons_zero, List.set_cons_succ]
       refine wpAnyH_all (rs := [7]) (by kernel_rfl) (by simp) (fun j hj => ?_)
       obtain rfl : j = 7 := List.mem_singleton.1 hj
       clear hj
       refine op_call (R := fun v w2 => w2.ownsRow Z8.heap.size 95 2 v (sumS (eat ow k).fi (eat rest k).fi).length (stV (sumS (eat ow k).fi (eat rest k).fi)) ∧ Below Z8.heap.size Z8.drew w2) (f := 47) (some 53) rfl rfl (by rfl) (by go_simp; (try with_reducible rfl)) (hsum.mono ?_) ?_
       · rintro e w2 ⟨v, rfl, h1, h2⟩
         exact ⟨_, rfl, h1, h2⟩
       rintro v w2 ⟨h1, h2⟩
       obtain ⟨va2, vc2, rfl⟩ := row_shape h1
       have l1 := keep_cell h2 n1
       have l2 := keep_frozen h2 (World.block_lt_of_cell? _ _ n1) n2
       have hS1 := keep_cell h2 hS0
       refine ⟨hS1, ?_⟩
       have HM12 := hideT (HM8.out.set ((drew_below _ Z8).trans h2) 1 (by decide) (E' := ⟨true, sumS (eat ow k).fi (eat rest k).fi, _⟩) rfl ((stR_new h1).sub fun g hg => ⟨Nat.le_trans HM8.out.bel.size hg.1, hg.2⟩) rfl)
       have hz9 := keep_cell_other (b := C) (j := k * 3 + 1) (x := .slice va2 (sumS (eat ow k).fi (eat rest k).fi).length vc2) HNE.out hS1
       clear hsum h1 h2 hS0 n1 n2
       simp only [Act.put, List.setIfInBounds_toArray, List.set_cons_zero, List.set_cons_succ]
       refine tq 8 54 hS1 ?_
       refine tq 9 55 hS1 ?_
       simp only [Act.put, List.setIfInBounds_toArray, List.set_cons_zero, List.set_cons_succ]
       refine wpAnyH_all (rs := [10]) (by kernel_rfl) (by simp) (fun j hj => ?_)
       obtain rfl : j = 10 := List.mem_singleton.1 hj
       clear hj
       refine op_skip rfl rfl (by rfl) (w' := w2.setCell ⟨C, k * 3 + 1, none⟩ (.slice va2 (sumS (eat ow k).fi (eat rest k).fi).length vc2)) (by go_simp; (try with_reducible rfl)) ⟨hz9, ?_⟩
       refine wpAnyH_done (by kernel_rfl) ?_ _
       clear l1 l2 hS1 hz9
       simp only [Act.put]
       generalize w2.setCell ⟨C, k * 3 + 1, none⟩ (.slice va2 (sumS (eat ow k).fi (eat rest k).fi).length vc2) = Z12 at *
       go_wp2_with fail
       go_meet
       exact HM12
    case rest =>
    clear HM8 m0 f0 hfr
    have HM9 := hcut
    clear hcut
    obtain ⟨vf, vl, m0, m1, m2, rf, rl, mf, z0, z1, z2⟩ := HM9.out.cells
    rw [HU.out.2.1] at z0
    have f0 := mf (k * 3)
    have HN := hideT (show AhR w false ow rest ur w.heap.size C (w.heap.size + 1) (k + 1) (wc.setCell ⟨C, k * 3, none⟩ (.bool (on && rn))) from AhM.done (free := false) (by
      have h := HM9.out.set (Below.refl _ _) 0 (by decide) (v := .bool (on && rn)) (E' := ⟨on && rn, bif on then sumS (eat ow k).fi (eat rest k).fi else (eat ow k).fi, sumS laE (eat rest k).la⟩) rfl rfl rfl
      have e : (⟨on && rn, bif on then sumS (eat ow k).fi (eat rest k).fi else (eat ow k).fi, sumS laE (eat rest k).la⟩ : Ed) = aheadE false (eat ow k) (eat rest k) := by rw [HLE.out.1, HU.out.1, HON.out]; rfl
      rw [e] at h
      exact h))
    clear m1 m2 mf rf rl z1 z2
    cases on
    · go_wp2_with fail
      go_roundw
      case rel => exact ⟨k + 1, HI.out, by go_num, HN⟩
      case measure => simp [intOf]; have := HI.out; omega
    · go_wp2_with fail
      go_roundw
      case rel => exact ⟨k + 1, HI.out, by go_num, HN⟩
      case measure => simp [intOf]; have := HI.out; omega
  · obtain rfl : k = 4 := by omega
    have hd := HR.out.done (by rw [HOK.out.1.len]) (by rw [HOK.out.2.1.len]) (by have := HW.out; omega)
    obtain ⟨uu, h1, h2, h3, h4⟩ := hd
    have h5 := HR.out.res
    rw [HOW.out] at h3
    have H3 := hideT (And.intro h3 h4)
    clear h3 h4 hlt hk HLB HOK
    go_upto_region 15 with fail
    refine ret_part (b := C) (b' := w.heap.size + 1) (cs := lst12 uu) (zs := zl12) rfl (by assumption) rfl rfl (by decide) rfl h1 h5 rfl rfl h2 rfl rfl ⟨uu, rfl, H3.out.1, H3.out.2⟩
end Go.Proofs.Ytolpakpdkheanaa.tly
