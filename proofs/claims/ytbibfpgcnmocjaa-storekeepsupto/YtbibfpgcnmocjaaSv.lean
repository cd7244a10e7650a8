/- store: a range over All, whoever the iterator is; Files. -/
import Derived.Test.YtbibfpgcnmocjaaSu
namespace Go.Proofs.Ytbibfpgcnmocjaa
open Go.RowKit Go.Shelf

theorem owns_blk {W : World} {B e size n : Nat} {v : Value} {xs : List Value} (h : W.ownsRow B e size v n xs) {g : Nat} (hg : v.ownBlock = some g) : B ≤ g ∧ g < W.heap.size ∧ ∃ cur, W.heap[g]? = some (.cells cur e (0, 0)) := by
  rcases h.2 with ⟨rfl, _⟩ | ⟨g', cap', cur, rfl, hb, hh, _⟩
  · cases hg
  · cases hg
    exact ⟨hb, (Array.getElem?_eq_some_iff.1 hh).1, cur, hh⟩

theorem owns_mono {W : World} {B B' e size n : Nat} {v : Value} {xs : List Value} (h : W.ownsRow B e size v n xs) (hb : B' ≤ B) : W.ownsRow B' e size v n xs := by
  obtain ⟨hl, h⟩ := h
  refine ⟨hl, ?_⟩
  rcases h with h | ⟨g, cap, cur, hv, hg, rest⟩
  · exact .inl h
  · exact .inr ⟨g, cap, cur, hv, Nat.le_trans hb hg, rest⟩

theorem owns_not_deferred {W : World} {base : Nat} {e : TypeId} {size : Nat} {v : Value} {n : Nat} {xs : List Value} (h : W.ownsRow base e size v n xs) {D : Nat} {o : Option (List Deferred)} (hK : W.heap[D]? = some (.deferred o)) : v.ownBlock ≠ some D := by
  rcases h.2 with ⟨rfl, -⟩ | ⟨g, cap, cur, rfl, -, hg, -⟩
  · intro e; cases e
  · intro e
    obtain rfl : g = D := by simpa [Value.ownBlock] using e
    rw [hg] at hK
    cases hK

/-- How the body of a round may be left. -/
def endA (B : Nat) (Q : Nat → Prop) (L : Nat) (I : List It → World → Prop) (Ix : Code → List It → World → Prop) (xs : List It) (W : World) : Exit → Act → World → Prop
  | .normal, _, W' => KeepsFrom B W W' ∧ KeepA Q L W W' ∧ I xs W'
  | .exit id, _, W' => KeepsFrom B W W' ∧ KeepA Q L W W' ∧ Ix (.exit id) xs W'
  | _, _, _ => False
theorem keepA_put {Q : Nat → Prop} {L l : Nat} (hL : L ≠ l) (hl : ¬ Q l) (W : World) (o : Obj) : KeepA Q L W (W.putObj l o) := by
  refine ⟨by simp, fun k hk => ⟨⟨hk.1, by simpa using hk.2.1, fun v hv => hk.2.2 v ?_⟩, World.putObj_heap_other (fun e => hl (by rw [← e]; exact hk.1))⟩⟩
  unfold Boxed at hv ⊢
  rwa [World.putObj_heap_other (by exact fun e => hL e)] at hv
theorem its_put {Q : Nat → Prop} {L l : Nat} {W W' : World} (h : ItS Q L W W') (hl : ¬ Q l) (hs : l < W.heap.size) : W'.heap[l]? = W.heap[l]? := h.block l hs (fun hk => hl hk.1)

theorem range_A {n : Nat} {g : Operand} {ps : Array Tmp} {assign body : Code} {Q : Exit → Act → World → Prop} {a : Act} {w : World} (h1 : 2 ≤ n) {fn0 : Nat} {ad : Addr} {L : Nat} {items : List It} {F : Nat → Prop} {P R : World → Prop} (hF : ∀ k, F k → k < w.heap.size)
    (it : ∀ X : World, Below w.heap.size w X → X.heap.size = w.heap.size + 2 → Iter fn0 #[.pointer (some ad)] items (fun k => F k ∨ w.heap.size + 2 ≤ k) L P R X) (hfn0 : ∀ args w, (callFunc fn0 args).run Try.prog w = .ok (.enter fn0 args) w) (hL : L < w.heap.size) (hg : a.eval g = .func (.func fn0) #[] #[.pointer (some ad)]) (hps : ps.size = 2)
    (hRp : ∀ W W', R W → (∀ k, k < w.heap.size → W'.heap[k]? = W.heap[k]?) → R W')
    (I : List It → World → Prop) (Ix : Code → List It → World → Prop) (hA : AbideA (fun k => F k ∨ w.heap.size + 2 ≤ k) L I) (hI : OwnFrom w.heap.size I) (hIx : ∀ c, OwnFrom w.heap.size (Ix c)) (hIB : ∀ pre W1, I pre W1 → P W1) (h0 : I [] w) (a₁ : It → Act)
    (hassign : ∀ (l : Nat) (x : It) (W : World) (K : Act → World → Prop), K (a₁ x) W → assign.wpIn (Fence.wide.inRound l) (n - 1 - 1) Try.prog (Exit.then K (fun _ _ _ => False)) { tmps := (ps.zip (itV x)).foldl (fun t (p, v) => t.setIfInBounds p v) a.tmps, defers := [] } W)
    (hbody : ∀ (l : Nat) (pre : List It) (x : It) (W : World), I pre W → (pre ++ [x] <+: items) → body.wpIn (Fence.wide.inRound l) (n - 1 - 1) Try.prog (endA w.heap.size (fun k => F k ∨ w.heap.size + 2 ≤ k) L I Ix (pre ++ [x]) W) (a₁ x) W)
    (hdone : ∀ (D : Nat) (W : World), w.heap.size ≤ D → I items W → R W → W.heap[D]? = some (.deferred (some [])) → Q .normal { a with defers := { target := .collected D, args := #[] } :: a.defers } W)
    (hstop : ∀ (D : Nat) (c : Code) (pre : List It) (W : World), w.heap.size ≤ D → (pre <+: items) → Ix c pre W → R W → W.heap[D]? = some (.deferred (some [])) → c.wpIn Fence.wide n Try.prog Q { a with defers := { target := .collected D, args := #[] } :: a.defers } W) :
    (Code.rangeFunc g ps assign body).wpIn Fence.wide n Try.prog Q a w := by
  refine wpIn_rangeFunc fun fn hfn => ?_
  obtain ⟨Rc, hR⟩ : ∃ Rc : LoopState → Option Code → Loop, Rc = fun st pe => { state := st, pending := pe, fn, tmps := a.tmps, params := ps, assign, body, defers := w.heap.size } := ⟨_, rfl⟩
  obtain ⟨d, hd⟩ : ∃ d, d = w.heap.size := ⟨_, rfl⟩
  obtain ⟨X, hX⟩ : ∃ X, X = (w.alloc (.deferred (some []))).alloc (.loop (Rc .ready none)) := ⟨_, rfl⟩
  have hrec : X.heap[d + 1]? = some (.loop (Rc .ready none)) := by
    have h := World.alloc_heap_new (w.alloc (.deferred (some []))) (.loop (Rc .ready none))
    rw [World.size_alloc] at h
    rw [hX, hd]
    exact h
  have hblk : X.heap[d]? = some (.deferred (some [])) := by
    rw [hX, hd]
    exact (Below.heap_alloc _ _ _ (by rw [World.size_alloc]; omega)).trans (World.alloc_heap_new w _)
  have hIX : I [] X := by
    rw [hX]
    exact hI.alloc _ (hI.alloc _ h0)
  have hXb : Below w.heap.size w X := by
    rw [hX]
    exact ((Below.refl _ w).alloc (Nat.le_refl _) _).alloc (by rw [World.size_alloc]; omega) _
  have hXs : X.heap.size = d + 2 := by rw [hX, World.size_alloc, World.size_alloc, hd]
  refine ⟨d + 1, [{ target := .collected d, args := #[] }], X, { target := .fn (.func fn0) #[.pointer (some ad)], args := #[.func (.yield (d + 1)) #[] #[]] }, X, fn0, #[.func (.yield (d + 1)) #[] #[]] ++ #[.pointer (some ad)], X, ?_, ?_, ?_, ?_, fun _ => by omega, ?_⟩
  · rw [hX, hR, hd]
    exact run_enterLoop_outer _ _ _ _ _
  · simp only [resolve, hg]
    simp [go_sem]
  · intro f' _
    trivial
  · simp only [invoke, hfn0]
  have hn0 : X.heap.size = w.heap.size + 2 := by omega
  have hQ1 : ¬ (F (d + 1) ∨ w.heap.size + 2 ≤ d + 1) := fun e => e.elim (fun e => by have := hF _ e; omega) (fun e => by omega)
  have hQ0 : ¬ (F d ∨ w.heap.size + 2 ≤ d) := fun e => e.elim (fun e => by have := hF _ e; omega) (fun e => by omega)
  have hc := it X hXb hn0 (n - 1) (d + 1) (fun pre W => I pre W ∧ W.heap[d + 1]? = some (.loop (Rc .ready none)) ∧ W.heap[d]? = some (.deferred (some []))) (fun pre W => ∃ c, Ix c pre W ∧ W.heap[d + 1]? = some (.loop (Rc .done (some c))) ∧ W.heap[d]? = some (.deferred (some []))) (by omega)
    (by
      intro p A B hs2 hit
      have e1 := its_put hit (l := d + 1) hQ1 (Array.getElem?_eq_some_iff.1 hs2.2.1).1
      have e2 := its_put hit (l := d) hQ0 (Array.getElem?_eq_some_iff.1 hs2.2.2).1
      exact ⟨hA p A B hs2.1 hit, e1.trans hs2.2.1, e2.trans hs2.2.2⟩)
    (fun pre W1 h => hIB pre W1 h.1) ?_ ⟨hIX, hrec, hblk⟩
  · refine hc.mono ?_
    rintro e W2 ⟨⟨v, rfl⟩, hr2, ⟨hi, hl, hk⟩ | ⟨pre, hpre, c, hi, hl, hk⟩⟩
    · refine ⟨none, _, (run_endLoop (P := Try.prog) hl (by rw [hR]; simp)).trans (by rw [hR]), ?_⟩
      exact hdone d _ (by omega) (hI.putObj _ hi (by omega) hl rfl) (hRp _ _ hr2 (fun k hk2 => World.putObj_heap_other (by omega))) ((World.putObj_heap_other (by omega)).trans hk)
    · refine ⟨some c, _, (run_endLoop (P := Try.prog) hl (by rw [hR]; simp)).trans (by rw [hR]), ?_⟩
      exact hstop d c pre _ (by omega) hpre ((hIx c).putObj _ hi (by omega) hl rfl) (hRp _ _ hr2 (fun k hk2 => World.putObj_heap_other (by omega))) ((World.putObj_heap_other (by omega)).trans hk)
  -- one round
  rintro pre x W ⟨hi, hl, hk⟩ hpre
  have hlt : d + 1 < W.heap.size := (Array.getElem?_eq_some_iff.1 hl).1
  have hy := run_yield (P := Try.prog) (args := itV x) hl (by rw [hR]; simp [hps, itV])
  rw [hR] at hy
  refine ⟨fn, _, assign, body, hy, roundIn_of_wpIn hfn (hassign _ x W _ ?_)⟩
  refine ⟨_, run_beginRound hl (by rw [hR]), ?_⟩
  have hlB : (W.putObj (d + 1) (.loop { Rc .ready none with state := .busy })).heap[d + 1]? = some (.loop { Rc .ready none with state := .busy }) := World.putObj_heap_same hlt
  have hkB : (W.putObj (d + 1) (.loop { Rc .ready none with state := .busy })).heap[d]? = some (.deferred (some [])) := (World.putObj_heap_other (by omega)).trans hk
  refine wpIn_mono (hbody _ pre x _ (hI.putObj _ hi (by omega) hl rfl) hpre) ?_
  intro e a3 W3 hp
  cases e with
  | normal =>
    obtain ⟨p1, p2, p3⟩ := hp
    have hl3 := p1.same _ _ (by omega) hlB rfl
    have hk3 := p1.same _ _ (by omega) hkB rfl
    refine ⟨_, _, run_endRound (P := Try.prog) none hl3, .inl ⟨rfl, ⟨hI.putObj _ p3 (by omega) hl3 rfl, ?_, ?_⟩, ?_⟩⟩
    · rw [World.putObj_heap_same (Array.getElem?_eq_some_iff.1 hl3).1, hR]
      rfl
    · exact (World.putObj_heap_other (by omega)).trans hk3
    · exact ((keepA_put (by omega) hQ1 W _).trans p2).trans (keepA_put (by omega) hQ1 W3 _)
  | exit id =>
    obtain ⟨p1, p2, p3⟩ := hp
    have hl3 := p1.same _ _ (by omega) hlB rfl
    have hk3 := p1.same _ _ (by omega) hkB rfl
    refine ⟨_, _, run_endRound (P := Try.prog) (some (.exit id)) hl3, .inr ⟨rfl, ⟨.exit id, (hIx _).putObj _ p3 (by omega) hl3 rfl, ?_, ?_⟩, ?_⟩⟩
    · rw [World.putObj_heap_same (Array.getElem?_eq_some_iff.1 hl3).1, hR]
      rfl
    · exact (World.putObj_heap_other (by omega)).trans hk3
    · exact ((keepA_put (by omega) hQ1 W _).trans p2).trans (keepA_put (by omega) hQ1 W3 _)
  | ret => exact hp.elim
  | goto t => exact hp.elim
  | panic c => exact hp.elim
  | outgrown => exact hp.elim
end Go.Proofs.Ytbibfpgcnmocjaa
