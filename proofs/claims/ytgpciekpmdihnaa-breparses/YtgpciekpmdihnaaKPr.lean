/- A range over a function whose values hang on how far it has come: the loop's law for a machine of states. -/
import Derived.Test.YtgpciekpmdihnaaKPlain
import Derived.RangeFuncNested
import Derived.RangeFuncBound
import Derived.RangeFuncCalls
import Derived.RangeFuncLeaves
import Derived.RangeFuncBox
namespace Go.Proofs.Ytgpciekpmdihnaa
open Go.RowKit

/-- The function g, called with a loop's yield, yields 'encs s' at state s as long as 'go s' holds, goes on to 'nx s' where the loop goes on, and returns. -/
def Feeds {σ : Type} (n : Nat) (P : Program) (g : Nat) (lb : Array Value) (encs : σ → Array Value) (go : σ → Prop) (nx : σ → σ) (Kp : World → World → Prop) (s0 : σ) (w : World) : Prop :=
  ∀ (l : Nat) (J Jx : σ → World → Prop) (W : World), Below w.heap.size w W → AbidesFrom W.heap.size J →
    (∀ s W1, go s → J s W1 → YieldAt Fence.wide (n - 1) P l (encs s) W1 fun e W' => (e = .returned (.bool true) ∧ J (nx s) W' ∧ Kp W1 W') ∨ (e = .returned (.bool false) ∧ Jx s W')) →
    J s0 W → CallsIn Fence.wide n P g (#[.func (.yield l) #[] #[]] ++ lb) W fun e W' => (∃ v, e = .returned v) ∧ ((∃ s, ¬ go s ∧ J s W') ∨ ∃ s, Jx s W')

/-- How the body may be left: it goes on, or it returns. -/
def roundEnds (B : Nat) (Kp : World → World → Prop) (I Ix : World → Prop) (W : World) : Exit → Act → World → Prop
  | .normal, _, W' => KeepsFrom B W W' ∧ Kp W W' ∧ I W'
  | .ret, _, W' => KeepsFrom B W W' ∧ Ix W'
  | _, _, _ => False

theorem range_feed {σ : Type} {n : Nat} {P : Program} {g : Operand} {ps : Array Tmp} {assign body : Code} {Q : Exit → Act → World → Prop} {a : Act} {w : World} (h1 : 1 ≤ n) {gf : Nat} {lb : Array Value} (hg : a.eval g = .func (.func gf) #[] lb) (eg : ∀ args w, (callFunc gf args).run P w = .ok (.enter gf args) w)
    {encs : σ → Array Value} {go : σ → Prop} {nx : σ → σ} {Kp : World → World → Prop} {s0 : σ} (hfeed : Feeds (n - 1) P gf lb encs go nx Kp s0 w) (hps : ∀ s, (encs s).size = ps.size)
    (hKt : ∀ {A B C : World}, Kp A B → Kp B C → Kp A C) (hKb : ∀ (W : World) (l : Nat) (o o' : Obj), w.heap.size ≤ l → W.heap[l]? = some o → o.isCells = false → Kp W (W.putObj l o'))
    (I Ix : σ → World → Prop) (hI : OwnFrom w.heap.size I) (hIx : OwnFrom w.heap.size Ix) (h0 : I s0 w) (Ax : σ → Act → World → Prop) (hAx : ∀ s a', OwnFrom w.heap.size (fun (_ : Unit) W => Ax s a' W))
    (hassign : ∀ (l : Nat) (s : σ) (W : World) (K : Act → World → Prop), go s → I s W → (∀ a' W', KeepsFrom w.heap.size W W' → Kp W W' → I s W' → Ax s a' W' → K a' W') →
      assign.wpIn (Fence.wide.inRound l) (n - 1 - 1) P (Exit.then K (fun _ _ _ => False)) { tmps := (ps.zip (encs s)).foldl (fun t (p, v) => t.setIfInBounds p v) a.tmps, defers := [] } W)
    (hbody : ∀ (l : Nat) (s : σ) (a' : Act) (W : World), go s → I s W → Ax s a' W → body.wpIn (Fence.wide.inRound l) (n - 1 - 1) P (roundEnds w.heap.size Kp (I (nx s)) (Ix s) W) a' W)
    (hdone : ∀ (D : Nat) (s : σ) (W : World), w.heap.size ≤ D → ¬ go s → I s W → W.heap[D]? = some (.deferred (some [])) → Q .normal { a with defers := { target := .collected D, args := #[] } :: a.defers } W)
    (hstop : ∀ (D : Nat) (s : σ) (W : World), w.heap.size ≤ D → Ix s W → W.heap[D]? = some (.deferred (some [])) → Code.ret.wpIn Fence.wide n P Q { a with defers := { target := .collected D, args := #[] } :: a.defers } W) :
    (Code.rangeFunc g ps assign body).wpIn Fence.wide n P Q a w := by
  refine wpIn_rangeFunc fun fn hfn => ?_
  obtain ⟨L, hL⟩ : ∃ L : Loop, L = { state := .ready, pending := none, fn, tmps := a.tmps, params := ps, assign, body, defers := w.heap.size } := ⟨_, rfl⟩
  obtain ⟨d, hd⟩ : ∃ d, d = w.heap.size := ⟨_, rfl⟩
  obtain ⟨X, hX⟩ : ∃ X, X = (w.alloc (.deferred (some []))).alloc (.loop L) := ⟨_, rfl⟩
  have hrec : X.heap[d + 1]? = some (.loop L) := by
    have h := World.alloc_heap_new (w.alloc (.deferred (some []))) (.loop L)
    rw [World.size_alloc] at h
    rw [hX, hd]
    exact h
  have hblk : X.heap[d]? = some (.deferred (some [])) := by
    rw [hX, hd]
    exact (Below.heap_alloc _ _ _ (by rw [World.size_alloc]; omega)).trans (World.alloc_heap_new w _)
  have hIX : I s0 X := by
    rw [hX]
    exact hI.alloc _ (hI.alloc _ h0)
  have hwX : Below w.heap.size w X := by
    rw [hX]
    exact ((Below.refl _ w).alloc (Nat.le_refl _) _).alloc (by rw [World.size_alloc]; omega) _
  have hXs : X.heap.size = d + 2 := by rw [hX, World.size_alloc, World.size_alloc, hd]
  refine ⟨d + 1, [{ target := .collected d, args := #[] }], X, { target := .fn (.func gf) lb, args := #[.func (.yield (d + 1)) #[] #[]] }, X, gf, #[.func (.yield (d + 1)) #[] #[]] ++ lb, X, ?_, ?_, ?_, ?_, fun _ => h1, ?_⟩
  · rw [hX, hL, hd]
    exact run_enterLoop_outer _ _ _ _ _
  · simp only [resolve, hg]
    simp [go_sem]
  · intro f' _
    trivial
  · simp [invoke, go_sem, eg]
  -- the states, with the loop's two blocks beside them
  have turn : ∀ {A B : World} {row : Option Nat}, (∀ r, row = some r → X.heap.size ≤ r ∧ ∃ o : Obj, A.heap[r]? = some o ∧ o.isWalk = true) → ∀ r, row = some r → w.heap.size ≤ r ∧ ∃ o : Obj, A.heap[r]? = some o ∧ o.isCells = false :=
    fun {A B row} hr r e => by
      obtain ⟨q1, o, q2, q3⟩ := hr r e
      exact ⟨by omega, o, q2, Obj.not_cells_of_walk q3⟩
  have hc := hfeed (d + 1) (fun s W => I s W ∧ W.heap[d + 1]? = some (.loop L) ∧ W.heap[d]? = some (.deferred (some []))) (fun s W => Ix s W ∧ W.heap[d + 1]? = some (.loop { L with state := .done, pending := some .ret }) ∧ W.heap[d]? = some (.deferred (some []))) X hwX
    (fun s A B row hs hgr hr => ⟨hI s A B row hs.1 hgr (turn (B := B) hr), (grownBy_keeps hgr (fun r e => (hr r e).2) hs.2.1 rfl).trans hs.2.1, (grownBy_keeps hgr (fun r e => (hr r e).2) hs.2.2 rfl).trans hs.2.2⟩) ?_ ⟨hIX, hrec, hblk⟩
  · refine hc.mono ?_
    rintro e W2 ⟨⟨v, rfl⟩, ⟨s, hng, hi, hl, hk⟩ | ⟨s, hi, hl, hk⟩⟩
    · refine ⟨none, _, (run_endLoop (P := P) hl (by rw [hL]; simp)).trans (by rw [hL]), ?_⟩
      exact hdone d s _ (by omega) hng (hI.putObj _ hi (by omega) hl rfl) ((World.putObj_heap_other (by omega)).trans hk)
    · refine ⟨some .ret, _, run_endLoop (P := P) hl (by simp), ?_⟩
      exact hstop d s _ (by omega) (hIx.putObj _ hi (by omega) hl rfl) ((World.putObj_heap_other (by omega)).trans hk)
  -- one round
  rintro s W hgo ⟨hi, hl, hk⟩
  have hy := run_yield (P := P) (args := encs s) hl (by rw [hL]; exact hps s)
  rw [hL] at hy
  refine ⟨fn, _, assign, body, hy, roundIn_of_wpIn hfn (hassign _ s W _ hgo hi fun a' V hkf hkp hiV hax => ?_)⟩
  have hlV := hkf.same _ _ (by omega) hl rfl
  have hkV := hkf.same _ _ (by omega) hk rfl
  have hltV : d + 1 < V.heap.size := (Array.getElem?_eq_some_iff.1 hlV).1
  refine ⟨_, run_beginRound hlV (by rw [hL]), ?_⟩
  have hlB : (V.putObj (d + 1) (.loop { L with state := .busy })).heap[d + 1]? = some (.loop { L with state := .busy }) := World.putObj_heap_same hltV
  have hkB : (V.putObj (d + 1) (.loop { L with state := .busy })).heap[d]? = some (.deferred (some [])) := (World.putObj_heap_other (by omega)).trans hkV
  refine wpIn_mono (hbody _ s a' _ hgo (hI.putObj _ hiV (by omega) hlV rfl) ((hAx s a').putObj (s := ()) _ hax (by omega) hlV rfl)) ?_
  intro e a3 W3 hp
  cases e with
  | normal =>
    obtain ⟨p1, p2, p3⟩ := hp
    have hl3 := p1.same _ _ (by omega) hlB rfl
    have hk3 := p1.same _ _ (by omega) hkB rfl
    refine ⟨_, _, run_endRound (P := P) none hl3, .inl ⟨rfl, ⟨hI.putObj _ p3 (by omega) hl3 rfl, ?_, ?_⟩, ?_⟩⟩
    · rw [World.putObj_heap_same (Array.getElem?_eq_some_iff.1 hl3).1, hL]
      rfl
    · exact (World.putObj_heap_other (by omega)).trans hk3
    · exact hKt hkp (hKt (hKb _ _ _ _ (by omega) hlV rfl) (hKt p2 (hKb _ _ _ _ (by omega) hl3 rfl)))
  | ret =>
    obtain ⟨p1, p2⟩ := hp
    have hl3 := p1.same _ _ (by omega) hlB rfl
    have hk3 := p1.same _ _ (by omega) hkB rfl
    refine ⟨_, _, run_endRound (P := P) (some .ret) hl3, .inr ⟨rfl, hIx.putObj _ p2 (by omega) hl3 rfl, ?_, ?_⟩⟩
    · rw [World.putObj_heap_same (Array.getElem?_eq_some_iff.1 hl3).1]
      rfl
    · exact (World.putObj_heap_other (by omega)).trans hk3
  | exit id => exact hp.elim
  | goto t => exact hp.elim
  | panic c => exact hp.elim
  | outgrown => exact hp.elim
end Go.Proofs.Ytgpciekpmdihnaa
