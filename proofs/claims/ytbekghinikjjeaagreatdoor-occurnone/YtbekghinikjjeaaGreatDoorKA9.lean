/- KA9 -/
import Derived.Test.YtbekghinikjjeaaGreatDoorRows
import Derived.RangeFuncNested
import Derived.RangeFuncBound
import Derived.RangeFuncCalls
import Derived.RangeFuncLeaves
import Derived.RangeFuncBox
import Derived.Shelf.Abstract
import Derived.WalkKit
import Derived.OwnWalkIn
import Derived.TacticsInMore
import Derived.LoopNIn
import Derived.LoopIn
import Derived.OrdersIn
import Derived.OrdersHeld
import Derived.Test.YtbekghinikjjeaaGreatDoorKA1
import Derived.Shelf.Spec.TrailingZeros
set_option maxRecDepth 100000
set_option maxHeartbeats 4000000
namespace Go.Proofs.YtbekghinikjjeaaGreatDoor.smt
open Go.RowKit
theorem hideT {p : Prop} (h : p) : Hid p := h
theorem keep_cell {W w1 : World} {a : Addr} {v : Value} (hb : Below W.heap.size W w1) (h : W.cell? a = some v) : w1.cell? a = some v := (World.cell?_of_block (hb.block _ (World.block_lt_of_cell? W a h))).trans h
theorem wanted_none {o : Oper} (hg : o.guard = none) (l : Nat → Option Bool) : Region.wanted o l = true := by simp only [Region.wanted, hg]
def Feeds {σ : Type} (n : Nat) (P : Program) (g : Nat) (lb : Array Value) (encs : σ → Array Value) (go : σ → Prop) (nx : σ → σ) (Kp : World → World → Prop) (s0 : σ) (w : World) : Prop :=
 ∀ (l : Nat) (J Jx : σ → World → Prop) (W : World), Below w.heap.size w W → AbidesFrom W.heap.size J →
  (∀ s W1, go s → J s W1 → YieldAt Fence.wide (n - 1) P l (encs s) W1 fun e W' => (e = .returned (.bool true) ∧ J (nx s) W' ∧ Kp W1 W') ∨ (e = .returned (.bool false) ∧ Jx s W')) →
  J s0 W → CallsIn Fence.wide n P g (#[.func (.yield l) #[] #[]] ++ lb) W fun e W' => (∃ v, e = .returned v) ∧ ((∃ s, ¬ go s ∧ J s W') ∨ ∃ s, Jx s W')
def FeedQ (B : Nat) (Kp : World → World → Prop) (I Ix : World → Prop) (W : World) : Exit → Act → World → Prop
 | .normal, _, W' => KeepsFrom B W W' ∧ Kp W W' ∧ I W'
 | .ret, _, W' => KeepsFrom B W W' ∧ Ix W'
 | _, _, _ => False
theorem range_feed {σ : Type} {n : Nat} {P : Program} {g : Operand} {ps : Array Tmp} {assign body : Code} {Q : Exit → Act → World → Prop} {a : Act} {w : World} (h1 : 1 ≤ n) {gf : Nat} {lb : Array Value} (hg : a.eval g = .func (.func gf) #[] lb) (eg : ∀ args w, (callFunc gf args).run P w = .ok (.enter gf args) w)
 {encs : σ → Array Value} {go : σ → Prop} {nx : σ → σ} {Kp : World → World → Prop} {s0 : σ} (hfeed : Feeds (n - 1) P gf lb encs go nx Kp s0 w) (hps : ∀ s, (encs s).size = ps.size)
 (hKt : ∀ {A B C : World}, Kp A B → Kp B C → Kp A C) (hKb : ∀ (W : World) (l : Nat) (o o' : Obj), w.heap.size ≤ l → W.heap[l]? = some o → o.isCells = false → Kp W (W.putObj l o'))
 (I Ix : σ → World → Prop) (hI : OwnFrom w.heap.size I) (hIx : OwnFrom w.heap.size Ix) (h0 : I s0 w) (Ax : σ → Act → World → Prop) (hAx : ∀ s a', OwnFrom w.heap.size (fun (_ : Unit) W => Ax s a' W))
 (hassign : ∀ (l : Nat) (s : σ) (W : World) (K : Act → World → Prop), go s → I s W → (∀ a' W', KeepsFrom w.heap.size W W' → Kp W W' → I s W' → Ax s a' W' → K a' W') →
  assign.wpIn (Fence.wide.inRound l) (n - 1 - 1) P (Exit.then K (fun _ _ _ => False)) { tmps := (ps.zip (encs s)).foldl (fun t (p, v) => t.setIfInBounds p v) a.tmps, defers := [] } W)
 (hbody : ∀ (l : Nat) (s : σ) (a' : Act) (W : World), go s → I s W → Ax s a' W → body.wpIn (Fence.wide.inRound l) (n - 1 - 1) P (FeedQ w.heap.size Kp (I (nx s)) (Ix s) W) a' W)
 (hdone : ∀ (D : Nat) (s : σ) (W : World), w.heap.size ≤ D → ¬ go s → I s W → W.heap[D]? = some (.deferred (some [])) → Q .normal { a with defers := { target := .collected D, args := #[] } :: a.defers } W)
 (hstop : ∀ (D : Nat) (s : σ) (W : World), w.heap.size ≤ D → Ix s W → W.heap[D]? = some (.deferred (some [])) → Code.ret.wpIn Fence.wide n P Q { a with defers := { target := .collected D, args := #[] } :: a.defers } W) :
 (Code.rangeFunc g ps assign body).wpIn Fence.wide n P Q a w := by
 refine wpIn_rangeFunc fun fn hfn => ?_
 obtain ⟨L, hL⟩ : ∃ L : Loop, L = { state := .ready, pending := none, fn, tmps := a.tmps, params := ps, assign, body, defers := w.heap.size } := ⟨_, rfl⟩
 obtain ⟨d, hd⟩ : ∃ d, d = w.heap.size := ⟨_, rfl⟩
 obtain ⟨X, hX⟩ : ∃ X, X = (w.alloc (.deferred (some []))).alloc (.loop L) := ⟨_, rfl⟩
 have hrec : X.heap[d + 1]? = some (.loop L) := by
  have h := World.alloc_heap_new (w.alloc (.deferred (some []))) (.loop L)
  rw [World.size_alloc] at h
  rw [hX, hd]
  exact h
 have hblk : X.heap[d]? = some (.deferred (some [])) := by
  rw [hX, hd]
  exact (Below.heap_alloc _ _ _ (by rw [World.size_alloc]; omega)).trans (World.alloc_heap_new w _)
 have hIX : I s0 X := by
  rw [hX]
  exact hI.alloc _ (hI.alloc _ h0)
 have hwX : Below w.heap.size w X := by
  rw [hX]
  exact ((Below.refl _ w).alloc (Nat.le_refl _) _).alloc (by rw [World.size_alloc]; omega) _
 have hXs : X.heap.size = d + 2 := by rw [hX, World.size_alloc, World.size_alloc, hd]
 refine ⟨d + 1, [{ target := .collected d, args := #[] }], X, { target := .fn (.func gf) lb, args := #[.func (.yield (d + 1)) #[] #[]] }, X, gf, #[.func (.yield (d + 1)) #[] #[]] ++ lb, X, ?_, ?_, ?_, ?_, fun _ => h1, ?_⟩
 ·rw [hX, hL, hd]
  exact run_enterLoop_outer _ _ _ _ _
 ·simp only [resolve, hg]
  simp [go_sem]
 ·intro f' _
  trivial
 ·simp [invoke, go_sem, eg]
 have turn : ∀ {A B : World} {row : Option Nat}, (∀ r, row = some r → X.heap.size ≤ r ∧ ∃ o : Obj, A.heap[r]? = some o ∧ o.isWalk = true) → ∀ r, row = some r → w.heap.size ≤ r ∧ ∃ o : Obj, A.heap[r]? = some o ∧ o.isCells = false :=
  fun {A B row} hr r e => by
   obtain ⟨q1, o, q2, q3⟩ := hr r e
   exact ⟨by omega, o, q2, Obj.not_cells_of_walk q3⟩
 have hc := hfeed (d + 1) (fun s W => I s W ∧ W.heap[d + 1]? = some (.loop L) ∧ W.heap[d]? = some (.deferred (some []))) (fun s W => Ix s W ∧ W.heap[d + 1]? = some (.loop { L with state := .done, pending := some .ret }) ∧ W.heap[d]? = some (.deferred (some []))) X hwX
  (fun s A B row hs hgr hr => ⟨hI s A B row hs.1 hgr (turn (B := B) hr), (grownBy_keeps hgr (fun r e => (hr r e).2) hs.2.1 rfl).trans hs.2.1, (grownBy_keeps hgr (fun r e => (hr r e).2) hs.2.2 rfl).trans hs.2.2⟩) ?_ ⟨hIX, hrec, hblk⟩
 ·refine hc.mono ?_
  rintro e W2 ⟨⟨v, rfl⟩, ⟨s, hng, hi, hl, hk⟩ | ⟨s, hi, hl, hk⟩⟩
  ·refine ⟨none, _, (run_endLoop (P := P) hl (by rw [hL]; simp)).trans (by rw [hL]), ?_⟩
   exact hdone d s _ (by omega) hng (hI.putObj _ hi (by omega) hl rfl) ((World.putObj_heap_other (by omega)).trans hk)
  ·refine ⟨some .ret, _, run_endLoop (P := P) hl (by simp), ?_⟩
   exact hstop d s _ (by omega) (hIx.putObj _ hi (by omega) hl rfl) ((World.putObj_heap_other (by omega)).trans hk)
 rintro s W hgo ⟨hi, hl, hk⟩
 have hy := run_yield (P := P) (args := encs s) hl (by rw [hL]; exact hps s)
 rw [hL] at hy
 refine ⟨fn, _, assign, body, hy, roundIn_of_wpIn hfn (hassign _ s W _ hgo hi fun a' V hkf hkp hiV hax => ?_)⟩
 have hlV := hkf.same _ _ (by omega) hl rfl
 have hkV := hkf.same _ _ (by omega) hk rfl
 have hltV : d + 1 < V.heap.size := (Array.getElem?_eq_some_iff.1 hlV).1
 refine ⟨_, run_beginRound hlV (by rw [hL]), ?_⟩
 have hlB : (V.putObj (d + 1) (.loop { L with state := .busy })).heap[d + 1]? = some (.loop { L with state := .busy }) := World.putObj_heap_same hltV
 have hkB : (V.putObj (d + 1) (.loop { L with state := .busy })).heap[d]? = some (.deferred (some [])) := (World.putObj_heap_other (by omega)).trans hkV
 refine wpIn_mono (hbody _ s a' _ hgo (hI.putObj _ hiV (by omega) hlV rfl) ((hAx s a').putObj (s := ()) _ hax (by omega) hlV rfl)) ?_
 intro e a3 W3 hp
 cases e with
 | normal =>
  obtain ⟨p1, p2, p3⟩ := hp
  have hl3 := p1.same _ _ (by omega) hlB rfl
  have hk3 := p1.same _ _ (by omega) hkB rfl
  refine ⟨_, _, run_endRound (P := P) none hl3, .inl ⟨rfl, ⟨hI.putObj _ p3 (by omega) hl3 rfl, ?_, ?_⟩, ?_⟩⟩
  ·rw [World.putObj_heap_same (Array.getElem?_eq_some_iff.1 hl3).1, hL]
   rfl
  ·exact (World.putObj_heap_other (by omega)).trans hk3
  ·exact hKt hkp (hKt (hKb _ _ _ _ (by omega) hlV rfl) (hKt p2 (hKb _ _ _ _ (by omega) hl3 rfl)))
 | ret =>
  obtain ⟨p1, p2⟩ := hp
  have hl3 := p1.same _ _ (by omega) hlB rfl
  have hk3 := p1.same _ _ (by omega) hkB rfl
  refine ⟨_, _, run_endRound (P := P) (some .ret) hl3, .inr ⟨rfl, hIx.putObj _ p2 (by omega) hl3 rfl, ?_, ?_⟩⟩
  ·rw [World.putObj_heap_same (Array.getElem?_eq_some_iff.1 hl3).1]
   rfl
  ·exact (World.putObj_heap_other (by omega)).trans hk3
 | exit id => exact hp.elim
 | goto t => exact hp.elim
 | panic c => exact hp.elim
 | outgrown => exact hp.elim
theorem operIn_of {l n : Nat} {P : Program} {o : Oper} {a : Act} {w : World} {K : Act → World → Prop} {Q : Exit → Act → World → Prop} (hd : ∀ c, o.op ≠ .defer c) (h : o.wp P a w K Q) : o.wpIn (Fence.wide.inRound l) n P a w K Q := by
 refine ⟨fun _ _ => trivial, ?_⟩
 unfold Oper.wp at h
 rw [show o.semAt (Fence.wide.inRound l).round a.eval = execOp a.eval o from Oper.semAt_some l a.eval o hd]
 generalize (execOp a.eval o).run P w = r at *
 cases r with
 | ok n w' =>
  cases n with
  | value v => exact h
  | skip => exact h
  | «defer» d => exact h
  | enter f args => exact ⟨fun h0 => absurd h0 (by simp [Fence.wide]), CallsIn.inRound l (callsIn_wide.2 h)⟩
  | row s args => exact ⟨fun h0 => absurd h0 (by simp [Fence.wide]), fun c cs _ => let ⟨v, w1, r, st⟩ := h c cs; ⟨v, w1, r, stepsIn_wide.2 st⟩⟩
  | _ => exact h.elim
 | halt x w' => cases x <;> exact h
theorem anyIn_of {l n : Nat} {P : Program} {md : Region.Mode} {ops : Array Oper} {Q : Exit → Act → World → Prop} (hd : ∀ (j : Nat) (o : Oper) c, ops[j]? = some o → o.op ≠ .defer c) (hq : ¬ LetsOut Q) :
 ∀ (fuel : Nat) (listed : Array Bool) (a : Act) (w : World), wpAny P md ops Q fuel listed a w → wpAnyIn (Fence.wide.inRound l) n P md ops Q fuel listed a w
 | 0, _, _, _, h => h
 | fuel + 1, listed, a, w, h => by
  refine ⟨h.1, fun i hi => ?_⟩
  have h2 := h.2 i hi
  unfold wpOp at h2
  unfold wpOpIn
  cases ho : ops[i]? with
  | none =>
   rw [ho] at h2
   exact anyIn_of hd hq fuel _ _ _ h2
  | some o =>
   rw [ho] at h2
   dsimp only at h2 ⊢
   by_cases hw : Region.wanted o (yielded ops a.tmps) = true
   · rw [if_pos hw] at h2 ⊢
     rcases h2 with h2 | h2
     · exact operIn_of (hd i o · ho) (Oper.wp_mono (fun a' w' h' => anyIn_of hd hq fuel _ a' w' h') h2)
     · exact absurd h2.2 hq
   · rw [if_neg hw] at h2 ⊢
     exact ⟨fun _ _ => trivial, anyIn_of hd hq fuel _ _ _ h2⟩
theorem op_call {P : Program} {ops : Array Oper} {Q : Exit → Act → World → Prop} {i : Nat} {o : Oper} {K : Act → World → Prop} {a : Act} {w : World} {f : FuncId} {args : Array Value} {R : Value → World → Prop} (d : Option Tmp) (hi : ops[i]? = some o) (hd : o.dst = d) (hw : Region.wanted o (yielded ops a.tmps) = true) (hx : (execOp a.eval o).run P w = .ok (.enter f args) w) (hc : Calls P f args w fun e w' => ∃ v, e = .returned v ∧ R v w') (h : ∀ v w', R v w' → K (a.put d v) w') : wpOp P ops Q i K a w := by
 unfold wpOp
 rw [hi]
 dsimp only
 rw [if_pos hw]
 refine .inl ?_
 unfold Oper.wp
 rw [hx]
 refine Calls.mono hc ?_
 rintro e w' ⟨v, rfl, hR⟩
 show K (a.put o.dst v) w'
 rw [hd]
 exact h v w' hR
theorem op_value {P : Program} {ops : Array Oper} {Q : Exit → Act → World → Prop} {i : Nat} {o : Oper} {K : Act → World → Prop} {a : Act} {w w' : World} {v : Value} (d : Option Tmp) (hi : ops[i]? = some o) (hd : o.dst = d) (hw : Region.wanted o (yielded ops a.tmps) = true) (hx : (execOp a.eval o).run P w = .ok (.value v) w') (h : K (a.put d v) w') : wpOp P ops Q i K a w := by
 subst hd
 unfold wpOp
 rw [hi]
 dsimp only
 rw [if_pos hw]
 refine .inl ?_
 unfold Oper.wp
 rw [hx]
 exact h
theorem op_skip {P : Program} {ops : Array Oper} {Q : Exit → Act → World → Prop} {i : Nat} {o : Oper} {K : Act → World → Prop} {a : Act} {w w' : World} (hi : ops[i]? = some o) (hd : o.dst = none) (hw : Region.wanted o (yielded ops a.tmps) = true) (hx : (execOp a.eval o).run P w = .ok .skip w') (h : K (a.put none undef) w') : wpOp P ops Q i K a w := by
 rw [← hd] at h
 unfold wpOp
 rw [hi]
 dsimp only
 rw [if_pos hw]
 refine .inl ?_
 unfold Oper.wp
 rw [hx]
 exact h
theorem take_d {P : Program} {ops : Array Oper} {Q : Exit → Act → World → Prop} {S : World → Prop} {md : Region.Mode} (i : Nat) (d : Option Tmp) {oi : Oper} {v : Value} {fuel : Nat} {listed : Array Bool} {a : Act} {w : World} (hi : ops[i]? = some oi) (hd : oi.dst = d)
 (hs : Region.noSelect ops = true) (hf : Region.free md ops listed i = true) (hr : (Region.ready md ops listed).contains i = true)
 (hQ : ∀ c a w, Q (.panic c) (a.put d v) w → Q (.panic c) a w) (hw : Region.wanted oi (yielded ops a.tmps) = true) (hS : S w) (hy : ∀ w, S w → (execOp a.eval oi).run P w = .ok (.value v) w)
 (h : wpAnyH P md ops Q S fuel (listed.setIfInBounds i true) (a.put d v) w) : wpAnyH P md ops Q S (fuel + 1) listed a w := by
 subst hd
 exact wpAnyH_take hi hs hf hr hQ (Or.inl ⟨hw, hy⟩) hS h
def noDefer (ops : Array Oper) : Bool := ops.toList.all fun o => match o.op with | .defer _ => false | _ => true
theorem noDefer_spec {ops : Array Oper} (h : noDefer ops = true) (j : Nat) (o : Oper) (c : Call) (ho : ops[j]? = some o) : o.op ≠ .defer c := fun e => by
 have h1 := List.all_eq_true.1 h o (by
  rw [← Array.getElem?_toList] at ho
  exact List.mem_of_getElem? ho)
 rw [e] at h1
 cases h1
theorem heldIn {l n id : Nat} {P : Program} {ops : Array Oper} {Q : Exit → Act → World → Prop} {a : Act} {w : World} (S : World → Prop) (hm : P.follows .mixedOrders = true) (hd : noDefer ops = true) (hq : ¬ LetsOut Q) (h : wpAnyH P .any ops Q S ops.size (Array.replicate ops.size false) a w.drew) : (Code.region id ops true).wpIn (Fence.wide.inRound l) n P Q a w :=
 wpIn_region_any hm (anyIn_of (noDefer_spec hd) hq _ _ _ _ (wpAny_of_held _ _ _ _ h))
theorem tq {P : Program} {ops : Array Oper} {Q : Exit → Act → World → Prop} {S : World → Prop} {md : Region.Mode} (i : Nat) (d : Tmp) {w : World} (hS : S w) {oi : Oper} {v : Value} {fuel : Nat} {listed : Array Bool} {a : Act} (h : wpAnyH P md ops Q S fuel (listed.setIfInBounds i true) (a.put (some d) v) w) (hi : ops[i]? = some oi := by rfl) (hd : oi.dst = some d := by rfl)
 (hs : Region.noSelect ops = true := by kernel_rfl) (hf : Region.free md ops listed i = true := by kernel_rfl) (hr : (Region.ready md ops listed).contains i = true := by kernel_rfl)
 (hQ : ∀ c a w, Q (.panic c) (a.put (some d) v) w → Q (.panic c) a w := by exact fun _ _ _ h => h) (hw : Region.wanted oi (yielded ops a.tmps) = true := by first | exact wanted_none rfl _ | rfl) (hy : ∀ w, S w → (execOp a.eval oi).run P w = .ok (.value v) w := by intro V hV; go_simp; (try with_reducible rfl)) : wpAnyH P md ops Q S (fuel + 1) listed a w :=
 take_d i (some d) hi hd hs hf hr hQ hw hS hy h
end Go.Proofs.YtbekghinikjjeaaGreatDoor.smt
namespace Go.Proofs.YtbekghinikjjeaaGreatDoor.smt
open Go.RowKit Go.Shelf Go.Proofs.YtbekghinikjjeaaGreatDoor.br
attribute [local go_sem] Oper.semAt_some
def Tab (w : World) : Prop := ∀ j, j < 64 → w.cell? ⟨0, j, none⟩ = some (.int .u8 (Lib.deBruijn64tab.getD j 0))
theorem tz_core (x k idx : Nat) (w : World) (hx0 : ((x : Int) == 0) = false) (key : IntKind.u64.wrap (bits BinOp.and IntKind.u64 (x : Int) (IntKind.u64.wrap (-(x : Int))) * 285870213051353865) / 288230376151711744 = (idx : Int)) (hi : idx < 64) (hk : k < 64) (hcell : w.cell? ⟨0, idx, none⟩ = some (.int .u8 k)) : Calls Tryz.prog 122 #[.int .u64 x] w fun e w' => e = .returned (.int .i64 k) ∧ w' = w := by
 go_enter Tryz.func122, Tryz.ntmps122
 go_wp2_with (simp only [key])
 go_ret
 exact ⟨rfl, rfl⟩
theorem tz_any (x : Nat) (hx : x < 18446744073709551616) (hx0 : x ≠ 0) (w : World) (hT : Tab w) : ∃ c m, c < 64 ∧ x = 2 ^ c * (2 * m + 1) ∧ Calls Tryz.prog 122 #[.int .u64 x] w fun e w' => e = .returned (.int .i64 (c : Nat)) ∧ w' = w := by
 obtain ⟨hlow, hk⟩ := Lib.lowest_bit 64 x hx0 hx
 obtain ⟨hi, htab⟩ := Lib.deBruijn64_at _ hk
 have hcell := hT _ hi
 rw [htab] at hcell
 obtain ⟨m, hm, _⟩ := Lib.ctzFrom_spec 64 x (by omega) hx
 refine ⟨Lib.ctz 64 x, m, hk, ?_, tz_core x _ _ w (by simp; omega) (tz64_key x _ hx hx0 hlow) hi hk hcell⟩
 rw [Lib.ctz, if_neg hx0]; exact hm
def Ps4 (W : World) (b n : Nat) : Prop := W.heap[b]? = some (.cells #[.int .u64 (wd (Nat.testBit n) 0 : Nat), .int .u64 (wd (Nat.testBit n) 1 : Nat), .int .u64 (wd (Nat.testBit n) 2 : Nat), .int .u64 (wd (Nat.testBit n) 3 : Nat)] 157)
theorem Ps4.lt {W : World} {b n : Nat} (h : Ps4 W b n) : b < W.heap.size := (Array.getElem?_eq_some_iff.1 h).1
theorem Ps4.cells {W : World} {b n : Nat} (h : Ps4 W b n) : (W.cell? ⟨b, 0, none⟩ = some (.int .u64 (wd (Nat.testBit n) 0 : Nat)) ∧ W.cell? ⟨b, 1, none⟩ = some (.int .u64 (wd (Nat.testBit n) 1 : Nat)) ∧ W.cell? ⟨b, 2, none⟩ = some (.int .u64 (wd (Nat.testBit n) 2 : Nat)) ∧ W.cell? ⟨b, 3, none⟩ = some (.int .u64 (wd (Nat.testBit n) 3 : Nat))) ∧ (W.frozen? ⟨b, 0, none⟩ = false ∧ W.frozen? ⟨b, 1, none⟩ = false ∧ W.frozen? ⟨b, 2, none⟩ = false ∧ W.frozen? ⟨b, 3, none⟩ = false) := by
 have h : W.heap[b]? = _ := h
 simp [World.cell?, World.frozen?, h]
theorem Ps4.below {W W' : World} {b n B : Nat} (h : Ps4 W b n) (hb : Below B W W') (hlt : b < B) : Ps4 W' b n := (hb.block b hlt).trans h
theorem Ps4.new (w : World) (n : Nat) : Ps4 (w.alloc (.cells #[.int .u64 (wd (Nat.testBit n) 0 : Nat), .int .u64 (wd (Nat.testBit n) 1 : Nat), .int .u64 (wd (Nat.testBit n) 2 : Nat), .int .u64 (wd (Nat.testBit n) 3 : Nat)] 157)) w.heap.size n := World.alloc_heap_new w _
theorem zero4 : (#[.int .u64 (wd (Nat.testBit 0) 0 : Nat), .int .u64 (wd (Nat.testBit 0) 1 : Nat), .int .u64 (wd (Nat.testBit 0) 2 : Nat), .int .u64 (wd (Nat.testBit 0) 3 : Nat)] : Array Value) = #[.int .u64 0, .int .u64 0, .int .u64 0, .int .u64 0] := by rw [wd_zero, wd_zero, wd_zero, wd_zero]; rfl
theorem Ps4.zero (w : World) : Ps4 (w.alloc (.cells #[.int .u64 0, .int .u64 0, .int .u64 0, .int .u64 0] 157)) w.heap.size 0 := by
 have h := Ps4.new w 0; rw [zero4] at h; exact h
def Kp0 (W W' : World) : Prop := W.heap.size ≤ W'.heap.size ∧ W'.heap[0]? = W.heap[0]?
theorem Kp0.refl (W : World) : Kp0 W W := ⟨Nat.le_refl _, rfl⟩
theorem Tab.keep {W W' : World} (h : Tab W) (hk : W'.heap[0]? = W.heap[0]?) : Tab W' := fun j hj => (World.cell?_of_block (a := ⟨0, j, none⟩) hk).trans (h j hj)
theorem Tab.pos {W : World} (h : Tab W) : 0 < W.heap.size := World.block_lt_of_cell? W _ (h 0 (by omega))
theorem Tab.below {W W' : World} {B : Nat} (h : Tab W) (hb : Below B W W') (hB : 0 < B) : Tab W' := h.keep (hb.block 0 hB)
theorem kp0_t {A B C : World} (h : Kp0 A B) (k : Kp0 B C) : Kp0 A C := ⟨Nat.le_trans h.1 k.1, k.2.trans h.2⟩
theorem kp0_put {w : World} (hw : 0 < w.heap.size) (W : World) (l : Nat) (o o' : Obj) (hl : w.heap.size ≤ l) (_ : W.heap[l]? = some o) (_ : o.isCells = false) : Kp0 W (W.putObj l o') := ⟨by simp, World.putObj_heap_other (by omega)⟩
theorem and_pred_lt (x : Nat) (h : 0 < x) : x &&& (x - 1) < x := Nat.lt_of_le_of_lt Nat.and_le_right (by omega)
theorem all_feed (n : Nat) (hn : 1 ≤ n) (s Bn : Nat) (w : World) (hT : Tab w) (hBn : Ps4 w Bn s) :
 Feeds n Tryz.prog 121 #[.pointer (some ⟨Bn, 0, none⟩)] (fun l : List Nat => #[Value.int .i64 (l.headD 0 : Nat)]) (fun l => l ≠ []) List.tail Kp0 (mr (Nat.testBit s) 0) w := by
 intro l J Jx W hW hJ hY h0
 show CallsIn Fence.wide n Tryz.prog 121 #[.func (.yield l) #[] #[], .pointer (some ⟨Bn, 0, none⟩)] W _
 obtain ⟨⟨c0, c1, c2, c3⟩, -⟩ := (hBn.below hW hBn.lt).cells
 have hT0 := hT.below hW hT.pos
 have i0 : ∀ w : World, (Instr.index 157 (.agg #[.int .u64 (wd (Nat.testBit s) 0 : Nat), .int .u64 (wd (Nat.testBit s) 1 : Nat), .int .u64 (wd (Nat.testBit s) 2 : Nat), .int .u64 (wd (Nat.testBit s) 3 : Nat)]) (.int .i64 0)).run Tryz.prog w = .ok (.int .u64 (wd (Nat.testBit s) 0 : Nat)) w := fun _ => by kernel_rfl
 have i1 : ∀ w : World, (Instr.index 157 (.agg #[.int .u64 (wd (Nat.testBit s) 0 : Nat), .int .u64 (wd (Nat.testBit s) 1 : Nat), .int .u64 (wd (Nat.testBit s) 2 : Nat), .int .u64 (wd (Nat.testBit s) 3 : Nat)]) (.int .i64 1)).run Tryz.prog w = .ok (.int .u64 (wd (Nat.testBit s) 1 : Nat)) w := fun _ => by kernel_rfl
 have i2 : ∀ w : World, (Instr.index 157 (.agg #[.int .u64 (wd (Nat.testBit s) 0 : Nat), .int .u64 (wd (Nat.testBit s) 1 : Nat), .int .u64 (wd (Nat.testBit s) 2 : Nat), .int .u64 (wd (Nat.testBit s) 3 : Nat)]) (.int .i64 2)).run Tryz.prog w = .ok (.int .u64 (wd (Nat.testBit s) 2 : Nat)) w := fun _ => by kernel_rfl
 have i3 : ∀ w : World, (Instr.index 157 (.agg #[.int .u64 (wd (Nat.testBit s) 0 : Nat), .int .u64 (wd (Nat.testBit s) 1 : Nat), .int .u64 (wd (Nat.testBit s) 2 : Nat), .int .u64 (wd (Nat.testBit s) 3 : Nat)]) (.int .i64 3)).run Tryz.prog w = .ok (.int .u64 (wd (Nat.testBit s) 3 : Nat)) w := fun _ => by kernel_rfl
 have HI := hideT (show ∀ k : Nat, k < 4 → ∀ w : World, (Instr.index 157 (.agg #[.int .u64 (wd (Nat.testBit s) 0 : Nat), .int .u64 (wd (Nat.testBit s) 1 : Nat), .int .u64 (wd (Nat.testBit s) 2 : Nat), .int .u64 (wd (Nat.testBit s) 3 : Nat)]) (.int .i64 (k : Nat))).run Tryz.prog w = .ok (.int .u64 (wd (Nat.testBit s) k : Nat)) w from fun k hk => match k, hk with | 0, _ => i0 | 1, _ => i1 | 2, _ => i2 | 3, _ => i3)
 clear i0 i1 i2 i3
 refine callsIn_of_wp Tryz.func121 rfl trivial ?_ rfl
 simp only [Tryz.ntmps121, List.size_toArray, List.length_cons, List.length_nil, Nat.reduceAdd, Nat.reduceSub, Array.replicate_succ, Array.replicate_zero, List.push_toArray, List.append_toArray, List.nil_append, List.cons_append]
 gi_wp2
 gi_loopw [6] (fun i wr => ∃ k : Nat, k ≤ 4 ∧ i = .int .i64 k ∧ J (mr (Nat.testBit s) (64 * k)) wr ∧ Tab wr ∧ W.heap.size ≤ wr.heap.size) (fun i _ => (4 - intOf i).toNat)
 case atStart => exact ⟨0, by omega, rfl, h0, hT0, Nat.le_refl _⟩
 case round =>
  obtain ⟨k, hk1, rfl, hJs, hTs, hsz⟩ := hrel
  by_cases hlt : k < 4
  · have hix := HI.out k hlt
    have HK := hideT hlt
    have hlt4 : (k : Int) < 4 := by omega
    have hd4 : decide ((k : Int) < 4) = true := by simp [hlt4]
    gi_wp2_with (simp only [hd4])
    gi_loopw [4] (fun x wr => ∃ y j : Nat, x = .int .u64 (y : Nat) ∧ Lft s k j y ∧ J (mr (Nat.testBit s) (64 * k + j)) wr ∧ Tab wr ∧ W.heap.size ≤ wr.heap.size) (fun x _ => (intOf x).toNat)
    case atStart => exact ⟨_, 0, rfl, Lft.start s k, hJs, hTs, hsz⟩
    case round =>
     obtain ⟨y, j, rfl, hL, hJ1, hT1, hsz1⟩ := hrel
     by_cases hy : y = 0
     · subst hy
       have e := hL.done rfl HK.out
       rw [e] at hJ1
       have HJ1 := hideT hJ1
       clear e hJ1 hL
       gi_wp2
       go_roundw
       case rel => exact ⟨k + 1, by omega, by go_num, HJ1.out, hT1, by omega⟩
       case measure => simp [intOf]; omega
     · have hne : ((y : Int) != 0) = true := by rw [bne_iff_ne]; omega
       obtain ⟨c, m, hc, hm, hcall⟩ := tz_any y hL.lt hy wr hT1
       obtain ⟨hms, hL2⟩ := hL.next hm hc HK.out
       have hlt2 := hL.lt
       have HM := hideT (And.intro hms hL2)
       rw [hms] at hJ1
       obtain ⟨fn, tmps, assign, body, hyy, hR⟩ := hY ((64 * k + c) :: mr (Nat.testBit s) (64 * k + (c + 1))) wr (by simp) hJ1
       simp only [List.headD_cons, List.tail_cons] at hyy hR
       have HR := hideT hR
       clear hR hms hL2 hm hL
       have hKK := HK.out
       have n1 : ((64 * k + c : Nat) : Int) = (k : Int) * 64 + (c : Int) := by omega
       rw [n1] at hyy
       clear n1
       gi_wp2_with fail
       refine ⟨trivial, ?_⟩
       refine (callsIn_wide.2 hcall).mono ?_
       rintro e w1 ⟨rfl, rfl⟩
       gi_wp2_with fail
       refine HR.out.mono ?_
       rintro e W3 (⟨rfl, hJ3, hk3⟩ | ⟨rfl, hJx3⟩)
       · obtain ⟨z, hz⟩ : ∃ z, y - 1 = z := ⟨_, rfl⟩
         have e1 : IntKind.u64.wrap ((y : Int) - 1) = (z : Int) := by rw [IntKind.wrap_u64]; omega
         have e2 : bits .and .u64 (y : Int) (z : Int) = ((y &&& z : Nat) : Int) := bits_and_u64_nat y z hlt2 (by omega)
         have HZ := hideT hz
         have HJ3 := hideT hJ3
         have hT3 := hT1.keep hk3.2
         have hs3 := hk3.1
         clear hz hJ1 hJ3 hcall hyy HR hk3
         gi_wp2
         go_roundw
         case rel => exact ⟨y &&& z, c + 1, rfl, by rw [← HZ.out]; exact HM.out.2, HJ3.out, hT3, by omega⟩
         case measure => have h := and_pred_lt y (by omega); rw [HZ.out] at h; simpa [intOf] using h
       · gi_wp2
         refine bodyPost_ret (results_none rfl _ _ _) rfl ?_
         exact ⟨⟨_, rfl⟩, .inr ⟨_, hJx3⟩⟩
  · obtain rfl : k = 4 := by omega
    gi_wp2
    go_end0
    exact ⟨⟨_, rfl⟩, .inl ⟨_, by simp [mr_end], hJs⟩⟩
theorem all_in (n s : Nat) (w : World) : CallsIn Fence.wide n Tryz.prog 92 #[.agg #[.int .u64 (wd (Nat.testBit s) 0 : Nat), .int .u64 (wd (Nat.testBit s) 1 : Nat), .int .u64 (wd (Nat.testBit s) 2 : Nat), .int .u64 (wd (Nat.testBit s) 3 : Nat)]] w fun e w' => e = .returned (.func (.func 121) #[] #[.pointer (some ⟨w.heap.size, 0, none⟩)]) ∧ w' = w.alloc (.cells #[.int .u64 (wd (Nat.testBit s) 0 : Nat), .int .u64 (wd (Nat.testBit s) 1 : Nat), .int .u64 (wd (Nat.testBit s) 2 : Nat), .int .u64 (wd (Nat.testBit s) 3 : Nat)] 157) := by
 refine callsIn_of_wp Tryz.func92 rfl trivial ?_ rfl
 simp only [Tryz.ntmps92, List.size_toArray, List.length_cons, List.length_nil, Nat.reduceAdd, Nat.reduceSub, Array.replicate_succ, Array.replicate_zero, List.push_toArray, List.append_toArray, List.nil_append, List.cons_append]
 gi_wp2
 go_ret
 exact ⟨rfl, rfl⟩
end Go.Proofs.YtbekghinikjjeaaGreatDoor.smt
