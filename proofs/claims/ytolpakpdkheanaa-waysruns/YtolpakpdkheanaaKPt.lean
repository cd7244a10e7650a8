/- A range over a function whose values hang on how far it has come: the loop's law for a machine of states. -/
import Derived.Test.YtolpakpdkheanaaKPlain
import Derived.Test.YtolpakpdkheanaaKPp
import Derived.RangeFuncNested
import Derived.RangeFuncBound
import Derived.RangeFuncCalls
import Derived.RangeFuncLeaves
import Derived.RangeFuncBox
import Derived.Shelf.Abstract
import Derived.WalkKit
import Derived.OwnWalkIn
import Derived.TacticsInMore
import Derived.LoopNIn
import Derived.LoopIn
set_option maxRecDepth 100000
set_option maxHeartbeats 1000000
namespace Go.Proofs.Ytolpakpdkheanaa.br
open Go.RowKit
def Feeds {σ : Type} (n : Nat) (P : Program) (g : Nat) (lb : Array Value) (encs : σ → Array Value) (go : σ → Prop) (nx : σ → σ) (Kp : World → World → Prop) (s0 : σ) (w : World) : Prop :=
 ∀ (l : Nat) (J Jx : σ → World → Prop) (W : World), Below w.heap.size w W → AbidesFrom W.heap.size J →
  (∀ s W1, go s → J s W1 → YieldAt Fence.wide (n - 1) P l (encs s) W1 fun e W' => (e = .returned (.bool true) ∧ J (nx s) W' ∧ Kp W1 W') ∨ (e = .returned (.bool false) ∧ Jx s W')) →
  J s0 W → CallsIn Fence.wide n P g (#[.func (.yield l) #[] #[]] ++ lb) W fun e W' => (∃ v, e = .returned v) ∧ ((∃ s, ¬ go s ∧ J s W') ∨ ∃ s, Jx s W')
def xjk (B : Nat) (Kp : World → World → Prop) (I Ix : World → Prop) (W : World) : Exit → Act → World → Prop
 | .normal, _, W' => KeepsFrom B W W' ∧ Kp W W' ∧ I W'
 | .ret, _, W' => KeepsFrom B W W' ∧ Ix W'
 | _, _, _ => False
theorem xnq {σ : Type} {n : Nat} {P : Program} {g : Operand} {ps : Array Tmp} {assign body : Code} {Q : Exit → Act → World → Prop} {a : Act} {w : World} (h1 : 1 ≤ n) {gf : Nat} {lb : Array Value} (hg : a.eval g = .func (.func gf) #[] lb) (eg : ∀ args w, (callFunc gf args).run P w = .ok (.enter gf args) w)
  {encs : σ → Array Value} {go : σ → Prop} {nx : σ → σ} {Kp : World → World → Prop} {s0 : σ} (hfeed : Feeds (n - 1) P gf lb encs go nx Kp s0 w) (hps : ∀ s, (encs s).size = ps.size)
  (hKt : ∀ {A B C : World}, Kp A B → Kp B C → Kp A C) (hKb : ∀ (W : World) (l : Nat) (o o' : Obj), w.heap.size ≤ l → W.heap[l]? = some o → o.isCells = false → Kp W (W.putObj l o'))
  (I Ix : σ → World → Prop) (hI : OwnFrom w.heap.size I) (hIx : OwnFrom w.heap.size Ix) (h0 : I s0 w) (Ax : σ → Act → World → Prop) (hAx : ∀ s a', OwnFrom w.heap.size (fun (_ : Unit) W => Ax s a' W))
  (hassign : ∀ (l : Nat) (s : σ) (W : World) (K : Act → World → Prop), go s → I s W → (∀ a' W', KeepsFrom w.heap.size W W' → Kp W W' → I s W' → Ax s a' W' → K a' W') →
   assign.wpIn (Fence.wide.inRound l) (n - 1 - 1) P (Exit.then K (fun _ _ _ => False)) { tmps := (ps.zip (encs s)).foldl (fun t (p, v) => t.setIfInBounds p v) a.tmps, defers := [] } W)
  (hbody : ∀ (l : Nat) (s : σ) (a' : Act) (W : World), go s → I s W → Ax s a' W → body.wpIn (Fence.wide.inRound l) (n - 1 - 1) P (xjk w.heap.size Kp (I (nx s)) (Ix s) W) a' W)
  (hdone : ∀ (D : Nat) (s : σ) (W : World), w.heap.size ≤ D → ¬ go s → I s W → W.heap[D]? = some (.deferred (some [])) → Q .normal { a with defers := { target := .collected D, args := #[] } :: a.defers } W)
  (hstop : ∀ (D : Nat) (s : σ) (W : World), w.heap.size ≤ D → Ix s W → W.heap[D]? = some (.deferred (some [])) → Code.ret.wpIn Fence.wide n P Q { a with defers := { target := .collected D, args := #[] } :: a.defers } W) :
  (Code.rangeFunc g ps assign body).wpIn Fence.wide n P Q a w := by
 refine wpIn_rangeFunc fun fn hfn => ?_
 obtain ⟨L, hL⟩ : ∃ L : Loop, L = { state := .ready, pending := none, fn, tmps := a.tmps, params := ps, assign, body, defers := w.heap.size } := ⟨_, rfl⟩
 obtain ⟨d, hd⟩ : ∃ d, d = w.heap.size := ⟨_, rfl⟩
 obtain ⟨X, hX⟩ : ∃ X, X = (w.alloc (.deferred (some []))).alloc (.loop L) := ⟨_, rfl⟩
 have hrec : X.heap[d + 1]? = some (.loop L) := by
  have h := World.alloc_heap_new (w.alloc (.deferred (some []))) (.loop L)
  rw [World.size_alloc] at h
  rw [hX, hd]
  exact h
 have hblk : X.heap[d]? = some (.deferred (some [])) := by
  rw [hX, hd]
  exact (Below.heap_alloc _ _ _ (by rw [World.size_alloc]; omega)).trans (World.alloc_heap_new w _)
 have hIX : I s0 X := by
  rw [hX]
  exact hI.alloc _ (hI.alloc _ h0)
 have hwX : Below w.heap.size w X := by
  rw [hX]
  exact ((Below.refl _ w).alloc (Nat.le_refl _) _).alloc (by rw [World.size_alloc]; omega) _
 have hXs : X.heap.size = d + 2 := by rw [hX, World.size_alloc, World.size_alloc, hd]
 refine ⟨d + 1, [{ target := .collected d, args := #[] }], X, { target := .fn (.func gf) lb, args := #[.func (.yield (d + 1)) #[] #[]] }, X, gf, #[.func (.yield (d + 1)) #[] #[]] ++ lb, X, ?_, ?_, ?_, ?_, fun _ => h1, ?_⟩
 ·rw [hX, hL, hd]
  exact run_enterLoop_outer _ _ _ _ _
 ·simp only [resolve, hg]
  simp [go_sem]
 ·intro f' _
  trivial
 ·simp [invoke, go_sem, eg]
 have turn : ∀ {A B : World} {row : Option Nat}, (∀ r, row = some r → X.heap.size ≤ r ∧ ∃ o : Obj, A.heap[r]? = some o ∧ o.isWalk = true) → ∀ r, row = some r → w.heap.size ≤ r ∧ ∃ o : Obj, A.heap[r]? = some o ∧ o.isCells = false :=
  fun {A B row} hr r e => by
   obtain ⟨q1, o, q2, q3⟩ := hr r e
   exact ⟨by omega, o, q2, Obj.not_cells_of_walk q3⟩
 have hc := hfeed (d + 1) (fun s W => I s W ∧ W.heap[d + 1]? = some (.loop L) ∧ W.heap[d]? = some (.deferred (some []))) (fun s W => Ix s W ∧ W.heap[d + 1]? = some (.loop { L with state := .done, pending := some .ret }) ∧ W.heap[d]? = some (.deferred (some []))) X hwX
  (fun s A B row hs hgr hr => ⟨hI s A B row hs.1 hgr (turn (B := B) hr), (grownBy_keeps hgr (fun r e => (hr r e).2) hs.2.1 rfl).trans hs.2.1, (grownBy_keeps hgr (fun r e => (hr r e).2) hs.2.2 rfl).trans hs.2.2⟩) ?_ ⟨hIX, hrec, hblk⟩
 ·refine hc.mono ?_
  rintro e W2 ⟨⟨v, rfl⟩, ⟨s, hng, hi, hl, hk⟩ | ⟨s, hi, hl, hk⟩⟩
  ·refine ⟨none, _, (run_endLoop (P := P) hl (by rw [hL]; simp)).trans (by rw [hL]), ?_⟩
   exact hdone d s _ (by omega) hng (hI.putObj _ hi (by omega) hl rfl) ((World.putObj_heap_other (by omega)).trans hk)
  ·refine ⟨some .ret, _, run_endLoop (P := P) hl (by simp), ?_⟩
   exact hstop d s _ (by omega) (hIx.putObj _ hi (by omega) hl rfl) ((World.putObj_heap_other (by omega)).trans hk)
 rintro s W hgo ⟨hi, hl, hk⟩
 have hy := run_yield (P := P) (args := encs s) hl (by rw [hL]; exact hps s)
 rw [hL] at hy
 refine ⟨fn, _, assign, body, hy, roundIn_of_wpIn hfn (hassign _ s W _ hgo hi fun a' V hkf hkp hiV hax => ?_)⟩
 have hlV := hkf.same _ _ (by omega) hl rfl
 have hkV := hkf.same _ _ (by omega) hk rfl
 have hltV : d + 1 < V.heap.size := (Array.getElem?_eq_some_iff.1 hlV).1
 refine ⟨_, run_beginRound hlV (by rw [hL]), ?_⟩
 have hlB : (V.putObj (d + 1) (.loop { L with state := .busy })).heap[d + 1]? = some (.loop { L with state := .busy }) := World.putObj_heap_same hltV
 have hkB : (V.putObj (d + 1) (.loop { L with state := .busy })).heap[d]? = some (.deferred (some [])) := (World.putObj_heap_other (by omega)).trans hkV
 refine wpIn_mono (hbody _ s a' _ hgo (hI.putObj _ hiV (by omega) hlV rfl) ((hAx s a').putObj (s := ()) _ hax (by omega) hlV rfl)) ?_
 intro e a3 W3 hp
 cases e with
 | normal =>
  obtain ⟨p1, p2, p3⟩ := hp
  have hl3 := p1.same _ _ (by omega) hlB rfl
  have hk3 := p1.same _ _ (by omega) hkB rfl
  refine ⟨_, _, run_endRound (P := P) none hl3, .inl ⟨rfl, ⟨hI.putObj _ p3 (by omega) hl3 rfl, ?_, ?_⟩, ?_⟩⟩
  ·rw [World.putObj_heap_same (Array.getElem?_eq_some_iff.1 hl3).1, hL]
   rfl
  ·exact (World.putObj_heap_other (by omega)).trans hk3
  ·exact hKt hkp (hKt (hKb _ _ _ _ (by omega) hlV rfl) (hKt p2 (hKb _ _ _ _ (by omega) hl3 rfl)))
 | ret =>
  obtain ⟨p1, p2⟩ := hp
  have hl3 := p1.same _ _ (by omega) hlB rfl
  have hk3 := p1.same _ _ (by omega) hkB rfl
  refine ⟨_, _, run_endRound (P := P) (some .ret) hl3, .inr ⟨rfl, hIx.putObj _ p2 (by omega) hl3 rfl, ?_, ?_⟩⟩
  ·rw [World.putObj_heap_same (Array.getElem?_eq_some_iff.1 hl3).1]
   rfl
  ·exact (World.putObj_heap_other (by omega)).trans hk3
 | exit id => exact hp.elim
 | goto t => exact hp.elim
 | panic c => exact hp.elim
 | outgrown => exact hp.elim
end Go.Proofs.Ytolpakpdkheanaa.br
namespace Go.Proofs.Ytolpakpdkheanaa.br
open Go.RowKit Go.Shelf
attribute [local go_sem] Oper.semAt_some
structure St where
 i : Nat
 k : Nat
 P : Ps
noncomputable def St.tok (s : ByteArray) (x : St) : Tk := tokenT s x.i x.k
noncomputable def St.nx (s : ByteArray) (x : St) : St := ⟨(x.tok s).to, (x.tok s).kind, (x.P.take (x.tok s)).2⟩
def St.go (s : ByteArray) (x : St) : Prop := x.i < s.size ∧ x.k ≠ 0
def Kp (W W' : World) : Prop := W.heap.size ≤ W'.heap.size ∧ W'.heap[0]? = W.heap[0]? ∧ ∀ (k : Nat) (o : Obj), W.heap[k]? = some o → o.isCells = true → mine o = false → W'.heap[k]? = some o
theorem xk1 (n : Nat) (hn : 1 ≤ n) (s : ByteArray) (hs : s.size ≤ 1073741824) (tb : Nat) (x0 : St) (h0 : x0.i = 0 ∧ x0.k = 4) (w : World) (hg : Glob w) (ht : w.heap[tb]? = some (.cells #[.string s] 9)) :
  Feeds n Try.prog 34 #[.pointer (some ⟨tb, 0, none⟩)] (fun x : St => #[(x.tok s).v]) (St.go s) (St.nx s) Kp x0 w := by
 intro l J Jx W hW hJ hY hJ0
 show CallsIn Fence.wide n Try.prog 34 #[.func (.yield l) #[] #[], .pointer (some ⟨tb, 0, none⟩)] W _
 have hgW := hg.below hW (Nat.le_refl _)
 have htW : W.heap[tb]? = some (.cells #[.string s] 9) := (hW.block tb (Array.getElem?_eq_some_iff.1 ht).1).trans ht
 have HY := hideT (And.intro hY (And.intro hJ hJ0))
 clear hY hJ hJ0 hW hg ht
 refine callsIn_of_wp Try.func34 rfl trivial ?_ rfl
 simp only [Try.ntmps34, List.size_toArray, List.length_cons, List.length_nil, Nat.reduceAdd, Nat.reduceSub, Array.replicate_succ, Array.replicate_zero, List.push_toArray, List.append_toArray, List.nil_append, List.cons_append]
 gi_wp2
 gi_loopw [3, 4] (fun ah at' wr => ∃ x : St, J x wr ∧ ah = .int .i64 x.k ∧ at' = .int .i64 x.i ∧ x.k ≠ 0 ∧ Glob wr ∧ wr.heap[tb]? = some (.cells #[.string s] 9) ∧ W.heap.size ≤ wr.heap.size) (fun _ at' _ => (s.size - intOf at').toNat)
 case atStart => exact ⟨x0, HY.out.2.2, by rw [h0.2]; rfl, by rw [h0.1]; rfl, by rw [h0.2]; omega, hgW, htW, Nat.le_refl _⟩
 case round =>
  obtain ⟨x, hJx, rfl, rfl, hk0, hgr, htr, hsz⟩ := hrel
  have ct : wr.cell? ⟨tb, 0, none⟩ = some (.string s) := by simp [World.cell?, htr]
  by_cases hlt : x.i < s.size
  ·have hi : (x.i : Int) < (s.size : Int) := by omega
   gi_wp2_with fail
   refine ⟨trivial, ?_⟩
   refine (callsIn_wide.2 (xhz s hs x.i x.k hlt _ hgr)).mono ?_
   rintro e w1 ⟨rfl, hb1⟩
   obtain ⟨ob, hob⟩ : ∃ ob : Obj, ob = .cells #[.int .i64 (x.tok s).kind, .int .i64 (x.tok s).fr, .int .i64 (x.tok s).to, .int .i64 (x.tok s).e, .int .u64 (wd (x.tok s).q 0), .int .u64 (wd (x.tok s).q 1), .int .u64 (wd (x.tok s).q 2), .int .u64 (wd (x.tok s).q 3), .int .i64 (x.tok s).grp, .int .i64 (x.tok s).lo, .int .i64 (x.tok s).hi] 73 := ⟨_, rfl⟩
   have hJ1 : J x (w1.alloc ob) := HY.out.2.1 _ wr _ none hJx ⟨hb1.os, hb1.tape, hb1.output, by rw [World.size_alloc]; have := hb1.size; omega, fun j hj _ => (Below.heap_alloc w1 ob j (Nat.lt_of_lt_of_le hj hb1.size)).trans (hb1.block j hj)⟩ (fun r e => by cases e)
   have hy := HY.out.1 x (w1.alloc ob) ⟨hlt, hk0⟩ hJ1
   have hta := xbf s x.i x.k hlt
   change TokAt s x.i x.k (x.tok s) at hta
   have htw1 : (w1.alloc ob).heap[tb]? = some (.cells #[.string s] 9) := by
    have h1 := (Array.getElem?_eq_some_iff.1 htr).1
    exact (Below.heap_alloc w1 ob tb (Nat.lt_of_lt_of_le h1 hb1.size)).trans ((hb1.block tb h1).trans htr)
   have hgw1 : Glob (w1.alloc ob) := (hgr.below hb1 (Nat.le_refl _)).below ((Below.refl _ _).alloc (Nat.le_refl _) _) (Nat.le_refl _)
   have hsw1 : W.heap.size ≤ (w1.alloc ob).heap.size := by rw [World.size_alloc]; have := hb1.size; omega
   have hbx : (w1.alloc ob).heap[w1.heap.size]? = some ob := heap_alloc_new w1 ob
   show _
   have hv : tokenT s x.i x.k = x.tok s := rfl
   rw [hv]
   generalize hT : x.tok s = T at *
   obtain ⟨kd, fr, to, er, q, gp, lo, hi2⟩ := T
   simp only [Tk.v] at hy hob ⊢
   subst hob
   obtain ⟨fn, tmps, assign, body, hy1, hR⟩ := hy
   have HR := hideT (And.intro hta (And.intro htw1 (And.intro hgw1 (And.intro hsw1 (And.intro hbx hR)))))
   have HT := hideT hT
   clear hta htw1 hgw1 hsw1 hbx hR hT hJ1 hJx hgr htr hsz hgW htW hv ct hb1
   gi_wp2_with fail
   refine HR.out.2.2.2.2.2.mono ?_
   rintro e W3 (⟨rfl, hJ3, hk3⟩ | ⟨rfl, hJx3⟩)
   ·have b3 := hk3.2.2 _ _ HR.out.2.2.2.2.1 rfl rfl
    have q0 : W3.cell? ⟨w1.heap.size, 0, none⟩ = some (.int .i64 kd) := by simp [World.cell?, b3]
    have q2 : W3.cell? ⟨w1.heap.size, 2, none⟩ = some (.int .i64 to) := by simp [World.cell?, b3]
    have t3 := hk3.2.2 _ _ HR.out.2.1 rfl rfl
    have g3 : Glob W3 := by
     obtain ⟨m, hm⟩ := HR.out.2.2.1
     exact ⟨m, (World.cell?_of_block (a := ⟨0, 0, none⟩) hk3.2.1).trans hm⟩
    have s3 : W.heap.size ≤ W3.heap.size := Nat.le_trans HR.out.2.2.2.1 hk3.1
    have nx3 : x.nx s = ⟨to, kd, (x.P.take (x.tok s)).2⟩ := by unfold St.nx; rw [HT.out]
    have ta := HR.out.1
    have H3 := hideT (And.intro hJ3 (And.intro t3 (And.intro g3 (And.intro s3 (And.intro nx3 ta)))))
    clear hJ3 hk3 b3 t3 g3 s3 nx3 ta HR HT hy1
    by_cases hkd : kd = 0
    ·subst hkd
     gi_wp2
     refine bodyPost_ret (results_none rfl _ _ _) rfl ?_
     exact ⟨⟨_, rfl⟩, .inl ⟨x.nx s, fun h => h.2 (by rw [H3.out.2.2.2.2.1]), H3.out.1⟩⟩
    ·have e0 : ((kd : Int) == 0) = false := by rw [beq_eq_false_iff_ne]; omega
     have hnx := H3.out.2.2.2.2.2.next hkd
     have hn2 : x.i < to ∧ to ≤ s.size := hnx
     clear hnx
     gi_wp2_with fail
     gi_region
     all_goals
      gi_wp2
      go_roundw
      case rel => exact ⟨x.nx s, HY.out.2.1 _ W3 _ none H3.out.1 ⟨rfl, rfl, rfl, Nat.le_refl _, fun _ _ _ => rfl⟩ (fun r e => by cases e), by rw [H3.out.2.2.2.2.1], by rw [H3.out.2.2.2.2.1], by rw [H3.out.2.2.2.2.1]; exact hkd, H3.out.2.2.1, H3.out.2.1, H3.out.2.2.2.1⟩
      case measure => simp [intOf]; omega
   ·clear HR HT hy1
    gi_wp2
    refine bodyPost_ret (results_none rfl _ _ _) rfl ?_
    exact ⟨⟨_, rfl⟩, .inr ⟨x, hJx3⟩⟩
  ·have hi : ¬ (x.i : Int) < (s.size : Int) := by omega
   gi_wp2
   go_end0
   exact ⟨⟨_, rfl⟩, .inl ⟨x, fun h => hlt h.1, hJx⟩⟩
attribute [local go_sem] Oper.semAt_some
theorem PsAt.cells_keep {W W' : World} {B pb : Nat} {P : Ps} {o v : Value} {vs : List Value} {fz : Nat → Prop} (h : PsAt W B pb P o vs v fz) (hh : ∀ (k : Nat) (o : Obj), W.heap[k]? = some o → o.isCells = true → W'.heap[k]? = W.heap[k]?) (hs : W.heap.size ≤ W'.heap.size) : PsAt W' B pb P o vs v fz := by
 have hl : ∀ g, g ∈ xbk (vs ++ [v]) → W'.heap[g]? = W.heap[g]? := fun g hg => by
  obtain ⟨_, _, cur, hc⟩ := h.liveAt hg
  exact hh g _ hc rfl
 have hf : ∀ g, fz g → W'.heap[g]? = W.heap[g]? := fun g hg => by
  obtain ⟨_, _, cur, fr, hc⟩ := h.fzlt g hg
  exact hh g _ hc rfl
 refine ⟨h.base, (hh pb _ h.blk rfl).trans h.blk, owns_keep h.own (fun g hg => by obtain ⟨_, _, cur, hc⟩ := owns_blk h.own hg; exact hh g _ hc rfl), h.len, ?_, ?_, h.nodup, h.live, ?_⟩
 ·intro i l u hl' hu
  exact (h.rows i l u hl' hu).keep (fun g hg => hl g (xbh (List.mem_of_getElem? hu) hg)) hf (fun _ h => h)
 ·exact h.row.keep (fun g hg => hl g (xaj hg)) hf (fun _ h => h)
 ·intro g hg
  obtain ⟨f1, f2, cur, fr, f3⟩ := h.fzlt g hg
  exact ⟨f1, Nat.lt_of_lt_of_le f2 hs, cur, fr, (hf g hg).trans f3⟩
theorem IsPs.turn {W W' : World} {B pb : Nat} {P : Ps} {row : Option Nat} (h : IsPs W B pb P) (hg : W.grownBy W' row) (hr : ∀ r, row = some r → ∃ o : Obj, W.heap[r]? = some o ∧ o.isCells = false) : IsPs W' B pb P := by
 obtain ⟨o, vs, v, fz, h⟩ := h
 exact ⟨o, vs, v, fz, h.cells_keep (fun k o hk ho => grownBy_keeps_cells hg hr hk ho) hg.size⟩
theorem xpv (n : Nat) (s : ByteArray) (w : World) :
  CallsIn Fence.wide n Try.prog 20 #[.string s] w fun e w' => e = .returned (.func (.func 34) #[] #[.pointer (some ⟨w.heap.size, 0, none⟩)]) ∧ w' = w.alloc (.cells #[.string s] 9) := by
 refine callsIn_of_wp Try.func20 rfl trivial ?_ rfl
 simp only [Try.ntmps20, List.size_toArray, List.length_cons, List.length_nil, Nat.reduceAdd, Nat.reduceSub, Array.replicate_succ, Array.replicate_zero, List.push_toArray, List.append_toArray, List.nil_append, List.cons_append]
 gi_wp2
 go_ret
 exact ⟨rfl, rfl⟩
theorem start_at {W : World} {B : Nat} (h1 : W.heap[B]? = some (.cells #[.int .i64 0, .int .i64 0, .int .i64 0, .slice none 0 0] 63))
  (h2 : W.heap[B + 1]? = some (.cells #[.slice (some ⟨B, 0, none⟩) 1 1, .int .i64 0, .bool false, .bool false, .bool false, .bool false, .bool false, .bool false, .bool false, .bool false, .bool false, .bool false, .int .i64 0, .int .i64 0] 67)) : IsPs W B (B + 1) Ps.start := by
 refine ⟨.slice (some ⟨B, 0, none⟩) 1 1, [], .slice none 0 0, fun _ => False, ⟨by omega, ?_, ?_, rfl, ?_, ?_, ?_, ?_, ?_⟩⟩
 ·rw [h2]; rfl
 ·exact ⟨rfl, .inr ⟨B, 1, _, rfl, Nat.le_refl _, h1, Nat.le_refl _, by unfold maxLen; omega, rfl, rfl⟩⟩
 ·intro i l u hl
  cases hl
 ·exact ⟨[], rfl, World.ownsRow_nil _ _ _ _, fun i t u ht => by cases ht⟩
 ·exact List.nodup_nil
 ·intro g hg
  cases hg
 ·intro g hg
  exact hg.elim
theorem xnr (s : ByteArray) (hs : s.size ≤ 1073741824) (hl : 512 < s.size) (w : World) :
  Calls Try.prog 14 #[.string s] w fun e w' => e = .returned (.tuple #[.agg #[.int .i64 0, .int .u64 0, .int .u64 0, .int .u64 0, .int .u64 0, .int .i64 0, .int .i64 0, .int .i64 0, .slice none 0 0], .agg #[.int .i64 2, .int .i64 0]]) ∧ Below w.heap.size w w' := by
 have k1 : (512 : Int) < (s.size : Int) := by omega
 go_enter Try.func14, Try.ntmps14
 go_wp2
 exact bodyPost_ret (v := .tuple #[.agg #[.int .i64 0, .int .u64 0, .int .u64 0, .int .u64 0, .int .u64 0, .int .i64 0, .int .i64 0, .int .i64 0, .slice none 0 0], .agg #[.int .i64 2, .int .i64 0]]) (by simp [results, Try.results14, go_sem]) rfl ⟨rfl, ((Below.refl _ _).alloc (Nat.le_refl _) _).alloc (by simp) _⟩
def Res0 (w W : World) : Prop := W.heap[w.heap.size]? = some (.cells #[.int .i64 0, .int .u64 0, .int .u64 0, .int .u64 0, .int .u64 0, .int .i64 0, .int .i64 0, .int .i64 0, .slice none 0 0] 41) ∧ W.heap[w.heap.size + 1]? = some (.cells #[.int .i64 0, .int .i64 0] 43)
def xk2 (s : ByteArray) (w : World) (x : St) (W : World) : Prop :=
 (IsPs W (w.heap.size + 1 + 1) (w.heap.size + 1 + 1 + 1) x.P ∧ Res0 w W) ∧ Below w.heap.size w W ∧ w.heap.size + 5 ≤ W.heap.size ∧ Good x.P x.i ∧ x.i ≤ s.size ∧ (x.k ≠ 4 → x.P.top.parts ≠ []) ∧ x.k ≠ 0 ∧ ∃ f, s.size - x.i < f ∧ runT s f x.i x.k x.P = runT s (s.size + 1) 0 4 Ps.start
def LoopX (s : ByteArray) (w : World) (_ : St) (W : World) : Prop :=
 ∃ (er : Int) (p : Nat), runT s (s.size + 1) 0 4 Ps.start = .error (er, p) ∧ (W.heap[w.heap.size]? = some (.cells #[.int .i64 0, .int .u64 0, .int .u64 0, .int .u64 0, .int .u64 0, .int .i64 0, .int .i64 0, .int .i64 0, .slice none 0 0] 41) ∧ W.heap[w.heap.size + 1]? = some (.cells #[.int .i64 er, .int .i64 p] 43)) ∧ Below w.heap.size w W
def LoopA (s : ByteArray) (w : World) (x : St) (a : Act) (W : World) : Prop :=
 ∃ bx, a = { tmps := #[.string s, undef, .pointer (some ⟨w.heap.size, 0, none⟩), .pointer (some ⟨w.heap.size + 1, 0, none⟩), .pointer (some ⟨w.heap.size + 1 + 1 + 1, 0, none⟩), .pointer (some ⟨bx, 0, none⟩), undef, undef, .string s, .int .i64 s.size, .bool false, undef, undef, .agg #[.int .i64 0, .int .i64 0, .int .i64 0, .slice none 0 0], .slice (some ⟨w.heap.size + 1 + 1, 0, none⟩) 1 1, .agg #[.slice (some ⟨w.heap.size + 1 + 1, 0, none⟩) 1 1, .int .i64 0, .bool false, .bool false, .bool false, .bool false, .bool false, .bool false, .bool false, .bool false, .bool false, .bool false, .int .i64 0, .int .i64 0], .string s, .func (.func 34) #[] #[.pointer (some ⟨w.heap.size + 1 + 1 + 1 + 1, 0, none⟩)], .agg #[.int .i64 ((x.tok s).kind : Nat), .int .i64 ((x.tok s).fr : Nat), .int .i64 ((x.tok s).to : Nat), .int .i64 (x.tok s).e, .int .u64 (wd (x.tok s).q 0), .int .u64 (wd (x.tok s).q 1), .int .u64 (wd (x.tok s).q 2), .int .u64 (wd (x.tok s).q 3), .int .i64 ((x.tok s).grp : Nat), .int .i64 (x.tok s).lo, .int .i64 (x.tok s).hi], undef, undef, undef, undef, undef, undef, undef, undef, undef, undef, undef, undef, undef, undef, undef, undef, undef, undef, undef, undef, undef, undef, undef, undef, undef, undef], defers := [] } ∧ W.heap[bx]? = some (.cells #[.int .i64 ((x.tok s).kind : Nat), .int .i64 ((x.tok s).fr : Nat), .int .i64 ((x.tok s).to : Nat), .int .i64 (x.tok s).e, .int .u64 (wd (x.tok s).q 0), .int .u64 (wd (x.tok s).q 1), .int .u64 (wd (x.tok s).q 2), .int .u64 (wd (x.tok s).q 3), .int .i64 ((x.tok s).grp : Nat), .int .i64 (x.tok s).lo, .int .i64 (x.tok s).hi] 73) ∧ w.heap.size + 5 ≤ bx
theorem xcz {W W' : World} {row : Option Nat} {B : Nat} (hg : W.grownBy W' row) (hr : ∀ r, row = some r → B ≤ r ∧ ∃ o : Obj, W.heap[r]? = some o ∧ o.isCells = false) {k : Nat} {cs : Array Value} {e : TypeId} {fr : Nat × Nat} (h : W.heap[k]? = some (.cells cs e fr)) : W'.heap[k]? = some (.cells cs e fr) :=
 (grownBy_keeps_cells hg (fun r e => (hr r e).2) h rfl).trans h
theorem xjl (s : ByteArray) (w : World) (B : Nat) (hB : w.heap.size ≤ B) : OwnFrom B (xk2 s w) := by
 intro x W W' row h hg hr
 obtain ⟨⟨h1, h2, h3⟩, h4, h5, h6⟩ := h
 exact ⟨⟨h1.turn hg (fun r e => (hr r e).2), xcz hg hr h2, xcz hg hr h3⟩, h4.grown hg (Nat.le_trans h4.size (Nat.le_refl _)) (fun k e => Nat.le_trans hB (hr k e).1), Nat.le_trans h5 hg.size, h6⟩
theorem xpw (s : ByteArray) (w : World) (B : Nat) (hB : w.heap.size ≤ B) : OwnFrom B (LoopX s w) := by
 intro x W W' row h hg hr
 obtain ⟨er, p, h1, ⟨h2, h3⟩, h4⟩ := h
 exact ⟨er, p, h1, ⟨xcz hg hr h2, xcz hg hr h3⟩, h4.grown hg (Nat.le_trans h4.size (Nat.le_refl _)) (fun k e => Nat.le_trans hB (hr k e).1)⟩
theorem xpx (s : ByteArray) (w : World) (x : St) (a : Act) (B : Nat) : OwnFrom B (fun (_ : Unit) W => LoopA s w x a W) := by
 intro _ W W' row h hg hr
 obtain ⟨bx, h1, h2, h3⟩ := h
 exact ⟨bx, h1, xcz hg hr h2, h3⟩
theorem kp_trans {A B C : World} (h : Kp A B) (k : Kp B C) : Kp A C := ⟨Nat.le_trans h.1 k.1, k.2.1.trans h.2.1, fun i o hi ho hm => k.2.2 i o (h.2.2 i o hi ho hm) ho hm⟩
theorem kp_put {w : World} (hw : 0 < w.heap.size) (W : World) (l : Nat) (o o' : Obj) (hl : w.heap.size ≤ l) (h : W.heap[l]? = some o) (hc : o.isCells = false) : Kp W (W.putObj l o') := by
 refine ⟨by simp, World.putObj_heap_other (by omega), fun i q hi hq _ => ?_⟩
 refine (World.putObj_heap_other (fun e => ?_)).trans hi
 rw [e, h] at hi
 cases hi
 rw [hc] at hq
 cases hq
theorem kp_alloc (W : World) (o : Obj) (hW : 0 < W.heap.size) : Kp W (W.alloc o) :=
 ⟨by rw [World.size_alloc]; omega, Below.heap_alloc W o 0 hW, fun i q hi _ _ => (Below.heap_alloc W o i (Array.getElem?_eq_some_iff.1 hi).1).trans hi⟩
theorem kp_fr {B : Nat} {W W' : World} (h : Fr B W W') (hB : 0 < B) : Kp W W' := ⟨h.below.size, h.below.block 0 hB, fun i q hi _ hm => h.same i q hi hm⟩
theorem xmi {B B' : Nat} {W W' : World} (h : Fr B W W') : KeepsFrom B' W W' := ⟨h.below.size, fun k o _ hk ho => h.same k o hk (by cases o <;> first | rfl | cases ho)⟩
theorem Good.mono {P : Ps} {n m : Nat} (h : Good P n) (hm : n ≤ m) : Good P m := ⟨h.g9, h.len, fun l hl => ⟨(h.grp l hl).1, Nat.le_trans (h.grp l hl).2 hm⟩, h.ord, h.low, h.big, h.last⟩
theorem xpy (s : ByteArray) (f i k : Nat) (P : Ps) (h : s.size ≤ i) : runT s f i k P = .ok P := by
 cases f with
 | zero => rfl
 | succ f => rw [runT, if_neg (by omega)]
theorem xpz {s : ByteArray} {w W W2 : World} {x : St} (hI : xk2 s w x W) (hgo : x.go s) (h0 : (x.P.take (x.tok s)).1 = 0) (hP : IsPs W2 (w.heap.size + 1 + 1) (w.heap.size + 1 + 1 + 1) (x.P.take (x.tok s)).2) (hF : Fr (w.heap.size + 1 + 1) W W2) : xk2 s w (x.nx s) W2 := by
 obtain ⟨⟨h1, h2, h3⟩, h4, h5, h6, h7, h8, _, f, hf, hr⟩ := hI
 have hta : TokAt s x.i x.k (x.tok s) := xbf s x.i x.k hgo.1
 have hk : (x.tok s).kind ≠ 0 := fun e => by
  have h9 : (x.P.take (x.tok s)).1 = (x.tok s).e := by simp only [Ps.take, e]
  rw [h0] at h9
  exact hta.fault e h9.symm
 have hn := hta.next hk
 have ht7 : (x.tok s).kind = 7 → x.P.top.parts ≠ [] := fun h => h8 (fun e => by have := hta.rep h; rw [e] at this; cases this)
 obtain ⟨g1, g2⟩ := xgh h6 (x.tok s) hta.ok ht7 hk h0
 refine ⟨⟨hP, (hF.below.block _ (by omega)).trans h2, (hF.below.block _ (by omega)).trans h3⟩, h4.trans (hF.below.mono (by omega)), Nat.le_trans h5 hF.below.size, g1.mono (by show x.i + 1 ≤ (x.tok s).to; omega), hn.2, g2, hk, ?_⟩
 cases f with
 | zero => omega
 | succ f =>
  refine ⟨f, by show s.size - (x.tok s).to < f; omega, ?_⟩
  rw [← hr, runT, if_pos hgo.1]
  show _ = if (x.P.take (x.tok s)).1 = 0 then _ else _
  rw [if_pos h0]
  rfl
theorem xns {s : ByteArray} {w W : World} {x : St} (hI : xk2 s w x W) (hgo : x.go s) (h0 : (x.P.take (x.tok s)).1 ≠ 0) : runT s (s.size + 1) 0 4 Ps.start = .error ((x.P.take (x.tok s)).1, (x.tok s).fr) := by
 obtain ⟨_, _, _, _, _, _, _, f, hf, hr⟩ := hI
 have hta : TokAt s x.i x.k (x.tok s) := xbf s x.i x.k hgo.1
 cases f with
 | zero => omega
 | succ f =>
  rw [← hr, runT, if_pos hgo.1]
  show (if (x.P.take (x.tok s)).1 = 0 then _ else _) = _
  rw [if_neg h0, hta.fr]
  rfl
theorem put9 (W : World) (b : Nat) (v0 v1 v2 v3 v4 v5 v6 v7 v8 : Value) {cs : Array Value} {e : TypeId} {fr : Nat × Nat} (h : W.heap[b]? = some (.cells cs e fr)) :
  (((((((((W.setCell ⟨b, 0, none⟩ v0).setCell ⟨b, 1, none⟩ v1).setCell ⟨b, 2, none⟩ v2).setCell ⟨b, 3, none⟩ v3).setCell ⟨b, 4, none⟩ v4).setCell ⟨b, 5, none⟩ v5).setCell ⟨b, 6, none⟩ v6).setCell ⟨b, 7, none⟩ v7).setCell ⟨b, 8, none⟩ v8).heap[b]? = some (.cells (((((((((cs.setIfInBounds 0 v0).setIfInBounds 1 v1).setIfInBounds 2 v2).setIfInBounds 3 v3).setIfInBounds 4 v4).setIfInBounds 5 v5).setIfInBounds 6 v6).setIfInBounds 7 v7).setIfInBounds 8 v8) e fr) := by
 have h0 := xai W b 0 v0 h
 have h1 := xai _ b 1 v1 h0
 have h2 := xai _ b 2 v2 h1
 have h3 := xai _ b 3 v3 h2
 have h4 := xai _ b 4 v4 h3
 have h5 := xai _ b 5 v5 h4
 have h6 := xai _ b 6 v6 h5
 have h7 := xai _ b 7 v7 h6
 exact xai _ b 8 v8 h7
theorem xk3 {w W2 : World} {pv v0 : Value} {er p e0 p0 : Int} (r0 : W2.heap[w.heap.size]? = some (.cells #[.int .i64 0, .int .u64 0, .int .u64 0, .int .u64 0, .int .u64 0, .int .i64 0, .int .i64 0, .int .i64 0, v0] 41)) (r1 : W2.heap[w.heap.size + 1]? = some (.cells #[.int .i64 e0, .int .i64 p0] 43)) :
  ∃ X, X = (((((((((((W2.setCell ⟨w.heap.size, 0, none⟩ (.int .i64 0)).setCell ⟨w.heap.size, 1, none⟩ (.int .u64 0)).setCell ⟨w.heap.size, 2, none⟩ (.int .u64 0)).setCell ⟨w.heap.size, 3, none⟩ (.int .u64 0)).setCell ⟨w.heap.size, 4, none⟩ (.int .u64 0)).setCell ⟨w.heap.size, 5, none⟩ (.int .i64 0)).setCell ⟨w.heap.size, 6, none⟩ (.int .i64 0)).setCell ⟨w.heap.size, 7, none⟩ (.int .i64 0)).setCell ⟨w.heap.size, 8, none⟩ (pv)).setCell ⟨w.heap.size + 1, 0, none⟩ (.int .i64 er)).setCell ⟨w.heap.size + 1, 1, none⟩ (.int .i64 p)) ∧ X.heap[w.heap.size]? = some (.cells #[.int .i64 0, .int .u64 0, .int .u64 0, .int .u64 0, .int .u64 0, .int .i64 0, .int .i64 0, .int .i64 0, pv] 41) ∧ X.heap[w.heap.size + 1]? = some (.cells #[.int .i64 er, .int .i64 p] 43) ∧ (∀ j, j ≠ w.heap.size → j ≠ w.heap.size + 1 → X.heap[j]? = W2.heap[j]?) ∧ X.heap.size = W2.heap.size ∧ X.os = W2.os ∧ X.tape = W2.tape ∧ X.output = W2.output := by
 refine ⟨_, rfl, ?_, ?_, ?_, ?_, ?_⟩
 ·simp only [put_far _ _ _ _ (show w.heap.size ≠ w.heap.size + 1 by omega)]
  rw [put9 W2 w.heap.size _ _ _ _ _ _ _ _ _ r0]
  simp only [List.setIfInBounds_toArray, List.set_cons_succ, List.set_cons_zero]
 ·have q2 : ∀ V : World, V.heap[w.heap.size + 1]? = W2.heap[w.heap.size + 1]? → ((V.setCell ⟨w.heap.size + 1, 0, none⟩ (.int .i64 er)).setCell ⟨w.heap.size + 1, 1, none⟩ (.int .i64 p)).heap[w.heap.size + 1]? = some (.cells #[.int .i64 er, .int .i64 p] 43) := fun V hV => by
   rw [xai _ (w.heap.size + 1) 1 (.int .i64 p) (xai V (w.heap.size + 1) 0 (.int .i64 er) (hV.trans r1))]
   simp only [List.setIfInBounds_toArray, List.set_cons_succ, List.set_cons_zero]
  refine q2 _ ?_
  simp only [put_far _ _ _ _ (show w.heap.size + 1 ≠ w.heap.size by omega)]
 ·intro j h1 h2
  simp only [put_far _ _ _ _ h1, put_far _ _ _ _ h2]
 ·simp only [put_size]
 ·simp only [xi3, xee, xcy, and_self]
theorem ends_ret {B : Nat} {Kp : World → World → Prop} {I Ix : World → Prop} {W W' : World} {a : Act} (h : KeepsFrom B W W' ∧ Ix W') : xjk B Kp I Ix W .ret a W' := h
def xjm (s : ByteArray) (w : World) (e : Ending) (w' : World) : Prop :=
 Below w.heap.size w w' ∧ ((∃ (er : Int) (p : Nat), parseT s = .error (er, p) ∧ e = .returned (.tuple #[.agg #[.int .i64 0, .int .u64 0, .int .u64 0, .int .u64 0, .int .u64 0, .int .i64 0, .int .i64 0, .int .i64 0, .slice none 0 0], .agg #[.int .i64 er, .int .i64 p]])) ∨
  ∃ (ts : List Tr) (a : Option Addr) (n c : Nat), parseT s = .ok ts ∧ e = .returned (.tuple #[.agg #[.int .i64 0, .int .u64 0, .int .u64 0, .int .u64 0, .int .u64 0, .int .i64 0, .int .i64 0, .int .i64 0, .slice a n c], .agg #[.int .i64 0, .int .i64 0]]) ∧ Kids w' (fun g => w.heap.size ≤ g) (.slice a n c) ts)
theorem xp0 {w W Z : World} {P : Ps} {o v : Value} {vs : List Value} {fz : Nat → Prop} {pb : Nat} (hP : PsAt W (w.heap.size + 1 + 1) pb P o vs v fz) (hz : ∀ (k : Nat) (o : Obj), W.heap[k]? = some o → o.isCells = true → w.heap.size + 1 + 1 ≤ k → Z.heap[k]? = W.heap[k]?) : Kids Z (fun g => w.heap.size ≤ g) v P.top.parts := by
 have h1 : Kids W (fun g => fz g ∨ v.ownBlock = some g) v P.top.parts := hP.row.shut (fun g hg => .inl hg) (fun g hg => .inr hg)
 refine h1.keep (fun g hg => ?_) (fun g hg => ?_)
 ·rcases hg with hg | hg
  ·obtain ⟨f1, _, cur, fr, f3⟩ := hP.fzlt g hg
   exact hz g _ f3 rfl f1
  ·obtain ⟨f1, _, cur, f3⟩ := hP.liveAt (xaj hg)
   exact hz g _ f3 rfl f1
 ·rcases hg with hg | hg
  ·have := (hP.fzlt g hg).1
   show w.heap.size ≤ g
   omega
  ·have := (hP.liveAt (xaj hg)).1
   show w.heap.size ≤ g
   omega
theorem xp1 {s : ByteArray} {w W W2 : World} {x : St} {er : Int} {p B : Nat} (hI : xk2 s w x W) (hF : Fr (w.heap.size + 1 + 1) W W2) (r0 : W2.heap[w.heap.size]? = some (.cells #[.int .i64 0, .int .u64 0, .int .u64 0, .int .u64 0, .int .u64 0, .int .i64 0, .int .i64 0, .int .i64 0, .slice none 0 0] 41)) (r1 : W2.heap[w.heap.size + 1]? = some (.cells #[.int .i64 0, .int .i64 0] 43)) (hfl : runT s (s.size + 1) 0 4 Ps.start = .error (er, p)) :
  KeepsFrom B W (((((((((((W2.setCell ⟨w.heap.size, 0, none⟩ (.int .i64 0)).setCell ⟨w.heap.size, 1, none⟩ (.int .u64 0)).setCell ⟨w.heap.size, 2, none⟩ (.int .u64 0)).setCell ⟨w.heap.size, 3, none⟩ (.int .u64 0)).setCell ⟨w.heap.size, 4, none⟩ (.int .u64 0)).setCell ⟨w.heap.size, 5, none⟩ (.int .i64 0)).setCell ⟨w.heap.size, 6, none⟩ (.int .i64 0)).setCell ⟨w.heap.size, 7, none⟩ (.int .i64 0)).setCell ⟨w.heap.size, 8, none⟩ (.slice none 0 0)).setCell ⟨w.heap.size + 1, 0, none⟩ (.int .i64 er)).setCell ⟨w.heap.size + 1, 1, none⟩ (.int .i64 p)).drew ∧ LoopX s w x (((((((((((W2.setCell ⟨w.heap.size, 0, none⟩ (.int .i64 0)).setCell ⟨w.heap.size, 1, none⟩ (.int .u64 0)).setCell ⟨w.heap.size, 2, none⟩ (.int .u64 0)).setCell ⟨w.heap.size, 3, none⟩ (.int .u64 0)).setCell ⟨w.heap.size, 4, none⟩ (.int .u64 0)).setCell ⟨w.heap.size, 5, none⟩ (.int .i64 0)).setCell ⟨w.heap.size, 6, none⟩ (.int .i64 0)).setCell ⟨w.heap.size, 7, none⟩ (.int .i64 0)).setCell ⟨w.heap.size, 8, none⟩ (.slice none 0 0)).setCell ⟨w.heap.size + 1, 0, none⟩ (.int .i64 er)).setCell ⟨w.heap.size + 1, 1, none⟩ (.int .i64 p)).drew := by
 obtain ⟨X, hX, x0, x1, x2, x3, x4, x5, x6⟩ := xk3 (pv := .slice none 0 0) (er := er) (p := (p : Nat)) r0 r1
 rw [← hX]
 refine ⟨⟨by show W.heap.size ≤ X.heap.size; rw [x3]; exact hF.below.size, fun k o _ hk ho => ?_⟩, er, p, hfl, ⟨x0, x1⟩, ?_⟩
 ·have h2 := (xmi (B' := 0) hF).same k o (Nat.zero_le _) hk ho
  refine (x2 k (fun e => ?_) (fun e => ?_)).trans h2
  ·rw [e, r0] at h2; cases h2; cases ho
  ·rw [e, r1] at h2; cases h2; cases ho
 ·have hb := hI.2.1.trans (hF.below.mono (by omega))
  exact ⟨x4.trans hb.os, x5.trans hb.tape, x6.trans hb.output, by show w.heap.size ≤ X.heap.size; rw [x3]; exact hb.size, fun k hk => (x2 k (by omega) (by omega)).trans (hb.block k hk)⟩
end Go.Proofs.Ytolpakpdkheanaa.br
