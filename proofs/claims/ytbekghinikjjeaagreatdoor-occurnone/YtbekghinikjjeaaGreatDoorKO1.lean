/- occur: a range over an iterator that changes one block alone. occur: All's iterator. occur: All; of no matcher. occur: List, of any matcher. -/
import Derived.Test.YtbekghinikjjeaaGreatDoorProg
import Derived.RangeFuncNested
import Derived.RangeFuncBound
import Derived.RangeFuncCalls
import Derived.RangeFuncLeaves
import Derived.RangeFuncBox
import Derived.RangeFuncWrites
import Derived.Shelf.Abstract
import Derived.WalkKit
import Derived.OwnWalk
import Derived.OwnWalkIn
import Derived.TacticsInMore
import Derived.LoopNIn
import Derived.LoopIn
import Derived.Maps.OwnIn
import Derived.Maps.AppendAt
set_option maxRecDepth 100000
set_option maxHeartbeats 4000000
namespace Go.Proofs.YtbekghinikjjeaaGreatDoor.occ
open Go.RowKit Go.Shelf
structure It where
 v : Value
 e : Nat
 sp : List (Int × Int)
def itV (x : It) : Array Value := #[x.v, .int .i64 (x.e : Nat)]
structure ItS (G : Nat → Prop) (W W' : World) : Prop where
 os : W'.os = W.os
 tape : W'.tape = W.tape
 output : W'.output = W.output
 size : W.heap.size ≤ W'.heap.size
 block : ∀ k, k < W.heap.size → ¬ G k → W'.heap[k]? = W.heap[k]?
theorem ItS.of_below {G : Nat → Prop} {W W' : World} (h : Below W.heap.size W W') : ItS G W W' := ⟨h.os, h.tape, h.output, h.size, fun k hk _ => h.block k hk⟩
theorem ItS.trans {G : Nat → Prop} {X Y Z : World} (h : ItS G X Y) (k : ItS G Y Z) : ItS G X Z := ⟨k.os.trans h.os, k.tape.trans h.tape, k.output.trans h.output, Nat.le_trans h.size k.size, fun i hi hg => (k.block i (Nat.lt_of_lt_of_le hi h.size) hg).trans (h.block i hi hg)⟩
structure Sx (G : Nat → Prop) (B : Nat) (W W' : World) : Prop where
 os : W'.os = W.os
 tape : W'.tape = W.tape
 output : W'.output = W.output
 size : W.heap.size ≤ W'.heap.size
 blk : ∀ k o, W.heap[k]? = some o → ¬ G k → (k < B ∨ o.isCells = true) → W'.heap[k]? = some o
theorem ItS.sx {G : Nat → Prop} {B : Nat} {W W' : World} (h : ItS G W W') : Sx G B W W' := ⟨h.os, h.tape, h.output, h.size, fun k _ ho hg _ => (h.block k (Array.getElem?_eq_some_iff.1 ho).1 hg).trans ho⟩
theorem sx_alloc (G : Nat → Prop) (B : Nat) (W : World) (o : Obj) : Sx G B W (W.alloc o) := ⟨rfl, rfl, rfl, by simp, fun k _ ho _ _ => (heap_alloc_old W o k (Array.getElem?_eq_some_iff.1 ho).1).trans ho⟩
theorem sx_put (G : Nat → Prop) {B l : Nat} {W : World} {o : Obj} (o' : Obj) (hl : W.heap[l]? = some o) (hB : B ≤ l) (ho : o.isCells = false) : Sx G B W (W.putObj l o') := by
 refine ⟨rfl, rfl, rfl, by simp, fun k u hu _ hk => (World.putObj_heap_other ?_).trans hu⟩
 rintro rfl
 rw [hl] at hu
 cases hu
 rcases hk with hk | hk
 · omega
 · rw [ho] at hk; cases hk
structure KeepA (F : Nat → Prop) (W W' : World) : Prop where
 size : W.heap.size ≤ W'.heap.size
 same : ∀ k, F k → W'.heap[k]? = W.heap[k]?
 ty : ∀ (k : Nat) (cs : Array Value), W.heap[k]? = some (Obj.cells cs 30 (0, 0)) → W'.heap[k]? = some (Obj.cells cs 30 (0, 0))
theorem KeepA.trans {F : Nat → Prop} {X Y Z : World} (h : KeepA F X Y) (k : KeepA F Y Z) : KeepA F X Z := ⟨Nat.le_trans h.size k.size, fun i hi => (k.same i hi).trans (h.same i hi), fun i cs hi => k.ty i cs (h.ty i cs hi)⟩
def Iter (fn : Nat) (lb : Array Value) (S : List It → It → World → Prop) (E : List It → Prop) (F G : Nat → Prop) (X : World) : Prop :=
 ∀ (n l : Nat) (J Jx : List It → World → Prop), 1 ≤ n → (∀ pre W W', J pre W → ItS G W W' → J pre W') →
  (∀ pre (x : It) W1, J pre W1 → S pre x W1 → YieldAt Fence.wide (n - 1) Tryz.prog l (itV x) W1 fun e W' =>
   (e = .returned (.bool true) ∧ J (pre ++ [x]) W' ∧ KeepA F W1 W') ∨ (e = .returned (.bool false) ∧ Jx (pre ++ [x]) W')) → J [] X →
  CallsIn Fence.wide n Tryz.prog fn (#[.func (.yield l) #[] #[]] ++ lb) X fun e W' => (∃ v, e = .returned v) ∧ (∃ xs, (E xs ∧ J xs W') ∨ Jx xs W')
def endA (B : Nat) (F : Nat → Prop) (I : List It → World → Prop) (Ix : Code → List It → World → Prop) (xs : List It) (W : World) : Exit → Act → World → Prop
 | .normal, _, W' => KeepsFrom B W W' ∧ KeepA F W W' ∧ I xs W'
 | .exit id, _, W' => KeepsFrom B W W' ∧ Ix (.exit id) xs W'
 | _, _, _ => False
theorem range_A {n : Nat} {g : Operand} {ps : Array Tmp} {assign body : Code} {Q : Exit → Act → World → Prop} {a : Act} {w : World} (h1 : 2 ≤ n) {fn0 : Nat} {lb : Array Value} {S : List It → It → World → Prop} {E : List It → Prop} {F G : Nat → Prop} (hF : ∀ k, F k → k < w.heap.size) (hG : ∀ k, G k → k < w.heap.size)
  (it : ∀ X : World, Below w.heap.size w X → X.heap.size = w.heap.size + 2 → Iter fn0 lb S E F G X) (hfn0 : ∀ args w, (callFunc fn0 args).run Tryz.prog w = .ok (.enter fn0 args) w) (hg : a.eval g = .func (.func fn0) #[] lb) (hps : ps.size = 2)
  (hS : ∀ pre x W W', S pre x W → Sx G w.heap.size W W' → S pre x W')
  (I : List It → World → Prop) (Ix : Code → List It → World → Prop) (hI : ∀ pre W W', I pre W → Sx G w.heap.size W W' → I pre W') (hIx : ∀ c pre W W', Ix c pre W → Sx G w.heap.size W W' → Ix c pre W') (h0 : I [] w) (a₁ : It → Act)
  (hassign : ∀ (l : Nat) (x : It) (W : World) (K : Act → World → Prop), K (a₁ x) W → assign.wpIn (Fence.wide.inRound l) (n - 1 - 1) Tryz.prog (Exit.then K (fun _ _ _ => False)) { tmps := (ps.zip (itV x)).foldl (fun t (p, v) => t.setIfInBounds p v) a.tmps, defers := [] } W)
  (hbody : ∀ (l : Nat) (pre : List It) (x : It) (W : World), I pre W → S pre x W → body.wpIn (Fence.wide.inRound l) (n - 1 - 1) Tryz.prog (endA w.heap.size F I Ix (pre ++ [x]) W) (a₁ x) W)
  (hdone : ∀ (D : Nat) (xs : List It) (W : World), w.heap.size ≤ D → E xs → I xs W → W.heap[D]? = some (.deferred (some [])) → Q .normal { a with defers := { target := .collected D, args := #[] } :: a.defers } W)
  (hstop : ∀ (D : Nat) (c : Code) (pre : List It) (W : World), w.heap.size ≤ D → Ix c pre W → W.heap[D]? = some (.deferred (some [])) → c.wpIn Fence.wide n Tryz.prog Q { a with defers := { target := .collected D, args := #[] } :: a.defers } W) :
  (Code.rangeFunc g ps assign body).wpIn Fence.wide n Tryz.prog Q a w := by
 refine wpIn_rangeFunc fun fn hfn => ?_
 obtain ⟨Rc, hR⟩ : ∃ Rc : LoopState → Option Code → Loop, Rc = fun st pe => { state := st, pending := pe, fn, tmps := a.tmps, params := ps, assign, body, defers := w.heap.size } := ⟨_, rfl⟩
 obtain ⟨d, hd⟩ : ∃ d, d = w.heap.size := ⟨_, rfl⟩
 obtain ⟨X, hX⟩ : ∃ X, X = (w.alloc (.deferred (some []))).alloc (.loop (Rc .ready none)) := ⟨_, rfl⟩
 have hrec : X.heap[d + 1]? = some (.loop (Rc .ready none)) := by
  have h := World.alloc_heap_new (w.alloc (.deferred (some []))) (.loop (Rc .ready none))
  rw [World.size_alloc] at h
  rw [hX, hd]
  exact h
 have hblk : X.heap[d]? = some (.deferred (some [])) := by
  rw [hX, hd]
  exact (Below.heap_alloc _ _ _ (by rw [World.size_alloc]; omega)).trans (World.alloc_heap_new w _)
 have hIX : I [] X := by
  rw [hX]
  exact hI _ _ _ (hI _ _ _ h0 (sx_alloc G _ w _)) (sx_alloc G _ _ _)
 have hXb : Below w.heap.size w X := by
  rw [hX]
  exact ((Below.refl _ w).alloc (Nat.le_refl _) _).alloc (by rw [World.size_alloc]; omega) _
 have hXs : X.heap.size = d + 2 := by rw [hX, World.size_alloc, World.size_alloc, hd]
 refine ⟨d + 1, [{ target := .collected d, args := #[] }], X, { target := .fn (.func fn0) lb, args := #[.func (.yield (d + 1)) #[] #[]] }, X, fn0, #[.func (.yield (d + 1)) #[] #[]] ++ lb, X, ?_, ?_, ?_, ?_, fun _ => by omega, ?_⟩
 · rw [hX, hR, hd]
   exact run_enterLoop_outer _ _ _ _ _
 · simp only [resolve, hg]
   simp [go_sem]
 · intro f' _
   trivial
 · simp only [invoke, hfn0]
 have hn0 : X.heap.size = w.heap.size + 2 := by omega
 have hQ1 : ¬ G (d + 1) := fun e => by have := hG _ e; omega
 have hQ0 : ¬ G d := fun e => by have := hG _ e; omega
 have hc := it X hXb hn0 (n - 1) (d + 1) (fun pre W => I pre W ∧ W.heap[d + 1]? = some (.loop (Rc .ready none)) ∧ W.heap[d]? = some (.deferred (some []))) (fun pre W => ∃ c, Ix c pre W ∧ W.heap[d + 1]? = some (.loop (Rc .done (some c))) ∧ W.heap[d]? = some (.deferred (some []))) (by omega)
  (by
   intro p A B hs2 hit
   have e1 := hit.block (d + 1) (Array.getElem?_eq_some_iff.1 hs2.2.1).1 hQ1
   have e2 := hit.block d (Array.getElem?_eq_some_iff.1 hs2.2.2).1 hQ0
   exact ⟨hI p A B hs2.1 hit.sx, e1.trans hs2.2.1, e2.trans hs2.2.2⟩)
  ?_ ⟨hIX, hrec, hblk⟩
 · refine hc.mono ?_
   rintro e W2 ⟨⟨v, rfl⟩, xs, ⟨hE, hi, hl, hk⟩ | ⟨c, hi, hl, hk⟩⟩
   · refine ⟨none, _, (run_endLoop (P := Tryz.prog) hl (by rw [hR]; simp)).trans (by rw [hR]), ?_⟩
     exact hdone d xs _ (by omega) hE (hI _ _ _ hi (sx_put G _ hl (by omega) rfl)) ((World.putObj_heap_other (by omega)).trans hk)
   · refine ⟨some c, _, (run_endLoop (P := Tryz.prog) hl (by rw [hR]; simp)).trans (by rw [hR]), ?_⟩
     exact hstop d c xs _ (by omega) (hIx c _ _ _ hi (sx_put G _ hl (by omega) rfl)) ((World.putObj_heap_other (by omega)).trans hk)
 -- one round
 rintro pre x W ⟨hi, hl, hk⟩ hpre
 have hlt : d + 1 < W.heap.size := (Array.getElem?_eq_some_iff.1 hl).1
 have hy := run_yield (P := Tryz.prog) (args := itV x) hl (by rw [hR]; simp [hps, itV])
 rw [hR] at hy
 refine ⟨fn, _, assign, body, hy, roundIn_of_wpIn hfn (hassign _ x W _ ?_)⟩
 refine ⟨_, run_beginRound hl (by rw [hR]), ?_⟩
 have hlB : (W.putObj (d + 1) (.loop { Rc .ready none with state := .busy })).heap[d + 1]? = some (.loop { Rc .ready none with state := .busy }) := World.putObj_heap_same hlt
 have hkB : (W.putObj (d + 1) (.loop { Rc .ready none with state := .busy })).heap[d]? = some (.deferred (some [])) := (World.putObj_heap_other (by omega)).trans hk
 have hsx : Sx G w.heap.size W (W.putObj (d + 1) (.loop { Rc .ready none with state := .busy })) := sx_put G _ hl (by omega) rfl
 have hkp : ∀ (V : World) (o : Obj) {o' : Obj}, V.heap[d + 1]? = some o' → o'.isCells = false → KeepA F V (V.putObj (d + 1) o) := fun V o o' h1 h2 => ⟨by simp, fun k hk => World.putObj_heap_other (fun e => by have := hF k hk; omega), fun k cs hk => (World.putObj_heap_other (fun e => by subst e; rw [h1] at hk; cases hk; cases h2)).trans hk⟩
 refine wpIn_mono (hbody _ pre x _ (hI _ _ _ hi hsx) (hS _ _ _ _ hpre hsx)) ?_
 intro e a3 W3 hp
 cases e with
 | normal =>
  obtain ⟨p1, p2, p3⟩ := hp
  have hl3 := p1.same _ _ (by omega) hlB rfl
  have hk3 := p1.same _ _ (by omega) hkB rfl
  refine ⟨_, _, run_endRound (P := Tryz.prog) none hl3, .inl ⟨rfl, ⟨hI _ _ _ p3 (sx_put G _ hl3 (by omega) rfl), ?_, ?_⟩, ?_⟩⟩
  · rw [World.putObj_heap_same (Array.getElem?_eq_some_iff.1 hl3).1, hR]
    rfl
  · exact (World.putObj_heap_other (by omega)).trans hk3
  · exact ((hkp W _ hl rfl).trans p2).trans (hkp W3 _ hl3 rfl)
 | exit id =>
  obtain ⟨p1, p2⟩ := hp
  have hl3 := p1.same _ _ (by omega) hlB rfl
  have hk3 := p1.same _ _ (by omega) hkB rfl
  refine ⟨_, _, run_endRound (P := Tryz.prog) (some (.exit id)) hl3, .inr ⟨rfl, .exit id, hIx _ _ _ _ p2 (sx_put G _ hl3 (by omega) rfl), ?_, ?_⟩⟩
  · rw [World.putObj_heap_same (Array.getElem?_eq_some_iff.1 hl3).1, hR]
    rfl
  · exact (World.putObj_heap_other (by omega)).trans hk3
 | ret => exact hp.elim
 | goto t => exact hp.elim
 | panic c => exact hp.elim
 | outgrown => exact hp.elim
end Go.Proofs.YtbekghinikjjeaaGreatDoor.occ
namespace Go.Proofs.YtbekghinikjjeaaGreatDoor.occ
open Go.RowKit Go.Shelf
attribute [local go_sem] Oper.semAt_some
theorem hideT {p : Prop} (h : p) : Hid p := h
theorem owns_cell {W : World} {B e size n g cap : Nat} {xs : List Value} (h : W.ownsRow B e size (.slice (some ⟨g, 0, none⟩) n cap) n xs) (k : Nat) (u : Value) (hu : xs[k]? = some u) : W.cell? ⟨g, k, none⟩ = some u ∧ W.frozen? ⟨g, k, none⟩ = false := by
 obtain ⟨hl, h2⟩ := h
 rcases h2 with ⟨h2, _⟩ | ⟨g', cap', cur, he, hb, hh, hn, hc, hs, ht⟩
 · cases h2
 · cases he
   have hk : k < n * size := by rw [← hl]; exact (List.getElem?_eq_some_iff.1 hu).1
   rw [← ht, List.getElem?_take_of_lt hk] at hu
   exact ⟨by simp only [World.cell?, hh]; simpa using hu, by simp [World.frozen?, hh]⟩
theorem row_blk {W : World} {B e size n : Nat} {v : Value} {xs : List Value} (h : W.ownsRow B e size v n xs) {g : Nat} (hg : v.ownBlock = some g) : B ≤ g ∧ g < W.heap.size ∧ ∃ cur, W.heap[g]? = some (.cells cur e (0, 0)) := by
 rcases h.2 with ⟨rfl, _⟩ | ⟨g', cap', cur, rfl, hb, hh, _⟩
 · cases hg
 · cases hg
   exact ⟨hb, (Array.getElem?_eq_some_iff.1 hh).1, cur, hh⟩
theorem row_to {W : World} {B B' e size n : Nat} {v : Value} {xs : List Value} (h : W.ownsRow B e size v n xs) (hB : B' ≤ B) : W.ownsRow B' e size v n xs := by
 obtain ⟨hl, h2⟩ := h
 refine ⟨hl, ?_⟩
 rcases h2 with h2 | ⟨g, cap, cur, rfl, hb, r⟩
 · exact .inl h2
 · exact .inr ⟨g, cap, cur, rfl, Nat.le_trans hB hb, r⟩
def spW (l : List (Int × Int)) : List Value := l.flatMap fun x => [.int .i64 x.1, .int .i64 x.2]
def occF (mt : Nat → Option (List (Int × Int))) (len : Nat) : Nat → Int → Nat → List (List (Int × Int))
 | 0, _, _ => []
 | f + 1, ended, place => bif Nat.ble place len then
   (match mt place with
   | none => []
   | some sp => let p := sp.getD 0 (0, 0)
     let rest := occF mt len f p.2 (bif p.1 == p.2 then p.2.toNat + 1 else p.2.toNat)
     bif !(p.1 == p.2) || !(p.1 == ended) then sp :: rest else rest) else []
def GoodM (mt : Nat → Option (List (Int × Int))) (len : Nat) : Prop := ∀ k sp, k ≤ len → mt k = some sp → ∃ a b : Nat, ∃ r, sp = ((a : Int), (b : Int)) :: r ∧ k ≤ a ∧ a ≤ b ∧ b ≤ len
theorem occ_more {mt : Nat → Option (List (Int × Int))} {len : Nat} (hG : GoodM mt len) : ∀ (f g : Nat) (z : Int) (k : Nat), len + 1 - k < f → len + 1 - k < g → occF mt len f z k = occF mt len g z k
 | 0, _, _, _, h, _ => by omega
 | _, 0, _, _, _, h => by omega
 | f + 1, g + 1, z, k, hf, hg => by
  rw [occF, occF]
  cases hk : Nat.ble k len with
  | false => rfl
  | true =>
   have hk' := Nat.le_of_ble_eq_true hk
   rw [cond_true, cond_true]
   cases hm : mt k with
   | none => rfl
   | some sp =>
    obtain ⟨a, b, r, rfl, h1, h2, h3⟩ := hG k sp hk' hm
    simp only [List.getD_cons_zero, Int.toNat_natCast]
    have e : ∀ j, k < j → occF mt len f (b : Int) j = occF mt len g (b : Int) j := fun j hj => occ_more hG f g _ j (by omega) (by omega)
    cases c : ((a : Int) == (b : Int)) with
    | true => simp only [cond_true]; rw [e (b + 1) (by omega)]
    | false =>
     have : a ≠ b := by rintro rfl; simp at c
     simp only [cond_false]; rw [e b (by omega)]
def McOk (mb : Nat) (s : ByteArray) (mt : Nat → Option (List (Int × Int))) (G : Nat → Prop) (P : World → Prop) : Prop := ∀ (k : Nat) (W : World), k ≤ s.size → P W → Calls Tryz.prog 28 #[.pointer (some ⟨mb, 0, none⟩), .string s, .int .i64 (k : Nat)] W fun e w' => ∃ v, e = .returned (.tuple #[v, .bool (mt k).isSome, .int .i64 0]) ∧ w'.ownsRow W.heap.size 30 2 v ((mt k).getD []).length (spW ((mt k).getD [])) ∧ ItS G W w' ∧ P w'
def Sn (n0 : Nat) (items : List (List (Int × Int))) (pre : List It) (x : It) (W : World) : Prop := (∃ r, items = pre.map (·.sp) ++ x.sp :: r) ∧ x.e = 0 ∧ W.ownsRow n0 30 2 x.v x.sp.length (spW x.sp) ∧ ∀ g, x.v.ownBlock = some g → g < W.heap.size
def En (items : List (List (Int × Int))) (xs : List It) : Prop := xs.map (·.sp) = items
structure ItR (n0 Bs Bm mb : Nat) (s : ByteArray) (mt : Nat → Option (List (Int × Int))) (items : List (List (Int × Int))) (P : World → Prop) (J : List It → World → Prop) (z : Int) (k : Nat) (done : List It) (W : World) : Prop where
 it : items = done.map (·.sp) ++ occF mt s.size (s.size + 2 - k) z k
 bs : Boxed W Bs 9 (.string s)
 bm : Boxed W Bm 50 (.pointer (some ⟨mb, 0, none⟩))
 p : P W
 j : J done W
 n0 : n0 ≤ W.heap.size
theorem next_w {n0 q cap a b : Nat} {r : List (Int × Int)} {w1 wr : World} {G : Nat → Prop} {J : List It → World → Prop} {done : List It} (hJ : ∀ pre W W', J pre W → ItS G W W' → J pre W') (hj : J done w1) (hr : w1.ownsRow wr.heap.size 30 2 (.slice (some ⟨q, 0, none⟩) (r.length + 1) cap) (r.length + 1) (spW (((a : Int), (b : Int)) :: r))) (hn : n0 ≤ wr.heap.size) :
  Below w1.heap.size w1 (w1.alloc (.cells #[.int .i64 (a : Nat), .int .i64 (b : Nat)] 30)) ∧ (w1.alloc (.cells #[.int .i64 (a : Nat), .int .i64 (b : Nat)] 30)).heap[w1.heap.size]? = some (.cells #[.int .i64 (a : Nat), .int .i64 (b : Nat)] 30 (0, 0)) ∧ J done (w1.alloc (.cells #[.int .i64 (a : Nat), .int .i64 (b : Nat)] 30)) ∧ (w1.alloc (.cells #[.int .i64 (a : Nat), .int .i64 (b : Nat)] 30)).ownsRow n0 30 2 (.slice (some ⟨q, 0, none⟩) (r.length + 1) cap) (r.length + 1) (spW (((a : Int), (b : Int)) :: r)) ∧ q < (w1.alloc (.cells #[.int .i64 (a : Nat), .int .i64 (b : Nat)] 30)).heap.size := by
 have hW2 : Below w1.heap.size w1 (w1.alloc (.cells #[.int .i64 (a : Nat), .int .i64 (b : Nat)] 30)) := (Below.refl _ _).alloc (Nat.le_refl _) _
 have hr2 := row_to (hr.alloc (.cells #[.int .i64 (a : Nat), .int .i64 (b : Nat)] 30)) hn
 exact ⟨hW2, heap_alloc_new w1 _, hJ _ _ _ hj (ItS.of_below hW2), hr2, (row_blk hr2 (g := q) rfl).2.1⟩
theorem ItR.dr {n0 Bs Bm mb k : Nat} {z : Int} {s : ByteArray} {mt : Nat → Option (List (Int × Int))} {items : List (List (Int × Int))} {F G : Nat → Prop} {P : World → Prop} {J : List It → World → Prop} {done : List It} {W : World} (hJ : ∀ pre W W', J pre W → ItS G W W' → J pre W') (hP : ∀ W W', P W → W.heap.size ≤ W'.heap.size → (∀ k, F k → W'.heap[k]? = W.heap[k]?) → P W') (h : ItR n0 Bs Bm mb s mt items P J z k done W) : ItR n0 Bs Bm mb s mt items P J z k done W.drew :=
 ⟨h.it, h.bs, h.bm, hP _ _ h.p (Nat.le_refl _) fun _ _ => rfl, hJ _ _ _ h.j ⟨rfl, rfl, rfl, Nat.le_refl _, fun _ _ _ => rfl⟩, h.n0⟩
theorem cell5 {W : World} {g : Nat} {vs : Array Value} (h : W.heap[g]? = some (.cells vs 30 (0, 0))) {j : Nat} {v : Value} (hv : vs[j]? = some v) : W.cell? ⟨g, j, none⟩ = some v := by simp only [World.cell?, h]; simpa using hv
theorem yield_next {n l n0 Bs Bm mb q cap a b k : Nat} {s : ByteArray} {mt : Nat → Option (List (Int × Int))} {items : List (List (Int × Int))} {F : Nat → Prop} {P : World → Prop} {J Jx : List It → World → Prop} {done : List It} {r : List (Int × Int)} {w1 W : World} (hFs : F Bs) (hFm : F Bm) (hP : ∀ W W', P W → W.heap.size ≤ W'.heap.size → (∀ k, F k → W'.heap[k]? = W.heap[k]?) → P W')
  (hY : ∀ pre (x : It) W1, J pre W1 → Sn n0 items pre x W1 → YieldAt Fence.wide (n - 1) Tryz.prog l (itV x) W1 fun e W' => (e = .returned (.bool true) ∧ J (pre ++ [x]) W' ∧ KeepA F W1 W') ∨ (e = .returned (.bool false) ∧ Jx (pre ++ [x]) W'))
  (h1 : Boxed w1 Bs 9 (.string s)) (h2 : Boxed w1 Bm 50 (.pointer (some ⟨mb, 0, none⟩))) (hn : n0 ≤ w1.heap.size) (hPb : ∀ W', Below w1.heap.size w1 W' → P W')
  (hit : items = done.map (·.sp) ++ (((a : Int), (b : Int)) :: r) :: occF mt s.size (s.size + 2 - k) b k)
  (hX : Below w1.heap.size w1 W ∧ W.heap[w1.heap.size]? = some (.cells #[.int .i64 (a : Nat), .int .i64 (b : Nat)] 30 (0, 0)) ∧ J done W ∧ W.ownsRow n0 30 2 (.slice (some ⟨q, 0, none⟩) (r.length + 1) cap) (r.length + 1) (spW (((a : Int), (b : Int)) :: r)) ∧ q < W.heap.size) :
  YieldAt Fence.wide (n - 1) Tryz.prog l #[.slice (some ⟨q, 0, none⟩) (r.length + 1) cap, .int .i64 0] W fun e W' =>
   (e = .returned (.bool true) ∧ (∃ done', ItR n0 Bs Bm mb s mt items P J b k done' W') ∧ W'.heap[w1.heap.size]? = some (.cells #[.int .i64 (a : Nat), .int .i64 (b : Nat)] 30 (0, 0))) ∨ (e = .returned (.bool false) ∧ ∃ done', Jx done' W') := by
 have hsn : Sn n0 items done ⟨.slice (some ⟨q, 0, none⟩) (r.length + 1) cap, 0, ((a : Int), (b : Int)) :: r⟩ W := ⟨⟨_, hit⟩, rfl, hX.2.2.2.1, fun g hg => by cases hg; exact hX.2.2.2.2⟩
 refine (hY done _ W hX.2.2.1 hsn).mono ?_
 rintro e W' (⟨rfl, hj, hk⟩ | ⟨rfl, hj⟩)
 · have hPW := hPb W hX.1
   refine .inl ⟨rfl, ⟨_, ?_, (hk.same _ hFs).trans ((hX.1.block _ h1.lt).trans h1), (hk.same _ hFm).trans ((hX.1.block _ h2.lt).trans h2), hP _ _ hPW hk.size hk.same, hj, Nat.le_trans hn (Nat.le_trans hX.1.size hk.size)⟩, hk.ty _ _ hX.2.1⟩
   rw [hit]
   simp
 · exact .inr ⟨rfl, _, hj⟩
theorem iter_m {Bs Bm mb n0 : Nat} {s : ByteArray} (hs : s.size ≤ 1073741824) {mt : Nat → Option (List (Int × Int))} {F G : Nat → Prop} {P : World → Prop} (hG : GoodM mt s.size) (hM : McOk mb s mt G P) (hFs : F Bs) (hFm : F Bm) (hGs : ¬ G Bs) (hGm : ¬ G Bm) (hP : ∀ W W', P W → W.heap.size ≤ W'.heap.size → (∀ k, F k → W'.heap[k]? = W.heap[k]?) → P W') {X : World} (h1 : Boxed X Bs 9 (.string s)) (h2 : Boxed X Bm 50 (.pointer (some ⟨mb, 0, none⟩))) (hp : P X) (hn : n0 ≤ X.heap.size) (hFl : ∀ k, F k → k < n0) (hGF : ∀ k, G k → F k) :
  Iter 27 #[.pointer (some ⟨Bs, 0, none⟩), .pointer (some ⟨Bm, 0, none⟩)] (Sn n0 (occF mt s.size (s.size + 2) (-1) 0)) (En (occF mt s.size (s.size + 2) (-1) 0)) F G X := by
 intro n l J Jx hn1 hJ hY h0
 have HI0 := hideT (show ItR n0 Bs Bm mb s mt (occF mt s.size (s.size + 2) (-1) 0) P J (-1) 0 [] X from ⟨rfl, h1, h2, hp, h0, hn⟩)
 have HC := hideT (And.intro hG (And.intro hM (And.intro hFs (And.intro hFm (And.intro hGs (And.intro hGm (And.intro hP (And.intro hFl hGF))))))))
 have HJ := hideT (And.intro hJ hY)
 clear hG hM hFs hFm hGs hGm hP h1 h2 hp h0 hJ hY hn hFl hGF
 generalize occF mt s.size (s.size + 2) (-1) 0 = items at *
 refine callsIn_of_wp Tryz.func27 rfl trivial ?_ rfl
 simp only [Tryz.ntmps27, List.size_toArray, List.length_cons, List.length_nil, Nat.reduceAdd, Nat.reduceSub, Array.replicate_succ, Array.replicate_zero, List.push_toArray, List.append_toArray, List.nil_append, List.cons_append]
 gi_wp2
 gi_loopw [4, 5] (fun z i wr => ∃ (zi : Int) (k : Nat) (done : List It), k ≤ s.size + 1 ∧ z = .int .i64 zi ∧ i = .int .i64 (k : Nat) ∧ Hid (ItR n0 Bs Bm mb s mt items P J zi k done wr)) (fun _ i _ => s.size + 1 - (intOf i).toNat)
 case atStart => exact ⟨-1, 0, [], by omega, rfl, rfl, HI0⟩
 case round =>
  obtain ⟨zi, k, done, hk, rfl, rfl, HI⟩ := hrel
  clear HI0
  have cs := HI.out.bs.cell
  have cm := HI.out.bm.cell
  by_cases hlt : k ≤ s.size
  · have i1 : (k : Int) ≤ (s.size : Int) := by omega
    have HQ := hideT (HC.out.2.1 k wr hlt HI.out.p)
    gi_wp2_with fail
    refine ⟨trivial, ?_⟩
    refine (callsIn_wide.2 HQ.out).mono ?_
    rintro e w1 ⟨v, rfl, hrow, hits, hp1⟩
    have hfb : ∀ {B t u}, F B → ¬ G B → Boxed wr B t u → Boxed w1 B t u := fun _ hg hb => (hits.block _ hb.lt hg).trans hb
    have HI1 := hideT (And.intro (hfb HC.out.2.2.1 HC.out.2.2.2.2.1 HI.out.bs) (And.intro (hfb HC.out.2.2.2.1 HC.out.2.2.2.2.2.1 HI.out.bm) (And.intro hp1 (And.intro (HJ.out.1 _ _ _ HI.out.j hits) (And.intro (Nat.le_trans HI.out.n0 hits.size) (And.intro HI.out.n0 HI.out.it))))))
    have HR := hideT hrow
    clear hrow hits hp1 hfb HQ HI cs cm
    cases hm : mt k with
    | none =>
     have HIT := HI1.out.2.2.2.2.2.2
     have e1 : s.size + 2 - k = (s.size + 1 - k) + 1 := by omega
     rw [e1, occF, show Nat.ble k s.size = true from Nat.ble_eq_true_of_le hlt, cond_true, hm] at HIT
     have HE := hideT (show En items done from by rw [HIT]; show done.map (·.sp) = _; simp)
     clear HIT e1
     gi_wp2
     refine bodyPost_ret (results_none rfl _ _ _) rfl ?_
     exact ⟨⟨_, rfl⟩, done, .inl ⟨HE.out, HI1.out.2.2.2.1⟩⟩
    | some sp =>
     obtain ⟨a, b, r, rfl, g1, g2, g3⟩ := HC.out.1 k sp hlt hm
     have HRR := HR.out
     rw [hm] at HRR
     have HIT := HI1.out.2.2.2.2.2.2
     have e1 : s.size + 2 - k = (s.size + 1 - k) + 1 := by omega
     rw [e1, occF, show Nat.ble k s.size = true from Nat.ble_eq_true_of_le hlt, cond_true, hm] at HIT
     simp only [List.getD_cons_zero, Int.toNat_natCast] at HIT
     have HB := hideT (And.intro HIT (And.intro g1 (And.intro g2 g3)))
     clear HIT e1 HR g1 g2 g3
     obtain ⟨q, cap, rfl⟩ := ownsRow_succ (k := r.length) HRR
     have c0 := (owns_cell HRR 0 (.int .i64 a) rfl).1
     have c1 := (owns_cell HRR 1 (.int .i64 b) rfl).1
     have HRW := hideT HRR
     clear HRR
     have HX := hideT (next_w (a := a) (b := b) HJ.out.1 HI1.out.2.2.2.1 HRW.out HI1.out.2.2.2.2.2.1)
     have hPb : ∀ W', Below w1.heap.size w1 W' → P W' := fun W' hb => HC.out.2.2.2.2.2.2.1 _ _ HI1.out.2.2.1 hb.size (fun g hg => hb.block g (by have := HC.out.2.2.2.2.2.2.2.1 g hg; have := HI1.out.2.2.2.2.1; omega))
     have HP := hideT hPb
     clear hPb
     have hbs : b ≤ s.size := HB.out.2.2.2
     by_cases hab : a = b
     · subst hab
       have e1 : ((a : Int) == (a : Int)) = true := by simp
       have hit := HB.out.1
       rw [e1] at hit
       simp only [cond_true, Bool.not_true, Bool.false_or] at hit
       rw [occ_more HC.out.1 (s.size + 1 - k) (s.size + 2 - (a + 1)) a (a + 1) (by have := HB.out.2; omega) (by have := HB.out.2; omega)] at hit
       by_cases hz : zi = (a : Int)
       · subst hz
         rw [e1] at hit
         simp only [Bool.not_true, cond_false] at hit
         have HN := hideT (show ItR n0 Bs Bm mb s mt items P J a (a + 1) done (w1.alloc (.cells #[.int .i64 (a : Nat), .int .i64 (a : Nat)] 30)) from ⟨hit, HI1.out.1.alloc _, HI1.out.2.1.alloc _, HP.out _ HX.out.1, HX.out.2.2.1, Nat.le_trans HI1.out.2.2.2.2.1 HX.out.1.size⟩)
         clear hit
         gi_wp2
         refine ⟨fun f h => (nomatch h), ?_⟩
         have d0 := cell5 HX.out.2.1 (j := 0) rfl
         have d1 := cell5 HX.out.2.1 (j := 1) rfl
         gi_wp2
         refine wpIn_wide.2 ?_
         go_region
         gi_wp2
         go_roundw
         case rel => exact ⟨a, a + 1, done, by have := HB.out.2; omega, rfl, by go_num, hideT (HN.out.dr HJ.out.1 HC.out.2.2.2.2.2.2.1)⟩
         case measure => simp [intOf]; have := HB.out.2; omega
       · have e2 : ((a : Int) == zi) = false := by simp; omega
         have e3 : ((a : Int) != zi) = true := by simp; omega
         rw [e2] at hit
         simp only [Bool.not_false, cond_true] at hit
         have HY := yield_next HC.out.2.2.1 HC.out.2.2.2.1 HC.out.2.2.2.2.2.2.1 HJ.out.2 HI1.out.1 HI1.out.2.1 HI1.out.2.2.2.2.1 HP.out hit HX.out
         clear hit
         obtain ⟨fn, tmps, assign, body, hy, hR⟩ := HY
         gi_wp2
         refine hR.mono ?_
         rintro e W5 (⟨rfl, ⟨done', hI5⟩, h5⟩ | ⟨rfl, done', hJ5⟩)
         · have H5 := hideT hI5
           have d0 := cell5 h5 (j := 0) rfl
           have d1 := cell5 h5 (j := 1) rfl
           clear hI5 h5
           gi_wp2
           refine wpIn_wide.2 ?_
           go_region
           gi_wp2
           go_roundw
           case rel => exact ⟨a, a + 1, done', by have := HB.out.2; omega, rfl, by go_num, hideT (H5.out.dr HJ.out.1 HC.out.2.2.2.2.2.2.1)⟩
           case measure => simp [intOf]; have := HB.out.2; omega
         · have HJ5 := hideT hJ5
           clear hJ5
           gi_wp2
           refine bodyPost_ret (results_none rfl _ _ _) rfl ?_
           exact ⟨⟨_, rfl⟩, done', .inr HJ5.out⟩
     · have e1 : ((a : Int) == (b : Int)) = false := by simp; omega
       have hit := HB.out.1
       rw [e1] at hit
       simp only [cond_true, cond_false, Bool.not_false, Bool.true_or] at hit
       rw [occ_more HC.out.1 (s.size + 1 - k) (s.size + 2 - b) b b (by have := HB.out.2; omega) (by have := HB.out.2; omega)] at hit
       have HY := yield_next HC.out.2.2.1 HC.out.2.2.2.1 HC.out.2.2.2.2.2.2.1 HJ.out.2 HI1.out.1 HI1.out.2.1 HI1.out.2.2.2.2.1 HP.out hit HX.out
       clear hit
       obtain ⟨fn, tmps, assign, body, hy, hR⟩ := HY
       gi_wp2
       refine hR.mono ?_
       rintro e W5 (⟨rfl, ⟨done', hI5⟩, h5⟩ | ⟨rfl, done', hJ5⟩)
       · have H5 := hideT hI5
         have d0 := cell5 h5 (j := 0) rfl
         have d1 := cell5 h5 (j := 1) rfl
         clear hI5 h5
         gi_wp2
         refine wpIn_wide.2 ?_
         go_region
         gi_wp2
         go_roundw
         case rel => exact ⟨b, b, done', by have := HB.out.2; omega, rfl, by go_num, hideT (H5.out.dr HJ.out.1 HC.out.2.2.2.2.2.2.1)⟩
         case measure => simp [intOf]; have := HB.out.2; omega
       · have HJ5 := hideT hJ5
         clear hJ5
         gi_wp2
         refine bodyPost_ret (results_none rfl _ _ _) rfl ?_
         exact ⟨⟨_, rfl⟩, done', .inr HJ5.out⟩
  · have i1 : ((k : Int) ≤ (s.size : Int)) = False := by rw [eq_iff_iff, iff_false]; omega
    have HIT := HI.out.it
    have e1 : s.size + 2 - k = 0 + 1 := by omega
    have e2 : Nat.ble k s.size = false := by cases h : Nat.ble k s.size with
     | false => rfl
     | true => exact absurd (Nat.le_of_ble_eq_true h) hlt
    rw [e1, occF, e2, cond_false] at HIT
    have HE := hideT (show En items done from by rw [HIT]; show done.map (·.sp) = _; simp)
    clear HIT e1 e2
    gi_wp2
    go_end0
    exact ⟨⟨_, rfl⟩, done, .inl ⟨HE.out, HI.out.j⟩⟩
end Go.Proofs.YtbekghinikjjeaaGreatDoor.occ
namespace Go.Proofs.YtbekghinikjjeaaGreatDoor.occ
open Go.RowKit Go.Shelf
attribute [local go_sem] Oper.semAt_some
theorem func_eq_nil (f : Fn) (a b : Array Value) (w : World) : (binOp .eql 59 (.func f a b) .nilFunc).run Tryz.prog w = .ok (.bool false) w := by
 kernel_rfl
theorem func_ne_nil (f : Fn) (a b : Array Value) (w : World) : (binOp .neq 59 (.func f a b) .nilFunc).run Tryz.prog w = .ok (.bool true) w := by
 kernel_rfl
attribute [local go_sem] func_eq_nil func_ne_nil
theorem mMatch_nil (s : ByteArray) (k : Int) (w : World) : Calls Tryz.prog 28 #[.pointer none, .string s, .int .i64 k] w fun e w' => e = .returned (.tuple #[.slice none 0 0, .bool false, .int .i64 25]) ∧ Below w.heap.size w w' := by
 go_enter Tryz.func28, Tryz.ntmps28
 go_wp2
 exact bodyPost_ret (v := .tuple #[.slice none 0 0, .bool false, .int .i64 25]) (by simp [results, Tryz.results28, go_sem]) rfl ⟨rfl, Below.refl _ _⟩
theorem all_in (n : Nat) (m : Value) (hm : m.oneCell' = true) (s : ByteArray) (w : World) : CallsIn Fence.wide n Tryz.prog 19 #[m, .string s] w fun e w' => e = .returned (.func (.func 27) #[] #[.pointer (some ⟨w.heap.size + 1, 0, none⟩), .pointer (some ⟨w.heap.size, 0, none⟩)]) ∧ w' = (w.alloc (.cells #[m] 50)).alloc (.cells #[.string s] 9) := by
 refine callsIn_of_wp Tryz.func19 rfl trivial ?_ rfl
 simp only [Tryz.ntmps19, List.size_toArray, List.length_cons, List.length_nil, Nat.reduceAdd, Nat.reduceSub, Array.replicate_succ, Array.replicate_zero, List.push_toArray, List.append_toArray, List.nil_append, List.cons_append]
 gi_wp2
 go_ret
 exact ⟨rfl, rfl⟩
def nilI : It := ⟨.slice none 0 0, 25, []⟩
theorem iter_nil {Bs Bm : Nat} {s : ByteArray} {F G : Nat → Prop} {X : World} (h1 : Boxed X Bs 9 (.string s)) (h2 : Boxed X Bm 50 (.pointer none)) :
  Iter 27 #[.pointer (some ⟨Bs, 0, none⟩), .pointer (some ⟨Bm, 0, none⟩)] (fun pre x _ => pre = [] ∧ x = nilI) (fun xs => xs = [nilI]) F G X := by
 intro n l J Jx hn1 hJ hY h0
 have HI0 := hideT (And.intro h1 (And.intro h2 h0))
 have HJ := hideT (And.intro hJ hY)
 clear h1 h2 h0 hJ hY
 refine callsIn_of_wp Tryz.func27 rfl trivial ?_ rfl
 simp only [Tryz.ntmps27, List.size_toArray, List.length_cons, List.length_nil, Nat.reduceAdd, Nat.reduceSub, Array.replicate_succ, Array.replicate_zero, List.push_toArray, List.append_toArray, List.nil_append, List.cons_append]
 gi_wp2
 gi_loopw [5] (fun i wr => i = .int .i64 0 ∧ wr = X) (fun _ _ => 0)
 case atStart => exact ⟨rfl, rfl⟩
 case round =>
  obtain ⟨rfl, rfl⟩ := hrel
  have cs := HI0.out.1.cell
  have cm := HI0.out.2.1.cell
  have i1 : (0 : Int) ≤ (s.size : Int) := by omega
  gi_wp2_with fail
  refine ⟨trivial, ?_⟩
  refine (callsIn_wide.2 (mMatch_nil s 0 _)).mono ?_
  rintro e w1 ⟨rfl, hb⟩
  have hj := HJ.out.1 _ _ _ HI0.out.2.2 (ItS.of_below hb)
  obtain ⟨fn, tmps, assign, body, hy, hR⟩ := HJ.out.2 [] nilI w1 hj ⟨rfl, rfl⟩
  clear hb hj cs cm
  have hy : (Instr.yield l #[.slice none 0 0, .int .i64 25]).run Tryz.prog w1 = _ := hy
  gi_wp2
  refine hR.mono ?_
  rintro e W5 (⟨rfl, hj, _⟩ | ⟨rfl, hj⟩)
  · have H5 := hideT hj
    clear hj
    gi_wp2
    refine bodyPost_ret (results_none rfl _ _ _) rfl ?_
    exact ⟨⟨_, rfl⟩, [nilI], .inl ⟨rfl, H5.out⟩⟩
  · have H5 := hideT hj
    clear hj
    gi_wp2
    refine bodyPost_ret (results_none rfl _ _ _) rfl ?_
    exact ⟨⟨_, rfl⟩, _, .inr H5.out⟩
theorem box_sx {G : Nat → Prop} {B k : Nat} {W W' : World} (h : Sx G B W W') (hg : ¬ G k) {t : TypeId} {v : Value} (hb : Boxed W k t v) : Boxed W' k t v := h.blk k _ hb hg (.inr rfl)
theorem below_sx {G : Nat → Prop} {B C : Nat} {W0 W W' : World} (h : Sx G C W W') (hg : ∀ k, k < B → ¬ G k) (hC : B ≤ C) (hB : B ≤ W0.heap.size) (hb : Below B W0 W) : Below B W0 W' := by
 refine ⟨h.os.trans hb.os, h.tape.trans hb.tape, h.output.trans hb.output, Nat.le_trans hb.size h.size, fun k hk => ?_⟩
 have h0 : k < W.heap.size := by have := hb.size; omega
 have := h.blk k _ (Array.getElem?_eq_getElem h0) (hg k hk) (.inl (by omega))
 rw [this, ← Array.getElem?_eq_getElem h0]
 exact hb.block k hk
structure NoI (n : Nat) (w : World) (z : Int) (W : World) : Prop where
 m : Boxed W n 3 (.int .i64 (-1))
 r1 : ∃ v, Boxed W (n + 1) 24 v
 r2 : ∃ v, Boxed W (n + 1 + 1) 25 v
 r3 : ∃ v, Boxed W (n + 1 + 1 + 1) 4 v
 l : Boxed W (n + 1 + 1 + 1 + 1) 24 (.slice none 0 0)
 e : Boxed W (n + 1 + 1 + 1 + 1 + 1) 25 (.int .i64 z)
 b : Below n w W
theorem NoI.sx {n : Nat} {w W W' : World} {z : Int} {C : Nat} (h : NoI n w z W) (hn : n ≤ w.heap.size) (hs : Sx (fun _ => False) C W W') (hC : n ≤ C) : NoI n w z W' :=
 ⟨box_sx hs id h.m, h.r1.imp fun _ => box_sx hs id, h.r2.imp fun _ => box_sx hs id, h.r3.imp fun _ => box_sx hs id, box_sx hs id h.l, box_sx hs id h.e, below_sx hs (fun _ _ => id) hC hn h.b⟩
theorem box_at {W : World} {k : Nat} (hk : W.heap.size = k) (t : TypeId) (v : Value) : Boxed (W.alloc (.cells #[v] t)) k t v ∧ (W.alloc (.cells #[v] t)).heap.size = k + 1 := by
 subst hk
 exact ⟨Boxed.new W t v, by simp⟩
theorem none_laid (w : World) (s : ByteArray) : let W := (((((((w.alloc (.cells #[.int .i64 (-1)] 3)).alloc (.cells #[.slice none 0 0] 24)).alloc (.cells #[.int .i64 0] 25)).alloc (.cells #[.bool false] 4)).alloc (.cells #[.slice none 0 0] 24)).alloc (.cells #[.int .i64 0] 25)).alloc (.cells #[.pointer none] 50)).alloc (.cells #[.string s] 9)
  NoI w.heap.size w 0 W ∧ Boxed W (w.heap.size + 6) 50 (.pointer none) ∧ Boxed W (w.heap.size + 7) 9 (.string s) ∧ W.heap.size = w.heap.size + 8 := by
 intro W
 obtain ⟨b0, s0⟩ := box_at (W := w) rfl 3 (.int .i64 (-1))
 obtain ⟨b1, s1⟩ := box_at s0 24 (.slice none 0 0)
 obtain ⟨b2, s2⟩ := box_at s1 25 (.int .i64 0)
 obtain ⟨b3, s3⟩ := box_at s2 4 (.bool false)
 obtain ⟨b4, s4⟩ := box_at s3 24 (.slice none 0 0)
 obtain ⟨b5, s5⟩ := box_at s4 25 (.int .i64 0)
 obtain ⟨b6, s6⟩ := box_at s5 50 (.pointer none)
 obtain ⟨b7, s7⟩ := box_at s6 9 (.string s)
 have hb := ((((((((Below.refl w.heap.size w).alloc (by omega) (.cells #[.int .i64 (-1)] 3)).alloc (by omega) (.cells #[.slice none 0 0] 24)).alloc (by omega) (.cells #[.int .i64 0] 25)).alloc (by omega) (.cells #[.bool false] 4)).alloc (by omega) (.cells #[.slice none 0 0] 24)).alloc (by omega) (.cells #[.int .i64 0] 25)).alloc (by omega) (.cells #[.pointer none] 50)).alloc (by omega) (.cells #[.string s] 9)
 exact ⟨⟨((((((b0.alloc _).alloc _).alloc _).alloc _).alloc _).alloc _).alloc _, ⟨_, (((((b1.alloc _).alloc _).alloc _).alloc _).alloc _).alloc _⟩, ⟨_, ((((b2.alloc _).alloc _).alloc _).alloc _).alloc _⟩, ⟨_, (((b3.alloc _).alloc _).alloc _).alloc _⟩, ((b4.alloc _).alloc _).alloc _, (b5.alloc _).alloc _, hb⟩, b6.alloc _, b7, s7⟩
theorem none_end {w W W0 : World} {z : Int} {D : Nat} (hz : W0.heap.size = w.heap.size + 8) (hN : NoI w.heap.size w z W) (hD : W0.heap.size ≤ D) (hK : W.heap[D]? = some (.deferred (some []))) (a b c : Value) :
  (((W.setCell ⟨w.heap.size + 1, 0, none⟩ a).setCell ⟨w.heap.size + 1 + 1, 0, none⟩ b).setCell ⟨w.heap.size + 1 + 1 + 1, 0, none⟩ c).drew.heap[D]? = some (.deferred (some [])) ∧
  ((((W.setCell ⟨w.heap.size + 1, 0, none⟩ a).setCell ⟨w.heap.size + 1 + 1, 0, none⟩ b).setCell ⟨w.heap.size + 1 + 1 + 1, 0, none⟩ c).drew.putObj D (.deferred none)).cell? ⟨w.heap.size + 1, 0, none⟩ = some a ∧
  ((((W.setCell ⟨w.heap.size + 1, 0, none⟩ a).setCell ⟨w.heap.size + 1 + 1, 0, none⟩ b).setCell ⟨w.heap.size + 1 + 1 + 1, 0, none⟩ c).drew.putObj D (.deferred none)).cell? ⟨w.heap.size + 1 + 1, 0, none⟩ = some b ∧
  ((((W.setCell ⟨w.heap.size + 1, 0, none⟩ a).setCell ⟨w.heap.size + 1 + 1, 0, none⟩ b).setCell ⟨w.heap.size + 1 + 1 + 1, 0, none⟩ c).drew.putObj D (.deferred none)).cell? ⟨w.heap.size + 1 + 1 + 1, 0, none⟩ = some c ∧
  Below w.heap.size w ((((W.setCell ⟨w.heap.size + 1, 0, none⟩ a).setCell ⟨w.heap.size + 1 + 1, 0, none⟩ b).setCell ⟨w.heap.size + 1 + 1 + 1, 0, none⟩ c).drew.putObj D (.deferred none)) := by
 obtain ⟨v1, b1⟩ := hN.r1
 obtain ⟨v2, b2⟩ := hN.r2
 obtain ⟨v3, b3⟩ := hN.r3
 have e1 := ((b1.set a).other (show w.heap.size + 1 ≠ w.heap.size + 1 + 1 by omega) b).other (show w.heap.size + 1 ≠ w.heap.size + 1 + 1 + 1 by omega) c
 have e2 := ((b2.other (show w.heap.size + 1 + 1 ≠ w.heap.size + 1 by omega) a).set b).other (show w.heap.size + 1 + 1 ≠ w.heap.size + 1 + 1 + 1 by omega) c
 have e3 := ((b3.other (show w.heap.size + 1 + 1 + 1 ≠ w.heap.size + 1 by omega) a).other (show w.heap.size + 1 + 1 + 1 ≠ w.heap.size + 1 + 1 by omega) b).set c
 have hk : (((W.setCell ⟨w.heap.size + 1, 0, none⟩ a).setCell ⟨w.heap.size + 1 + 1, 0, none⟩ b).setCell ⟨w.heap.size + 1 + 1 + 1, 0, none⟩ c).drew.heap[D]? = some (.deferred (some [])) := (Below.heap_setCell _ ⟨w.heap.size + 1 + 1 + 1, 0, none⟩ _ D (show D ≠ w.heap.size + 1 + 1 + 1 by omega)).trans ((Below.heap_setCell _ ⟨w.heap.size + 1 + 1, 0, none⟩ _ D (show D ≠ w.heap.size + 1 + 1 by omega)).trans ((Below.heap_setCell _ ⟨w.heap.size + 1, 0, none⟩ _ D (show D ≠ w.heap.size + 1 by omega)).trans hK))
 have hb := ((hN.b.setCell (p := ⟨w.heap.size + 1, 0, none⟩) (show w.heap.size ≤ w.heap.size + 1 by omega) a).setCell (p := ⟨w.heap.size + 1 + 1, 0, none⟩) (show w.heap.size ≤ w.heap.size + 1 + 1 by omega) b).setCell (p := ⟨w.heap.size + 1 + 1 + 1, 0, none⟩) (show w.heap.size ≤ w.heap.size + 1 + 1 + 1 by omega) c
 have hd : Below w.heap.size w (((W.setCell ⟨w.heap.size + 1, 0, none⟩ a).setCell ⟨w.heap.size + 1 + 1, 0, none⟩ b).setCell ⟨w.heap.size + 1 + 1 + 1, 0, none⟩ c).drew := hb.trans ⟨rfl, rfl, rfl, Nat.le_refl _, fun _ _ => rfl⟩
 have put : ∀ {k t v}, k ≠ D → Boxed (((W.setCell ⟨w.heap.size + 1, 0, none⟩ a).setCell ⟨w.heap.size + 1 + 1, 0, none⟩ b).setCell ⟨w.heap.size + 1 + 1 + 1, 0, none⟩ c) k t v → Boxed ((((W.setCell ⟨w.heap.size + 1, 0, none⟩ a).setCell ⟨w.heap.size + 1 + 1, 0, none⟩ b).setCell ⟨w.heap.size + 1 + 1 + 1, 0, none⟩ c).drew.putObj D (.deferred none)) k t v := fun hk h => (World.putObj_heap_other hk).trans h
 exact ⟨hk, (put (by omega) e1).cell, (put (by omega) e2).cell, (put (by omega) e3).cell, hd.trans (belowK_b (w := w) (Nat.le_refl _) _ D _ _ (by omega) hk rfl rfl)⟩
theorem all_none (s : ByteArray) (w : World) : Calls Tryz.prog 9 #[.pointer none, .string s, .int .i64 (-1)] w fun e w' => e = .returned (.tuple #[.slice none 0 0, .int .i64 25, .bool true]) ∧ Below w.heap.size w w' := by
 have HL := hideT (none_laid w s)
 refine (callsIn_wide (n := 5)).1 ?_
 refine callsIn_of_wp_marks Tryz.func9 rfl trivial ?_ rfl
 simp only [Tryz.ntmps9, List.size_toArray, List.length_cons, List.length_nil, Nat.reduceAdd, Nat.reduceSub, Array.replicate_succ, Array.replicate_zero, List.push_toArray, List.append_toArray, List.nil_append, List.cons_append]
 gi_wp2_with fail
 refine ⟨trivial, ?_⟩
 refine (all_in _ _ rfl _ _).mono ?_
 rintro e w1 ⟨rfl, rfl⟩
 have hl := HL.out
 clear HL
 simp only [World.size_alloc]
 generalize ((((((((w.alloc (.cells #[.int .i64 (-1)] 3)).alloc (.cells #[.slice none 0 0] 24)).alloc (.cells #[.int .i64 0] 25)).alloc (.cells #[.bool false] 4)).alloc (.cells #[.slice none 0 0] 24)).alloc (.cells #[.int .i64 0] 25)).alloc (.cells #[.pointer none] 50)).alloc (.cells #[.string s] 9)) = W0 at *
 obtain ⟨hN, hm, hss, hz⟩ := hl
 have c0 := hN.m.cell
 have HN := hideT (And.intro hN (And.intro hm (And.intro hss hz)))
 clear hN hm hss hz
 gi_wp2
 refine range_A (by omega) (F := fun k => k = w.heap.size + 6 ∨ k = w.heap.size + 7) (G := fun _ => False) (fun k hk => by have := HN.out.2.2.2; omega) (fun _ hk => hk.elim) (fun X hX _ => iter_nil (F := fun k => k = w.heap.size + 6 ∨ k = w.heap.size + 7) (Bs := w.heap.size + 1 + 1 + 1 + 1 + 1 + 1 + 1) (Bm := w.heap.size + 1 + 1 + 1 + 1 + 1 + 1) ((hX.block _ HN.out.2.2.1.lt).trans HN.out.2.2.1) ((hX.block _ HN.out.2.1.lt).trans HN.out.2.1)) (fun _ _ => rfl) rfl rfl (fun _ _ _ _ h _ => h)
  (fun pre W => ∃ z : Int, (pre = [] ∧ z = 0 ∨ pre = [nilI] ∧ z = 25) ∧ NoI w.heap.size w z W) (fun _ _ _ => False)
  (fun pre A B h hs => by obtain ⟨z, h1, h2⟩ := h; exact ⟨z, h1, h2.sx (Nat.le_refl _) hs (by have := HN.out.2.2.2; omega)⟩) (fun _ _ _ _ h _ => h) ⟨0, .inl ⟨rfl, rfl⟩, HN.out.1⟩
  (fun x => { tmps := #[.pointer none, .string s, .int .i64 (-1), undef, undef, .pointer (some ⟨w.heap.size, 0, none⟩), .pointer (some ⟨w.heap.size + 1, 0, none⟩), .pointer (some ⟨w.heap.size + 1 + 1, 0, none⟩), .pointer (some ⟨w.heap.size + 1 + 1 + 1, 0, none⟩), .pointer (some ⟨w.heap.size + 1 + 1 + 1 + 1, 0, none⟩), .pointer (some ⟨w.heap.size + 1 + 1 + 1 + 1 + 1, 0, none⟩), .func (.func 27) #[] #[.pointer (some ⟨w.heap.size + 1 + 1 + 1 + 1 + 1 + 1 + 1, 0, none⟩), .pointer (some ⟨w.heap.size + 1 + 1 + 1 + 1 + 1 + 1, 0, none⟩)], x.v, .int .i64 (x.e : Nat), .pointer none, .string s, .func (.func 27) #[] #[.pointer (some ⟨w.heap.size + 1 + 1 + 1 + 1 + 1 + 1 + 1, 0, none⟩), .pointer (some ⟨w.heap.size + 1 + 1 + 1 + 1 + 1 + 1, 0, none⟩)], .func (.func 27) #[] #[.pointer (some ⟨w.heap.size + 1 + 1 + 1 + 1 + 1 + 1 + 1, 0, none⟩), .pointer (some ⟨w.heap.size + 1 + 1 + 1 + 1 + 1 + 1, 0, none⟩)], .bool false, .bool false, .int .i64 (-1), .bool false, .bool false, undef, undef, undef, .func (.func 27) #[] #[.pointer (some ⟨w.heap.size + 1 + 1 + 1 + 1 + 1 + 1 + 1, 0, none⟩), .pointer (some ⟨w.heap.size + 1 + 1 + 1 + 1 + 1 + 1, 0, none⟩)], x.v, .int .i64 (x.e : Nat), undef, undef, undef, undef, undef, undef, undef, undef, undef, undef, undef, undef, undef, undef, undef, undef, undef, undef, undef, undef, undef, undef, undef, undef, undef, undef, undef, undef, undef, undef], defers := [] }) ?assign ?body ?done ?stop
 case assign =>
  intro l x W K hK
  unfold itV
  gi_wp2
  exact hK
 case stop => exact fun _ _ _ _ _ h => h.elim
 case body =>
  rintro l pre x W ⟨z, hz, hN⟩ ⟨rfl, rfl⟩
  obtain rfl : z = 0 := by
   rcases hz with ⟨_, h⟩ | ⟨h, _⟩
   · exact h
   · cases h
  have c3 := hN.m.cell
  have c4 := hN.l.cell
  have c5 := hN.e.cell
  have f5 := hN.e.frozen
  have HI := hideT hN
  clear hN hz c0
  simp only [nilI]
  gi_wp2
  refine ⟨(KeepsOthers.setCell _ _ _).from _, ⟨by simp, fun k hk => Below.heap_setCell _ ⟨w.heap.size + 1 + 1 + 1 + 1 + 1, 0, none⟩ _ k (fun e => by have e : k = w.heap.size + 1 + 1 + 1 + 1 + 1 := e; rcases hk with hk | hk <;> omega), fun k cs hk => (Below.heap_setCell _ ⟨w.heap.size + 1 + 1 + 1 + 1 + 1, 0, none⟩ _ k ?_).trans hk⟩, 25, .inr ⟨rfl, rfl⟩, ?_⟩
  · rintro rfl
    exact absurd ((show W.heap[_]? = _ from HI.out.e).symm.trans hk) (by simp)
  · have h := HI.out
    have o : ∀ {k t v}, k ≠ w.heap.size + 1 + 1 + 1 + 1 + 1 → Boxed W k t v → Boxed (W.setCell ⟨w.heap.size + 1 + 1 + 1 + 1 + 1, 0, none⟩ (.int .i64 25)) k t v := fun hk hb => (Below.heap_setCell _ ⟨w.heap.size + 1 + 1 + 1 + 1 + 1, 0, none⟩ _ _ hk).trans hb
    exact ⟨o (by omega) h.m, h.r1.imp fun _ => o (by omega), h.r2.imp fun _ => o (by omega), h.r3.imp fun _ => o (by omega), o (by omega) h.l, h.e.set _, h.b.setCell (p := ⟨w.heap.size + 1 + 1 + 1 + 1 + 1, 0, none⟩) (by show w.heap.size ≤ w.heap.size + 1 + 1 + 1 + 1 + 1; omega) _⟩
 case done =>
  rintro D xs W hD rfl ⟨z, hz, hN⟩ hK
  obtain rfl : z = 25 := by
   rcases hz with ⟨h, _⟩ | ⟨_, h⟩
   · cases h
   · exact h
  have c4 := hN.l.cell
  have c5 := hN.e.cell
  obtain ⟨v1, b1⟩ := hN.r1
  obtain ⟨v2, b2⟩ := hN.r2
  obtain ⟨v3, b3⟩ := hN.r3
  have d1 := b1.cell
  have d2 := b2.cell
  have d3 := b3.cell
  have f1 := b1.frozen
  have f2 := b2.frozen
  have f3 := b3.frozen
  have HE := hideT (none_end (z := 25) HN.out.2.2.2 hN hD hK (.slice none 0 0) (.int .i64 25) (.bool true))
  clear hN hz c0 b1 b2 b3 hK
  gi_wp2
  refine wpIn_wide.2 ?_
  go_region
  all_goals
   gi_wp2
   refine ⟨by simp, .inl ⟨_, _, rfl, run_takeDeferred (w := (((W.setCell ⟨w.heap.size + 1, 0, none⟩ (.slice none 0 0)).setCell ⟨w.heap.size + 1 + 1, 0, none⟩ (.int .i64 25)).setCell ⟨w.heap.size + 1 + 1 + 1, 0, none⟩ (.bool true)).drew) HE.out.1, ?_⟩⟩
   exact ⟨_, by simp [results, Tryz.results9, go_sem, HE.out.2.1, HE.out.2.2.1, HE.out.2.2.2.1], rfl, HE.out.2.2.2.2⟩
end Go.Proofs.YtbekghinikjjeaaGreatDoor.occ
namespace Go.Proofs.YtbekghinikjjeaaGreatDoor.occ
open Go.RowKit Go.Shelf
attribute [local go_sem] Oper.semAt_some
theorem occ_len (mt : Nat → Option (List (Int × Int))) (len : Nat) : ∀ (f : Nat) (z : Int) (k : Nat), (occF mt len f z k).length ≤ f
 | 0, _, _ => Nat.le_refl _
 | f + 1, z, k => by
  rw [occF]
  cases Nat.ble k len
  · exact Nat.zero_le _
  · rw [cond_true]
    cases mt k with
    | none => exact Nat.zero_le _
    | some sp =>
     have h := fun z k => occ_len mt len f z k
     dsimp only
     cases (!((sp.getD 0 (0, 0)).1 == (sp.getD 0 (0, 0)).2) || !((sp.getD 0 (0, 0)).1 == z))
     · exact Nat.le_trans (h _ _) (Nat.le_succ _)
     · exact Nat.succ_le_succ (h _ _)
structure Mc (t s : ByteArray) (mt : Nat → Option (List (Int × Int))) (P0 : World → Prop) (PM : Nat → World → Prop) : Prop where
 good : GoodM mt s.size
 new : ∀ W, P0 W → Calls Tryz.prog 16 #[.string t] W fun e w' => ∃ mb, W.heap.size ≤ mb ∧ mb < w'.heap.size ∧ e = .returned (.tuple #[.pointer (some ⟨mb, 0, none⟩), .agg #[.int .i64 0, .int .i64 0]]) ∧ PM mb w' ∧ Below W.heap.size W w'
 ok : ∀ mb, McOk mb s mt (fun k => k = mb) (PM mb)
 keep : ∀ mb W W', PM mb W → W.heap.size ≤ W'.heap.size → (∀ k, k = mb ∨ k = 0 ∨ k = 1 → W'.heap[k]? = W.heap[k]?) → PM mb W'
 low : ∀ W W', P0 W → Below W.heap.size W W' → P0 W'
 two : ∀ W, P0 W → 2 ≤ W.heap.size
def LsAt (W : World) (B : Nat) (v : Value) (items : List (List (Int × Int))) : Prop := ∃ vs : List Value, W.ownsRow B 28 1 v items.length vs ∧ vs.length = items.length ∧ ∀ (i : Nat) (u : Value) (sp : List (Int × Int)), vs[i]? = some u → items[i]? = some sp → W.ownsRow B 30 2 u sp.length (spW sp)
structure LI (n p n0 : Nat) (w : World) (most : Nat) (items : List (List (Int × Int))) (pre : List It) (W : World) : Prop where
 m : Boxed W n 3 (.int .i64 (most : Nat))
 r1 : ∃ v, Boxed W (n + 1) 24 v
 r2 : ∃ v, Boxed W (n + 1 + 1) 25 v
 l : ∃ v, Boxed W p 24 v ∧ W.ownsRow n0 28 1 v pre.length (pre.map (·.v))
 sp : ∀ x ∈ pre, W.ownsRow n0 30 2 x.v x.sp.length (spW x.sp)
 pr : pre.map (·.sp) <+: items
 b : Below n w W
 sz : n0 ≤ W.heap.size
theorem row_sx {G : Nat → Prop} {C B e size k : Nat} {W W' : World} {v : Value} {xs : List Value} (hs : Sx G C W W') (hg : ∀ g, B ≤ g → ¬ G g) (h : W.ownsRow B e size v k xs) : W'.ownsRow B e size v k xs := by
 obtain ⟨hl, h2⟩ := h
 refine ⟨hl, ?_⟩
 rcases h2 with h2 | ⟨g, cap, cur, rfl, hb, hh, r⟩
 · exact .inl h2
 · exact .inr ⟨g, cap, cur, rfl, hb, hs.blk g _ hh (hg g hb) (.inr rfl), r⟩
theorem LI.sx {n p n0 mb C most : Nat} {w W W' : World} {items : List (List (Int × Int))} {pre : List It} (h : LI n p n0 w most items pre W) (hn : n ≤ w.heap.size) (hm : n + 1 + 1 < mb) (hp : p ≠ mb) (h0 : mb < n0) (hs : Sx (fun k => k = mb) C W W') (hC : n ≤ C) : LI n p n0 w most items pre W' :=
 ⟨box_sx hs (by omega) h.m, h.r1.imp fun _ => box_sx hs (by omega), h.r2.imp fun _ => box_sx hs (by omega), h.l.imp fun _ k => ⟨box_sx hs hp k.1, row_sx hs (fun g hg => by omega) k.2⟩, fun x hx => row_sx hs (fun g hg => by omega) (h.sp x hx), h.pr, below_sx hs (fun _ _ => by omega) hC hn h.b, Nat.le_trans h.sz hs.size⟩
theorem Sn.sx {n0 mb C : Nat} {items : List (List (Int × Int))} {pre : List It} {x : It} {W W' : World} (h : Sn n0 items pre x W) (h0 : mb < n0) (hs : Sx (fun k => k = mb) C W W') : Sn n0 items pre x W' := ⟨h.1, h.2.1, row_sx hs (fun g hg => by omega) h.2.2.1, fun g hg => Nat.lt_of_lt_of_le (h.2.2.2 g hg) hs.size⟩
theorem row_info : (Tryz.prog.info? 28).map (fun i => (i.zero, i.size, i.bytes)) = some (some (.slice none 0 0), 1, 24) := by kernel_rfl
theorem info_of {P : Program} {e : TypeId} {z : Value} {n b : Nat} (h : (P.info? e).map (fun i => (i.zero, i.size, i.bytes)) = some (some z, n, b)) : ∃ i, P.info? e = some i ∧ i.zero = some z ∧ i.size = n ∧ i.bytes = b := by
 cases hi : P.info? e with
 | none => rw [hi] at h; cases h
 | some i =>
  rw [hi] at h
  simp only [Option.map_some, Option.some.injEq, Prod.mk.injEq] at h
  exact ⟨i, rfl, h.1, h.2.1, h.2.2⟩
theorem three_laid (w : World) (most : Nat) : let X := ((w.alloc (.cells #[.int .i64 (most : Nat)] 3)).alloc (.cells #[.slice none 0 0] 24)).alloc (.cells #[.int .i64 0] 25)
  Boxed X w.heap.size 3 (.int .i64 (most : Nat)) ∧ Boxed X (w.heap.size + 1) 24 (.slice none 0 0) ∧ Boxed X (w.heap.size + 1 + 1) 25 (.int .i64 0) ∧ Below w.heap.size w X ∧ X.heap.size = w.heap.size + 3 := by
 intro X
 obtain ⟨b0, s0⟩ := box_at (W := w) rfl 3 (.int .i64 (most : Nat))
 obtain ⟨b1, s1⟩ := box_at s0 24 (.slice none 0 0)
 obtain ⟨b2, s2⟩ := box_at s1 25 (.int .i64 0)
 exact ⟨(b0.alloc _).alloc _, b1.alloc _, b2, (((Below.refl w.heap.size w).alloc (by omega) (.cells #[.int .i64 (most : Nat)] 3)).alloc (by omega) (.cells #[.slice none 0 0] 24)).alloc (by omega) (.cells #[.int .i64 0] 25), s2⟩
theorem list_laid {t s : ByteArray} {mt : Nat → Option (List (Int × Int))} {P0 : World → Prop} {PM : Nat → World → Prop} (hM : Mc t s mt P0 PM) {w X w1 : World} {most mb : Nat} {items : List (List (Int × Int))} (h : Boxed X w.heap.size 3 (.int .i64 (most : Nat)) ∧ Boxed X (w.heap.size + 1) 24 (.slice none 0 0) ∧ Boxed X (w.heap.size + 1 + 1) 25 (.int .i64 0) ∧ Below w.heap.size w X ∧ X.heap.size = w.heap.size + 3) (hmb : X.heap.size ≤ mb) (hml : mb < w1.heap.size) (hpm : PM mb w1) (hb : Below X.heap.size X w1) (h0 : 2 ≤ w.heap.size) :
  let Y := (((w1.alloc (.cells #[.int .i64 0, .int .i64 0] 52)).alloc (.cells #[.slice none 0 0] 24)).alloc (.cells #[.pointer (some ⟨mb, 0, none⟩)] 50)).alloc (.cells #[.string s] 9)
  LI w.heap.size (w1.heap.size + 1) (w1.heap.size + 4) w most items [] Y ∧ Boxed Y (w1.heap.size + 1 + 1) 50 (.pointer (some ⟨mb, 0, none⟩)) ∧ Boxed Y (w1.heap.size + 1 + 1 + 1) 9 (.string s) ∧ Y.heap.size = w1.heap.size + 4 ∧ PM mb Y := by
 intro Y
 have hA := heap_alloc_new w1 (.cells #[.int .i64 0, .int .i64 0] 52)
 have s0 : (w1.alloc (.cells #[.int .i64 0, .int .i64 0] 52)).heap.size = w1.heap.size + 1 := by simp
 obtain ⟨b1, s1⟩ := box_at s0 24 (.slice none 0 0)
 obtain ⟨b2, s2⟩ := box_at s1 50 (.pointer (some ⟨mb, 0, none⟩))
 obtain ⟨b3, s3⟩ := box_at s2 9 (.string s)
 have hB : Below w1.heap.size w1 Y := ((((Below.refl w1.heap.size w1).alloc (by omega) (.cells #[.int .i64 0, .int .i64 0] 52)).alloc (by omega) (.cells #[.slice none 0 0] 24)).alloc (by omega) (.cells #[.pointer (some ⟨mb, 0, none⟩)] 50)).alloc (by omega) (.cells #[.string s] 9)
 have hBX : Below X.heap.size X Y := hb.trans (hB.mono hb.size)
 have up : ∀ {k t v}, Boxed X k t v → Boxed Y k t v := fun hk => (hBX.block _ hk.lt).trans hk
 refine ⟨⟨up h.1, ⟨_, up h.2.1⟩, ⟨_, up h.2.2.1⟩, ⟨_, (b1.alloc _).alloc _, World.ownsRow_nil _ _ _ _⟩, (fun x hx => nomatch hx), ⟨items, rfl⟩, h.2.2.2.1.trans (hBX.mono h.2.2.2.1.size), Nat.le_of_eq s3.symm⟩, b2.alloc _, b3, s3, hM.keep _ _ _ hpm hB.size fun k hk => hB.block k (by have := hb.size; omega)⟩
theorem row_shape {W : World} {B e size n : Nat} {v : Value} {xs : List Value} (h : W.ownsRow B e size v n xs) : ∃ a c, v = .slice a n c := by
 rcases h.2 with ⟨rfl, rfl⟩ | ⟨g, cap, cur, rfl, _⟩
 · exact ⟨_, _, rfl⟩
 · exact ⟨_, _, rfl⟩
theorem li_step {n p n0 most : Nat} {w W w1 : World} {items : List (List (Int × Int))} {pre : List It} {x : It} {v v' : Value} {F : Nat → Prop} (h : LI n p n0 w most items pre W) (hbox : Boxed W p 24 v) (hrow : W.ownsRow n0 28 1 v pre.length (pre.map (·.v))) (hx : Sn n0 items pre x W) (hown : w1.ownsRow n0 28 1 v' (pre.length + 1) (pre.map (·.v) ++ [x.v])) (hg : (W.alloc (.cells #[x.v] 28)).grownBy w1 v.ownBlock) (hp : n + 1 + 1 < p) (hp0 : p < n0) (hF : ∀ k, F k → k ≠ p ∧ k < n0) (h0 : n0 ≤ W.heap.size) :
  Boxed w1 p 24 v ∧ KeepsFrom n0 W (w1.setCell ⟨p, 0, none⟩ v') ∧ KeepA F W (w1.setCell ⟨p, 0, none⟩ v') ∧ LI n p n0 w most items (pre ++ [x]) (w1.setCell ⟨p, 0, none⟩ v') := by
 obtain ⟨hv1, hv2, hr2, hk2, hb2⟩ := hbox.appended (by decide) (row_to hrow (show n ≤ n0 by omega)) (show n ≤ W.heap.size by omega) (show n ≤ p by omega) (row_to hown (show n ≤ n0 by omega)) hg
 have hr3 : (w1.setCell ⟨p, 0, none⟩ v').ownsRow n0 28 1 v' (pre.length + 1) (pre.map (·.v) ++ [x.v]) := hown.kept (grownBy_setCell' w1 p v') (.inr (hv1.not_row (by decide) hown).symm)
 have far : ∀ k, k < W.heap.size → k ≠ p → some k ≠ v.ownBlock → (w1.setCell ⟨p, 0, none⟩ v').heap[k]? = W.heap[k]? := fun k hk hkp hkv => (Below.heap_setCell _ ⟨p, 0, none⟩ _ k hkp).trans ((hg.block k (by simp; omega) hkv).trans (heap_alloc_old W _ k hk))
 have ty : ∀ k cs e, W.heap[k]? = some (Obj.cells cs e (0, 0)) → e ≠ 28 → k ≠ p → (w1.setCell ⟨p, 0, none⟩ v').heap[k]? = some (.cells cs e (0, 0)) := fun k cs e hk he hkp => (far k (Array.getElem?_eq_some_iff.1 hk).1 hkp (fun hkv => by
  obtain ⟨_, _, cur, hc⟩ := row_blk hrow hkv.symm
  rw [hk] at hc
  simp only [Option.some.injEq, Obj.cells.injEq] at hc
  exact he hc.2.1)).trans hk
 refine ⟨hv1, hk2.from _, ⟨?_, fun k hk => ?_, fun k cs hk => ?_⟩, ⟨ty _ _ _ h.m (by decide) (by omega), h.r1.imp fun _ k => ty _ _ _ k (by decide) (by omega), h.r2.imp fun _ k => ty _ _ _ k (by decide) (by omega), ⟨v', hv2, by simpa using hr3⟩, fun y hy => ?_, ?_, h.b.trans hb2, Nat.le_trans h0 hk2.size⟩⟩
 · have := hk2.size; exact this
 · obtain ⟨q1, q2⟩ := hF k hk
   exact far k (by omega) q1 (fun e => by have := (row_blk hrow e.symm).1; omega)
 · refine ty k cs 30 hk (by decide) ?_
   rintro rfl
   exact absurd ((show W.heap[_]? = _ from hbox).symm.trans hk) (by simp)
 · have hy2 : W.ownsRow n0 30 2 y.v y.sp.length (spW y.sp) := by
    rcases List.mem_append.1 hy with hy | hy
    · exact h.sp y hy
    · rw [List.mem_singleton.1 hy]; exact hx.2.2.1
   obtain ⟨hl, hq⟩ := hy2
   refine ⟨hl, ?_⟩
   rcases hq with hq | ⟨g, cap, cur, e, hb, hh, r⟩
   · exact .inl hq
   · exact .inr ⟨g, cap, cur, e, hb, ty g cur 30 hh (by decide) (by omega), r⟩
 · obtain ⟨r, hr⟩ := hx.1
   exact ⟨r, by rw [hr]; simp⟩
theorem list_end {n p n0 most D : Nat} {w W : World} {items : List (List (Int × Int))} {pre : List It} {v : Value} (h : LI n p n0 w most items pre W) (hr : W.ownsRow n0 28 1 v pre.length (pre.map (·.v))) (hp : n + 1 + 1 < p) (hp0 : p < n0) (hD : n0 ≤ D) (hn : n = w.heap.size) (hK : W.heap[D]? = some (.deferred (some []))) :
  ((W.setCell ⟨n + 1, 0, none⟩ v).setCell ⟨n + 1 + 1, 0, none⟩ (.int .i64 0)).heap[D]? = some (.deferred (some [])) ∧
  (((W.setCell ⟨n + 1, 0, none⟩ v).setCell ⟨n + 1 + 1, 0, none⟩ (.int .i64 0)).putObj D (.deferred none)).cell? ⟨n + 1, 0, none⟩ = some v ∧
  (((W.setCell ⟨n + 1, 0, none⟩ v).setCell ⟨n + 1 + 1, 0, none⟩ (.int .i64 0)).putObj D (.deferred none)).cell? ⟨n + 1 + 1, 0, none⟩ = some (.int .i64 0) ∧
  LsAt (((W.setCell ⟨n + 1, 0, none⟩ v).setCell ⟨n + 1 + 1, 0, none⟩ (.int .i64 0)).putObj D (.deferred none)) n v (pre.map (·.sp)) ∧
  Below n w (((W.setCell ⟨n + 1, 0, none⟩ v).setCell ⟨n + 1 + 1, 0, none⟩ (.int .i64 0)).putObj D (.deferred none)) := by
 obtain ⟨v1, b1⟩ := h.r1
 obtain ⟨v2, b2⟩ := h.r2
 have e1 := (b1.set v).other (show n + 1 ≠ n + 1 + 1 by omega) (.int .i64 0)
 have e2 := (b2.other (show n + 1 + 1 ≠ n + 1 by omega) v).set (.int .i64 0)
 have hk : ((W.setCell ⟨n + 1, 0, none⟩ v).setCell ⟨n + 1 + 1, 0, none⟩ (.int .i64 0)).heap[D]? = some (.deferred (some [])) := (Below.heap_setCell _ ⟨n + 1 + 1, 0, none⟩ _ D (show D ≠ n + 1 + 1 by omega)).trans ((Below.heap_setCell _ ⟨n + 1, 0, none⟩ _ D (show D ≠ n + 1 by omega)).trans hK)
 have hb := (h.b.setCell (p := ⟨n + 1, 0, none⟩) (show n ≤ n + 1 by omega) v).setCell (p := ⟨n + 1 + 1, 0, none⟩) (show n ≤ n + 1 + 1 by omega) (.int .i64 0)
 have put : ∀ {k t u}, k ≠ D → Boxed ((W.setCell ⟨n + 1, 0, none⟩ v).setCell ⟨n + 1 + 1, 0, none⟩ (.int .i64 0)) k t u → Boxed (((W.setCell ⟨n + 1, 0, none⟩ v).setCell ⟨n + 1 + 1, 0, none⟩ (.int .i64 0)).putObj D (.deferred none)) k t u := fun hk h => (World.putObj_heap_other hk).trans h
 have rw' : ∀ {e size k : Nat} {u : Value} {xs : List Value}, W.ownsRow n0 e size u k xs → (((W.setCell ⟨n + 1, 0, none⟩ v).setCell ⟨n + 1 + 1, 0, none⟩ (.int .i64 0)).putObj D (.deferred none)).ownsRow n e size u k xs := by
  intro e size k u xs hrow
  obtain ⟨hl, hq⟩ := hrow
  refine ⟨hl, ?_⟩
  rcases hq with hq | ⟨g, cap, cur, eq, hbg, hh, r⟩
  · exact .inl hq
  · refine .inr ⟨g, cap, cur, eq, by omega, ?_, r⟩
    refine (World.putObj_heap_other (fun e => ?_)).trans ((Below.heap_setCell _ ⟨n + 1 + 1, 0, none⟩ _ g (show g ≠ n + 1 + 1 by omega)).trans ((Below.heap_setCell _ ⟨n + 1, 0, none⟩ _ g (show g ≠ n + 1 by omega)).trans hh))
    subst e
    rw [hh] at hK
    cases hK
 refine ⟨hk, (put (by omega) e1).cell, (put (by omega) e2).cell, ⟨pre.map (·.v), by rw [List.length_map]; exact rw' hr, by simp, fun i u sp hu hsp => ?_⟩, hb.trans (belowK_b (w := w) (by omega) _ D _ _ (by rw [hn] at hp; omega) hk rfl rfl)⟩
 rw [List.getElem?_map] at hu hsp
 obtain ⟨x, hx, rfl⟩ := Option.map_eq_some_iff.1 hu
 rw [hx] at hsp
 obtain rfl := Option.some.inj hsp
 exact rw' (h.sp x (List.mem_of_getElem? hx))
theorem list_any {t s : ByteArray} {mt : Nat → Option (List (Int × Int))} {P0 : World → Prop} {PM : Nat → World → Prop} (hM : Mc t s mt P0 PM) (hs : s.size ≤ 1073741824) (most : Nat) (hm1 : 1 ≤ most) (hm2 : most ≤ 1073741824) (w : World) (hp : P0 w) : Calls Tryz.prog 8 #[.string t, .string s, .int .i64 (most : Nat)] w fun e w' => ∃ v, e = .returned (.tuple #[v, .int .i64 0]) ∧ LsAt w' w.heap.size v ((occF mt s.size (s.size + 2) (-1) 0).take most) ∧ Below w.heap.size w w' := by
 have HM := hideT (And.intro hM (And.intro hs (And.intro hm1 (And.intro hm2 hp))))
 clear hM hs hm1 hm2 hp
 refine (callsIn_wide (n := 5)).1 ?_
 refine callsIn_of_wp_marks Tryz.func8 rfl trivial ?_ rfl
 simp only [Tryz.ntmps8, List.size_toArray, List.length_cons, List.length_nil, Nat.reduceAdd, Nat.reduceSub, Array.replicate_succ, Array.replicate_zero, List.push_toArray, List.append_toArray, List.nil_append, List.cons_append]
 have h3 := three_laid w most
 generalize hX : (((w.alloc (.cells #[.int .i64 (most : Nat)] 3)).alloc (.cells #[.slice none 0 0] 24)).alloc (.cells #[.int .i64 0] 25)) = X at h3
 have HX := hideT h3
 gi_wp2_with fail
 have HN := hideT (HM.out.1.new X (HM.out.1.low _ _ HM.out.2.2.2.2 HX.out.2.2.2.1))
 clear hX h3
 refine ⟨trivial, (callsIn_wide.2 HN.out).mono ?_⟩
 rintro e w1 ⟨mb, hmb, hml, rfl, hpm, hb1⟩
 have hL := list_laid (s := s) (items := occF mt s.size (s.size + 2) (-1) 0) HM.out.1 HX.out hmb hml hpm hb1 (HM.out.1.two _ HM.out.2.2.2.2)
 have i1 : ((most : Int) < 0) = False := by rw [eq_iff_iff, iff_false]; omega
 have i2 : ((most : Int) == 0) = false := by have := HM.out.2.2.1; simp; omega
 have c1 : (w1.alloc (.cells #[.int .i64 0, .int .i64 0] 52)).cell? ⟨w.heap.size, 0, none⟩ = some (.int .i64 (most : Nat)) := Boxed.cell (Boxed.alloc ((hb1.block _ HX.out.1.lt).trans HX.out.1) _)
 have HL := hideT hL
 have HMB := hideT (And.intro hmb hml)
 clear hL hmb hml hpm hb1 HN
 gi_wp2_with fail
 refine ⟨trivial, ?_⟩
 refine (all_in _ _ rfl _ _).mono ?_
 rintro e w2 ⟨rfl, rfl⟩
 have hl := HL.out
 clear HL
 simp only [World.size_alloc]
 generalize ((((w1.alloc (.cells #[.int .i64 0, .int .i64 0] 52)).alloc (.cells #[.slice none 0 0] 24)).alloc (.cells #[.pointer (some ⟨mb, 0, none⟩)] 50)).alloc (.cells #[.string s] 9)) = W0 at *
 clear c1 i1 i2
 have HL := hideT hl
 clear hl
 obtain ⟨i0, hi, hz0, hz1, hz2⟩ := info_of row_info
 have hmm := HMB.out
 have hnw : w.heap.size + 3 ≤ mb := by have := HX.out.2.2.2.2; omega
 gi_wp2
 refine range_A (by omega) (F := fun k => k = mb ∨ k = 0 ∨ k = 1 ∨ k = w1.heap.size + 1 + 1 ∨ k = w1.heap.size + 1 + 1 + 1) (G := fun k => k = mb) (fun k hk => by have := HL.out.2.2.2.1; omega) (fun k hk => by have := HL.out.2.2.2.1; omega) (fun X hX hXs => iter_m (n0 := w1.heap.size + 4) (Bs := w1.heap.size + 1 + 1 + 1) (Bm := w1.heap.size + 1 + 1) HM.out.2.1 HM.out.1.good (HM.out.1.ok mb) (.inr (.inr (.inr (.inr rfl)))) (.inr (.inr (.inr (.inl rfl)))) (by omega) (by omega) (fun W W' h1 h2 h3 => HM.out.1.keep mb W W' h1 h2 fun k hk => h3 k (by omega)) ((hX.block _ HL.out.2.2.1.lt).trans HL.out.2.2.1) ((hX.block _ HL.out.2.1.lt).trans HL.out.2.1) (HM.out.1.keep mb _ _ HL.out.2.2.2.2 hX.size fun k hk => hX.block k (by have := HL.out.2.2.2.1; omega)) (by have := HL.out.2.2.2.1; omega) (fun k hk => by omega) (fun k hk => .inl hk)) (fun _ _ => rfl) rfl rfl (fun pre x A B h hs => h.sx (by omega) hs)
  (fun pre W => LI w.heap.size (w1.heap.size + 1) (w1.heap.size + 4) w most (occF mt s.size (s.size + 2) (-1) 0) pre W ∧ pre.length < most) (fun c pre W => c = .exit 1 ∧ LI w.heap.size (w1.heap.size + 1) (w1.heap.size + 4) w most (occF mt s.size (s.size + 2) (-1) 0) pre W ∧ pre.length = most)
  (fun pre A B h hs => ⟨h.1.sx (mb := mb) (Nat.le_refl _) (by omega) (by omega) (by omega) hs (by have := HL.out.2.2.2.1; omega), h.2⟩) (fun c pre A B h hs => ⟨h.1, h.2.1.sx (mb := mb) (Nat.le_refl _) (by omega) (by omega) (by omega) hs (by have := HL.out.2.2.2.1; omega), h.2.2⟩) ⟨HL.out.1, HM.out.2.2.1⟩
  (fun x => { tmps := #[.string t, .string s, .int .i64 (most : Nat), undef, undef, .pointer (some ⟨w.heap.size, 0, none⟩), .pointer (some ⟨w.heap.size + 1, 0, none⟩), .pointer (some ⟨w.heap.size + 1 + 1, 0, none⟩), .pointer (some ⟨mb, 0, none⟩), .pointer (some ⟨w1.heap.size, 0, none⟩), .pointer (some ⟨w1.heap.size + 1, 0, none⟩), x.v, .int .i64 (x.e : Nat), .tuple #[.pointer (some ⟨mb, 0, none⟩), .agg #[.int .i64 0, .int .i64 0]], .string t, .tuple #[.pointer (some ⟨mb, 0, none⟩), .agg #[.int .i64 0, .int .i64 0]], .pointer (some ⟨mb, 0, none⟩), .agg #[.int .i64 0, .int .i64 0], .bool false, .pointer (some ⟨w1.heap.size, 0, none⟩), .int .i64 0, .bool false, undef, undef, .bool false, .int .i64 (most : Nat), .bool false, .bool false, .int .i64 (most : Nat), .bool false, .pointer (some ⟨mb, 0, none⟩), .string s, .func (.func 27) #[] #[.pointer (some ⟨w1.heap.size + 1 + 1 + 1, 0, none⟩), .pointer (some ⟨w1.heap.size + 1 + 1, 0, none⟩)], x.v, .int .i64 (x.e : Nat), undef, undef, undef, undef, undef, undef, undef, undef, undef, undef, undef, undef], defers := [] }) ?assign ?body ?done ?stop
 case assign =>
  intro l x W K hK
  unfold itV
  gi_wp2
  exact hK
 case stop =>
  rintro D c pre W hD ⟨rfl, hN, hlen⟩ hK
  obtain ⟨v, hv, hr⟩ := hN.l
  have c0 := hv.cell
  obtain ⟨v1, b1⟩ := hN.r1
  obtain ⟨v2, b2⟩ := hN.r2
  have d1 := b1.cell
  have d2 := b2.cell
  have f1 := b1.frozen
  have f2 := b2.frozen
  have hDD : w1.heap.size + 4 ≤ D := by have := HL.out.2.2.2.1; omega
  have HE := hideT (list_end hN hr (by omega) (by omega) hDD rfl hK)
  obtain ⟨vg, vc, rfl⟩ := row_shape hr
  have HI := hideT (show pre.map (·.sp) = (occF mt s.size (s.size + 2) (-1) 0).take most from by have h := List.prefix_iff_eq_take.1 hN.pr; rw [List.length_map, hlen] at h; exact h)
  clear hN hK hv hr b1 b2 hlen
  gi_wp2
  refine ⟨by simp, .inl ⟨_, _, rfl, run_takeDeferred HE.out.1, ?_⟩⟩
  exact ⟨_, by simp [results, Tryz.results8, go_sem, HE.out.2.1, HE.out.2.2.1], _, rfl, HI.out ▸ HE.out.2.2.2.1, HE.out.2.2.2.2⟩
 case body =>
  rintro l pre x W ⟨hN, hlen⟩ hx
  obtain ⟨v, hv, hrow⟩ := hN.l
  obtain ⟨xv, xe, xsp⟩ := x
  obtain ⟨xa, xc, hxv⟩ := row_shape hx.2.2.1
  simp only at hxv
  subst hxv
  obtain rfl : xe = 0 := hx.2.1
  have hc := hv.cell
  have hW0 : w1.heap.size + 4 ≤ W.heap.size := hN.sz
  have hpl : pre.length ≤ 1073741824 := by have := HM.out.2.2.2.1; omega
  have HI := hideT (And.intro hN (And.intro hv (And.intro hrow (And.intro hx hlen))))
  generalize hxl : xsp.length = xk at *
  clear hN hx hlen
  by_cases hlast : pre.length + 1 = most
  · have j1 : ((pre.length : Int) + 1 == (most : Int)) = true := by simp; omega
    have HLS := hideT hlast
    clear hlast
    gi_wp2_with (gi_at_builtin; refine wpListIn_append_own_at _ rfl _ _ 24 rfl (w1.heap.size + 4) 28 i0 (.slice none 0 0) 1 24 Tryz.underlying24 hi hz0 hz1 hz2 rfl (by decide) _ _ _ rfl (hrow.alloc _) ⟨W.heap.size, 0, none⟩ 1 1 [.slice xa xk xc] rfl rfl (cell_one_new _ _ _) (by simp [Value.oneCell']) (by unfold maxLen; omega) (by omega) (by simp; omega) ?_; intro v' V hown' hgrow _ hvv; obtain ⟨g', cap', rfl⟩ := ownsRow_succ hown'; obtain ⟨hv1, hkf, hka, hli⟩ := li_step (F := fun k => k = mb ∨ k = 0 ∨ k = 1 ∨ k = w1.heap.size + 1 + 1 ∨ k = w1.heap.size + 1 + 1 + 1) HI.out.1 HI.out.2.1 HI.out.2.2.1 HI.out.2.2.2.1 hown' hgrow (by omega) (by omega) (fun k hk => by omega) (by omega); have HS := hideT (And.intro hkf (And.intro hka hli)); have hc1 := hv1.cell; have hf1 := hv1.frozen; have hc2 := hli.m.cell; clear hkf hka hli hown' hgrow hv1)
    rw [HL.out.2.2.2.1]
    exact ⟨HS.out.1, rfl, HS.out.2.2, by rw [List.length_append]; exact HLS.out⟩
  · have j1 : ((pre.length : Int) + 1 == (most : Int)) = false := by simp; omega
    have HLS := hideT (show pre.length + 1 < most from by have := HI.out.2.2.2.2; omega)
    clear hlast
    gi_wp2_with (gi_at_builtin; refine wpListIn_append_own_at _ rfl _ _ 24 rfl (w1.heap.size + 4) 28 i0 (.slice none 0 0) 1 24 Tryz.underlying24 hi hz0 hz1 hz2 rfl (by decide) _ _ _ rfl (hrow.alloc _) ⟨W.heap.size, 0, none⟩ 1 1 [.slice xa xk xc] rfl rfl (cell_one_new _ _ _) (by simp [Value.oneCell']) (by unfold maxLen; omega) (by omega) (by simp; omega) ?_; intro v' V hown' hgrow _ hvv; obtain ⟨g', cap', rfl⟩ := ownsRow_succ hown'; obtain ⟨hv1, hkf, hka, hli⟩ := li_step (F := fun k => k = mb ∨ k = 0 ∨ k = 1 ∨ k = w1.heap.size + 1 + 1 ∨ k = w1.heap.size + 1 + 1 + 1) HI.out.1 HI.out.2.1 HI.out.2.2.1 HI.out.2.2.2.1 hown' hgrow (by omega) (by omega) (fun k hk => by omega) (by omega); have HS := hideT (And.intro hkf (And.intro hka hli)); have hc1 := hv1.cell; have hf1 := hv1.frozen; have hc2 := hli.m.cell; clear hkf hka hli hown' hgrow hv1)
    rw [HL.out.2.2.2.1]
    exact ⟨HS.out.1, HS.out.2.1, HS.out.2.2, by rw [List.length_append]; exact HLS.out⟩
 case done =>
  rintro D xs W hD hE ⟨hN, hlen⟩ hK
  obtain ⟨v, hv, hr⟩ := hN.l
  have c0 := hv.cell
  obtain ⟨v1, b1⟩ := hN.r1
  obtain ⟨v2, b2⟩ := hN.r2
  have d1 := b1.cell
  have d2 := b2.cell
  have f1 := b1.frozen
  have f2 := b2.frozen
  have hDD : w1.heap.size + 4 ≤ D := by have := HL.out.2.2.2.1; omega
  have HE := hideT (list_end hN hr (by omega) (by omega) hDD rfl hK)
  obtain ⟨vg, vc, rfl⟩ := row_shape hr
  have HI := hideT (show xs.map (·.sp) = (occF mt s.size (s.size + 2) (-1) 0).take most from by rw [show occF mt s.size (s.size + 2) (-1) 0 = xs.map (·.sp) from hE.symm, List.take_of_length_le (by rw [List.length_map]; omega)])
  clear hN hK hv hr b1 b2 hlen
  gi_wp2
  refine ⟨by simp, .inl ⟨_, _, rfl, run_takeDeferred HE.out.1, ?_⟩⟩
  exact ⟨_, by simp [results, Tryz.results8, go_sem, HE.out.2.1, HE.out.2.2.1], _, rfl, HI.out ▸ HE.out.2.2.2.1, HE.out.2.2.2.2⟩
end Go.Proofs.YtbekghinikjjeaaGreatDoor.occ
