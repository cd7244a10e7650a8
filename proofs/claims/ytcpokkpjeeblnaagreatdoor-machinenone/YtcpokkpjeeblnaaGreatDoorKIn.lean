/- KIn -/
import Derived.Test.YtcpokkpjeeblnaaGreatDoorProg
import Derived.WalkKit
import Derived.WalkSpells
import Derived.WalkLawsBesides
import Derived.BigQuiet
import Derived.Deep.Cut
import Derived.Laws.StructEq
import Derived.Lib.Strings
import Derived.OwnWalk
import Derived.Deep.RegionWith
import Derived.Deep.QuietTactic
import Derived.Deep.AppendLies
import Derived.OrdersHeld
import Derived.ArgAppend
import Derived.Lib.IndexAny
import Derived.Shelf.Strconv.Clone
import Derived.Laws.OwnMore
import Derived.Laws.IdiomStrings
import Derived.Deep.RegionHeld3
set_option maxRecDepth 100000
set_option maxHeartbeats 4000000
set_option linter.unusedSimpArgs false
set_option linter.unusedVariables false
namespace Go.Proofs.YtcpokkpjeeblnaaGreatDoor
open Go.RowKit
namespace inp
theorem hideT {p : Prop} (h : p) : Hid p := h
theorem below_drewN (B : Nat) (W : World) (n : Nat) : Below B W (W.drewN n) := { os := rfl, tape := rfl, output := rfl, size := Nat.le_refl _, block := fun _ _ => rfl }
theorem keep_cell {W w1 : World} {a : Addr} {v : Value} (hb : Below W.heap.size W w1) (h : W.cell? a = some v) : w1.cell? a = some v := (World.cell?_of_block (hb.block _ (World.block_lt_of_cell? W a h))).trans h
theorem put_far (W : World) (b k : Nat) (u : Value) {j : Nat} (h : j ≠ b) : (W.setCell ⟨b, k, none⟩ u).heap[j]? = W.heap[j]? := Below.heap_setCell W ⟨b, k, none⟩ u j h
theorem put_size (W : World) (b k : Nat) (u : Value) : (W.setCell ⟨b, k, none⟩ u).heap.size = W.heap.size := by simp [World.setCell]
theorem put_same (W : World) (b k : Nat) (u : Value) {cs : Array Value} {e : TypeId} {fr : Nat × Nat} (h : W.heap[b]? = some (.cells cs e fr)) : (W.setCell ⟨b, k, none⟩ u).heap[b]? = some (.cells (cs.setIfInBounds k u) e fr) := by
  obtain ⟨hlt, hk2⟩ := Array.getElem?_eq_some_iff.1 h
  show (W.heap.modify b _)[b]? = _
  rw [Array.getElem?_eq_getElem (by rw [Array.size_modify]; exact hlt), Array.getElem_modify_self, hk2]
  simp only [Option.isSome_none, Bool.false_eq_true, if_false]
theorem below_put {B : Nat} {W W' : World} (h : Below B W W') {b : Nat} (hb : B ≤ b) (k : Nat) (u : Value) : Below B W (W'.setCell ⟨b, k, none⟩ u) :=
  ⟨h.os, h.tape, h.output, by rw [put_size]; exact h.size, fun j hj => by rw [put_far _ _ _ _ (by omega)]; exact h.block j hj⟩
theorem below_grown {B : Nat} {W W' : World} {r : Option Nat} (h : W.grownBy W' r) (hr : ∀ g, r = some g → B ≤ g) (hB : B ≤ W.heap.size) : Below B W W' :=
  ⟨h.os, h.tape, h.output, h.size, fun j hj => h.block j (by omega) (fun e => by have := hr j e.symm; omega)⟩
theorem owns_keep {W W' : World} {B e size n : Nat} {v : Value} {xs : List Value} (h : W.ownsRow B e size v n xs) (hk : ∀ g, v.ownBlock = some g → W'.heap[g]? = W.heap[g]?) : W'.ownsRow B e size v n xs := by
  obtain ⟨hl, h2⟩ := h
  refine ⟨hl, ?_⟩
  rcases h2 with h2 | ⟨g, cap, cur, rfl, hb, hh, r⟩
  · exact .inl h2
  · exact .inr ⟨g, cap, cur, rfl, hb, (hk g rfl).trans hh, r⟩
/-- Only blocks of F, and new ones, were written. -/
structure Tch (F : Nat → Prop) (W W' : World) : Prop where
  os : W'.os = W.os
  tape : W'.tape = W.tape
  output : W'.output = W.output
  size : W.heap.size ≤ W'.heap.size
  block : ∀ k, k < W.heap.size → ¬ F k → W'.heap[k]? = W.heap[k]?
theorem Tch.refl (F : Nat → Prop) (W : World) : Tch F W W := ⟨rfl, rfl, rfl, Nat.le_refl _, fun _ _ _ => rfl⟩
theorem Tch.of {F : Nat → Prop} {W W' : World} (h : Below W.heap.size W W') : Tch F W W' := ⟨h.os, h.tape, h.output, h.size, fun k hk _ => h.block k hk⟩
theorem Tch.trans {F G : Nat → Prop} {W W1 W2 : World} (h : Tch F W W1) (k : Tch G W1 W2) (hs : ∀ j, G j → F j ∨ W.heap.size ≤ j) : Tch F W W2 :=
  ⟨k.os.trans h.os, k.tape.trans h.tape, k.output.trans h.output, Nat.le_trans h.size k.size, fun j hj hn => (k.block j (Nat.lt_of_lt_of_le hj h.size) (fun hg => (hs j hg).elim hn (fun e => absurd hj (Nat.not_lt.2 e)))).trans (h.block j hj hn)⟩
theorem Tch.mono {F G : Nat → Prop} {W W' : World} (h : Tch F W W') (hs : ∀ j, F j → G j) : Tch G W W' := ⟨h.os, h.tape, h.output, h.size, fun k hk hn => h.block k hk (fun hf => hn (hs k hf))⟩
theorem Tch.put {F : Nat → Prop} {W W' : World} (h : Tch F W W') {b : Nat} (hb : F b) (k : Nat) (u : Value) : Tch F W (W'.setCell ⟨b, k, none⟩ u) :=
  ⟨h.os, h.tape, h.output, by rw [put_size]; exact h.size, fun j hj hn => (put_far W' b k u (j := j) (fun e => hn (by rw [e]; exact hb))).trans (h.block j hj hn)⟩
theorem Tch.grown {F : Nat → Prop} {W W' : World} {r : Option Nat} (h : W.grownBy W' r) (hr : ∀ g, r = some g → F g) : Tch F W W' := ⟨h.os, h.tape, h.output, h.size, fun k hk hn => h.block k hk (fun e => hn (hr k e.symm))⟩
theorem Tch.below {F : Nat → Prop} {B : Nat} {W W' : World} (h : Tch F W W') (hF : ∀ k, F k → B ≤ k) (hB : B ≤ W.heap.size) : Below B W W' := ⟨h.os, h.tape, h.output, h.size, fun k hk => h.block k (Nat.lt_of_lt_of_le hk hB) (fun hf => absurd hk (Nat.not_lt.2 (hF k hf)))⟩
/-- A queue's blocks: its own, and its row's. -/
def foot (b : Nat) (v : Value) (k : Nat) : Prop := k = b ∨ v.ownBlock = some k
def strV (l : List (List UInt8)) : List Value := l.map fun t => Value.string ⟨t.toArray⟩
theorem strV_len (l : List (List UInt8)) : (strV l).length = l.length := by simp [strV]
theorem infoStr : (Tryz.prog.info? 9).map (fun i => (i.zero, i.size, i.bytes)) = some (some (.string ⟨#[]⟩), 1, 16) := by kernel_rfl
/-- A queue: all lines that were fed, how many were taken, is it closed. -/
structure Qs where
  fed : List (List UInt8)
  tk : Nat
  cl : Bool
def Qs.wait (q : Qs) : Nat := q.fed.length - q.tk
def Qs.ready (q : Qs) : Bool := q.cl || decide (2 ≤ q.wait)
def Qs.last (q : Qs) : Bool := q.cl && decide (q.wait = 0)
def sumL (l : List (List UInt8)) : Nat := (l.map List.length).sum
def Qs.held (q : Qs) : Nat := sumL (q.fed.drop q.tk)
def feedE (q : Qs) (s : List UInt8) : Nat := if q.cl then 25 else if 10 ∈ s then 19 else if 1024 < s.length then 15 else 0
def Qs.feed (q : Qs) (s : List UInt8) : Qs := if feedE q s = 0 then ⟨q.fed ++ [s], q.tk, q.cl⟩ else q
def closeE (q : Qs) : Nat := if q.cl then 25 else 0
def Qs.close (q : Qs) : Qs := ⟨q.fed, q.tk, true⟩
def Qs.can (q : Qs) : Bool := q.ready && decide (q.wait ≠ 0)
def Qs.next (q : Qs) : Qs := if q.can then ⟨q.fed, q.tk + 1, q.cl⟩ else q
def nextL (q : Qs) : List UInt8 := if q.can then q.fed.getD q.tk [] else []
/-- What holds of every queue that is reached. -/
structure QOk (q : Qs) (n : Nat) : Prop where
  tk : q.tk ≤ q.fed.length
  len : q.fed.length ≤ n
  line : ∀ s ∈ q.fed, s.length ≤ 1024
theorem QOk.feed {q : Qs} {n : Nat} (h : QOk q n) (s : List UInt8) : QOk (q.feed s) (n + 1) := by
  unfold Qs.feed
  split
  · rename_i he
    refine ⟨(show q.tk ≤ (q.fed ++ [s]).length by rw [List.length_append]; have := h.tk; omega), (show (q.fed ++ [s]).length ≤ n + 1 by rw [List.length_append, List.length_singleton]; have := h.len; omega), fun t ht => ?_⟩
    rcases List.mem_append.1 ht with ht | ht
    · exact h.line t ht
    · rw [List.mem_singleton.1 ht]
      unfold feedE at he
      split at he
      · cases he
      · split at he
        · cases he
        · split at he
          · cases he
          · omega
  · exact ⟨h.tk, Nat.le_succ_of_le h.len, h.line⟩
theorem QOk.more {q : Qs} {n : Nat} (h : QOk q n) : QOk q (n + 1) := ⟨h.tk, Nat.le_succ_of_le h.len, h.line⟩
theorem QOk.close {q : Qs} {n : Nat} (h : QOk q n) : QOk q.close n := ⟨h.tk, h.len, h.line⟩
theorem can_lt {q : Qs} (h : q.can = true) : q.tk < q.fed.length := by
  unfold Qs.can Qs.wait at h
  simp only [Bool.and_eq_true, decide_eq_true_eq] at h
  omega
theorem QOk.next {q : Qs} {n : Nat} (h : QOk q n) : QOk q.next n := by
  unfold Qs.next
  split
  · rename_i hc
    exact ⟨can_lt hc, h.len, h.line⟩
  · exact h
theorem sum_le (l : List (List UInt8)) (h : ∀ s ∈ l, s.length ≤ 1024) : sumL l ≤ l.length * 1024 := by
  induction l with
  | nil => simp [sumL]
  | cons a r ih =>
    have h1 := h a (by simp)
    have h2 := ih (fun s hs => h s (by simp [hs]))
    simp only [sumL, List.map_cons, List.sum_cons, List.length_cons] at h2 ⊢
    omega
abbrev ptrV (b : Nat) : Value := .pointer (some ⟨b, 0, none⟩)
def q0 : Qs := ⟨[], 0, false⟩
theorem strV_app (l : List (List UInt8)) (x : ByteArray) : strV (l ++ [x.data.toList]) = strV l ++ [.string x] := by simp [strV]
theorem op_value {P : Program} {ops : Array Oper} {Q : Exit → Act → World → Prop} {i : Nat} {o : Oper} {K : Act → World → Prop} {a : Act} {w w' : World} {v : Value} (d : Option Tmp) (hi : ops[i]? = some o) (hd : o.dst = d) (hw : Region.wanted o (yielded ops a.tmps) = true) (hx : (execOp a.eval o).run P w = .ok (.value v) w') (h : K (a.put d v) w') : wpOp P ops Q i K a w := by
  subst hd
  unfold wpOp
  rw [hi]
  dsimp only
  rw [if_pos hw]
  refine .inl ?_
  unfold Oper.wp
  rw [hx]
  exact h
theorem op_skip {P : Program} {ops : Array Oper} {Q : Exit → Act → World → Prop} {i : Nat} {o : Oper} {K : Act → World → Prop} {a : Act} {w w' : World} (hi : ops[i]? = some o) (hd : o.dst = none) (hw : Region.wanted o (yielded ops a.tmps) = true) (hx : (execOp a.eval o).run P w = .ok .skip w') (h : K (a.put none undef) w') : wpOp P ops Q i K a w := by
  rw [← hd] at h
  unfold wpOp
  rw [hi]
  dsimp only
  rw [if_pos hw]
  refine .inl ?_
  unfold Oper.wp
  rw [hx]
  exact h
theorem take_d {P : Program} {ops : Array Oper} {Q : Exit → Act → World → Prop} {S : World → Prop} {md : Region.Mode} (i : Nat) (d : Option Tmp) {oi : Oper} {v : Value} {fuel : Nat} {listed : Array Bool} {a : Act} {w : World} (hi : ops[i]? = some oi) (hd : oi.dst = d)
    (hs : Region.noSelect ops = true) (hf : Region.free md ops listed i = true) (hr : (Region.ready md ops listed).contains i = true)
    (hQ : ∀ c a w, Q (.panic c) (a.put d v) w → Q (.panic c) a w) (hw : Region.wanted oi (yielded ops a.tmps) = true) (hS : S w) (hy : ∀ w, S w → (execOp a.eval oi).run P w = .ok (.value v) w)
    (h : wpAnyH P md ops Q S fuel (listed.setIfInBounds i true) (a.put d v) w) : wpAnyH P md ops Q S (fuel + 1) listed a w := by
  subst hd
  exact wpAnyH_take hi hs hf hr hQ (Or.inl ⟨hw, hy⟩) hS h
theorem wanted_none {o : Oper} (h : o.guard = none) (y : Nat → Option Bool) : Region.wanted o y = true := by simp [Region.wanted, h]
theorem op_call {P : Program} {ops : Array Oper} {Q : Exit → Act → World → Prop} {i : Nat} {o : Oper} {K : Act → World → Prop} {a : Act} {w : World} {f : FuncId} {args : Array Value} {R : Value → World → Prop} (d : Option Tmp) (hi : ops[i]? = some o) (hd : o.dst = d) (hw : Region.wanted o (yielded ops a.tmps) = true) (hx : (execOp a.eval o).run P w = .ok (.enter f args) w) (hc : Calls P f args w fun e w' => ∃ v, e = .returned v ∧ R v w') (h : ∀ v w', R v w' → K (a.put d v) w') : wpOp P ops Q i K a w := by
  unfold wpOp
  rw [hi]
  dsimp only
  rw [if_pos hw]
  refine .inl ?_
  unfold Oper.wp
  rw [hx]
  refine Calls.mono hc ?_
  rintro e w' ⟨v, rfl, hR⟩
  show K (a.put o.dst v) w'
  rw [hd]
  exact h v w' hR
/-- The slice v has the lines l. -/
def Win (W : World) (v : Value) (l : List (List UInt8)) : Prop := (v = .slice none 0 0 ∧ l = []) ∨ ∃ g o cap cur, v = .slice (some ⟨g, o, none⟩) l.length cap ∧ W.heap[g]? = some (.cells cur 9 (0, 0)) ∧ l.length ≤ cap ∧ o + cap ≤ cur.size ∧ ∀ (j : Nat) (t : List UInt8), l[j]? = some t → cur[o + j]? = some (.string ⟨t.toArray⟩)
theorem Win.keep {W W' : World} {v : Value} {l : List (List UInt8)} (h : Win W v l) (hk : ∀ g, v.ownBlock = some g → W'.heap[g]? = W.heap[g]?) : Win W' v l := by
  rcases h with h | ⟨g, o, cap, cur, rfl, hb, h1, h2, h3⟩
  · exact .inl h
  · exact .inr ⟨g, o, cap, cur, rfl, (hk g rfl).trans hb, h1, h2, h3⟩
theorem Win.lt {W : World} {v : Value} {l : List (List UInt8)} (h : Win W v l) {g : Nat} (hg : v.ownBlock = some g) : g < W.heap.size := by
  rcases h with ⟨rfl, _⟩ | ⟨g', o, cap, cur, rfl, hb, _⟩
  · cases hg
  · cases hg
    exact (Array.getElem?_eq_some_iff.1 hb).1
/-- The program's queue at block b. -/
structure IA (W : World) (v : Value) (b : Nat) (q : Qs) : Prop where
  blk : W.heap[b]? = some (.cells #[v, .int .i64 (q.held : Nat), .int .i64 (q.tk : Nat), .bool q.cl] 64 (0, 0))
  win : Win W v (q.fed.drop q.tk)
theorem IA.blt {W : World} {b : Nat} {v : Value} {q : Qs} (h : IA W v b q) : b < W.heap.size := (Array.getElem?_eq_some_iff.1 h.blk).1
theorem IA.ne {W : World} {b : Nat} {v : Value} {q : Qs} (h : IA W v b q) {g : Nat} (hg : v.ownBlock = some g) : g ≠ b := by
  rcases h.win with ⟨rfl, _⟩ | ⟨g', o, cap, cur, rfl, hb, _⟩
  · cases hg
  · cases hg
    intro (e : g' = b)
    have := h.blk
    rw [← e, hb] at this
    injection this with this
    injection this with _ this _
    exact absurd this (by decide)
theorem IA.keep {W W' : World} {b : Nat} {v : Value} {q : Qs} (h : IA W v b q) (hk : ∀ k, foot b v k → W'.heap[k]? = W.heap[k]?) : IA W' v b q :=
  ⟨(hk b (.inl rfl)).trans h.blk, h.win.keep (fun g hg => hk g (.inr hg))⟩
theorem IA.step {W W' : World} {b : Nat} {v : Value} {q : Qs} (h : IA W v b q) (hb : Below W.heap.size W W') : IA W' v b q := h.keep (fun k hk => hb.block k (by rcases hk with rfl | hk; exact h.blt; exact h.win.lt hk))
theorem IA.c0 {W : World} {b : Nat} {v : Value} {q : Qs} (h : IA W v b q) : W.cell? ⟨b, 0, none⟩ = some v ∧ W.frozen? ⟨b, 0, none⟩ = false := by simp [World.cell?, World.frozen?, h.blk]
theorem IA.c1 {W : World} {b : Nat} {v : Value} {q : Qs} (h : IA W v b q) : W.cell? ⟨b, 1, none⟩ = some (.int .i64 (q.held : Nat)) ∧ W.frozen? ⟨b, 1, none⟩ = false := by simp [World.cell?, World.frozen?, h.blk]
theorem IA.c2 {W : World} {b : Nat} {v : Value} {q : Qs} (h : IA W v b q) : W.cell? ⟨b, 2, none⟩ = some (.int .i64 (q.tk : Nat)) ∧ W.frozen? ⟨b, 2, none⟩ = false := by simp [World.cell?, World.frozen?, h.blk]
theorem IA.c3 {W : World} {b : Nat} {v : Value} {q : Qs} (h : IA W v b q) : W.cell? ⟨b, 3, none⟩ = some (.bool q.cl) ∧ W.frozen? ⟨b, 3, none⟩ = false := by simp [World.cell?, World.frozen?, h.blk]
/-- Its list. -/
theorem IA.shape {W : World} {b : Nat} {v : Value} {q : Qs} (h : IA W v b q) : ∃ a cp, v = .slice a q.wait cp := by
  rcases h.win with ⟨rfl, h0⟩ | ⟨g, o, cap, cur, rfl, _⟩
  · refine ⟨none, 0, ?_⟩
    have := congrArg List.length h0
    rw [List.length_drop, List.length_nil] at this
    unfold Qs.wait
    rw [this]
  · exact ⟨_, cap, by unfold Qs.wait; rw [List.length_drop]⟩
def I0 (W : World) (F : Nat → Prop) (b : Nat) (q : Qs) : Prop := ∃ v, IA W v b q ∧ F = foot b v
theorem i0_keep {W W' : World} {F : Nat → Prop} {b : Nat} {q : Qs} (h : I0 W F b q) (_ : W.heap.size ≤ W'.heap.size) (hk : ∀ k, F k → W'.heap[k]? = W.heap[k]?) : I0 W' F b q := by
  obtain ⟨v, h, rfl⟩ := h
  exact ⟨v, h.keep hk, rfl⟩
theorem i0_lt {W : World} {F : Nat → Prop} {b : Nat} {q : Qs} (h : I0 W F b q) : ∀ k, F k → k < W.heap.size := by
  obtain ⟨v, h, rfl⟩ := h
  rintro k (rfl | hk)
  · exact h.blt
  · exact h.win.lt hk
/-- append of a line onto a list that lies anywhere within its block. -/
theorem append_win {w : World} (v : Value) (l : List (List UInt8)) (hw : Win w v l) (ad : Addr) (s : ByteArray) (hs : w.cell? ad = some (.string s)) (hl : l.length ≤ 100000000) (ty : TypeId) :
    ∃ g o cap w', (Builtin.append_ #[50, 50] ty #[v, .slice (some ad) 1 1]).run Tryz.prog w = .ok (.slice (some ⟨g, o, none⟩) (l.length + 1) cap) w' ∧ Win w' (.slice (some ⟨g, o, none⟩) (l.length + 1) cap) (l ++ [s.data.toList]) ∧ w.grownBy w' v.ownBlock ∧ (v.ownBlock = some g ∨ w.heap.size ≤ g) := by
  obtain ⟨i0, hi, hz0, hz1, hz2⟩ := info_parts infoStr
  have hnews : ∀ (j : Nat) (u : Value), [Value.string s][j]? = some u → w.cell? (ad.add j) = some u := by
    intro j u hj
    cases j with
    | zero =>
      have hadd : ad.add 0 = ad := by unfold Addr.add; split <;> simp_all
      rw [hadd]
      simp at hj
      rw [hs, hj]
    | succ j => simp at hj
  have grown : ∀ (v' : Value) (w' : World), w'.ownsRow w.heap.size 9 1 v' (l.length + 1) (strV l ++ [.string s]) → ∃ g o cap, v' = .slice (some ⟨g, o, none⟩) (l.length + 1) cap ∧ Win w' v' (l ++ [s.data.toList]) ∧ w.heap.size ≤ g := by
    intro v' w' ho
    rcases ho.2 with ⟨_, h0⟩ | ⟨g, cap, cur, rfl, hb, hh, h1, h2, h3, h4⟩
    · omega
    · refine ⟨g, 0, cap, rfl, .inr ⟨g, 0, cap, cur, by rw [List.length_append, List.length_singleton], hh, by rw [List.length_append, List.length_singleton]; exact h1, by omega, fun j t ht => ?_⟩, hb⟩
      rw [← strV_app] at h4
      rw [Nat.zero_add, ← Array.getElem?_toList]
      have h5 : (strV (l ++ [s.data.toList]))[j]? = some (.string ⟨t.toArray⟩) := by rw [strV, List.getElem?_map, ht]; rfl
      rw [← h4, List.getElem?_take] at h5
      split at h5
      · exact h5
      · cases h5
  rcases hw with ⟨rfl, rfl⟩ | ⟨g, o, cap, cur, rfl, hh, h1, h2, h3⟩
  · obtain ⟨v', w', hr, h2, h3, _⟩ := run_append_own (P := Tryz.prog) w w.heap.size 50 ty 9 i0 (.string ⟨#[]⟩) 1 16 Tryz.underlying50 hi hz0 hz1 hz2 rfl (by omega) (.slice none 0 0) 0 [] (World.ownsRow_nil w _ _ _) ad 1 1 [.string s] (by rfl) hnews (by simp [Value.oneCell']) (by decide) (by decide) (Nat.le_refl _)
    obtain ⟨g, o, cap, rfl, hW, hg⟩ := grown v' w' h2
    exact ⟨g, o, cap, w', hr, hW, h3, .inr hg⟩
  · by_cases hroom : l.length + 1 ≤ cap
    · have hin : o + l.length < cur.size := by omega
      have hr := run_append_room_cells (P := Tryz.prog) w 50 ty 9 i0 Tryz.underlying50 hi g o l.length cap ad 1 1 [.string s] (by rw [hz1]; rfl) hnews (by simp [Value.oneCell']) hroom
        (fun j hj => by
          obtain rfl : j = 0 := by simp at hj; exact hj
          rw [hz1]
          simp [World.cell?, hh, hin])
        (fun j hj => by simp [World.frozen?, hh])
      rw [hz1, Nat.mul_one] at hr
      have hset : w.setCells g (o + l.length) [.string s] = w.setCell ⟨g, o + l.length, none⟩ (.string s) := by simp [World.setCells]
      rw [hset] at hr
      refine ⟨g, o, cap, _, hr, .inr ⟨g, o, cap, _, by rw [List.length_append, List.length_singleton], put_same _ _ _ _ hh, by rw [List.length_append, List.length_singleton]; exact hroom, by rw [Array.size_setIfInBounds]; exact h2, fun j t ht => ?_⟩, ⟨rfl, rfl, rfl, by rw [put_size]; exact Nat.le_refl _, fun k hk hn => put_far _ _ _ _ (fun e => hn (by rw [e]; rfl))⟩, .inl rfl⟩
      rw [Array.getElem?_setIfInBounds]
      by_cases hj : j < l.length
      · rw [if_neg (by omega)]
        rw [List.getElem?_append_left hj] at ht
        exact h3 j t ht
      · have hj2 := (List.getElem?_eq_some_iff.1 ht).1
        rw [List.length_append, List.length_singleton] at hj2
        obtain rfl : j = l.length := by omega
        rw [if_pos rfl, if_pos hin]
        rw [List.getElem?_append_right (Nat.le_refl _), Nat.sub_self] at ht
        simp at ht
        rw [← ht]
    · obtain ⟨v', w', hr, h5, h6⟩ := run_append_arg_grows (P := Tryz.prog) w 50 ty 9 i0 (.string ⟨#[]⟩) 1 16 Tryz.underlying50 hi hz0 hz1 hz2 rfl (by omega) ⟨g, o, none⟩ l.length cap (strV l) (by rw [strV_len, Nat.mul_one]) (fun j u hu => by
          have hadd : (⟨g, o, none⟩ : Addr).add j = ⟨g, o + j, none⟩ := by unfold Addr.add; split <;> simp_all
          rw [hadd]
          rw [strV, List.getElem?_map] at hu
          cases ht : l[j]? with
          | none => rw [ht] at hu; cases hu
          | some t =>
            rw [ht] at hu
            cases hu
            simp [World.cell?, hh, h3 j t ht]) ad 1 1 [.string s] (by rfl) hnews (by omega) (by unfold maxLen; omega) (by omega)
      obtain ⟨g2, o2, cap2, rfl, hW, hg⟩ := grown v' w' h5
      exact ⟨g2, o2, cap2, w', hr, hW, ⟨h6.os, h6.tape, h6.output, h6.size, fun k hk _ => h6.block k hk (by simp)⟩, .inr hg⟩
set_option maxRecDepth 100000 in
set_option maxHeartbeats 1000000 in
theorem new_any (W : World) : Calls Tryz.prog 32 #[] W fun e w' => ∃ b F, e = .returned (ptrV b) ∧ Below W.heap.size W w' ∧ I0 w' F b q0 ∧ ∀ k, F k → W.heap.size ≤ k := by
  go_enter Tryz.func32, Tryz.ntmps32
  go_wp2
  go_ret
  refine ⟨W.heap.size, _, rfl, (Below.refl _ _).alloc (Nat.le_refl _) _, ⟨.slice none 0 0, ⟨heap_alloc_new W _, .inl ⟨rfl, rfl⟩⟩, rfl⟩, ?_⟩
  rintro k (rfl | hk)
  · exact Nat.le_refl _
  · cases hk
set_option maxRecDepth 100000 in
set_option maxHeartbeats 1000000 in
theorem close_any {W : World} {F : Nat → Prop} {b n : Nat} {q : Qs} (h : I0 W F b q) (_ : QOk q n) (_ : n ≤ 100000000) : Calls Tryz.prog 17 #[ptrV b] W fun e w' => e = .returned (.int .i64 (closeE q : Nat)) ∧ Tch F W w' ∧ ∃ F', I0 w' F' b q.close ∧ ∀ k, F' k → F k ∨ W.heap.size ≤ k := by
  obtain ⟨v, h, rfl⟩ := h
  obtain ⟨c3, f3⟩ := h.c3
  have HH := hideT h
  have HP := hideT (fun g hg => put_far W b 3 (.bool true) (h.ne (g := g) hg))
  have HB := hideT ((Tch.refl (foot b v) W).put (.inl rfl) 3 (.bool true))
  clear h
  obtain ⟨cl, hcl⟩ : ∃ cl, cl = q.cl := ⟨_, rfl⟩
  rw [← hcl] at c3
  cases cl with
  | true =>
    have HE := hideT (show closeE q = 25 by unfold closeE; rw [← hcl]; rfl)
    have HQ := hideT (show q.close = q by unfold Qs.close; rw [hcl])
    clear hcl
    go_enter Tryz.func17, Tryz.ntmps17
    go_wp2
    go_ret
    exact ⟨by rw [HE.out]; rfl, Tch.refl _ _, _, ⟨v, by rw [HQ.out]; exact HH.out, rfl⟩, fun _ hk => .inl hk⟩
  | false =>
    have HE := hideT (show closeE q = 0 by unfold closeE; rw [← hcl]; rfl)
    clear hcl
    go_enter Tryz.func17, Tryz.ntmps17
    go_wp2
    go_ret
    exact ⟨by rw [HE.out]; rfl, HB.out, _, ⟨v, ⟨put_same _ _ 3 _ HH.out.blk, HH.out.win.keep HP.out⟩, rfl⟩, fun _ hk => .inl hk⟩
set_option maxRecDepth 100000 in
set_option maxHeartbeats 1000000 in
theorem ready_any {W : World} {F : Nat → Prop} {b n : Nat} {q : Qs} (h : I0 W F b q) (ho : QOk q n) (hn : n ≤ 100000000) : Calls Tryz.prog 19 #[ptrV b] W fun e w' => e = .returned (.bool q.ready) ∧ Below W.heap.size W w' := by
  obtain ⟨v, h, rfl⟩ := h
  obtain ⟨c0, _⟩ := h.c0
  obtain ⟨c3, _⟩ := h.c3
  obtain ⟨a, cp, rfl⟩ := h.shape
  have hw : q.wait ≤ 100000000 := by
    have := ho.len
    unfold Qs.wait
    omega
  clear h ho
  obtain ⟨cl, hcl⟩ : ∃ cl, cl = q.cl := ⟨_, rfl⟩
  rw [← hcl] at c3
  have HR := hideT (show q.ready = (cl || decide (2 ≤ q.wait)) by rw [hcl]; rfl)
  clear hcl
  cases cl with
  | true =>
    go_enter Tryz.func19, Tryz.ntmps19
    go_wp2
    go_ret
    exact ⟨by rw [HR.out]; rfl, Below.refl _ _⟩
  | false =>
    by_cases h2 : 2 ≤ q.wait
    · have k1 : (2 : Int) ≤ (q.wait : Int) := by omega
      have HR2 := hideT (show q.ready = true by rw [HR.out, decide_eq_true h2]; rfl)
      clear h2
      go_enter Tryz.func19, Tryz.ntmps19
      go_wp2
      go_ret
      exact ⟨by rw [HR2.out]; rfl, Below.refl _ _⟩
    · have k1 : ((2 : Int) ≤ (q.wait : Int)) = False := by rw [eq_iff_iff, iff_false]; omega
      have k2 : (2 ≤ q.wait) = False := by rw [eq_iff_iff, iff_false]; exact h2
      have HR2 := hideT (show q.ready = false by rw [HR.out, decide_eq_false h2]; rfl)
      clear h2
      go_enter Tryz.func19, Tryz.ntmps19
      go_wp2
      go_ret
      exact ⟨by rw [HR2.out]; rfl, Below.refl _ _⟩
set_option maxRecDepth 100000 in
set_option maxHeartbeats 1000000 in
theorem last_any {W : World} {F : Nat → Prop} {b n : Nat} {q : Qs} (h : I0 W F b q) (_ : QOk q n) (_ : n ≤ 100000000) : Calls Tryz.prog 21 #[ptrV b] W fun e w' => e = .returned (.bool q.last) ∧ Below W.heap.size W w' := by
  obtain ⟨v, h, rfl⟩ := h
  obtain ⟨c0, _⟩ := h.c0
  obtain ⟨c3, _⟩ := h.c3
  obtain ⟨a, cp, rfl⟩ := h.shape
  clear h
  obtain ⟨cl, hcl⟩ : ∃ cl, cl = q.cl := ⟨_, rfl⟩
  rw [← hcl] at c3
  have HR := hideT (show q.last = (cl && decide (q.wait = 0)) by rw [hcl]; rfl)
  clear hcl
  cases cl with
  | false =>
    go_enter Tryz.func21, Tryz.ntmps21
    go_wp2
    go_ret
    exact ⟨by rw [HR.out]; rfl, Below.refl _ _⟩
  | true =>
    by_cases h2 : q.wait = 0
    · have k1 : ((q.wait : Int) == 0) = true := by rw [h2]; rfl
      have HR2 := hideT (show q.last = true by rw [HR.out, decide_eq_true h2]; rfl)
      clear h2
      go_enter Tryz.func21, Tryz.ntmps21
      go_wp2
      go_ret
      exact ⟨by rw [HR2.out]; first | rfl | simp_all, Below.refl _ _⟩
    · have k1 : ((q.wait : Int) == 0) = false := by rw [beq_eq_false_iff_ne]; omega
      have k2 : (q.wait = 0) = False := by rw [eq_iff_iff, iff_false]; exact h2
      have HR2 := hideT (show q.last = false by rw [HR.out, decide_eq_false h2]; rfl)
      clear h2
      go_enter Tryz.func21, Tryz.ntmps21
      go_wp2
      go_ret
      exact ⟨by rw [HR2.out]; first | rfl | simp_all, Below.refl _ _⟩
set_option maxRecDepth 100000 in
set_option maxHeartbeats 1000000 in
theorem number_any {W : World} {F : Nat → Prop} {b n : Nat} {q : Qs} (h : I0 W F b q) (_ : QOk q n) (_ : n ≤ 100000000) : Calls Tryz.prog 26 #[ptrV b] W fun e w' => e = .returned (.int .i64 (q.tk : Nat)) ∧ Below W.heap.size W w' := by
  obtain ⟨v, h, rfl⟩ := h
  obtain ⟨c0, _⟩ := h.c2
  clear h
  go_enter Tryz.func26, Tryz.ntmps26
  go_wp2
  go_ret
  exact ⟨rfl, Below.refl _ _⟩
set_option maxRecDepth 100000 in
set_option maxHeartbeats 1000000 in
theorem held_any {W : World} {F : Nat → Prop} {b n : Nat} {q : Qs} (h : I0 W F b q) (_ : QOk q n) (_ : n ≤ 100000000) : Calls Tryz.prog 27 #[ptrV b] W fun e w' => e = .returned (.int .i64 (q.held : Nat)) ∧ Below W.heap.size W w' := by
  obtain ⟨v, h, rfl⟩ := h
  obtain ⟨c0, _⟩ := h.c1
  clear h
  go_enter Tryz.func27, Tryz.ntmps27
  go_wp2
  go_ret
  exact ⟨rfl, Below.refl _ _⟩
set_option maxRecDepth 100000 in
set_option maxHeartbeats 2000000 in
/-- A line was taken. -/
theorem IA.took {w1 : World} {b g o cap : Nat} {q : Qs} {cur : Array Value} (hq : IA w1 (.slice (some ⟨g, o, none⟩) q.wait cap) b q) (hg : w1.heap[g]? = some (.cells cur 9 (0, 0))) (hls : ∀ (j : Nat) (t : List UInt8), (q.fed.drop q.tk)[j]? = some t → cur[o + j]? = some (.string ⟨t.toArray⟩)) (o' cap' : Nat) (h1 : o' + cap' ≤ cur.size) (h2 : q.wait - 1 ≤ cap') (h3 : q.wait = 1 ∨ o' = o + 1) (x y : Int) (hx : x = (sumL (q.fed.drop (q.tk + 1)) : Nat)) (hy : y = (q.tk + 1 : Nat)) :
    IA ((((w1.setCell ⟨g, o, none⟩ (.string ⟨#[]⟩)).setCell ⟨b, 0, none⟩ (.slice (some ⟨g, o', none⟩) (q.wait - 1) cap')).setCell ⟨b, 1, none⟩ (.int .i64 x)).setCell ⟨b, 2, none⟩ (.int .i64 y)) (.slice (some ⟨g, o', none⟩) (q.wait - 1) cap') b ⟨q.fed, q.tk + 1, q.cl⟩ := by
  subst hx hy
  have hgb : g ≠ b := hq.ne rfl
  have b0 := (put_far w1 g o (.string ⟨#[]⟩) (j := b) (fun e => hgb e.symm)).trans hq.blk
  have b1 := put_same _ b 0 (.slice (some ⟨g, o', none⟩) (q.wait - 1) cap') b0
  have b2 := put_same _ b 1 (.int .i64 ((sumL (q.fed.drop (q.tk + 1)) : Nat) : Int)) b1
  have b3 := put_same _ b 2 (.int .i64 ((q.tk + 1 : Nat) : Int)) b2
  have g0 := put_same w1 g o (.string ⟨#[]⟩) hg
  have g1 := (put_far (w1.setCell ⟨g, o, none⟩ (.string ⟨#[]⟩)) b 0 (.slice (some ⟨g, o', none⟩) (q.wait - 1) cap') hgb).trans g0
  have g2 := (put_far _ b 1 (.int .i64 ((sumL (q.fed.drop (q.tk + 1)) : Nat) : Int)) hgb).trans g1
  have g3 := (put_far _ b 2 (.int .i64 ((q.tk + 1 : Nat) : Int)) hgb).trans g2
  have hw : (q.fed.drop (q.tk + 1)).length = q.wait - 1 := by unfold Qs.wait; rw [List.length_drop]; omega
  refine ⟨b3, .inr ⟨g, o', cap', cur.setIfInBounds o (.string ⟨#[]⟩), by show _ = Value.slice _ (q.fed.drop (q.tk + 1)).length _; rw [hw], ?_, by show (q.fed.drop (q.tk + 1)).length ≤ _; rw [hw]; exact h2, by rw [Array.size_setIfInBounds]; exact h1, fun j t ht => ?_⟩⟩
  · exact g3
  · have ht' : (q.fed.drop (q.tk + 1))[j]? = some t := ht
    have hj := (List.getElem?_eq_some_iff.1 ht').1
    rw [hw] at hj
    obtain rfl : o' = o + 1 := h3.resolve_left (by omega)
    rw [Array.getElem?_setIfInBounds, if_neg (by omega)]
    have h5 := hls (j + 1) t (by rw [List.getElem?_drop, show q.tk + (j + 1) = q.tk + 1 + j by omega, ← List.getElem?_drop]; exact ht')
    rw [show o + 1 + j = o + (j + 1) by omega]
    exact h5
set_option maxRecDepth 100000 in
set_option maxHeartbeats 2000000 in
theorem next_any {W : World} {F : Nat → Prop} {b n : Nat} {q : Qs} (h : I0 W F b q) (ho : QOk q n) (hn : n ≤ 100000000) : Calls Tryz.prog 51 #[ptrV b] W fun e w' => e = .returned (.tuple #[.string ⟨(nextL q).toArray⟩, .bool q.can]) ∧ Tch F W w' ∧ ∃ F', I0 w' F' b q.next ∧ ∀ k, F' k → F k ∨ W.heap.size ≤ k := by
  have HR := hideT (ready_any h ho hn)
  obtain ⟨v, h, rfl⟩ := h
  have HH := hideT h
  have HO := hideT ho
  clear h
  obtain ⟨C, hC⟩ : ∃ C, C = q.can := ⟨_, rfl⟩
  obtain ⟨R, hR⟩ : ∃ R, R = q.ready := ⟨_, rfl⟩
  rw [← hR] at HR
  rw [← hC]
  have HC := hideT (show C = (R && decide (q.wait ≠ 0)) by rw [hC, hR]; rfl)
  have HCC := hideT hC
  clear hC hR ho
  have HN := hideT (fun (hc : C = false) (w' : World) (hb : Tch (foot b v) W w') (hq : IA w' v b q) => show Ending.returned (.tuple #[.string ⟨#[]⟩, .bool false]) = .returned (.tuple #[.string ⟨(nextL q).toArray⟩, .bool C]) ∧ Tch (foot b v) W w' ∧ ∃ F', I0 w' F' b q.next ∧ ∀ k, F' k → foot b v k ∨ W.heap.size ≤ k from by
    refine ⟨?_, hb, foot b v, ⟨v, ?_, rfl⟩, fun _ hk => .inl hk⟩
    · rw [hc]
      unfold nextL
      rw [← HCC.out, hc]
      rfl
    · unfold Qs.next
      rw [← HCC.out, hc]
      exact hq)
  go_enter Tryz.func51, Tryz.ntmps51
  go_wp2_with fail
  refine HR.out.mono ?_
  rintro e w1 ⟨rfl, hb1⟩
  have HB1 := hideT (Tch.of (F := foot b v) hb1)
  have HQ1 := hideT (HH.out.step hb1)
  clear hb1 HR HH
  cases R with
  | false =>
    go_wp2
    go_ret2
    exact HN.out (by rw [HC.out]; rfl) _ HB1.out HQ1.out
  | true =>
    obtain ⟨c0, f0⟩ := HQ1.out.c0
    by_cases h0 : q.wait = 0
    · have k1 : ((q.wait : Int) == 0) = true := by rw [h0]; rfl
      have HF := hideT (show C = false by rw [HC.out, h0]; rfl)
      obtain ⟨a, cp, rfl⟩ := HQ1.out.shape
      clear h0
      go_wp2
      go_ret2
      exact HN.out HF.out _ HB1.out HQ1.out
    · have k1 : ((q.wait : Int) == 0) = false := by rw [beq_eq_false_iff_ne]; omega
      have HT := hideT (show C = true by rw [HC.out, decide_eq_true h0]; rfl)
      have hlt : q.tk < q.fed.length := can_lt (HCC.out.symm.trans HT.out)
      have hle := Nat.le_trans HO.out.len hn
      obtain ⟨g, o, cap, cur, rfl, hg, hcap, hcur, hls⟩ : ∃ g o cap cur, v = .slice (some ⟨g, o, none⟩) q.wait cap ∧ w1.heap[g]? = some (.cells cur 9 (0, 0)) ∧ q.wait ≤ cap ∧ o + cap ≤ cur.size ∧ ∀ (j : Nat) (t : List UInt8), (q.fed.drop q.tk)[j]? = some t → cur[o + j]? = some (.string ⟨t.toArray⟩) := by
        rcases HQ1.out.win with ⟨rfl, e⟩ | ⟨g, o, cap, cur, rfl, hg, hcap, hcur, hls⟩
        · have := congrArg List.length e
          rw [List.length_drop, List.length_nil] at this
          omega
        · exact ⟨g, o, cap, cur, by unfold Qs.wait; rw [List.length_drop], hg, by unfold Qs.wait; rw [← List.length_drop]; exact hcap, hcur, hls⟩
      have hgb : g ≠ b := HQ1.out.ne rfl
      have hbg : b ≠ g := fun e => hgb e.symm
      obtain ⟨c1, f1⟩ := HQ1.out.c1
      obtain ⟨c2, f2⟩ := HQ1.out.c2
      have d0 : q.fed.drop q.tk = q.fed[q.tk]'hlt :: q.fed.drop (q.tk + 1) := List.drop_eq_getElem_cons hlt
      have cg : w1.cell? ⟨g, o, none⟩ = some (.string ⟨(q.fed[q.tk]'hlt).toArray⟩) := by
        have := hls 0 (q.fed[q.tk]'hlt) (by rw [d0]; rfl)
        rw [Nat.add_zero] at this
        simp [World.cell?, hg, this]
      have fg : w1.frozen? ⟨g, o, none⟩ = false := by simp [World.frozen?, hg]
      have HL := hideT (show nextL q = q.fed[q.tk]'hlt by unfold nextL; rw [← HCC.out, HT.out, if_pos rfl, List.getD_eq_getElem?_getD, List.getElem?_eq_getElem hlt]; rfl)
      have hd : q.held = (q.fed[q.tk]'hlt).length + sumL (q.fed.drop (q.tk + 1)) := by
        unfold Qs.held
        rw [d0]
        simp only [sumL, List.map_cons, List.sum_cons]
      have hsm : sumL (q.fed.drop (q.tk + 1)) ≤ 102400000000 := by
        have h1 := sum_le (q.fed.drop (q.tk + 1)) (fun s hs => HO.out.line s (List.mem_of_mem_drop hs))
        rw [List.length_drop] at h1
        omega
      have hll := HO.out.line _ (List.getElem_mem hlt)
      obtain ⟨r, hr⟩ : ∃ r, r = sumL (q.fed.drop (q.tk + 1)) := ⟨_, rfl⟩
      rw [← hr] at hd hsm
      generalize htt : (q.fed[q.tk]'hlt) = t at *
      have hx : (⟨t.toArray⟩ : ByteArray).size = t.length := by show t.toArray.size = _; simp
      have w2 : IntKind.i64.wrap ((q.held : Int) - (t.length : Int)) = (r : Int) := by rw [IntKind.wrap_i64]; omega
      have w3 : IntKind.i64.wrap ((q.tk : Int) + 1) = ((q.tk + 1 : Nat) : Int) := by rw [IntKind.wrap_i64]; omega
      have j1 : (0 : Int) < (q.wait : Int) := by omega
      have j2 : (1 : Int) ≤ (q.wait : Int) := by omega
      have HK := hideT (fun o' cap' h1 h2 h3 x y hx hy => HQ1.out.took hg hls o' cap' h1 h2 h3 x y hx hy)
      have HT1 := hideT HB1.out
      have HCP := hideT (show 1 ≤ cap ∧ o + cap ≤ cur.size ∧ q.wait ≤ cap from ⟨by omega, hcur, hcap⟩)
      have HE := hideT (show Ending.returned (.tuple #[.string ⟨t.toArray⟩, .bool true]) = .returned (.tuple #[.string ⟨(nextL q).toArray⟩, .bool C]) by rw [HT.out, HL.out])
      have HQN := hideT (show q.next = ⟨q.fed, q.tk + 1, q.cl⟩ by unfold Qs.next; rw [← HCC.out, HT.out]; rfl)
      clear hg hls HN HC HO hle HB1 HQ1 HL HCC HT
      go_wp2
      · go_ret2
        refine ⟨HE.out, (((HT1.out.put (.inr rfl) _ _).put (.inl rfl) _ _).put (.inl rfl) _ _).put (.inl rfl) _ _, foot b (.slice (some ⟨g, o, none⟩) (q.wait - 1) 0), ⟨_, ?_, rfl⟩, fun k hk => .inl (hk.imp id id)⟩
        rw [HQN.out]
        have hc := HCP.out
        exact HK.out _ _ (by omega) (by omega) (by omega) _ _ (by omega) (by omega)
      · go_ret2
        refine ⟨HE.out, (((HT1.out.put (.inr rfl) _ _).put (.inl rfl) _ _).put (.inl rfl) _ _).put (.inl rfl) _ _, foot b (.slice (some ⟨g, o + 1, none⟩) (q.wait - 1) (cap - 1)), ⟨_, ?_, rfl⟩, fun k hk => .inl (hk.imp id id)⟩
        rw [HQN.out]
        have hc := HCP.out
        exact HK.out _ _ (by omega) (by omega) (by omega) _ _ (by omega) (by omega)
set_option maxRecDepth 100000 in
set_option maxHeartbeats 1000000 in
theorem index_any (s : ByteArray) (c : Int) (w : World) : Calls Tryz.prog 107 #[.string s, .int .u8 c] w fun e w' => e = .returned (.int .i64 (Lib.indexByte s.data.toList c.toNat.toUInt8)) ∧ w' = w := by
  have h : (callFunc 146 #[.string s, .int .u8 c]).run Tryz.prog w = .ok (.value (.int .i64 (Lib.indexByte s.data.toList c.toNat.toUInt8))) w := by
    rw [run_callFunc_extern Tryz.func146 (by kernel_rfl) (by kernel_rfl) (by kernel_rfl) (e := Extern.BytealgIndexByte.indexByte) (by kernel_rfl), Lib.run_indexByteString]
    rfl
  go_enter Tryz.func107, Tryz.ntmps107
  go_wp2
  go_ret
  exact ⟨rfl, rfl⟩
theorem index_in (l : List UInt8) (c : UInt8) : 0 ≤ Lib.indexByte l c ↔ c ∈ l := by
  have h := Lib.contains_iff_indexByte l c
  constructor
  · intro h0
    rw [decide_eq_true h0] at h
    simpa using h
  · intro h0
    have h1 : l.contains c = true := by simpa using h0
    rw [h1] at h
    exact of_decide_eq_true h.symm
set_option maxRecDepth 100000 in
set_option maxHeartbeats 1000000 in
theorem nl_index (s : ByteArray) (w : World) : Calls Tryz.prog 74 #[.string s, .string ⟨#[10]⟩] w fun e w' => ∃ r : Int, e = .returned (.int .i64 r) ∧ w' = w ∧ (0 ≤ r ↔ 10 ∈ s.data.toList) := by
  have H := hideT (index_any s 10)
  have HI := hideT (index_in s.data.toList 10)
  by_cases hs : s = ⟨#[10]⟩
  · subst hs
    go_enter Tryz.func74, Tryz.ntmps74
    go_wp2
    go_ret
    exact ⟨0, rfl, rfl, by simp⟩
  · have hb : (([10] : List UInt8) == s.toList) = false := by
      rw [beq_eq_false_iff_ne, ByteArray.toList_eq]
      intro e
      refine hs (ByteArray.ext (Array.toList_inj.1 ?_))
      rw [← e]
    clear hs
    go_enter Tryz.func74, Tryz.ntmps74
    go_wp2_with fail
    refine (H.out _).mono ?_
    rintro e w1 ⟨rfl, rfl⟩
    go_wp2
    go_ret
    exact ⟨_, rfl, rfl, HI.out⟩
set_option maxRecDepth 100000 in
set_option maxHeartbeats 1000000 in
theorem nl_index2 (s : ByteArray) (w : World) : Calls Tryz.prog 49 #[.string s, .string ⟨#[10]⟩] w fun e w' => ∃ r : Int, e = .returned (.int .i64 r) ∧ w' = w ∧ (0 ≤ r ↔ 10 ∈ s.data.toList) := by
  have H := hideT (nl_index s)
  go_enter Tryz.func49, Tryz.ntmps49
  go_wp2_with fail
  refine (H.out _).mono ?_
  rintro e w1 ⟨r, rfl, rfl, hr⟩
  have HR := hideT hr
  clear hr
  go_wp2
  go_ret
  exact ⟨_, rfl, rfl, HR.out⟩
set_option maxRecDepth 100000 in
set_option maxHeartbeats 1000000 in
theorem nl_contains (s : ByteArray) (w : World) : Calls Tryz.prog 33 #[.string s, .string ⟨#[10]⟩] w fun e w' => e = .returned (.bool (decide (10 ∈ s.data.toList))) ∧ w' = w := by
  have H := hideT (nl_index2 s)
  go_enter Tryz.func33, Tryz.ntmps33
  go_wp2_with fail
  refine (H.out _).mono ?_
  rintro e w1 ⟨r, rfl, rfl, hr⟩
  have HR := hideT hr
  clear hr
  by_cases h0 : 0 ≤ r
  · have HD := hideT (decide_eq_true (HR.out.1 h0))
    go_wp2
    go_ret
    exact ⟨by rw [HD.out]; rfl, rfl⟩
  · have h1 : (0 ≤ r) = False := by rw [eq_iff_iff, iff_false]; exact h0
    have HD := hideT (decide_eq_false (fun h => h0 (HR.out.2 h)))
    clear h0
    go_wp2
    go_ret
    exact ⟨by rw [HD.out]; rfl, rfl⟩
def lays316_ren : Go.Shelf.Ren := ⟨fun | 316 => 50 | n => n, fun | 37 => 77 | 127 => 119 | n => n, fun | n => n⟩
theorem lays316 : Go.Proofs.LaysM.n316 Tryz.prog lays316_ren := {
  mixed := by kernel_rfl
  f316 := Tryz.func50.trans (congrArg some (by kernel_rfl))
  t0 := Tryz.underlying0
  a0 := Tryz.isAgg0
  z0 := Tryz.sizeOf0
  v0 := Tryz.zeroValue0
  t3 := Tryz.underlying3
  a3 := Tryz.isAgg3
  z3 := Tryz.sizeOf3
  v3 := Tryz.zeroValue3
  t4 := Tryz.underlying4
  a4 := Tryz.isAgg4
  z4 := Tryz.sizeOf4
  v4 := Tryz.zeroValue4
  t9 := Tryz.underlying9
  a9 := Tryz.isAgg9
  z9 := Tryz.sizeOf9
  v9 := Tryz.zeroValue9
  t37 := Tryz.underlying77
  a37 := Tryz.isAgg77
  z37 := Tryz.sizeOf77
  v37 := Tryz.zeroValue77
  t127 := Tryz.underlying119
  a127 := Tryz.isAgg119
  z127 := Tryz.sizeOf119
  v127 := Tryz.zeroValue119
  t5 := Tryz.underlying5
  a5 := Tryz.isAgg5
  z5 := Tryz.sizeOf5
  v5 := Tryz.zeroValue5
  i0 := by kernel_rfl
  i3 := by kernel_rfl
  i4 := by kernel_rfl
  i5 := by kernel_rfl
  i9 := by kernel_rfl
  i37 := by kernel_rfl
  i127 := by kernel_rfl }
set_option maxRecDepth 100000 in
set_option maxHeartbeats 1000000 in
theorem clone_any (s : ByteArray) (w : World) (hs : s.size ≤ 140737488355000) : Calls Tryz.prog 34 #[.string s] w fun e w' => e = .returned (.string s) ∧ Below w.heap.size w w' := by
  have H := hideT (fun w => Any.stringslite_Clone lays316 s w (by omega))
  go_enter Tryz.func34, Tryz.ntmps34
  go_wp2_with fail
  refine (H.out _).mono ?_
  rintro e w1 ⟨rfl, hb⟩
  have B := hideT hb
  clear hb
  go_wp2
  go_ret
  exact ⟨rfl, B.out⟩
/-- A line was laid behind. -/
theorem IA.fedOn {W w1 w2 : World} {b g o cap : Nat} {v : Value} {q : Qs} {t : List UInt8} (hq : IA W v b q) (h1 : Below W.heap.size W w1) (hgr : w1.grownBy w2 v.ownBlock) (hw : Win w2 (.slice (some ⟨g, o, none⟩) ((q.fed.drop q.tk).length + 1) cap) (q.fed.drop q.tk ++ [t])) (hg : v.ownBlock = some g ∨ w1.heap.size ≤ g) (htk : q.tk ≤ q.fed.length) (x : Int) (hx : x = ((q.held + t.length : Nat) : Int)) :
    IA ((w2.setCell ⟨b, 0, none⟩ (.slice (some ⟨g, o, none⟩) ((q.fed.drop q.tk).length + 1) cap)).setCell ⟨b, 1, none⟩ (.int .i64 x)) (.slice (some ⟨g, o, none⟩) ((q.fed.drop q.tk).length + 1) cap) b ⟨q.fed ++ [t], q.tk, q.cl⟩ := by
  subst hx
  have hb := hq.blt
  have hs := h1.size
  have hne : v.ownBlock ≠ some b := fun e => hq.ne e rfl
  have hgb : g ≠ b := by
    rcases hg with hg | hg
    · exact hq.ne hg
    · omega
  have b0 := ((hgr.block b (by omega) (fun e => hne e.symm)).trans (h1.block b hb)).trans hq.blk
  have b1 := put_same _ b 0 (.slice (some ⟨g, o, none⟩) ((q.fed.drop q.tk).length + 1) cap) b0
  have b2 := put_same _ b 1 (.int .i64 ((q.held + t.length : Nat) : Int)) b1
  have hd : (q.fed ++ [t]).drop q.tk = q.fed.drop q.tk ++ [t] := List.drop_append_of_le_length htk
  have hh : Qs.held ⟨q.fed ++ [t], q.tk, q.cl⟩ = q.held + t.length := by
    unfold Qs.held
    show sumL ((q.fed ++ [t]).drop q.tk) = _
    rw [hd]
    simp [sumL]
  refine ⟨?_, ?_⟩
  · rw [hh]
    exact b2
  · show Win _ _ ((q.fed ++ [t]).drop q.tk)
    rw [hd]
    refine hw.keep (fun g' hg' => ?_)
    cases hg'
    exact (put_far _ b 1 _ hgb).trans (put_far _ b 0 _ hgb)
theorem op_append {P : Program} {ops : Array Oper} {Q : Exit → Act → World → Prop} {i : Nat} {op : Oper} {K : Act → World → Prop} {a : Act} {w w' : World} {v : Value} (d : Option Tmp) (hi : ops[i]? = some op) (hd : op.dst = d) (hw : Region.wanted op (yielded ops a.tmps) = true) (s x : Operand) (t : TypeId) (ho : op.op = .call { callee := .builtin .append, args := #[s, x], argTypes := #[t, t] }) (hx : (Builtin.append_ #[t, t] op.type #[a.eval s, a.eval x]).run P w = .ok v w') (h : K (a.put d v) w') : wpOp P ops Q i K a w := by
  refine op_value d hi hd hw ?_ h
  unfold execOp
  simp only [ho, resolve, invoke, builtin, Sem.run_bind, Sem.run_pure, Result.andThen_ok, List.map_toArray, List.map_cons, List.map_nil, hx]
/-- What is there when a line was laid behind. -/
theorem fed_fin {W w3 w4 : World} {b g o cap : Nat} {v : Value} {q : Qs} {s : ByteArray} (hq : IA W v b q) (htk : q.tk ≤ q.fed.length) (h3 : Below W.heap.size W w3) (hgr : w3.grownBy w4 v.ownBlock) (hw : Win w4 (.slice (some ⟨g, o, none⟩) ((q.fed.drop q.tk).length + 1) cap) (q.fed.drop q.tk ++ [s.data.toList])) (hg : v.ownBlock = some g ∨ w3.heap.size ≤ g) {q2 : Qs} (h2 : q2 = ⟨q.fed ++ [s.data.toList], q.tk, q.cl⟩) :
    ((w4.cell? ⟨b, 0, none⟩ = some v ∧ w4.frozen? ⟨b, 0, none⟩ = false) ∧ (w4.setCell ⟨b, 0, none⟩ (.slice (some ⟨g, o, none⟩) ((q.fed.drop q.tk).length + 1) cap)).cell? ⟨b, 1, none⟩ = some (.int .i64 (q.held : Nat)) ∧ (w4.setCell ⟨b, 0, none⟩ (.slice (some ⟨g, o, none⟩) ((q.fed.drop q.tk).length + 1) cap)).frozen? ⟨b, 1, none⟩ = false) ∧ ∀ x : Int, x = (q.held : Int) + (s.size : Int) → Tch (foot b v) W ((w4.setCell ⟨b, 0, none⟩ (.slice (some ⟨g, o, none⟩) ((q.fed.drop q.tk).length + 1) cap)).setCell ⟨b, 1, none⟩ (.int .i64 x)) ∧ ∃ F', I0 ((w4.setCell ⟨b, 0, none⟩ (.slice (some ⟨g, o, none⟩) ((q.fed.drop q.tk).length + 1) cap)).setCell ⟨b, 1, none⟩ (.int .i64 x)) F' b q2 ∧ ∀ k, F' k → foot b v k ∨ W.heap.size ≤ k := by
  subst h2
  have hb := hq.blt
  have hs := h3.size
  have hne : v.ownBlock ≠ some b := fun e => hq.ne e rfl
  have b0 := ((hgr.block b (by omega) (fun e => hne e.symm)).trans (h3.block b hb)).trans hq.blk
  have b1 := put_same _ b 0 (.slice (some ⟨g, o, none⟩) ((q.fed.drop q.tk).length + 1) cap) b0
  refine ⟨⟨⟨by simp [World.cell?, b0], by simp [World.frozen?, b0]⟩, by simp [World.cell?, b1, -List.length_drop], by simp [World.frozen?, b1, -List.length_drop]⟩, fun x hx => ⟨?_, _, ⟨_, hq.fedOn h3 hgr hw hg htk x (by rw [hx]; show _ = ((q.held + s.size : Nat) : Int); omega), rfl⟩, ?_⟩⟩
  · exact (((Tch.of h3 : Tch (foot b v) _ _).trans (Tch.grown (F := foot b v) hgr (fun g' hg' => .inr hg')) (fun _ hj => .inl hj)).put (.inl rfl) _ _).put (.inl rfl) _ _
  · rintro k (rfl | hk)
    · exact .inl (.inl rfl)
    · cases hk
      rcases hg with hg | hg
      · exact .inl (.inr hg)
      · exact .inr (by show W.heap.size ≤ g; omega)
set_option maxRecDepth 100000 in
set_option maxHeartbeats 4000000 in
theorem feed_any {W : World} {F : Nat → Prop} {b n : Nat} {q : Qs} (h : I0 W F b q) (ho : QOk q n) (hn : n ≤ 100000000) (s : ByteArray) (hs : s.size ≤ 140737488355000) : Calls Tryz.prog 16 #[ptrV b, .string s] W fun e w' => e = .returned (.int .i64 (feedE q s.data.toList : Nat)) ∧ Tch F W w' ∧ ∃ F', I0 w' F' b (q.feed s.data.toList) ∧ ∀ k, F' k → F k ∨ W.heap.size ≤ k := by
  obtain ⟨v, h, rfl⟩ := h
  obtain ⟨c3, f3⟩ := h.c3
  have HH := hideT h
  have HO := hideT ho
  obtain ⟨E, hE⟩ : ∃ E, E = feedE q s.data.toList := ⟨_, rfl⟩
  rw [← hE]
  have HN := hideT (fun (h0 : E ≠ 0) => show Ending.returned (.int .i64 (E : Nat)) = .returned (.int .i64 (E : Nat)) ∧ Tch (foot b v) W W ∧ ∃ F', I0 W F' b (q.feed s.data.toList) ∧ ∀ k, F' k → foot b v k ∨ W.heap.size ≤ k from by
    refine ⟨rfl, Tch.refl _ _, foot b v, ⟨v, ?_, rfl⟩, fun _ hk => .inl hk⟩
    unfold Qs.feed
    rw [← hE, if_neg h0]
    exact h)
  obtain ⟨cl, hcl⟩ : ∃ cl, cl = q.cl := ⟨_, rfl⟩
  rw [← hcl] at c3
  have HC := hideT (nl_contains s)
  cases cl with
  | true =>
    have hv : E = 25 := by rw [hE]; unfold feedE; rw [← hcl]; rfl
    have HF := hideT (HN.out (by omega))
    rw [hv] at HF ⊢
    clear h ho hn hE hcl HN hv
    go_enter Tryz.func16, Tryz.ntmps16
    go_wp2
    go_ret
    exact ⟨rfl, HF.out.2⟩
  | false =>
    have he : E = if 10 ∈ s.data.toList then 19 else if 1024 < s.size then 15 else 0 := by rw [hE]; unfold feedE; rw [← hcl]; rfl
    clear hcl
    by_cases h10 : 10 ∈ s.data.toList
    · have hv : E = 19 := by rw [he, if_pos h10]
      have HF := hideT (HN.out (by omega))
      rw [decide_eq_true h10] at HC
      rw [hv] at HF ⊢
      clear h ho hn hE HN hv he h10
      go_enter Tryz.func16, Tryz.ntmps16
      go_wp2_with fail
      refine (HC.out _).mono ?_
      rintro e w1 ⟨rfl, rfl⟩
      go_wp2
      go_ret
      exact ⟨rfl, HF.out.2⟩
    · rw [decide_eq_false h10] at HC
      rw [if_neg h10] at he
      clear h10
      by_cases hbig : 1024 < s.size
      · have k1 : (1024 : Int) < (s.size : Int) := by omega
        have hv : E = 15 := by rw [he, if_pos hbig]
        have HF := hideT (HN.out (by omega))
        rw [hv] at HF ⊢
        clear h ho hn hE HN hv he hbig
        go_enter Tryz.func16, Tryz.ntmps16
        go_wp2_with fail
        refine (HC.out _).mono ?_
        rintro e w1 ⟨rfl, rfl⟩
        go_wp2
        go_ret
        exact ⟨rfl, HF.out.2⟩
      · have k1 : ((1024 : Int) < (s.size : Int)) = False := by rw [eq_iff_iff, iff_false]; omega
        have k2 : (1024 < s.size) = False := by rw [eq_iff_iff, iff_false]; exact hbig
        have hv : E = 0 := by rw [he, if_neg hbig]
        have HQ := hideT (show q.feed s.data.toList = ⟨q.fed ++ [s.data.toList], q.tk, q.cl⟩ by unfold Qs.feed; rw [← hE, if_pos hv])
        rw [hv]
        have hsm : s.size ≤ 1024 := by omega
        have hhd : q.held ≤ 102400000000 := by
          have h1 := sum_le (q.fed.drop q.tk) (fun s hs => ho.line s (List.mem_of_mem_drop hs))
          rw [List.length_drop] at h1
          have h2 := ho.len
          unfold Qs.held
          omega
        have wr : IntKind.i64.wrap ((q.held : Int) + (s.size : Int)) = (q.held : Int) + (s.size : Int) := by rw [IntKind.wrap_i64]; omega
        have HCL := hideT (fun w => clone_any s w hs)
        obtain ⟨c0, f0⟩ := h.c0
        clear h hE HN hv he hbig
        go_enter Tryz.func16, Tryz.ntmps16
        go_wp2_with fail
        refine (HC.out _).mono ?_
        rintro e W ⟨rfl, rfl⟩
        -- the region that draws
        have HLN := hideT (show (q.fed.drop q.tk).length ≤ 100000000 by rw [List.length_drop]; have := ho.len; omega)
        have HB0 := hideT ((Below.refl W.heap.size W).drew)
        have HFIN := hideT (fun (w3 w4 : World) (g o cap : Nat) (hb3 : Below W.heap.size W w3) (hgr : w3.grownBy w4 v.ownBlock) (hwin : Win w4 (.slice (some ⟨g, o, none⟩) ((q.fed.drop q.tk).length + 1) cap) (q.fed.drop q.tk ++ [s.data.toList])) (hg : v.ownBlock = some g ∨ w3.heap.size ≤ g) => fed_fin HH.out HO.out.tk hb3 hgr hwin hg HQ.out)
        clear ho hhd hsm
        go_wp2_with fail
        refine wp_region_held (S := fun _ => True) (by kernel_rfl) ?_
        refine' take_d 0 (some 21) rfl rfl (by kernel_rfl) (by kernel_rfl) (by kernel_rfl) (fun _ _ _ h => h) (wanted_none rfl _) trivial ?tk1 ?rs1
        case tk1 => intro V hV; go_simp; (try with_reducible rfl)
        simp only [Act.put, List.setIfInBounds_toArray, List.set_cons_zero, List.set_cons_succ]
        refine' take_d 1 (some 22) rfl rfl (by kernel_rfl) (by kernel_rfl) (by kernel_rfl) (fun _ _ _ h => h) (wanted_none rfl _) trivial ?tk2 ?rs2
        case tk2 => intro V hV; go_simp; (try with_reducible rfl)
        simp only [Act.put, List.setIfInBounds_toArray, List.set_cons_zero, List.set_cons_succ]
        refine' take_d 2 (some 23) rfl rfl (by kernel_rfl) (by kernel_rfl) (by kernel_rfl) (fun _ _ _ h => h) (wanted_none rfl _) trivial ?tk3 ?rs3
        case tk3 => intro V hV; go_simp; (try with_reducible rfl)
        simp only [Act.put, List.setIfInBounds_toArray, List.set_cons_zero, List.set_cons_succ]
        refine' take_d 3 (some 24) rfl rfl (by kernel_rfl) (by kernel_rfl) (by kernel_rfl) (fun _ _ _ h => h) (wanted_none rfl _) trivial ?tk4 ?rs4
        case tk4 => intro V hV; go_simp; (try with_reducible rfl)
        simp only [Act.put, List.setIfInBounds_toArray, List.set_cons_zero, List.set_cons_succ]
        refine' take_d 5 (some 26) rfl rfl (by kernel_rfl) (by kernel_rfl) (by kernel_rfl) (fun _ _ _ h => h) (wanted_none rfl _) trivial ?tk5 ?rs5
        case tk5 => intro V hV; go_simp; (try with_reducible rfl)
        simp only [Act.put, List.setIfInBounds_toArray, List.set_cons_zero, List.set_cons_succ]
        refine wpAnyH_all (rs := [4, 6]) (by kernel_rfl) (by simp) (fun i hi => ?_)
        have hc2 : i = 4 ∨ i = 6 := by simpa using hi
        clear hi
        rcases hc2 with rfl | rfl
        · refine op_value (some 25) (v := v) (w' := W.drew) rfl rfl (wanted_none rfl _) (by have hc := c0; go_simp; (try with_reducible rfl)) ?_
          refine And.intro trivial ?_
          simp only [Act.put, List.setIfInBounds_toArray, List.set_cons_zero, List.set_cons_succ]
          refine wpAnyH_all (rs := [6]) (by kernel_rfl) (by simp) (fun i hi => ?_)
          obtain rfl : i = 6 := List.mem_singleton.1 hi
          clear hi
          refine op_call (some 27) rfl rfl (wanted_none rfl _) (by go_simp; (try with_reducible rfl)) (R := fun v w' => v = .string s ∧ Below W.heap.size W w') (((HCL.out _).mono (fun e w' h => ⟨.string s, h.1, rfl, HB0.out.trans (h.2.mono HB0.out.size)⟩))) ?_
          rintro x w2 ⟨rfl, hb2⟩
          have HB2 := hideT hb2
          clear hb2
          refine And.intro trivial ?_
          simp only [Act.put, List.setIfInBounds_toArray, List.set_cons_zero, List.set_cons_succ]
          refine wpAnyH_all (rs := [7]) (by kernel_rfl) (by simp) (fun i hi => ?_)
          obtain rfl : i = 7 := List.mem_singleton.1 hi
          clear hi
          refine op_value (some 28) (v := .slice (some ⟨w2.heap.size, 0, none⟩) 1 1) (w' := w2.alloc (.cells #[.string s] 9)) rfl rfl (wanted_none rfl _) (by go_simp; (try with_reducible rfl)) ?_
          refine And.intro trivial ?_
          simp only [Act.put, List.setIfInBounds_toArray, List.set_cons_zero, List.set_cons_succ]
          refine wpAnyH_all (rs := [8]) (by kernel_rfl) (by simp) (fun i hi => ?_)
          obtain rfl : i = 8 := List.mem_singleton.1 hi
          clear hi
          have hb3 := HB2.out.alloc HB2.out.size (.cells #[.string s] 9)
          have hn3 : (w2.alloc (.cells #[.string s] 9)).cell? ⟨w2.heap.size, 0, none⟩ = some (.string s) := by simp only [World.cell?, heap_alloc_new w2 (.cells #[.string s] 9)]; rfl
          generalize w2.alloc (.cells #[.string s] 9) = w3 at *
          obtain ⟨g, o, cap, w4, hrun, hwin, hgr, hg⟩ := append_win v (q.fed.drop q.tk) (HH.out.step hb3).win ⟨w2.heap.size, 0, none⟩ s hn3 HLN.out 50
          refine op_append (some 29) rfl rfl (wanted_none rfl _) _ _ _ rfl hrun ?_
          refine And.intro trivial ?_
          simp only [Act.put, List.setIfInBounds_toArray, List.set_cons_zero, List.set_cons_succ]
          have hfin := HFIN.out w3 w4 g o cap hb3 hgr hwin hg
          have HF2 := hideT hfin.2
          obtain ⟨⟨d0, e0⟩, d1, e1⟩ := hfin.1
          clear hfin hrun hwin hgr hg hb3 hn3
          generalize (q.fed.drop q.tk).length + 1 = N at *
          refine' take_d 9 (some 30) rfl rfl (by kernel_rfl) (by kernel_rfl) (by kernel_rfl) (fun _ _ _ h => h) (wanted_none rfl _) trivial ?tk51 ?rs51
          case tk51 => intro V hV; go_simp; (try with_reducible rfl)
          simp only [Act.put, List.setIfInBounds_toArray, List.set_cons_zero, List.set_cons_succ]
          refine' take_d 10 (some 31) rfl rfl (by kernel_rfl) (by kernel_rfl) (by kernel_rfl) (fun _ _ _ h => h) (wanted_none rfl _) trivial ?tk52 ?rs52
          case tk52 => intro V hV; go_simp; (try with_reducible rfl)
          simp only [Act.put, List.setIfInBounds_toArray, List.set_cons_zero, List.set_cons_succ]
          refine wpAnyH_all (rs := [11]) (by kernel_rfl) (by simp) (fun i hi => ?_)
          obtain rfl : i = 11 := List.mem_singleton.1 hi
          clear hi
          refine op_skip (w' := w4.setCell ⟨b, 0, none⟩ (.slice (some ⟨g, o, none⟩) N cap)) rfl rfl (wanted_none rfl _) (by go_simp; (try with_reducible rfl)) ?_
          refine And.intro trivial ?_
          simp only [Act.put]
          refine wpAnyH_done (by kernel_rfl) ?_ _
          generalize w4.setCell ⟨b, 0, none⟩ (.slice (some ⟨g, o, none⟩) N cap) = w5 at *
          clear d0 e0
          go_wp2
          go_ret
          exact ⟨rfl, HF2.out _ rfl⟩
        · refine op_call (some 27) rfl rfl (wanted_none rfl _) (by go_simp; (try with_reducible rfl)) (R := fun v w' => v = .string s ∧ Below W.heap.size W w') (((HCL.out _).mono (fun e w' h => ⟨.string s, h.1, rfl, HB0.out.trans (h.2.mono HB0.out.size)⟩))) ?_
          rintro x w2 ⟨rfl, hb2⟩
          have HB2 := hideT hb2
          clear hb2
          refine And.intro trivial ?_
          simp only [Act.put, List.setIfInBounds_toArray, List.set_cons_zero, List.set_cons_succ]
          refine wpAnyH_all (rs := [4, 7]) (by kernel_rfl) (by simp) (fun i hi => ?_)
          have hc2 : i = 4 ∨ i = 7 := by simpa using hi
          clear hi
          rcases hc2 with rfl | rfl
          · refine op_value (some 25) (v := v) (w' := w2) rfl rfl (wanted_none rfl _) (by have hc := keep_cell HB2.out c0; go_simp; (try with_reducible rfl)) ?_
            refine And.intro trivial ?_
            simp only [Act.put, List.setIfInBounds_toArray, List.set_cons_zero, List.set_cons_succ]
            refine wpAnyH_all (rs := [7]) (by kernel_rfl) (by simp) (fun i hi => ?_)
            obtain rfl : i = 7 := List.mem_singleton.1 hi
            clear hi
            refine op_value (some 28) (v := .slice (some ⟨w2.heap.size, 0, none⟩) 1 1) (w' := w2.alloc (.cells #[.string s] 9)) rfl rfl (wanted_none rfl _) (by go_simp; (try with_reducible rfl)) ?_
            refine And.intro trivial ?_
            simp only [Act.put, List.setIfInBounds_toArray, List.set_cons_zero, List.set_cons_succ]
            refine wpAnyH_all (rs := [8]) (by kernel_rfl) (by simp) (fun i hi => ?_)
            obtain rfl : i = 8 := List.mem_singleton.1 hi
            clear hi
            have hb3 := HB2.out.alloc HB2.out.size (.cells #[.string s] 9)
            have hn3 : (w2.alloc (.cells #[.string s] 9)).cell? ⟨w2.heap.size, 0, none⟩ = some (.string s) := by simp only [World.cell?, heap_alloc_new w2 (.cells #[.string s] 9)]; rfl
            generalize w2.alloc (.cells #[.string s] 9) = w3 at *
            obtain ⟨g, o, cap, w4, hrun, hwin, hgr, hg⟩ := append_win v (q.fed.drop q.tk) (HH.out.step hb3).win ⟨w2.heap.size, 0, none⟩ s hn3 HLN.out 50
            refine op_append (some 29) rfl rfl (wanted_none rfl _) _ _ _ rfl hrun ?_
            refine And.intro trivial ?_
            simp only [Act.put, List.setIfInBounds_toArray, List.set_cons_zero, List.set_cons_succ]
            have hfin := HFIN.out w3 w4 g o cap hb3 hgr hwin hg
            have HF2 := hideT hfin.2
            obtain ⟨⟨d0, e0⟩, d1, e1⟩ := hfin.1
            clear hfin hrun hwin hgr hg hb3 hn3
            generalize (q.fed.drop q.tk).length + 1 = N at *
            refine' take_d 9 (some 30) rfl rfl (by kernel_rfl) (by kernel_rfl) (by kernel_rfl) (fun _ _ _ h => h) (wanted_none rfl _) trivial ?tk151 ?rs151
            case tk151 => intro V hV; go_simp; (try with_reducible rfl)
            simp only [Act.put, List.setIfInBounds_toArray, List.set_cons_zero, List.set_cons_succ]
            refine' take_d 10 (some 31) rfl rfl (by kernel_rfl) (by kernel_rfl) (by kernel_rfl) (fun _ _ _ h => h) (wanted_none rfl _) trivial ?tk152 ?rs152
            case tk152 => intro V hV; go_simp; (try with_reducible rfl)
            simp only [Act.put, List.setIfInBounds_toArray, List.set_cons_zero, List.set_cons_succ]
            refine wpAnyH_all (rs := [11]) (by kernel_rfl) (by simp) (fun i hi => ?_)
            obtain rfl : i = 11 := List.mem_singleton.1 hi
            clear hi
            refine op_skip (w' := w4.setCell ⟨b, 0, none⟩ (.slice (some ⟨g, o, none⟩) N cap)) rfl rfl (wanted_none rfl _) (by go_simp; (try with_reducible rfl)) ?_
            refine And.intro trivial ?_
            simp only [Act.put]
            refine wpAnyH_done (by kernel_rfl) ?_ _
            generalize w4.setCell ⟨b, 0, none⟩ (.slice (some ⟨g, o, none⟩) N cap) = w5 at *
            clear d0 e0
            go_wp2
            go_ret
            exact ⟨rfl, HF2.out _ rfl⟩
          · refine op_value (some 28) (v := .slice (some ⟨w2.heap.size, 0, none⟩) 1 1) (w' := w2.alloc (.cells #[.string s] 9)) rfl rfl (wanted_none rfl _) (by go_simp; (try with_reducible rfl)) ?_
            refine And.intro trivial ?_
            simp only [Act.put, List.setIfInBounds_toArray, List.set_cons_zero, List.set_cons_succ]
            refine wpAnyH_all (rs := [4]) (by kernel_rfl) (by simp) (fun i hi => ?_)
            obtain rfl : i = 4 := List.mem_singleton.1 hi
            clear hi
            refine op_value (some 25) (v := v) (w' := _) rfl rfl (wanted_none rfl _) (by have hc := keep_cell (HB2.out.alloc HB2.out.size (.cells #[.string s] 9)) c0; go_simp; (try with_reducible rfl)) ?_
            refine And.intro trivial ?_
            simp only [Act.put, List.setIfInBounds_toArray, List.set_cons_zero, List.set_cons_succ]
            refine wpAnyH_all (rs := [8]) (by kernel_rfl) (by simp) (fun i hi => ?_)
            obtain rfl : i = 8 := List.mem_singleton.1 hi
            clear hi
            have hb3 := HB2.out.alloc HB2.out.size (.cells #[.string s] 9)
            have hn3 : (w2.alloc (.cells #[.string s] 9)).cell? ⟨w2.heap.size, 0, none⟩ = some (.string s) := by simp only [World.cell?, heap_alloc_new w2 (.cells #[.string s] 9)]; rfl
            generalize w2.alloc (.cells #[.string s] 9) = w3 at *
            obtain ⟨g, o, cap, w4, hrun, hwin, hgr, hg⟩ := append_win v (q.fed.drop q.tk) (HH.out.step hb3).win ⟨w2.heap.size, 0, none⟩ s hn3 HLN.out 50
            refine op_append (some 29) rfl rfl (wanted_none rfl _) _ _ _ rfl hrun ?_
            refine And.intro trivial ?_
            simp only [Act.put, List.setIfInBounds_toArray, List.set_cons_zero, List.set_cons_succ]
            have hfin := HFIN.out w3 w4 g o cap hb3 hgr hwin hg
            have HF2 := hideT hfin.2
            obtain ⟨⟨d0, e0⟩, d1, e1⟩ := hfin.1
            clear hfin hrun hwin hgr hg hb3 hn3
            generalize (q.fed.drop q.tk).length + 1 = N at *
            refine' take_d 9 (some 30) rfl rfl (by kernel_rfl) (by kernel_rfl) (by kernel_rfl) (fun _ _ _ h => h) (wanted_none rfl _) trivial ?tk251 ?rs251
            case tk251 => intro V hV; go_simp; (try with_reducible rfl)
            simp only [Act.put, List.setIfInBounds_toArray, List.set_cons_zero, List.set_cons_succ]
            refine' take_d 10 (some 31) rfl rfl (by kernel_rfl) (by kernel_rfl) (by kernel_rfl) (fun _ _ _ h => h) (wanted_none rfl _) trivial ?tk252 ?rs252
            case tk252 => intro V hV; go_simp; (try with_reducible rfl)
            simp only [Act.put, List.setIfInBounds_toArray, List.set_cons_zero, List.set_cons_succ]
            refine wpAnyH_all (rs := [11]) (by kernel_rfl) (by simp) (fun i hi => ?_)
            obtain rfl : i = 11 := List.mem_singleton.1 hi
            clear hi
            refine op_skip (w' := w4.setCell ⟨b, 0, none⟩ (.slice (some ⟨g, o, none⟩) N cap)) rfl rfl (wanted_none rfl _) (by go_simp; (try with_reducible rfl)) ?_
            refine And.intro trivial ?_
            simp only [Act.put]
            refine wpAnyH_done (by kernel_rfl) ?_ _
            generalize w4.setCell ⟨b, 0, none⟩ (.slice (some ⟨g, o, none⟩) N cap) = w5 at *
            clear d0 e0
            go_wp2
            go_ret
            exact ⟨rfl, HF2.out _ rfl⟩
end inp
end Go.Proofs.YtcpokkpjeeblnaaGreatDoor
