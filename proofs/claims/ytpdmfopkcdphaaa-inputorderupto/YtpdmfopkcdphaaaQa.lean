/- input: a queue of lines, pure; how the document's lies. -/
import Derived.Test.YtpdmfopkcdphaaaRows
import Derived.WalkKit
import Derived.WalkSpells
import Derived.WalkLawsBesides
import Derived.BigQuiet
import Derived.Deep.Cut
import Derived.Laws.StructEq
import Derived.Lib.Strings
import Derived.OwnWalk
import Derived.Deep.RegionWith
import Derived.Deep.QuietTactic
import Derived.Deep.AppendLies
namespace Go.Proofs.Ytpdmfopkcdphaaa
open Go.RowKit

theorem hideT {p : Prop} (h : p) : Hid p := h
theorem below_drewN (B : Nat) (W : World) (n : Nat) : Below B W (W.drewN n) := { os := rfl, tape := rfl, output := rfl, size := Nat.le_refl _, block := fun _ _ => rfl }
theorem keep_cell {W w1 : World} {a : Addr} {v : Value} (hb : Below W.heap.size W w1) (h : W.cell? a = some v) : w1.cell? a = some v := (World.cell?_of_block (hb.block _ (World.block_lt_of_cell? W a h))).trans h
theorem put_far (W : World) (b k : Nat) (u : Value) {j : Nat} (h : j ≠ b) : (W.setCell ⟨b, k, none⟩ u).heap[j]? = W.heap[j]? := Below.heap_setCell W ⟨b, k, none⟩ u j h
theorem put_size (W : World) (b k : Nat) (u : Value) : (W.setCell ⟨b, k, none⟩ u).heap.size = W.heap.size := by simp [World.setCell]
theorem put_same (W : World) (b k : Nat) (u : Value) {cs : Array Value} {e : TypeId} {fr : Nat × Nat} (h : W.heap[b]? = some (.cells cs e fr)) : (W.setCell ⟨b, k, none⟩ u).heap[b]? = some (.cells (cs.setIfInBounds k u) e fr) := by
  obtain ⟨hlt, hk2⟩ := Array.getElem?_eq_some_iff.1 h
  show (W.heap.modify b _)[b]? = _
  rw [Array.getElem?_eq_getElem (by rw [Array.size_modify]; exact hlt), Array.getElem_modify_self, hk2]
  simp only [Option.isSome_none, Bool.false_eq_true, if_false]
theorem below_put {B : Nat} {W W' : World} (h : Below B W W') {b : Nat} (hb : B ≤ b) (k : Nat) (u : Value) : Below B W (W'.setCell ⟨b, k, none⟩ u) :=
  ⟨h.os, h.tape, h.output, by rw [put_size]; exact h.size, fun j hj => by rw [put_far _ _ _ _ (by omega)]; exact h.block j hj⟩
theorem below_grown {B : Nat} {W W' : World} {r : Option Nat} (h : W.grownBy W' r) (hr : ∀ g, r = some g → B ≤ g) (hB : B ≤ W.heap.size) : Below B W W' :=
  ⟨h.os, h.tape, h.output, h.size, fun j hj => h.block j (by omega) (fun e => by have := hr j e.symm; omega)⟩
theorem owns_keep {W W' : World} {B e size n : Nat} {v : Value} {xs : List Value} (h : W.ownsRow B e size v n xs) (hk : ∀ g, v.ownBlock = some g → W'.heap[g]? = W.heap[g]?) : W'.ownsRow B e size v n xs := by
  obtain ⟨hl, h2⟩ := h
  refine ⟨hl, ?_⟩
  rcases h2 with h2 | ⟨g, cap, cur, rfl, hb, hh, r⟩
  · exact .inl h2
  · exact .inr ⟨g, cap, cur, rfl, hb, (hk g rfl).trans hh, r⟩
/-- Only blocks of F, and new ones, were written. -/
structure Tch (F : Nat → Prop) (W W' : World) : Prop where
  os : W'.os = W.os
  tape : W'.tape = W.tape
  output : W'.output = W.output
  size : W.heap.size ≤ W'.heap.size
  block : ∀ k, k < W.heap.size → ¬ F k → W'.heap[k]? = W.heap[k]?
theorem Tch.refl (F : Nat → Prop) (W : World) : Tch F W W := ⟨rfl, rfl, rfl, Nat.le_refl _, fun _ _ _ => rfl⟩
theorem Tch.of {F : Nat → Prop} {W W' : World} (h : Below W.heap.size W W') : Tch F W W' := ⟨h.os, h.tape, h.output, h.size, fun k hk _ => h.block k hk⟩
theorem Tch.trans {F G : Nat → Prop} {W W1 W2 : World} (h : Tch F W W1) (k : Tch G W1 W2) (hs : ∀ j, G j → F j ∨ W.heap.size ≤ j) : Tch F W W2 :=
  ⟨k.os.trans h.os, k.tape.trans h.tape, k.output.trans h.output, Nat.le_trans h.size k.size, fun j hj hn => (k.block j (Nat.lt_of_lt_of_le hj h.size) (fun hg => (hs j hg).elim hn (fun e => absurd hj (Nat.not_lt.2 e)))).trans (h.block j hj hn)⟩
theorem Tch.mono {F G : Nat → Prop} {W W' : World} (h : Tch F W W') (hs : ∀ j, F j → G j) : Tch G W W' := ⟨h.os, h.tape, h.output, h.size, fun k hk hn => h.block k hk (fun hf => hn (hs k hf))⟩
theorem Tch.put {F : Nat → Prop} {W W' : World} (h : Tch F W W') {b : Nat} (hb : F b) (k : Nat) (u : Value) : Tch F W (W'.setCell ⟨b, k, none⟩ u) :=
  ⟨h.os, h.tape, h.output, by rw [put_size]; exact h.size, fun j hj hn => (put_far W' b k u (j := j) (fun e => hn (by rw [e]; exact hb))).trans (h.block j hj hn)⟩
theorem Tch.grown {F : Nat → Prop} {W W' : World} {r : Option Nat} (h : W.grownBy W' r) (hr : ∀ g, r = some g → F g) : Tch F W W' := ⟨h.os, h.tape, h.output, h.size, fun k hk hn => h.block k hk (fun e => hn (hr k e.symm))⟩
theorem Tch.below {F : Nat → Prop} {B : Nat} {W W' : World} (h : Tch F W W') (hF : ∀ k, F k → B ≤ k) (hB : B ≤ W.heap.size) : Below B W W' := ⟨h.os, h.tape, h.output, h.size, fun k hk => h.block k (Nat.lt_of_lt_of_le hk hB) (fun hf => absurd hk (Nat.not_lt.2 (hF k hf)))⟩
/-- A queue's blocks: its own, and its row's. -/
def foot (b : Nat) (v : Value) (k : Nat) : Prop := k = b ∨ v.ownBlock = some k
def strV (l : List (List UInt8)) : List Value := l.map fun t => Value.string ⟨t.toArray⟩
theorem strV_len (l : List (List UInt8)) : (strV l).length = l.length := by simp [strV]
theorem infoStr : (Try.prog.info? 9).map (fun i => (i.zero, i.size, i.bytes)) = some (some (.string ⟨#[]⟩), 1, 16) := by kernel_rfl

/-- A queue: all lines that were fed, how many were taken, is it closed. -/
structure Qs where
  fed : List (List UInt8)
  tk : Nat
  cl : Bool
def Qs.wait (q : Qs) : Nat := q.fed.length - q.tk
def Qs.ready (q : Qs) : Bool := q.cl || decide (2 ≤ q.wait)
def Qs.last (q : Qs) : Bool := q.cl && decide (q.wait = 0)
def sumL (l : List (List UInt8)) : Nat := (l.map List.length).sum
def Qs.held (q : Qs) : Nat := sumL (q.fed.drop q.tk)
def feedE (q : Qs) (s : List UInt8) : Nat := if q.cl then 25 else if 10 ∈ s then 19 else if 1024 < s.length then 15 else 0
def Qs.feed (q : Qs) (s : List UInt8) : Qs := if feedE q s = 0 then ⟨q.fed ++ [s], q.tk, q.cl⟩ else q
def closeE (q : Qs) : Nat := if q.cl then 25 else 0
def Qs.close (q : Qs) : Qs := ⟨q.fed, q.tk, true⟩
def Qs.can (q : Qs) : Bool := q.ready && decide (q.wait ≠ 0)
def Qs.next (q : Qs) : Qs := if q.can then ⟨q.fed, q.tk + 1, q.cl⟩ else q
def nextL (q : Qs) : List UInt8 := if q.can then q.fed.getD q.tk [] else []
/-- What holds of every queue that is reached. -/
structure QOk (q : Qs) (n : Nat) : Prop where
  tk : q.tk ≤ q.fed.length
  len : q.fed.length ≤ n
  line : ∀ s ∈ q.fed, s.length ≤ 1024
theorem QOk.feed {q : Qs} {n : Nat} (h : QOk q n) (s : List UInt8) : QOk (q.feed s) (n + 1) := by
  unfold Qs.feed
  split
  · rename_i he
    refine ⟨(show q.tk ≤ (q.fed ++ [s]).length by rw [List.length_append]; have := h.tk; omega), (show (q.fed ++ [s]).length ≤ n + 1 by rw [List.length_append, List.length_singleton]; have := h.len; omega), fun t ht => ?_⟩
    rcases List.mem_append.1 ht with ht | ht
    · exact h.line t ht
    · rw [List.mem_singleton.1 ht]
      unfold feedE at he
      split at he
      · cases he
      · split at he
        · cases he
        · split at he
          · cases he
          · omega
  · exact ⟨h.tk, Nat.le_succ_of_le h.len, h.line⟩
theorem QOk.more {q : Qs} {n : Nat} (h : QOk q n) : QOk q (n + 1) := ⟨h.tk, Nat.le_succ_of_le h.len, h.line⟩
theorem QOk.close {q : Qs} {n : Nat} (h : QOk q n) : QOk q.close n := ⟨h.tk, h.len, h.line⟩
theorem can_lt {q : Qs} (h : q.can = true) : q.tk < q.fed.length := by
  unfold Qs.can Qs.wait at h
  simp only [Bool.and_eq_true, decide_eq_true_eq] at h
  omega
theorem QOk.next {q : Qs} {n : Nat} (h : QOk q n) : QOk q.next n := by
  unfold Qs.next
  split
  · rename_i hc
    exact ⟨can_lt hc, h.len, h.line⟩
  · exact h
theorem sum_le (l : List (List UInt8)) (h : ∀ s ∈ l, s.length ≤ 1024) : sumL l ≤ l.length * 1024 := by
  induction l with
  | nil => simp [sumL]
  | cons a r ih =>
    have h1 := h a (by simp)
    have h2 := ih (fun s hs => h s (by simp [hs]))
    simp only [sumL, List.map_cons, List.sum_cons, List.length_cons] at h2 ⊢
    omega

/-- The document's queue, as it lies at block b. -/
structure QAt (W : World) (B b : Nat) (v : Value) (q : Qs) : Prop where
  hb : B ≤ b
  blk : W.heap[b]? = some (.cells #[v, .int .i64 (q.tk : Nat), .bool q.cl] 28 (0, 0))
  own : W.ownsRow B 9 1 v q.fed.length (strV q.fed)
theorem QAt.blt {W : World} {B b : Nat} {v : Value} {q : Qs} (h : QAt W B b v q) : b < W.heap.size := (Array.getElem?_eq_some_iff.1 h.blk).1
theorem QAt.ne {W : World} {B b : Nat} {v : Value} {q : Qs} (h : QAt W B b v q) {g : Nat} (hg : v.ownBlock = some g) : g ≠ b ∧ B ≤ g ∧ g < W.heap.size := by
  rcases h.own.2 with ⟨rfl, _⟩ | ⟨g', cap, cur, rfl, hb, hh, _⟩
  · cases hg
  · cases hg
    refine ⟨fun (e : g' = b) => ?_, hb, (Array.getElem?_eq_some_iff.1 hh).1⟩
    have := h.blk
    rw [← e, hh] at this
    injection this with this
    injection this with _ this _
    exact absurd this (by decide)
theorem QAt.keep {W W' : World} {B b : Nat} {v : Value} {q : Qs} (h : QAt W B b v q) (hk : ∀ k, B ≤ k → k < W.heap.size → W'.heap[k]? = W.heap[k]?) : QAt W' B b v q :=
  ⟨h.hb, (hk b h.hb h.blt).trans h.blk, owns_keep h.own (fun g hg => hk g (h.ne hg).2.1 (h.ne hg).2.2)⟩
theorem QAt.step {W W' : World} {B b : Nat} {v : Value} {q : Qs} (h : QAt W B b v q) (hb : Below W.heap.size W W') : QAt W' B b v q := h.keep (fun k _ hk => hb.block k hk)
theorem QAt.c0 {W : World} {B b : Nat} {v : Value} {q : Qs} (h : QAt W B b v q) : W.cell? ⟨b, 0, none⟩ = some v ∧ W.frozen? ⟨b, 0, none⟩ = false := by simp [World.cell?, World.frozen?, h.blk]
theorem QAt.c1 {W : World} {B b : Nat} {v : Value} {q : Qs} (h : QAt W B b v q) : W.cell? ⟨b, 1, none⟩ = some (.int .i64 (q.tk : Nat)) ∧ W.frozen? ⟨b, 1, none⟩ = false := by simp [World.cell?, World.frozen?, h.blk]
theorem QAt.c2 {W : World} {B b : Nat} {v : Value} {q : Qs} (h : QAt W B b v q) : W.cell? ⟨b, 2, none⟩ = some (.bool q.cl) ∧ W.frozen? ⟨b, 2, none⟩ = false := by simp [World.cell?, World.frozen?, h.blk]
theorem QAt.shape {W : World} {B b : Nat} {v : Value} {q : Qs} (h : QAt W B b v q) : ∃ a cp, v = .slice a q.fed.length cp ∧ ∀ (k : Nat) (t : List UInt8), q.fed[k]? = some t → ∃ g, a = some ⟨g, 0, none⟩ ∧ W.cell? ⟨g, k, none⟩ = some (.string ⟨t.toArray⟩) := by
  rcases h.own.2 with ⟨rfl, h0⟩ | ⟨g, cap, cur, rfl, hr⟩
  · exact ⟨none, 0, by rw [h0], fun k t ht => by
      have := (List.getElem?_eq_some_iff.1 ht).1
      omega⟩
  · refine ⟨some ⟨g, 0, none⟩, cap, rfl, fun k t ht => ⟨g, rfl, ?_⟩⟩
    have h1 := h.own.cells (g := g) rfl k (.string ⟨t.toArray⟩) (by rw [strV, List.getElem?_map, ht]; rfl)
    have hadd : (⟨g, 0, none⟩ : Addr).add k = ⟨g, k, none⟩ := by unfold Addr.add; split <;> simp_all
    rw [hadd] at h1
    exact h1
/-- One of its cells is written. -/
theorem QAt.set1 {W : World} {B b : Nat} {v : Value} {q : Qs} (h : QAt W B b v q) (n : Nat) : QAt (W.setCell ⟨b, 1, none⟩ (.int .i64 (n : Nat))) B b v ⟨q.fed, n, q.cl⟩ :=
  ⟨h.hb, put_same _ _ 1 _ h.blk, owns_keep h.own (fun _ hg => put_far _ _ _ _ (h.ne hg).1)⟩
theorem QAt.set2 {W : World} {B b : Nat} {v : Value} {q : Qs} (h : QAt W B b v q) (c : Bool) : QAt (W.setCell ⟨b, 2, none⟩ (.bool c)) B b v ⟨q.fed, q.tk, c⟩ :=
  ⟨h.hb, put_same _ _ 2 _ h.blk, owns_keep h.own (fun _ hg => put_far _ _ _ _ (h.ne hg).1)⟩
end Go.Proofs.Ytpdmfopkcdphaaa
