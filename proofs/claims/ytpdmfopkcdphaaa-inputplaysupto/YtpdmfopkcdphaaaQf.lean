/- input: the program's queue beside the document's. -/
import Derived.Test.YtpdmfopkcdphaaaQe
namespace Go.Proofs.Ytpdmfopkcdphaaa
open Go.RowKit

def Kp (B ob : Nat) (W W' : World) : Prop := Below B W W' ∧ W'.heap[ob]? = W.heap[ob]?
def Bo0 (I : World → (Nat → Prop) → Nat → Qs → Prop) (W : World) (B ib b : Nat) (qi qd : Qs) : Prop := ∃ F v, I W F ib qi ∧ QAt W B b v qd ∧ ∀ k, F k → B ≤ k ∧ ¬ foot b v k
/-- Both queues, apart from one another and from block ob. -/
def Bo (I : World → (Nat → Prop) → Nat → Qs → Prop) (W : World) (B ib b ob : Nat) (qi qd : Qs) : Prop := ∃ F v, I W F ib qi ∧ QAt W B b v qd ∧ (∀ k, F k → B ≤ k ∧ ¬ foot b v k ∧ k ≠ ob) ∧ ¬ foot b v ob ∧ ob < W.heap.size
theorem Bo.drop {I : World → (Nat → Prop) → Nat → Qs → Prop} {W : World} {B ib b ob : Nat} {qi qd : Qs} (h : Bo I W B ib b ob qi qd) : Bo0 I W B ib b qi qd := by
  obtain ⟨F, v, h1, h2, h3, _⟩ := h
  exact ⟨F, v, h1, h2, fun k hk => ⟨(h3 k hk).1, (h3 k hk).2.1⟩⟩
theorem foot_ge {W : World} {B b : Nat} {v : Value} {q : Qs} (h : QAt W B b v q) {k : Nat} (hk : foot b v k) : B ≤ k ∧ k < W.heap.size := by
  rcases hk with rfl | hk
  · exact ⟨h.hb, h.blt⟩
  · exact (h.ne hk).2
theorem QAt.hB {W : World} {B b : Nat} {v : Value} {q : Qs} (h : QAt W B b v q) : B ≤ W.heap.size := Nat.le_trans h.hb (Nat.le_of_lt h.blt)
section
variable {I : World → (Nat → Prop) → Nat → Qs → Prop} (imp : Imp I)
include imp
theorem Bo0.at {W W' : World} {B ib b ob : Nat} {qi qd : Qs} (h : Bo0 I W B ib b qi qd) (hb : Below W.heap.size W W') (h1 : W.heap.size ≤ ob) (h2 : ob < W'.heap.size) : Bo I W' B ib b ob qi qd := by
  obtain ⟨F, v, hI, hQ, hF⟩ := h
  refine ⟨F, v, imp.keep hI hb.size (fun k hk => hb.block k (imp.lt hI k hk)), hQ.step hb, fun k hk => ⟨(hF k hk).1, (hF k hk).2, ?_⟩, fun hf => ?_, h2⟩
  · have := imp.lt hI k hk
    omega
  · have := (foot_ge hQ hf).2
    omega
omit imp in
theorem Bo.impl {W : World} {B ib b ob : Nat} {qi qd qi' : Qs} (h : Bo I W B ib b ob qi qd) {f : FuncId} {args : Array Value} {R : Ending} (call : ∀ F, I W F ib qi → Calls Try.prog f args W fun e w' => e = R ∧ Tch F W w' ∧ ∃ F', I w' F' ib qi' ∧ ∀ k, F' k → F k ∨ W.heap.size ≤ k) : Calls Try.prog f args W fun e w' => e = R ∧ Bo I w' B ib b ob qi' qd ∧ Kp B ob W w' := by
  obtain ⟨F, v, hI, hQ, hF, hf, ho⟩ := h
  have hB := hQ.hB
  refine (call F hI).mono ?_
  rintro e w' ⟨rfl, ht, F', hI', hs⟩
  have stay : ∀ k, k < W.heap.size → ¬ F k → w'.heap[k]? = W.heap[k]? := ht.block
  have hQ' : QAt w' B b v qd := ⟨hQ.hb, (stay b hQ.blt (fun hk => (hF b hk).2.1 (.inl rfl))).trans hQ.blk, owns_keep hQ.own (fun g hg => stay g (hQ.ne hg).2.2 (fun hk => (hF g hk).2.1 (.inr hg)))⟩
  refine ⟨rfl, ⟨F', v, hI', hQ', fun k hk => ?_, hf, Nat.lt_of_lt_of_le ho ht.size⟩, ht.below (fun k hk => (hF k hk).1) hB, stay ob ho (fun hk => (hF ob hk).2.2 rfl)⟩
  rcases hs k hk with h1 | h1
  · exact hF k h1
  · exact ⟨by omega, fun hk2 => by have := (foot_ge hQ hk2).2; omega, by omega⟩
theorem Bo.doc {W : World} {B ib b ob : Nat} {qi qd qd' : Qs} (h : Bo I W B ib b ob qi qd) {f : FuncId} {args : Array Value} {R : Ending} (call : ∀ v, QAt W B b v qd → Calls Try.prog f args W fun e w' => e = R ∧ Tch (foot b v) W w' ∧ ∃ v2, QAt w' B b v2 qd' ∧ ∀ k, foot b v2 k → foot b v k ∨ W.heap.size ≤ k) : Calls Try.prog f args W fun e w' => e = R ∧ Bo I w' B ib b ob qi qd' ∧ Kp B ob W w' := by
  obtain ⟨F, v, hI, hQ, hF, hf, ho⟩ := h
  have hB := hQ.hB
  refine (call v hQ).mono ?_
  rintro e w' ⟨rfl, ht, v2, hQ', hs⟩
  have hlt := imp.lt hI
  refine ⟨rfl, ⟨F, v2, imp.keep hI ht.size (fun k hk => ht.block k (hlt k hk) (hF k hk).2.1), hQ', fun k hk => ⟨(hF k hk).1, fun hk2 => ?_, (hF k hk).2.2⟩, fun hk2 => ?_, Nat.lt_of_lt_of_le ho ht.size⟩, ht.below (fun k hk => (foot_ge hQ hk).1) hB, ht.block ob ho hf⟩
  · rcases hs k hk2 with h1 | h1
    · exact (hF k hk).2.1 h1
    · have := hlt k hk
      omega
  · rcases hs ob hk2 with h1 | h1
    · exact hf h1
    · omega
theorem Bo.step {W W' : World} {B ib b ob : Nat} {qi qd : Qs} (h : Bo I W B ib b ob qi qd) (hb : Below W.heap.size W W') : Bo I W' B ib b ob qi qd := by
  obtain ⟨F, v, hI, hQ, hF, hf, ho⟩ := h
  exact ⟨F, v, imp.keep hI hb.size (fun k hk => hb.block k (imp.lt hI k hk)), hQ.step hb, hF, hf, Nat.lt_of_lt_of_le ho hb.size⟩
theorem Bo.stillI {W : World} {B ib b ob : Nat} {qi qd : Qs} (h : Bo I W B ib b ob qi qd) {f : FuncId} {args : Array Value} {R : Ending} (call : ∀ F, I W F ib qi → Calls Try.prog f args W fun e w' => e = R ∧ Below W.heap.size W w') : Calls Try.prog f args W fun e w' => e = R ∧ Bo I w' B ib b ob qi qd ∧ Kp B ob W w' := by
  have h' := h
  obtain ⟨F, v, hI, hQ, _, _, ho⟩ := h'
  have hB := hQ.hB
  refine (call F hI).mono ?_
  rintro e w' ⟨rfl, hb⟩
  exact ⟨rfl, h.step imp hb, hb.mono hB, hb.block ob ho⟩
theorem Bo.stillD {W : World} {B ib b ob : Nat} {qi qd : Qs} (h : Bo I W B ib b ob qi qd) {f : FuncId} {args : Array Value} {R : Ending} (call : ∀ v, QAt W B b v qd → Calls Try.prog f args W fun e w' => e = R ∧ Below W.heap.size W w') : Calls Try.prog f args W fun e w' => e = R ∧ Bo I w' B ib b ob qi qd ∧ Kp B ob W w' := by
  have h' := h
  obtain ⟨F, v, hI, hQ, _, _, ho⟩ := h'
  have hB := hQ.hB
  refine (call v hQ).mono ?_
  rintro e w' ⟨rfl, hb⟩
  exact ⟨rfl, h.step imp hb, hb.mono hB, hb.block ob ho⟩
end
/-- A script of calls, as it lies. -/
def SRow (W : World) (B : Nat) (v : Value) (l : List (Int × ByteArray)) : Prop := ∃ a cp, v = .slice a l.length cp ∧ ∀ k x, l[k]? = some x → ∃ g o, a = some ⟨g, o, none⟩ ∧ g < B ∧ W.cell? ⟨g, o + k * 2, none⟩ = some (.int .i64 x.1) ∧ W.cell? ⟨g, o + k * 2 + 1, none⟩ = some (.string x.2)
def Qs.op (q : Qs) (x : Int × ByteArray) : Qs := if x.1 = 0 then q.feed x.2.data.toList else if x.1 = 1 then q.close else if x.1 = 2 then q.next else q
theorem QOk.op {q : Qs} {n : Nat} (h : QOk q n) (x : Int × ByteArray) : QOk (q.op x) (n + 1) := by
  unfold Qs.op
  split
  · exact h.feed _
  · split
    · exact h.close.more
    · split
      · exact h.next.more
      · exact h.more
end Go.Proofs.Ytpdmfopkcdphaaa
