/- input: what a program's queue is asked for (Imp, of any representation I), and awake from it. -/
import Derived.Test.YtpdmfopkcdphaaaQd
namespace Go.Proofs.Ytpdmfopkcdphaaa
open Go.RowKit

abbrev ptrV (b : Nat) : Value := .pointer (some ⟨b, 0, none⟩)
def q0 : Qs := ⟨[], 0, false⟩
/-- A program's queue keeps the pure one; F are its blocks. -/
structure Imp (I : World → (Nat → Prop) → Nat → Qs → Prop) : Prop where
  keep : ∀ {W W' : World} {F : Nat → Prop} {b : Nat} {q : Qs}, I W F b q → W.heap.size ≤ W'.heap.size → (∀ k, F k → W'.heap[k]? = W.heap[k]?) → I W' F b q
  lt : ∀ {W : World} {F : Nat → Prop} {b : Nat} {q : Qs}, I W F b q → ∀ k, F k → k < W.heap.size
  new : ∀ W, Calls Try.prog 6 #[] W fun e w' => ∃ b F, e = .returned (ptrV b) ∧ Below W.heap.size W w' ∧ I w' F b q0 ∧ ∀ k, F k → W.heap.size ≤ k
  feed : ∀ {W : World} {F : Nat → Prop} {b n : Nat} {q : Qs}, I W F b q → QOk q n → n ≤ 100000000 → ∀ s : ByteArray, s.size ≤ 140737488355000 → Calls Try.prog 8 #[ptrV b, .string s] W fun e w' => e = .returned (.int .i64 (feedE q s.data.toList : Nat)) ∧ Tch F W w' ∧ ∃ F', I w' F' b (q.feed s.data.toList) ∧ ∀ k, F' k → F k ∨ W.heap.size ≤ k
  close : ∀ {W : World} {F : Nat → Prop} {b n : Nat} {q : Qs}, I W F b q → QOk q n → n ≤ 100000000 → Calls Try.prog 10 #[ptrV b] W fun e w' => e = .returned (.int .i64 (closeE q : Nat)) ∧ Tch F W w' ∧ ∃ F', I w' F' b q.close ∧ ∀ k, F' k → F k ∨ W.heap.size ≤ k
  next : ∀ {W : World} {F : Nat → Prop} {b n : Nat} {q : Qs}, I W F b q → QOk q n → n ≤ 100000000 → Calls Try.prog 12 #[ptrV b] W fun e w' => e = .returned (.tuple #[.string ⟨(nextL q).toArray⟩, .bool q.can]) ∧ Tch F W w' ∧ ∃ F', I w' F' b q.next ∧ ∀ k, F' k → F k ∨ W.heap.size ≤ k
  ready : ∀ {W : World} {F : Nat → Prop} {b n : Nat} {q : Qs}, I W F b q → QOk q n → n ≤ 100000000 → Calls Try.prog 14 #[ptrV b] W fun e w' => e = .returned (.bool q.ready) ∧ Below W.heap.size W w'
  last : ∀ {W : World} {F : Nat → Prop} {b n : Nat} {q : Qs}, I W F b q → QOk q n → n ≤ 100000000 → Calls Try.prog 16 #[ptrV b] W fun e w' => e = .returned (.bool q.last) ∧ Below W.heap.size W w'
  number : ∀ {W : World} {F : Nat → Prop} {b n : Nat} {q : Qs}, I W F b q → QOk q n → n ≤ 100000000 → Calls Try.prog 18 #[ptrV b] W fun e w' => e = .returned (.int .i64 (q.tk : Nat)) ∧ Below W.heap.size W w'
  waiting : ∀ {W : World} {F : Nat → Prop} {b n : Nat} {q : Qs}, I W F b q → QOk q n → n ≤ 100000000 → Calls Try.prog 19 #[ptrV b] W fun e w' => e = .returned (.int .i64 (q.wait : Nat)) ∧ Below W.heap.size W w'
  held : ∀ {W : World} {F : Nat → Prop} {b n : Nat} {q : Qs}, I W F b q → QOk q n → n ≤ 100000000 → Calls Try.prog 21 #[ptrV b] W fun e w' => e = .returned (.int .i64 (q.held : Nat)) ∧ Below W.heap.size W w'

theorem below_of_tch {F : Nat → Prop} {W0 W W' : World} (hb : Below W0.heap.size W0 W) (h : Tch F W W') (hF : ∀ k, F k → W0.heap.size ≤ k) : Below W0.heap.size W0 W' := hb.trans (h.below hF hb.size)
/-- A queue that is newer than W0, alone. -/
def Fr (I : World → (Nat → Prop) → Nat → Qs → Prop) (W0 W : World) (b : Nat) (q : Qs) : Prop := ∃ F, I W F b q ∧ Below W0.heap.size W0 W ∧ ∀ k, F k → W0.heap.size ≤ k
section
variable {I : World → (Nat → Prop) → Nat → Qs → Prop} (imp : Imp I)
include imp
theorem frStep {W0 W W' : World} {b : Nat} {q : Qs} (h : Fr I W0 W b q) (hb : Below W.heap.size W W') : Fr I W0 W' b q := by
  obtain ⟨F, hI, h0, hF⟩ := h
  exact ⟨F, imp.keep hI hb.size (fun k hk => hb.block k (imp.lt hI k hk)), h0.trans (hb.mono h0.size), hF⟩
theorem frNew {W0 W : World} (h0 : Below W0.heap.size W0 W) : Calls Try.prog 6 #[] W fun e w' => ∃ b, e = .returned (ptrV b) ∧ Fr I W0 w' b q0 := by
  refine (imp.new W).mono ?_
  rintro e w' ⟨b, F, rfl, hb, hI, hF⟩
  exact ⟨b, rfl, F, hI, h0.trans (hb.mono h0.size), fun k hk => Nat.le_trans h0.size (hF k hk)⟩
omit imp in
theorem frMove {W0 W w' : World} {F F' : Nat → Prop} {b : Nat} {q' : Qs} (h0 : Below W0.heap.size W0 W) (hF : ∀ k, F k → W0.heap.size ≤ k) (ht : Tch F W w') (hI : I w' F' b q') (hs : ∀ k, F' k → F k ∨ W.heap.size ≤ k) : Fr I W0 w' b q' :=
  ⟨F', hI, below_of_tch h0 ht hF, fun k hk => (hs k hk).elim (hF k) (Nat.le_trans h0.size)⟩
theorem frFeed {W0 W : World} {b n : Nat} {q q' : Qs} (h : Fr I W0 W b q) (ho : QOk q n) (hn : n ≤ 100000000) (s : ByteArray) (hs : s.size ≤ 140737488355000) {E : Int} (hE : ((feedE q s.data.toList : Nat) : Int) = E) (hq : q.feed s.data.toList = q') : Calls Try.prog 8 #[ptrV b, .string s] W fun e w' => e = .returned (.int .i64 E) ∧ Fr I W0 w' b q' := by
  obtain ⟨F, hI, h0, hF⟩ := h
  refine (imp.feed hI ho hn s hs).mono ?_
  rintro e w' ⟨rfl, ht, F', hI', hs'⟩
  exact ⟨by rw [hE], frMove h0 hF ht (hq ▸ hI') hs'⟩
theorem frClose {W0 W : World} {b n : Nat} {q q' : Qs} (h : Fr I W0 W b q) (ho : QOk q n) (hn : n ≤ 100000000) {E : Int} (hE : ((closeE q : Nat) : Int) = E) (hq : q.close = q') : Calls Try.prog 10 #[ptrV b] W fun e w' => e = .returned (.int .i64 E) ∧ Fr I W0 w' b q' := by
  obtain ⟨F, hI, h0, hF⟩ := h
  refine (imp.close hI ho hn).mono ?_
  rintro e w' ⟨rfl, ht, F', hI', hs'⟩
  exact ⟨by rw [hE], frMove h0 hF ht (hq ▸ hI') hs'⟩
theorem frNext {W0 W : World} {b n : Nat} {q q' : Qs} (h : Fr I W0 W b q) (ho : QOk q n) (hn : n ≤ 100000000) {x : ByteArray} {c : Bool} (hx : (⟨(nextL q).toArray⟩ : ByteArray) = x) (hc : q.can = c) (hq : q.next = q') : Calls Try.prog 12 #[ptrV b] W fun e w' => e = .returned (.tuple #[.string x, .bool c]) ∧ Fr I W0 w' b q' := by
  obtain ⟨F, hI, h0, hF⟩ := h
  refine (imp.next hI ho hn).mono ?_
  rintro e w' ⟨rfl, ht, F', hI', hs'⟩
  exact ⟨by rw [hx, hc], frMove h0 hF ht (hq ▸ hI') hs'⟩
theorem frReady {W0 W : World} {b n : Nat} {q : Qs} (h : Fr I W0 W b q) (ho : QOk q n) (hn : n ≤ 100000000) {c : Bool} (hc : q.ready = c) : Calls Try.prog 14 #[ptrV b] W fun e w' => e = .returned (.bool c) ∧ Fr I W0 w' b q := by
  obtain ⟨F, hI, h0, hF⟩ := h
  refine (imp.ready hI ho hn).mono ?_
  rintro e w' ⟨rfl, hb⟩
  exact ⟨by rw [hc], frStep imp ⟨F, hI, h0, hF⟩ hb⟩
theorem frLast {W0 W : World} {b n : Nat} {q : Qs} (h : Fr I W0 W b q) (ho : QOk q n) (hn : n ≤ 100000000) {c : Bool} (hc : q.last = c) : Calls Try.prog 16 #[ptrV b] W fun e w' => e = .returned (.bool c) ∧ Fr I W0 w' b q := by
  obtain ⟨F, hI, h0, hF⟩ := h
  refine (imp.last hI ho hn).mono ?_
  rintro e w' ⟨rfl, hb⟩
  exact ⟨by rw [hc], frStep imp ⟨F, hI, h0, hF⟩ hb⟩
theorem frHeld {W0 W : World} {b n : Nat} {q : Qs} (h : Fr I W0 W b q) (ho : QOk q n) (hn : n ≤ 100000000) {c : Int} (hc : ((q.held : Nat) : Int) = c) : Calls Try.prog 21 #[ptrV b] W fun e w' => e = .returned (.int .i64 c) ∧ Fr I W0 w' b q := by
  obtain ⟨F, hI, h0, hF⟩ := h
  refine (imp.held hI ho hn).mono ?_
  rintro e w' ⟨rfl, hb⟩
  exact ⟨by rw [hc], frStep imp ⟨F, hI, h0, hF⟩ hb⟩

set_option maxRecDepth 100000 in
set_option maxHeartbeats 2000000 in
theorem awake_any (W : World) : Calls Try.prog 7 #[] W fun e w' => e = .returned (.bool true) ∧ Below W.heap.size W w' := by
  have o0 : QOk q0 2 := ⟨by decide, by decide, by simp [q0]⟩
  have o1 : QOk ⟨[[97]], 0, false⟩ 2 := ⟨by decide, by decide, by simp⟩
  have o2 : QOk ⟨[[97], [98, 99]], 0, false⟩ 2 := ⟨by decide, by decide, by simp⟩
  have o3 : QOk ⟨[[97], [98, 99]], 1, false⟩ 2 := ⟨by decide, by decide, by simp⟩
  have o4 : QOk ⟨[[97], [98, 99]], 1, true⟩ 2 := ⟨by decide, by decide, by simp⟩
  have O0 := hideT o0
  have O1 := hideT o1
  have O2 := hideT o2
  have O3 := hideT o3
  have O4 := hideT o4
  clear o0 o1 o2 o3 o4
  have IM := hideT imp
  clear imp
  go_enter Try.func7, Try.ntmps7
  go_wp2_with fail
  refine (frNew IM.out (Below.refl _ W)).mono ?_
  rintro e w1 ⟨b, rfl, h1⟩
  have H1 := hideT h1
  clear h1
  go_wp2_with fail
  refine (frFeed IM.out H1.out O0.out (by decide) ⟨#[97]⟩ (by decide) (E := 0) (by decide) (q' := ⟨[[97]], 0, false⟩) (by rfl)).mono ?_
  rintro e w2 ⟨rfl, h2⟩
  have H2 := hideT h2
  clear h2 H1
  go_wp2_with fail
  refine (frReady IM.out H2.out O1.out (by decide) (c := false) (by decide)).mono ?_
  rintro e w3 ⟨rfl, h3⟩
  have H3 := hideT h3
  clear h3 H2
  go_wp2_with fail
  refine (frFeed IM.out H3.out O1.out (by decide) ⟨#[98, 99]⟩ (by decide) (E := 0) (by decide) (q' := ⟨[[97], [98, 99]], 0, false⟩) (by rfl)).mono ?_
  rintro e w4 ⟨rfl, h4⟩
  have H4 := hideT h4
  clear h4 H3
  go_wp2_with fail
  refine (frReady IM.out H4.out O2.out (by decide) (c := true) (by decide)).mono ?_
  rintro e w5 ⟨rfl, h5⟩
  have H5 := hideT h5
  clear h5 H4
  go_wp2_with fail
  refine (frNext IM.out H5.out O2.out (by decide) (x := ⟨#[97]⟩) (c := true) (by rfl) (by decide) (q' := ⟨[[97], [98, 99]], 1, false⟩) (by rfl)).mono ?_
  rintro e w6 ⟨rfl, h6⟩
  have H6 := hideT h6
  clear h6 H5
  go_wp2_with fail
  refine (frNext IM.out H6.out O3.out (by decide) (x := ⟨#[]⟩) (c := false) (by rfl) (by decide) (q' := ⟨[[97], [98, 99]], 1, false⟩) (by rfl)).mono ?_
  rintro e w7 ⟨rfl, h7⟩
  have H7 := hideT h7
  clear h7 H6
  go_wp2_with fail
  refine (frHeld IM.out H7.out O3.out (by decide) (c := 2) (by decide)).mono ?_
  rintro e w8 ⟨rfl, h8⟩
  have H8 := hideT h8
  clear h8 H7
  go_wp2_with fail
  refine (frClose IM.out H8.out O3.out (by decide) (E := 0) (by decide) (q' := ⟨[[97], [98, 99]], 1, true⟩) (by rfl)).mono ?_
  rintro e w9 ⟨rfl, h9⟩
  have H9 := hideT h9
  clear h9 H8
  go_wp2_with fail
  refine (frReady IM.out H9.out O4.out (by decide) (c := true) (by decide)).mono ?_
  rintro e w10 ⟨rfl, h10⟩
  have H10 := hideT h10
  clear h10 H9
  go_wp2_with fail
  refine (frLast IM.out H10.out O4.out (by decide) (c := false) (by decide)).mono ?_
  rintro e w11 ⟨rfl, h11⟩
  have H11 := hideT h11
  clear h11 H10
  go_wp2_with fail
  refine (frFeed IM.out H11.out O4.out (by decide) ⟨#[100]⟩ (by decide) (E := 25) (by decide) (q' := ⟨[[97], [98, 99]], 1, true⟩) (by rfl)).mono ?_
  rintro e w12 ⟨rfl, h12⟩
  have H12 := hideT h12
  clear h12 H11
  go_wp2
  go_ret
  obtain ⟨_, _, hb, _⟩ := H12.out
  exact ⟨rfl, hb⟩
end
end Go.Proofs.Ytpdmfopkcdphaaa
