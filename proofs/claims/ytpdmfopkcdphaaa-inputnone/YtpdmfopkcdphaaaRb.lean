/- input: the program's queue: New, Close, Ready, Last, Number, Waiting, Held, of a queue and of none. -/
import Derived.Test.YtpdmfopkcdphaaaRa
namespace Go.Proofs.Ytpdmfopkcdphaaa
open Go.RowKit

set_option maxRecDepth 100000 in
set_option maxHeartbeats 1000000 in
theorem new_any (W : World) : Calls Try.prog 6 #[] W fun e w' => ∃ b F, e = .returned (ptrV b) ∧ Below W.heap.size W w' ∧ I0 w' F b q0 ∧ ∀ k, F k → W.heap.size ≤ k := by
  go_enter Try.func6, Try.ntmps6
  go_wp2
  go_ret
  refine ⟨W.heap.size, _, rfl, (Below.refl _ _).alloc (Nat.le_refl _) _, ⟨.slice none 0 0, ⟨heap_alloc_new W _, .inl ⟨rfl, rfl⟩⟩, rfl⟩, ?_⟩
  rintro k (rfl | hk)
  · exact Nat.le_refl _
  · cases hk

set_option maxRecDepth 100000 in
set_option maxHeartbeats 1000000 in
theorem close_any {W : World} {F : Nat → Prop} {b n : Nat} {q : Qs} (h : I0 W F b q) (_ : QOk q n) (_ : n ≤ 100000000) : Calls Try.prog 10 #[ptrV b] W fun e w' => e = .returned (.int .i64 (closeE q : Nat)) ∧ Tch F W w' ∧ ∃ F', I0 w' F' b q.close ∧ ∀ k, F' k → F k ∨ W.heap.size ≤ k := by
  obtain ⟨v, h, rfl⟩ := h
  obtain ⟨c3, f3⟩ := h.c3
  have HH := hideT h
  have HP := hideT (fun g hg => put_far W b 3 (.bool true) (h.ne (g := g) hg))
  have HB := hideT ((Tch.refl (foot b v) W).put (.inl rfl) 3 (.bool true))
  clear h
  obtain ⟨cl, hcl⟩ : ∃ cl, cl = q.cl := ⟨_, rfl⟩
  rw [← hcl] at c3
  cases cl with
  | true =>
    have HE := hideT (show closeE q = 25 by unfold closeE; rw [← hcl]; rfl)
    have HQ := hideT (show q.close = q by unfold Qs.close; rw [hcl])
    clear hcl
    go_enter Try.func10, Try.ntmps10
    go_wp2
    go_ret
    exact ⟨by rw [HE.out]; rfl, Tch.refl _ _, _, ⟨v, by rw [HQ.out]; exact HH.out, rfl⟩, fun _ hk => .inl hk⟩
  | false =>
    have HE := hideT (show closeE q = 0 by unfold closeE; rw [← hcl]; rfl)
    clear hcl
    go_enter Try.func10, Try.ntmps10
    go_wp2
    go_ret
    exact ⟨by rw [HE.out]; rfl, HB.out, _, ⟨v, ⟨put_same _ _ 3 _ HH.out.blk, HH.out.win.keep HP.out⟩, rfl⟩, fun _ hk => .inl hk⟩

set_option maxRecDepth 100000 in
set_option maxHeartbeats 1000000 in
theorem ready_any {W : World} {F : Nat → Prop} {b n : Nat} {q : Qs} (h : I0 W F b q) (ho : QOk q n) (hn : n ≤ 100000000) : Calls Try.prog 14 #[ptrV b] W fun e w' => e = .returned (.bool q.ready) ∧ Below W.heap.size W w' := by
  obtain ⟨v, h, rfl⟩ := h
  obtain ⟨c0, _⟩ := h.c0
  obtain ⟨c3, _⟩ := h.c3
  obtain ⟨a, cp, rfl⟩ := h.shape
  have hw : q.wait ≤ 100000000 := by
    have := ho.len
    unfold Qs.wait
    omega
  clear h ho
  obtain ⟨cl, hcl⟩ : ∃ cl, cl = q.cl := ⟨_, rfl⟩
  rw [← hcl] at c3
  have HR := hideT (show q.ready = (cl || decide (2 ≤ q.wait)) by rw [hcl]; rfl)
  clear hcl
  cases cl with
  | true =>
    go_enter Try.func14, Try.ntmps14
    go_wp2
    go_ret
    exact ⟨by rw [HR.out]; rfl, Below.refl _ _⟩
  | false =>
    by_cases h2 : 2 ≤ q.wait
    · have k1 : (2 : Int) ≤ (q.wait : Int) := by omega
      have HR2 := hideT (show q.ready = true by rw [HR.out, decide_eq_true h2]; rfl)
      clear h2
      go_enter Try.func14, Try.ntmps14
      go_wp2
      go_ret
      exact ⟨by rw [HR2.out]; rfl, Below.refl _ _⟩
    · have k1 : ((2 : Int) ≤ (q.wait : Int)) = False := by rw [eq_iff_iff, iff_false]; omega
      have k2 : (2 ≤ q.wait) = False := by rw [eq_iff_iff, iff_false]; exact h2
      have HR2 := hideT (show q.ready = false by rw [HR.out, decide_eq_false h2]; rfl)
      clear h2
      go_enter Try.func14, Try.ntmps14
      go_wp2
      go_ret
      exact ⟨by rw [HR2.out]; rfl, Below.refl _ _⟩

set_option maxRecDepth 100000 in
set_option maxHeartbeats 1000000 in
theorem last_any {W : World} {F : Nat → Prop} {b n : Nat} {q : Qs} (h : I0 W F b q) (_ : QOk q n) (_ : n ≤ 100000000) : Calls Try.prog 16 #[ptrV b] W fun e w' => e = .returned (.bool q.last) ∧ Below W.heap.size W w' := by
  obtain ⟨v, h, rfl⟩ := h
  obtain ⟨c0, _⟩ := h.c0
  obtain ⟨c3, _⟩ := h.c3
  obtain ⟨a, cp, rfl⟩ := h.shape
  clear h
  obtain ⟨cl, hcl⟩ : ∃ cl, cl = q.cl := ⟨_, rfl⟩
  rw [← hcl] at c3
  have HR := hideT (show q.last = (cl && decide (q.wait = 0)) by rw [hcl]; rfl)
  clear hcl
  cases cl with
  | false =>
    go_enter Try.func16, Try.ntmps16
    go_wp2
    go_ret
    exact ⟨by rw [HR.out]; rfl, Below.refl _ _⟩
  | true =>
    by_cases h2 : q.wait = 0
    · have k1 : ((q.wait : Int) == 0) = true := by rw [h2]; rfl
      have HR2 := hideT (show q.last = true by rw [HR.out, decide_eq_true h2]; rfl)
      clear h2
      go_enter Try.func16, Try.ntmps16
      go_wp2
      go_ret
      exact ⟨by rw [HR2.out]; first | rfl | simp_all, Below.refl _ _⟩
    · have k1 : ((q.wait : Int) == 0) = false := by rw [beq_eq_false_iff_ne]; omega
      have k2 : (q.wait = 0) = False := by rw [eq_iff_iff, iff_false]; exact h2
      have HR2 := hideT (show q.last = false by rw [HR.out, decide_eq_false h2]; rfl)
      clear h2
      go_enter Try.func16, Try.ntmps16
      go_wp2
      go_ret
      exact ⟨by rw [HR2.out]; first | rfl | simp_all, Below.refl _ _⟩

set_option maxRecDepth 100000 in
set_option maxHeartbeats 1000000 in
theorem number_any {W : World} {F : Nat → Prop} {b n : Nat} {q : Qs} (h : I0 W F b q) (_ : QOk q n) (_ : n ≤ 100000000) : Calls Try.prog 18 #[ptrV b] W fun e w' => e = .returned (.int .i64 (q.tk : Nat)) ∧ Below W.heap.size W w' := by
  obtain ⟨v, h, rfl⟩ := h
  obtain ⟨c0, _⟩ := h.c2
  clear h
  go_enter Try.func18, Try.ntmps18
  go_wp2
  go_ret
  exact ⟨rfl, Below.refl _ _⟩
set_option maxRecDepth 100000 in
set_option maxHeartbeats 1000000 in
theorem waiting_any {W : World} {F : Nat → Prop} {b n : Nat} {q : Qs} (h : I0 W F b q) (_ : QOk q n) (_ : n ≤ 100000000) : Calls Try.prog 19 #[ptrV b] W fun e w' => e = .returned (.int .i64 (q.wait : Nat)) ∧ Below W.heap.size W w' := by
  obtain ⟨v, h, rfl⟩ := h
  obtain ⟨c0, _⟩ := h.c0
  obtain ⟨a, cp, rfl⟩ := h.shape
  clear h
  go_enter Try.func19, Try.ntmps19
  go_wp2
  go_ret
  exact ⟨rfl, Below.refl _ _⟩
set_option maxRecDepth 100000 in
set_option maxHeartbeats 1000000 in
theorem held_any {W : World} {F : Nat → Prop} {b n : Nat} {q : Qs} (h : I0 W F b q) (_ : QOk q n) (_ : n ≤ 100000000) : Calls Try.prog 21 #[ptrV b] W fun e w' => e = .returned (.int .i64 (q.held : Nat)) ∧ Below W.heap.size W w' := by
  obtain ⟨v, h, rfl⟩ := h
  obtain ⟨c0, _⟩ := h.c1
  clear h
  go_enter Try.func21, Try.ntmps21
  go_wp2
  go_ret
  exact ⟨rfl, Below.refl _ _⟩

set_option maxRecDepth 100000 in
set_option maxHeartbeats 1000000 in
theorem impNil : ImpNil where
  feed := fun W s _ => by
    go_enter Try.func8, Try.ntmps8
    go_wp2
    go_ret
    exact ⟨rfl, Below.refl _ _⟩
  close := fun W => by
    go_enter Try.func10, Try.ntmps10
    go_wp2
    go_ret
    exact ⟨rfl, Below.refl _ _⟩
  next := fun W => by
    have HR : ∀ w, Calls Try.prog 14 #[.pointer none] w fun e w' => e = .returned (.bool false) ∧ w' = w := fun w => by
      go_enter Try.func14, Try.ntmps14
      go_wp2
      go_ret
      exact ⟨rfl, rfl⟩
    have H := hideT HR
    clear HR
    go_enter Try.func12, Try.ntmps12
    go_wp2_with fail
    refine (H.out _).mono ?_
    rintro e w1 ⟨rfl, rfl⟩
    go_wp2
    go_ret2
    exact ⟨rfl, Below.refl _ _⟩
  ready := fun W => by
    go_enter Try.func14, Try.ntmps14
    go_wp2
    go_ret
    exact ⟨rfl, Below.refl _ _⟩
  last := fun W => by
    go_enter Try.func16, Try.ntmps16
    go_wp2
    go_ret
    exact ⟨rfl, Below.refl _ _⟩
  number := fun W => by
    go_enter Try.func18, Try.ntmps18
    go_wp2
    go_ret
    exact ⟨rfl, Below.refl _ _⟩
  waiting := fun W => by
    go_enter Try.func19, Try.ntmps19
    go_wp2
    go_ret
    exact ⟨rfl, Below.refl _ _⟩
  held := fun W => by
    go_enter Try.func21, Try.ntmps21
    go_wp2
    go_ret
    exact ⟨rfl, Below.refl _ _⟩
end Go.Proofs.Ytpdmfopkcdphaaa
