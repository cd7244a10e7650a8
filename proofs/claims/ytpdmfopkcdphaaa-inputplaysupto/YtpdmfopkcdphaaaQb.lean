/- input: the document's queue: Close, Waiting, Ready, Last, Held. -/
import Derived.Test.YtpdmfopkcdphaaaQa
namespace Go.Proofs.Ytpdmfopkcdphaaa
open Go.RowKit

set_option maxRecDepth 100000 in
set_option maxHeartbeats 1000000 in
theorem docClose_any {W : World} {B b : Nat} {v : Value} {q : Qs} (h : QAt W B b v q) : Calls Try.prog 11 #[.pointer (some ⟨b, 0, none⟩)] W fun e w' => e = .returned (.int .i64 (closeE q : Nat)) ∧ Tch (foot b v) W w' ∧ QAt w' B b v q.close := by
  obtain ⟨c2, f2⟩ := h.c2
  have HH := hideT h
  have HS := hideT (h.set2 true)
  have HB := hideT ((Tch.refl (foot b v) W).put (.inl rfl) 2 (.bool true))
  clear h
  obtain ⟨cl, hcl⟩ : ∃ cl, cl = q.cl := ⟨_, rfl⟩
  rw [← hcl] at c2
  cases cl with
  | true =>
    have HE := hideT (show closeE q = 25 by unfold closeE; rw [← hcl]; rfl)
    have HQ := hideT (show q.close = q by unfold Qs.close; rw [hcl])
    clear hcl
    go_enter Try.func11, Try.ntmps11
    go_wp2
    go_ret
    exact ⟨by rw [HE.out]; rfl, Tch.refl _ _, by rw [HQ.out]; exact HH.out⟩
  | false =>
    have HE := hideT (show closeE q = 0 by unfold closeE; rw [← hcl]; rfl)
    clear hcl
    go_enter Try.func11, Try.ntmps11
    go_wp2
    go_ret
    exact ⟨by rw [HE.out]; rfl, HB.out, HS.out⟩

set_option maxRecDepth 100000 in
set_option maxHeartbeats 1000000 in
theorem docWaiting_any {W : World} {B b n : Nat} {v : Value} {q : Qs} (h : QAt W B b v q) (ho : QOk q n) (hn : n ≤ 100000000) : Calls Try.prog 20 #[.pointer (some ⟨b, 0, none⟩)] W fun e w' => e = .returned (.int .i64 (q.wait : Nat)) ∧ Below W.heap.size W w' := by
  obtain ⟨c0, f0⟩ := h.c0
  obtain ⟨c1, f1⟩ := h.c1
  obtain ⟨a, cp, rfl, _⟩ := h.shape
  have htk := ho.tk
  have hle := ho.len
  have HE := hideT (show IntKind.i64.wrap ((q.fed.length : Int) - (q.tk : Int)) = ((q.wait : Nat) : Int) by unfold Qs.wait; rw [IntKind.wrap_i64]; omega)
  clear h ho
  have he := HE.out
  go_enter Try.func20, Try.ntmps20
  go_wp2_with fail
  go_quiet (fail)
  go_wp2
  go_ret
  exact ⟨rfl, below_drewN _ _ _⟩

set_option maxRecDepth 100000 in
set_option maxHeartbeats 1000000 in
theorem docReady_any {W : World} {B b n : Nat} {v : Value} {q : Qs} (h : QAt W B b v q) (ho : QOk q n) (hn : n ≤ 100000000) : Calls Try.prog 15 #[.pointer (some ⟨b, 0, none⟩)] W fun e w' => e = .returned (.bool q.ready) ∧ Below W.heap.size W w' := by
  obtain ⟨c2, f2⟩ := h.c2
  have HW := hideT (docWaiting_any h ho hn)
  clear h ho
  obtain ⟨cl, hcl⟩ : ∃ cl, cl = q.cl := ⟨_, rfl⟩
  rw [← hcl] at c2
  have HR := hideT (show q.ready = (cl || decide (2 ≤ q.wait)) by rw [hcl]; rfl)
  clear hcl
  cases cl with
  | true =>
    go_enter Try.func15, Try.ntmps15
    go_wp2
    go_ret
    exact ⟨by rw [HR.out]; rfl, Below.refl _ _⟩
  | false =>
    go_enter Try.func15, Try.ntmps15
    go_wp2_with fail
    refine HW.out.mono ?_
    rintro e w1 ⟨rfl, hb⟩
    have HB := hideT hb
    clear hb HW
    by_cases h2 : 2 ≤ q.wait
    · have k1 : (2 : Int) ≤ (q.wait : Int) := by omega
      have HR2 := hideT (show q.ready = true by rw [HR.out, decide_eq_true h2]; rfl)
      clear h2
      go_wp2
      go_ret
      exact ⟨by rw [HR2.out]; rfl, HB.out⟩
    · have k1 : ((2 : Int) ≤ (q.wait : Int)) = False := by rw [eq_iff_iff, iff_false]; omega
      have k2 : (2 ≤ q.wait) = False := by rw [eq_iff_iff, iff_false]; exact h2
      have HR2 := hideT (show q.ready = false by rw [HR.out, decide_eq_false h2]; rfl)
      clear h2
      go_wp2
      go_ret
      exact ⟨by rw [HR2.out]; rfl, HB.out⟩

set_option maxRecDepth 100000 in
set_option maxHeartbeats 1000000 in
theorem docLast_any {W : World} {B b n : Nat} {v : Value} {q : Qs} (h : QAt W B b v q) (ho : QOk q n) (hn : n ≤ 100000000) : Calls Try.prog 17 #[.pointer (some ⟨b, 0, none⟩)] W fun e w' => e = .returned (.bool q.last) ∧ Below W.heap.size W w' := by
  obtain ⟨c2, f2⟩ := h.c2
  have HW := hideT (docWaiting_any h ho hn)
  clear h ho
  obtain ⟨cl, hcl⟩ : ∃ cl, cl = q.cl := ⟨_, rfl⟩
  rw [← hcl] at c2
  have HR := hideT (show q.last = (cl && decide (q.wait = 0)) by rw [hcl]; rfl)
  clear hcl
  cases cl with
  | false =>
    go_enter Try.func17, Try.ntmps17
    go_wp2
    go_ret
    exact ⟨by rw [HR.out]; rfl, Below.refl _ _⟩
  | true =>
    go_enter Try.func17, Try.ntmps17
    go_wp2_with fail
    refine HW.out.mono ?_
    rintro e w1 ⟨rfl, hb⟩
    have HB := hideT hb
    clear hb HW
    by_cases h2 : q.wait = 0
    · have k1 : ((q.wait : Int) == 0) = true := by rw [h2]; rfl
      have HR2 := hideT (show q.last = true by rw [HR.out, decide_eq_true h2]; rfl)
      clear h2
      go_wp2
      go_ret
      exact ⟨by rw [HR2.out]; first | rfl | simp_all, HB.out⟩
    · have k1 : ((q.wait : Int) == 0) = false := by rw [beq_eq_false_iff_ne]; omega
      have k2 : (q.wait = 0) = False := by rw [eq_iff_iff, iff_false]; exact h2
      have HR2 := hideT (show q.last = false by rw [HR.out, decide_eq_false h2]; rfl)
      clear h2
      go_wp2
      go_ret
      exact ⟨by rw [HR2.out]; first | rfl | simp_all, HB.out⟩

set_option maxRecDepth 100000 in
set_option maxHeartbeats 1000000 in
theorem docHeld_any {W : World} {B b n : Nat} {v : Value} {q : Qs} (h : QAt W B b v q) (ho : QOk q n) (hn : n ≤ 100000000) : Calls Try.prog 22 #[.pointer (some ⟨b, 0, none⟩)] W fun e w' => e = .returned (.int .i64 (q.held : Nat)) ∧ w' = W := by
  obtain ⟨c0, f0⟩ := h.c0
  obtain ⟨c1, f1⟩ := h.c1
  obtain ⟨a, cp, rfl, hsh⟩ := h.shape
  have HSH := hideT hsh
  have HOK := hideT ho
  have htk := ho.tk
  have hle := ho.len
  obtain ⟨R, hR⟩ : ∃ R, R = q.held := ⟨_, rfl⟩
  rw [← hR]
  have HR := hideT hR
  clear h ho hsh hR f0 f1
  go_enter Try.func22, Try.ntmps22
  go_wp2_with fail
  go_loopw [3, 4] (fun nv iv w' => ∃ k s : Nat, q.tk ≤ k ∧ k ≤ q.fed.length ∧ iv = .int .i64 (k : Nat) ∧ nv = .int .i64 (s : Nat) ∧ Hid (s + sumL (q.fed.drop k) = R ∧ s ≤ k * 1024) ∧ w' = W) (fun _ iv _ => q.fed.length - (intOf iv).toNat)
  case atStart => exact ⟨q.tk, 0, Nat.le_refl _, htk, rfl, rfl, hideT ⟨by rw [HR.out, Nat.zero_add]; rfl, Nat.zero_le _⟩, rfl⟩
  case round =>
    obtain ⟨k, s, hk1, hk2, rfl, rfl, HI, rfl⟩ := hrel
    by_cases hlt : k < q.fed.length
    · have i1 : (k : Int) < (q.fed.length : Int) := by omega
      have i2 : (0 : Int) ≤ (k : Int) := by omega
      obtain ⟨g, rfl, hc⟩ := HSH.out k _ (List.getElem?_eq_getElem hlt)
      have hd : sumL (q.fed.drop k) = (q.fed[k]'hlt).length + sumL (q.fed.drop (k + 1)) := by
        rw [List.drop_eq_getElem_cons hlt]
        simp only [sumL, List.map_cons, List.sum_cons]
      have hl := HOK.out.line _ (List.getElem_mem hlt)
      generalize (q.fed[k]'hlt) = t at *
      have hs := HI.out.2
      have w1 : IntKind.i64.wrap ((s : Int) + (t.length : Int)) = (s : Int) + (t.length : Int) := by rw [IntKind.wrap_i64]; omega
      have HN := hideT (show (s + t.length) + sumL (q.fed.drop (k + 1)) = R ∧ s + t.length ≤ (k + 1) * 1024 from ⟨by rw [← HI.out.1, hd]; omega, by omega⟩)
      clear hd hl hs
      go_wp2
      exact ⟨⟨k + 1, s + t.length, by omega, by omega, by go_num, by go_num, HN, by first | rfl | trivial⟩, by simp [intOf]; omega⟩
    · obtain rfl : k = q.fed.length := by omega
      have i1 : ((q.fed.length : Int) < (q.fed.length : Int)) = False := by rw [eq_iff_iff, iff_false]; omega
      have HF := hideT (show R = s by
        have := HI.out.1
        rw [List.drop_of_length_le (Nat.le_refl _)] at this
        simp [sumL] at this
        omega)
      go_wp2
      go_ret
      exact ⟨by rw [HF.out]; rfl, rfl⟩
end Go.Proofs.Ytpdmfopkcdphaaa
