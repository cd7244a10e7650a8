/- input: the document's Next. -/
import Derived.Test.YtpdmfopkcdphaaaQc
namespace Go.Proofs.Ytpdmfopkcdphaaa
open Go.RowKit

set_option maxRecDepth 100000 in
set_option maxHeartbeats 2000000 in
theorem docNext_any {W : World} {B b n : Nat} {v : Value} {q : Qs} (h : QAt W B b v q) (ho : QOk q n) (hn : n ≤ 100000000) : Calls Try.prog 13 #[.pointer (some ⟨b, 0, none⟩)] W fun e w' => e = .returned (.tuple #[.string ⟨(nextL q).toArray⟩, .bool q.can]) ∧ Tch (foot b v) W w' ∧ QAt w' B b v q.next := by
  have HR := hideT (docReady_any h ho hn)
  have HH := hideT h
  have HO := hideT ho
  clear h
  obtain ⟨C, hC⟩ : ∃ C, C = q.can := ⟨_, rfl⟩
  obtain ⟨R, hR⟩ : ∃ R, R = q.ready := ⟨_, rfl⟩
  rw [← hR] at HR
  rw [← hC]
  have HC := hideT (show C = (R && decide (q.wait ≠ 0)) by rw [hC, hR]; rfl)
  have HCC := hideT hC
  clear hC hR ho
  go_enter Try.func13, Try.ntmps13
  go_wp2_with fail
  refine HR.out.mono ?_
  rintro e w1 ⟨rfl, hb1⟩
  have HB1 := hideT (Tch.of (F := foot b v) hb1)
  have HQ1 := hideT (HH.out.step hb1)
  clear hb1 HR HH
  cases R with
  | false =>
    have HF := hideT (show C = false by rw [HC.out]; rfl)
    go_wp2
    go_ret2
    refine ⟨?_, HB1.out, ?_⟩
    · rw [HF.out]
      unfold nextL
      rw [← HCC.out, HF.out]
      rfl
    · unfold Qs.next
      rw [← HCC.out, HF.out]
      exact HQ1.out
  | true =>
    have HW := hideT (docWaiting_any HQ1.out HO.out hn)
    go_wp2_with fail
    refine HW.out.mono ?_
    rintro e w2 ⟨rfl, hb2⟩
    have HB2 := hideT (HB1.out.trans (Tch.of (F := foot b v) hb2) (fun _ hj => .inl hj))
    have HQ2 := hideT (HQ1.out.step hb2)
    clear hb2 HW HQ1 HB1
    by_cases h0 : q.wait = 0
    · have k1 : ((q.wait : Int) == 0) = true := by rw [h0]; rfl
      have HF := hideT (show C = false by rw [HC.out, h0]; rfl)
      clear h0
      go_wp2
      go_ret2
      refine ⟨?_, HB2.out, ?_⟩
      · rw [HF.out]
        unfold nextL
        rw [← HCC.out, HF.out]
        rfl
      · unfold Qs.next
        rw [← HCC.out, HF.out]
        exact HQ2.out
    · have k1 : ((q.wait : Int) == 0) = false := by rw [beq_eq_false_iff_ne]; omega
      have HT := hideT (show C = true by rw [HC.out, decide_eq_true h0]; rfl)
      have hlt : q.tk < q.fed.length := can_lt (HCC.out.symm.trans HT.out)
      have hle := Nat.le_trans HO.out.len hn
      obtain ⟨c1, f1⟩ := HQ2.out.c1
      obtain ⟨W3, hW3⟩ : ∃ W3, W3 = w2.setCell ⟨b, 1, none⟩ (.int .i64 ((q.tk : Int) + 1)) := ⟨_, rfl⟩
      have HQ3 := hideT (show QAt W3 B b v ⟨q.fed, q.tk + 1, q.cl⟩ by rw [hW3, ← Int.natCast_add_one]; exact HQ2.out.set1 (q.tk + 1))
      have HB3 := hideT (show Tch (foot b v) W W3 by rw [hW3]; exact HB2.out.put (.inl rfl) 1 _)
      obtain ⟨d0, _⟩ := HQ3.out.c0
      obtain ⟨d1, _⟩ := HQ3.out.c1
      obtain ⟨a, cp, rfl, hsh⟩ := HQ3.out.shape
      obtain ⟨g, rfl, d2⟩ := hsh q.tk _ (List.getElem?_eq_getElem hlt)
      have HL := hideT (show nextL q = q.fed[q.tk]'hlt by unfold nextL; rw [← HCC.out, HT.out, if_pos rfl, List.getD_eq_getElem?_getD, List.getElem?_eq_getElem hlt]; rfl)
      have j1 : IntKind.i64.wrap ((q.tk : Int) + 1) = (q.tk : Int) + 1 := by rw [IntKind.wrap_i64]; omega
      have j6 : IntKind.i64.wrap (q.tk : Int) = (q.tk : Int) := by rw [IntKind.wrap_i64]; omega
      have j3 : (0 : Int) ≤ (q.tk : Int) := by omega
      have j4 : (q.tk : Int) < (q.fed.length : Int) := by omega
      dsimp only at d0 d1 d2
      rw [Int.natCast_add_one] at d1
      generalize (q.fed[q.tk]'hlt) = t at *
      clear h0 hsh hle
      go_wp2_with fail
      rw [← hW3]
      clear hW3
      go_quiet (fail)
      go_wp2
      go_ret2
      refine ⟨?_, HB3.out.trans (Tch.of (below_drewN _ _ _)) (fun _ hj => .inl hj), ?_⟩
      · rw [HT.out, HL.out]
        rfl
      · unfold Qs.next
        rw [← HCC.out, HT.out]
        exact HQ3.out.step (below_drewN _ _ _)
end Go.Proofs.Ytpdmfopkcdphaaa
