/- input: the program's Next. -/
import Derived.Test.YtpdmfopkcdphaaaRb
namespace Go.Proofs.Ytpdmfopkcdphaaa
open Go.RowKit

set_option maxRecDepth 100000 in
set_option maxHeartbeats 2000000 in
/-- A line was taken. -/
theorem IA.took {w1 : World} {b g o cap : Nat} {q : Qs} {cur : Array Value} (hq : IA w1 (.slice (some ⟨g, o, none⟩) q.wait cap) b q) (hg : w1.heap[g]? = some (.cells cur 9 (0, 0))) (hls : ∀ (j : Nat) (t : List UInt8), (q.fed.drop q.tk)[j]? = some t → cur[o + j]? = some (.string ⟨t.toArray⟩)) (o' cap' : Nat) (h1 : o' + cap' ≤ cur.size) (h2 : q.wait - 1 ≤ cap') (h3 : q.wait = 1 ∨ o' = o + 1) (x y : Int) (hx : x = (sumL (q.fed.drop (q.tk + 1)) : Nat)) (hy : y = (q.tk + 1 : Nat)) :
    IA ((((w1.setCell ⟨g, o, none⟩ (.string ⟨#[]⟩)).setCell ⟨b, 0, none⟩ (.slice (some ⟨g, o', none⟩) (q.wait - 1) cap')).setCell ⟨b, 1, none⟩ (.int .i64 x)).setCell ⟨b, 2, none⟩ (.int .i64 y)) (.slice (some ⟨g, o', none⟩) (q.wait - 1) cap') b ⟨q.fed, q.tk + 1, q.cl⟩ := by
  subst hx hy
  have hgb : g ≠ b := hq.ne rfl
  have b0 := (put_far w1 g o (.string ⟨#[]⟩) (j := b) (fun e => hgb e.symm)).trans hq.blk
  have b1 := put_same _ b 0 (.slice (some ⟨g, o', none⟩) (q.wait - 1) cap') b0
  have b2 := put_same _ b 1 (.int .i64 ((sumL (q.fed.drop (q.tk + 1)) : Nat) : Int)) b1
  have b3 := put_same _ b 2 (.int .i64 ((q.tk + 1 : Nat) : Int)) b2
  have g0 := put_same w1 g o (.string ⟨#[]⟩) hg
  have g1 := (put_far (w1.setCell ⟨g, o, none⟩ (.string ⟨#[]⟩)) b 0 (.slice (some ⟨g, o', none⟩) (q.wait - 1) cap') hgb).trans g0
  have g2 := (put_far _ b 1 (.int .i64 ((sumL (q.fed.drop (q.tk + 1)) : Nat) : Int)) hgb).trans g1
  have g3 := (put_far _ b 2 (.int .i64 ((q.tk + 1 : Nat) : Int)) hgb).trans g2
  have hw : (q.fed.drop (q.tk + 1)).length = q.wait - 1 := by unfold Qs.wait; rw [List.length_drop]; omega
  refine ⟨b3, .inr ⟨g, o', cap', cur.setIfInBounds o (.string ⟨#[]⟩), by show _ = Value.slice _ (q.fed.drop (q.tk + 1)).length _; rw [hw], ?_, by show (q.fed.drop (q.tk + 1)).length ≤ _; rw [hw]; exact h2, by rw [Array.size_setIfInBounds]; exact h1, fun j t ht => ?_⟩⟩
  · exact g3
  · have ht' : (q.fed.drop (q.tk + 1))[j]? = some t := ht
    have hj := (List.getElem?_eq_some_iff.1 ht').1
    rw [hw] at hj
    obtain rfl : o' = o + 1 := h3.resolve_left (by omega)
    rw [Array.getElem?_setIfInBounds, if_neg (by omega)]
    have h5 := hls (j + 1) t (by rw [List.getElem?_drop, show q.tk + (j + 1) = q.tk + 1 + j by omega, ← List.getElem?_drop]; exact ht')
    rw [show o + 1 + j = o + (j + 1) by omega]
    exact h5

set_option maxRecDepth 100000 in
set_option maxHeartbeats 2000000 in
theorem next_any {W : World} {F : Nat → Prop} {b n : Nat} {q : Qs} (h : I0 W F b q) (ho : QOk q n) (hn : n ≤ 100000000) : Calls Try.prog 12 #[ptrV b] W fun e w' => e = .returned (.tuple #[.string ⟨(nextL q).toArray⟩, .bool q.can]) ∧ Tch F W w' ∧ ∃ F', I0 w' F' b q.next ∧ ∀ k, F' k → F k ∨ W.heap.size ≤ k := by
  have HR := hideT (ready_any h ho hn)
  obtain ⟨v, h, rfl⟩ := h
  have HH := hideT h
  have HO := hideT ho
  clear h
  obtain ⟨C, hC⟩ : ∃ C, C = q.can := ⟨_, rfl⟩
  obtain ⟨R, hR⟩ : ∃ R, R = q.ready := ⟨_, rfl⟩
  rw [← hR] at HR
  rw [← hC]
  have HC := hideT (show C = (R && decide (q.wait ≠ 0)) by rw [hC, hR]; rfl)
  have HCC := hideT hC
  clear hC hR ho
  have HN := hideT (fun (hc : C = false) (w' : World) (hb : Tch (foot b v) W w') (hq : IA w' v b q) => show Ending.returned (.tuple #[.string ⟨#[]⟩, .bool false]) = .returned (.tuple #[.string ⟨(nextL q).toArray⟩, .bool C]) ∧ Tch (foot b v) W w' ∧ ∃ F', I0 w' F' b q.next ∧ ∀ k, F' k → foot b v k ∨ W.heap.size ≤ k from by
    refine ⟨?_, hb, foot b v, ⟨v, ?_, rfl⟩, fun _ hk => .inl hk⟩
    · rw [hc]
      unfold nextL
      rw [← HCC.out, hc]
      rfl
    · unfold Qs.next
      rw [← HCC.out, hc]
      exact hq)
  go_enter Try.func12, Try.ntmps12
  go_wp2_with fail
  refine HR.out.mono ?_
  rintro e w1 ⟨rfl, hb1⟩
  have HB1 := hideT (Tch.of (F := foot b v) hb1)
  have HQ1 := hideT (HH.out.step hb1)
  clear hb1 HR HH
  cases R with
  | false =>
    go_wp2
    go_ret2
    exact HN.out (by rw [HC.out]; rfl) _ HB1.out HQ1.out
  | true =>
    obtain ⟨c0, f0⟩ := HQ1.out.c0
    by_cases h0 : q.wait = 0
    · have k1 : ((q.wait : Int) == 0) = true := by rw [h0]; rfl
      have HF := hideT (show C = false by rw [HC.out, h0]; rfl)
      obtain ⟨a, cp, rfl⟩ := HQ1.out.shape
      clear h0
      go_wp2
      go_ret2
      exact HN.out HF.out _ HB1.out HQ1.out
    · have k1 : ((q.wait : Int) == 0) = false := by rw [beq_eq_false_iff_ne]; omega
      have HT := hideT (show C = true by rw [HC.out, decide_eq_true h0]; rfl)
      have hlt : q.tk < q.fed.length := can_lt (HCC.out.symm.trans HT.out)
      have hle := Nat.le_trans HO.out.len hn
      obtain ⟨g, o, cap, cur, rfl, hg, hcap, hcur, hls⟩ : ∃ g o cap cur, v = .slice (some ⟨g, o, none⟩) q.wait cap ∧ w1.heap[g]? = some (.cells cur 9 (0, 0)) ∧ q.wait ≤ cap ∧ o + cap ≤ cur.size ∧ ∀ (j : Nat) (t : List UInt8), (q.fed.drop q.tk)[j]? = some t → cur[o + j]? = some (.string ⟨t.toArray⟩) := by
        rcases HQ1.out.win with ⟨rfl, e⟩ | ⟨g, o, cap, cur, rfl, hg, hcap, hcur, hls⟩
        · have := congrArg List.length e
          rw [List.length_drop, List.length_nil] at this
          omega
        · exact ⟨g, o, cap, cur, by unfold Qs.wait; rw [List.length_drop], hg, by unfold Qs.wait; rw [← List.length_drop]; exact hcap, hcur, hls⟩
      have hgb : g ≠ b := HQ1.out.ne rfl
      have hbg : b ≠ g := fun e => hgb e.symm
      obtain ⟨c1, f1⟩ := HQ1.out.c1
      obtain ⟨c2, f2⟩ := HQ1.out.c2
      have d0 : q.fed.drop q.tk = q.fed[q.tk]'hlt :: q.fed.drop (q.tk + 1) := List.drop_eq_getElem_cons hlt
      have cg : w1.cell? ⟨g, o, none⟩ = some (.string ⟨(q.fed[q.tk]'hlt).toArray⟩) := by
        have := hls 0 (q.fed[q.tk]'hlt) (by rw [d0]; rfl)
        rw [Nat.add_zero] at this
        simp [World.cell?, hg, this]
      have fg : w1.frozen? ⟨g, o, none⟩ = false := by simp [World.frozen?, hg]
      have HL := hideT (show nextL q = q.fed[q.tk]'hlt by unfold nextL; rw [← HCC.out, HT.out, if_pos rfl, List.getD_eq_getElem?_getD, List.getElem?_eq_getElem hlt]; rfl)
      have hd : q.held = (q.fed[q.tk]'hlt).length + sumL (q.fed.drop (q.tk + 1)) := by
        unfold Qs.held
        rw [d0]
        simp only [sumL, List.map_cons, List.sum_cons]
      have hsm : sumL (q.fed.drop (q.tk + 1)) ≤ 102400000000 := by
        have h1 := sum_le (q.fed.drop (q.tk + 1)) (fun s hs => HO.out.line s (List.mem_of_mem_drop hs))
        rw [List.length_drop] at h1
        omega
      have hll := HO.out.line _ (List.getElem_mem hlt)
      obtain ⟨r, hr⟩ : ∃ r, r = sumL (q.fed.drop (q.tk + 1)) := ⟨_, rfl⟩
      rw [← hr] at hd hsm
      generalize htt : (q.fed[q.tk]'hlt) = t at *
      have hx : (⟨t.toArray⟩ : ByteArray).size = t.length := by show t.toArray.size = _; simp
      have w2 : IntKind.i64.wrap ((q.held : Int) - (t.length : Int)) = (r : Int) := by rw [IntKind.wrap_i64]; omega
      have w3 : IntKind.i64.wrap ((q.tk : Int) + 1) = ((q.tk + 1 : Nat) : Int) := by rw [IntKind.wrap_i64]; omega
      have j1 : (0 : Int) < (q.wait : Int) := by omega
      have j2 : (1 : Int) ≤ (q.wait : Int) := by omega
      have HK := hideT (fun o' cap' h1 h2 h3 x y hx hy => HQ1.out.took hg hls o' cap' h1 h2 h3 x y hx hy)
      have HT1 := hideT HB1.out
      have HCP := hideT (show 1 ≤ cap ∧ o + cap ≤ cur.size ∧ q.wait ≤ cap from ⟨by omega, hcur, hcap⟩)
      have HE := hideT (show Ending.returned (.tuple #[.string ⟨t.toArray⟩, .bool true]) = .returned (.tuple #[.string ⟨(nextL q).toArray⟩, .bool C]) by rw [HT.out, HL.out])
      have HQN := hideT (show q.next = ⟨q.fed, q.tk + 1, q.cl⟩ by unfold Qs.next; rw [← HCC.out, HT.out]; rfl)
      clear hg hls HN HC HO hle HB1 HQ1 HL HCC HT
      go_wp2
      · go_ret2
        refine ⟨HE.out, (((HT1.out.put (.inr rfl) _ _).put (.inl rfl) _ _).put (.inl rfl) _ _).put (.inl rfl) _ _, foot b (.slice (some ⟨g, o, none⟩) (q.wait - 1) 0), ⟨_, ?_, rfl⟩, fun k hk => .inl (hk.imp id id)⟩
        rw [HQN.out]
        have hc := HCP.out
        exact HK.out _ _ (by omega) (by omega) (by omega) _ _ (by omega) (by omega)
      · go_ret2
        refine ⟨HE.out, (((HT1.out.put (.inr rfl) _ _).put (.inl rfl) _ _).put (.inl rfl) _ _).put (.inl rfl) _ _, foot b (.slice (some ⟨g, o + 1, none⟩) (q.wait - 1) (cap - 1)), ⟨_, ?_, rfl⟩, fun k hk => .inl (hk.imp id id)⟩
        rw [HQN.out]
        have hc := HCP.out
        exact HK.out _ _ (by omega) (by omega) (by omega) _ _ (by omega) (by omega)
end Go.Proofs.Ytpdmfopkcdphaaa
