/- input: InputOrder, from any program's queue. -/
import Derived.Test.YtpdmfopkcdphaaaQj
namespace Go.Proofs.Ytpdmfopkcdphaaa
open Go.RowKit

def TRow (W : World) (v : Value) (l : List ByteArray) : Prop := ∃ a cp, v = .slice a l.length cp ∧ ∀ (k : Nat) (x : ByteArray), l[k]? = some x → ∃ g o, a = some ⟨g, o, none⟩ ∧ W.cell? ⟨g, o + k, none⟩ = some (.string x)
def BRow (W : World) (v : Value) (l : List UInt8) : Prop := ∃ a cp, v = .slice a l.length cp ∧ ∀ (k : Nat) (x : UInt8), l[k]? = some x → ∃ g o, a = some ⟨g, o, none⟩ ∧ W.cell? ⟨g, o + k, none⟩ = some (.int .u8 (x.toNat : Nat))
theorem keep_at {B : Nat} {W w1 : World} {a : Addr} {v : Value} (hb : Below B W w1) (hB : B = W.heap.size) (h : W.cell? a = some v) : w1.cell? a = some v := (World.cell?_of_block (hb.block _ (hB ▸ World.block_lt_of_cell? W a h))).trans h
/-- The state of the first loop. -/
structure Od (I : World → (Nat → Prop) → Nat → Qs → Prop) (W wr : World) (B ib n : Nat) (q : Qs) (vi vo : Value) : Prop where
  tr : Tri I W wr B ib q vi q.fed vo (q.fed.take q.tk)
  sl : q.slack
  ok : QOk q n
theorem Od.len {I : World → (Nat → Prop) → Nat → Qs → Prop} {W wr : World} {B ib n : Nat} {q : Qs} {vi vo : Value} (h : Od I W wr B ib n q vi vo) : (q.fed.take q.tk).length = q.tk := by rw [List.length_take]; have := h.ok.tk; omega
theorem Od.shape {I : World → (Nat → Prop) → Nat → Qs → Prop} {W wr : World} {B ib n : Nat} {q : Qs} {vi vo : Value} (h : Od I W wr B ib n q vi vo) : (∃ a cp, vi = .slice a q.fed.length cp) ∧ ∃ a cp, vo = .slice a q.tk cp := by
  obtain ⟨a, cp, h1, _⟩ := row_shape h.tr.ri
  obtain ⟨a2, cp2, h2, _⟩ := row_shape h.tr.ro
  rw [h.len] at h2
  exact ⟨⟨a, cp, h1⟩, a2, cp2, h2⟩
/-- A line that was taken in is laid behind the first row. -/
theorem Od.put {I : World → (Nat → Prop) → Nat → Qs → Prop} (imp : Imp I) {W wr X w2 : World} {B ib n : Nat} {q : Qs} {vi vo v2 : Value} {x : ByteArray} (ht : Tri I W wr B ib (q.feed x.data.toList) vi q.fed vo (q.fed.take q.tk)) (hs : q.slack) (ho : QOk q n) (he : feedE q x.data.toList = 0) (hX : Below wr.heap.size wr X) (hgr : X.grownBy w2 vi.ownBlock) (hown : w2.ownsRow B 9 1 v2 (q.fed.length + 1) (strV q.fed ++ [.string x])) (hat : ∀ g, v2.ownBlock = some g → vi.ownBlock = some g ∨ wr.heap.size ≤ g) : Od I W w2 B ib (n + 1) (q.feed x.data.toList) v2 vo := by
  have hq : q.feed x.data.toList = ⟨q.fed ++ [x.data.toList], q.tk, q.cl⟩ := by unfold Qs.feed; rw [if_pos he]
  refine ⟨?_, hs.feed _, ho.feed _⟩
  have h1 := ht.app imp (t := x.data.toList) hX hgr (by rw [strV_app]; exact hown) hat
  rw [hq] at h1 ⊢
  show Tri I W w2 B ib _ v2 (q.fed ++ [x.data.toList]) vo ((q.fed ++ [x.data.toList]).take q.tk)
  rw [List.take_append_of_le_length ho.tk]
  exact h1
/-- A line that was taken out is laid behind the second row. -/
theorem Od.out {I : World → (Nat → Prop) → Nat → Qs → Prop} (imp : Imp I) {W wr X w2 : World} {B ib : Nat} {q : Qs} {vi vo v2 : Value} (ht : Tri I W wr B ib q.next vi q.fed vo (q.fed.take q.tk)) (hc : q.can = true) (hX : Below wr.heap.size wr X) (hgr : X.grownBy w2 vo.ownBlock) (hown : w2.ownsRow B 9 1 v2 (q.tk + 1) (strV (q.fed.take q.tk) ++ [.string ⟨(nextL q).toArray⟩])) (hat : ∀ g, v2.ownBlock = some g → vo.ownBlock = some g ∨ wr.heap.size ≤ g) : Tri I W w2 B ib q.next vi q.next.fed v2 (q.next.fed.take q.next.tk) := by
  have hq : q.next = ⟨q.fed, q.tk + 1, q.cl⟩ := by unfold Qs.next; rw [if_pos hc]
  have hlt := can_lt hc
  have hl : (q.fed.take q.tk).length = q.tk := by rw [List.length_take]; omega
  have hx : nextL q = q.fed[q.tk]'hlt := by unfold nextL; rw [if_pos hc, List.getD_eq_getElem?_getD, List.getElem?_eq_getElem hlt]; rfl
  have hsv : strV (q.fed.take q.tk ++ [nextL q]) = strV (q.fed.take q.tk) ++ [.string ⟨(nextL q).toArray⟩] := by simp [strV]
  have h1 := (ht.swap.app imp (t := nextL q) hX hgr (by rw [hsv, hl]; exact hown) hat).swap
  rw [hq] at h1 ⊢
  show Tri I W w2 B ib _ vi q.fed v2 (q.fed.take (q.tk + 1))
  rw [List.take_succ_eq_append_getElem hlt, ← hx]
  exact h1

/-- The state of the second loop. -/
structure Cd (I : World → (Nat → Prop) → Nat → Qs → Prop) (W wr : World) (B ib n : Nat) (q : Qs) (vi vo : Value) : Prop where
  tr : Tri I W wr B ib q vi q.fed vo (q.fed.take q.tk)
  cl : q.cl = true
  ok : QOk q n
theorem Cd.len {I : World → (Nat → Prop) → Nat → Qs → Prop} {W wr : World} {B ib n : Nat} {q : Qs} {vi vo : Value} (h : Cd I W wr B ib n q vi vo) : (q.fed.take q.tk).length = q.tk := by rw [List.length_take]; have := h.ok.tk; omega
theorem Cd.shape {I : World → (Nat → Prop) → Nat → Qs → Prop} {W wr : World} {B ib n : Nat} {q : Qs} {vi vo : Value} (h : Cd I W wr B ib n q vi vo) : ∃ a cp, vo = .slice a q.tk cp := by
  obtain ⟨a2, cp2, h2, _⟩ := row_shape h.tr.ro
  rw [h.len] at h2
  exact ⟨a2, cp2, h2⟩

set_option maxRecDepth 100000 in
set_option maxHeartbeats 40000000 in
theorem order_any {I : World → (Nat → Prop) → Nat → Qs → Prop} (imp : Imp I) (W : World) (v0 v1 : Value) (l0 : List ByteArray) (l1 : List UInt8) (h0 : TRow W v0 l0) (h1 : BRow W v1 l1) (hl : l0.length ≤ 10000000) (hs : ∀ x ∈ l0, x.size ≤ 140737488355000) : Calls Try.prog 4 #[v0, v1] W fun e w' => e = .returned (.bool true) ∧ Below W.heap.size W w' := by
  obtain ⟨i0, hi, hz0, hz1, hz2⟩ := info_parts infoStr
  obtain ⟨a0, cp0, rfl, h0⟩ := h0
  obtain ⟨a1, cp1, rfl, h1⟩ := h1
  have R0 := hideT h0
  have R1 := hideT h1
  have HS := hideT hs
  have IM := hideT imp
  clear h0 h1 hs imp
  obtain ⟨B, hB⟩ : ∃ B, B = W.heap.size := ⟨_, rfl⟩
  rw [← hB]
  have HBB := hideT hB
  clear hB
  go_enter Try.func4, Try.ntmps4
  go_wp2_with fail
  refine (awake_any IM.out W).mono ?_
  rintro e wa ⟨rfl, ha⟩
  have HA := hideT ha
  clear ha
  go_wp2_with fail
  refine (frNew IM.out HA.out).mono ?_
  rintro e wb ⟨ib, rfl, hb⟩
  have HT := hideT (show Od I W wb B ib 0 q0 (.slice none 0 0) (.slice none 0 0) from by
    obtain ⟨F, hI, h2, hF⟩ := hb
    rw [← HBB.out] at h2 hF
    exact ⟨⟨⟨F, hI, fun k hk => ⟨hF k hk, (by intro e; cases e), (by intro e; cases e)⟩⟩, ⟨rfl, .inl ⟨rfl, rfl⟩⟩, ⟨rfl, .inl ⟨rfl, rfl⟩⟩, (by intro g e; cases e), h2, by have := h2.size; have := HBB.out; omega⟩, ⟨rfl, Nat.le_refl _, .inl rfl⟩, ⟨by decide, by decide, by simp [q0]⟩⟩)
  clear hb HA
  go_wp2_with fail
  go_loopw [6, 7, 23] (fun vi vo i wr => ∃ (k : Nat) (q : Qs), k ≤ l0.length ∧ i = .int .i64 k ∧ Hid (Od I W wr B ib k q vi vo)) (fun _ _ i _ => l0.length - (intOf i).toNat)
  case atStart => exact ⟨0, q0, by omega, rfl, HT⟩
  case round =>
    obtain ⟨k, q, hk, rfl, HO⟩ := hrel
    by_cases hlt : k < l0.length
    · have i1 : (k : Int) < (l0.length : Int) := by omega
      have i2 : (0 : Int) ≤ (k : Int) := by omega
      obtain ⟨g, o, rfl, c0⟩ := R0.out k _ (List.getElem?_eq_getElem hlt)
      have hsz := HS.out _ (List.getElem_mem hlt)
      generalize (l0[k]'hlt) = x at *
      have d0 := keep_at HO.out.tr.bl HBB.out c0
      clear c0
      have hn : k + 1 ≤ 100000000 := by omega
      have hn0 : k ≤ 100000000 := by omega
      obtain ⟨⟨ai, ci, rfl⟩, ao, co, rfl⟩ := HO.out.shape
      go_wp2_with fail
      refine (HO.out.tr.impl (fun F hI => IM.out.feed hI HO.out.ok hn0 x hsz)).mono ?_
      rintro e w1 ⟨rfl, ht1⟩
      have HT1 := hideT ht1
      clear ht1
      by_cases hE : feedE q x.data.toList = 0
      · have k0 : (((feedE q x.data.toList : Nat) : Int) == 0) = true := by rw [hE]; rfl
        have HE := hideT hE
        clear hE
        have HR := hideT HT1.out.ri
        have HNZ := hideT (show q.fed.length ≤ 100000000 from Nat.le_trans HO.out.ok.len hn0)
        have HB1 := hideT HT1.out.hB
        go_wp2_with (at_builtin; refine wpList_append_lies _ (by rfl) _ _ _ (by rfl) B 9 i0 (.string ⟨#[]⟩) 1 16 Try.underlying26 hi hz0 hz1 hz2 rfl (by omega) _ _ _ (by rfl) (World.ownsRow.alloc HR.out _) ⟨w1.heap.size, 0, none⟩ 1 1 [.string x] (by rfl) (by rfl) (World.news_of_block (cs := #[.string x]) (t := 9) (fr := (0, 0)) (heap_alloc_new w1 _)) (by simp [Value.oneCell']) (by omega) (by have := HNZ.out; unfold maxLen; omega) (by have := HNZ.out; omega) (by have := HB1.out; rw [World.size_alloc]; omega) (w1.heap.size + 1) (by simp) ?_)
        intro g2 gc2 w2 hown2 hgr2 hat2 hlt2
        have HQ := hideT (Od.put IM.out HT1.out HO.out.sl HO.out.ok HE.out ((Below.refl _ _).alloc (Nat.le_refl _) _) hgr2 hown2 (fun g' hg' => by cases hg'; rcases hat2 with e | e; exact .inl e; exact .inr (by show w1.heap.size ≤ g2; omega)))
        have e1 : q.fed.length + 1 = (q.feed x.data.toList).fed.length := by unfold Qs.feed; rw [if_pos HE.out, List.length_append, List.length_singleton]
        have e2 : q.tk = (q.feed x.data.toList).tk := by unfold Qs.feed; rw [if_pos HE.out]
        rw [e1] at HQ ⊢
        clear hown2 hgr2 hat2 hlt2 e1 HR HNZ HB1 HT1 HO HE k0
        generalize hq1 : q.feed x.data.toList = q1 at *
        rw [e2] at HQ ⊢
        clear e2 hq1
        by_cases hk1 : k < l1.length
        · have j1 : (k : Int) < (l1.length : Int) := by omega
          obtain ⟨g1, o1, rfl, c1⟩ := R1.out k _ (List.getElem?_eq_getElem hk1)
          generalize (l1[k]'hk1) = y at *
          have d1 := keep_at HQ.out.tr.bl HBB.out c1
          clear c1
          by_cases hy : y.toNat % 2 = 0
          · have t1 : (y.toNat : Int).tmod 2 = 0 := by rw [Int.tmod_eq_emod_of_nonneg (by omega)]; omega
            clear hy
            go_wp2_with fail
            refine (HQ.out.tr.impl (fun F hI => IM.out.next hI HQ.out.ok hn)).mono ?_
            rintro e w3 ⟨rfl, h3⟩
            have H3 := hideT h3
            clear h3
            by_cases hc : q1.can = true
            · rw [hc]
              have HC := hideT hc
              clear hc
              have HR := hideT (show w3.ownsRow B 9 1 (.slice ao q1.tk co) q1.tk (strV (q1.fed.take q1.tk)) by have h := H3.out.ro; rw [HQ.out.len] at h; exact h)
              have HNZ := hideT (show q1.tk ≤ 100000000 by have := HQ.out.ok.tk; have := HQ.out.ok.len; omega)
              have HB1 := hideT H3.out.hB
              obtain ⟨z, hz⟩ : ∃ z : ByteArray, z = ⟨(nextL q1).toArray⟩ := ⟨_, rfl⟩
              rw [← hz]
              have HZ := hideT hz
              clear hz
              go_wp2_with (at_builtin; refine wpList_append_lies _ (by rfl) _ _ _ (by rfl) B 9 i0 (.string ⟨#[]⟩) 1 16 Try.underlying26 hi hz0 hz1 hz2 rfl (by omega) _ _ _ (by rfl) (World.ownsRow.alloc HR.out _) ⟨w3.heap.size, 0, none⟩ 1 1 [.string z] (by rfl) (by rfl) (World.news_of_block (cs := #[.string z]) (t := 9) (fr := (0, 0)) (heap_alloc_new w3 _)) (by simp [Value.oneCell']) (by omega) (by have := HNZ.out; unfold maxLen; omega) (by have := HNZ.out; omega) (by have := HB1.out; rw [World.size_alloc]; omega) (w3.heap.size + 1) (by simp) ?_)
              intro g4 gc4 w4 hown4 hgr4 hat4 hlt4
              have HQ4 := hideT (Od.mk (Od.out IM.out H3.out HC.out ((Below.refl _ _).alloc (Nat.le_refl _) _) hgr4 (HZ.out ▸ hown4) (fun g' hg' => by cases hg'; rcases hat4 with e | e; exact .inl e; exact .inr (by show w3.heap.size ≤ g4; omega))) HQ.out.sl.next HQ.out.ok.next)
              have e1 : q1.tk + 1 = q1.next.tk := by unfold Qs.next; rw [if_pos HC.out]
              have e2 : q1.fed.length = q1.next.fed.length := by unfold Qs.next; rw [if_pos HC.out]
              rw [e1] at HQ4 ⊢
              rw [e2] at HQ4 ⊢
              clear hown4 hgr4 hat4 hlt4 e1 e2 HR HNZ HB1 HZ H3 HQ
              generalize q1.next = q4 at *
              have u1 : IntKind.i64.wrap ((q4.fed.length : Int) - (q4.tk : Int)) = (q4.wait : Int) := by have := HQ4.out.ok.tk; have := HQ4.out.ok.len; rw [IntKind.wrap_i64]; unfold Qs.wait; omega
              have hsl := HQ4.out.sl.2.2
              by_cases hz : q4.fed.length = 0
              · have z1 : ((0 : Int) < (q4.fed.length : Int)) = False := by rw [eq_iff_iff, iff_false]; omega
                have z3 : (0 < q4.fed.length) = False := by rw [eq_iff_iff, iff_false]; omega
                clear hz hsl
                go_wp2_with fail
                refine (HQ4.out.tr.still IM.out (fun F hI => IM.out.number hI HQ4.out.ok hn)).mono ?_
                rintro e w7 ⟨rfl, h7⟩
                have H7 := hideT h7
                clear h7
                go_wp2_with fail
                refine (H7.out.still IM.out (fun F hI => IM.out.waiting hI HQ4.out.ok hn)).mono ?_
                rintro e w8 ⟨rfl, h8⟩
                have H8 := hideT (Od.mk h8 HQ4.out.sl HQ4.out.ok)
                clear h8 H7
                go_wp2
                exact ⟨⟨k + 1, q4, by omega, by go_num, H8⟩, by simp [intOf]; omega⟩
              · have z1 : (0 : Int) < (q4.fed.length : Int) := by omega
                have z2 : ((q4.fed.length : Int) ≤ (q4.tk : Int)) = False := by rw [eq_iff_iff, iff_false]; omega
                have z3 : 0 < q4.fed.length := by omega
                have z4 : (q4.fed.length ≤ q4.tk) = False := by rw [eq_iff_iff, iff_false]; omega
                clear hz hsl
                go_wp2_with fail
                refine (HQ4.out.tr.still IM.out (fun F hI => IM.out.number hI HQ4.out.ok hn)).mono ?_
                rintro e w7 ⟨rfl, h7⟩
                have H7 := hideT h7
                clear h7
                go_wp2_with fail
                refine (H7.out.still IM.out (fun F hI => IM.out.waiting hI HQ4.out.ok hn)).mono ?_
                rintro e w8 ⟨rfl, h8⟩
                have H8 := hideT (Od.mk h8 HQ4.out.sl HQ4.out.ok)
                clear h8 H7
                go_wp2
                exact ⟨⟨k + 1, q4, by omega, by go_num, H8⟩, by simp [intOf]; omega⟩
            · have hc2 : q1.can = false := by simpa using hc
              rw [hc2]
              have HQ4 := hideT (show Od I W w3 B ib (k + 1) q1 _ _ from ⟨(show q1.next = q1 by unfold Qs.next; rw [if_neg hc]) ▸ H3.out, HQ.out.sl, HQ.out.ok⟩)
              clear hc hc2 H3
              have u1 : IntKind.i64.wrap ((q1.fed.length : Int) - (q1.tk : Int)) = (q1.wait : Int) := by have := HQ4.out.ok.tk; have := HQ4.out.ok.len; rw [IntKind.wrap_i64]; unfold Qs.wait; omega
              have hsl := HQ4.out.sl.2.2
              by_cases hz : q1.fed.length = 0
              · have z1 : ((0 : Int) < (q1.fed.length : Int)) = False := by rw [eq_iff_iff, iff_false]; omega
                have z3 : (0 < q1.fed.length) = False := by rw [eq_iff_iff, iff_false]; omega
                clear hz hsl
                go_wp2_with fail
                refine (HQ4.out.tr.still IM.out (fun F hI => IM.out.number hI HQ4.out.ok hn)).mono ?_
                rintro e w7 ⟨rfl, h7⟩
                have H7 := hideT h7
                clear h7
                go_wp2_with fail
                refine (H7.out.still IM.out (fun F hI => IM.out.waiting hI HQ4.out.ok hn)).mono ?_
                rintro e w8 ⟨rfl, h8⟩
                have H8 := hideT (Od.mk h8 HQ4.out.sl HQ4.out.ok)
                clear h8 H7
                go_wp2
                exact ⟨⟨k + 1, q1, by omega, by go_num, H8⟩, by simp [intOf]; omega⟩
              · have z1 : (0 : Int) < (q1.fed.length : Int) := by omega
                have z2 : ((q1.fed.length : Int) ≤ (q1.tk : Int)) = False := by rw [eq_iff_iff, iff_false]; omega
                have z3 : 0 < q1.fed.length := by omega
                have z4 : (q1.fed.length ≤ q1.tk) = False := by rw [eq_iff_iff, iff_false]; omega
                clear hz hsl
                go_wp2_with fail
                refine (HQ4.out.tr.still IM.out (fun F hI => IM.out.number hI HQ4.out.ok hn)).mono ?_
                rintro e w7 ⟨rfl, h7⟩
                have H7 := hideT h7
                clear h7
                go_wp2_with fail
                refine (H7.out.still IM.out (fun F hI => IM.out.waiting hI HQ4.out.ok hn)).mono ?_
                rintro e w8 ⟨rfl, h8⟩
                have H8 := hideT (Od.mk h8 HQ4.out.sl HQ4.out.ok)
                clear h8 H7
                go_wp2
                exact ⟨⟨k + 1, q1, by omega, by go_num, H8⟩, by simp [intOf]; omega⟩
          · have t1 : (y.toNat : Int).tmod 2 = 1 := by rw [Int.tmod_eq_emod_of_nonneg (by omega)]; omega
            clear hy
            have u1 : IntKind.i64.wrap ((q1.fed.length : Int) - (q1.tk : Int)) = (q1.wait : Int) := by have := HQ.out.ok.tk; have := HQ.out.ok.len; rw [IntKind.wrap_i64]; unfold Qs.wait; omega
            have hsl := HQ.out.sl.2.2
            by_cases hz : q1.fed.length = 0
            · have z1 : ((0 : Int) < (q1.fed.length : Int)) = False := by rw [eq_iff_iff, iff_false]; omega
              have z3 : (0 < q1.fed.length) = False := by rw [eq_iff_iff, iff_false]; omega
              clear hz hsl
              go_wp2_with fail
              refine (HQ.out.tr.still IM.out (fun F hI => IM.out.number hI HQ.out.ok hn)).mono ?_
              rintro e w7 ⟨rfl, h7⟩
              have H7 := hideT h7
              clear h7
              go_wp2_with fail
              refine (H7.out.still IM.out (fun F hI => IM.out.waiting hI HQ.out.ok hn)).mono ?_
              rintro e w8 ⟨rfl, h8⟩
              have H8 := hideT (Od.mk h8 HQ.out.sl HQ.out.ok)
              clear h8 H7
              go_wp2
              exact ⟨⟨k + 1, q1, by omega, by go_num, H8⟩, by simp [intOf]; omega⟩
            · have z1 : (0 : Int) < (q1.fed.length : Int) := by omega
              have z2 : ((q1.fed.length : Int) ≤ (q1.tk : Int)) = False := by rw [eq_iff_iff, iff_false]; omega
              have z3 : 0 < q1.fed.length := by omega
              have z4 : (q1.fed.length ≤ q1.tk) = False := by rw [eq_iff_iff, iff_false]; omega
              clear hz hsl
              go_wp2_with fail
              refine (HQ.out.tr.still IM.out (fun F hI => IM.out.number hI HQ.out.ok hn)).mono ?_
              rintro e w7 ⟨rfl, h7⟩
              have H7 := hideT h7
              clear h7
              go_wp2_with fail
              refine (H7.out.still IM.out (fun F hI => IM.out.waiting hI HQ.out.ok hn)).mono ?_
              rintro e w8 ⟨rfl, h8⟩
              have H8 := hideT (Od.mk h8 HQ.out.sl HQ.out.ok)
              clear h8 H7
              go_wp2
              exact ⟨⟨k + 1, q1, by omega, by go_num, H8⟩, by simp [intOf]; omega⟩
        · have j1 : ((k : Int) < (l1.length : Int)) = False := by rw [eq_iff_iff, iff_false]; omega
          have u1 : IntKind.i64.wrap ((q1.fed.length : Int) - (q1.tk : Int)) = (q1.wait : Int) := by have := HQ.out.ok.tk; have := HQ.out.ok.len; rw [IntKind.wrap_i64]; unfold Qs.wait; omega
          have hsl := HQ.out.sl.2.2
          by_cases hz : q1.fed.length = 0
          · have z1 : ((0 : Int) < (q1.fed.length : Int)) = False := by rw [eq_iff_iff, iff_false]; omega
            have z3 : (0 < q1.fed.length) = False := by rw [eq_iff_iff, iff_false]; omega
            clear hz hsl
            go_wp2_with fail
            refine (HQ.out.tr.still IM.out (fun F hI => IM.out.number hI HQ.out.ok hn)).mono ?_
            rintro e w7 ⟨rfl, h7⟩
            have H7 := hideT h7
            clear h7
            go_wp2_with fail
            refine (H7.out.still IM.out (fun F hI => IM.out.waiting hI HQ.out.ok hn)).mono ?_
            rintro e w8 ⟨rfl, h8⟩
            have H8 := hideT (Od.mk h8 HQ.out.sl HQ.out.ok)
            clear h8 H7
            go_wp2
            exact ⟨⟨k + 1, q1, by omega, by go_num, H8⟩, by simp [intOf]; omega⟩
          · have z1 : (0 : Int) < (q1.fed.length : Int) := by omega
            have z2 : ((q1.fed.length : Int) ≤ (q1.tk : Int)) = False := by rw [eq_iff_iff, iff_false]; omega
            have z3 : 0 < q1.fed.length := by omega
            have z4 : (q1.fed.length ≤ q1.tk) = False := by rw [eq_iff_iff, iff_false]; omega
            clear hz hsl
            go_wp2_with fail
            refine (HQ.out.tr.still IM.out (fun F hI => IM.out.number hI HQ.out.ok hn)).mono ?_
            rintro e w7 ⟨rfl, h7⟩
            have H7 := hideT h7
            clear h7
            go_wp2_with fail
            refine (H7.out.still IM.out (fun F hI => IM.out.waiting hI HQ.out.ok hn)).mono ?_
            rintro e w8 ⟨rfl, h8⟩
            have H8 := hideT (Od.mk h8 HQ.out.sl HQ.out.ok)
            clear h8 H7
            go_wp2
            exact ⟨⟨k + 1, q1, by omega, by go_num, H8⟩, by simp [intOf]; omega⟩
      · have k0 : (((feedE q x.data.toList : Nat) : Int) == 0) = false := by rw [beq_eq_false_iff_ne]; omega
        have HQ := hideT (show Od I W w1 B ib (k + 1) q _ _ from ⟨(show q.feed x.data.toList = q by unfold Qs.feed; rw [if_neg hE]) ▸ HT1.out, HO.out.sl, HO.out.ok.more⟩)
        generalize feedE q x.data.toList = E at *
        clear hE HT1 HO
        by_cases hk1 : k < l1.length
        · have j1 : (k : Int) < (l1.length : Int) := by omega
          obtain ⟨g1, o1, rfl, c1⟩ := R1.out k _ (List.getElem?_eq_getElem hk1)
          generalize (l1[k]'hk1) = y at *
          have d1 := keep_at HQ.out.tr.bl HBB.out c1
          clear c1
          by_cases hy : y.toNat % 2 = 0
          · have t1 : (y.toNat : Int).tmod 2 = 0 := by rw [Int.tmod_eq_emod_of_nonneg (by omega)]; omega
            clear hy
            go_wp2_with fail
            refine (HQ.out.tr.impl (fun F hI => IM.out.next hI HQ.out.ok hn)).mono ?_
            rintro e w3 ⟨rfl, h3⟩
            have H3 := hideT h3
            clear h3
            by_cases hc : q.can = true
            · rw [hc]
              have HC := hideT hc
              clear hc
              have HR := hideT (show w3.ownsRow B 9 1 (.slice ao q.tk co) q.tk (strV (q.fed.take q.tk)) by have h := H3.out.ro; rw [HQ.out.len] at h; exact h)
              have HNZ := hideT (show q.tk ≤ 100000000 by have := HQ.out.ok.tk; have := HQ.out.ok.len; omega)
              have HB1 := hideT H3.out.hB
              obtain ⟨z, hz⟩ : ∃ z : ByteArray, z = ⟨(nextL q).toArray⟩ := ⟨_, rfl⟩
              rw [← hz]
              have HZ := hideT hz
              clear hz
              go_wp2_with (at_builtin; refine wpList_append_lies _ (by rfl) _ _ _ (by rfl) B 9 i0 (.string ⟨#[]⟩) 1 16 Try.underlying26 hi hz0 hz1 hz2 rfl (by omega) _ _ _ (by rfl) (World.ownsRow.alloc HR.out _) ⟨w3.heap.size, 0, none⟩ 1 1 [.string z] (by rfl) (by rfl) (World.news_of_block (cs := #[.string z]) (t := 9) (fr := (0, 0)) (heap_alloc_new w3 _)) (by simp [Value.oneCell']) (by omega) (by have := HNZ.out; unfold maxLen; omega) (by have := HNZ.out; omega) (by have := HB1.out; rw [World.size_alloc]; omega) (w3.heap.size + 1) (by simp) ?_)
              intro g4 gc4 w4 hown4 hgr4 hat4 hlt4
              have HQ4 := hideT (Od.mk (Od.out IM.out H3.out HC.out ((Below.refl _ _).alloc (Nat.le_refl _) _) hgr4 (HZ.out ▸ hown4) (fun g' hg' => by cases hg'; rcases hat4 with e | e; exact .inl e; exact .inr (by show w3.heap.size ≤ g4; omega))) HQ.out.sl.next HQ.out.ok.next)
              have e1 : q.tk + 1 = q.next.tk := by unfold Qs.next; rw [if_pos HC.out]
              have e2 : q.fed.length = q.next.fed.length := by unfold Qs.next; rw [if_pos HC.out]
              rw [e1] at HQ4 ⊢
              rw [e2] at HQ4 ⊢
              clear hown4 hgr4 hat4 hlt4 e1 e2 HR HNZ HB1 HZ H3 HQ
              generalize q.next = q4 at *
              have u1 : IntKind.i64.wrap ((q4.fed.length : Int) - (q4.tk : Int)) = (q4.wait : Int) := by have := HQ4.out.ok.tk; have := HQ4.out.ok.len; rw [IntKind.wrap_i64]; unfold Qs.wait; omega
              have hsl := HQ4.out.sl.2.2
              by_cases hz : q4.fed.length = 0
              · have z1 : ((0 : Int) < (q4.fed.length : Int)) = False := by rw [eq_iff_iff, iff_false]; omega
                have z3 : (0 < q4.fed.length) = False := by rw [eq_iff_iff, iff_false]; omega
                clear hz hsl
                go_wp2_with fail
                refine (HQ4.out.tr.still IM.out (fun F hI => IM.out.number hI HQ4.out.ok hn)).mono ?_
                rintro e w7 ⟨rfl, h7⟩
                have H7 := hideT h7
                clear h7
                go_wp2_with fail
                refine (H7.out.still IM.out (fun F hI => IM.out.waiting hI HQ4.out.ok hn)).mono ?_
                rintro e w8 ⟨rfl, h8⟩
                have H8 := hideT (Od.mk h8 HQ4.out.sl HQ4.out.ok)
                clear h8 H7
                go_wp2
                exact ⟨⟨k + 1, q4, by omega, by go_num, H8⟩, by simp [intOf]; omega⟩
              · have z1 : (0 : Int) < (q4.fed.length : Int) := by omega
                have z2 : ((q4.fed.length : Int) ≤ (q4.tk : Int)) = False := by rw [eq_iff_iff, iff_false]; omega
                have z3 : 0 < q4.fed.length := by omega
                have z4 : (q4.fed.length ≤ q4.tk) = False := by rw [eq_iff_iff, iff_false]; omega
                clear hz hsl
                go_wp2_with fail
                refine (HQ4.out.tr.still IM.out (fun F hI => IM.out.number hI HQ4.out.ok hn)).mono ?_
                rintro e w7 ⟨rfl, h7⟩
                have H7 := hideT h7
                clear h7
                go_wp2_with fail
                refine (H7.out.still IM.out (fun F hI => IM.out.waiting hI HQ4.out.ok hn)).mono ?_
                rintro e w8 ⟨rfl, h8⟩
                have H8 := hideT (Od.mk h8 HQ4.out.sl HQ4.out.ok)
                clear h8 H7
                go_wp2
                exact ⟨⟨k + 1, q4, by omega, by go_num, H8⟩, by simp [intOf]; omega⟩
            · have hc2 : q.can = false := by simpa using hc
              rw [hc2]
              have HQ4 := hideT (show Od I W w3 B ib (k + 1) q _ _ from ⟨(show q.next = q by unfold Qs.next; rw [if_neg hc]) ▸ H3.out, HQ.out.sl, HQ.out.ok⟩)
              clear hc hc2 H3
              have u1 : IntKind.i64.wrap ((q.fed.length : Int) - (q.tk : Int)) = (q.wait : Int) := by have := HQ4.out.ok.tk; have := HQ4.out.ok.len; rw [IntKind.wrap_i64]; unfold Qs.wait; omega
              have hsl := HQ4.out.sl.2.2
              by_cases hz : q.fed.length = 0
              · have z1 : ((0 : Int) < (q.fed.length : Int)) = False := by rw [eq_iff_iff, iff_false]; omega
                have z3 : (0 < q.fed.length) = False := by rw [eq_iff_iff, iff_false]; omega
                clear hz hsl
                go_wp2_with fail
                refine (HQ4.out.tr.still IM.out (fun F hI => IM.out.number hI HQ4.out.ok hn)).mono ?_
                rintro e w7 ⟨rfl, h7⟩
                have H7 := hideT h7
                clear h7
                go_wp2_with fail
                refine (H7.out.still IM.out (fun F hI => IM.out.waiting hI HQ4.out.ok hn)).mono ?_
                rintro e w8 ⟨rfl, h8⟩
                have H8 := hideT (Od.mk h8 HQ4.out.sl HQ4.out.ok)
                clear h8 H7
                go_wp2
                exact ⟨⟨k + 1, q, by omega, by go_num, H8⟩, by simp [intOf]; omega⟩
              · have z1 : (0 : Int) < (q.fed.length : Int) := by omega
                have z2 : ((q.fed.length : Int) ≤ (q.tk : Int)) = False := by rw [eq_iff_iff, iff_false]; omega
                have z3 : 0 < q.fed.length := by omega
                have z4 : (q.fed.length ≤ q.tk) = False := by rw [eq_iff_iff, iff_false]; omega
                clear hz hsl
                go_wp2_with fail
                refine (HQ4.out.tr.still IM.out (fun F hI => IM.out.number hI HQ4.out.ok hn)).mono ?_
                rintro e w7 ⟨rfl, h7⟩
                have H7 := hideT h7
                clear h7
                go_wp2_with fail
                refine (H7.out.still IM.out (fun F hI => IM.out.waiting hI HQ4.out.ok hn)).mono ?_
                rintro e w8 ⟨rfl, h8⟩
                have H8 := hideT (Od.mk h8 HQ4.out.sl HQ4.out.ok)
                clear h8 H7
                go_wp2
                exact ⟨⟨k + 1, q, by omega, by go_num, H8⟩, by simp [intOf]; omega⟩
          · have t1 : (y.toNat : Int).tmod 2 = 1 := by rw [Int.tmod_eq_emod_of_nonneg (by omega)]; omega
            clear hy
            have u1 : IntKind.i64.wrap ((q.fed.length : Int) - (q.tk : Int)) = (q.wait : Int) := by have := HQ.out.ok.tk; have := HQ.out.ok.len; rw [IntKind.wrap_i64]; unfold Qs.wait; omega
            have hsl := HQ.out.sl.2.2
            by_cases hz : q.fed.length = 0
            · have z1 : ((0 : Int) < (q.fed.length : Int)) = False := by rw [eq_iff_iff, iff_false]; omega
              have z3 : (0 < q.fed.length) = False := by rw [eq_iff_iff, iff_false]; omega
              clear hz hsl
              go_wp2_with fail
              refine (HQ.out.tr.still IM.out (fun F hI => IM.out.number hI HQ.out.ok hn)).mono ?_
              rintro e w7 ⟨rfl, h7⟩
              have H7 := hideT h7
              clear h7
              go_wp2_with fail
              refine (H7.out.still IM.out (fun F hI => IM.out.waiting hI HQ.out.ok hn)).mono ?_
              rintro e w8 ⟨rfl, h8⟩
              have H8 := hideT (Od.mk h8 HQ.out.sl HQ.out.ok)
              clear h8 H7
              go_wp2
              exact ⟨⟨k + 1, q, by omega, by go_num, H8⟩, by simp [intOf]; omega⟩
            · have z1 : (0 : Int) < (q.fed.length : Int) := by omega
              have z2 : ((q.fed.length : Int) ≤ (q.tk : Int)) = False := by rw [eq_iff_iff, iff_false]; omega
              have z3 : 0 < q.fed.length := by omega
              have z4 : (q.fed.length ≤ q.tk) = False := by rw [eq_iff_iff, iff_false]; omega
              clear hz hsl
              go_wp2_with fail
              refine (HQ.out.tr.still IM.out (fun F hI => IM.out.number hI HQ.out.ok hn)).mono ?_
              rintro e w7 ⟨rfl, h7⟩
              have H7 := hideT h7
              clear h7
              go_wp2_with fail
              refine (H7.out.still IM.out (fun F hI => IM.out.waiting hI HQ.out.ok hn)).mono ?_
              rintro e w8 ⟨rfl, h8⟩
              have H8 := hideT (Od.mk h8 HQ.out.sl HQ.out.ok)
              clear h8 H7
              go_wp2
              exact ⟨⟨k + 1, q, by omega, by go_num, H8⟩, by simp [intOf]; omega⟩
        · have j1 : ((k : Int) < (l1.length : Int)) = False := by rw [eq_iff_iff, iff_false]; omega
          have u1 : IntKind.i64.wrap ((q.fed.length : Int) - (q.tk : Int)) = (q.wait : Int) := by have := HQ.out.ok.tk; have := HQ.out.ok.len; rw [IntKind.wrap_i64]; unfold Qs.wait; omega
          have hsl := HQ.out.sl.2.2
          by_cases hz : q.fed.length = 0
          · have z1 : ((0 : Int) < (q.fed.length : Int)) = False := by rw [eq_iff_iff, iff_false]; omega
            have z3 : (0 < q.fed.length) = False := by rw [eq_iff_iff, iff_false]; omega
            clear hz hsl
            go_wp2_with fail
            refine (HQ.out.tr.still IM.out (fun F hI => IM.out.number hI HQ.out.ok hn)).mono ?_
            rintro e w7 ⟨rfl, h7⟩
            have H7 := hideT h7
            clear h7
            go_wp2_with fail
            refine (H7.out.still IM.out (fun F hI => IM.out.waiting hI HQ.out.ok hn)).mono ?_
            rintro e w8 ⟨rfl, h8⟩
            have H8 := hideT (Od.mk h8 HQ.out.sl HQ.out.ok)
            clear h8 H7
            go_wp2
            exact ⟨⟨k + 1, q, by omega, by go_num, H8⟩, by simp [intOf]; omega⟩
          · have z1 : (0 : Int) < (q.fed.length : Int) := by omega
            have z2 : ((q.fed.length : Int) ≤ (q.tk : Int)) = False := by rw [eq_iff_iff, iff_false]; omega
            have z3 : 0 < q.fed.length := by omega
            have z4 : (q.fed.length ≤ q.tk) = False := by rw [eq_iff_iff, iff_false]; omega
            clear hz hsl
            go_wp2_with fail
            refine (HQ.out.tr.still IM.out (fun F hI => IM.out.number hI HQ.out.ok hn)).mono ?_
            rintro e w7 ⟨rfl, h7⟩
            have H7 := hideT h7
            clear h7
            go_wp2_with fail
            refine (H7.out.still IM.out (fun F hI => IM.out.waiting hI HQ.out.ok hn)).mono ?_
            rintro e w8 ⟨rfl, h8⟩
            have H8 := hideT (Od.mk h8 HQ.out.sl HQ.out.ok)
            clear h8 H7
            go_wp2
            exact ⟨⟨k + 1, q, by omega, by go_num, H8⟩, by simp [intOf]; omega⟩
    · obtain rfl : k = l0.length := by omega
      have i1 : ((l0.length : Int) < (l0.length : Int)) = False := by rw [eq_iff_iff, iff_false]; omega
      have hn : l0.length ≤ 100000000 := by omega
      obtain ⟨⟨ai, ci, rfl⟩, ao, co, rfl⟩ := HO.out.shape
      go_wp2_with fail
      refine (HO.out.tr.impl (fun F hI => IM.out.close hI HO.out.ok hn)).mono ?_
      rintro e w1 ⟨rfl, h1⟩
      rw [show closeE q = 0 by unfold closeE; rw [HO.out.sl.1]; rfl]
      have H1 := hideT h1
      clear h1
      go_wp2_with fail
      refine (H1.out.impl (fun F hI => IM.out.close hI HO.out.ok.close hn)).mono ?_
      rintro e w2 ⟨rfl, h2⟩
      rw [show closeE q.close = 25 by rfl]
      have HD := hideT (show Cd I W w2 B ib l0.length q.close (.slice ai q.fed.length ci) (.slice ao q.tk co) from ⟨h2, rfl, HO.out.ok.close⟩)
      have e1 : q.fed.length = q.close.fed.length := rfl
      have e2 : q.tk = q.close.tk := rfl
      rw [e1, e2] at HD ⊢
      clear h2 H1 HO e1 e2 i1
      generalize q.close = q1 at *
      have hfb : q1.fed.length ≤ 100000000 := Nat.le_trans HD.out.ok.len hn
      go_wp2_with fail
      go_loopw [7, 96] (fun vo i wr2 => ∃ (j : Nat) (q2 : Qs), j ≤ q1.fed.length ∧ i = .int .i64 j ∧ Hid (Cd I W wr2 B ib l0.length q2 (.slice ai q1.fed.length ci) vo ∧ q2.fed = q1.fed ∧ j ≤ q2.tk)) (fun _ i _ => q1.fed.length - (intOf i).toNat)
      case atStart => exact ⟨0, q1, by omega, rfl, hideT ⟨HD.out, rfl, by omega⟩⟩
      case round =>
        obtain ⟨j, q2, hj, rfl, HJ⟩ := hrel
        have hfl := HJ.out.2.1
        obtain ⟨ao2, co2, rfl⟩ := HJ.out.1.shape
        by_cases hjlt : j < q1.fed.length
        · have i1 : (j : Int) < (q1.fed.length : Int) := by omega
          clear hfl
          go_wp2_with fail
          refine (HJ.out.1.tr.impl (fun F hI => IM.out.next hI HJ.out.1.ok hn)).mono ?_
          rintro e w3 ⟨rfl, h3⟩
          have H3 := hideT h3
          clear h3
          by_cases hc : q2.can = true
          · rw [hc]
            have HC := hideT hc
            clear hc
            have HR := hideT (show w3.ownsRow B 9 1 (.slice ao2 q2.tk co2) q2.tk (strV (q2.fed.take q2.tk)) by have h := H3.out.ro; rw [HJ.out.1.len] at h; exact h)
            have HNZ := hideT (show q2.tk ≤ 100000000 by have := HJ.out.1.ok.tk; have := HJ.out.1.ok.len; omega)
            have HB1 := hideT H3.out.hB
            obtain ⟨z, hz⟩ : ∃ z : ByteArray, z = ⟨(nextL q2).toArray⟩ := ⟨_, rfl⟩
            rw [← hz]
            have HZ := hideT hz
            clear hz
            go_wp2_with (at_builtin; refine wpList_append_lies _ (by rfl) _ _ _ (by rfl) B 9 i0 (.string ⟨#[]⟩) 1 16 Try.underlying26 hi hz0 hz1 hz2 rfl (by omega) _ _ _ (by rfl) (World.ownsRow.alloc HR.out _) ⟨w3.heap.size, 0, none⟩ 1 1 [.string z] (by rfl) (by rfl) (World.news_of_block (cs := #[.string z]) (t := 9) (fr := (0, 0)) (heap_alloc_new w3 _)) (by simp [Value.oneCell']) (by omega) (by have := HNZ.out; unfold maxLen; omega) (by have := HNZ.out; omega) (by have := HB1.out; rw [World.size_alloc]; omega) (w3.heap.size + 1) (by simp) ?_)
            intro g4 gc4 w4 hown4 hgr4 hat4 hlt4
            have HT4 := Od.out IM.out H3.out HC.out ((Below.refl _ _).alloc (Nat.le_refl _) _) hgr4 (HZ.out ▸ hown4) (fun g' hg' => by cases hg'; rcases hat4 with e | e; exact .inl e; exact .inr (by show w3.heap.size ≤ g4; omega))
            have hnx : q2.next = ⟨q2.fed, q2.tk + 1, q2.cl⟩ := by unfold Qs.next; rw [if_pos HC.out]
            have HN := hideT (show Cd I W w4 B ib l0.length q2.next _ _ ∧ q2.next.fed = q1.fed ∧ j + 1 ≤ q2.next.tk from ⟨⟨HT4, by rw [hnx]; exact HJ.out.1.cl, HJ.out.1.ok.next⟩, by rw [hnx]; exact HJ.out.2.1, by rw [hnx]; have := HJ.out.2.2; show j + 1 ≤ q2.tk + 1; omega⟩)
            clear hown4 hgr4 hat4 hlt4 HT4 hnx HR HNZ HB1 HZ H3
            go_wp2
            exact ⟨⟨j + 1, q2.next, by omega, by go_num, HN⟩, by simp [intOf]; omega⟩
          · have hc2 : q2.can = false := by simpa using hc
            rw [hc2]
            have hw0 : q1.fed.length ≤ q2.tk := by
              have h := hc2
              unfold Qs.can Qs.ready Qs.wait at h
              rw [HJ.out.1.cl, HJ.out.2.1] at h
              simp only [Bool.true_or, Bool.true_and, decide_eq_false_iff_not, Decidable.not_not] at h
              omega
            have HN := hideT (show Cd I W w3 B ib l0.length q2 _ _ ∧ q2.fed = q1.fed ∧ j + 1 ≤ q2.tk from ⟨⟨(show q2.next = q2 by unfold Qs.next; rw [if_neg hc]) ▸ H3.out, HJ.out.1.cl, HJ.out.1.ok⟩, HJ.out.2.1, by omega⟩)
            clear hc hc2 hw0 H3
            go_wp2
            exact ⟨⟨j + 1, q2, by omega, by go_num, HN⟩, by simp [intOf]; omega⟩
        · obtain rfl : j = q1.fed.length := by omega
          have i1 : ((q1.fed.length : Int) < (q1.fed.length : Int)) = False := by rw [eq_iff_iff, iff_false]; omega
          have htk : q2.tk = q1.fed.length := by have h1 := HJ.out.1.ok.tk; have h2 := HJ.out.2.2; rw [hfl] at h1; omega
          have ht := HJ.out.1.tr
          rw [hfl, htk, List.take_length] at ht
          have HT := hideT ht
          have HLA := hideT (show q2.last = true by unfold Qs.last Qs.wait; rw [HJ.out.1.cl, hfl, htk]; simp)
          have HHE := hideT (show q2.held = 0 by unfold Qs.held; rw [hfl, htk, List.drop_of_length_le (Nat.le_refl _)]; rfl)
          have HOK := hideT HJ.out.1.ok
          rw [htk]
          clear ht htk hfl HJ
          go_wp2_with fail
          refine (HT.out.still IM.out (fun F hI => IM.out.last hI HOK.out hn)).mono ?_
          rintro e w5 ⟨rfl, h5⟩
          rw [HLA.out]
          have H5 := hideT h5
          clear h5
          go_wp2_with fail
          refine (H5.out.still IM.out (fun F hI => IM.out.held hI HOK.out hn)).mono ?_
          rintro e w6 ⟨rfl, h6⟩
          rw [HHE.out]
          have H6 := hideT h6
          clear h6 H5
          go_wp2_with fail
          go_loopw [126] (fun i wr3 => ∃ j : Nat, j ≤ q1.fed.length ∧ i = .int .i64 j ∧ wr3 = w6) (fun i _ => q1.fed.length - (intOf i).toNat)
          case atStart => exact ⟨0, by omega, rfl, rfl⟩
          case round =>
            obtain ⟨j, hj, rfl, rfl⟩ := hrel
            by_cases hjl : j < q1.fed.length
            · have i3 : (j : Int) < (q1.fed.length : Int) := by omega
              have i4 : (0 : Int) ≤ (j : Int) := by omega
              obtain ⟨_, _, x1, y1⟩ := row_shape H6.out.ri
              obtain ⟨_, _, x2, y2⟩ := row_shape H6.out.ro
              obtain ⟨p1, rfl, m1⟩ := y1 j _ (List.getElem?_eq_getElem hjl)
              obtain ⟨p2, rfl, m2⟩ := y2 j _ (List.getElem?_eq_getElem hjl)
              simp only [Value.slice.injEq] at x1 x2
              obtain ⟨rfl, _, _⟩ := x1
              obtain ⟨rfl, _, _⟩ := x2
              clear y1 y2
              generalize (q1.fed[j]'hjl) = u at *
              go_wp2
              exact ⟨⟨j + 1, by omega, by go_num, by first | rfl | trivial⟩, by simp [intOf]; omega⟩
            · obtain rfl : j = q1.fed.length := by omega
              have i3 : ((q1.fed.length : Int) < (q1.fed.length : Int)) = False := by rw [eq_iff_iff, iff_false]; omega
              go_wp2
              go_ret
              exact ⟨rfl, H6.out.bl⟩
end Go.Proofs.Ytpdmfopkcdphaaa
