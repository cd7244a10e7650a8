/- show: substitution: the walk. -/
import Derived.Test.YtidgnebbibkmhaaGreatDoorKWl
import Derived.Test.YtidgnebbibkmhaaGreatDoorKXw1
set_option maxRecDepth 100000
set_option maxHeartbeats 4000000
namespace Go.Proofs.YtidgnebbibkmhaaGreatDoor
open Go.RowKit
open scanP scrP tpl ytb
namespace sho

theorem txO_len : ∀ (ps : List Pt) (l L : List UInt8), tpl.textR ps l = some L → L.length ≤ l.length + 2 * bulkP ps
  | [], l, L, h => by cases h; simp [bulkP]
  | p :: r, l, L, h => by
    by_cases hb : p.g < -1 ∨ 9 < p.g
    · rw [text_bad p r l hb] at h; cases h
    · rw [text_ok p r l hb] at h
      have h1 := txO_len r _ L h
      have h2 := oneT_len p
      rw [List.length_append] at h1
      simp only [bulkP]
      omega
theorem psW_len (ps : List Pt) : (psW ps).length ≤ 2 * bulkP ps := by
  unfold psW
  cases h : tpl.textR ps [] with
  | none => simp
  | some L => have := txO_len ps [] L h; simpa using this
theorem txO_eq (ps : List Pt) : (txO (tpl.textR ps [])).1 = psW ps := by
  unfold psW txO
  cases tpl.textR ps [] <;> rfl
theorem cm_new (W : World) (xs : List Value) : CmAt (W.alloc (.cells xs.toArray 39)) W.heap.size xs := heap_alloc_new W _
theorem cm_keep {W W' : World} {g : Nat} {xs : List Value} (h : CmAt W g xs) (hk : W'.heap[g]? = W.heap[g]?) : CmAt W' g xs := hk.trans h
theorem tsR_two (W : World) (t u : List UInt8) (ty : TypeId) : TsR (W.alloc (.cells #[.string (bst t), .string (bst u)] ty)) W.heap.size [t, u] := fun k v hv => by
  match k, hv with
  | 0, hv => cases hv; rw [Lib.cell_of_heap (heap_alloc_new W _)]; rfl
  | 1, hv => cases hv; rw [Lib.cell_of_heap (heap_alloc_new W _)]; rfl
  | k + 2, hv => simp at hv
/-- between of two texts that were just put together. -/
theorem bt2 {W V : World} {B b : Nat} {m : List UInt8} {st : Bool} (h : WP W B b m st V) (hB : B ≤ W.heap.size) (t u : List UInt8) (hl : m.length + t.length + u.length ≤ 1000000000) :
    Calls Tryz.prog 66 #[.pointer (some ⟨b, 0, none⟩), .slice (some ⟨V.heap.size, 0, none⟩) 2 2] (V.alloc (.cells #[.string (bst t), .string (bst u)] 9)) fun e w' => e = .returned (.tuple #[]) ∧ WP W B b (btS [t, u] (m, st)).1 (btS [t, u] (m, st)).2 w' := by
  have hV := Nat.le_trans hB h.2.2.2
  refine (between_any (WP.al h.1 hV _).1 (Nat.le_trans hV (by simp)) [t, u] (tsR_two V t u 9) (notW_new h.1 _) (by simp) (by simp [tsN]; omega)).mono ?_
  rintro e w' ⟨rfl, hp⟩
  exact ⟨rfl, (h.trans (WP.al h.1 hV _)).trans hp⟩
theorem btS_len (ts : List (List UInt8)) (l : List UInt8) (st : Bool) : (btS ts (l, st)).1.length ≤ l.length + tsN ts + ts.length + 1 := by
  unfold btS btw
  cases dlm ts with
  | none => simp only; omega
  | some d => simp only [List.length_append, List.length_cons, bws_len]; omega
theorem nil_test {t : List UInt8} : (t = [] → ((bst t).toList == []) = true ∧ (bst t).toList = [] ∧ (bst t).toList.isEmpty = true) ∧ (t ≠ [] → ((bst t).toList == []) = false ∧ ((bst t).toList = []) = False ∧ (bst t).toList.isEmpty = false) := by
  have e0 : (bst t).toList = t := by rw [ByteArray.toList_eq]; exact xbu t
  rw [e0]
  refine ⟨fun h => by rw [h]; simp, fun h => by simp [h]⟩
def sbS (c : Co) (x : List UInt8 × Bool) : List UInt8 × Bool := ((btS [c.re, psW c.ps] x).1 ++ flW c, (btS [c.re, psW c.ps] x).2)
structure CmH (W : World) (B b : Nat) (c : Co) (pv : Value) (l : List UInt8) (st : Bool) : Prop where
  w : Wr W B b l st
  hB : B ≤ W.heap.size
  hB2 : 2 < B
  g : Gs W
  p : ∀ V, Below B W V → PRow V pv c.ps
  z : SzC c
  ll : l.length ≤ 900000000
/-- The command's box: it stays while the writer writes. -/
structure CmX (X : World) (B b g : Nat) (c : Co) (pv : Value) (l : List UInt8) (st : Bool) : Prop where
  h : CmH X B b c pv l st
  c : CmAt X g (coV c pv)
  n : NotW X b g
theorem CmX.at {X V : World} {B b g : Nat} {c : Co} {pv : Value} {l m : List UInt8} {st su : Bool} (h : CmX X B b g c pv l st) (hV : WP X B b m su V) (j : Nat) {v : Value} (hj : (coV c pv)[j]? = some v) : V.cell? ⟨g, j, none⟩ = some v := (cm_keep h.c (hV.2.2.1 g h.n).2).cell j hj
theorem CmX.gs {X V : World} {B b g : Nat} {c : Co} {pv : Value} {l m : List UInt8} {st su : Bool} (h : CmX X B b g c pv l st) (hV : WP X B b m su V) : Gs V := h.h.g.below hV.2.1 h.h.hB2
theorem CmX.le {X V : World} {B b g : Nat} {c : Co} {pv : Value} {l m : List UInt8} {st su : Bool} (h : CmX X B b g c pv l st) (hV : WP X B b m su V) : B ≤ V.heap.size := Nat.le_trans h.h.hB hV.2.2.2
theorem CmH.box {W : World} {B b : Nat} {c : Co} {pv : Value} {l : List UInt8} {st : Bool} (h : CmH W B b c pv l st) : CmX (W.alloc (.cells (coV c pv).toArray 39)) B b W.heap.size c pv l st ∧ WP W B b l st (W.alloc (.cells (coV c pv).toArray 39)) := by
  have hw := WP.al h.w h.hB (.cells (coV c pv).toArray 39)
  exact ⟨⟨⟨hw.1, Nat.le_trans h.hB hw.2.2.2, h.hB2, h.g.below hw.2.1 h.hB2, fun V hV => h.p V (hw.2.1.trans hV), h.z, h.ll⟩, cm_new W _, notW_new h.w _⟩, hw⟩
theorem itoaW {X V : World} {B b g : Nat} {c : Co} {pv : Value} {l m : List UInt8} {st su : Bool} (h : CmX X B b g c pv l st) (hV : WP X B b m su V) (n : Nat) (hn : n ≤ 1000000000) : Calls Tryz.prog 64 #[.int .i64 (n : Int)] V.drew fun e w' => e = .returned (.string (bst (Lib.decDigits n))) ∧ WP X B b m su w' := by
  have hd : Below V.heap.size V V.drew := (Below.refl _ _).drew
  refine (itoa_any n hn V.drew (h.gs (hV.stay h.h.hB hd)).t).mono ?_
  rintro e w' ⟨rfl, hb⟩
  exact ⟨rfl, hV.stay h.h.hB (hd.trans hb)⟩
theorem sub_w {W : World} {B b : Nat} {c : Co} {pv : Value} {l : List UInt8} {st : Bool} (h : CmH W B b c pv l st) :
    Calls Tryz.prog 70 #[.pointer (some ⟨b, 0, none⟩), .agg (coV c pv).toArray] W fun e w' => e = .returned (.tuple #[]) ∧ WP W B b (sbS c (l, st)).1 (sbS c (l, st)).2 w' := by
  have H0 := hideT h.box
  generalize hR : sbS c (l, st) = R
  unfold sbS flW at hR
  have HR := hideT hR
  have hy := btS_len [c.re, psW c.ps] l st
  have hpw := psW_len c.ps
  have hyl : (btS [c.re, psW c.ps] (l, st)).1.length ≤ 900100000 := by
    have h1 := h.z.re; have h2 := h.z.ps; have h3 := h.ll
    simp only [tsN, List.map_cons, List.map_nil, List.sum_cons, List.sum_nil, List.length_cons, List.length_nil] at hy
    omega
  have HY := hideT hyl
  have HPW := hideT hpw
  clear h hR hy hpw hyl
  go_enter Tryz.func70, Tryz.ntmps70
  go_upto_region 1 with fail
  generalize W.alloc (.cells (coV c pv).toArray 39) = X at *
  generalize hg : W.heap.size = g at *
  have HG := hideT hg
  clear hg
  have c13 := H0.out.1.c.cell 13 (v := pv) rfl
  have HT := hideT (text_any pv c.ps X (H0.out.1.h.p X (Below.refl _ _)) (by have := H0.out.1.h.z.ps; omega))
  rw [txO_eq] at HT
  go_wp2_with fail
  refine HT.out.mono ?_
  rintro e w1 ⟨rfl, hb1⟩
  have H1 := hideT ((WP.refl H0.out.1.h.w).stay H0.out.1.h.hB hb1)
  clear hb1 HT c13
  have c12 := H0.out.1.at H1.out 12 (v := .string (bst c.re)) rfl
  go_wp2_with fail
  refine (bt2 H1.out H0.out.1.h.hB c.re (psW c.ps) (by have := H0.out.1.h.z.re; have := H0.out.1.h.z.ps; have := H0.out.1.h.ll; have := HPW.out; omega)).mono ?_
  rintro e w2 ⟨rfl, hp⟩
  have H2 := hideT hp
  clear hp H1 c12
  generalize btS [c.re, psW c.ps] (l, st) = y at *
  obtain ⟨y1, y2⟩ := y
  simp only at H2 HR HY
  have c14 := H0.out.1.at H2.out 14 (v := .int .i64 (c.nh : Nat)) rfl
  have key : ∃ m3, m3 = y1 ++ (if c.nh = 1 then [] else Lib.decDigits c.nh) := ⟨_, rfl⟩
  obtain ⟨m3, hm3⟩ := key
  have HM3 := hideT hm3
  have hml : m3.length ≤ 900100010 := by
    have h1 := HY.out
    have h2 := dec_lt c.nh (by have := H0.out.1.h.z.nh; omega)
    rw [hm3, List.length_append]
    split
    · simp only [List.length_nil]; omega
    · omega
  have HL3 := hideT hml
  clear hm3 hml
  have c15 : ∀ V m su, WP X B b m su V → V.cell? ⟨g, 15, none⟩ = some (.bool c.an) := fun V m su hV => H0.out.1.at hV 15 rfl
  have c16 : ∀ V m su, WP X B b m su V → V.cell? ⟨g, 16, none⟩ = some (.bool c.pr) := fun V m su hV => H0.out.1.at hV 16 rfl
  have HC := hideT (And.intro c15 c16)
  have HF := hideT (fun V m su (hV : WP X B b m su V) => H0.out.1.at hV 11 (v := .string (bst c.fl)) rfl)
  clear c15 c16
  have fin : ∀ (m : List UInt8) (V : World), Hid (m = y1 ++ ((if c.nh = 1 then [] else Lib.decDigits c.nh) ++ ((if c.an = true then [103] else []) ++ ((if c.pr = true then [112] else []) ++ (if c.fl = [] then [] else 119 :: woW c.fl))))) → Hid (WP X B b m y2 V) → WP W B b R.1 R.2 V := fun m V h1 h2 => by
    have := H0.out.2.trans h2.out
    rw [← HR.out]
    rw [h1.out] at this
    exact this
  have FIN := hideT fin
  clear fin
  rcases Decidable.em (c.nh = 1) with k1 | k1
  case' inl =>
    have e1 : (((c.nh : Nat) : Int) != 1) = false := by simp; omega
    have e2 : (((c.nh : Nat) : Int) == 1) = true := by simp; omega
    obtain ⟨w3, hw3⟩ : ∃ w3, w3 = w2 := ⟨_, rfl⟩
    have H3 : Hid (WP X B b m3 y2 w3) := hideT (by rw [HM3.out, if_pos k1, List.append_nil, hw3]; exact H2.out)
    go_upto_region 5 with fail
    rw [← hw3]
    clear k1 H2 c14 hw3 e1 e2
  case' inr =>
    have e1 : (((c.nh : Nat) : Int) != 1) = true := by simp; omega
    have e2 : (((c.nh : Nat) : Int) == 1) = false := by simp; omega
    have c14d : w2.drew.cell? ⟨g, 14, none⟩ = some (.int .i64 (c.nh : Nat)) := c14
    go_wp2_with fail
    go_region_with (first | (go_at_call 64; go_must (refine (itoaW H0.out.1 H2.out c.nh H0.out.1.h.z.nh).mono ?_; rintro e w4 ⟨rfl, hp4⟩; have H4 := hideT hp4; clear hp4)) | (go_at_call 25; go_must (refine (wrS H4.out.1 (H0.out.1.le H4.out) (bst (Lib.decDigits c.nh)) (by rw [xbt]; have := HY.out; have := dec_lt c.nh (by have := H0.out.1.h.z.nh; omega); omega)).mono ?_; rintro e w3 ⟨rfl, hp3⟩; have H3 : Hid (WP X B b m3 y2 w3) := hideT (by rw [HM3.out, if_neg k1]; rw [xbu] at hp3; exact H4.out.trans hp3); clear hp3)))
    clear k1 H2 c14 H4 e1 e2 c14d
    go_upto_region 5 with fail
  all_goals
    have cc := HC.out.1 w3 _ _ H3.out
    obtain ⟨m4, hm⟩ : ∃ m4, m4 = m3 ++ (if c.an = true then [103] else []) := ⟨_, rfl⟩
    have HM4 := hideT hm
    have hl : m4.length ≤ 900100011 := by
      have := HL3.out
      rw [hm, List.length_append]
      split <;> simp only [List.length_cons, List.length_nil] <;> omega
    have HL4 := hideT hl
    clear hm hl
    cases hf : c.an
    case' true =>
      rw [hf] at cc
      go_wp2_with fail
      refine (wrB H3.out.1 (H0.out.1.le H3.out) 103 (by have := HL3.out; omega)).mono ?_
      rintro e w4 ⟨rfl, hp⟩
      have H4 : Hid (WP X B b m4 y2 w4) := hideT (by rw [HM4.out, if_pos hf]; exact H3.out.trans hp)
      clear hp cc hf H3
      go_upto_region 7 with fail
    case' false =>
      rw [hf] at cc
      obtain ⟨w4, hw⟩ : ∃ w4, w4 = w3 := ⟨_, rfl⟩
      have H4 : Hid (WP X B b m4 y2 w4) := hideT (by rw [HM4.out, if_neg (by rw [hf]; simp), List.append_nil, hw]; exact H3.out)
      go_upto_region 7 with fail
      rw [← hw]
      clear cc hf H3 hw
  all_goals
    have cc := HC.out.2 w4 _ _ H4.out
    obtain ⟨m5, hm⟩ : ∃ m5, m5 = m4 ++ (if c.pr = true then [112] else []) := ⟨_, rfl⟩
    have HM5 := hideT hm
    have hl : m5.length ≤ 900100012 := by
      have := HL4.out
      rw [hm, List.length_append]
      split <;> simp only [List.length_cons, List.length_nil] <;> omega
    have HL5 := hideT hl
    clear hm hl
    cases hf : c.pr
    case' true =>
      rw [hf] at cc
      go_wp2_with fail
      refine (wrB H4.out.1 (H0.out.1.le H4.out) 112 (by have := HL4.out; omega)).mono ?_
      rintro e w5 ⟨rfl, hp⟩
      have H5 : Hid (WP X B b m5 y2 w5) := hideT (by rw [HM5.out, if_pos hf]; exact H4.out.trans hp)
      clear hp cc hf H4
      go_upto_region 9 with fail
    case' false =>
      rw [hf] at cc
      obtain ⟨w5, hw⟩ : ∃ w5, w5 = w4 := ⟨_, rfl⟩
      have H5 : Hid (WP X B b m5 y2 w5) := hideT (by rw [HM5.out, if_neg (by rw [hf]; simp), List.append_nil, hw]; exact H4.out)
      go_upto_region 9 with fail
      rw [← hw]
      clear cc hf H4 hw
  all_goals
    have cc := HF.out w5 _ _ H5.out
    by_cases hf : c.fl = []
    · obtain ⟨e1, e2, e3⟩ := nil_test.1 hf
      have H6 := hideT (FIN.out m5 w5 (hideT (by rw [HM5.out, HM4.out, HM3.out, if_pos hf]; simp only [List.append_assoc, List.append_nil])) H5)
      clear hf
      go_wp2
      go_end0
      exact ⟨rfl, H6.out⟩
    · obtain ⟨e1, e2, e3⟩ := nil_test.2 hf
      go_wp2_with fail
      refine (wrB H5.out.1 (H0.out.1.le H5.out) 119 (by have := HL5.out; omega)).mono ?_
      rintro e w6 ⟨rfl, hp⟩
      have H6 := hideT (H5.out.trans hp)
      clear hp cc
      have cc := HF.out w6 _ _ H6.out
      go_wp2_with fail
      refine (word_any H6.out.1 (H0.out.1.le H6.out) c.fl (by have := HL5.out; have := H0.out.1.h.z.fl; rw [List.length_append, List.length_singleton]; omega)).mono ?_
      rintro e w7 ⟨rfl, hp⟩
      have H7 := hideT (FIN.out _ w7 (hideT (by rw [HM5.out, HM4.out, HM3.out, if_neg hf]; simp only [List.append_assoc, List.cons_append, List.nil_append])) (hideT (H6.out.trans hp)))
      clear hf hp
      go_wp2
      go_end0
      exact ⟨rfl, H7.out⟩

end sho
end Go.Proofs.YtidgnebbibkmhaaGreatDoor
