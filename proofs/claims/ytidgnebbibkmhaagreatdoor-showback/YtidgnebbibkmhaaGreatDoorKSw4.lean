/- show: the rest of a command. -/
import Derived.Test.YtidgnebbibkmhaaGreatDoorKSw3
set_option maxRecDepth 100000
set_option maxHeartbeats 4000000
namespace Go.Proofs.YtidgnebbibkmhaaGreatDoor
open Go.RowKit
open scanP scrP tpl ytb
namespace sho
def rsS (c : Co) (x : List UInt8 × Bool) : List UInt8 × Bool :=
 if c.nm = 97 ∨ c.nm = 105 ∨ c.nm = 99 then (x.1 ++ 92 :: 10 :: eN [92, 10] (trN c.tx), x.2)
 else if c.nm = 58 ∨ c.nm = 98 ∨ c.nm = 116 then (x.1 ++ woW c.lb, x.2)
 else if c.nm = 114 ∨ c.nm = 119 then (x.1 ++ woW c.fl, x.2)
 else if c.nm = 115 then sbS c x
 else if c.nm = 121 then btS [eN [92, 110] c.fr, eN [92, 110] c.to] x
 else x
theorem trim_one (y : List UInt8) : Lib.trimSuffix (y ++ [10]) [10] = y := by
 unfold Lib.trimSuffix
 rw [if_pos (by simp [Lib.hasSuffix])]
 simp
theorem eN_len (nl : List UInt8) (h : nl.length = 2) : ∀ t : List UInt8, (eN nl t).length ≤ 2 * t.length
 | [] => Nat.le_refl _
 | b :: r => by
  have ih := eN_len nl h r
  unfold eN
  rw [List.length_append, List.length_cons]
  split
  ·simp only [List.length_cons, List.length_nil]; omega
  ·split
   ·omega
   ·simp only [List.length_cons, List.length_nil]; omega
theorem escW {X V : World} {B b g : Nat} {c : Co} {pv : Value} {l m : List UInt8} {st su : Bool} (h : CmX X B b g c pv l st) (hV : WP X B b m su V) (t : List UInt8) (nl : ByteArray) (hn : nl.size = 2) (ht : t.length ≤ 5000) : Calls Tryz.prog 67 #[.string (bst t), .string nl] V fun e w' => e = .returned (.string (bst (eN nl.data.toList t))) ∧ WP X B b m su w' := by
 have hs := h.le hV
 have h2 := h.h.hB2
 refine (xkb (bst t) nl V (by rw [xbt]; omega) hn (h.gs hV) (by omega)).mono ?_
 rintro e w' ⟨rfl, hb⟩
 rw [xbu]
 exact ⟨rfl, hV.stay h.h.hB hb⟩
theorem load_co {ops : Array Oper} {rest : List Oper} {op : Oper} {a : Act} {w : World} {Q : Exit → Act → World → Prop} (hgd : op.guard = none) (x : Operand) (ho : op.op = .load 39 x) (g : Nat) (hx : a.eval x = .pointer (some ⟨g, 0, none⟩)) (c : Co) (pv : Value) (hc : CmAt w g (coV c pv)) (h : wpList Tryz.prog ops Q rest (a.put op.dst (.agg (coV c pv).toArray)) w) : wpList Tryz.prog ops Q (op :: rest) a w :=
 wpList_load_mid hgd 39 x ho g 0 hx (coV c pv) _ (fun j v hv => by rw [Nat.zero_add]; exact hc.cell j hv) xc9 rfl (by rw [xcm]; rfl) h
theorem rest_w {W : World} {B b : Nat} {c : Co} {pv : Value} {l : List UInt8} {st : Bool} (h : CmH W B b c pv l st) (hl : l.length ≤ 800000000) (hT : c.nm = 97 ∨ c.nm = 105 ∨ c.nm = 99 → ∃ y, c.tx = y ++ [10]) :
  Calls Tryz.prog 45 #[.pointer (some ⟨b, 0, none⟩), .agg (coV c pv).toArray] W fun e w' => e = .returned (.tuple #[]) ∧ WP W B b (rsS c (l, st)).1 (rsS c (l, st)).2 w' := by
 have H0 := hideT h.box
 generalize hR : rsS c (l, st) = R
 unfold rsS at hR
 simp only at hR
 clear h
 go_enter Tryz.func45, Tryz.ntmps45
 go_upto_region 1 with fail
 generalize W.alloc (.cells (coV c pv).toArray 39) = X at *
 generalize hg : W.heap.size = g at *
 have HG := hideT hg
 clear hg
 have c8 := H0.out.1.c.cell 8 (v := .int .u8 (c.nm.toNat : Nat)) rfl
 have HX := hideT (WP.refl H0.out.1.h.w)
 have HC := hideT (fun V m su (hV : WP X B b m su V) j v hj => H0.out.1.at hV j (v := v) hj)
 by_cases h2 : c.nm = 97 ∨ c.nm = 105 ∨ c.nm = 99
 ·rw [if_pos h2] at hR
  obtain ⟨y, hy⟩ := hT h2
  have ey : trN c.tx = y := by unfold trN; rw [hy]; simp
  rw [ey] at hR
  have HR := hideT hR
  have hyl : y.length ≤ 5000 := by have := H0.out.1.h.z.tx; rw [hy, List.length_append] at this; omega
  have HYL := hideT hyl
  have HTS := hideT (fun V => Tryz.strings_TrimSuffix (bst (y ++ [10])) ⟨#[10]⟩ V (by rw [xbt, List.length_append]; simp; omega))
  rw [show (bst (y ++ [10])).data.toList = y ++ [10] from xbu _, show (⟨#[10]⟩ : ByteArray).data.toList = [10] from rfl, trim_one] at HTS
  have HY := hideT hy
  clear hT hy ey hR hyl
  rcases h2 with e | e | e
  all_goals
   rw [show ((c.nm.toNat : Nat) : Int) = _ from congrArg (fun x : UInt8 => ((x.toNat : Nat) : Int)) e] at c8
   clear e
   go_wp2_with fail
   refine (wrS H0.out.1.h.w H0.out.1.h.hB ⟨#[92, 10]⟩ (by show l.length + 2 ≤ _; omega)).mono ?_
   rintro e w1 ⟨rfl, hp⟩
   have H1 := hideT hp
   clear hp
   have c10 : w1.drew.cell? ⟨g, 10, none⟩ = some (.string (bst (y ++ [10]))) := by rw [← HY.out]; exact HC.out w1 _ _ H1.out 10 _ rfl
   have HD := hideT (H1.out.stay H0.out.1.h.hB ((Below.refl w1.heap.size w1).drew))
   go_wp2_with fail
   go_region_with (first | (go_at_call 68; go_must (refine (HTS.out _).mono ?_; rintro e w2 ⟨rfl, rfl⟩)) | (go_at_call 67; go_must (refine (escW H0.out.1 HD.out y ⟨#[92, 10]⟩ rfl HYL.out).mono ?_; rintro e w3 ⟨rfl, hp3⟩; have H3 := hideT hp3; clear hp3)) | (go_at_call 25; go_must (refine (wrS H3.out.1 (H0.out.1.le H3.out) (bst (eN [92, 10] y)) (by have := eN_len [92, 10] rfl y; have := HYL.out; rw [xbt, List.length_append]; show l.length + 2 + _ ≤ _; omega)).mono ?_; rintro e w4 ⟨rfl, hp4⟩; have H4 := hideT (H3.out.trans hp4); clear hp4)))
   go_wp2
   go_end0
   rw [xbu] at H4
   refine ⟨rfl, ?_⟩
   rw [← HR.out]
   have := H0.out.2.trans H4.out
   rw [List.append_assoc] at this
   exact this
 rw [if_neg h2] at hR
 clear hT
 by_cases h3 : c.nm = 58 ∨ c.nm = 98 ∨ c.nm = 116
 ·rw [if_pos h3] at hR
  have HR := hideT hR
  have c9 := H0.out.1.c.cell 9 (v := .string (bst c.lb)) rfl
  clear hR h2
  rcases h3 with e | e | e
  all_goals
   rw [show ((c.nm.toNat : Nat) : Int) = _ from congrArg (fun x : UInt8 => ((x.toNat : Nat) : Int)) e] at c8
   clear e
   go_wp2_with fail
   refine (word_any H0.out.1.h.w H0.out.1.h.hB c.lb (by have := H0.out.1.h.z.lb; omega)).mono ?_
   rintro e w1 ⟨rfl, hp⟩
   have H1 := hideT hp
   clear hp
   go_wp2
   go_end0
   rw [← HR.out]
   exact ⟨rfl, H0.out.2.trans H1.out⟩
 rw [if_neg h3] at hR
 by_cases h4 : c.nm = 114 ∨ c.nm = 119
 ·rw [if_pos h4] at hR
  have HR := hideT hR
  have c11 := H0.out.1.c.cell 11 (v := .string (bst c.fl)) rfl
  clear hR h2 h3
  rcases h4 with e | e
  all_goals
   rw [show ((c.nm.toNat : Nat) : Int) = _ from congrArg (fun x : UInt8 => ((x.toNat : Nat) : Int)) e] at c8
   clear e
   go_wp2_with fail
   refine (word_any H0.out.1.h.w H0.out.1.h.hB c.fl (by have := H0.out.1.h.z.fl; omega)).mono ?_
   rintro e w1 ⟨rfl, hp⟩
   have H1 := hideT hp
   clear hp
   go_wp2
   go_end0
   rw [← HR.out]
   exact ⟨rfl, H0.out.2.trans H1.out⟩
 rw [if_neg h4] at hR
 by_cases h5 : c.nm = 115
 ·rw [if_pos h5] at hR
  have HR := hideT hR
  rw [show ((c.nm.toNat : Nat) : Int) = _ from congrArg (fun x : UInt8 => ((x.toNat : Nat) : Int)) h5] at c8
  have HM := hideT H0.out.1.c
  clear hR h2 h3 h4 h5
  go_wp2_with (refine load_co rfl _ rfl g rfl c pv HM.out ?_)
  refine (sub_w H0.out.1.h).mono ?_
  rintro e w1 ⟨rfl, hp⟩
  have H1 := hideT hp
  clear hp
  go_wp2
  go_end0
  rw [← HR.out]
  exact ⟨rfl, H0.out.2.trans H1.out⟩
 rw [if_neg h5] at hR
 by_cases h6 : c.nm = 121
 ·rw [if_pos h6] at hR
  have HR := hideT hR
  rw [show ((c.nm.toNat : Nat) : Int) = _ from congrArg (fun x : UInt8 => ((x.toNat : Nat) : Int)) h6] at c8
  clear hR h2 h3 h4 h5 h6
  have c17 : X.drew.cell? ⟨g, 17, none⟩ = some (.string (bst c.fr)) := H0.out.1.c.cell 17 rfl
  have c18 : X.drew.cell? ⟨g, 18, none⟩ = some (.string (bst c.to)) := H0.out.1.c.cell 18 rfl
  have HD := hideT (HX.out.stay H0.out.1.h.hB ((Below.refl X.heap.size X).drew))
  have hf1 := eN_len [92, 110] rfl c.fr
  have hf2 := eN_len [92, 110] rfl c.to
  have HLN := hideT (show l.length + (eN [92, 110] c.fr).length + (eN [92, 110] c.to).length ≤ 900000000 by have := H0.out.1.h.z.fr; have := H0.out.1.h.z.to; omega)
  clear hf1 hf2
  go_wp2_with fail
  go_region_with (first | (go_at_call 67; go_must (first | (refine (escW H0.out.1 HD.out c.fr ⟨#[92, 110]⟩ rfl H0.out.1.h.z.fr).mono ?_; rintro e w3 ⟨rfl, hp3⟩; have H3 := hideT hp3; have c18 := HC.out w3 _ _ H3.out 18 _ rfl; clear hp3) | (refine (escW H0.out.1 H3.out c.to ⟨#[92, 110]⟩ rfl H0.out.1.h.z.to).mono ?_; rintro e w4 ⟨rfl, hp4⟩; have H4 := hideT hp4; clear hp4))) | (go_at_call 66; go_must (refine (bt2 H4.out H0.out.1.h.hB (eN [92, 110] c.fr) (eN [92, 110] c.to) (by have := HLN.out; omega)).mono ?_; rintro e w5 ⟨rfl, hp5⟩; have H5 := hideT hp5; clear hp5)))
  all_goals
   go_wp2
   go_end0
   rw [← HR.out]
   exact ⟨rfl, H0.out.2.trans H5.out⟩
 rw [if_neg h6] at hR
 have HR := hideT hR
 have ne : ∀ k : UInt8, c.nm ≠ k → (((c.nm.toNat : Nat) : Int) == ((k.toNat : Nat) : Int)) = false := fun k hk => by
  rw [beq_eq_false_iff_ne]
  intro e
  exact hk (UInt8.toNat_inj.1 (by omega))
 have n1 : (((c.nm.toNat : Nat) : Int) == 97) = false := ne 97 (fun e => h2 (.inl e))
 have n2 : (((c.nm.toNat : Nat) : Int) == 105) = false := ne 105 (fun e => h2 (.inr (.inl e)))
 have n3 : (((c.nm.toNat : Nat) : Int) == 99) = false := ne 99 (fun e => h2 (.inr (.inr e)))
 have n4 : (((c.nm.toNat : Nat) : Int) == 58) = false := ne 58 (fun e => h3 (.inl e))
 have n5 : (((c.nm.toNat : Nat) : Int) == 98) = false := ne 98 (fun e => h3 (.inr (.inl e)))
 have n6 : (((c.nm.toNat : Nat) : Int) == 116) = false := ne 116 (fun e => h3 (.inr (.inr e)))
 have n7 : (((c.nm.toNat : Nat) : Int) == 114) = false := ne 114 (fun e => h4 (.inl e))
 have n8 : (((c.nm.toNat : Nat) : Int) == 119) = false := ne 119 (fun e => h4 (.inr e))
 have n9 : (((c.nm.toNat : Nat) : Int) == 115) = false := ne 115 h5
 have n10 : (((c.nm.toNat : Nat) : Int) == 121) = false := ne 121 h6
 clear ne hR h2 h3 h4 h5 h6
 generalize ((c.nm.toNat : Nat) : Int) = x at *
 go_wp2
 go_end0
 rw [← HR.out]
 exact ⟨rfl, H0.out.2⟩
end sho
end Go.Proofs.YtidgnebbibkmhaaGreatDoor
