/- show: command: the walk. -/
import Derived.Test.YtidgnebbibkmhaaGreatDoorKWn
set_option maxRecDepth 100000
set_option maxHeartbeats 4000000
namespace Go.Proofs.YtidgnebbibkmhaaGreatDoor
open Go.RowKit
open scanP scrP tpl ytb
namespace sho

def x2S (c : Co) (x : List UInt8 × Bool) : List UInt8 × Bool := if c.b.k = 0 then adS c.a x else adS c.b ((adS c.a x).1 ++ [44], (adS c.a x).2)
def x4S (c : Co) (x : List UInt8 × Bool) : List UInt8 × Bool := ((x2S c x).1 ++ (ntW c ++ [c.nm]), (x2S c x).2)
def cmS (c : Co) (x : List UInt8 × Bool) : List UInt8 × Bool := ((rsS c (x4S c x)).1 ++ [10], (rsS c (x4S c x)).2)
theorem adS_len (a : Adr) (x : List UInt8 × Bool) (hl : a.ln ≤ 1000000000) : (adS a x).1.length ≤ x.1.length + a.re.length + 12 := by
  unfold adS
  split
  · have := dec_lt a.ln (by omega); simp only [List.length_append]; omega
  · split
    · simp only [List.length_append, List.length_singleton]; omega
    · split
      · have := btS_len [a.re] (x.1 ++ (if frB 47 [a.re] = true then [] else [92])) x.2
        have h2 : (if frB 47 [a.re] = true then ([] : List UInt8) else [92]).length ≤ 1 := by split <;> simp
        simp only [tsN, List.map_cons, List.map_nil, List.sum_cons, List.sum_nil, List.length_cons, List.length_nil, List.length_append] at this
        omega
      · omega
theorem x2S_len (c : Co) (x : List UInt8 × Bool) (z : SzC c) : (x2S c x).1.length ≤ x.1.length + 10030 := by
  have h1 := adS_len c.a x z.al
  have := z.ar; have := z.br
  unfold x2S
  split
  · omega
  · have h2 := adS_len c.b ((adS c.a x).1 ++ [44], (adS c.a x).2) z.bl
    simp only [List.length_append, List.length_singleton] at h2
    omega
theorem woW_len (t : List UInt8) : (woW t).length ≤ t.length + 1 := by
  unfold woW
  split
  · simp
  · simp
theorem flW_len (c : Co) (z : SzC c) : (flW c).length ≤ 6000 := by
  have h1 := dec_lt c.nh (by have := z.nh; omega)
  have h2 := woW_len c.fl
  have := z.fl
  unfold flW
  simp only [List.length_append]
  have a1 : (if c.nh = 1 then [] else Lib.decDigits c.nh).length ≤ 10 := by
    split
    · simp
    · omega
  have a2 : (if c.an = true then ([103] : List UInt8) else []).length ≤ 1 := by split <;> simp
  have a3 : (if c.pr = true then ([112] : List UInt8) else []).length ≤ 1 := by split <;> simp
  have a4 : (if c.fl = [] then [] else 119 :: woW c.fl).length ≤ 5002 := by
    split
    · simp
    · rw [List.length_cons]; omega
  omega
theorem rsS_len (c : Co) (x : List UInt8 × Bool) (z : SzC c) : (rsS c x).1.length ≤ x.1.length + 90000 := by
  obtain ⟨l, st⟩ := x
  unfold rsS
  simp only
  split
  · have h1 := eN_len [92, 10] rfl (trN c.tx)
    have h2 : (trN c.tx).length ≤ c.tx.length := by unfold trN; split <;> simp
    have := z.tx
    simp only [List.length_append, List.length_cons]; omega
  · split
    · have := woW_len c.lb; have := z.lb; simp only [List.length_append]; omega
    · split
      · have := woW_len c.fl; have := z.fl; simp only [List.length_append]; omega
      · split
        · have h1 := btS_len [c.re, psW c.ps] l st
          have h2 := psW_len c.ps
          have h3 := flW_len c z
          have := z.re; have := z.ps
          unfold sbS
          simp only [tsN, List.map_cons, List.map_nil, List.sum_cons, List.sum_nil, List.length_cons, List.length_nil] at h1
          simp only [List.length_append]
          omega
        · split
          · have h1 := btS_len [eN [92, 110] c.fr, eN [92, 110] c.to] l st
            have h2 := eN_len [92, 110] rfl c.fr
            have h3 := eN_len [92, 110] rfl c.to
            have := z.fr; have := z.to
            simp only [tsN, List.map_cons, List.map_nil, List.sum_cons, List.sum_nil, List.length_cons, List.length_nil] at h1
            omega
          · show l.length ≤ _; omega
theorem CmX.to {X V : World} {B b g : Nat} {c : Co} {pv : Value} {l m : List UInt8} {st su : Bool} (h : CmX X B b g c pv l st) (hV : WP X B b m su V) (hm : m.length ≤ 900000000) : CmH V B b c pv m su :=
  ⟨hV.1, h.le hV, h.h.hB2, h.gs hV, fun U hU => h.h.p U (hV.2.1.trans hU), h.h.z, hm⟩
theorem command_w {W : World} {B b : Nat} {c : Co} {pv : Value} {l : List UInt8} {st : Bool} (h : CmH W B b c pv l st) (hl : l.length ≤ 700000000) (hT : c.nm = 97 ∨ c.nm = 105 ∨ c.nm = 99 → ∃ y, c.tx = y ++ [10]) :
    Calls Tryz.prog 26 #[.pointer (some ⟨b, 0, none⟩), .agg (coV c pv).toArray] W fun e w' => e = .returned (.tuple #[]) ∧ WP W B b (cmS c (l, st)).1 (cmS c (l, st)).2 w' := by
  have H0 := hideT h.box
  have HT := hideT hT
  generalize hR : cmS c (l, st) = R
  have HR := hideT hR
  have hx2 := x2S_len c (l, st) h.z
  have HX2 := hideT hx2
  clear h hT hR hx2
  go_enter Tryz.func26, Tryz.ntmps26
  go_upto_region 1 with fail
  generalize W.alloc (.cells (coV c pv).toArray 39) = X at *
  generalize hg : W.heap.size = g at *
  have HG := hideT hg
  clear hg
  have HC := hideT (fun V m su (hV : WP X B b m su V) j v hj => H0.out.1.at hV j (v := v) hj)
  have HX := hideT (WP.refl H0.out.1.h.w)
  have a0 := HC.out X _ _ HX.out 1 (.int .i64 (c.a.k : Nat)) rfl
  have a1 := HC.out X _ _ HX.out 2 (.int .i64 (c.a.ln : Nat)) rfl
  have a2 := HC.out X _ _ HX.out 3 (.string (bst c.a.re)) rfl
  go_wp2_with fail
  refine (xa5 H0.out.1.h.w H0.out.1.h.hB H0.out.1.h.hB2 H0.out.1.h.g c.a H0.out.1.h.z.ak H0.out.1.h.z.al (by have := H0.out.1.h.z.ar; omega)).mono ?_
  rintro e w1 ⟨rfl, hp⟩
  have H1 := hideT hp
  have hy := adS_len c.a (l, st) H0.out.1.h.z.al
  have HYL := hideT hy
  have HE := hideT (show x2S c (l, st) = if c.b.k = 0 then adS c.a (l, st) else adS c.b ((adS c.a (l, st)).1 ++ [44], (adS c.a (l, st)).2) from rfl)
  unfold cmS x4S at HR
  clear hp a0 a1 a2 hy
  generalize adS c.a (l, st) = y at *
  generalize x2S c (l, st) = z at *
  obtain ⟨y1, y2⟩ := y
  obtain ⟨z1, z2⟩ := z
  simp only at H1 HE HR HYL HX2
  have b0 := HC.out w1 _ _ H1.out 4 (.int .i64 (c.b.k : Nat)) rfl
  rcases Decidable.em (c.b.k = 0) with k1 | k1
  case' inl =>
    have e1 : (((c.b.k : Nat) : Int) != 0) = false := by simp; omega
    have e2 : (((c.b.k : Nat) : Int) == 0) = true := by simp; omega
    obtain ⟨w2, hw2⟩ : ∃ w2, w2 = w1 := ⟨_, rfl⟩
    have H2 : Hid (WP X B b z1 z2 w2) := hideT (by have := HE.out; rw [if_pos k1] at this; cases this; rw [hw2]; exact H1.out)
    go_upto_region 5 with fail
    rw [← hw2]
    clear k1 H1 b0 hw2 e1 e2
  case' inr =>
    have e1 : (((c.b.k : Nat) : Int) != 0) = true := by simp; omega
    have e2 : (((c.b.k : Nat) : Int) == 0) = false := by simp; omega
    go_wp2_with fail
    refine (wrB H1.out.1 (H0.out.1.le H1.out) 44 (by have := HYL.out; have := H0.out.1.h.z.ar; omega)).mono ?_
    rintro e w3 ⟨rfl, hp⟩
    have H3 := hideT (H1.out.trans hp)
    clear hp b0 e1 e2
    have d0 := HC.out w3 _ _ H3.out 4 (.int .i64 (c.b.k : Nat)) rfl
    have d1 := HC.out w3 _ _ H3.out 5 (.int .i64 (c.b.ln : Nat)) rfl
    have d2 := HC.out w3 _ _ H3.out 6 (.string (bst c.b.re)) rfl
    go_wp2_with fail
    refine (xa5 H3.out.1 (H0.out.1.le H3.out) H0.out.1.h.hB2 (H0.out.1.gs H3.out) c.b H0.out.1.h.z.bk H0.out.1.h.z.bl (by have := HYL.out; have := H0.out.1.h.z.ar; have := H0.out.1.h.z.br; rw [List.length_append, List.length_singleton]; omega)).mono ?_
    rintro e w2 ⟨rfl, hp⟩
    have H2 : Hid (WP X B b z1 z2 w2) := hideT (by have := HE.out; rw [if_neg k1] at this; rw [← this] at hp; exact H3.out.trans hp)
    clear hp k1 H1 H3 d0 d1 d2
    go_upto_region 5 with fail
  all_goals
    have cc := HC.out w2 _ _ H2.out 7 (.bool c.nt) rfl
    have HZL : Hid (z1.length ≤ 700020000) := hideT (by have := HX2.out; omega)
    cases hf : c.nt
    case' true =>
      rw [hf] at cc
      go_wp2_with fail
      refine (wrB H2.out.1 (H0.out.1.le H2.out) 33 (by have := HZL.out; omega)).mono ?_
      rintro e w3 ⟨rfl, hp⟩
      have H3 : Hid (WP X B b (z1 ++ ntW c) z2 w3) := hideT (by unfold ntW; rw [if_pos hf]; exact H2.out.trans hp)
      clear hp cc hf H2
      go_upto_region 7 with fail
    case' false =>
      rw [hf] at cc
      obtain ⟨w3, hw⟩ : ∃ w3, w3 = w2 := ⟨_, rfl⟩
      have H3 : Hid (WP X B b (z1 ++ ntW c) z2 w3) := hideT (by unfold ntW; rw [if_neg (by rw [hf]; simp), List.append_nil, hw]; exact H2.out)
      go_upto_region 7 with fail
      rw [← hw]
      clear cc hf H2 hw
  all_goals
    have hnl : (ntW c).length ≤ 1 := by unfold ntW; split <;> simp
    have HNL := hideT hnl
    clear hnl
    have c8 : w3.drew.cell? ⟨g, 8, none⟩ = some (.int .u8 (c.nm.toNat : Nat)) := HC.out w3 _ _ H3.out 8 _ rfl
    have HD := hideT (H3.out.stay H0.out.1.h.hB ((Below.refl w3.heap.size w3).drew))
    go_region_with (first | (go_at_call 44; go_must (refine (wrB HD.out.1 (H0.out.1.le HD.out) c.nm (by have := HZL.out; have := HNL.out; rw [List.length_append]; omega)).mono ?_; rintro e w4 ⟨rfl, hp4⟩; have H4 := hideT (HD.out.trans hp4); clear hp4)))
    clear c8 HD H3
    have HM := hideT (cm_keep H0.out.1.c (H4.out.2.2.1 g H0.out.1.n).2)
    have HL4 : Hid ((z1 ++ ntW c ++ [c.nm]).length ≤ 700020002) := hideT (by have := HZL.out; have := HNL.out; simp only [List.length_append, List.length_singleton]; omega)
    go_wp2_with (refine load_co rfl _ rfl g rfl c pv HM.out ?_)
    refine (rest_w (H0.out.1.to H4.out (by have := HL4.out; omega)) (by have := HL4.out; omega) HT.out).mono ?_
    rintro e w5 ⟨rfl, hp5⟩
    have H5 := hideT (H4.out.trans hp5)
    clear hp5 HM H4
    have HR5 := hideT (rsS_len c (z1 ++ ntW c ++ [c.nm], z2) H0.out.1.h.z)
    rw [← List.append_assoc] at HR
    generalize rsS c (z1 ++ ntW c ++ [c.nm], z2) = v at *
    go_wp2_with fail
    refine (wrB H5.out.1 (H0.out.1.le H5.out) 10 (by have := HR5.out; have := HL4.out; omega)).mono ?_
    rintro e w6 ⟨rfl, hp6⟩
    have H6 := hideT (H5.out.trans hp6)
    clear hp6
    go_wp2
    go_end0
    rw [← HR.out]
    exact ⟨rfl, H0.out.2.trans H6.out⟩

end sho
end Go.Proofs.YtidgnebbibkmhaaGreatDoor
