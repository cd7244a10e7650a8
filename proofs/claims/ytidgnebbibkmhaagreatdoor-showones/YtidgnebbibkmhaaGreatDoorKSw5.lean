/- show: a command, Text; Same of what is alike. -/
import Derived.Test.YtidgnebbibkmhaaGreatDoorKSw3
import Derived.Lib.UnsafeStr
import Derived.Test.YtidgnebbibkmhaaGreatDoorKSw1
set_option maxRecDepth 100000
set_option maxHeartbeats 4000000
namespace Go.Proofs.YtidgnebbibkmhaaGreatDoor
open Go.RowKit
open scanP scrP tpl ytb
namespace sho
def x2S (c : Co) (x : List UInt8 × Bool) : List UInt8 × Bool := if c.b.k = 0 then adS c.a x else adS c.b ((adS c.a x).1 ++ [44], (adS c.a x).2)
def x4S (c : Co) (x : List UInt8 × Bool) : List UInt8 × Bool := ((x2S c x).1 ++ (ntW c ++ [c.nm]), (x2S c x).2)
def cmS (c : Co) (x : List UInt8 × Bool) : List UInt8 × Bool := ((rsS c (x4S c x)).1 ++ [10], (rsS c (x4S c x)).2)
theorem adS_len (a : Adr) (x : List UInt8 × Bool) (hl : a.ln ≤ 1000000000) : (adS a x).1.length ≤ x.1.length + a.re.length + 12 := by
 unfold adS
 split
 ·have := dec_lt a.ln (by omega); simp only [List.length_append]; omega
 ·split
  ·simp only [List.length_append, List.length_singleton]; omega
  ·split
   ·have := btS_len [a.re] (x.1 ++ (if frB 47 [a.re] = true then [] else [92])) x.2
    have h2 : (if frB 47 [a.re] = true then ([] : List UInt8) else [92]).length ≤ 1 := by split <;> simp
    simp only [tsN, List.map_cons, List.map_nil, List.sum_cons, List.sum_nil, List.length_cons, List.length_nil, List.length_append] at this
    omega
   ·omega
theorem x2S_len (c : Co) (x : List UInt8 × Bool) (z : SzC c) : (x2S c x).1.length ≤ x.1.length + 10030 := by
 have h1 := adS_len c.a x z.al
 have := z.ar; have := z.br
 unfold x2S
 split
 ·omega
 ·have h2 := adS_len c.b ((adS c.a x).1 ++ [44], (adS c.a x).2) z.bl
  simp only [List.length_append, List.length_singleton] at h2
  omega
theorem woW_len (t : List UInt8) : (woW t).length ≤ t.length + 1 := by
 unfold woW
 split
 ·simp
 ·simp
theorem flW_len (c : Co) (z : SzC c) : (flW c).length ≤ 6000 := by
 have h1 := dec_lt c.nh (by have := z.nh; omega)
 have h2 := woW_len c.fl
 have := z.fl
 unfold flW
 simp only [List.length_append]
 have a1 : (if c.nh = 1 then [] else Lib.decDigits c.nh).length ≤ 10 := by
  split
  ·simp
  ·omega
 have a2 : (if c.an = true then ([103] : List UInt8) else []).length ≤ 1 := by split <;> simp
 have a3 : (if c.pr = true then ([112] : List UInt8) else []).length ≤ 1 := by split <;> simp
 have a4 : (if c.fl = [] then [] else 119 :: woW c.fl).length ≤ 5002 := by
  split
  ·simp
  ·rw [List.length_cons]; omega
 omega
theorem rsS_len (c : Co) (x : List UInt8 × Bool) (z : SzC c) : (rsS c x).1.length ≤ x.1.length + 90000 := by
 obtain ⟨l, st⟩ := x
 unfold rsS
 simp only
 split
 ·have h1 := eN_len [92, 10] rfl (trN c.tx)
  have h2 : (trN c.tx).length ≤ c.tx.length := by unfold trN; split <;> simp
  have := z.tx
  simp only [List.length_append, List.length_cons]; omega
 ·split
  ·have := woW_len c.lb; have := z.lb; simp only [List.length_append]; omega
  ·split
   ·have := woW_len c.fl; have := z.fl; simp only [List.length_append]; omega
   ·split
    ·have h1 := btS_len [c.re, psW c.ps] l st
     have h2 := psW_len c.ps
     have h3 := flW_len c z
     have := z.re; have := z.ps
     unfold sbS
     simp only [tsN, List.map_cons, List.map_nil, List.sum_cons, List.sum_nil, List.length_cons, List.length_nil] at h1
     simp only [List.length_append]
     omega
    ·split
     ·have h1 := btS_len [eN [92, 110] c.fr, eN [92, 110] c.to] l st
      have h2 := eN_len [92, 110] rfl c.fr
      have h3 := eN_len [92, 110] rfl c.to
      have := z.fr; have := z.to
      simp only [tsN, List.map_cons, List.map_nil, List.sum_cons, List.sum_nil, List.length_cons, List.length_nil] at h1
      omega
     ·show l.length ≤ _; omega
theorem CmX.to {X V : World} {B b g : Nat} {c : Co} {pv : Value} {l m : List UInt8} {st su : Bool} (h : CmX X B b g c pv l st) (hV : WP X B b m su V) (hm : m.length ≤ 900000000) : CmH V B b c pv m su :=
 ⟨hV.1, h.le hV, h.h.hB2, h.gs hV, fun U hU => h.h.p U (hV.2.1.trans hU), h.h.z, hm⟩
theorem command_w {W : World} {B b : Nat} {c : Co} {pv : Value} {l : List UInt8} {st : Bool} (h : CmH W B b c pv l st) (hl : l.length ≤ 700000000) (hT : c.nm = 97 ∨ c.nm = 105 ∨ c.nm = 99 → ∃ y, c.tx = y ++ [10]) :
  Calls Tryz.prog 26 #[.pointer (some ⟨b, 0, none⟩), .agg (coV c pv).toArray] W fun e w' => e = .returned (.tuple #[]) ∧ WP W B b (cmS c (l, st)).1 (cmS c (l, st)).2 w' := by
 have H0 := hideT h.box
 have HT := hideT hT
 generalize hR : cmS c (l, st) = R
 have HR := hideT hR
 have hx2 := x2S_len c (l, st) h.z
 have HX2 := hideT hx2
 clear h hT hR hx2
 go_enter Tryz.func26, Tryz.ntmps26
 go_upto_region 1 with fail
 generalize W.alloc (.cells (coV c pv).toArray 39) = X at *
 generalize hg : W.heap.size = g at *
 have HG := hideT hg
 clear hg
 have HC := hideT (fun V m su (hV : WP X B b m su V) j v hj => H0.out.1.at hV j (v := v) hj)
 have HX := hideT (WP.refl H0.out.1.h.w)
 have a0 := HC.out X _ _ HX.out 1 (.int .i64 (c.a.k : Nat)) rfl
 have a1 := HC.out X _ _ HX.out 2 (.int .i64 (c.a.ln : Nat)) rfl
 have a2 := HC.out X _ _ HX.out 3 (.string (bst c.a.re)) rfl
 go_wp2_with fail
 refine (xa5 H0.out.1.h.w H0.out.1.h.hB H0.out.1.h.hB2 H0.out.1.h.g c.a H0.out.1.h.z.ak H0.out.1.h.z.al (by have := H0.out.1.h.z.ar; omega)).mono ?_
 rintro e w1 ⟨rfl, hp⟩
 have H1 := hideT hp
 have hy := adS_len c.a (l, st) H0.out.1.h.z.al
 have HYL := hideT hy
 have HE := hideT (show x2S c (l, st) = if c.b.k = 0 then adS c.a (l, st) else adS c.b ((adS c.a (l, st)).1 ++ [44], (adS c.a (l, st)).2) from rfl)
 unfold cmS x4S at HR
 clear hp a0 a1 a2 hy
 generalize adS c.a (l, st) = y at *
 generalize x2S c (l, st) = z at *
 obtain ⟨y1, y2⟩ := y
 obtain ⟨z1, z2⟩ := z
 simp only at H1 HE HR HYL HX2
 have b0 := HC.out w1 _ _ H1.out 4 (.int .i64 (c.b.k : Nat)) rfl
 rcases Decidable.em (c.b.k = 0) with k1 | k1
 case' inl =>
  have e1 : (((c.b.k : Nat) : Int) != 0) = false := by simp; omega
  have e2 : (((c.b.k : Nat) : Int) == 0) = true := by simp; omega
  obtain ⟨w2, hw2⟩ : ∃ w2, w2 = w1 := ⟨_, rfl⟩
  have H2 : Hid (WP X B b z1 z2 w2) := hideT (by have := HE.out; rw [if_pos k1] at this; cases this; rw [hw2]; exact H1.out)
  go_upto_region 5 with fail
  rw [← hw2]
  clear k1 H1 b0 hw2 e1 e2
 case' inr =>
  have e1 : (((c.b.k : Nat) : Int) != 0) = true := by simp; omega
  have e2 : (((c.b.k : Nat) : Int) == 0) = false := by simp; omega
  go_wp2_with fail
  refine (wrB H1.out.1 (H0.out.1.le H1.out) 44 (by have := HYL.out; have := H0.out.1.h.z.ar; omega)).mono ?_
  rintro e w3 ⟨rfl, hp⟩
  have H3 := hideT (H1.out.trans hp)
  clear hp b0 e1 e2
  have d0 := HC.out w3 _ _ H3.out 4 (.int .i64 (c.b.k : Nat)) rfl
  have d1 := HC.out w3 _ _ H3.out 5 (.int .i64 (c.b.ln : Nat)) rfl
  have d2 := HC.out w3 _ _ H3.out 6 (.string (bst c.b.re)) rfl
  go_wp2_with fail
  refine (xa5 H3.out.1 (H0.out.1.le H3.out) H0.out.1.h.hB2 (H0.out.1.gs H3.out) c.b H0.out.1.h.z.bk H0.out.1.h.z.bl (by have := HYL.out; have := H0.out.1.h.z.ar; have := H0.out.1.h.z.br; rw [List.length_append, List.length_singleton]; omega)).mono ?_
  rintro e w2 ⟨rfl, hp⟩
  have H2 : Hid (WP X B b z1 z2 w2) := hideT (by have := HE.out; rw [if_neg k1] at this; rw [← this] at hp; exact H3.out.trans hp)
  clear hp k1 H1 H3 d0 d1 d2
  go_upto_region 5 with fail
 all_goals
  have cc := HC.out w2 _ _ H2.out 7 (.bool c.nt) rfl
  have HZL : Hid (z1.length ≤ 700020000) := hideT (by have := HX2.out; omega)
  cases hf : c.nt
  case' true =>
   rw [hf] at cc
   go_wp2_with fail
   refine (wrB H2.out.1 (H0.out.1.le H2.out) 33 (by have := HZL.out; omega)).mono ?_
   rintro e w3 ⟨rfl, hp⟩
   have H3 : Hid (WP X B b (z1 ++ ntW c) z2 w3) := hideT (by unfold ntW; rw [if_pos hf]; exact H2.out.trans hp)
   clear hp cc hf H2
   go_upto_region 7 with fail
  case' false =>
   rw [hf] at cc
   obtain ⟨w3, hw⟩ : ∃ w3, w3 = w2 := ⟨_, rfl⟩
   have H3 : Hid (WP X B b (z1 ++ ntW c) z2 w3) := hideT (by unfold ntW; rw [if_neg (by rw [hf]; simp), List.append_nil, hw]; exact H2.out)
   go_upto_region 7 with fail
   rw [← hw]
   clear cc hf H2 hw
 all_goals
  have hnl : (ntW c).length ≤ 1 := by unfold ntW; split <;> simp
  have HNL := hideT hnl
  clear hnl
  have c8 : w3.drew.cell? ⟨g, 8, none⟩ = some (.int .u8 (c.nm.toNat : Nat)) := HC.out w3 _ _ H3.out 8 _ rfl
  have HD := hideT (H3.out.stay H0.out.1.h.hB ((Below.refl w3.heap.size w3).drew))
  go_region_with (first | (go_at_call 44; go_must (refine (wrB HD.out.1 (H0.out.1.le HD.out) c.nm (by have := HZL.out; have := HNL.out; rw [List.length_append]; omega)).mono ?_; rintro e w4 ⟨rfl, hp4⟩; have H4 := hideT (HD.out.trans hp4); clear hp4)))
  clear c8 HD H3
  have HM := hideT (cm_keep H0.out.1.c (H4.out.2.2.1 g H0.out.1.n).2)
  have HL4 : Hid ((z1 ++ ntW c ++ [c.nm]).length ≤ 700020002) := hideT (by have := HZL.out; have := HNL.out; simp only [List.length_append, List.length_singleton]; omega)
  go_wp2_with (refine load_co rfl _ rfl g rfl c pv HM.out ?_)
  refine (rest_w (H0.out.1.to H4.out (by have := HL4.out; omega)) (by have := HL4.out; omega) HT.out).mono ?_
  rintro e w5 ⟨rfl, hp5⟩
  have H5 := hideT (H4.out.trans hp5)
  clear hp5 HM H4
  have HR5 := hideT (rsS_len c (z1 ++ ntW c ++ [c.nm], z2) H0.out.1.h.z)
  rw [← List.append_assoc] at HR
  generalize rsS c (z1 ++ ntW c ++ [c.nm], z2) = v at *
  go_wp2_with fail
  refine (wrB H5.out.1 (H0.out.1.le H5.out) 10 (by have := HR5.out; have := HL4.out; omega)).mono ?_
  rintro e w6 ⟨rfl, hp6⟩
  have H6 := hideT (H5.out.trans hp6)
  clear hp6
  go_wp2
  go_end0
  rw [← HR.out]
  exact ⟨rfl, H0.out.2.trans H6.out⟩
end sho
end Go.Proofs.YtidgnebbibkmhaaGreatDoor
namespace Go.Proofs.YtidgnebbibkmhaaGreatDoor
open Go.RowKit
open scanP scrP tpl ytb
namespace sho
structure Wt (S : List UInt8 × Bool → List UInt8 × Bool) (o : Option (List UInt8)) : Prop where
 ok : ∀ t, o = some t → ∀ l st, S (l, st) = (l ++ t, st)
 no : o = none → ∀ x, (S x).2 = true
 up : ∀ l, (S (l, true)).2 = true
theorem Wt.bt (ts : List (List UInt8)) : Wt (btS ts) (btw ts) := by
 unfold btS
 cases btw ts with
 | none => exact ⟨fun t e => (by cases e), fun _ _ => rfl, fun _ => rfl⟩
 | some t => exact ⟨fun u e l st => (by cases e; rfl), fun e => (by cases e), fun _ => rfl⟩
theorem Wt.ad (a : Adr) : Wt (adS a) (adW a) := by
 unfold adS adW
 split
 ·exact ⟨fun u e l st => (by cases e; rfl), fun e => (by cases e), fun _ => rfl⟩
 ·split
  ·exact ⟨fun u e l st => (by cases e; rfl), fun e => (by cases e), fun _ => rfl⟩
  ·split
   ·have h := Wt.bt [a.re]
    cases hb : btw [a.re] with
    | none => exact ⟨fun t e => (by cases e), fun _ x => h.no hb _, fun l => h.no hb _⟩
    | some t =>
     refine ⟨fun u e l st => ?_, fun e => (by cases e), fun l => h.up _⟩
     cases e
     rw [h.ok t hb]
     simp
   ·exact ⟨fun u e l st => (by cases e; simp), fun e => (by cases e), fun _ => rfl⟩
theorem Wt.rs (c : Co) : Wt (rsS c) (rsW c) := by
 unfold rsS rsW
 split
 ·exact ⟨fun u e l st => (by cases e; rfl), fun e => (by cases e), fun _ => rfl⟩
 ·split
  ·exact ⟨fun u e l st => (by cases e; rfl), fun e => (by cases e), fun _ => rfl⟩
  ·split
   ·exact ⟨fun u e l st => (by cases e; rfl), fun e => (by cases e), fun _ => rfl⟩
   ·split
    ·have h := Wt.bt [c.re, psW c.ps]
     unfold sbS
     cases hb : btw [c.re, psW c.ps] with
     | none => exact ⟨fun t e => (by cases e), fun _ x => h.no hb _, fun l => h.no hb _⟩
     | some t =>
      refine ⟨fun u e l st => ?_, fun e => (by cases e), fun l => h.up _⟩
      cases e
      rw [h.ok t hb]
      simp
    ·split
     ·exact Wt.bt _
     ·exact ⟨fun u e l st => (by cases e; simp), fun e => (by cases e), fun _ => rfl⟩
theorem Wt.x2 (c : Co) : (∀ x y, adW c.a = some x → abW c = some y → ∀ l st, x2S c (l, st) = (l ++ (x ++ y), st)) ∧ (adW c.a = none ∨ abW c = none → ∀ x, (x2S c x).2 = true) ∧ ∀ l, (x2S c (l, true)).2 = true := by
 have ha := Wt.ad c.a
 have hb := Wt.ad c.b
 have up2 : ∀ x : List UInt8 × Bool, x.2 = true → (adS c.b x).2 = true := fun ⟨l, st⟩ e => by cases e; exact hb.up l
 have up1 : ∀ x : List UInt8 × Bool, x.2 = true → (adS c.a x).2 = true := fun ⟨l, st⟩ e => by cases e; exact ha.up l
 unfold x2S abW
 split
 ·refine ⟨fun x y hx hy l st => ?_, fun h x => ?_, fun l => ha.up l⟩
  ·cases hy; rw [ha.ok x hx, List.append_nil]
  ·rcases h with h | h
   ·exact ha.no h x
   ·cases h
 ·refine ⟨fun x y hx hy l st => ?_, fun h x => ?_, fun l => up2 _ (up1 _ rfl)⟩
  ·cases hz : adW c.b with
   | none => rw [hz] at hy; cases hy
   | some z =>
    rw [hz] at hy
    cases hy
    rw [ha.ok x hx, hb.ok z hz]
    simp
  ·rcases h with h | h
   ·exact up2 _ (ha.no h x)
   ·cases hz : adW c.b with
    | none => exact hb.no hz _
    | some z => rw [hz] at h; cases h
theorem Wt.cm (c : Co) : Wt (cmS c) (cmW c) := by
 have hr := Wt.rs c
 obtain ⟨x1, x2, x3⟩ := Wt.x2 c
 have up : ∀ x : List UInt8 × Bool, x.2 = true → (rsS c x).2 = true := fun ⟨l, st⟩ e => by cases e; exact hr.up l
 refine ⟨fun t e l st => ?_, fun e x => ?_, fun l => up _ (x3 l)⟩
 ·unfold cmW at e
  split at e
  ·rename_i x y z hx hy hz
   cases e
   unfold cmS x4S
   rw [x1 x y hx hy]
   simp only
   rw [hr.ok z hz]
   simp
  ·cases e
 ·unfold cmW at e
  split at e
  ·cases e
  ·rename_i hn
   show (rsS c (x4S c x)).2 = true
   cases hx : adW c.a with
   | none => exact up _ (x2 (.inl hx) x)
   | some u =>
    cases hy : abW c with
    | none => exact up _ (x2 (.inr hy) x)
    | some v =>
     cases hz : rsW c with
     | none => exact hr.no hz _
     | some z => exact absurd hz (hn u v z hx hy)
theorem cmS_len (c : Co) (x : List UInt8 × Bool) (z : SzC c) : (cmS c x).1.length ≤ x.1.length + 100040 := by
 have h1 := x2S_len c x z
 have h2 := rsS_len c (x4S c x) z
 have h3 : (ntW c).length ≤ 1 := by unfold ntW; split <;> simp
 unfold cmS
 have h4 : (x4S c x).1.length = (x2S c x).1.length + ((ntW c).length + 1) := by unfold x4S; simp
 simp only [List.length_append, List.length_singleton]
 omega
theorem infoB1 : Tryz.prog.cellsOf 5 = 1 := by kernel_rfl
theorem freeze_below (W : World) (g n : Nat) {B : Nat} (hB : B ≤ g) : Below B W (W.freeze ⟨g, 0, none⟩ n) := by
 unfold World.freeze
 split
 ·exact Below.refl _ _
 ·refine ⟨rfl, rfl, rfl, by simp, fun j hj => ?_⟩
  simp only [Array.getElem?_modify]
  rw [if_neg (by omega)]
theorem wrT {W : World} {B b : Nat} {l : List UInt8} {st : Bool} (h : Wr W B b l st) (hn : l = [] → W.cell? ⟨b, 1, none⟩ = some (.slice none 0 0)) :
  Calls Tryz.prog 27 #[.pointer (some ⟨b, 0, none⟩)] W fun e w' => e = .returned (.string (bst l)) ∧ Below B W w' := by
 obtain ⟨p, v, h⟩ := h
 have c1 : W.drew.cell? ⟨b, 1, none⟩ = some v := by show W.cell? _ = _; rw [Lib.cell_of_heap h.blk]; rfl
 have hd : Below B W W.drew := (Below.refl _ W).drew
 by_cases h0 : l = []
 ·have hv : v = .slice none 0 0 := Option.some.inj ((show W.drew.cell? ⟨b, 1, none⟩ = some v from c1).symm.trans (hn h0))
  subst hv
  subst h0
  have hSD : (Builtin.unsafeSliceData_ #[44] 107 #[.slice none 0 0]).run Tryz.prog W.drew = .ok (.pointer none) W.drew := rfl
  have hUS := Lib.run_unsafeString_none (P := Tryz.prog) W.drew 107 3 9 none
  have HB := hideT hd
  clear h hn
  go_enter Tryz.func27, Tryz.ntmps27
  go_wp2
  go_region
  all_goals (go_wp2; go_ret; exact ⟨rfl, HB.out⟩)
 ·have hl0 : l.length ≠ 0 := by simpa using h0
  obtain ⟨g, cap, cur, rfl, hbg, hg, hnc, hcm, hcs, htake⟩ : ∃ g cap cur, v = .slice (some ⟨g, 0, none⟩) l.length cap ∧ B ≤ g ∧ W.heap[g]? = some (.cells cur 5 (0, 0)) ∧ l.length ≤ cap ∧ cap ≤ maxLen ∧ cur.size = cap * 1 ∧ cur.toList.take (l.length * 1) = Lib.byteCells l := by
   rcases h.own.2 with ⟨_, hz⟩ | ⟨g, cap, cur, hv, r⟩
   ·exact absurd hz hl0
   ·exact ⟨g, cap, cur, hv, r⟩
  have hSD : (Builtin.unsafeSliceData_ #[44] 107 #[.slice (some ⟨g, 0, none⟩) l.length cap]).run Tryz.prog W.drew = .ok (.pointer (some ⟨g, 0, none⟩)) W.drew := Lib.run_unsafeSliceData_row _ _ _ _ _ _ (by omega)
  have hUS : (Builtin.unsafeString_ #[107, 3] 9 #[.pointer (some ⟨g, 0, none⟩), .int .i64 l.length]).run Tryz.prog W.drew = .ok (.string (bst l)) (W.drew.freeze ⟨g, 0, none⟩ l.length) := by
   refine Lib.run_unsafeString_row W.drew 107 3 9 5 Tryz.underlying107 infoB1 g cur.size (by have hg' : W.drew.heap[g]? = some (.cells cur 5 (0, 0)) := hg; simp [World.shape?, hg']) l h0 (by omega) (by unfold maxLen at hcm; omega) ?_
   intro j x hx
   exact h.own.cells (g := g) rfl j (.int .u8 x.toNat) (by simp [Lib.byteCells, hx])
  have HF := hideT (hd.trans (freeze_below W.drew g l.length hbg))
  clear h htake hcs hnc hg hcm hn
  go_enter Tryz.func27, Tryz.ntmps27
  go_wp2
  go_region
  all_goals (go_wp2; go_ret; exact ⟨rfl, HF.out⟩)
end sho
end Go.Proofs.YtidgnebbibkmhaaGreatDoor
namespace Go.Proofs.YtidgnebbibkmhaaGreatDoor
open Go.RowKit
open scanP scrP tpl ytb
theorem LsAt.crow {W : World} {B : Nat} {v : Value} {L : List (Co × Value)} (h : LsAt W B v L) : CRow W v (L.map (·.1)) := by
 rcases h.own.2 with ⟨rfl, h0⟩ | ⟨g, cap, cur, rfl, hg, hh, hrest⟩
 ·have : L = [] := List.eq_nil_of_length_eq_zero h0
  subst this
  exact ⟨none, 0, rfl, fun k c hc => by simp at hc⟩
 ·refine ⟨some ⟨g, 0, none⟩, cap, by rw [List.length_map], fun k c hc => ?_⟩
  rw [List.getElem?_map] at hc
  cases hx : L[k]? with
  | none => rw [hx] at hc; cases hc
  | some x =>
   rw [hx] at hc
   cases hc
   refine ⟨g, 0, x.2, rfl, fun j u hu => ?_, PRow.of_owns (h.pa x (List.mem_of_getElem? hx))⟩
   have h1 := h.own.cells (g := g) rfl (k * 19 + j) _ (coX_at L k x hx j u hu)
   have hplain : ∀ k, (⟨g, 0, none⟩ : Addr).add k = ⟨g, 0 + k, none⟩ := fun k => by unfold Addr.add; split <;> simp_all
   rw [hplain] at h1
   rw [Nat.add_assoc]
   exact h1
theorem parse_reads (s : ByteArray) (hs : s.size ≤ 140737488355000) (w : World) (hg : Gl w) : Calls Tryz.prog 11 #[.string s] w fun e w' => ∃ v, e = .returned (.tuple #[v, .bool (scrR gM s.data.toList).2.1, .agg #[.int .i64 ((scrR gM s.data.toList).2.2.1 : Nat), .int .i64 ((scrR gM s.data.toList).2.2.2 : Nat)]]) ∧ CRow w' v (scrR gM s.data.toList).1 ∧ Below w.heap.size w w' := by
 refine (parse_ok s hs w hg).mono ?_
 rintro e w' ⟨v, L, rfl, hL, hm, hb⟩
 exact ⟨v, rfl, hm ▸ hL.crow, hb⟩
namespace sho
theorem set_bel (b : Nat) : ∀ (vs : List Value) (W : World) (o : Nat), Below b W (W.setCells b o vs)
 | [], W, _ => Below.refl _ _
 | v :: vs, W, o => by
  rw [World.setCells]
  exact ((Below.refl b W).setCell (p := ⟨b, o, none⟩) (Nat.le_refl _) v).trans (set_bel b vs _ _)
theorem store_co {ops : Array Oper} {rest : List Oper} {op : Oper} {a : Act} {w : World} {Q : Exit → Act → World → Prop} (hgd : op.guard = none) (x y : Operand) (ho : op.op = .store 39 x y) (b : Nat) (c : Co) (pv : Value) (hx : a.eval x = .pointer (some ⟨b, 0, none⟩)) (hy : a.eval y = .agg (coV c pv).toArray) (zs : List Value) (hz : zs.length = 19) (hb : w.heap[b]? = some (.cells zs.toArray 39 (0, 0))) (hp : pv.oneCell' = true)
  (h : ∀ w', CmAt w' b (coV c pv) → Below b w w' → wpList Tryz.prog ops Q rest (a.put op.dst undef) w') : wpList Tryz.prog ops Q (op :: rest) a w := by
 refine wpList_store_mid hgd 39 x y ho b 0 (coV c pv).toArray hx hy (by rw [List.size_toArray]; exact xcd hb _ (by rw [hz]; rfl)) (by rw [xcm]; rfl) (xd0 c pv hp) ?_
 exact h _ (xcs (coV c pv) hb (by rw [hz]; rfl)) (set_bel b _ _ _)
theorem notW_set {A A' : World} {b r : Nat} (h : NotW A b r) (hs : A.heap.size ≤ A'.heap.size) (hb : A'.heap[b]? = A.heap[b]?) : NotW A' b r :=
 ⟨Nat.lt_of_lt_of_le h.1 hs, h.2.1, fun p v s e => h.2.2 p v s (hb.symm.trans e)⟩
theorem load_row {ops : Array Oper} {rest : List Oper} {op : Oper} {a : Act} {w : World} {Q : Exit → Act → World → Prop} (hgd : op.guard = none) (x : Operand) (ho : op.op = .load 39 x) (g o : Nat) (hx : a.eval x = .pointer (some ⟨g, o, none⟩)) (c : Co) (pv : Value) (hc : w.rangeAt g o (coV c pv)) (h : wpList Tryz.prog ops Q rest (a.put op.dst (.agg (coV c pv).toArray)) w) : wpList Tryz.prog ops Q (op :: rest) a w :=
 wpList_load_mid hgd 39 x ho g o hx (coV c pv) _ hc xc9 rfl (by rw [xcm]; rfl) h
def hdOf : Code → Nat
 | .region i _ _ => i
 | .seq a _ => hdOf a
 | _ => 1000
def tlOf (n : Nat) : Code → Option Code
 | .seq a b => if hdOf a = n then some (.seq a b) else tlOf n b
 | _ => none
noncomputable def tl7 : Code := (Tryz.f14.body.bind (tlOf 7)).getD .skip
theorem show_loop (u0 u1 u2 u5 u6 u8 u9 u10 u11 u12 u13 u14 u15 u16 u17 u18 u19 u20 u21 u22 u23 u24 u25 u26 u27 u28 u29 u30 u31 u32 u33 u34 u35 u36 u37 u38 u39 : Value) (w Z w2 : World) (b r cp : Nat) (pa : Option Addr) (cs : List Co) (l0 : List UInt8) (R : List UInt8 × Nat × Nat) (H2 : Hid (WP Z b b l0 false w2 ∧ (l0 = [] → w2.cell? ⟨b, 1, none⟩ = some (.slice none 0 0)))) (HL3 : Hid (l0.length ≤ 3)) (HR : Hid ((match alW cs l0 with | .error p => ([], 5, p) | .ok t => (t, 0, 0)) = R)) (HL : Hid (r < b)) (HB2 : Hid (2 < b)) (HRZ : Hid (Z.heap[r]? = some (.cells #[.int .i64 0, .int .i64 0] 29 (0, 0)))) (HWZ : Hid (Below r w Z)) (HGZ : Hid (Gs Z)) (HZB : Hid (b ≤ Z.heap.size)) (HRW : Hid (∀ k c, cs[k]? = some c → ∃ g o pv, pa = some ⟨g, o, none⟩ ∧ ∀ V, Below b Z V → V.rangeAt g (o + k * 19) (coV c pv) ∧ PRow V pv c.ps)) (HS : Hid (((∀ c ∈ cs, SzC c) ∧ cs.length ≤ 4097) ∧ ∀ c ∈ cs, WfC gM c)) :
  Code.wp Tryz.prog tl7 (bodyPost Tryz.prog Tryz.f14 fun e w' => e = .returned (.tuple #[.string (bst R.1), .agg #[.int .i64 (R.2.1 : Nat), .int .i64 (R.2.2 : Nat)]]) ∧ Below r w w') ⟨#[u0, u1, u2, .pointer (some ⟨r, 0, none⟩), .slice pa cs.length cp, u5, u6, .pointer (some ⟨b, 0, none⟩), u8, u9, u10, u11, u12, u13, u14, u15, u16, u17, u18, u19, u20, u21, u22, u23, u24, u25, u26, u27, u28, u29, u30, u31, u32, u33, u34, u35, u36, u37, u38, u39], []⟩ w2 := by
 conv => arg 2; whnf
 go_wp2_with fail
 go_loopw [25] (fun i wr => ∃ (k : Nat) (l : List UInt8), k ≤ cs.length ∧ i = .int .i64 k ∧ Hid (WP Z b b l false wr) ∧ Hid (alW (cs.drop k) l = alW cs l0) ∧ Hid (l.length ≤ 3 + k * 100040) ∧ Hid (l = [] → wr.cell? ⟨b, 1, none⟩ = some (.slice none 0 0))) (fun i _ => cs.length - (intOf i).toNat)
 case atStart => exact ⟨0, l0, by omega, rfl, hideT H2.out.1, hideT rfl, hideT (by have := HL3.out; omega), hideT H2.out.2⟩
 case round =>
  obtain ⟨k, l, hk, rfl, HV, HA, HLN, HE⟩ := hrel
  have HBW : Hid (b ≤ wr.heap.size) := hideT (Nat.le_trans HZB.out HV.out.2.2.2)
  have HRB := hideT ((HV.out.2.1.block r HL.out).trans HRZ.out)
  have HWW : Hid (Below r w wr) := hideT (HWZ.out.trans (HV.out.2.1.mono (Nat.le_of_lt HL.out)))
  have hcl : cs.length ≤ 4097 := HS.out.1.2
  clear H2
  by_cases hlt : k < cs.length
  ·obtain ⟨g, o, pv, rfl, hrp⟩ := HRW.out k _ (List.getElem?_eq_getElem hlt)
   have hsz := HS.out.1.1 _ (List.getElem_mem hlt)
   have hwf := HS.out.2 _ (List.getElem_mem hlt)
   have HDR := hideT (show cs.drop k = cs[k] :: cs.drop (k + 1) from List.drop_eq_getElem_cons hlt)
   generalize (cs[k]'hlt) = c at *
   have HSZ := hideT hsz
   have HWF := hideT hwf
   have i1 : (k : Int) < (cs.length : Int) := by omega
   have i2 : (0 : Int) ≤ (k : Int) := by omega
   have HQ := hideT (hrp wr HV.out.2.1).1
   have hpr := (hrp wr HV.out.2.1).2
   have HPR := hideT (show ∀ U, Below b wr U → PRow U pv c.ps from fun U hU => (hrp U (HV.out.2.1.trans hU)).2)
   obtain ⟨pq, pc, rfl⟩ := hpr.shape
   have HK97 : Hid (l.length ≤ 600000000) := hideT (by have := HLN.out; have := HS.out.1.2; omega)
   clear hsz hwf hrp hpr
   go_wp2_with (first | (refine load_row rfl _ rfl g (o + k * 19) rfl c _ HQ.out ?_) | (refine store_co rfl _ _ rfl wr.heap.size c _ rfl rfl _ (by rfl) (heap_alloc_new wr _) rfl ?_))
   intro w4 hcm hb4
   have hZb := HZB.out
   have hblt : b < wr.heap.size := by obtain ⟨_, _, h⟩ := HV.out.1; exact h.lt
   have hW4 : Below wr.heap.size wr w4 := ((Below.refl _ _).alloc (Nat.le_refl _) _).trans hb4
   have hN4 := notW_set (notW_new HV.out.1 _) hb4.size (hb4.block b hblt)
   have H4 := hideT (HV.out.stay hZb hW4)
   have HH4 := hideT (show CmH w4 b b c (.slice pq c.ps.length pc) l false from ⟨H4.out.1, Nat.le_trans hZb H4.out.2.2.2, HB2.out, HGZ.out.below H4.out.2.1 HB2.out, fun U hU => HPR.out U ((hW4.mono HBW.out).trans hU), HSZ.out, by have := HK97.out; omega⟩)
   have HC4 := hideT (And.intro hcm hN4)
   clear hcm hb4 hZb hblt hW4 hN4 HQ HPR
   go_wp2_with (refine load_co rfl _ rfl wr.heap.size rfl c _ HC4.out.1 ?_)
   refine (command_w HH4.out (by have := HK97.out; omega) HWF.out.fo.te).mono ?_
   rintro e w5 ⟨rfl, hp⟩
   have H5 := hideT (H4.out.trans hp)
   have HCL := hideT (cmS_len c (l, false) HSZ.out)
   obtain ⟨c2, -, -⟩ := wr_st hp.1 (Nat.le_trans HZB.out H5.out.2.2.2)
   have HK := hideT (cm_keep HC4.out.1 (hp.2.2.1 wr.heap.size HC4.out.2).2)
   have HR5 := hideT ((H5.out.2.1.block r HL.out).trans HRZ.out)
   have HW5 : Hid (Below r w w5) := hideT (HWZ.out.trans (H5.out.2.1.mono (Nat.le_of_lt HL.out)))
   clear hp HC4 HH4 H4
   cases hc : cmW c with
   | some t =>
    have ec := (Wt.cm c).ok t hc l false
    rw [ec] at c2 H5 HCL
    have HA2 := hideT (show alW (cs.drop (k + 1)) (l ++ t) = alW cs l0 by rw [← HA.out, HDR.out, alW, hc])
    have HE2 := hideT (show l ++ t = [] → w5.cell? ⟨b, 1, none⟩ = some (.slice none 0 0) from fun e => by
     have := (cmS c (l, false)).1
     have h2 : (cmS c (l, false)).1 = [] := by rw [ec]; exact e
     unfold cmS at h2
     simp at h2)
    clear ec hc HK HR5 HW5
    go_wp2
    exact ⟨⟨k + 1, l ++ t, by omega, by go_num, H5, HA2, hideT (by have h1 : (l ++ t).length ≤ l.length + 100040 := HCL.out; have := HLN.out; omega), HE2⟩, by simp [intOf]; omega⟩
   | none =>
    have e2 := (Wt.cm c).no hc (l, false)
    rw [e2] at c2
    have HRR := hideT (show R = ([], 5, c.pl) by rw [← HR.out, ← HA.out, HDR.out, alW, hc])
    have k0 : w5.drew.cell? ⟨wr.heap.size, 0, none⟩ = some (.int .i64 (c.pl : Nat)) := HK.out.cell 0 rfl
    have r0 : w5.cell? ⟨r, 0, none⟩ = some (.int .i64 0) := by rw [Lib.cell_of_heap HR5.out]; rfl
    have r1 : w5.cell? ⟨r, 1, none⟩ = some (.int .i64 0) := by rw [Lib.cell_of_heap HR5.out]; rfl
    have f0 := Lib.frozen_of_heap HR5.out 0
    have f1 := Lib.frozen_of_heap HR5.out 1
    have HF := hideT (tpl.put2 HR5.out (.int .i64 5) (.int .i64 (c.pl : Nat)))
    have HB := hideT ((HW5.out.setCell (p := ⟨r, 0, none⟩) (Nat.le_refl _) (.int .i64 5)).setCell (p := ⟨r, 1, none⟩) (Nat.le_refl _) (.int .i64 (c.pl : Nat)))
    clear hc e2
    go_wp2_with fail
    go_region
    all_goals
     go_wp2
     refine bodyPost_ret (tpl.fault_result (b := r) (fr := (0, 0)) rfl rfl HF.out) rfl ?_
     rw [HRR.out]
     exact ⟨rfl, HB.out.drew⟩
  ·obtain rfl : k = cs.length := by omega
   have i1 : ((cs.length : Int) < (cs.length : Int)) = False := by rw [eq_iff_iff, iff_false]; omega
   have HRR := hideT (show R = (l, 0, 0) by have := HA.out; rw [List.drop_length, alW] at this; rw [← HR.out, ← this])
   go_wp2_with fail
   refine (wrT HV.out.1 HE.out).mono ?_
   rintro e w5 ⟨rfl, hb5⟩
   have HR5 := hideT ((hb5.block r HL.out).trans HRB.out)
   have HW5 : Hid (Below r w w5) := hideT (HWW.out.trans (hb5.mono (Nat.le_of_lt HL.out)))
   have r0 : w5.cell? ⟨r, 0, none⟩ = some (.int .i64 0) := by rw [Lib.cell_of_heap HR5.out]; rfl
   have r1 : w5.cell? ⟨r, 1, none⟩ = some (.int .i64 0) := by rw [Lib.cell_of_heap HR5.out]; rfl
   have f0 := Lib.frozen_of_heap HR5.out 0
   have f1 := Lib.frozen_of_heap HR5.out 1
   have HF := hideT (tpl.put2 HR5.out (.int .i64 0) (.int .i64 0))
   have HB := hideT ((HW5.out.setCell (p := ⟨r, 0, none⟩) (Nat.le_refl _) (.int .i64 0)).setCell (p := ⟨r, 1, none⟩) (Nat.le_refl _) (.int .i64 0))
   clear hb5
   go_wp2
   refine bodyPost_ret (tpl.fault_result (b := r) (fr := (0, 0)) rfl rfl HF.out) rfl ?_
   rw [HRR.out]
   exact ⟨rfl, HB.out⟩
theorem show_any (s : ByteArray) (hs : s.size ≤ 140737488355000) (w : World) (hg : Gl w) (hG : Gs w) (hw : 2 < w.heap.size) :
  Calls Tryz.prog 14 #[.string s] w fun e w' => e = .returned (.tuple #[.string (bst (shR gM s.data.toList).1), .agg #[.int .i64 ((shR gM s.data.toList).2.1 : Nat), .int .i64 ((shR gM s.data.toList).2.2 : Nat)]]) ∧ Below w.heap.size w w' := by
 generalize hR : shR gM s.data.toList = R
 unfold shR at hR
 have hX := (Below.refl w.heap.size w).alloc (Nat.le_refl _) (.cells #[.int .i64 0, .int .i64 0] 29)
 have HP := hideT (parse_reads s hs (w.alloc (.cells #[.int .i64 0, .int .i64 0] 29)) (hg.stay (F := fun _ => False) (Tch.of hX) (fun k h => h.elim)))
 have HG := hideT hG
 have HX := hideT hX
 have hn := heap_alloc_new w (.cells #[.int .i64 0, .int .i64 0] 29)
 clear hg hG hX
 go_enter Tryz.func14, Tryz.ntmps14
 go_upto_region 1 with fail
 generalize w.alloc (.cells #[.int .i64 0, .int .i64 0] 29) = X at *
 have HS := hideT (fun h0 : (scrR gM s.data.toList).2.2.1 = 0 => And.intro (scr_sz h0) (scr_wf h0))
 generalize scrR gM s.data.toList = P at *
 obtain ⟨cs, q, e, p⟩ := P
 simp only at hR HP HS
 go_wp2_with fail
 refine HP.out.mono ?_
 rintro e1 w1 ⟨v, rfl, hC, hb1⟩
 have HC := hideT (And.intro hC hb1)
 clear hC hb1 HP
 go_upto_region 2 with fail
 have hY := (Below.refl w1.heap.size w1).alloc (Nat.le_refl _) (.cells #[.int .i64 (e : Nat), .int .i64 (p : Nat)] 29)
 have hlt : w.heap.size < X.heap.size := (Array.getElem?_eq_some_iff.1 hn).1
 have hYn := heap_alloc_new w1 (.cells #[.int .i64 (e : Nat), .int .i64 (p : Nat)] 29)
 have hXY : Below X.heap.size X (w1.alloc (.cells #[.int .i64 (e : Nat), .int .i64 (p : Nat)] 29)) := HC.out.2.trans (hY.mono HC.out.2.size)
 have HCY := hideT (And.intro HC.out.1 (And.intro hY hXY))
 generalize w1.alloc (.cells #[.int .i64 (e : Nat), .int .i64 (p : Nat)] 29) = Y at *
 have hr := (hXY.block w.heap.size hlt).trans hn
 have r0 : Y.cell? ⟨w.heap.size, 0, none⟩ = some (.int .i64 0) := by rw [Lib.cell_of_heap hr]; rfl
 have r1 : Y.cell? ⟨w.heap.size, 1, none⟩ = some (.int .i64 0) := by rw [Lib.cell_of_heap hr]; rfl
 have f0 := Lib.frozen_of_heap hr 0
 have f1 := Lib.frozen_of_heap hr 1
 have y0 : Y.cell? ⟨w1.heap.size, 0, none⟩ = some (.int .i64 (e : Nat)) := by rw [Lib.cell_of_heap hYn]; rfl
 have y1 : Y.cell? ⟨w1.heap.size, 1, none⟩ = some (.int .i64 (p : Nat)) := by rw [Lib.cell_of_heap hYn]; rfl
 have HR0 := hideT hr
 have HW : Hid (Below w.heap.size w Y) := hideT (HX.out.trans (hXY.mono HX.out.size))
 clear hY hXY hYn hr hn hlt
 by_cases he : e = 0
 ·subst he
  rw [if_neg (by simp)] at hR
  have HR := hideT hR
  replace HS := hideT (HS.out rfl)
  have hYs := (Array.getElem?_eq_some_iff.1 HR0.out).1
  have hWn := heap_alloc_new Y (.cells #[.pointer none, .slice none 0 0, .bool false] 70)
  have hYZ := (Below.refl Y.heap.size Y).alloc (Nat.le_refl _) (.cells #[.pointer none, .slice none 0 0, .bool false] 70)
  have HZ := hideT (show Wr (Y.alloc (.cells #[.pointer none, .slice none 0 0, .bool false] 70)) Y.heap.size Y.heap.size [] false ∧ (Y.alloc (.cells #[.pointer none, .slice none 0 0, .bool false] 70)).cell? ⟨Y.heap.size, 1, none⟩ = some (.slice none 0 0) ∧ Below Y.heap.size Y (Y.alloc (.cells #[.pointer none, .slice none 0 0, .bool false] 70)) from
   ⟨⟨_, _, ⟨Nat.le_refl _, hWn, .inl rfl, World.ownsRow_nil _ _ _ _, by simp [Value.ownBlock]⟩⟩, by rw [Lib.cell_of_heap hWn]; rfl, hYZ⟩)
  have HL : Hid (w.heap.size < Y.heap.size) := hideT hYs
  clear hR hWn hYZ hYs y1 r0 r1 f0 f1
  go_upto_region 5 with fail
  generalize Y.alloc (.cells #[.pointer none, .slice none 0 0, .bool false] 70) = Z at *
  have HGZ : Hid (Gs Z) := hideT ((HG.out.below HW.out hw).below HZ.out.2.2 (by have := HL.out; omega))
  obtain ⟨l0, hl0⟩ : ∃ l0 : List UInt8, l0 = if q = true then [35, 110, 10] else [] := ⟨_, rfl⟩
  rw [← hl0] at HR
  have HL0 := hideT hl0
  clear hl0
  obtain ⟨pa, cp, ev, hrow⟩ := HCY.out.1
  subst ev
  have HRW := hideT hrow
  clear hrow y0
  generalize hb : Y.heap.size = b at *
  have HBB := hideT hb
  clear hb
  go_upto_if 20 with fail
  go_cut [5, 10, 12, 14, 15, 17, 18, 20] from 21 to 22 (fun s5 s10 s12 s14 s15 s17 s18 s20 w2 => Hid (WP Z b b l0 false w2 ∧ (l0 = [] → w2.cell? ⟨b, 1, none⟩ = some (.slice none 0 0))))
  case first =>
   cases hq : q with
   | true =>
    rw [hq] at HL0
    clear hq
    go_wp2_with fail
    refine (wrS HZ.out.1 (by rw [← HBB.out]; exact HZ.out.2.2.size) ⟨#[35, 110, 10]⟩ (by show 0 + 3 ≤ _; omega)).mono ?_
    rintro e w2 ⟨rfl, hp⟩
    have H2 : Hid (WP Z b b l0 false w2 ∧ (l0 = [] → w2.cell? ⟨b, 1, none⟩ = some (.slice none 0 0))) := hideT ⟨by rw [HL0.out]; exact hp, fun e => by rw [HL0.out] at e; cases e⟩
    clear hp
    go_wp2_with fail
    go_meet
    exact H2
   | false =>
    rw [hq] at HL0
    clear hq
    have H2 : Hid (WP Z b b l0 false Z ∧ (l0 = [] → Z.cell? ⟨b, 1, none⟩ = some (.slice none 0 0))) := hideT ⟨by rw [HL0.out]; exact WP.refl HZ.out.1, fun _ => HZ.out.2.1⟩
    go_wp2_with fail
    go_meet
    exact H2
  case rest =>
  have H2 := hcut
  have HL3 : Hid (l0.length ≤ 3) := hideT (by rw [HL0.out]; split <;> simp)
  have HB2 : Hid (2 < b) := hideT (by have := HL.out; omega)
  have HRZ := hideT ((HZ.out.2.2.block w.heap.size HL.out).trans HR0.out)
  have HWZ : Hid (Below w.heap.size w Z) := hideT (HW.out.trans (HZ.out.2.2.mono (Nat.le_of_lt HL.out)))
  have HZB : Hid (b ≤ Z.heap.size) := hideT (by rw [← HBB.out]; exact HZ.out.2.2.size)
  have HRZW : Hid (∀ k c, cs[k]? = some c → ∃ g o pv, pa = some ⟨g, o, none⟩ ∧ ∀ V, Below b Z V → V.rangeAt g (o + k * 19) (coV c pv) ∧ PRow V pv c.ps) := hideT (fun k c hc => by
   obtain ⟨g, o, pv, e, hrg, hpr⟩ := HRW.out k c hc
   have hle : w1.heap.size ≤ b := by rw [← HBB.out]; exact HCY.out.2.1.size
   refine ⟨g, o, pv, e, fun V hV => ?_⟩
   have hb : Below w1.heap.size w1 V := (HCY.out.2.1.trans (HZ.out.2.2.mono hle)).trans (hV.mono hle)
   exact ⟨xdr hrg (hb.block g (xic hrg)), hpr.stay hb (Nat.le_refl _)⟩)
  rename_i K hK
  refine hK _ _ ?_
  exact show_loop _ _ _ _ _ _ _ _ _ _ _ _ _ _ _ _ _ _ _ _ _ _ _ _ _ _ _ _ _ _ _ _ _ _ _ _ _ w Z wc b w.heap.size cp pa cs l0 R H2 HL3 HR HL HB2 HRZ HWZ HGZ HZB HRZW HS
 ·have e1 : (((e : Nat) : Int) != 0) = true := by simp; omega
  have e2 : (((e : Nat) : Int) == 0) = false := by simp; omega
  rw [if_pos he] at hR
  have HR := hideT hR
  have HF := hideT (tpl.put2 HR0.out (.int .i64 (e : Nat)) (.int .i64 (p : Nat)))
  have HB := hideT ((HW.out.setCell (p := ⟨w.heap.size, 0, none⟩) (Nat.le_refl _) (.int .i64 (e : Nat))).setCell (p := ⟨w.heap.size, 1, none⟩) (Nat.le_refl _) (.int .i64 (p : Nat)))
  clear hR he HC HCY
  go_wp2_with fail
  go_region
  all_goals
   go_wp2
   refine bodyPost_ret (tpl.fault_result (b := w.heap.size) (fr := (0, 0)) rfl rfl HF.out) rfl ?_
   rw [← HR.out]
   exact ⟨rfl, HB.out.drew⟩
end sho
end Go.Proofs.YtidgnebbibkmhaaGreatDoor
namespace Go.Proofs.YtidgnebbibkmhaaGreatDoor
open Go.RowKit
open scanP scrP tpl ytb
namespace sho
theorem same_cmd (c : Co) (q : Nat) (pv qv : Value) (W : World) (h : PRow W pv c.ps) (h' : PRow W qv c.ps) (hl : c.ps.length ≤ 1000000000000000) : Calls Tryz.prog 17 #[.agg (coV c pv).toArray, .agg (coV { c with pl := q } qv).toArray, .bool false] W fun e w' => e = .returned (.bool true) ∧ Below W.heap.size W w' := by
 have HH := hideT (And.intro h h')
 have HL := hideT hl
 clear h h' hl
 go_enter Tryz.func17, Tryz.ntmps17
 go_upto_region 1 with fail
 have hb : Below W.heap.size W ((W.alloc (.cells (coV c pv).toArray 39)).alloc (.cells (coV { c with pl := q } qv).toArray 39)) := ((Below.refl _ _).alloc (Nat.le_refl _) _).alloc (by simp) _
 have hk1 : CmAt ((W.alloc (.cells (coV c pv).toArray 39)).alloc (.cells (coV { c with pl := q } qv).toArray 39)) W.heap.size (coV c pv) := (Below.heap_alloc _ _ _ (by simp)).trans (heap_alloc_new W _)
 have hk2 : CmAt ((W.alloc (.cells (coV c pv).toArray 39)).alloc (.cells (coV { c with pl := q } qv).toArray 39)) (W.heap.size + 1) (coV { c with pl := q } qv) := by
  have h1 := heap_alloc_new (W.alloc (.cells (coV c pv).toArray 39)) (.cells (coV { c with pl := q } qv).toArray 39)
  rw [World.size_alloc] at h1
  exact h1
 obtain ⟨X, hX⟩ : ∃ X, X = ((W.alloc (.cells (coV c pv).toArray 39)).alloc (.cells (coV { c with pl := q } qv).toArray 39)) := ⟨_, rfl⟩
 rw [← hX] at hb hk1 hk2 ⊢
 obtain ⟨N, hN⟩ : ∃ N, N = W.heap.size := ⟨_, rfl⟩
 rw [← hN] at hk1 hk2 ⊢
 have HXB := hideT hb
 have HX1 := hideT hk1
 have HX2 := hideT hk2
 have p1 := hk1.cell 13 (v := pv) rfl
 have p2 := hk2.cell 13 (v := qv) rfl
 have HPS := hideT (parts_same pv qv c.ps X (HH.out.1.stay hb (Nat.le_refl _)) (HH.out.2.stay hb (Nat.le_refl _)) (by have := HL.out; omega))
 have HNN := hideT hN
 clear hX hb hk1 hk2 hN
 go_wp2_with fail
 refine HPS.out.mono ?_
 rintro e w1 ⟨rfl, hb1⟩
 have HK1 := hideT (cm_keep HX1.out (hb1.block N (Array.getElem?_eq_some_iff.1 HX1.out).1))
 have HK2 := hideT (cm_keep HX2.out (hb1.block (N + 1) (Array.getElem?_eq_some_iff.1 HX2.out).1))
 have HF := hideT (HXB.out.trans (hb1.mono HXB.out.size))
 clear hb1 p1 p2 HPS
 have a1 := HK1.out.cell 1 (v := .int .i64 (c.a.k : Nat)) rfl
 have d1 := HK2.out.cell 1 (v := .int .i64 (c.a.k : Nat)) rfl
 have a2 := HK1.out.cell 2 (v := .int .i64 (c.a.ln : Nat)) rfl
 have d2 := HK2.out.cell 2 (v := .int .i64 (c.a.ln : Nat)) rfl
 have a3 := HK1.out.cell 3 (v := .string (bst c.a.re)) rfl
 have d3 := HK2.out.cell 3 (v := .string (bst c.a.re)) rfl
 have a4 := HK1.out.cell 4 (v := .int .i64 (c.b.k : Nat)) rfl
 have d4 := HK2.out.cell 4 (v := .int .i64 (c.b.k : Nat)) rfl
 have a5 := HK1.out.cell 5 (v := .int .i64 (c.b.ln : Nat)) rfl
 have d5 := HK2.out.cell 5 (v := .int .i64 (c.b.ln : Nat)) rfl
 have a6 := HK1.out.cell 6 (v := .string (bst c.b.re)) rfl
 have d6 := HK2.out.cell 6 (v := .string (bst c.b.re)) rfl
 have a7 := HK1.out.cell 7 (v := .bool c.nt) rfl
 have d7 := HK2.out.cell 7 (v := .bool c.nt) rfl
 have a8 := HK1.out.cell 8 (v := .int .u8 (c.nm.toNat : Nat)) rfl
 have d8 := HK2.out.cell 8 (v := .int .u8 (c.nm.toNat : Nat)) rfl
 have a9 := HK1.out.cell 9 (v := .string (bst c.lb)) rfl
 have d9 := HK2.out.cell 9 (v := .string (bst c.lb)) rfl
 have a10 := HK1.out.cell 10 (v := .string (bst c.tx)) rfl
 have d10 := HK2.out.cell 10 (v := .string (bst c.tx)) rfl
 have a11 := HK1.out.cell 11 (v := .string (bst c.fl)) rfl
 have d11 := HK2.out.cell 11 (v := .string (bst c.fl)) rfl
 have a12 := HK1.out.cell 12 (v := .string (bst c.re)) rfl
 have d12 := HK2.out.cell 12 (v := .string (bst c.re)) rfl
 have a14 := HK1.out.cell 14 (v := .int .i64 (c.nh : Nat)) rfl
 have d14 := HK2.out.cell 14 (v := .int .i64 (c.nh : Nat)) rfl
 have a15 := HK1.out.cell 15 (v := .bool c.an) rfl
 have d15 := HK2.out.cell 15 (v := .bool c.an) rfl
 have a16 := HK1.out.cell 16 (v := .bool c.pr) rfl
 have d16 := HK2.out.cell 16 (v := .bool c.pr) rfl
 have a17 := HK1.out.cell 17 (v := .string (bst c.fr)) rfl
 have d17 := HK2.out.cell 17 (v := .string (bst c.fr)) rfl
 have a18 := HK1.out.cell 18 (v := .string (bst c.to)) rfl
 have d18 := HK2.out.cell 18 (v := .string (bst c.to)) rfl
 clear HK1 HK2 HX1 HX2 HH
 go_wp2
 go_ret
 exact ⟨rfl, HF.out⟩
theorem load_yield {g o : Nat} {c : Co} {pv : Value} {V : World} {a : Act} {op : Oper} {x : Operand} (ho : op.op = .load 39 x) (hx : a.eval x = .pointer (some ⟨g, o, none⟩)) (h : V.rangeAt g o (coV c pv)) : (execOp a.eval op).run Tryz.prog V = .ok (.value (.agg (coV c pv).toArray)) V := by
 have h1 := run_loadAt_mid (P := Tryz.prog) V g o 39 (coV c pv) _ h xc9 rfl (by rw [xcm]; rfl)
 simp [execOp, ho, hx, h1]
theorem sameList_any (a b : Value) (l m : List Co) (W : World) (ha : CRow W a l) (hb : CRow W b m) (hm : m.map nfC = l.map nfC) (hp : ∀ c ∈ l, c.ps.length ≤ 1000000000000000) (hl : l.length ≤ 100000000) : Calls Tryz.prog 15 #[a, b, .bool false] W fun e w' => e = .returned (.bool true) ∧ Below W.heap.size W w' := by
 obtain ⟨pa, ca, rfl, ha⟩ := ha
 obtain ⟨pb, cb, rfl, hb⟩ := hb
 have hml : m.length = l.length := by have := congrArg List.length hm; simpa using this
 rw [hml]
 have HM := hideT hm
 have HML := hideT hml
 clear hm hml
 have HA := hideT ha
 have HB := hideT hb
 have HP := hideT hp
 clear ha hb hp
 go_enter Tryz.func15, Tryz.ntmps15
 go_wp2_with fail
 go_loopw [7] (fun i wr => ∃ k : Nat, k ≤ l.length ∧ i = .int .i64 k ∧ Hid (Below W.heap.size W wr)) (fun i _ => l.length - (intOf i).toNat)
 case atStart => exact ⟨0, by omega, rfl, hideT (Below.refl _ _)⟩
 case round =>
  obtain ⟨k, hk, rfl, HW⟩ := hrel
  by_cases hlt : k < l.length
  ·obtain ⟨g, o, pv, rfl, a1, u1⟩ := HA.out k _ (List.getElem?_eq_getElem hlt)
   obtain ⟨d, hd, hd2⟩ : ∃ d, m[k]? = some d ∧ nfC d = nfC (l[k]'hlt) := by
    have h1 := congrArg (·[k]?) HM.out
    simp only [List.getElem?_map, List.getElem?_eq_getElem hlt, Option.map_some] at h1
    obtain ⟨d, e1, e2⟩ := Option.map_eq_some_iff.1 h1
    exact ⟨d, e1, e2⟩
   obtain ⟨g2, o2, qv, rfl, b1, u2⟩ := HB.out k _ hd
   obtain ⟨q, rfl⟩ : ∃ q, d = { (l[k]'hlt) with pl := q } := ⟨d.pl, by
    generalize (l[k]'hlt) = c at hd2
    obtain ⟨p1, p2, p3, p4, p5, p6, p7, p8, p9, p10, p11, p12, p13, p14, p15⟩ := d
    obtain ⟨q1, q2, q3, q4, q5, q6, q7, q8, q9, q10, q11, q12, q13, q14, q15⟩ := c
    simp only [nfC, Co.mk.injEq, true_and] at hd2 ⊢
    exact hd2⟩
   have hpk := HP.out _ (List.getElem_mem hlt)
   generalize (l[k]'hlt) = c at *
   have i1 : (k : Int) < (l.length : Int) := by omega
   have i2 : (0 : Int) ≤ (k : Int) := by omega
   have q1 := xdr a1 (HW.out.block g (xic a1))
   have q2 := xdr b1 (HW.out.block g2 (xic b1))
   have HR1 := hideT (fun (V : World) (hV : Below wr.heap.size wr V) => xdr q1 (hV.block g (xic q1)))
   have HR2 := hideT (fun (V : World) (hV : Below wr.heap.size wr V) => xdr q2 (hV.block g2 (xic q2)))
   have s0 : Below wr.heap.size wr wr.drew := (Below.refl _ _).drew
   have HS := hideT (same_cmd c q pv qv wr.drew ((u1.stay HW.out (Nat.le_refl _)).stay s0 (Nat.le_refl _)) ((u2.stay HW.out (Nat.le_refl _)).stay s0 (Nat.le_refl _)) hpk)
   clear a1 b1 u1 u2 hpk q1 q2 hd hd2
   go_wp2_with fail
   refine wp_region_held (S := fun V => Below wr.heap.size wr V) (by kernel_rfl) ?_
   refine' take_d 0 (some 19) rfl rfl (by kernel_rfl) (by kernel_rfl) (by kernel_rfl) (fun _ _ _ h => h) (wanted_none rfl _) s0 ?tk1 ?rs1
   case tk1 => intro V hV; go_simp; (try with_reducible rfl)
   refine' take_d 1 (some 20) rfl rfl (by kernel_rfl) (by kernel_rfl) (by kernel_rfl) (fun _ _ _ h => h) (wanted_none rfl _) s0 ?tk2 ?rs2
   case tk2 => intro V hV; go_simp; (try with_reducible rfl)
   refine' take_d 2 (some 21) rfl rfl (by kernel_rfl) (by kernel_rfl) (by kernel_rfl) (fun _ _ _ h => h) (wanted_none rfl _) s0 ?tk3 ?rs3
   case tk3 => intro V hV; go_simp; (try with_reducible rfl)
   simp only [Act.put, List.setIfInBounds_toArray, List.set_cons_zero, List.set_cons_succ]
   refine' take_d 3 (some 22) rfl rfl (by kernel_rfl) (by kernel_rfl) (by kernel_rfl) (fun _ _ _ h => h) (wanted_none rfl _) s0 ?tk4 ?rs4
   case tk4 => intro V hV; exact load_yield rfl rfl (HR1.out V hV)
   refine' take_d 4 (some 23) rfl rfl (by kernel_rfl) (by kernel_rfl) (by kernel_rfl) (fun _ _ _ h => h) (wanted_none rfl _) s0 ?tk5 ?rs5
   case tk5 => intro V hV; go_simp; (try with_reducible rfl)
   refine' take_d 5 (some 24) rfl rfl (by kernel_rfl) (by kernel_rfl) (by kernel_rfl) (fun _ _ _ h => h) (wanted_none rfl _) s0 ?tk6 ?rs6
   case tk6 => intro V hV; go_simp; (try with_reducible rfl)
   refine' take_d 6 (some 25) rfl rfl (by kernel_rfl) (by kernel_rfl) (by kernel_rfl) (fun _ _ _ h => h) (wanted_none rfl _) s0 ?tk7 ?rs7
   case tk7 => intro V hV; go_simp; (try with_reducible rfl)
   simp only [Act.put, List.setIfInBounds_toArray, List.set_cons_zero, List.set_cons_succ]
   refine' take_d 7 (some 26) rfl rfl (by kernel_rfl) (by kernel_rfl) (by kernel_rfl) (fun _ _ _ h => h) (wanted_none rfl _) s0 ?tk8 ?rs8
   case tk8 => intro V hV; exact load_yield rfl rfl (HR2.out V hV)
   refine' take_d 8 (some 27) rfl rfl (by kernel_rfl) (by kernel_rfl) (by kernel_rfl) (fun _ _ _ h => h) (wanted_none rfl _) s0 ?tk9 ?rs9
   case tk9 => intro V hV; go_simp; (try with_reducible rfl)
   simp only [Act.put, List.setIfInBounds_toArray, List.set_cons_zero, List.set_cons_succ]
   refine wpAnyH_all (rs := [9]) (by kernel_rfl) (by simp) (fun i hi => ?_)
   obtain rfl : i = 9 := List.mem_singleton.1 hi
   refine xp8 (some 28) rfl rfl (wanted_none rfl _) (by go_simp; (try with_reducible rfl)) (R := fun v w' => v = .bool true ∧ Below wr.heap.size wr w') (HS.out.mono (fun e w' h => ⟨_, h.1, rfl, s0.trans (h.2.mono s0.size)⟩)) ?_
   rintro v8 w8 ⟨rfl, hb8⟩
   refine And.intro hb8 ?_
   refine' take_d 10 (some 29) rfl rfl (by kernel_rfl) (by kernel_rfl) (by kernel_rfl) (fun _ _ _ h => h) (wanted_none rfl _) hb8 ?tk10 ?rs10
   case tk10 => intro V hV; go_simp; (try with_reducible rfl)
   refine wpAnyH_done (by kernel_rfl) ?_ _
   simp only [Act.put, List.setIfInBounds_toArray, List.set_cons_zero, List.set_cons_succ]
   have HF := hideT (HW.out.trans (hb8.mono HW.out.size))
   clear hb8 s0 HS HR1 HR2
   go_wp2
   exact ⟨⟨k + 1, by omega, by go_num, HF⟩, by simp [intOf]; omega⟩
  ·obtain rfl : k = l.length := by omega
   have i1 : ((l.length : Int) < (l.length : Int)) = False := by rw [eq_iff_iff, iff_false]; omega
   go_wp2
   go_ret
   exact ⟨rfl, HW.out⟩
theorem tok_97 : br.tokenT (bst [97]) 0 4 = br.selfT 97 0 1 := by
 unfold br.tokenT
 rw [if_neg (by decide), if_neg (by decide), if_neg (by decide), if_neg (by decide), if_neg (by decide), if_neg (by decide)]
 rfl
theorem g_97 : ∃ g : Gr, gM = fun t => if t = [97] then (0, 0) else g t := ⟨gM, funext fun t => by
 split
 ·rename_i h; rw [h]; exact g_one 97 97 tok_97
 ·rfl⟩
def aw1 : Co := ⟨9, ⟨1, 1, []⟩, ⟨1, 2, []⟩, true, 112, [], [], [], [], [], 0, false, false, [], []⟩
def aw2 : Co := ⟨13, adr0, adr0, false, 115, [], [], [], [97], [⟨-1, bst [98]⟩], 1, false, false, [], []⟩
theorem scr_aw : scrR gM [32, 49, 32, 44, 32, 50, 32, 33, 32, 112, 32, 59, 32, 115, 44, 97, 44, 98, 44, 32] = ([aw1, aw2], false, 0, 0) := by
 obtain ⟨g, h⟩ := g_97
 rw [h]
 kernel_rfl
theorem scr_k : scrR gM [107] = ([], false, 18, 0) := by
 obtain ⟨g, h⟩ := g_97
 rw [h]
 kernel_rfl
theorem dec_1 (n : Nat) (h : n < 10) : Lib.decDigits n = [UInt8.ofNat (48 + n)] := by rw [Lib.decDigits, dif_pos h]
theorem sh_aw : shR gM [32, 49, 32, 44, 32, 50, 32, 33, 32, 112, 32, 59, 32, 115, 44, 97, 44, 98, 44, 32] = ([49, 44, 50, 33, 112, 10, 115, 47, 97, 47, 98, 47, 10], 0, 0) := by
 have e1 : cmW aw1 = some [49, 44, 50, 33, 112, 10] := by
  have h1 : adW aw1.a = some [49] := by unfold adW; rw [if_pos (show aw1.a.k = 1 from rfl)]; exact congrArg some (dec_1 1 (by decide))
  have h2 : abW aw1 = some [44, 50] := by
   have : adW aw1.b = some [50] := by unfold adW; rw [if_pos (show aw1.b.k = 1 from rfl)]; exact congrArg some (dec_1 2 (by decide))
   unfold abW
   rw [if_neg (by decide), this]
   rfl
  unfold cmW
  rw [h1, h2]
  rfl
 have e2 : cmW aw2 = some [115, 47, 97, 47, 98, 47, 10] := by kernel_rfl
 unfold shR
 rw [scr_aw]
 simp only [ne_eq, not_true, if_false, alW, e1, e2]
 rfl
theorem sh_k : shR gM [107] = ([], 18, 0) := by
 unfold shR
 rw [scr_k]
 rfl
theorem awake_any (w : World) (hg : Gl w) (hG : Gs w) (hw : 2 < w.heap.size) : Calls Tryz.prog 13 #[] w fun e w' => e = .returned (.bool true) ∧ Below w.heap.size w w' := by
 have HA := hideT (show_any ⟨#[32, 49, 32, 44, 32, 50, 32, 33, 32, 112, 32, 59, 32, 115, 44, 97, 44, 98, 44, 32]⟩ (by decide) w hg hG hw)
 rw [show (⟨#[32, 49, 32, 44, 32, 50, 32, 33, 32, 112, 32, 59, 32, 115, 44, 97, 44, 98, 44, 32]⟩ : ByteArray).data.toList = [32, 49, 32, 44, 32, 50, 32, 33, 32, 112, 32, 59, 32, 115, 44, 97, 44, 98, 44, 32] from rfl, sh_aw, show bst [49, 44, 50, 33, 112, 10, 115, 47, 97, 47, 98, 47, 10] = ⟨#[49, 44, 50, 33, 112, 10, 115, 47, 97, 47, 98, 47, 10]⟩ from rfl] at HA
 have HB := hideT (fun V (hV : Below w.heap.size w V) => show_any ⟨#[107]⟩ (by decide) V (hg.stay (F := fun _ => False) (Tch.of hV) (fun k h => h.elim)) (hG.below hV hw) (Nat.lt_of_lt_of_le hw hV.size))
 rw [show (⟨#[107]⟩ : ByteArray).data.toList = [107] from rfl, sh_k, show bst [] = ⟨#[]⟩ from rfl] at HB
 clear hg hG
 go_enter Tryz.func13, Tryz.ntmps13
 go_wp2_with fail
 refine HA.out.mono ?_
 rintro e w1 ⟨rfl, hb1⟩
 have hA := (Below.refl w1.heap.size w1).alloc (Nat.le_refl _) (.cells #[.int .i64 0, .int .i64 0] 29)
 have hn := heap_alloc_new w1 (.cells #[.int .i64 0, .int .i64 0] 29)
 have H1 := hideT (hb1.trans (hA.mono hb1.size))
 clear hb1 hA
 go_upto_region 2 with fail
 generalize w1.alloc (.cells #[.int .i64 0, .int .i64 0] 29) = X at *
 have hlt := (Array.getElem?_eq_some_iff.1 hn).1
 go_wp2_with fail
 refine (HB.out X H1.out).mono ?_
 rintro e w2 ⟨rfl, hb2⟩
 have hA := (Below.refl w2.heap.size w2).alloc (Nat.le_refl _) (.cells #[.int .i64 18, .int .i64 0] 29)
 have hn2 := heap_alloc_new w2 (.cells #[.int .i64 18, .int .i64 0] 29)
 have hX2 : Below X.heap.size X (w2.alloc (.cells #[.int .i64 18, .int .i64 0] 29)) := hb2.trans (hA.mono hb2.size)
 go_upto_region 3 with fail
 generalize w2.alloc (.cells #[.int .i64 18, .int .i64 0] 29) = Y at *
 have hy := (hX2.block w1.heap.size hlt).trans hn
 have y0 : Y.cell? ⟨w1.heap.size, 0, none⟩ = some (.int .i64 0) := by rw [Lib.cell_of_heap hy]; rfl
 have z0 : Y.cell? ⟨w2.heap.size, 0, none⟩ = some (.int .i64 18) := by rw [Lib.cell_of_heap hn2]; rfl
 have z1 : Y.cell? ⟨w2.heap.size, 1, none⟩ = some (.int .i64 0) := by rw [Lib.cell_of_heap hn2]; rfl
 have HF := hideT (H1.out.trans (hX2.mono H1.out.size))
 clear hA hb2 hX2 hlt hn hn2 hy
 go_wp2
 go_ret
 exact ⟨rfl, HF.out⟩
end sho
end Go.Proofs.YtidgnebbibkmhaaGreatDoor
