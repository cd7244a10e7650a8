/- listing: the document's plain. -/
import Derived.Test.YtiegmgcdfafhiaaDoorHp
import Derived.Test.YtiegmgcdfafhiaaDoorHj
namespace Go.Proofs.YtiegmgcdfafhiaaDoor
open Go.RowKit

/-- The text of escapes, behind what is read; none: they are none. -/
def plR : List UInt8 → List UInt8 → Option (List UInt8)
  | [], acc => some acc
  | x :: r, acc =>
    if x.toNat ≠ 92 then plR r (acc ++ [x])
    else match r with
      | [] => none
      | y :: q => if 0 ≤ letR y then plR q (acc ++ [UInt8.ofNat (letR y).toNat])
        else match q with
          | z :: v :: q' => match octN y z v with
            | some n => plR q' (acc ++ [UInt8.ofNat n])
            | none => none
          | _ => none
  termination_by l => l.length
theorem pl_nil (acc : List UInt8) : plR [] acc = some acc := by unfold plR; rfl
theorem pl_one (x : UInt8) (r acc : List UInt8) (h : x.toNat ≠ 92) : plR (x :: r) acc = plR r (acc ++ [x]) := by
  rw [plR.eq_def]
  dsimp only
  rw [if_pos h]
theorem pl_end (x : UInt8) (acc : List UInt8) (h : x.toNat = 92) : plR [x] acc = none := by
  rw [plR.eq_def]
  dsimp only
  rw [if_neg (by omega)]
theorem pl_let (x y : UInt8) (q acc : List UInt8) (h : x.toNat = 92) (h2 : 0 ≤ letR y) : plR (x :: y :: q) acc = plR q (acc ++ [UInt8.ofNat (letR y).toNat]) := by
  rw [plR.eq_def]
  dsimp only
  rw [if_neg (by omega), if_pos h2]
theorem pl_oct (x y z v : UInt8) (q acc : List UInt8) (h : x.toNat = 92) (h2 : ¬ 0 ≤ letR y) : plR (x :: y :: z :: v :: q) acc = match octN y z v with | some n => plR q (acc ++ [UInt8.ofNat n]) | none => none := by
  rw [plR.eq_def]
  dsimp only
  rw [if_neg (by omega), if_neg h2]
theorem pl_short (x y : UInt8) (q acc : List UInt8) (h : x.toNat = 92) (h2 : ¬ 0 ≤ letR y) (h3 : q.length ≤ 1) : plR (x :: y :: q) acc = none := by
  rw [plR.eq_def]
  dsimp only
  rw [if_neg (by omega), if_neg h2]
  match q, h3 with
  | [], _ => rfl
  | [_], _ => rfl
  | _ :: _ :: _, h => simp at h
theorem let_in (y : UInt8) : letR y ≤ 255 ∧ -1 ≤ letR y := by
  unfold letR
  split
  · omega
  · split <;> omega

/-- What was written is read. -/
theorem pl_esc (b : UInt8) (r acc : List UInt8) : plR (escB b ++ r) acc = plR r (acc ++ [b]) := by
  by_cases h1 : b.toNat = 92
  · have e : b = 92 := UInt8.toNat_inj.1 h1
    subst e
    have hl : letR 92 = 92 := by decide
    rw [esc_bs 92 rfl]
    show plR (92 :: 92 :: r) acc = _
    rw [pl_let 92 92 r acc rfl (by rw [hl]; omega), hl]
    rfl
  by_cases h2 : 7 ≤ b.toNat ∧ b.toNat ≤ 13
  · rw [esc_let b h2]
    have h3 : ∀ n : Fin 7, letR (([97, 98, 116, 110, 118, 102, 114] : List UInt8).getD n.val 0) = ((7 + n.val : Nat) : Int) := by decide
    have h4 := h3 ⟨b.toNat - 7, by omega⟩
    simp only at h4
    show plR (92 :: ([97, 98, 116, 110, 118, 102, 114] : List UInt8).getD (b.toNat - 7) 0 :: r) acc = _
    rw [pl_let _ _ _ _ rfl (by rw [h4]; omega), h4]
    have e : UInt8.ofNat (((7 + (b.toNat - 7) : Nat) : Int)).toNat = b := by
      rw [Int.toNat_natCast, show 7 + (b.toNat - 7) = b.toNat by omega]
      simp
    rw [e]
  by_cases h3 : 32 ≤ b.toNat ∧ b.toNat ≤ 126
  · rw [esc_pl b h3 h1]
    exact pl_one b r acc h1
  · have hu := unesc_esc b r
    rw [esc_oct b h1 h2 h3] at hu ⊢
    obtain ⟨t1, t2, t3⟩ := oct_val b
    have hbl := b.toNat_lt
    have ho : octN (UInt8.ofNat (48 + b.toNat / 64)) (UInt8.ofNat (48 + b.toNat / 8 % 8)) (UInt8.ofNat (48 + b.toNat % 8)) = some b.toNat := by
      unfold octN
      rw [t1, t2, t3, if_pos (by omega)]
      dsimp only
      rw [if_pos (by omega)]
      congr 1
      omega
    have hl : ∀ n : Fin 4, ¬ (0 : Int) ≤ letR (UInt8.ofNat (48 + n.val)) := by decide
    have hl2 := hl ⟨b.toNat / 64, by omega⟩
    show plR (92 :: UInt8.ofNat (48 + b.toNat / 64) :: UInt8.ofNat (48 + b.toNat / 8 % 8) :: UInt8.ofNat (48 + b.toNat % 8) :: r) acc = _
    rw [pl_oct _ _ _ _ _ _ rfl hl2, ho]
    show plR r (acc ++ [UInt8.ofNat b.toNat]) = _
    simp
theorem pl_all (t acc : List UInt8) : plR (escT t) acc = some (acc ++ t) := by
  induction t generalizing acc with
  | nil => rw [escT, pl_nil]; simp
  | cons b r ih => rw [escT, pl_esc, ih]; simp

/-- How it is answered. -/
def plV (o : Option (List UInt8)) : Value := match o with
  | some l => .tuple #[.string (bst l), .bool true]
  | none => .tuple #[.string ⟨#[]⟩, .bool false]

theorem ext_mid (s : ByteArray) (k : Nat) (h : k + 3 < s.size) : (s.extract (k + 1) (k + 4)).data.toList = [s[k + 1]'(by omega), s[k + 2]'(by omega), s[k + 3]'h] := by
  simp only [ByteArray.data_extract, Array.toList_extract, List.extract_eq_take_drop]
  have h1 := drop_at s (k + 1) (by omega)
  have h2 := drop_at s (k + 2) (by omega)
  have h3 := drop_at s (k + 3) h
  have e : s.data.toList.drop (k + 1) = (s[k + 1]'(by omega)) :: (s[k + 2]'(by omega)) :: (s[k + 3]'h) :: s.data.toList.drop (k + 4) := h1.trans (congrArg _ (h2.trans (congrArg _ h3)))
  rw [e, show k + 4 - (k + 1) = 3 by omega]
  rfl

set_option maxRecDepth 100000 in
set_option maxHeartbeats 4000000 in
theorem plain_any (s : ByteArray) (hs : s.size ≤ 1073741824) (w : World) : Calls Tryd.prog 21 #[.string s] w fun e w' => e = .returned (plV (plR s.data.toList [])) ∧ Below w.heap.size w w' := by
  have hlen : s.data.toList.length = s.size := rfl
  obtain ⟨i0, hi, hz0, hz1, hz2⟩ := info_parts info5
  generalize hR : plR s.data.toList [] = R
  have HR := hideT hR
  clear hR
  go_enter Tryd.func21, Tryd.ntmps21
  go_wp2_with fail
  go_loopw [4, 5] (fun v i wr => ∃ (k : Nat) (l : List UInt8), k ≤ s.size ∧ i = .int .i64 k ∧ wr.ownsRow w.heap.size 5 1 v l.length (Lib.byteCells l) ∧ Below w.heap.size w wr ∧ Hid (plR (s.data.toList.drop k) l = R) ∧ l.length ≤ k) (fun _ i _ => s.size - (intOf i).toNat)
  case atStart => exact ⟨0, [], by omega, rfl, World.ownsRow_nil _ _ _ _, Below.refl _ _, hideT (by rw [← HR.out]; simp), by simp⟩
  case round =>
    obtain ⟨k, l, hk, rfl, hO, hB, HQ, hl⟩ := hrel
    obtain ⟨va, vc, rfl⟩ := owns_shape hO
    have HO0 := hideT (And.intro hO hB)
    have hq := HQ.out
    clear hO hB HQ HR
    by_cases hlt : k < s.size
    · have i1 : (k : Int) < (s.size : Int) := by omega
      have i2 : (0 : Int) ≤ (k : Int) := by omega
      have hbl := (s[k]'hlt).toNat_lt
      rw [drop_at s k hlt] at hq
      by_cases h1 : (s[k]'hlt).toNat = 92
      · have e1 : (((s[k]'hlt).toNat : Int) == 92) = true := by rw [beq_iff_eq]; omega
        by_cases h2 : k + 1 = s.size
        · rw [show s.data.toList.drop (k + 1) = [] by rw [List.drop_eq_nil_iff, hlen]; omega, pl_end _ _ h1] at hq
          have e2 : ((k : Int) + 1 == (s.size : Int)) = true := by rw [beq_iff_eq]; omega
          obtain rfl := hq
          clear h2
          go_wp2
          go_ret2
          exact ⟨rfl, HO0.out.2⟩
        · have hlt2 : k + 1 < s.size := by omega
          have e2 : ((k : Int) + 1 == (s.size : Int)) = false := by rw [beq_eq_false_iff_ne]; omega
          have i5 : (k : Int) + 1 < (s.size : Int) := by omega
          have i6 : (0 : Int) ≤ (k : Int) + 1 := by omega
          have HL := hideT (letter_any (s[k + 1]'hlt2) wr)
          have hli := let_in (s[k + 1]'hlt2)
          by_cases h3 : 0 ≤ letR (s[k + 1]'hlt2)
          · rw [drop_at s (k + 1) hlt2, pl_let _ _ _ _ h1 h3] at hq
            obtain ⟨c, hc⟩ : ∃ c : UInt8, c = UInt8.ofNat (letR (s[k + 1]'hlt2)).toNat := ⟨_, rfl⟩
            have hcv : letR (s[k + 1]'hlt2) = (c.toNat : Int) := by rw [hc, UInt8.toNat_ofNat', Nat.mod_eq_of_lt (by omega)]; omega
            rw [← hc] at hq
            rw [hcv] at HL
            have HU := hideT hq
            have hcl := c.toNat_lt
            have j1 : (0 : Int) ≤ (c.toNat : Int) := by omega
            have j2 : decide ((c.toNat : Int) < 0) = false := decide_eq_false (by omega)
            have j3 : decide ((255 : Int) < (c.toNat : Int)) = false := decide_eq_false (by omega)
            have j4 : IntKind.u8.wrap (c.toNat : Int) = (c.toNat : Int) := by rw [IntKind.wrap_u8]; omega
            clear hq hc hcv hli h3 h2
            go_wp2_with fail
            refine HL.out.mono ?_
            rintro e X ⟨rfl, hb1⟩
            have HO := hideT (And.intro (owns_below HO0.out.1 hb1) (HO0.out.2.trans (hb1.mono HO0.out.2.size)))
            clear hb1
            have HA := hideT ((Below.refl X.heap.size X).alloc (Nat.le_refl _) (.cells #[.int .u8 ((c.toNat : Nat))] 5))
            have HN := hideT (new_cells X [.int .u8 ((c.toNat : Nat))] 5)
            go_wp2_with (at_builtin; refine wpList_append_lies _ rfl _ _ 42 rfl w.heap.size 5 i0 _ 1 1 undB hi hz0 hz1 hz2 rfl (by omega) (.slice va l.length vc) l.length (Lib.byteCells l) rfl (owns_below HO.out.1 HA.out) ⟨X.heap.size, 0, none⟩ 1 1 [.int .u8 ((c.toNat : Nat))] rfl rfl (fun j u hj => HN.out j u hj) (by simp [Value.oneCell']) (by omega) (by unfold maxLen; omega) (by omega) (by have := HO.out.2.size; simp; omega) _ rfl ?_)
            intro g gc w2 hown' hgrow hat hglt
            have HF := hideT (And.intro hown' ((HO.out.2.trans (HA.out.mono HO.out.2.size)).grown hgrow (by have := HO.out.2.size; have := HA.out.size; omega) (fun k hk => (HO.out.1.lt k hk).1)))
            clear hown' hgrow hat hglt
            go_wp2
            refine ⟨⟨k + 2, l ++ [c], by omega, by go_num, ?_, HF.out.2, HU, by simp; omega⟩, by simp [intOf]; omega⟩
            rw [cells_app, List.length_append]
            exact HF.out.1
          · have d0 : ((0 : Int) ≤ letR (s[k + 1]'hlt2)) = False := by rw [eq_iff_iff, iff_false]; exact h3
            have hm1 : letR (s[k + 1]'hlt2) = -1 := by omega
            rw [hm1] at HL
            by_cases h4 : k + 3 < s.size
            · have i7 : (k : Int) + 3 < (s.size : Int) := by omega
              have i8 : (k : Int) + 4 ≤ (s.size : Int) := by omega
              have i9 : (k : Int) + 1 ≤ (k : Int) + 4 := by omega
              have hd3 : s.data.toList.drop (k + 1) = (s[k + 1]'hlt2) :: (s[k + 2]'(by omega)) :: (s[k + 3]'h4) :: s.data.toList.drop (k + 4) := (drop_at s (k + 1) hlt2).trans (congrArg _ ((drop_at s (k + 2) (by omega)).trans (congrArg _ (drop_at s (k + 3) h4))))
              rw [hd3, pl_oct _ _ _ _ _ _ h1 h3] at hq
              have hx := ext_mid s k h4
              have hxs : (s.extract (k + 1) (k + 4)).size = 3 := by rw [ByteArray.size_extract]; omega
              obtain ⟨t, ht⟩ : ∃ t, s.extract (k + 1) (k + 4) = t := ⟨_, rfl⟩
              rw [ht] at hx hxs
              have HC := hideT (octal_any t hxs)
              by_cases hok : ocOk t.data.toList
              · have ho := oct_of (by rw [hx] at hok; exact hok)
                rw [← hx] at ho
                by_cases h255 : ocV t.data.toList 0 ≤ 255
                · rw [if_pos h255] at ho
                  rw [ho] at hq
                  obtain ⟨c, hc⟩ : ∃ c : UInt8, c = UInt8.ofNat (ocV t.data.toList 0) := ⟨_, rfl⟩
                  have hcv : ocV t.data.toList 0 = c.toNat := by rw [hc, UInt8.toNat_ofNat', Nat.mod_eq_of_lt (by omega)]
                  have HU := hideT (show plR (s.data.toList.drop (k + 4)) (l ++ [c]) = R by rw [hc]; exact hq)
                  have hcl := c.toNat_lt
                  have HV := hideT (And.intro hok hcv)
                  have j2 : decide ((c.toNat : Int) < 0) = false := decide_eq_false (by omega)
                  have j3 : decide ((255 : Int) < (c.toNat : Int)) = false := decide_eq_false (by omega)
                  have j4 : IntKind.u8.wrap (c.toNat : Int) = (c.toNat : Int) := by rw [IntKind.wrap_u8]; omega
                  clear hq hc hcv hli h3 h2 ho hx hxs hok h255 hd3 d0 hm1
                  go_wp2_with fail
                  refine HL.out.mono ?_
                  rintro e w1 ⟨rfl, hb1⟩
                  have HO1 := hideT (And.intro (owns_below HO0.out.1 hb1) (HO0.out.2.trans (hb1.mono HO0.out.2.size)))
                  clear hb1
                  go_wp2_with fail
                  refine (HC.out _).mono ?_
                  rintro e X ⟨⟨r, rfl, hr⟩, hb1⟩
                  obtain rfl : r = (c.toNat : Int) := by
                    rcases hr with ⟨_, hr, _⟩ | ⟨hr, _⟩
                    · rw [hr, HV.out.2]
                    · exact absurd HV.out.1 hr
                  have HO := hideT (And.intro (owns_below HO1.out.1 hb1) (HO1.out.2.trans (hb1.mono HO1.out.2.size)))
                  clear hb1 hr
                  have HA := hideT ((Below.refl X.heap.size X).alloc (Nat.le_refl _) (.cells #[.int .u8 ((c.toNat : Nat))] 5))
                  have HN := hideT (new_cells X [.int .u8 ((c.toNat : Nat))] 5)
                  go_wp2_with (at_builtin; refine wpList_append_lies _ rfl _ _ 42 rfl w.heap.size 5 i0 _ 1 1 undB hi hz0 hz1 hz2 rfl (by omega) (.slice va l.length vc) l.length (Lib.byteCells l) rfl (owns_below HO.out.1 HA.out) ⟨X.heap.size, 0, none⟩ 1 1 [.int .u8 ((c.toNat : Nat))] rfl rfl (fun j u hj => HN.out j u hj) (by simp [Value.oneCell']) (by omega) (by unfold maxLen; omega) (by omega) (by have := HO.out.2.size; simp; omega) _ rfl ?_)
                  intro g gc w2 hown' hgrow hat hglt
                  have HF := hideT (And.intro hown' ((HO.out.2.trans (HA.out.mono HO.out.2.size)).grown hgrow (by have := HO.out.2.size; have := HA.out.size; omega) (fun k hk => (HO.out.1.lt k hk).1)))
                  clear hown' hgrow hat hglt
                  go_wp2
                  refine ⟨⟨k + 4, l ++ [c], by omega, by go_num, ?_, HF.out.2, HU, by simp; omega⟩, by simp [intOf]; omega⟩
                  rw [cells_app, List.length_append]
                  exact HF.out.1
                · rw [if_neg h255] at ho
                  rw [ho] at hq
                  obtain rfl := hq
                  have HV := hideT (And.intro hok h255)
                  clear hli h3 h2 ho hx hxs hok h255 hd3 d0 hm1
                  go_wp2_with fail
                  refine HL.out.mono ?_
                  rintro e w1 ⟨rfl, hb1⟩
                  have HO1 := hideT (HO0.out.2.trans (hb1.mono HO0.out.2.size))
                  clear hb1
                  go_wp2_with fail
                  refine (HC.out _).mono ?_
                  rintro e X ⟨⟨r, rfl, hr⟩, hb1⟩
                  have hr2 : 255 < r := by
                    rcases hr with ⟨_, hr, _⟩ | ⟨hr, _⟩
                    · have := HV.out.2
                      omega
                    · exact absurd HV.out.1 hr
                  have j2 : decide (r < 0) = false := decide_eq_false (by omega)
                  have HO := hideT (HO1.out.trans (hb1.mono HO1.out.size))
                  clear hb1 hr
                  go_wp2
                  go_ret2
                  exact ⟨rfl, HO.out⟩
              · have ho := oct_none (by rw [hx] at hok; exact hok)
                rw [ho] at hq
                obtain rfl := hq
                have HV := hideT hok
                clear hli h3 h2 ho hx hxs hok hd3 d0 hm1
                go_wp2_with fail
                refine HL.out.mono ?_
                rintro e w1 ⟨rfl, hb1⟩
                have HO1 := hideT (HO0.out.2.trans (hb1.mono HO0.out.2.size))
                clear hb1
                go_wp2_with fail
                refine (HC.out _).mono ?_
                rintro e X ⟨⟨r, rfl, hr⟩, hb1⟩
                obtain rfl : r = -1 := by
                  rcases hr with ⟨hr, _⟩ | ⟨_, hr⟩
                  · exact absurd hr HV.out
                  · exact hr
                have HO := hideT (HO1.out.trans (hb1.mono HO1.out.size))
                clear hb1 hr
                go_wp2
                go_ret2
                exact ⟨rfl, HO.out⟩
            · have i7 : ((k : Int) + 3 < (s.size : Int)) = False := by rw [eq_iff_iff, iff_false]; omega
              rw [drop_at s (k + 1) hlt2, pl_short _ _ _ _ h1 h3 (by rw [List.length_drop, hlen]; omega)] at hq
              obtain rfl := hq
              clear hli h3 h2 d0 hm1
              go_wp2_with fail
              refine HL.out.mono ?_
              rintro e w1 ⟨rfl, hb1⟩
              have HO := hideT (HO0.out.2.trans (hb1.mono HO0.out.2.size))
              clear hb1
              go_wp2
              go_ret2
              exact ⟨rfl, HO.out⟩
      · have e1 : (((s[k]'hlt).toNat : Int) == 92) = false := by rw [beq_eq_false_iff_ne]; omega
        rw [pl_one _ _ _ h1] at hq
        have HU := hideT hq
        have j2 : decide (((s[k]'hlt).toNat : Int) < 0) = false := decide_eq_false (by omega)
        have j3 : decide ((255 : Int) < ((s[k]'hlt).toNat : Int)) = false := decide_eq_false (by omega)
        have j4 : IntKind.u8.wrap ((s[k]'hlt).toNat : Int) = ((s[k]'hlt).toNat : Int) := by rw [IntKind.wrap_u8]; omega
        obtain ⟨X, hX⟩ : ∃ X, X = wr := ⟨_, rfl⟩
        subst hX
        have HO := HO0
        clear hq
        have HA := hideT ((Below.refl X.heap.size X).alloc (Nat.le_refl _) (.cells #[.int .u8 (((s[k]'hlt).toNat : Nat))] 5))
        have HN := hideT (new_cells X [.int .u8 (((s[k]'hlt).toNat : Nat))] 5)
        go_wp2_with (at_builtin; refine wpList_append_lies _ rfl _ _ 42 rfl w.heap.size 5 i0 _ 1 1 undB hi hz0 hz1 hz2 rfl (by omega) (.slice va l.length vc) l.length (Lib.byteCells l) rfl (owns_below HO.out.1 HA.out) ⟨X.heap.size, 0, none⟩ 1 1 [.int .u8 (((s[k]'hlt).toNat : Nat))] rfl rfl (fun j u hj => HN.out j u hj) (by simp [Value.oneCell']) (by omega) (by unfold maxLen; omega) (by omega) (by have := HO.out.2.size; simp; omega) _ rfl ?_)
        intro g gc w2 hown' hgrow hat hglt
        have HF := hideT (And.intro hown' ((HO.out.2.trans (HA.out.mono HO.out.2.size)).grown hgrow (by have := HO.out.2.size; have := HA.out.size; omega) (fun k hk => (HO.out.1.lt k hk).1)))
        clear hown' hgrow hat hglt
        go_wp2
        refine ⟨⟨k + 1, l ++ [s[k]'hlt], by omega, by go_num, ?_, HF.out.2, HU, by simp; omega⟩, by simp [intOf]; omega⟩
        rw [cells_app, List.length_append]
        exact HF.out.1
    · have i1 : ((k : Int) < (s.size : Int)) = False := by rw [eq_iff_iff, iff_false]; omega
      rw [show s.data.toList.drop k = [] by rw [List.drop_eq_nil_iff, hlen]; omega, pl_nil] at hq
      obtain rfl := hq
      have hcv := conv_bytes HO0.out.1
      obtain ⟨bl, hbl⟩ : ∃ bl, bl = bst l := ⟨_, rfl⟩
      rw [← hbl] at hcv
      have HL := hideT hbl
      clear hbl
      go_wp2
      go_ret2
      obtain rfl := HL.out
      exact ⟨rfl, HO0.out.2⟩

end Go.Proofs.YtiegmgcdfafhiaaDoor
