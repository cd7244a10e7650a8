/- listing: internal/strconv's ParseUint, at base 8 and 8 bits. -/
import Derived.Test.YtiegmgcdfafhiaaDoorHa
import Derived.OpenShut
namespace Go.Proofs.YtiegmgcdfafhiaaDoor
open Go.RowKit

/-- A number of octal digits, of 8 bits: the number; or 255 and 1 (too great), 0 and 2 (no digits). -/
def puL : List UInt8 → Nat → Nat × Nat
  | [], n => (n, 0)
  | c :: r, n => if 48 ≤ c.toNat ∧ c.toNat ≤ 55 then (if 255 < n * 8 + (c.toNat - 48) then (255, 1) else puL r (n * 8 + (c.toNat - 48))) else (0, 2)
theorem pu_bad (c : UInt8) (r : List UInt8) (n : Nat) (h : ¬ (48 ≤ c.toNat ∧ c.toNat ≤ 55)) : puL (c :: r) n = (0, 2) := by rw [puL, if_neg h]
theorem pu_big (c : UInt8) (r : List UInt8) (n : Nat) (h : 48 ≤ c.toNat ∧ c.toNat ≤ 55) (h2 : 255 < n * 8 + (c.toNat - 48)) : puL (c :: r) n = (255, 1) := by rw [puL, if_pos h, if_pos h2]
theorem pu_next (c : UInt8) (r : List UInt8) (n : Nat) (h : 48 ≤ c.toNat ∧ c.toNat ≤ 55) (h2 : ¬ 255 < n * 8 + (c.toNat - 48)) : puL (c :: r) n = puL r (n * 8 + (c.toNat - 48)) := by rw [puL, if_pos h, if_neg h2]
def errV (k : Nat) : Value := if k = 0 then .nilIface else .iface 69 (.int .i64 (k : Nat))

theorem pu_oct (a b c : UInt8) : ((puL [a, b, c] 0).2 = 0 ↔ (octN a b c).isSome = true) ∧ ∀ n, octN a b c = some n → (puL [a, b, c] 0).1 = n := by
  unfold octN
  by_cases h1 : 48 ≤ a.toNat ∧ a.toNat ≤ 55
  · rw [pu_next a _ _ h1 (by omega)]
    by_cases h2 : 48 ≤ b.toNat ∧ b.toNat ≤ 55
    · rw [pu_next b _ _ h2 (by omega)]
      by_cases h3 : 48 ≤ c.toNat ∧ c.toNat ≤ 55
      · rw [if_pos ⟨h1.1, h1.2, h2.1, h2.2, h3.1, h3.2⟩]
        dsimp only
        by_cases h4 : 255 < ((0 * 8 + (a.toNat - 48)) * 8 + (b.toNat - 48)) * 8 + (c.toNat - 48)
        · rw [pu_big c _ _ h3 h4, if_neg (by omega)]
          simp
        · rw [pu_next c _ _ h3 h4, if_pos (by omega)]
          refine ⟨by simp [puL], fun n hn => ?_⟩
          have hn2 := Option.some.inj hn
          show ((0 * 8 + (a.toNat - 48)) * 8 + (b.toNat - 48)) * 8 + (c.toNat - 48) = n
          omega
      · rw [pu_bad c _ _ h3, if_neg (by omega)]
        simp
    · rw [pu_bad b _ _ h2, if_neg (by omega)]
      simp
  · rw [pu_bad a _ _ h1, if_neg (by omega)]
    simp
theorem pu_code (l : List UInt8) (n : Nat) : (puL l n).2 = 0 ∨ (puL l n).2 = 1 ∨ (puL l n).2 = 2 := by
  induction l generalizing n with
  | nil => exact .inl rfl
  | cons c r ih =>
    rw [puL]
    split
    · split
      · exact .inr (.inl rfl)
      · exact ih _
    · exact .inr (.inr rfl)

/-- A byte's small letter. -/
def lowI (c : UInt8) : Int := bits BinOp.or IntKind.u8 (c.toNat : Int) 32
theorem low_in (c : UInt8) : 0 ≤ lowI c ∧ lowI c ≤ 255 := bounds_u8 (wf_bits _ _ _ _)
set_option maxRecDepth 100000 in
set_option maxHeartbeats 400000 in
theorem lower_any (c : UInt8) (w : World) : Calls Tryd.prog 39 #[.int .u8 (c.toNat : Nat)] w fun e w' => e = .returned (.int .u8 (lowI c)) ∧ w' = w := by
  go_enter Tryd.func39, Tryd.ntmps39
  go_wp2
  go_ret
  exact ⟨rfl, rfl⟩

set_option maxRecDepth 100000 in
set_option maxHeartbeats 4000000 in
theorem parse8_any (s : ByteArray) (hs : s.size ≤ 1073741824) (h0 : s.size ≠ 0) (w : World) :
    Calls Tryd.prog 36 #[.string s, .int .i64 8, .int .i64 8] w fun e w' => e = .returned (.tuple #[.int .u64 ((puL s.data.toList 0).1 : Nat), errV (puL s.data.toList 0).2]) ∧ Below w.heap.size w w' := by
  have hlen : s.data.toList.length = s.size := rfl
  have hem : s.toList.isEmpty = false := by
    rw [Lib.toList_data]
    cases h : s.data.toList with
    | nil => rw [h] at hlen; simp at hlen; omega
    | cons => rfl
  generalize hR : puL s.data.toList 0 = R
  have HR := hideT hR
  clear hR
  have hconv := Lib.run_convert_string_bytes (P := Tryd.prog) w 9 42 5 s Tryd.underlying9 undB Tryd.underlying5
  have hYb := conv_below w s
  have hYc := Lib.bytesWorld_cell w 5 s
  have HY := hideT (And.intro hYb hYc)
  clear hYb hYc
  go_enter Tryd.func36, Tryd.ntmps36
  go_wp2_with fail
  clear hconv
  generalize Lib.bytesWorld w 5 s = Y at *
  generalize grownCap w s.size 0 5 = cp at *
  go_loopw [12, 13, 101] (fun us nv i wr => ∃ k n : Nat, k ≤ s.size ∧ i = .int .i64 k ∧ nv = .int .u64 (n : Nat) ∧ us = .bool false ∧ n ≤ 255 ∧ wr = Y ∧ Hid (puL (s.data.toList.drop k) n = R)) (fun _ _ i _ => s.size - (intOf i).toNat)
  case atStart => exact ⟨0, 0, by omega, rfl, rfl, rfl, by omega, rfl, hideT (by rw [← HR.out]; simp)⟩
  case round =>
    obtain ⟨k, n, hk, rfl, rfl, rfl, hn, rfl, HQ⟩ := hrel
    by_cases hlt : k < s.size
    · have i1 : (k : Int) < (s.size : Int) := by omega
      have i2 : (0 : Int) ≤ (k : Int) := by omega
      have hc := HY.out.2 k hlt
      rw [getD_byte s k hlt] at hc
      have hq := HQ.out
      rw [drop_at s k hlt] at hq
      have hcl := (s[k]'hlt).toNat_lt
      have HL := hideT (lower_any (s[k]'hlt) wr)
      have hlo := low_in (s[k]'hlt)
      clear HQ HR
      generalize s[k]'hlt = c at *
      by_cases hd : 48 ≤ c.toNat ∧ c.toNat ≤ 57
      · have e95 : ((c.toNat : Int) == 95) = false := by rw [beq_eq_false_iff_ne]; omega
        have f1 : (48 : Int) ≤ (c.toNat : Int) := by omega
        have f2 : (c.toNat : Int) ≤ 57 := by omega
        have f3 : IntKind.u8.wrap ((c.toNat : Int) - 48) = ((c.toNat - 48 : Nat) : Int) := by rw [IntKind.wrap_u8]; omega
        clear hlo HL
        by_cases hd2 : c.toNat ≤ 55
        · have f4 : ((8 : Int) ≤ ((c.toNat - 48 : Nat) : Int)) = False := by rw [eq_iff_iff, iff_false]; omega
          have f4' : decide ((8 : Int) ≤ ((c.toNat - 48 : Nat) : Int)) = false := decide_eq_false (by omega)
          have f5 : ((2305843009213693952 : Int) ≤ (n : Int)) = False := by rw [eq_iff_iff, iff_false]; omega
          have f9 : ((n : Int) * 8 + ((c.toNat - 48 : Nat) : Int) < (n : Int) * 8) = False := by rw [eq_iff_iff, iff_false]; omega
          have f9' : decide ((n : Int) * 8 + ((c.toNat - 48 : Nat) : Int) < (n : Int) * 8) = false := decide_eq_false (by omega)
          by_cases hb : 255 < n * 8 + (c.toNat - 48)
          · have g1 : (255 : Int) < (n : Int) * 8 + ((c.toNat - 48 : Nat) : Int) := by omega
            obtain rfl := (pu_big c _ n ⟨hd.1, hd2⟩ hb).symm.trans hq
            go_wp2
            go_ret2
            exact ⟨rfl, HY.out.1⟩
          · have g1 : ((255 : Int) < (n : Int) * 8 + ((c.toNat - 48 : Nat) : Int)) = False := by rw [eq_iff_iff, iff_false]; omega
            have g2 : decide ((255 : Int) < (n : Int) * 8 + ((c.toNat - 48 : Nat) : Int)) = false := decide_eq_false (by omega)
            have HU := hideT ((pu_next c _ n ⟨hd.1, hd2⟩ hb).symm.trans hq)
            clear hq
            go_wp2
            exact ⟨⟨k + 1, n * 8 + (c.toNat - 48), by omega, by go_num, by rw [Value.int.injEq]; exact ⟨rfl, by omega⟩, (by first | trivial | rfl), by omega, (by first | trivial | rfl), HU⟩, by simp [intOf]; omega⟩
        · have f4 : (8 : Int) ≤ ((c.toNat - 48 : Nat) : Int) := by omega
          obtain rfl := (pu_bad c _ n (by omega)).symm.trans hq
          go_wp2
          go_ret2
          exact ⟨rfl, HY.out.1⟩
      · have hno : ¬ (48 ≤ c.toNat ∧ c.toNat ≤ 55) := by omega
        by_cases h48 : 48 ≤ c.toNat
        · have f1 : (48 : Int) ≤ (c.toNat : Int) := by omega
          have f2 : decide ((c.toNat : Int) ≤ 57) = false := decide_eq_false (by omega)
          by_cases h95 : c.toNat = 95
          · have e95 : ((c.toNat : Int) == 95) = true := by rw [beq_iff_eq]; omega
            clear hd h48 h95
            obtain rfl := (pu_bad c _ n hno).symm.trans hq
            rcases Int.lt_or_le (lowI c) 97 with g1 | g1
            · have d1 : decide ((97 : Int) ≤ lowI c) = false := decide_eq_false (by omega)
              go_wp2_with fail
              refine HL.out.mono ?_
              rintro e w1 ⟨rfl, rfl⟩
              generalize lowI c = v at *
              go_wp2
              go_ret2
              exact ⟨rfl, HY.out.1⟩
            · rcases Int.lt_or_le 122 (lowI c) with g2 | g2
              · have d2 : decide (lowI c ≤ 122) = false := decide_eq_false (by omega)
                have HL2 := HL
                go_wp2_with fail
                refine HL.out.mono ?_
                rintro e w1 ⟨rfl, rfl⟩
                go_wp2_with fail
                refine HL2.out.mono ?_
                rintro e w1 ⟨rfl, rfl⟩
                generalize lowI c = v at *
                go_wp2
                go_ret2
                exact ⟨rfl, HY.out.1⟩
              · have f5 : IntKind.u8.wrap (lowI c - 97) = lowI c - 97 := by rw [IntKind.wrap_u8]; omega
                have f6 : IntKind.u8.wrap (lowI c - 97 + 10) = lowI c - 87 := by rw [IntKind.wrap_u8]; omega
                have f7 : (8 : Int) ≤ lowI c - 87 := by omega
                have f8 : (8 : Int) ≤ lowI c - 97 + 10 := by omega
                have HL2 := HL
                have HL3 := HL
                go_wp2_with fail
                refine HL.out.mono ?_
                rintro e w1 ⟨rfl, rfl⟩
                go_wp2_with fail
                refine HL2.out.mono ?_
                rintro e w1 ⟨rfl, rfl⟩
                go_wp2_with fail
                refine HL3.out.mono ?_
                rintro e w1 ⟨rfl, rfl⟩
                generalize lowI c = v at *
                go_wp2
                go_ret2
                exact ⟨rfl, HY.out.1⟩
          · have e95 : ((c.toNat : Int) == 95) = false := by rw [beq_eq_false_iff_ne]; omega
            clear hd h48 h95
            obtain rfl := (pu_bad c _ n hno).symm.trans hq
            rcases Int.lt_or_le (lowI c) 97 with g1 | g1
            · have d1 : decide ((97 : Int) ≤ lowI c) = false := decide_eq_false (by omega)
              go_wp2_with fail
              refine HL.out.mono ?_
              rintro e w1 ⟨rfl, rfl⟩
              generalize lowI c = v at *
              go_wp2
              go_ret2
              exact ⟨rfl, HY.out.1⟩
            · rcases Int.lt_or_le 122 (lowI c) with g2 | g2
              · have d2 : decide (lowI c ≤ 122) = false := decide_eq_false (by omega)
                have HL2 := HL
                go_wp2_with fail
                refine HL.out.mono ?_
                rintro e w1 ⟨rfl, rfl⟩
                go_wp2_with fail
                refine HL2.out.mono ?_
                rintro e w1 ⟨rfl, rfl⟩
                generalize lowI c = v at *
                go_wp2
                go_ret2
                exact ⟨rfl, HY.out.1⟩
              · have f5 : IntKind.u8.wrap (lowI c - 97) = lowI c - 97 := by rw [IntKind.wrap_u8]; omega
                have f6 : IntKind.u8.wrap (lowI c - 97 + 10) = lowI c - 87 := by rw [IntKind.wrap_u8]; omega
                have f7 : (8 : Int) ≤ lowI c - 87 := by omega
                have f8 : (8 : Int) ≤ lowI c - 97 + 10 := by omega
                have HL2 := HL
                have HL3 := HL
                go_wp2_with fail
                refine HL.out.mono ?_
                rintro e w1 ⟨rfl, rfl⟩
                go_wp2_with fail
                refine HL2.out.mono ?_
                rintro e w1 ⟨rfl, rfl⟩
                go_wp2_with fail
                refine HL3.out.mono ?_
                rintro e w1 ⟨rfl, rfl⟩
                generalize lowI c = v at *
                go_wp2
                go_ret2
                exact ⟨rfl, HY.out.1⟩
        · have f1 : decide ((48 : Int) ≤ (c.toNat : Int)) = false := decide_eq_false (by omega)
          have e95 : ((c.toNat : Int) == 95) = false := by rw [beq_eq_false_iff_ne]; omega
          clear hd h48
          obtain rfl := (pu_bad c _ n hno).symm.trans hq
          rcases Int.lt_or_le (lowI c) 97 with g1 | g1
          · have d1 : decide ((97 : Int) ≤ lowI c) = false := decide_eq_false (by omega)
            go_wp2_with fail
            refine HL.out.mono ?_
            rintro e w1 ⟨rfl, rfl⟩
            generalize lowI c = v at *
            go_wp2
            go_ret2
            exact ⟨rfl, HY.out.1⟩
          · rcases Int.lt_or_le 122 (lowI c) with g2 | g2
            · have d2 : decide (lowI c ≤ 122) = false := decide_eq_false (by omega)
              have HL2 := HL
              go_wp2_with fail
              refine HL.out.mono ?_
              rintro e w1 ⟨rfl, rfl⟩
              go_wp2_with fail
              refine HL2.out.mono ?_
              rintro e w1 ⟨rfl, rfl⟩
              generalize lowI c = v at *
              go_wp2
              go_ret2
              exact ⟨rfl, HY.out.1⟩
            · have f5 : IntKind.u8.wrap (lowI c - 97) = lowI c - 97 := by rw [IntKind.wrap_u8]; omega
              have f6 : IntKind.u8.wrap (lowI c - 97 + 10) = lowI c - 87 := by rw [IntKind.wrap_u8]; omega
              have f7 : (8 : Int) ≤ lowI c - 87 := by omega
              have f8 : (8 : Int) ≤ lowI c - 97 + 10 := by omega
              have HL2 := HL
              have HL3 := HL
              go_wp2_with fail
              refine HL.out.mono ?_
              rintro e w1 ⟨rfl, rfl⟩
              go_wp2_with fail
              refine HL2.out.mono ?_
              rintro e w1 ⟨rfl, rfl⟩
              go_wp2_with fail
              refine HL3.out.mono ?_
              rintro e w1 ⟨rfl, rfl⟩
              generalize lowI c = v at *
              go_wp2
              go_ret2
              exact ⟨rfl, HY.out.1⟩
    · have i1 : ((k : Int) < (s.size : Int)) = False := by rw [eq_iff_iff, iff_false]; omega
      have hq := HQ.out
      rw [show s.data.toList.drop k = [] by rw [List.drop_eq_nil_iff, hlen]; omega] at hq
      obtain rfl := (show puL [] n = (n, 0) from rfl).symm.trans hq
      clear HQ HR
      go_wp2
      go_ret2
      exact ⟨rfl, HY.out.1⟩

end Go.Proofs.YtiegmgcdfafhiaaDoor
