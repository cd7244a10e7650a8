/- listing: the walk of ListingJoins. -/
import Derived.Test.YtiegmgcdfafhiaaDoorHr
import Derived.Test.YtiegmgcdfafhiaaDoorHs
namespace Go.Proofs.YtiegmgcdfafhiaaDoor
open Go.RowKit

/-- No escape begins another byte's. -/
theorem esc_apart (a b : UInt8) (h : a ≠ b) : ¬ ((escB a).length ≤ (escB b).length ∧ (escB b).take (escB a).length = escB a) := by
  rintro ⟨h1, h2⟩
  have h3 : escB b = escB a ++ (escB b).drop (escB a).length := by
    exact (List.take_append_drop (escB a).length (escB b)).symm.trans (by rw [h2])
  have h4 := unesc_esc a ((escB b).drop (escB a).length)
  rw [← h3] at h4
  have h5 := unesc_esc b []
  rw [List.append_nil, h4] at h5
  exact h (congrArg Prod.fst h5)

theorem esc_take (s : ByteArray) (k : Nat) (h : k < s.size) : escT (s.data.toList.take (k + 1)) = escT (s.data.toList.take k) ++ escB (s[k]'h) := by
  rw [take_snocB s k h, escT_app]
  simp [escT]
theorem ext_pre (s : ByteArray) (n : Nat) : (s.extract 0 n).data.toList = s.data.toList.take n := by
  simp only [ByteArray.data_extract, Array.toList_extract, List.extract_eq_take_drop, List.drop_zero, Nat.sub_zero]

set_option maxRecDepth 100000 in
set_option maxHeartbeats 4000000 in
theorem joins_walk (s : ByteArray) (x y : Int) (hs : s.size ≤ 1048576) (hx : 0 ≤ x ∧ x ≤ 255) (hy : 0 ≤ y ∧ y ≤ 255) (w : World) (hg : Glob w) : Calls Tryd.prog 7 #[.string s, .int .u8 x, .int .u8 y] w fun e w' => e = .returned (.bool true) ∧ Below w.heap.size w w' := by
  obtain ⟨a, rfl⟩ : ∃ c : UInt8, x = (c.toNat : Nat) := ⟨UInt8.ofNat x.toNat, by rw [UInt8.toNat_ofNat', Nat.mod_eq_of_lt (by omega)]; omega⟩
  obtain ⟨b, rfl⟩ : ∃ c : UInt8, y = (c.toNat : Nat) := ⟨UInt8.ofNat y.toNat, by rw [UInt8.toNat_ofNat', Nat.mod_eq_of_lt (by omega)]; omega⟩
  have hsz : s.data.toList.length = s.size := rfl
  have hll := lines_len s.data.toList
  have hlt := lines_tot s.data.toList
  have hok := lines_ok s.data.toList
  have hall := all_lines s.data.toList
  have HA := hideT (awake_any w hg)
  have HL := hideT (fun w => lines_any s (by omega) w)
  have HK := hideT (And.intro hok hall)
  have hcnt : (linesL s.data.toList).length ≤ s.size + 1 := by omega
  have htot : totL (linesL s.data.toList) ≤ 1073741823 := by omega
  clear hg hok hlt hll hall
  generalize linesL s.data.toList = R at *
  go_enter Tryd.func7, Tryd.ntmps7
  go_wp2_with fail
  refine HA.out.mono ?_
  rintro e w1 ⟨rfl, hb1⟩
  have H1 := hideT hb1
  clear hb1
  go_wp2_with fail
  refine (HL.out _).mono ?_
  rintro e w2 ⟨v2, rfl, hO2, hb2⟩
  obtain ⟨a2, c2, rfl⟩ := owns_shape hO2
  have H2 := hideT (And.intro (Row.of_owns hO2) (H1.out.trans (hb2.mono H1.out.size)))
  clear hO2 hb2
  go_wp2_with fail
  go_loopw [7, 19] (fun av i wr => ∃ (k : Nat) (A : ByteArray), k ≤ R.length ∧ i = .int .i64 k ∧ av = .string A ∧ Hid (A.data.toList = allL (R.take k)) ∧ A.size ≤ totL (R.take k) ∧ Below w2.heap.size w2 wr) (fun _ i _ => R.length - (intOf i).toNat)
  case atStart => exact ⟨0, ⟨#[]⟩, by omega, rfl, rfl, hideT (by simp [allL]), by show (0 : Nat) ≤ _; omega, Below.refl _ _⟩
  case round =>
    obtain ⟨k, A, hk, rfl, rfl, HA2, hal, hB⟩ := hrel
    have HB := hideT hB
    clear hB
    by_cases hlt : k < R.length
    · have i1 : (k : Int) < (R.length : Int) := by omega
      have i2 : (0 : Int) ≤ (k : Int) := by omega
      have hrow := H2.out.1
      rcases hrow with ⟨h, -⟩ | ⟨gb, off, c, e1, ha⟩
      · rw [h] at hlt; simp at hlt
      cases e1
      have a1 := ha k hlt
      have c1 := (HB.out.cell (p := ⟨gb, off + k, none⟩) (cell_lt a1)).trans a1
      obtain ⟨o1, o2, o3⟩ := HK.out.1 k R[k] (List.getElem?_eq_getElem hlt)
      have hnn : 0 < (R[k]).length := by
        rcases Nat.eq_zero_or_pos (R[k]).length with h | h
        · rw [List.eq_nil_of_length_eq_zero h] at o3
          simp at o3
        · exact h
      have hta := tot_at R k hlt
      have htt := tot_take R (k + 1)
      have haa := all_at R k hlt
      obtain ⟨ls, hls⟩ : ∃ ls, bst R[k] = ls := ⟨_, rfl⟩
      have hlz : ls.size = (R[k]).length := by rw [← hls, bst_size]
      have hlw : ls.data.toList = R[k] := by rw [← hls, bst_list]
      rw [hls] at c1
      have he : ls.toList.isEmpty = false := by
        rw [Lib.toList_data, hlw]
        cases h : R[k] with
        | nil => rw [h] at hnn; simp at hnn
        | cons => rfl
      have i3 : (0 : Int) ≤ (ls.size : Int) - 1 := by omega
      have i4 : (ls.size : Int) - 1 ≤ (ls.size : Int) := by omega
      have i5 : (ls.size : Int) ≤ 1073741824 := by omega
      have i6 : ((s.size : Int) < (k : Int)) = False := by rw [eq_iff_iff, iff_false]; omega
      have hef := ext_front ls
      have hes : (ls.extract 0 (ls.size - 1)).size = ls.size - 1 := by rw [ByteArray.size_extract]; omega
      have hcast : (ls.size : Int) - 1 = ((ls.size - 1 : Nat) : Int) := by omega
      obtain ⟨r0, hr0⟩ : ∃ r0, ls.extract 0 (ls.size - 1) = r0 := ⟨_, rfl⟩
      have hr1 : ls.extract 0 ((ls.size : Int) - 1).toNat = r0 := by rw [hcast, Int.toNat_natCast]; exact hr0
      rw [hr0] at hef hes
      obtain ⟨A2, hA2⟩ : ∃ A2, A ++ r0 = A2 := ⟨_, rfl⟩
      have q1 : (9223372036854775807 < A.size + r0.size) = False := by rw [eq_iff_iff, iff_false]; omega
      have HZ := hideT (show A2.data.toList = allL (R.take (k + 1)) by rw [← hA2, ByteArray.data_append, Array.toList_append, HA2.out, hef, hlw, haa])
      have HZ2 := hideT (show A2.size ≤ totL (R.take (k + 1)) by rw [← hA2, ByteArray.size_append]; omega)
      clear ha a1 hta htt haa hls hlz hlw hal hef hes hcast o1 o2 o3 hnn
      go_wp2
      exact ⟨⟨k + 1, A2, by omega, by go_num, rfl, HZ, HZ2.out, HB.out⟩, by simp [intOf]; omega⟩
    · obtain rfl : k = R.length := by omega
      have i1 : (((R.length : Nat) : Int) < (R.length : Int)) = False := by simp
      rw [List.take_length] at HA2 hal
      have hAe : A.data.toList = escT s.data.toList := HA2.out.trans HK.out.2
      have HAE := hideT hAe
      have H3 := hideT (H2.out.2.trans (HB.out.mono H2.out.2.size))
      clear hal hAe HA2 HB
      go_wp2_with fail
      clear i1
      go_loopw [10, 11] (fun ov i wr => ∃ (k : Nat) (O : ByteArray), k ≤ s.size ∧ i = .int .i64 k ∧ ov = .string O ∧ Hid (O.data.toList = escT (s.data.toList.take k)) ∧ O.size ≤ 4 * k ∧ Below w.heap.size w wr) (fun _ i _ => s.size - (intOf i).toNat)
      case atStart => exact ⟨0, ⟨#[]⟩, by omega, rfl, rfl, hideT (by simp [escT]), by show (0 : Nat) ≤ _; omega, H3.out⟩
      case round =>
        obtain ⟨k, O, hk, rfl, rfl, HO, hol, hB⟩ := hrel
        have HB := hideT hB
        clear hB
        by_cases hlt : k < s.size
        · have i1 : (k : Int) < (s.size : Int) := by omega
          have i2 : (0 : Int) ≤ (k : Int) := by omega
          have HE := hideT (escape_any (s[k]'hlt) wr)
          have hel := escB_len (s[k]'hlt)
          have het := esc_take s k hlt
          have hes : (bst (escB (s[k]'hlt))).size = (escB (s[k]'hlt)).length := bst_size _
          have hed : (bst (escB (s[k]'hlt))).data.toList = escB (s[k]'hlt) := bst_list _
          obtain ⟨O2, hO2⟩ : ∃ O2, O ++ bst (escB (s[k]'hlt)) = O2 := ⟨_, rfl⟩
          have q1 : (9223372036854775807 < O.size + (bst (escB (s[k]'hlt))).size) = False := by rw [eq_iff_iff, iff_false]; omega
          have HZ := hideT (show O2.data.toList = escT (s.data.toList.take (k + 1)) by rw [← hO2, ByteArray.data_append, Array.toList_append, HO.out, hed, het])
          have HZ2 := hideT (show O2.size ≤ 4 * (k + 1) by rw [← hO2, ByteArray.size_append]; omega)
          clear hel het hes hed hol HO
          generalize bst (escB (s[k]'hlt)) = es at *
          go_wp2_with fail
          refine HE.out.mono ?_
          rintro e w3 ⟨rfl, hb3⟩
          have HB2 := hideT (HB.out.trans (hb3.mono HB.out.size))
          clear hb3
          go_wp2
          exact ⟨⟨k + 1, O2, by omega, by go_num, rfl, HZ, HZ2.out, HB2.out⟩, by simp [intOf]; omega⟩
        · obtain rfl : k = s.size := by omega
          have i1 : (((s.size : Nat) : Int) < (s.size : Int)) = False := by simp
          have hoe := HO.out
          rw [List.take_of_length_le (by rw [hsz]; omega)] at hoe
          have hAO : A = O := ByteArray.ext (Array.ext' (HAE.out.trans hoe.symm))
          subst hAO
          have HEa := hideT (escape_any a)
          have HEb := hideT (escape_any b)
          have la := escB_len a
          have lb := escB_len b
          have sa : (bst (escB a)).size = (escB a).length := bst_size _
          have sb : (bst (escB b)).size = (escB b).length := bst_size _
          have e1 : (((bst (escB a)).size : Int) == 0) = false := by rw [beq_eq_false_iff_ne]; omega
          have e2 : (((bst (escB b)).size : Int) == 0) = false := by rw [beq_eq_false_iff_ne]; omega
          have hap := esc_apart a b
          clear hol hoe HO HAE
          by_cases hab : a = b
          · subst hab
            have e3 : ((a.toNat : Int) != (a.toNat : Int)) = false := by simp
            clear hap la lb sb sa
            generalize bst (escB a) = ea at *
            go_wp2_with fail
            refine (HEa.out _).mono ?_
            rintro e w3 ⟨rfl, hb3⟩
            have HB2 := hideT (HB.out.trans (hb3.mono HB.out.size))
            clear hb3
            go_wp2_with fail
            refine (HEb.out _).mono ?_
            rintro e w4 ⟨rfl, hb4⟩
            have HB3 := hideT (HB2.out.trans (hb4.mono HB2.out.size))
            clear hb4
            go_wp2
            go_ret
            exact ⟨rfl, HB3.out⟩
          · have hne : a.toNat ≠ b.toNat := fun e => hab (UInt8.toNat_inj.1 e)
            have e3 : ((a.toNat : Int) != (b.toNat : Int)) = true := by rw [bne_iff_ne]; omega
            by_cases hle : (escB a).length ≤ (escB b).length
            · have e4 : ((bst (escB a)).size : Int) ≤ ((bst (escB b)).size : Int) := by omega
              have e5 : (0 : Int) ≤ ((bst (escB a)).size : Int) := by omega
              have hxt := ext_pre (bst (escB b)) (bst (escB a)).size
              have hq : ((((bst (escB b)).extract 0 (bst (escB a)).size).toList == (bst (escB a)).toList) : Bool) = false := by
                rw [beq_eq_false_iff_ne, Lib.toList_data, Lib.toList_data, hxt, bst_list, bst_list, sa]
                exact fun e => hap hab ⟨hle, e⟩
              clear hap la lb sa sb hab hxt hle hne
              generalize bst (escB a) = ea at *
              generalize bst (escB b) = eb at *
              obtain ⟨x0, hx0⟩ : ∃ x0, eb.extract 0 ea.size = x0 := ⟨_, rfl⟩
              rw [hx0] at hq
              go_wp2_with fail
              refine (HEa.out _).mono ?_
              rintro e w3 ⟨rfl, hb3⟩
              have HB2 := hideT (HB.out.trans (hb3.mono HB.out.size))
              clear hb3
              go_wp2_with fail
              refine (HEb.out _).mono ?_
              rintro e w4 ⟨rfl, hb4⟩
              have HB3 := hideT (HB2.out.trans (hb4.mono HB2.out.size))
              clear hb4
              go_wp2
              go_ret
              exact ⟨rfl, HB3.out⟩
            · have e4 : decide (((bst (escB a)).size : Int) ≤ ((bst (escB b)).size : Int)) = false := decide_eq_false (by omega)
              have e5 : ((bst (escB a)).size ≤ (bst (escB b)).size) = False := by rw [eq_iff_iff, iff_false]; omega
              have e6 : (((bst (escB a)).size : Int) ≤ ((bst (escB b)).size : Int)) = False := by rw [eq_iff_iff, iff_false]; omega
              clear hap la lb sa sb hab hle hne
              generalize bst (escB a) = ea at *
              generalize bst (escB b) = eb at *
              go_wp2_with fail
              refine (HEa.out _).mono ?_
              rintro e w3 ⟨rfl, hb3⟩
              have HB2 := hideT (HB.out.trans (hb3.mono HB.out.size))
              clear hb3
              go_wp2_with fail
              refine (HEb.out _).mono ?_
              rintro e w4 ⟨rfl, hb4⟩
              have HB3 := hideT (HB2.out.trans (hb4.mono HB2.out.size))
              clear hb4
              go_wp2
              go_ret
              exact ⟨rfl, HB3.out⟩

end Go.Proofs.YtiegmgcdfafhiaaDoor
