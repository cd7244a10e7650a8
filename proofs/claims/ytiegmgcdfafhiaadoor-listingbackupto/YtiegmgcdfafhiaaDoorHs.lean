/- listing: the walk of ListingBack. -/
import Derived.Test.YtiegmgcdfafhiaaDoorHm
namespace Go.Proofs.YtiegmgcdfafhiaaDoor
open Go.RowKit

theorem tot_le {l : List (List UInt8)} {n : Nat} (h : ∀ x ∈ l, x.length ≤ n) : totL l ≤ n * l.length := by
  induction l with
  | nil => simp [totL]
  | cons x r ih =>
    have h1 := ih (fun y hy => h y (by simp [hy]))
    have h2 := h x (by simp)
    have h3 : totL (x :: r) = x.length + totL r := by simp [totL]
    rw [h3, List.length_cons, Nat.mul_succ]
    omega
theorem lines_tot (t : List UInt8) : totL (linesL t) ≤ 70 * (t.length + 1) := by
  have h1 := tot_le (l := linesL t) (n := 70) (fun x hx => by
    obtain ⟨i, hi, e⟩ := List.mem_iff_getElem.1 hx
    exact (lines_ok t i x (by rw [List.getElem?_eq_getElem hi, e])).1)
  have h2 := lines_len t
  have h3 := Nat.mul_le_mul_left 70 h2
  omega
theorem bst_at (l : List UInt8) (k : Nat) (h2 : k < (bst l).size) : (bst l)[k]'h2 = l[k]'(by rw [bst_size] at h2; exact h2) := rfl

set_option maxRecDepth 100000 in
set_option maxHeartbeats 4000000 in
theorem back_walk (s : ByteArray) (hs : s.size ≤ 1048576) (w : World) (hg : Glob w) : Calls Tryd.prog 5 #[.string s] w fun e w' => e = .returned (.bool true) ∧ Below w.heap.size w w' := by
  have hsz : s.data.toList.length = s.size := rfl
  have hll := lines_len s.data.toList
  have hlt := lines_tot s.data.toList
  have hok := lines_ok s.data.toList
  have hne : linesL s.data.toList ≠ [] := lnR_ne _ _
  have HA := hideT (awake_any w hg)
  have HL := hideT (fun w => lines_any s (by omega) w)
  have hrd := fun v w1 (h : Row w1 v (linesL s.data.toList)) (hg : Glob w1) => read_any v _ w1 h (by omega) (by omega) hg
  rw [read_lines] at hrd
  simp only at hrd
  rw [bst_data] at hrd
  have HR := hideT hrd
  have HG := hideT hg
  have HK := hideT hok
  have hpos : 0 < (linesL s.data.toList).length := List.length_pos_iff.2 hne
  have hcnt : (linesL s.data.toList).length ≤ 1048577 := by omega
  clear hrd hg hok hne hlt hll
  generalize linesL s.data.toList = R at *
  have e0 : ((R.length : Int) == 0) = false := by rw [beq_eq_false_iff_ne]; omega
  go_enter Tryd.func5, Tryd.ntmps5
  go_wp2_with fail
  refine HA.out.mono ?_
  rintro e w1 ⟨rfl, hb1⟩
  have H1 := hideT hb1
  clear hb1
  go_wp2_with fail
  refine (HL.out _).mono ?_
  rintro e w2 ⟨v2, rfl, hO2, hb2⟩
  obtain ⟨a2, c2, rfl⟩ := owns_shape hO2
  have H2 := hideT (And.intro (Row.of_owns hO2) (H1.out.trans (hb2.mono H1.out.size)))
  clear hO2 hb2
  go_wp2_with fail
  refine (HR.out _ _ H2.out.1 (HG.out.stay H2.out.2)).mono ?_
  rintro e w3 ⟨rfl, hb3⟩
  have H3 := hideT (And.intro (H2.out.1.stay hb3 (Nat.le_refl _)) (H2.out.2.trans (hb3.mono H2.out.2.size)))
  clear hb3
  go_wp2_with fail
  clear e0
  go_loopw [34] (fun i wr => ∃ k : Nat, k ≤ R.length ∧ i = .int .i64 k ∧ Below w3.heap.size w3 wr) (fun i _ => R.length - (intOf i).toNat)
  case atStart => exact ⟨0, by omega, rfl, Below.refl _ _⟩
  case round =>
    obtain ⟨k, hk, rfl, hB⟩ := hrel
    by_cases hlt : k < R.length
    · have i1 : (k : Int) < (R.length : Int) := by omega
      have i2 : (0 : Int) ≤ (k : Int) := by omega
      have hrow := H3.out.1
      rcases hrow with ⟨h, -⟩ | ⟨gb, off, c, e1, ha⟩
      · rw [h] at hlt; simp at hlt
      cases e1
      have a1 := ha k hlt
      have c1 := (hB.cell (p := ⟨gb, off + k, none⟩) (cell_lt a1)).trans a1
      obtain ⟨o1, o2, o3⟩ := HK.out k R[k] (List.getElem?_eq_getElem hlt)
      have hnn : 0 < (R[k]).length := by
        rcases Nat.eq_zero_or_pos (R[k]).length with h | h
        · rw [List.eq_nil_of_length_eq_zero h] at o3
          simp at o3
        · exact h
      have hlast : (R[k]).getLast? = some ((R[k])[(R[k]).length - 1]'(by omega)) := by rw [List.getLast?_eq_getElem?, List.getElem?_eq_getElem (by omega)]
      have hls : (bst R[k]).size = (R[k]).length := bst_size _
      have hat : ∀ j (h : j < (bst R[k]).size), 32 ≤ ((bst R[k])[j]'h).toNat ∧ ((bst R[k])[j]'h).toNat ≤ 126 := fun j h => o2 _ (by
        rw [bst_at R[k] j h]
        exact List.getElem_mem _)
      have hla : ∀ h : (bst R[k]).size - 1 < (bst R[k]).size, (bst R[k])[(bst R[k]).size - 1]'h = (R[k])[(R[k]).length - 1]'(by omega) := fun _ => rfl
      rw [hlast] at o3
      have n1 : (bst R[k]).size ≤ 70 := by omega
      have n2 : 0 < (bst R[k]).size := by omega
      have HAT := hideT hat
      by_cases hend : k + 1 = R.length
      · have e5 : ((k : Int) == (R.length : Int) - 1) = true := by rw [beq_iff_eq]; omega
        rw [show (k + 1 == R.length) = true by rw [beq_iff_eq]; exact hend, if_pos rfl] at o3
        have o4 := Option.some.inj o3
        have HO3 := hideT (fun h : (bst R[k]).size - 1 < (bst R[k]).size => show ((bst R[k])[(bst R[k]).size - 1]'h).toNat = 36 by rw [hla h, o4]; rfl)
        have HB := hideT hB
        clear o3 o4 hB hend hla hlast hls hat ha a1 o1 o2 hnn
        generalize bst R[k] = ls at *
        have e1 : ((ls.size : Int) == 0) = false := by rw [beq_eq_false_iff_ne]; omega
        have j0 : decide ((70 : Int) < (ls.size : Int)) = false := decide_eq_false (by omega)
        go_wp2_with fail
        clear c1
        go_loopw [9] (fun i wr => ∃ j : Nat, j ≤ ls.size ∧ i = .int .i64 j ∧ Below w3.heap.size w3 wr) (fun i _ => ls.size - (intOf i).toNat)
        case atStart => exact ⟨0, by omega, rfl, HB.out⟩
        case round =>
          obtain ⟨j, hj, rfl, hB⟩ := hrel
          have HB := hideT hB
          clear hB
          by_cases hlt2 : j < ls.size
          · have i3 : (j : Int) < (ls.size : Int) := by omega
            have i4 : (0 : Int) ≤ (j : Int) := by omega
            have hb := HAT.out j hlt2
            have d1 : decide (((ls[j]'hlt2).toNat : Int) < 32) = false := decide_eq_false (by omega)
            have d2 : decide ((126 : Int) < ((ls[j]'hlt2).toNat : Int)) = false := decide_eq_false (by omega)
            go_wp2
            exact ⟨⟨j + 1, by omega, by go_num, HB.out⟩, by simp [intOf]; omega⟩
          · have i3 : ((j : Int) < (ls.size : Int)) = False := by rw [eq_iff_iff, iff_false]; omega
            have i4 : (0 : Int) ≤ (ls.size : Int) - 1 := by omega
            have i5 : (ls.size : Int) - 1 < (ls.size : Int) := by omega
            have hl9 : ((ls.size : Int) - 1).toNat < ls.size := by omega
            have hidx : ls[((ls.size : Int) - 1).toNat]'hl9 = ls[ls.size - 1]'(by omega) := by congr 1; omega
            have d3 : (((ls[((ls.size : Int) - 1).toNat]'hl9).toNat : Int) != 36) = false := by rw [bne_eq_false_iff_eq, hidx]; have := HO3.out (by omega); omega
            have d4 : (((ls[ls.size - 1]'(by omega)).toNat : Int) != 36) = false := by rw [bne_eq_false_iff_eq]; have := HO3.out (by omega); omega
            clear hidx
            go_wp2
            exact ⟨⟨k + 1, by omega, by go_num, HB.out⟩, by simp [intOf]; omega⟩
      · have e5 : ((k : Int) == (R.length : Int) - 1) = false := by rw [beq_eq_false_iff_ne]; omega
        rw [show (k + 1 == R.length) = false by rw [beq_eq_false_iff_ne]; exact hend, if_neg (by simp)] at o3
        have o4 := Option.some.inj o3.1
        have HO3 := hideT (fun h : (bst R[k]).size - 1 < (bst R[k]).size => show ((bst R[k])[(bst R[k]).size - 1]'h).toNat = 92 by rw [hla h, o4]; rfl)
        have o5 : 67 ≤ (bst R[k]).size := by rw [bst_size]; exact o3.2
        have HB := hideT hB
        clear o3 o4 hB hend hla hlast hls hat ha a1 o1 o2 hnn
        generalize bst R[k] = ls at *
        have e1 : ((ls.size : Int) == 0) = false := by rw [beq_eq_false_iff_ne]; omega
        have j0 : decide ((70 : Int) < (ls.size : Int)) = false := decide_eq_false (by omega)
        have j6 : decide ((ls.size : Int) < 67) = false := decide_eq_false (by omega)
        go_wp2_with fail
        clear c1
        go_loopw [9] (fun i wr => ∃ j : Nat, j ≤ ls.size ∧ i = .int .i64 j ∧ Below w3.heap.size w3 wr) (fun i _ => ls.size - (intOf i).toNat)
        case atStart => exact ⟨0, by omega, rfl, HB.out⟩
        case round =>
          obtain ⟨j, hj, rfl, hB⟩ := hrel
          have HB := hideT hB
          clear hB
          by_cases hlt2 : j < ls.size
          · have i3 : (j : Int) < (ls.size : Int) := by omega
            have i4 : (0 : Int) ≤ (j : Int) := by omega
            have hb := HAT.out j hlt2
            have d1 : decide (((ls[j]'hlt2).toNat : Int) < 32) = false := decide_eq_false (by omega)
            have d2 : decide ((126 : Int) < ((ls[j]'hlt2).toNat : Int)) = false := decide_eq_false (by omega)
            go_wp2
            exact ⟨⟨j + 1, by omega, by go_num, HB.out⟩, by simp [intOf]; omega⟩
          · have i3 : ((j : Int) < (ls.size : Int)) = False := by rw [eq_iff_iff, iff_false]; omega
            have i4 : (0 : Int) ≤ (ls.size : Int) - 1 := by omega
            have i5 : (ls.size : Int) - 1 < (ls.size : Int) := by omega
            have hl9 : ((ls.size : Int) - 1).toNat < ls.size := by omega
            have hidx : ls[((ls.size : Int) - 1).toNat]'hl9 = ls[ls.size - 1]'(by omega) := by congr 1; omega
            have d3 : (((ls[((ls.size : Int) - 1).toNat]'hl9).toNat : Int) != 92) = false := by rw [bne_eq_false_iff_eq, hidx]; have := HO3.out (by omega); omega
            have d4 : (((ls[ls.size - 1]'(by omega)).toNat : Int) != 92) = false := by rw [bne_eq_false_iff_eq]; have := HO3.out (by omega); omega
            clear hidx
            go_wp2
            exact ⟨⟨k + 1, by omega, by go_num, HB.out⟩, by simp [intOf]; omega⟩
    · have i1 : ((k : Int) < (R.length : Int)) = False := by rw [eq_iff_iff, iff_false]; omega
      have HB := hideT (H3.out.2.trans (hB.mono H3.out.2.size))
      clear hB
      go_wp2
      go_ret
      exact ⟨rfl, HB.out⟩

end Go.Proofs.YtiegmgcdfafhiaaDoor
