/- listing: the walk of ListingStops. -/
import Derived.Test.YtiegmgcdfafhiaaDoorHm
namespace Go.Proofs.YtiegmgcdfafhiaaDoor
open Go.RowKit

theorem Row.front {W : World} {p : Option Addr} {n c : Nat} {l : List (List UInt8)} (h : Row W (.slice p n c) l) (k : Nat) (hk : k ≤ l.length) (c' : Nat) : Row W (.slice p k c') (l.take k) := by
  rcases h with ⟨rfl, p1, c1, e⟩ | ⟨g, off, c1, e, hc⟩
  · cases e
    obtain rfl : k = 0 := by simpa using hk
    exact .inl ⟨rfl, _, _, rfl⟩
  · cases e
    by_cases h0 : k = 0
    · subst h0
      exact .inl ⟨by simp, _, _, rfl⟩
    · refine .inr ⟨g, off, c', by rw [List.length_take, Nat.min_eq_left hk], fun i hi => ?_⟩
      have hi2 : i < l.length := by rw [List.length_take] at hi; omega
      rw [hc i hi2]
      simp

set_option maxRecDepth 100000 in
set_option maxHeartbeats 4000000 in
theorem stops_walk (s : ByteArray) (m : Int) (hs : s.size ≤ 1048576) (hm : 0 ≤ m ∧ m ≤ 255) (w : World) (hg : Glob w) : Calls Tryd.prog 6 #[.string s, .int .u8 m] w fun e w' => e = .returned (.bool true) ∧ Below w.heap.size w w' := by
  have hsz : s.data.toList.length = s.size := rfl
  have hll := lines_len s.data.toList
  have HA := hideT (awake_any w hg)
  have HM := hideT (fun w => docLines_any s (by omega) w)
  have HX := hideT (fun w => all_any s (by omega) m w)
  have HY := hideT (fun w => all_any s (by omega) (-1) w)
  have hS := fun a b l w1 (hl : l.length ≤ 1073741824) (h1 : Row w1 a l) (h2 : Row w1 b l) => same_any a b l l w1 h1 h2 hl hl
  simp only [decide_true] at hS
  have HS := hideT hS
  have hcnt : (linesL s.data.toList).length ≤ 1048577 := by omega
  clear hS hg hll
  generalize linesL s.data.toList = R at *
  have g1 : IntKind.i64.wrap m = m := by rw [IntKind.wrap_i64]; omega
  go_enter Tryd.func6, Tryd.ntmps6
  go_wp2_with fail
  refine HA.out.mono ?_
  rintro e w1 ⟨rfl, hb1⟩
  have H1 := hideT hb1
  clear hb1
  go_wp2_with fail
  refine (HM.out _).mono ?_
  rintro e w2 ⟨v2, rfl, hO2, hb2⟩
  have hcap : ∃ a c, v2 = .slice a R.length c ∧ R.length ≤ c := by
    rcases hO2.2 with ⟨rfl, h⟩ | ⟨g, cap, cur, rfl, _, _, h, _⟩
    · exact ⟨none, 0, by rw [h], by omega⟩
    · exact ⟨_, cap, rfl, h⟩
  obtain ⟨a2, c2, rfl, hc2⟩ := hcap
  have H2 := hideT (And.intro (Row.of_owns hO2) (H1.out.trans (hb2.mono H1.out.size)))
  clear hO2 hb2
  go_wp2_with fail
  refine (HX.out _).mono ?_
  rintro e w3 ⟨v3, pre, rfl, hO3, hpre, hb3⟩
  have hple : pre.length ≤ R.length := by
    rcases hpre with ⟨rfl, -⟩ | ⟨h, -⟩
    · omega
    · exact h.length_le
  have hpt : pre = R.take pre.length := by
    rcases hpre with ⟨rfl, -⟩ | ⟨h, -⟩
    · simp
    · exact (List.prefix_iff_eq_take.1 h)
  have hmin : min m (R.length : Int) = (pre.length : Int) := by
    rcases hpre with ⟨rfl, h0, h⟩ | ⟨h, e⟩
    · by_cases hc : (pre.length : Int) < m
      · omega
      · exact (h m.toNat (by omega) (by omega) (by omega)).elim
    · omega
  obtain ⟨a3, c3, rfl⟩ := owns_shape hO3
  have hr3 := Row.of_owns hO3
  have H3 := hideT (And.intro hr3 (And.intro (H2.out.1.stay hb3 (Nat.le_refl _)) (H2.out.2.trans (hb3.mono H2.out.2.size))))
  have hf := (H3.out.2.1).front pre.length hple c2
  rw [← hpt] at hf
  have HS1 := hideT (HS.out _ _ pre w3 (by omega) hr3 hf)
  clear hO3 hb3 hr3 hf hpt hpre
  have e3 : ((pre.length : Int) != (pre.length : Int)) = false := by simp
  have i1 : (0 : Int) ≤ (pre.length : Int) := by omega
  have i2 : (pre.length : Int) ≤ (c2 : Int) := by omega
  go_wp2_with fail
  refine HS1.out.mono ?_
  rintro e w4 ⟨rfl, hb4⟩
  have H4 := hideT (And.intro (H3.out.2.1.stay hb4 (Nat.le_refl _)) (H3.out.2.2.trans (hb4.mono H3.out.2.2.size)))
  clear hb4
  go_wp2_with fail
  refine (HY.out _).mono ?_
  rintro e w5 ⟨v5, pre5, rfl, hO5, hpre5, hb5⟩
  obtain rfl : pre5 = R := by
    rcases hpre5 with ⟨h, -⟩ | ⟨-, h⟩
    · exact h
    · omega
  obtain ⟨a5, c5, rfl⟩ := owns_shape hO5
  have H5 := hideT (And.intro (HS.out _ _ _ w5 (by omega) (Row.of_owns hO5) (H4.out.1.stay hb5 (Nat.le_refl _))) (H4.out.2.trans (hb5.mono H4.out.2.size)))
  clear hO5 hb5 hpre5
  go_wp2_with fail
  refine H5.out.1.mono ?_
  rintro e w6 ⟨rfl, hb6⟩
  have H6 := hideT (H5.out.2.trans (hb6.mono H5.out.2.size))
  clear hb6
  go_wp2
  go_ret
  exact ⟨rfl, H6.out⟩

end Go.Proofs.YtiegmgcdfafhiaaDoor
