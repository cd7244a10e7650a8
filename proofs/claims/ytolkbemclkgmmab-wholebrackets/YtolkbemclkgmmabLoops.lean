/- Walks: the loops that fill a set, each at every argument. -/
import Derived.Test.YtolkbemclkgmmabWords
namespace Go.Proofs.Ytolkbemclkgmmab
open Go.RowKit

/-- The four cells of block b hold the set p and may be written. -/
def Holds4 (w : World) (b : Nat) (p : Nat → Bool) : Prop :=
  (w.cell? ⟨b, 0, none⟩ = some (.int .u64 (wd p 0 : Nat)) ∧ w.cell? ⟨b, 1, none⟩ = some (.int .u64 (wd p 1 : Nat)) ∧ w.cell? ⟨b, 2, none⟩ = some (.int .u64 (wd p 2 : Nat)) ∧ w.cell? ⟨b, 3, none⟩ = some (.int .u64 (wd p 3 : Nat))) ∧
  (w.frozen? ⟨b, 0, none⟩ = false ∧ w.frozen? ⟨b, 1, none⟩ = false ∧ w.frozen? ⟨b, 2, none⟩ = false ∧ w.frozen? ⟨b, 3, none⟩ = false)

theorem Holds4.below {w w' : World} {b : Nat} {p : Nat → Bool} (h : Holds4 w b p) {B : Nat} (hb : Below B w w') (hlt : b < B) : Holds4 w' b p := by
  obtain ⟨⟨c0, c1, c2, c3⟩, f0, f1, f2, f3⟩ := h
  exact ⟨⟨(hb.cell (p := ⟨b, 0, none⟩) hlt).trans c0, (hb.cell (p := ⟨b, 1, none⟩) hlt).trans c1, (hb.cell (p := ⟨b, 2, none⟩) hlt).trans c2, (hb.cell (p := ⟨b, 3, none⟩) hlt).trans c3⟩,
    (hb.frozen (p := ⟨b, 0, none⟩) hlt).trans f0, (hb.frozen (p := ⟨b, 1, none⟩) hlt).trans f1, (hb.frozen (p := ⟨b, 2, none⟩) hlt).trans f2, (hb.frozen (p := ⟨b, 3, none⟩) hlt).trans f3⟩

theorem Holds4.lt {w : World} {b : Nat} {p : Nat → Bool} (h : Holds4 w b p) : b < w.heap.size := World.block_lt_of_cell? w _ h.1.1

theorem Holds4.alloc {w : World} {b : Nat} {p : Nat → Bool} (h : Holds4 w b p) (o : Obj) : Holds4 (w.alloc o) b p := h.below ((Below.refl _ _).alloc (Nat.le_refl _) o) h.lt

theorem holds4_new (w : World) (p : Nat → Bool) (t : TypeId) : Holds4 (w.alloc (.cells #[.int .u64 (wd p 0 : Nat), .int .u64 (wd p 1 : Nat), .int .u64 (wd p 2 : Nat), .int .u64 (wd p 3 : Nat)] t)) w.heap.size p := by
  simp [Holds4, go_sem]

theorem holds4_zero (w : World) (t : TypeId) : Holds4 (w.alloc (.cells #[.int .u64 0, .int .u64 0, .int .u64 0, .int .u64 0] t)) w.heap.size (fun _ => false) := by
  have h := holds4_new w (fun _ => false) t
  rw [wd_none, wd_none, wd_none, wd_none] at h
  exact h

/-- What a store of a set leaves. -/
abbrev put4 (w : World) (b : Nat) (q : Nat → Bool) : World :=
  (((w.setCell ⟨b, 0, none⟩ (.int .u64 (wd q 0 : Nat))).setCell ⟨b, 1, none⟩ (.int .u64 (wd q 1 : Nat))).setCell ⟨b, 2, none⟩ (.int .u64 (wd q 2 : Nat))).setCell ⟨b, 3, none⟩ (.int .u64 (wd q 3 : Nat))

theorem Holds4.put {w : World} {b : Nat} {p : Nat → Bool} (h : Holds4 w b p) (q : Nat → Bool) : Holds4 (put4 w b q) b q := by
  obtain ⟨⟨c0, c1, c2, c3⟩, f0, f1, f2, f3⟩ := h
  simp [Holds4, put4, go_sem, *]

theorem Holds4.other {w : World} {b b' : Nat} {p : Nat → Bool} (h : Holds4 w b p) (q : Nat → Bool) (hne : b ≠ b') : Holds4 (put4 w b' q) b p := by
  obtain ⟨⟨c0, c1, c2, c3⟩, f0, f1, f2, f3⟩ := h
  simp [Holds4, put4, go_sem, *]

theorem below_put4 {B : Nat} {a w : World} (h : Below B a w) {b : Nat} (hb : B ≤ b) (q : Nat → Bool) : Below B a (put4 w b q) :=
  (((h.setCell (p := ⟨b, 0, none⟩) hb _).setCell (p := ⟨b, 1, none⟩) hb _).setCell (p := ⟨b, 2, none⟩) hb _).setCell (p := ⟨b, 3, none⟩) hb _

theorem Holds4.drew {w : World} {b : Nat} {p : Nat → Bool} (h : Holds4 w b p) : Holds4 w.drew b p := h

set_option maxHeartbeats 400000 in
theorem stretch_any (lo hi : Int) (h0 : 0 ≤ lo) (h1 : lo ≤ hi) (h2 : hi < 256) (w : World) :
    Calls Try.prog 26 #[.int .u8 lo, .int .u8 hi] w fun e w' => ∃ q, e = .returned (.agg #[.int .u64 (wd q 0 : Nat), .int .u64 (wd q 1 : Nat), .int .u64 (wd q 2 : Nat), .int .u64 (wd q 3 : Nat)]) ∧ Is q (fun n => decide (lo ≤ (n : Int) ∧ (n : Int) ≤ hi)) ∧ Below w.heap.size w w' := by
  go_enter Try.func26, Try.ntmps26
  go_wp2_with fail
  go_loopw [6] (fun i wr => ∃ (k : Int) (p : Nat → Bool), lo ≤ k ∧ k ≤ hi + 1 ∧ i = .int .i64 k ∧ Is p (fun n => decide (lo ≤ (n : Int) ∧ (n : Int) < k)) ∧ Holds4 wr (w.heap.size + 1) p ∧ (∃ q, Holds4 wr w.heap.size q) ∧ Below w.heap.size w wr) (fun i _ => (256 - intOf i).toNat)
  case atStart =>
    have e := holds4_zero (w.alloc (.cells #[.int .u64 0, .int .u64 0, .int .u64 0, .int .u64 0] 24)) 24
    rw [World.size_alloc] at e
    refine ⟨lo, fun _ => false, by omega, by omega, rfl, fun n _ => ?_, e, ⟨_, (holds4_zero w 24).alloc _⟩, ((Below.refl _ _).alloc (Nat.le_refl _) _).alloc (by simp) _⟩
    symm; simp
  case round =>
    obtain ⟨k, p, hk0, hk1, rfl, hp, hs, ⟨q, hr⟩, hB⟩ := hrel
    have hsz := hs.lt
    by_cases hlt : k ≤ hi
    · have hs' := hs
      obtain ⟨⟨c0, c1, c2, c3⟩, f0, f1, f2, f3⟩ := hs
      go_wp2_with fail
      refine (withE p k (by omega) (by omega) _).mono ?_
      rintro e w1 ⟨p1, rfl, hp1, hb1⟩
      clear c0 c1 c2 c3 f0 f1 f2 f3
      have hs1 := hs'.below hb1 hsz
      have hr1 := hr.below hb1 hr.lt
      have hs2 := hs1
      obtain ⟨⟨c0, c1, c2, c3⟩, f0, f1, f2, f3⟩ := hs2
      go_wp2
      go_roundw
      case rel =>
        refine ⟨k + 1, p1, by omega, by omega, rfl, fun n hn => ?_, hs1.put p1, ⟨_, hr1.other p1 (by omega)⟩, below_put4 (hB.trans (hb1.mono hB.size)) (by omega) p1⟩
        rw [hp1 n hn]
        show (p n || n == k.toNat) = _
        rw [hp n hn, Bool.eq_iff_iff]
        simp
        omega
      case measure => simp [intOf]; omega
    · obtain ⟨⟨c0, c1, c2, c3⟩, f0, f1, f2, f3⟩ := hs
      obtain ⟨⟨d0, d1, d2, d3⟩, g0, g1, g2, g3⟩ := hr
      go_wp2
      refine bodyPost_ret (v := .agg #[.int .u64 (wd p 0 : Nat), .int .u64 (wd p 1 : Nat), .int .u64 (wd p 2 : Nat), .int .u64 (wd p 3 : Nat)]) (by simp [results, Try.results26, go_sem, *]) rfl ⟨p, rfl, fun n hn => ?_, below_put4 hB (Nat.le_refl _) _⟩
      rw [hp n hn, Bool.eq_iff_iff]
      simp
      omega

end Go.Proofs.Ytolkbemclkgmmab
