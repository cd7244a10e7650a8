/- Walks: the loops that fill a set, each at every argument. -/
import Derived.Test.YtooanbbnjiogaaaKWords
namespace Go.Proofs.Ytooanbbnjiogaaa
open Go.RowKit

/-- The four cells of block b hold the set p and may be written. -/
def Holds4 (w : World) (b : Nat) (p : Nat → Bool) : Prop :=
  (w.cell? ⟨b, 0, none⟩ = some (.int .u64 (wd p 0 : Nat)) ∧ w.cell? ⟨b, 1, none⟩ = some (.int .u64 (wd p 1 : Nat)) ∧ w.cell? ⟨b, 2, none⟩ = some (.int .u64 (wd p 2 : Nat)) ∧ w.cell? ⟨b, 3, none⟩ = some (.int .u64 (wd p 3 : Nat))) ∧
  (w.frozen? ⟨b, 0, none⟩ = false ∧ w.frozen? ⟨b, 1, none⟩ = false ∧ w.frozen? ⟨b, 2, none⟩ = false ∧ w.frozen? ⟨b, 3, none⟩ = false)

theorem Holds4.below {w w' : World} {b : Nat} {p : Nat → Bool} (h : Holds4 w b p) {B : Nat} (hb : Below B w w') (hlt : b < B) : Holds4 w' b p := by
  obtain ⟨⟨c0, c1, c2, c3⟩, f0, f1, f2, f3⟩ := h
  exact ⟨⟨(hb.cell (p := ⟨b, 0, none⟩) hlt).trans c0, (hb.cell (p := ⟨b, 1, none⟩) hlt).trans c1, (hb.cell (p := ⟨b, 2, none⟩) hlt).trans c2, (hb.cell (p := ⟨b, 3, none⟩) hlt).trans c3⟩,
    (hb.frozen (p := ⟨b, 0, none⟩) hlt).trans f0, (hb.frozen (p := ⟨b, 1, none⟩) hlt).trans f1, (hb.frozen (p := ⟨b, 2, none⟩) hlt).trans f2, (hb.frozen (p := ⟨b, 3, none⟩) hlt).trans f3⟩

theorem Holds4.lt {w : World} {b : Nat} {p : Nat → Bool} (h : Holds4 w b p) : b < w.heap.size := World.block_lt_of_cell? w _ h.1.1

theorem Holds4.alloc {w : World} {b : Nat} {p : Nat → Bool} (h : Holds4 w b p) (o : Obj) : Holds4 (w.alloc o) b p := h.below ((Below.refl _ _).alloc (Nat.le_refl _) o) h.lt

theorem holds4_new (w : World) (p : Nat → Bool) (t : TypeId) : Holds4 (w.alloc (.cells #[.int .u64 (wd p 0 : Nat), .int .u64 (wd p 1 : Nat), .int .u64 (wd p 2 : Nat), .int .u64 (wd p 3 : Nat)] t)) w.heap.size p := by
  simp [Holds4, go_sem]

theorem holds4_zero (w : World) (t : TypeId) : Holds4 (w.alloc (.cells #[.int .u64 0, .int .u64 0, .int .u64 0, .int .u64 0] t)) w.heap.size (fun _ => false) := by
  have h := holds4_new w (fun _ => false) t
  rw [wd_none, wd_none, wd_none, wd_none] at h
  exact h

/-- What a store of a set leaves. -/
abbrev put4 (w : World) (b : Nat) (q : Nat → Bool) : World :=
  (((w.setCell ⟨b, 0, none⟩ (.int .u64 (wd q 0 : Nat))).setCell ⟨b, 1, none⟩ (.int .u64 (wd q 1 : Nat))).setCell ⟨b, 2, none⟩ (.int .u64 (wd q 2 : Nat))).setCell ⟨b, 3, none⟩ (.int .u64 (wd q 3 : Nat))

theorem Holds4.put {w : World} {b : Nat} {p : Nat → Bool} (h : Holds4 w b p) (q : Nat → Bool) : Holds4 (put4 w b q) b q := by
  obtain ⟨⟨c0, c1, c2, c3⟩, f0, f1, f2, f3⟩ := h
  simp [Holds4, put4, go_sem, *]

theorem Holds4.other {w : World} {b b' : Nat} {p : Nat → Bool} (h : Holds4 w b p) (q : Nat → Bool) (hne : b ≠ b') : Holds4 (put4 w b' q) b p := by
  obtain ⟨⟨c0, c1, c2, c3⟩, f0, f1, f2, f3⟩ := h
  simp [Holds4, put4, go_sem, *]

theorem below_put4 {B : Nat} {a w : World} (h : Below B a w) {b : Nat} (hb : B ≤ b) (q : Nat → Bool) : Below B a (put4 w b q) :=
  (((h.setCell (p := ⟨b, 0, none⟩) hb _).setCell (p := ⟨b, 1, none⟩) hb _).setCell (p := ⟨b, 2, none⟩) hb _).setCell (p := ⟨b, 3, none⟩) hb _

theorem Holds4.drew {w : World} {b : Nat} {p : Nat → Bool} (h : Holds4 w b p) : Holds4 w.drew b p := h

set_option maxHeartbeats 400000 in
theorem stretch_any (lo hi : Int) (h0 : 0 ≤ lo) (h1 : lo ≤ hi) (h2 : hi < 256) (w : World) :
    Calls Try.prog 85 #[.int .u8 lo, .int .u8 hi] w fun e w' => ∃ q, e = .returned (.agg #[.int .u64 (wd q 0 : Nat), .int .u64 (wd q 1 : Nat), .int .u64 (wd q 2 : Nat), .int .u64 (wd q 3 : Nat)]) ∧ Is q (fun n => decide (lo ≤ (n : Int) ∧ (n : Int) ≤ hi)) ∧ Below w.heap.size w w' := by
  go_enter Try.func85, Try.ntmps85
  go_wp2_with fail
  go_loopw [6] (fun i wr => ∃ (k : Int) (p : Nat → Bool), lo ≤ k ∧ k ≤ hi + 1 ∧ i = .int .i64 k ∧ Is p (fun n => decide (lo ≤ (n : Int) ∧ (n : Int) < k)) ∧ Holds4 wr (w.heap.size + 1) p ∧ (∃ q, Holds4 wr w.heap.size q) ∧ Below w.heap.size w wr) (fun i _ => (256 - intOf i).toNat)
  case atStart =>
    have e := holds4_zero (w.alloc (.cells #[.int .u64 0, .int .u64 0, .int .u64 0, .int .u64 0] 24)) 24
    rw [World.size_alloc] at e
    refine ⟨lo, fun _ => false, by omega, by omega, rfl, fun n _ => ?_, e, ⟨_, (holds4_zero w 24).alloc _⟩, ((Below.refl _ _).alloc (Nat.le_refl _) _).alloc (by simp) _⟩
    symm; simp
  case round =>
    obtain ⟨k, p, hk0, hk1, rfl, hp, hs, ⟨q, hr⟩, hB⟩ := hrel
    have hsz := hs.lt
    by_cases hlt : k ≤ hi
    · have hs' := hs
      obtain ⟨⟨c0, c1, c2, c3⟩, f0, f1, f2, f3⟩ := hs
      go_wp2_with fail
      refine (withE p k (by omega) (by omega) _).mono ?_
      rintro e w1 ⟨p1, rfl, hp1, hb1⟩
      clear c0 c1 c2 c3 f0 f1 f2 f3
      have hs1 := hs'.below hb1 hsz
      have hr1 := hr.below hb1 hr.lt
      have hs2 := hs1
      obtain ⟨⟨c0, c1, c2, c3⟩, f0, f1, f2, f3⟩ := hs2
      go_wp2
      go_roundw
      case rel =>
        refine ⟨k + 1, p1, by omega, by omega, rfl, fun n hn => ?_, hs1.put p1, ⟨_, hr1.other p1 (by omega)⟩, below_put4 (hB.trans (hb1.mono hB.size)) (by omega) p1⟩
        rw [hp1 n hn]
        show (p n || n == k.toNat) = _
        rw [hp n hn, Bool.eq_iff_iff]
        simp
        omega
      case measure => simp [intOf]; omega
    · obtain ⟨⟨c0, c1, c2, c3⟩, f0, f1, f2, f3⟩ := hs
      obtain ⟨⟨d0, d1, d2, d3⟩, g0, g1, g2, g3⟩ := hr
      go_wp2
      refine bodyPost_ret (v := .agg #[.int .u64 (wd p 0 : Nat), .int .u64 (wd p 1 : Nat), .int .u64 (wd p 2 : Nat), .int .u64 (wd p 3 : Nat)]) (by simp [results, Try.results85, go_sem, *]) rfl ⟨p, rfl, fun n hn => ?_, below_put4 hB (Nat.le_refl _) _⟩
      rw [hp n hn, Bool.eq_iff_iff]
      simp
      omega

set_option maxRecDepth 100000 in
set_option maxHeartbeats 1000000 in
theorem refNot_any (p : Nat → Bool) (w : World) :
    Calls Try.prog 44 #[.agg #[.int .u64 (wd p 0 : Nat), .int .u64 (wd p 1 : Nat), .int .u64 (wd p 2 : Nat), .int .u64 (wd p 3 : Nat)]] w fun e w' => ∃ q, e = .returned (.agg #[.int .u64 (wd q 0 : Nat), .int .u64 (wd q 1 : Nat), .int .u64 (wd q 2 : Nat), .int .u64 (wd q 3 : Nat)]) ∧ Is q (fun n => !p n) ∧ Below w.heap.size w w' := by
  go_enter Try.func44, Try.ntmps44
  go_wp2_with fail
  go_loopw [4] (fun i wr => ∃ (k : Nat) (t : Nat → Bool), k ≤ 256 ∧ i = .int .i64 k ∧ Is t (upTo k (fun n => !p n)) ∧ Holds4 wr w.heap.size p ∧ (∃ q, Holds4 wr (w.heap.size + 1) q) ∧ Holds4 wr (w.heap.size + 1 + 1) t ∧ Below w.heap.size w wr) (fun i _ => (256 - intOf i).toNat)
  case atStart =>
    have e0 := holds4_new w p 24
    have e1 := holds4_zero (w.alloc (.cells #[.int .u64 (wd p 0 : Nat), .int .u64 (wd p 1 : Nat), .int .u64 (wd p 2 : Nat), .int .u64 (wd p 3 : Nat)] 24)) 24
    have e2 := holds4_zero ((w.alloc (.cells #[.int .u64 (wd p 0 : Nat), .int .u64 (wd p 1 : Nat), .int .u64 (wd p 2 : Nat), .int .u64 (wd p 3 : Nat)] 24)).alloc (.cells #[.int .u64 0, .int .u64 0, .int .u64 0, .int .u64 0] 24)) 24
    rw [World.size_alloc] at e1
    rw [World.size_alloc, World.size_alloc] at e2
    exact ⟨0, fun _ => false, by omega, rfl, upTo_zero _, (e0.alloc _).alloc _, ⟨_, e1.alloc _⟩, e2, (((Below.refl _ _).alloc (Nat.le_refl _) _).alloc (by simp) _).alloc (by simp; omega) _⟩
  case round =>
    obtain ⟨k, t, hk1, rfl, ht, hp0, ⟨q, hr⟩, hs, hB⟩ := hrel
    have hsz := hs.lt
    by_cases hlt : k < 256
    · have hp0' := hp0
      obtain ⟨⟨c0, c1, c2, c3⟩, f0, f1, f2, f3⟩ := hp0
      go_wp2_with fail
      refine (refHas_any p k (by omega) (by omega) _).mono ?_
      rintro e w1 ⟨rfl, hb1⟩
      clear c0 c1 c2 c3 f0 f1 f2 f3
      have hp1 := hp0'.below hb1 hp0'.lt
      have hs1 := hs.below hb1 hs.lt
      have hr1 := hr.below hb1 hr.lt
      have hB1 := hB.trans (hb1.mono hB.size)
      rw [Int.toNat_natCast]
      obtain ⟨b, hb⟩ : ∃ b, p k = b := ⟨_, rfl⟩
      rw [hb]
      have HB : Hid (p k = b) := hb
      clear hb
      cases b
      · have hs2 := hs1
        obtain ⟨⟨c0, c1, c2, c3⟩, f0, f1, f2, f3⟩ := hs2
        go_wp2_with fail
        refine (refWithE t k (by omega) (by omega) _).mono ?_
        rintro e w2 ⟨t1, rfl, ht1, hb2⟩
        clear c0 c1 c2 c3 f0 f1 f2 f3
        have hsz1 := hb1.size
        have hp2 := hp1.below hb2 hp1.lt
        have hs3 := hs1.below hb2 hs1.lt
        have hr2 := hr1.below hb2 hr1.lt
        have hB2 := hB1.trans (hb2.mono hB1.size)
        have hs4 := hs3
        obtain ⟨⟨c0, c1, c2, c3⟩, f0, f1, f2, f3⟩ := hs4
        go_wp2
        go_roundw
        case rel =>
          exact ⟨k + 1, t1, by omega, by go_num, upTo_yes ht ht1 (by simp [HB.out]), hp2.other t1 (by omega), ⟨_, hr2.other t1 (by omega)⟩, hs3.put t1, below_put4 hB2 (by omega) t1⟩
        case measure => simp [intOf]; omega
      · go_wp2
        go_roundw
        case rel =>
          exact ⟨k + 1, t, by omega, by go_num, upTo_no ht (by simp [HB.out]), hp1, ⟨_, hr1⟩, hs1, hB1⟩
        case measure => simp [intOf]; omega
    · obtain ⟨⟨c0, c1, c2, c3⟩, f0, f1, f2, f3⟩ := hs
      obtain ⟨⟨d0, d1, d2, d3⟩, g0, g1, g2, g3⟩ := hr
      go_wp2
      exact bodyPost_ret (v := .agg #[.int .u64 (wd t 0 : Nat), .int .u64 (wd t 1 : Nat), .int .u64 (wd t 2 : Nat), .int .u64 (wd t 3 : Nat)]) (by simp [results, Try.results44, go_sem, *]) rfl ⟨t, rfl, upTo_full ht (by omega), below_put4 hB (by omega) _⟩

set_option maxRecDepth 100000 in
set_option maxHeartbeats 1000000 in
theorem refOr_any (p r : Nat → Bool) (w : World) :
    Calls Try.prog 55 #[.agg #[.int .u64 (wd p 0 : Nat), .int .u64 (wd p 1 : Nat), .int .u64 (wd p 2 : Nat), .int .u64 (wd p 3 : Nat)], .agg #[.int .u64 (wd r 0 : Nat), .int .u64 (wd r 1 : Nat), .int .u64 (wd r 2 : Nat), .int .u64 (wd r 3 : Nat)]] w fun e w' => ∃ q, e = .returned (.agg #[.int .u64 (wd q 0 : Nat), .int .u64 (wd q 1 : Nat), .int .u64 (wd q 2 : Nat), .int .u64 (wd q 3 : Nat)]) ∧ Is q (fun n => p n || r n) ∧ Below w.heap.size w w' := by
  go_enter Try.func55, Try.ntmps55
  go_wp2_with fail
  go_loopw [6] (fun i wr => ∃ (k : Nat) (t : Nat → Bool), k ≤ 256 ∧ i = .int .i64 k ∧ Is t (upTo k (fun n => p n || r n)) ∧ Holds4 wr w.heap.size p ∧ Holds4 wr (w.heap.size + 1) r ∧ (∃ q, Holds4 wr (w.heap.size + 1 + 1) q) ∧ Holds4 wr (w.heap.size + 1 + 1 + 1) t ∧ Below w.heap.size w wr) (fun i _ => (256 - intOf i).toNat)
  case atStart =>
    have e0 := holds4_new w p 24
    have e1 := holds4_new (w.alloc (.cells #[.int .u64 (wd p 0 : Nat), .int .u64 (wd p 1 : Nat), .int .u64 (wd p 2 : Nat), .int .u64 (wd p 3 : Nat)] 24)) r 24
    have e2 := holds4_zero ((w.alloc (.cells #[.int .u64 (wd p 0 : Nat), .int .u64 (wd p 1 : Nat), .int .u64 (wd p 2 : Nat), .int .u64 (wd p 3 : Nat)] 24)).alloc (.cells #[.int .u64 (wd r 0 : Nat), .int .u64 (wd r 1 : Nat), .int .u64 (wd r 2 : Nat), .int .u64 (wd r 3 : Nat)] 24)) 24
    have e3 := holds4_zero (((w.alloc (.cells #[.int .u64 (wd p 0 : Nat), .int .u64 (wd p 1 : Nat), .int .u64 (wd p 2 : Nat), .int .u64 (wd p 3 : Nat)] 24)).alloc (.cells #[.int .u64 (wd r 0 : Nat), .int .u64 (wd r 1 : Nat), .int .u64 (wd r 2 : Nat), .int .u64 (wd r 3 : Nat)] 24)).alloc (.cells #[.int .u64 0, .int .u64 0, .int .u64 0, .int .u64 0] 24)) 24
    rw [World.size_alloc] at e1
    rw [World.size_alloc, World.size_alloc] at e2
    rw [World.size_alloc, World.size_alloc, World.size_alloc] at e3
    exact ⟨0, fun _ => false, by omega, rfl, upTo_zero _, ((e0.alloc _).alloc _).alloc _, (e1.alloc _).alloc _, ⟨_, e2.alloc _⟩, e3, ((((Below.refl _ _).alloc (Nat.le_refl _) _).alloc (by simp) _).alloc (by simp; omega) _).alloc (by simp; omega) _⟩
  case round =>
    obtain ⟨k, t, hk1, rfl, ht, hp0, hq0, ⟨q, hr⟩, hs, hB⟩ := hrel
    have hsz := hs.lt
    by_cases hlt : k < 256
    · have hp0' := hp0
      obtain ⟨⟨c0, c1, c2, c3⟩, f0, f1, f2, f3⟩ := hp0
      go_wp2_with fail
      refine (refHas_any p k (by omega) (by omega) _).mono ?_
      rintro e wh ⟨rfl, hbh⟩
      clear c0 c1 c2 c3 f0 f1 f2 f3
      have hph := hp0'.below hbh hp0'.lt
      have hqh := hq0.below hbh hq0.lt
      have hsh := hs.below hbh hs.lt
      have hrh := hr.below hbh hr.lt
      have hBh := hB.trans (hbh.mono hB.size)
      have hszh := hbh.size
      rw [Int.toNat_natCast]
      obtain ⟨b, hb⟩ : ∃ b, p k = b := ⟨_, rfl⟩
      rw [hb]
      have HB : Hid (p k = b) := hb
      clear hb hp0' hq0 hr hs hB
      cases b
      · have hq2 := hqh
        obtain ⟨⟨c0, c1, c2, c3⟩, f0, f1, f2, f3⟩ := hq2
        go_wp2_with fail
        refine (refHas_any r k (by omega) (by omega) _).mono ?_
        rintro e w1 ⟨rfl, hb1⟩
        clear c0 c1 c2 c3 f0 f1 f2 f3
        have hp1 := hph.below hb1 hph.lt
        have hq1 := hqh.below hb1 hqh.lt
        have hs1 := hsh.below hb1 hsh.lt
        have hr1 := hrh.below hb1 hrh.lt
        have hB1 := hBh.trans (hb1.mono hBh.size)
        rw [Int.toNat_natCast]
        obtain ⟨b, hb⟩ : ∃ b, r k = b := ⟨_, rfl⟩
        rw [hb]
        have HC : Hid (r k = b) := hb
        clear hb
        cases b
        · go_wp2
          go_roundw
          case rel =>
            exact ⟨k + 1, t, by omega, by go_num, upTo_no ht (by simp [HB.out, HC.out]), hp1, hq1, ⟨_, hr1⟩, hs1, hB1⟩
          case measure => simp [intOf]; omega
        · have hs2 := hs1
          obtain ⟨⟨c0, c1, c2, c3⟩, f0, f1, f2, f3⟩ := hs2
          go_wp2_with fail
          refine (refWithE t k (by omega) (by omega) _).mono ?_
          rintro e w2 ⟨t1, rfl, ht1, hb2⟩
          clear c0 c1 c2 c3 f0 f1 f2 f3
          have hsz1 := hb1.size
          have hp2 := hp1.below hb2 hp1.lt
          have hq2 := hq1.below hb2 hq1.lt
          have hs3 := hs1.below hb2 hs1.lt
          have hr2 := hr1.below hb2 hr1.lt
          have hB2 := hB1.trans (hb2.mono hB1.size)
          have hs4 := hs3
          obtain ⟨⟨c0, c1, c2, c3⟩, f0, f1, f2, f3⟩ := hs4
          go_wp2
          go_roundw
          case rel =>
            exact ⟨k + 1, t1, by omega, by go_num, upTo_yes ht ht1 (by simp [HB.out, HC.out]), hp2.other t1 (by omega), hq2.other t1 (by omega), ⟨_, hr2.other t1 (by omega)⟩, hs3.put t1, below_put4 hB2 (by omega) t1⟩
          case measure => simp [intOf]; omega

      · have hp1 := hph
        have hq1 := hqh
        have hs1 := hsh
        have hr1 := hrh
        have hB1 := hBh
        have hb1 := hbh
        have hs2 := hs1
        obtain ⟨⟨c0, c1, c2, c3⟩, f0, f1, f2, f3⟩ := hs2
        go_wp2_with fail
        refine (refWithE t k (by omega) (by omega) _).mono ?_
        rintro e w2 ⟨t1, rfl, ht1, hb2⟩
        clear c0 c1 c2 c3 f0 f1 f2 f3
        have hsz1 := hb1.size
        have hp2 := hp1.below hb2 hp1.lt
        have hq2 := hq1.below hb2 hq1.lt
        have hs3 := hs1.below hb2 hs1.lt
        have hr2 := hr1.below hb2 hr1.lt
        have hB2 := hB1.trans (hb2.mono hB1.size)
        have hs4 := hs3
        obtain ⟨⟨c0, c1, c2, c3⟩, f0, f1, f2, f3⟩ := hs4
        go_wp2
        go_roundw
        case rel =>
          exact ⟨k + 1, t1, by omega, by go_num, upTo_yes ht ht1 (by simp [HB.out]), hp2.other t1 (by omega), hq2.other t1 (by omega), ⟨_, hr2.other t1 (by omega)⟩, hs3.put t1, below_put4 hB2 (by omega) t1⟩
        case measure => simp [intOf]; omega

    · obtain ⟨⟨c0, c1, c2, c3⟩, f0, f1, f2, f3⟩ := hs
      obtain ⟨⟨d0, d1, d2, d3⟩, g0, g1, g2, g3⟩ := hr
      go_wp2
      exact bodyPost_ret (v := .agg #[.int .u64 (wd t 0 : Nat), .int .u64 (wd t 1 : Nat), .int .u64 (wd t 2 : Nat), .int .u64 (wd t 3 : Nat)]) (by simp [results, Try.results55, go_sem, *]) rfl ⟨t, rfl, upTo_full ht (by omega), below_put4 hB (by omega) _⟩
end Go.Proofs.Ytooanbbnjiogaaa
