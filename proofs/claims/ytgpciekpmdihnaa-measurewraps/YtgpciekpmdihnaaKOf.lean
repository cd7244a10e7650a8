/- Walks: Of, the text's bytes as a set: the two ways, at every text. -/
import Derived.Test.YtgpciekpmdihnaaKPlain
import Derived.Deep.RegionWith
namespace Go.Proofs.Ytgpciekpmdihnaa
open Go.RowKit
def inText (s : ByteArray) (k : Nat) (n : Nat) : Bool := (s.data.toList.take k).any fun b => b.toNat == n
theorem inText_zero (s : ByteArray) : Is (fun _ => false) (inText s 0) := fun n _ => by simp [inText]
theorem inText_succ (s : ByteArray) (k : Nat) (h : k < s.size) (n : Nat) : inText s (k + 1) n = (inText s k n || n == s[k].toNat) := by
  unfold inText
  rw [List.take_succ_eq_append_getElem (by simpa using h), List.any_append]
  congr 1
  simp only [List.any_cons, List.any_nil, Bool.or_false]
  show (s[k].toNat == n) = _
  rw [Bool.eq_iff_iff]; simp only [beq_iff_eq]; exact eq_comm
theorem inText_step {s : ByteArray} {k : Nat} (h : k < s.size) {t t1 : Nat → Bool} (ht : Is t (inText s k)) {x : Int} (hx : x = (s[k].toNat : Int)) (h1 : Is t1 (ins t x.toNat)) : Is t1 (inText s (k + 1)) := fun n hn => by
  rw [h1 n hn, inText_succ s k h n]
  unfold ins
  rw [ht n hn, hx, Int.toNat_natCast]
theorem wrap_byte (b : UInt8) : IntKind.i64.wrap (b.toNat : Int) = (b.toNat : Int) := by
  have := b.toNat_lt
  rw [IntKind.wrap_i64]; omega
theorem byte_lt (b : UInt8) : ((b.toNat : Nat) : Int) < 256 := by have := b.toNat_lt; omega
set_option maxRecDepth 100000 in
set_option maxHeartbeats 200000 in
theorem of_any (s : ByteArray) (hs : s.size ≤ maxLen) (w : World) :
    Calls Try.prog 62 #[.string s] w fun e w' => ∃ q, e = .returned (.agg #[.int .u64 (wd q 0 : Nat), .int .u64 (wd q 1 : Nat), .int .u64 (wd q 2 : Nat), .int .u64 (wd q 3 : Nat)]) ∧ Is q (inText s s.size) ∧ Below w.heap.size w w' := by
  unfold maxLen at hs
  go_enter Try.func62, Try.ntmps62
  go_wp2_with fail
  go_loopw [4, 7] (fun _ i wr => ∃ (k : Nat) (t : Nat → Bool), k ≤ s.size ∧ i = .int .i64 k ∧ Is t (inText s k) ∧ (∃ q, Holds4 wr w.heap.size q) ∧ Holds4 wr (w.heap.size + 1) t ∧ Below w.heap.size w wr) (fun _ i _ => (s.size - (intOf i).toNat))
  case atStart =>
    have e := holds4_zero (w.alloc (.cells #[.int .u64 0, .int .u64 0, .int .u64 0, .int .u64 0] 24)) 24
    rw [World.size_alloc] at e
    exact ⟨0, fun _ => false, by omega, rfl, inText_zero s, ⟨_, (holds4_zero w 24).alloc _⟩, e, ((Below.refl _ _).alloc (Nat.le_refl _) _).alloc (by simp) _⟩
  case round =>
    obtain ⟨k, t, hk1, rfl, ht, ⟨q, hr⟩, hs, hB⟩ := hrel
    have hsz := hs.lt
    by_cases hlt : k < s.size
    · have hs' := hs
      obtain ⟨⟨c0, c1, c2, c3⟩, f0, f1, f2, f3⟩ := hs
      go_wp2_with fail
      go_region_with (go_at_call 74; go_must (refine (withE t _ (Int.natCast_nonneg _) (byte_lt _) _).mono ?_; rintro e w1 ⟨t1, rfl, ht1, hb0⟩; have hb1 := ((Below.refl wr.heap.size wr).drew).trans hb0; have hs1 := hs'.below hb1 hsz; have hr1 := hr.below hb1 hr.lt; have hs2 := hs1; obtain ⟨⟨d0, d1, d2, d3⟩, g0, g1, g2, g3⟩ := hs2))
      all_goals
        go_wp2
        exact ⟨⟨k + 1, t1, by omega, by go_num, inText_step hlt ht rfl ht1, ⟨_, hr1.other t1 (by omega)⟩, hs1.put t1, below_put4 (hB.trans (hb1.mono hB.size)) (by omega) t1⟩, by simp [intOf]; omega⟩
    · obtain ⟨⟨c0, c1, c2, c3⟩, f0, f1, f2, f3⟩ := hs
      obtain ⟨⟨d0, d1, d2, d3⟩, g0, g1, g2, g3⟩ := hr
      obtain rfl : k = s.size := by omega
      go_wp2
      exact bodyPost_ret (v := .agg #[.int .u64 (wd t 0 : Nat), .int .u64 (wd t 1 : Nat), .int .u64 (wd t 2 : Nat), .int .u64 (wd t 3 : Nat)]) (by simp [results, Try.results62, go_sem, *]) rfl ⟨t, rfl, ht, below_put4 hB (by omega) _⟩
set_option maxRecDepth 100000 in
set_option maxHeartbeats 200000 in
theorem refOf_any (s : ByteArray) (hs : s.size ≤ maxLen) (w : World) :
    Calls Try.prog 67 #[.string s] w fun e w' => ∃ q, e = .returned (.agg #[.int .u64 (wd q 0 : Nat), .int .u64 (wd q 1 : Nat), .int .u64 (wd q 2 : Nat), .int .u64 (wd q 3 : Nat)]) ∧ Is q (inText s s.size) ∧ Below w.heap.size w w' := by
  unfold maxLen at hs
  go_enter Try.func67, Try.ntmps67
  go_wp2_with fail
  go_loopw [4] (fun i wr => ∃ (k : Nat) (t : Nat → Bool), k ≤ s.size ∧ i = .int .i64 k ∧ Is t (inText s k) ∧ (∃ q, Holds4 wr w.heap.size q) ∧ Holds4 wr (w.heap.size + 1) t ∧ Below w.heap.size w wr) (fun i _ => (s.size - (intOf i).toNat))
  case atStart =>
    have e := holds4_zero (w.alloc (.cells #[.int .u64 0, .int .u64 0, .int .u64 0, .int .u64 0] 24)) 24
    rw [World.size_alloc] at e
    exact ⟨0, fun _ => false, by omega, rfl, inText_zero s, ⟨_, (holds4_zero w 24).alloc _⟩, e, ((Below.refl _ _).alloc (Nat.le_refl _) _).alloc (by simp) _⟩
  case round =>
    obtain ⟨k, t, hk1, rfl, ht, ⟨q, hr⟩, hs, hB⟩ := hrel
    have hsz := hs.lt
    by_cases hlt : k < s.size
    · have hs' := hs
      obtain ⟨⟨c0, c1, c2, c3⟩, f0, f1, f2, f3⟩ := hs
      go_wp2_with fail
      go_region_with (go_at_call 66; rw [wrap_byte]; go_must (refine (refWithE t _ (Int.natCast_nonneg _) (byte_lt _) _).mono ?_; rintro e w1 ⟨t1, rfl, ht1, hb0⟩; have hb1 := ((Below.refl wr.heap.size wr).drew).trans hb0; have hs1 := hs'.below hb1 hsz; have hr1 := hr.below hb1 hr.lt; have hs2 := hs1; obtain ⟨⟨d0, d1, d2, d3⟩, g0, g1, g2, g3⟩ := hs2))
      all_goals
        go_wp2
        exact ⟨⟨k + 1, t1, by omega, by go_num, inText_step hlt ht rfl ht1, ⟨_, hr1.other t1 (by omega)⟩, hs1.put t1, below_put4 (hB.trans (hb1.mono hB.size)) (by omega) t1⟩, by simp [intOf]; omega⟩
    · obtain ⟨⟨c0, c1, c2, c3⟩, f0, f1, f2, f3⟩ := hs
      obtain ⟨⟨d0, d1, d2, d3⟩, g0, g1, g2, g3⟩ := hr
      obtain rfl : k = s.size := by omega
      go_wp2
      exact bodyPost_ret (v := .agg #[.int .u64 (wd t 0 : Nat), .int .u64 (wd t 1 : Nat), .int .u64 (wd t 2 : Nat), .int .u64 (wd t 3 : Nat)]) (by simp [results, Try.results67, go_sem, *]) rfl ⟨t, rfl, ht, below_put4 hB (by omega) _⟩
end Go.Proofs.Ytgpciekpmdihnaa
