/- bracket: bytes at places; stands, joins, dash, closes: walks. -/
import Derived.Test.YtiedliahmjiadaaKTkd
import Derived.Test.YtiedliahmjiadaaKBoth
import Derived.Lib.Index
import Derived.WalkKit
import Derived.WalkSpells
import Derived.WalkLawsBesides
set_option maxRecDepth 100000
set_option maxHeartbeats 400000
namespace Go.Proofs.Ytiedliahmjiadaa
open Go.RowKit
theorem hide {p : Prop} (h : p) : Hid p := h
def byteAt (s : ByteArray) (i : Nat) : Int := if h : i < s.size then (s[i].toNat : Int) else -1
theorem byteAt_in {s : ByteArray} {i : Nat} (h : i < s.size) : byteAt s i = (s[i].toNat : Int) := by simp [byteAt, h]
theorem byteAt_out {s : ByteArray} {i : Nat} (h : s.size ≤ i) : byteAt s i = -1 := by simp [byteAt, Nat.not_lt.2 h]
theorem byteAt_lt {s : ByteArray} {i : Nat} {b : Int} (h : byteAt s i = b) (hb : 0 ≤ b) : i < s.size := by
 rcases Nat.lt_or_ge i s.size with h' | h'
 ·exact h'
 ·rw [byteAt_out h'] at h; omega
theorem byteAt_range (s : ByteArray) (i : Nat) : -1 ≤ byteAt s i ∧ byteAt s i < 256 := by
 rcases Nat.lt_or_ge i s.size with h | h
 ·rw [byteAt_in h]; have := s[i].toNat_lt; omega
 ·rw [byteAt_out h]; omega
theorem stands_any (s : ByteArray) (i : Nat) (b : Int) (hb : 0 ≤ b) (w : World) :
  Calls Try.prog 73 #[.string s, .int .i64 i, .int .u8 b] w fun e w' => e = .returned (.bool (byteAt s i == b)) ∧ w' = w := by
 by_cases h : i < s.size
 ·rw [byteAt_in h]
  go_enter Try.func73, Try.ntmps73
  go_wp2
  go_ret
  exact ⟨by simp, rfl⟩
 ·rw [byteAt_out (by omega)]
  have hne : ((-1 : Int) == b) = false := by rw [beq_eq_false_iff_ne]; omega
  rw [hne]
  go_enter Try.func73, Try.ntmps73
  go_wp2
  go_ret
  exact ⟨by simp, rfl⟩
theorem stands_neg (s : ByteArray) (x : Int) (hx : x < 0) (b : Int) (w : World) :
  Calls Try.prog 73 #[.string s, .int .i64 x, .int .u8 b] w fun e w' => e = .returned (.bool false) ∧ w' = w := by
 go_enter Try.func73, Try.ntmps73
 go_wp2
 go_ret
 exact ⟨by simp, rfl⟩
def joinsB (s : ByteArray) (i : Nat) : Bool := byteAt s i == 45 && !(byteAt s (i + 1) == 93)
theorem joins_any (s : ByteArray) (i : Nat) (hi : i ≤ 1073741824) (w : World) :
  Calls Try.prog 77 #[.string s, .int .i64 i] w fun e w' => e = .returned (.bool (joinsB s i)) ∧ w' = w := by
 go_enter Try.func77, Try.ntmps77
 go_wp2_with fail
 refine (stands_any s i 45 (by decide) w).mono ?_
 rintro e w1 ⟨rfl, hw⟩
 have hw := hw.symm
 subst hw
 have h2 := stands_any s (i + 1) 93 (by decide) w
 cases h45 : (byteAt s i == 45) with
 | true =>
  go_wp2_with fail
  refine h2.mono ?_
  rintro e w1 ⟨rfl, hw⟩
  have hw := hw.symm
  subst hw
  go_wp2
  go_ret
  exact ⟨by simp [joinsB, h45], rfl⟩
 | false =>
  go_wp2_with fail
  go_ret
  exact ⟨by simp [joinsB, h45], rfl⟩
end Go.Proofs.Ytiedliahmjiadaa
namespace Go.Proofs.Ytiedliahmjiadaa
open Go.RowKit
theorem class_spec (s : ByteArray) : ∃ q : Nat → Bool, ∀ w : World, Calls Try.prog 88 #[.string s] w fun e w' => e = .returned (.tuple #[.agg #[.int .u64 (wd q 0 : Nat), .int .u64 (wd q 1 : Nat), .int .u64 (wd q 2 : Nat), .int .u64 (wd q 3 : Nat)], .int .i64 (ccF s)]) ∧ Below w.heap.size w w' := by
 obtain ⟨q, c, h, rfl⟩ := class_one s
 exact ⟨q, h⟩
noncomputable def classQ (s : ByteArray) : Nat → Bool := (class_spec s).choose
def classC (s : ByteArray) : Int := ccF s
theorem classD (s : ByteArray) (w : World) : Calls Try.prog 88 #[.string s] w fun e w' => e = .returned (.tuple #[.agg #[.int .u64 (wd (classQ s) 0 : Nat), .int .u64 (wd (classQ s) 1 : Nat), .int .u64 (wd (classQ s) 2 : Nat), .int .u64 (wd (classQ s) 3 : Nat)], .int .i64 (classC s)]) ∧ Below w.heap.size w w' := (class_spec s).choose_spec w
def closeI (s : ByteArray) (a : Nat) (m : UInt8) : Int := if Lib.index (s.data.toList.drop a) [m, 93] = -1 then -1 else (a : Int) + Lib.index (s.data.toList.drop a) [m, 93]
end Go.Proofs.Ytiedliahmjiadaa
