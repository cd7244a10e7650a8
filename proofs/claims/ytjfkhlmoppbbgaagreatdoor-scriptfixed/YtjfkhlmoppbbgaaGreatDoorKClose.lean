/- bracket: bytes at places; stands, joins, dash, closes: walks. -/
import Derived.Test.YtjfkhlmoppbbgaaGreatDoorKShelf
import Derived.Test.YtjfkhlmoppbbgaaGreatDoorKClassD
import Derived.Lib.Index
import Derived.WalkKit
import Derived.WalkSpells
import Derived.WalkLawsBesides
namespace Go.Proofs.YtjfkhlmoppbbgaaGreatDoor.br
open Go.RowKit

theorem hide {p : Prop} (h : p) : Hid p := h

/-- The byte at a place; -1 where there is none. -/
def byteAt (s : ByteArray) (i : Nat) : Int := if h : i < s.size then (s[i].toNat : Int) else -1

theorem byteAt_in {s : ByteArray} {i : Nat} (h : i < s.size) : byteAt s i = (s[i].toNat : Int) := by simp [byteAt, h]
theorem byteAt_out {s : ByteArray} {i : Nat} (h : s.size ≤ i) : byteAt s i = -1 := by simp [byteAt, Nat.not_lt.2 h]
theorem byteAt_lt {s : ByteArray} {i : Nat} {b : Int} (h : byteAt s i = b) (hb : 0 ≤ b) : i < s.size := by
  rcases Nat.lt_or_ge i s.size with h' | h'
  · exact h'
  · rw [byteAt_out h'] at h; omega
theorem byteAt_range (s : ByteArray) (i : Nat) : -1 ≤ byteAt s i ∧ byteAt s i < 256 := by
  rcases Nat.lt_or_ge i s.size with h | h
  · rw [byteAt_in h]; have := s[i].toNat_lt; omega
  · rw [byteAt_out h]; omega

set_option maxRecDepth 100000 in
set_option maxHeartbeats 400000 in
theorem stands_any (s : ByteArray) (i : Nat) (b : Int) (hb : 0 ≤ b) (w : World) :
    Calls Tryz.prog 267 #[.string s, .int .i64 i, .int .u8 b] w fun e w' => e = .returned (.bool (byteAt s i == b)) ∧ w' = w := by
  by_cases h : i < s.size
  · rw [byteAt_in h]
    go_enter Tryz.func267, Tryz.ntmps267
    go_wp2
    go_ret
    exact ⟨by simp, rfl⟩
  · rw [byteAt_out (by omega)]
    have hne : ((-1 : Int) == b) = false := by rw [beq_eq_false_iff_ne]; omega
    rw [hne]
    go_enter Tryz.func267, Tryz.ntmps267
    go_wp2
    go_ret
    exact ⟨by simp, rfl⟩

set_option maxRecDepth 100000 in
set_option maxHeartbeats 400000 in
theorem stands_neg (s : ByteArray) (x : Int) (hx : x < 0) (b : Int) (w : World) :
    Calls Tryz.prog 267 #[.string s, .int .i64 x, .int .u8 b] w fun e w' => e = .returned (.bool false) ∧ w' = w := by
  go_enter Tryz.func267, Tryz.ntmps267
  go_wp2
  go_ret
  exact ⟨by simp, rfl⟩

/-- A - that makes a range of what is beside it. -/
def joinsB (s : ByteArray) (i : Nat) : Bool := byteAt s i == 45 && !(byteAt s (i + 1) == 93)

set_option maxRecDepth 100000 in
set_option maxHeartbeats 400000 in
theorem joins_any (s : ByteArray) (i : Nat) (hi : i ≤ 1073741824) (w : World) :
    Calls Tryz.prog 276 #[.string s, .int .i64 i] w fun e w' => e = .returned (.bool (joinsB s i)) ∧ w' = w := by
  go_enter Tryz.func276, Tryz.ntmps276
  go_wp2_with fail
  refine (stands_any s i 45 (by decide) w).mono ?_
  rintro e w1 ⟨rfl, hw⟩
  have hw := hw.symm
  subst hw
  have h2 := stands_any s (i + 1) 93 (by decide) w
  cases h45 : (byteAt s i == 45) with
  | true =>
    go_wp2_with fail
    refine h2.mono ?_
    rintro e w1 ⟨rfl, hw⟩
    have hw := hw.symm
    subst hw
    go_wp2
    go_ret
    exact ⟨by simp [joinsB, h45], rfl⟩
  | false =>
    go_wp2_with fail
    go_ret
    exact ⟨by simp [joinsB, h45], rfl⟩

end Go.Proofs.YtjfkhlmoppbbgaaGreatDoor.br

/- bracket: classes as one answer, the end of a marked item, items: what they are, and closes. -/
namespace Go.Proofs.YtjfkhlmoppbbgaaGreatDoor.br
open Go.RowKit

/-- Class and the document's Class answer the same set and error. -/
theorem class_spec (s : ByteArray) : ∃ q : Nat → Bool, ∀ w : World, Calls Tryz.prog 283 #[.string s] w fun e w' => e = .returned (.tuple #[.agg #[.int .u64 (wd q 0 : Nat), .int .u64 (wd q 1 : Nat), .int .u64 (wd q 2 : Nat), .int .u64 (wd q 3 : Nat)], .int .i64 (ccF s)]) ∧ Below w.heap.size w w' := by
  obtain ⟨q, c, h, rfl⟩ := class_one s
  exact ⟨q, h⟩

noncomputable def classQ (s : ByteArray) : Nat → Bool := (class_spec s).choose
def classC (s : ByteArray) : Int := ccF s
theorem classD (s : ByteArray) (w : World) : Calls Tryz.prog 283 #[.string s] w fun e w' => e = .returned (.tuple #[.agg #[.int .u64 (wd (classQ s) 0 : Nat), .int .u64 (wd (classQ s) 1 : Nat), .int .u64 (wd (classQ s) 2 : Nat), .int .u64 (wd (classQ s) 3 : Nat)], .int .i64 (classC s)]) ∧ Below w.heap.size w w' := (class_spec s).choose_spec w

/-- Where the mark's end begins, from a place on; -1: nowhere. -/
def closeI (s : ByteArray) (a : Nat) (m : UInt8) : Int := if Lib.index (s.data.toList.drop a) [m, 93] = -1 then -1 else (a : Int) + Lib.index (s.data.toList.drop a) [m, 93]

end Go.Proofs.YtjfkhlmoppbbgaaGreatDoor.br
