/- bracket: bytes at places; stands, joins, dash, closes: walks. -/
import Derived.Test.YtolpakpdkheanaaKShelf
import Derived.Test.YtolpakpdkheanaaKClassB
import Derived.Lib.Index
import Derived.WalkKit
import Derived.WalkSpells
import Derived.WalkLawsBesides
set_option maxRecDepth 100000
set_option maxHeartbeats 400000
namespace Go.Proofs.Ytolpakpdkheanaa.br
open Go.RowKit
theorem hide {p : Prop} (h : p) : Hid p := h
def xag (s : ByteArray) (i : Nat) : Int := if h : i < s.size then (s[i].toNat : Int) else -1
theorem xan {s : ByteArray} {i : Nat} (h : i < s.size) : xag s i = (s[i].toNat : Int) := by simp [xag, h]
theorem xez {s : ByteArray} {i : Nat} (h : s.size ≤ i) : xag s i = -1 := by simp [xag, Nat.not_lt.2 h]
theorem xcg {s : ByteArray} {i : Nat} {b : Int} (h : xag s i = b) (hb : 0 ≤ b) : i < s.size := by
 rcases Nat.lt_or_ge i s.size with h' | h'
 ·exact h'
 ·rw [xez h'] at h; omega
theorem xfa (s : ByteArray) (i : Nat) : -1 ≤ xag s i ∧ xag s i < 256 := by
 rcases Nat.lt_or_ge i s.size with h | h
 ·rw [xan h]; have := s[i].toNat_lt; omega
 ·rw [xez h]; omega
theorem xax (s : ByteArray) (i : Nat) (b : Int) (hb : 0 ≤ b) (w : World) :
  Calls Try.prog 85 #[.string s, .int .i64 i, .int .u8 b] w fun e w' => e = .returned (.bool (xag s i == b)) ∧ w' = w := by
 by_cases h : i < s.size
 ·rw [xan h]
  go_enter Try.func85, Try.ntmps85
  go_wp2
  go_ret
  exact ⟨by simp, rfl⟩
 ·rw [xez (by omega)]
  have hne : ((-1 : Int) == b) = false := by rw [beq_eq_false_iff_ne]; omega
  rw [hne]
  go_enter Try.func85, Try.ntmps85
  go_wp2
  go_ret
  exact ⟨by simp, rfl⟩
theorem xnj (s : ByteArray) (x : Int) (hx : x < 0) (b : Int) (w : World) :
  Calls Try.prog 85 #[.string s, .int .i64 x, .int .u8 b] w fun e w' => e = .returned (.bool false) ∧ w' = w := by
 go_enter Try.func85, Try.ntmps85
 go_wp2
 go_ret
 exact ⟨by simp, rfl⟩
def xef (s : ByteArray) (i : Nat) : Bool := xag s i == 45 && !(xag s (i + 1) == 93)
theorem xi8 (s : ByteArray) (i : Nat) (hi : i ≤ 1073741824) (w : World) :
  Calls Try.prog 93 #[.string s, .int .i64 i] w fun e w' => e = .returned (.bool (xef s i)) ∧ w' = w := by
 go_enter Try.func93, Try.ntmps93
 go_wp2_with fail
 refine (xax s i 45 (by decide) w).mono ?_
 rintro e w1 ⟨rfl, hw⟩
 have hw := hw.symm
 subst hw
 have h2 := xax s (i + 1) 93 (by decide) w
 cases h45 : (xag s i == 45) with
 | true =>
  go_wp2_with fail
  refine h2.mono ?_
  rintro e w1 ⟨rfl, hw⟩
  have hw := hw.symm
  subst hw
  go_wp2
  go_ret
  exact ⟨by simp [xef, h45], rfl⟩
 | false =>
  go_wp2_with fail
  go_ret
  exact ⟨by simp [xef, h45], rfl⟩
noncomputable def xg3 (s : ByteArray) : Nat → Bool := (clT s).1
def xi9 (s : ByteArray) : Int := ccF s
theorem classD (s : ByteArray) (w : World) : Calls Try.prog 104 #[.string s] w fun e w' => e = .returned (.tuple #[.agg #[.int .u64 (wd (xg3 s) 0), .int .u64 (wd (xg3 s) 1), .int .u64 (wd (xg3 s) 2), .int .u64 (wd (xg3 s) 3)], .int .i64 (xi9 s)]) ∧ Below w.heap.size w w' := classW s w
def xc7 (s : ByteArray) (a : Nat) (m : UInt8) : Int := if Lib.index (s.data.toList.drop a) [m, 93] = -1 then -1 else (a : Int) + Lib.index (s.data.toList.drop a) [m, 93]
end Go.Proofs.Ytolpakpdkheanaa.br
