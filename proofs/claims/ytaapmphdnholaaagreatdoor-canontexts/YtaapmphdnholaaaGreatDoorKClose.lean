/- bracket: bytes at places; stands, joins, dash, closes: walks. -/
import Derived.Test.YtaapmphdnholaaaGreatDoorKShelf
import Derived.Test.YtaapmphdnholaaaGreatDoorKBoth
import Derived.Lib.Index
import Derived.WalkKit
import Derived.WalkSpells
import Derived.WalkLawsBesides
set_option maxRecDepth 100000
set_option maxHeartbeats 400000
namespace Go.Proofs.YtaapmphdnholaaaGreatDoor
open Go.RowKit
theorem hide {p : Prop} (h : p) : Hid p := h
def xac (s : ByteArray) (i : Nat) : Int := if h : i < s.size then (s[i].toNat : Int) else -1
theorem xah {s : ByteArray} {i : Nat} (h : i < s.size) : xac s i = (s[i].toNat : Int) := by simp [xac, h]
theorem xbc {s : ByteArray} {i : Nat} (h : s.size ≤ i) : xac s i = -1 := by simp [xac, Nat.not_lt.2 h]
theorem xa7 {s : ByteArray} {i : Nat} {b : Int} (h : xac s i = b) (hb : 0 ≤ b) : i < s.size := by
 rcases Nat.lt_or_ge i s.size with h' | h'
 ·exact h'
 ·rw [xbc h'] at h; omega
theorem xgm (s : ByteArray) (i : Nat) : -1 ≤ xac s i ∧ xac s i < 256 := by
 rcases Nat.lt_or_ge i s.size with h | h
 ·rw [xah h]; have := s[i].toNat_lt; omega
 ·rw [xbc h]; omega
theorem xbl (s : ByteArray) (i : Nat) (b : Int) (hb : 0 ≤ b) (w : World) :
  Calls Tryz.prog 86 #[.string s, .int .i64 i, .int .u8 b] w fun e w' => e = .returned (.bool (xac s i == b)) ∧ w' = w := by
 by_cases h : i < s.size
 ·rw [xah h]
  go_enter Tryz.func86, Tryz.ntmps86
  go_wp2
  go_ret
  exact ⟨by simp, rfl⟩
 ·rw [xbc (by omega)]
  have hne : ((-1 : Int) == b) = false := by rw [beq_eq_false_iff_ne]; omega
  rw [hne]
  go_enter Tryz.func86, Tryz.ntmps86
  go_wp2
  go_ret
  exact ⟨by simp, rfl⟩
theorem xpv (s : ByteArray) (x : Int) (hx : x < 0) (b : Int) (w : World) :
  Calls Tryz.prog 86 #[.string s, .int .i64 x, .int .u8 b] w fun e w' => e = .returned (.bool false) ∧ w' = w := by
 go_enter Tryz.func86, Tryz.ntmps86
 go_wp2
 go_ret
 exact ⟨by simp, rfl⟩
def xbk (s : ByteArray) (i : Nat) : Bool := xac s i == 45 && !(xac s (i + 1) == 93)
theorem xk4 (s : ByteArray) (i : Nat) (hi : i ≤ 1073741824) (w : World) :
  Calls Tryz.prog 101 #[.string s, .int .i64 i] w fun e w' => e = .returned (.bool (xbk s i)) ∧ w' = w := by
 go_enter Tryz.func101, Tryz.ntmps101
 go_wp2_with fail
 refine (xbl s i 45 (by decide) w).mono ?_
 rintro e w1 ⟨rfl, hw⟩
 have hw := hw.symm
 subst hw
 have h2 := xbl s (i + 1) 93 (by decide) w
 cases h45 : (xac s i == 45) with
 | true =>
  go_wp2_with fail
  refine h2.mono ?_
  rintro e w1 ⟨rfl, hw⟩
  have hw := hw.symm
  subst hw
  go_wp2
  go_ret
  exact ⟨by simp [xbk, h45], rfl⟩
 | false =>
  go_wp2_with fail
  go_ret
  exact ⟨by simp [xbk, h45], rfl⟩
theorem xoh (s : ByteArray) (hs : s.size ≤ 1073741824) (i : Nat) (hi : i ≤ 1073741824) (w : World) :
  Calls Tryz.prog 82 #[.string s, .int .i64 i] w fun e w' => e = .returned (.bool (xbk s i)) ∧ w' = w := by
 by_cases h : i < s.size
 ·by_cases h45 : (s[i].toNat : Int) = 45
  ·have hj : xbk s i = !(xac s (i + 1) == 93) := by rw [xbk, xah h, h45]; simp
   rw [hj]
   by_cases h1 : i + 1 < s.size
   ·rw [xah h1]
    have hne : ((i : Int) + 1 == (s.size : Int)) = false := by rw [beq_eq_false_iff_ne]; omega
    go_enter Tryz.func82, Tryz.ntmps82
    go_wp2
    go_ret
    exact ⟨by simp [bne], rfl⟩
   ·rw [xbc (by omega)]
    have e1 : i + 1 = s.size := by omega
    go_enter Tryz.func82, Tryz.ntmps82
    go_wp2
    go_ret
    exact ⟨by simp, rfl⟩
  ·have hj : xbk s i = false := by rw [xbk, xah h]; simp [h45]
   rw [hj]
   have hb45 : ((s[i].toNat : Int) != 45) = true := by simp [h45]
   go_enter Tryz.func82, Tryz.ntmps82
   go_wp2
   all_goals
    go_ret
    exact ⟨by simp, rfl⟩
 ·have hj : xbk s i = false := by rw [xbk, xbc (by omega)]; simp
  rw [hj]
  go_enter Tryz.func82, Tryz.ntmps82
  go_wp2
  go_ret
  exact ⟨by simp, rfl⟩
theorem xf5 (s : ByteArray) : ∃ q : Nat → Bool, (∀ w : World, Calls Tryz.prog 113 #[.string s] w fun e w' => e = .returned (.tuple #[.agg #[.int .u64 (wd q 0), .int .u64 (wd q 1), .int .u64 (wd q 2), .int .u64 (wd q 3)], .int .i64 (ccF s)]) ∧ Below w.heap.size w w') ∧
  (∀ w : World, Calls Tryz.prog 98 #[.string s] w fun e w' => e = .returned (.tuple #[.agg #[.int .u64 (wd q 0), .int .u64 (wd q 1), .int .u64 (wd q 2), .int .u64 (wd q 3)], .int .i64 (ccF s)]) ∧ Below w.heap.size w w') := by
 obtain ⟨q, r, c, h1, h2, h3, rfl⟩ := xpu s
 obtain ⟨e0, e1, e2, e3⟩ := wd_Is ((xff q r).1 h3)
 refine ⟨q, h1, fun w => ?_⟩
 rw [e0, e1, e2, e3]
 exact h2 w
noncomputable def xep (s : ByteArray) : Nat → Bool := (xf5 s).choose
def xk5 (s : ByteArray) : Int := ccF s
theorem classD (s : ByteArray) (w : World) : Calls Tryz.prog 113 #[.string s] w fun e w' => e = .returned (.tuple #[.agg #[.int .u64 (wd (xep s) 0), .int .u64 (wd (xep s) 1), .int .u64 (wd (xep s) 2), .int .u64 (wd (xep s) 3)], .int .i64 (xk5 s)]) ∧ Below w.heap.size w w' := (xf5 s).choose_spec.1 w
theorem xrh (s : ByteArray) (w : World) : Calls Tryz.prog 98 #[.string s] w fun e w' => e = .returned (.tuple #[.agg #[.int .u64 (wd (xep s) 0), .int .u64 (wd (xep s) 1), .int .u64 (wd (xep s) 2), .int .u64 (wd (xep s) 3)], .int .i64 (xk5 s)]) ∧ Below w.heap.size w w' := (xf5 s).choose_spec.2 w
theorem xri (s : ByteArray) (i : Nat) (h : i < s.size) : s.data.toList[i]'(by simpa using h) = s[i] := rfl
theorem xhh (s : ByteArray) (a t : Nat) (m : UInt8) : Lib.occAt (s.data.toList.drop a) [m, 93] t = (xac s (a + t) == (m.toNat : Int) && xac s (a + t + 1) == 93) := by
 have hm := m.toNat_lt
 rw [Lib.occAt, List.drop_drop]
 by_cases h : a + t < s.size
 ·have h' : a + t < s.data.toList.length := by simpa using h
  rw [List.drop_eq_getElem_cons h', List.isPrefixOf_cons_cons, xah h]
  have e1 : (m == s.data.toList[a + t]) = ((s[a + t].toNat : Int) == (m.toNat : Int)) := by
   rw [xri s _ h, Bool.eq_iff_iff, beq_iff_eq, beq_iff_eq]
   constructor
   ·intro e; rw [e]
   ·intro e; exact (UInt8.toNat_inj.1 (by omega)).symm
  rw [e1]
  congr 1
  by_cases h1 : a + t + 1 < s.size
  ·have h1' : a + t + 1 < s.data.toList.length := by simpa using h1
   rw [List.drop_eq_getElem_cons h1', List.isPrefixOf_cons_cons, xah h1, List.isPrefixOf_nil_left, Bool.and_true, xri s _ h1, Bool.eq_iff_iff, beq_iff_eq, beq_iff_eq]
   constructor
   ·intro e; rw [← e]; rfl
   ·intro e; exact (UInt8.toNat_inj.1 (by show s[a + t + 1].toNat = 93; omega)).symm
  ·rw [List.drop_eq_nil_of_le (by simp; omega), xbc (by omega)]
   rfl
 ·rw [List.drop_eq_nil_of_le (by simp; omega), xbc (by omega)]
  have : ((-1 : Int) == (m.toNat : Int)) = false := by rw [beq_eq_false_iff_ne]; omega
  rw [this]
  rfl
def xbm (s : ByteArray) (a : Nat) (m : UInt8) : Int := if Lib.index (s.data.toList.drop a) [m, 93] = -1 then -1 else (a : Int) + Lib.index (s.data.toList.drop a) [m, 93]
theorem xm4 (s : ByteArray) (a : Nat) (m : UInt8) (h : ∀ j, a ≤ j → (xac s j == (m.toNat : Int) && xac s (j + 1) == 93) = false) : xbm s a m = -1 := by
 have : Lib.index (s.data.toList.drop a) [m, 93] = -1 := Lib.index_none fun j _ => by rw [xhh]; exact h _ (by omega)
 simp [xbm, this]
theorem xfg (s : ByteArray) (a j : Nat) (m : UInt8) (hj : a ≤ j) (h1 : (xac s j == (m.toNat : Int) && xac s (j + 1) == 93) = true) (h0 : ∀ t, a ≤ t → t < j → (xac s t == (m.toNat : Int) && xac s (t + 1) == 93) = false) : xbm s a m = j := by
 have hlt : j < s.size := by
  rw [Bool.and_eq_true, beq_iff_eq, beq_iff_eq] at h1
  exact xa7 h1.1 (by omega)
 have : Lib.index (s.data.toList.drop a) [m, 93] = ((j - a : Nat) : Int) := Lib.index_first (by simp; omega) (by rw [xhh, show a + (j - a) = j by omega]; exact h1) (fun t ht => by rw [xhh]; exact h0 _ (by omega) (by omega))
 rw [xbm, this, if_neg (by omega)]
 omega
theorem xf6 (s : ByteArray) (hs : s.size ≤ 1073741824) (a : Nat) (ha : a ≤ 1073741900) (m : UInt8) (w : World) :
  Calls Tryz.prog 97 #[.string s, .int .i64 a, .int .u8 (m.toNat : Int)] w fun e w' => e = .returned (.int .i64 (xbm s a m)) ∧ w' = w := by
 have hm := m.toNat_lt
 go_enter Tryz.func97, Tryz.ntmps97
 go_wp2_with fail
 go_loopw [7] (fun i wr => ∃ j : Nat, a ≤ j ∧ j ≤ 1073741900 ∧ i = .int .i64 j ∧ Hid (∀ t, a ≤ t → t < j → (xac s t == (m.toNat : Int) && xac s (t + 1) == 93) = false) ∧ wr = w) (fun i _ => s.size - (intOf i).toNat)
 case atStart => exact ⟨a, by omega, by omega, rfl, fun t h1 h2 => by omega, rfl⟩
 case round =>
  obtain ⟨j, h1, h2, rfl, H0, rfl⟩ := hrel
  by_cases hlt : j + 1 < s.size
  ·have hlt0 : j < s.size := by omega
   have hnext : (xac s j == (m.toNat : Int) && xac s (j + 1) == 93) = false → Hid (∀ t, a ≤ t → t < j + 1 → (xac s t == (m.toNat : Int) && xac s (t + 1) == 93) = false) := by
    intro hn t h3 h4
    by_cases e : t = j
    ·subst e; exact hn
    ·exact H0.out t h3 (by omega)
   have hdone : (xac s j == (m.toNat : Int) && xac s (j + 1) == 93) = true → xbm s a m = j := fun h => xfg s a j m h1 h H0.out
   rw [xah hlt0, xah hlt] at hnext hdone
   clear H0
   by_cases e1 : (s[j].toNat : Int) = (m.toNat : Int)
   ·by_cases e2 : (s[j + 1].toNat : Int) = 93
    ·have HD := hide (hdone (by simp [e1, e2]))
     clear hnext hdone
     go_wp2
     go_ret
     exact ⟨by rw [HD.out]; rfl, rfl⟩
    ·have HN := hnext (by simp [e2])
     clear hnext hdone
     have b2 : ((s[j + 1].toNat : Int) == 93) = false := by simp [e2]
     go_wp2
     go_roundw
     case rel => exact ⟨j + 1, by omega, by omega, by go_num, HN, trivial⟩
     case measure => simp [intOf]; omega
   ·have HN := hnext (by simp [e1])
    clear hnext hdone
    have b1 : ((s[j].toNat : Int) == (m.toNat : Int)) = false := by simp [e1]
    go_wp2
    go_roundw
    case rel => exact ⟨j + 1, by omega, by omega, by go_num, HN, trivial⟩
    case measure => simp [intOf]; omega
  ·have hN : xbm s a m = -1 := xm4 s a m (fun t h3 => by
    by_cases e : t < j
    ·exact H0.out t h3 e
    ·rw [xbc (i := t + 1) (by omega)]
     simp)
   have HN := hide hN
   clear hN
   go_wp2
   go_ret
   exact ⟨by rw [HN.out]; rfl, rfl⟩
end Go.Proofs.YtaapmphdnholaaaGreatDoor
