/- measure: the numbers of a tree, and how they are put together. -/
import Derived.WalkKit
import Derived.Test.YtolpakpdkheanaaRows
import Derived.WalkSpells
import Derived.WalkLawsBesides
import Derived.Lib.QuietBelow
import Derived.Laws.OwnMore
import Derived.BigQuiet
import Derived.Below
set_option maxRecDepth 100000
set_option maxHeartbeats 1000000
namespace Go.Proofs.Ytolpakpdkheanaa.br
structure Ms where
 pos : Int
 groups : Int
 least : Int
 most : Int
 back : Bool
 bol : Bool
 eol : Bool
def sumM (a b : Int) : Int := if a = -1 ∨ b = -1 then -1 else a + b
def xdh (a b : Int) : Int := if a = 0 ∨ b = 0 then 0 else if a = -1 ∨ b = -1 then -1 else a * b
def Ms.zero : Ms := ⟨0, 0, 0, 0, false, false, false⟩
def Ms.both (a m : Ms) : Ms := ⟨a.pos + m.pos, a.groups + m.groups, a.least + m.least, sumM a.most m.most, a.back || m.back, a.bol || m.bol, a.eol || m.eol⟩
def wrM (lo hi : Int) : Int := if hi = -1 then max lo 1 else hi
def Ms.rep (m : Ms) (lo hi : Int) : Ms := ⟨m.pos * wrM lo hi, m.groups, m.least * lo, xdh hi m.most, m.back, m.bol, m.eol⟩
def Ms.grp (m : Ms) : Ms := ⟨m.pos, m.groups + 1, m.least, m.most, m.back, m.bol, m.eol⟩
abbrev Ms.arr (m : Ms) : Array Value := #[.int .i64 m.pos, .int .i64 m.groups, .int .i64 m.least, .int .i64 m.most, .bool m.back, .bool m.bol, .bool m.eol]
end Go.Proofs.Ytolpakpdkheanaa.br
namespace Go.Proofs.Ytolpakpdkheanaa.br
open Go.RowKit
theorem sum_any (a b : Int) (h1 : -1000000 ≤ a ∧ a ≤ 1000000) (h2 : -1000000 ≤ b ∧ b ≤ 1000000) (w : World) :
  Calls Try.prog 65 #[.int .i64 a, .int .i64 b] w fun e w' => e = .returned (.int .i64 (sumM a b)) ∧ w' = w := by
 have k : IntKind.i64.wrap (a + b) = a + b := by rw [IntKind.wrap_i64]; omega
 unfold sumM
 by_cases ha : a = -1
 ·subst ha
  rw [if_pos (.inl rfl)]
  go_enter Try.func65, Try.ntmps65
  go_wp2
  go_ret
  exact ⟨rfl, rfl⟩
 ·have ea : (a == -1) = false := by rw [beq_eq_false_iff_ne]; exact ha
  by_cases hb : b = -1
  ·subst hb
   rw [if_pos (.inr rfl)]
   go_enter Try.func65, Try.ntmps65
   go_wp2
   go_ret
   exact ⟨rfl, rfl⟩
  ·have eb : (b == -1) = false := by rw [beq_eq_false_iff_ne]; exact hb
   rw [if_neg (by omega)]
   go_enter Try.func65, Try.ntmps65
   go_wp2
   go_ret
   exact ⟨rfl, rfl⟩
theorem xlb (a b : Int) (h : -1000000 ≤ xdh a b ∧ xdh a b ≤ 1000000) (w : World) :
  Calls Try.prog 66 #[.int .i64 a, .int .i64 b] w fun e w' => e = .returned (.int .i64 (xdh a b)) ∧ w' = w := by
 unfold xdh at h ⊢
 by_cases ha : a = 0
 ·subst ha
  rw [if_pos (.inl rfl)]
  go_enter Try.func66, Try.ntmps66
  go_wp2
  go_ret
  exact ⟨rfl, rfl⟩
 have ea : (a == 0) = false := by rw [beq_eq_false_iff_ne]; exact ha
 by_cases hb : b = 0
 ·subst hb
  rw [if_pos (.inr rfl)]
  go_enter Try.func66, Try.ntmps66
  go_wp2
  go_ret
  exact ⟨rfl, rfl⟩
 have eb : (b == 0) = false := by rw [beq_eq_false_iff_ne]; exact hb
 rw [if_neg (show ¬ (a = 0 ∨ b = 0) by omega)] at h ⊢
 by_cases ha1 : a = -1
 ·subst ha1
  rw [if_pos (.inl rfl)]
  go_enter Try.func66, Try.ntmps66
  go_wp2
  go_ret
  exact ⟨rfl, rfl⟩
 have ea1 : (a == -1) = false := by rw [beq_eq_false_iff_ne]; exact ha1
 by_cases hb1 : b = -1
 ·subst hb1
  rw [if_pos (.inr rfl)]
  go_enter Try.func66, Try.ntmps66
  go_wp2
  go_ret
  exact ⟨rfl, rfl⟩
 have eb1 : (b == -1) = false := by rw [beq_eq_false_iff_ne]; exact hb1
 rw [if_neg (show ¬ (a = -1 ∨ b = -1) by omega)] at h ⊢
 have k : IntKind.i64.wrap (a * b) = a * b := by rw [IntKind.wrap_i64]; omega
 clear h
 go_enter Try.func66, Try.ntmps66
 go_wp2
 go_ret
 exact ⟨rfl, rfl⟩
theorem xbj {p : Prop} (h : p) : Hid p := h
theorem xjt (m : Ms) (lo hi : Int) (hlo : 0 ≤ lo ∧ lo ≤ 255) (h1 : -1000000 ≤ m.pos * wrM lo hi ∧ m.pos * wrM lo hi ≤ 1000000) (h2 : -1000000 ≤ m.least * lo ∧ m.least * lo ≤ 1000000) (h3 : -1000000 ≤ xdh hi m.most ∧ xdh hi m.most ≤ 1000000) (w : World) :
  Calls Try.prog 54 #[.agg m.arr, .int .i64 lo, .int .i64 hi] w fun e w' => e = .returned (.agg (m.rep lo hi).arr) ∧ Below w.heap.size w w' := by
 have k1 : IntKind.i64.wrap (m.pos * wrM lo hi) = m.pos * wrM lo hi := by rw [IntKind.wrap_i64]; omega
 have k2 : IntKind.i64.wrap (m.least * lo) = m.least * lo := by rw [IntKind.wrap_i64]; omega
 have HP := xbj (xlb hi m.most h3)
 obtain ⟨p, g, l, t, b1, b2, b3⟩ := m
 simp only at k1 k2 HP
 clear h1 h2 h3
 have hB : ∀ o1 o2, Below w.heap.size w ((w.alloc o1).alloc o2) := fun o1 o2 => ((Below.refl _ _).alloc (Nat.le_refl _) _).alloc (by rw [World.size_alloc]; omega) _
 have HB := xbj hB
 clear hB
 by_cases hh : hi = -1
 ·subst hh
  have hw : wrM lo (-1) = max lo 1 := by unfold wrM; rw [if_pos rfl]
  by_cases hl : 1 ≤ lo
  ·rw [hw, show max lo 1 = lo by omega] at k1
   have HE : Hid ((⟨p, g, l, t, b1, b2, b3⟩ : Ms).rep lo (-1) = ⟨p * lo, g, l * lo, xdh (-1) t, b1, b2, b3⟩) := xbj (by simp only [Ms.rep, hw, show max lo 1 = lo by omega])
   clear hw
   go_enter Try.func54, Try.ntmps54
   go_wp2_with fail
   ·refine (HP.out _).mono ?_
    rintro e w2 ⟨rfl, rfl⟩
    go_wp2
    refine bodyPost_ret (by simp [results, Try.results54, go_sem]; try rfl) rfl ?_
    exact ⟨by rw [HE.out], HB.out _ _⟩
  ·obtain rfl : lo = 0 := by omega
   rw [hw, show max (0 : Int) 1 = 1 by omega, Int.mul_one] at k1
   have HE : Hid ((⟨p, g, l, t, b1, b2, b3⟩ : Ms).rep 0 (-1) = ⟨p, g, 0, xdh (-1) t, b1, b2, b3⟩) := xbj (by simp only [Ms.rep, hw, show max (0 : Int) 1 = 1 by omega, Int.mul_one, Int.mul_zero])
   clear hw k2
   go_enter Try.func54, Try.ntmps54
   go_wp2_with fail
   refine (HP.out _).mono ?_
   rintro e w2 ⟨rfl, rfl⟩
   go_wp2
   refine bodyPost_ret (by simp [results, Try.results54, go_sem]; try rfl) rfl ?_
   exact ⟨by rw [HE.out], HB.out _ _⟩
 ·have eh : (hi == -1) = false := by rw [beq_eq_false_iff_ne]; exact hh
  have hw : wrM lo hi = hi := by unfold wrM; rw [if_neg hh]
  rw [hw] at k1
  have HE : Hid ((⟨p, g, l, t, b1, b2, b3⟩ : Ms).rep lo hi = ⟨p * hi, g, l * lo, xdh hi t, b1, b2, b3⟩) := xbj (by simp only [Ms.rep, hw])
  clear hw
  go_enter Try.func54, Try.ntmps54
  go_wp2_with fail
  refine (HP.out _).mono ?_
  rintro e w2 ⟨rfl, rfl⟩
  go_wp2
  refine bodyPost_ret (by simp [results, Try.results54, go_sem]; try rfl) rfl ?_
  exact ⟨by rw [HE.out], HB.out _ _⟩
end Go.Proofs.Ytolpakpdkheanaa.br
