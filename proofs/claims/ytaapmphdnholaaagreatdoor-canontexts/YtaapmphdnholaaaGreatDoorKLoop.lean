/- bracket: what an expression is: entries up to the closing ]; bracket.Parse's loop. -/
import Derived.Test.YtaapmphdnholaaaGreatDoorKEntry
namespace Go.Proofs.YtaapmphdnholaaaGreatDoor
open Go.RowKit
theorem xb4 (s : ByteArray) (i : Nat) (h : (xa2 s i).e = 0) : i < (xa2 s i).next ∧ (xa2 s i).next ≤ s.size := by
 have h1 := xch s i
 unfold xa2 at h ⊢
 by_cases he : (xan s i).e = 0
 ·rw [if_neg (by simp [he])] at h ⊢
  have h2 := h1.2 he
  by_cases hj : xbk s (xan s i).next = true
  ·rw [if_pos hj] at h ⊢
   have h3 := xch s ((xan s i).next + 1)
   unfold xhl at h ⊢
   split at h
   ·simp [It.err] at h
   rename_i c1
   split at h
   ·simp [It.err] at h
   rename_i c2
   split at h
   ·rename_i c3; simp only [It.err] at h; exact absurd h c3
   rename_i c3
   split at h
   ·simp [It.err] at h
   rename_i c4
   rw [if_neg c1, if_neg c2, if_neg c3, if_neg c4]
   have h4 := h3.2 (by simpa using c3)
   exact ⟨by simp; omega, by simp; omega⟩
  ·rw [if_neg hj]
   exact ⟨h2, h1.1⟩
 ·rw [if_pos he] at h
  simp only [It.err] at h
  exact absurd h he
noncomputable def xbi (s : ByteArray) : Nat → Bool → (Nat → Bool) → Nat → It
 | 0, _, _, _ => .err 6
 | f + 1, first, q, i => if first = false ∧ xac s i = 93 then ⟨0, q, 0, false, i⟩ else if (xa2 s i).e ≠ 0 then .err (xa2 s i).e else xbi s f false (orP q (xa2 s i).q) (xa2 s i).next
theorem xcy (s : ByteArray) (f : Nat) (q : Nat → Bool) (i : Nat) (h : xac s i = 93) : xbi s (f + 1) false q i = ⟨0, q, 0, false, i⟩ := by simp [xbi, h]
theorem xc9 (s : ByteArray) (f : Nat) (first : Bool) (q : Nat → Bool) (i : Nat) (h : ¬ (first = false ∧ xac s i = 93)) (he : (xa2 s i).e ≠ 0) : xbi s (f + 1) first q i = .err (xa2 s i).e := by rw [xbi, if_neg h, if_pos he]
theorem xdp (s : ByteArray) (f : Nat) (first : Bool) (q : Nat → Bool) (i : Nat) (h : ¬ (first = false ∧ xac s i = 93)) (he : (xa2 s i).e = 0) : xbi s (f + 1) first q i = xbi s f false (orP q (xa2 s i).q) (xa2 s i).next := by rw [xbi, if_neg h, if_neg (by simp [he])]
noncomputable def xbn (s : ByteArray) (i : Nat) : It :=
 if xac s i = 91 then
  if xac s (i + 1) = 94 then
   if (xbi s (s.size + 2) true xad (i + 2)).e ≠ 0 then .err (xbi s (s.size + 2) true xad (i + 2)).e
   else ⟨0, notP (xbi s (s.size + 2) true xad (i + 2)).q, 0, false, (xbi s (s.size + 2) true xad (i + 2)).next + 1⟩
  else
   if (xbi s (s.size + 2) true xad (i + 1)).e ≠ 0 then .err (xbi s (s.size + 2) true xad (i + 1)).e
   else ⟨0, (xbi s (s.size + 2) true xad (i + 1)).q, 0, false, (xbi s (s.size + 2) true xad (i + 1)).next + 1⟩
 else .err 1
end Go.Proofs.YtaapmphdnholaaaGreatDoor
