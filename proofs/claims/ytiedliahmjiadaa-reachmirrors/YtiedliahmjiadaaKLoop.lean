/- bracket: what an expression is: entries up to the closing ]; bracket.Parse's loop. -/
import Derived.Test.YtiedliahmjiadaaKEntry
namespace Go.Proofs.Ytiedliahmjiadaa
open Go.RowKit
theorem entryS_next (s : ByteArray) (i : Nat) (h : (entryS s i).e = 0) : i < (entryS s i).next ∧ (entryS s i).next ≤ s.size := by
 have h1 := itemS_next s i
 unfold entryS at h ⊢
 by_cases he : (itemS s i).e = 0
 ·rw [if_neg (by simp [he])] at h ⊢
  have h2 := h1.2 he
  by_cases hj : joinsB s (itemS s i).next = true
  ·rw [if_pos hj] at h ⊢
   have h3 := itemS_next s ((itemS s i).next + 1)
   unfold rangeS at h ⊢
   split at h
   ·simp [It.err] at h
   rename_i c1
   split at h
   ·simp [It.err] at h
   rename_i c2
   split at h
   ·rename_i c3; simp only [It.err] at h; exact absurd h c3
   rename_i c3
   split at h
   ·simp [It.err] at h
   rename_i c4
   rw [if_neg c1, if_neg c2, if_neg c3, if_neg c4]
   have h4 := h3.2 (by simpa using c3)
   exact ⟨by simp; omega, by simp; omega⟩
  ·rw [if_neg hj]
   exact ⟨h2, h1.1⟩
 ·rw [if_pos he] at h
  simp only [It.err] at h
  exact absurd h he
noncomputable def loopS (s : ByteArray) : Nat → Bool → (Nat → Bool) → Nat → It
 | 0, _, _, _ => .err 6
 | f + 1, first, q, i => if first = false ∧ byteAt s i = 93 then ⟨0, q, 0, false, i⟩ else if (entryS s i).e ≠ 0 then .err (entryS s i).e else loopS s f false (orP q (entryS s i).q) (entryS s i).next
theorem loopS_close (s : ByteArray) (f : Nat) (q : Nat → Bool) (i : Nat) (h : byteAt s i = 93) : loopS s (f + 1) false q i = ⟨0, q, 0, false, i⟩ := by simp [loopS, h]
theorem loopS_err (s : ByteArray) (f : Nat) (first : Bool) (q : Nat → Bool) (i : Nat) (h : ¬ (first = false ∧ byteAt s i = 93)) (he : (entryS s i).e ≠ 0) : loopS s (f + 1) first q i = .err (entryS s i).e := by rw [loopS, if_neg h, if_pos he]
theorem loopS_next (s : ByteArray) (f : Nat) (first : Bool) (q : Nat → Bool) (i : Nat) (h : ¬ (first = false ∧ byteAt s i = 93)) (he : (entryS s i).e = 0) : loopS s (f + 1) first q i = loopS s f false (orP q (entryS s i).q) (entryS s i).next := by rw [loopS, if_neg h, if_neg (by simp [he])]
noncomputable def parseS (s : ByteArray) (i : Nat) : It :=
 if byteAt s i = 91 then
  if byteAt s (i + 1) = 94 then
   if (loopS s (s.size + 2) true noneP (i + 2)).e ≠ 0 then .err (loopS s (s.size + 2) true noneP (i + 2)).e
   else ⟨0, notP (loopS s (s.size + 2) true noneP (i + 2)).q, 0, false, (loopS s (s.size + 2) true noneP (i + 2)).next + 1⟩
  else
   if (loopS s (s.size + 2) true noneP (i + 1)).e ≠ 0 then .err (loopS s (s.size + 2) true noneP (i + 1)).e
   else ⟨0, (loopS s (s.size + 2) true noneP (i + 1)).q, 0, false, (loopS s (s.size + 2) true noneP (i + 1)).next + 1⟩
 else .err 1
end Go.Proofs.Ytiedliahmjiadaa
