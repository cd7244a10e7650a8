/- bracket: what is read hangs on the bytes of the expression alone: the same bytes at another place of another text are read alike. -/
import Derived.Test.YtjfkhlmoppbbgaaGreatDoorKParseP
namespace Go.Proofs.YtjfkhlmoppbbgaaGreatDoor.br

/-- N bytes of one text, from a place on, are those of another one. -/
def Win (s : ByteArray) (i : Nat) (s' : ByteArray) (i' N : Nat) : Prop := i + N ≤ s.size ∧ i' + N ≤ s'.size ∧ ∀ j, j < N → byteAt s (i + j) = byteAt s' (i' + j)

theorem Win.at {s s' : ByteArray} {i i' N : Nat} (h : Win s i s' i' N) {k k' : Nat} (hk : i ≤ k) (hk' : k' = k - i + i') (hN : k < i + N) : byteAt s k = byteAt s' k' := by
  have := h.2.2 (k - i) (by omega)
  rw [show i + (k - i) = k from by omega, show i' + (k - i) = k' from by omega] at this
  exact this

theorem bytes_ext {a b : ByteArray} (h : a.size = b.size) (h2 : ∀ i, i < a.size → byteAt a i = byteAt b i) : a = b := by
  obtain ⟨⟨a⟩⟩ := a
  obtain ⟨⟨b⟩⟩ := b
  congr 2
  refine List.ext_getElem h fun i h1 h3 => ?_
  have hi := h2 i h1
  rw [byteAt_in (show i < (ByteArray.mk ⟨a⟩).size from h1), byteAt_in (show i < (ByteArray.mk ⟨b⟩).size from h3)] at hi
  exact UInt8.toNat_inj.1 (by exact_mod_cast hi)

theorem byteAt_extract (s : ByteArray) (a b i : Nat) (hb : b ≤ s.size) (hi : i < b - a) : byteAt (s.extract a b) i = byteAt s (a + i) := by
  have h1 : i < (s.extract a b).size := by rw [ByteArray.size_extract]; omega
  rw [byteAt_in h1, byteAt_in (by omega), ByteArray.getElem_extract]

theorem Win.extract {s s' : ByteArray} {i i' N : Nat} (h : Win s i s' i' N) {a b a' b' : Nat} (ha : i ≤ a) (hb : b ≤ i + N) (ha' : a' = a - i + i') (hb' : b' = b - i + i') (hab : a ≤ b) : s.extract a b = s'.extract a' b' := by
  have h1 := h.1
  have h2 := h.2.1
  refine bytes_ext (by rw [ByteArray.size_extract, ByteArray.size_extract]; omega) fun k hk => ?_
  rw [ByteArray.size_extract] at hk
  rw [byteAt_extract _ _ _ _ (by omega) (by omega), byteAt_extract _ _ _ _ (by omega) (by omega)]
  exact h.at (by omega) (by omega) (by omega)

theorem loop_close (s : ByteArray) : ∀ (f : Nat) (first : Bool) (q : Nat → Bool) (k : Nat), (loopS s f first q k).e = 0 → k ≤ (loopS s f first q k).next ∧ byteAt s (loopS s f first q k).next = 93 ∧ (first = true → k < (loopS s f first q k).next)
  | 0, _, _, _, h => by simp [loopS, It.err] at h
  | f + 1, first, q, k, h => by
    unfold loopS at h ⊢
    by_cases hc : first = false ∧ byteAt s k = 93
    · rw [if_pos hc]
      exact ⟨Nat.le_refl _, hc.2, fun h => by rw [hc.1] at h; cases h⟩
    · rw [if_neg hc] at h ⊢
      by_cases he : (entryS s k).e = 0
      · rw [if_neg (by simp [he])] at h ⊢
        have h1 := loop_close s f false _ _ h
        have h2 := entryS_next s k he
        exact ⟨by omega, h1.2.1, fun _ => by omega⟩
      · rw [if_pos he] at h
        simp only [It.err] at h
        exact absurd h he

/-- Its form. -/
theorem parse_form {s : ByteArray} {i : Nat} (he : (parseS s i).e = 0) : i + 3 ≤ (parseS s i).next ∧ (parseS s i).next ≤ s.size ∧ byteAt s i = 91 ∧ byteAt s ((parseS s i).next - 1) = 93 := by
  unfold parseS at he ⊢
  have hlt : byteAt s i = 91 := by
    by_cases c : byteAt s i = 91
    · exact c
    · rw [if_neg c] at he; simp [It.err] at he
  rw [if_pos hlt] at he ⊢
  by_cases h94 : byteAt s (i + 1) = 94
  · rw [if_pos h94] at he ⊢
    by_cases hl : (loopS s (s.size + 2) true noneP (i + 2)).e = 0
    · rw [if_neg (by simp [hl])]
      obtain ⟨l1, l2, l3⟩ := loop_close s _ _ _ _ hl
      have l4 := l3 rfl
      have := byteAt_lt l2 (by omega)
      exact ⟨by simp only []; omega, by simp only []; omega, hlt, by simpa using l2⟩
    · rw [if_pos hl] at he
      simp only [It.err] at he
      exact absurd he hl
  · rw [if_neg h94] at he ⊢
    by_cases hl : (loopS s (s.size + 2) true noneP (i + 1)).e = 0
    · rw [if_neg (by simp [hl])]
      obtain ⟨l1, l2, l3⟩ := loop_close s _ _ _ _ hl
      have l4 := l3 rfl
      have := byteAt_lt l2 (by omega)
      exact ⟨by simp only []; omega, by simp only []; omega, hlt, by simpa using l2⟩
    · rw [if_pos hl] at he
      simp only [It.err] at he
      exact absurd he hl

end Go.Proofs.YtjfkhlmoppbbgaaGreatDoor.br
