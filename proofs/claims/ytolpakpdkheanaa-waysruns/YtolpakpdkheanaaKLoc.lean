/- bracket: what is read hangs on the bytes of the expression alone: the same bytes at another place of another text are read alike. -/
import Derived.Test.YtolpakpdkheanaaKParseP
namespace Go.Proofs.Ytolpakpdkheanaa.br
def Win (s : ByteArray) (i : Nat) (s' : ByteArray) (i' N : Nat) : Prop := i + N ≤ s.size ∧ i' + N ≤ s'.size ∧ ∀ j, j < N → xag s (i + j) = xag s' (i' + j)
theorem Win.at {s s' : ByteArray} {i i' N : Nat} (h : Win s i s' i' N) {k k' : Nat} (hk : i ≤ k) (hk' : k' = k - i + i') (hN : k < i + N) : xag s k = xag s' k' := by
 have := h.2.2 (k - i) (by omega)
 rw [show i + (k - i) = k from by omega, show i' + (k - i) = k' from by omega] at this
 exact this
theorem xpt {a b : ByteArray} (h : a.size = b.size) (h2 : ∀ i, i < a.size → xag a i = xag b i) : a = b := by
 obtain ⟨⟨a⟩⟩ := a
 obtain ⟨⟨b⟩⟩ := b
 congr 2
 refine List.ext_getElem h fun i h1 h3 => ?_
 have hi := h2 i h1
 rw [xan (show i < (ByteArray.mk ⟨a⟩).size from h1), xan (show i < (ByteArray.mk ⟨b⟩).size from h3)] at hi
 exact UInt8.toNat_inj.1 (by exact_mod_cast hi)
theorem xdv (s : ByteArray) (a b i : Nat) (hb : b ≤ s.size) (hi : i < b - a) : xag (s.extract a b) i = xag s (a + i) := by
 have h1 : i < (s.extract a b).size := by rw [ByteArray.size_extract]; omega
 rw [xan h1, xan (by omega), ByteArray.getElem_extract]
theorem Win.extract {s s' : ByteArray} {i i' N : Nat} (h : Win s i s' i' N) {a b a' b' : Nat} (ha : i ≤ a) (hb : b ≤ i + N) (ha' : a' = a - i + i') (hb' : b' = b - i + i') (hab : a ≤ b) : s.extract a b = s'.extract a' b' := by
 have h1 := h.1
 have h2 := h.2.1
 refine xpt (by rw [ByteArray.size_extract, ByteArray.size_extract]; omega) fun k hk => ?_
 rw [ByteArray.size_extract] at hk
 rw [xdv _ _ _ _ (by omega) (by omega), xdv _ _ _ _ (by omega) (by omega)]
 exact h.at (by omega) (by omega) (by omega)
theorem xe0 (s : ByteArray) : ∀ (f : Nat) (first : Bool) (q : Nat → Bool) (k : Nat), (xbe s f first q k).e = 0 → k ≤ (xbe s f first q k).next ∧ xag s (xbe s f first q k).next = 93 ∧ (first = true → k < (xbe s f first q k).next)
 | 0, _, _, _, h => by simp [xbe, It.err] at h
 | f + 1, first, q, k, h => by
  unfold xbe at h ⊢
  by_cases hc : first = false ∧ xag s k = 93
  ·rw [if_pos hc]
   exact ⟨Nat.le_refl _, hc.2, fun h => by rw [hc.1] at h; cases h⟩
  ·rw [if_neg hc] at h ⊢
   by_cases he : (xa6 s k).e = 0
   ·rw [if_neg (by simp [he])] at h ⊢
    have h1 := xe0 s f false _ _ h
    have h2 := xd2 s k he
    exact ⟨by omega, h1.2.1, fun _ => by omega⟩
   ·rw [if_pos he] at h
    simp only [It.err] at h
    exact absurd h he
theorem xno {s : ByteArray} {i : Nat} (he : (xco s i).e = 0) : i + 3 ≤ (xco s i).next ∧ (xco s i).next ≤ s.size ∧ xag s i = 91 ∧ xag s ((xco s i).next - 1) = 93 := by
 unfold xco at he ⊢
 have hlt : xag s i = 91 := by
  by_cases c : xag s i = 91
  ·exact c
  ·rw [if_neg c] at he; simp [It.err] at he
 rw [if_pos hlt] at he ⊢
 by_cases h94 : xag s (i + 1) = 94
 ·rw [if_pos h94] at he ⊢
  by_cases hl : (xbe s (s.size + 2) true xad (i + 2)).e = 0
  ·rw [if_neg (by simp [hl])]
   obtain ⟨l1, l2, l3⟩ := xe0 s _ _ _ _ hl
   have l4 := l3 rfl
   have := xcg l2 (by omega)
   exact ⟨by simp only []; omega, by simp only []; omega, hlt, by simpa using l2⟩
  ·rw [if_pos hl] at he
   simp only [It.err] at he
   exact absurd he hl
 ·rw [if_neg h94] at he ⊢
  by_cases hl : (xbe s (s.size + 2) true xad (i + 1)).e = 0
  ·rw [if_neg (by simp [hl])]
   obtain ⟨l1, l2, l3⟩ := xe0 s _ _ _ _ hl
   have l4 := l3 rfl
   have := xcg l2 (by omega)
   exact ⟨by simp only []; omega, by simp only []; omega, hlt, by simpa using l2⟩
  ·rw [if_pos hl] at he
   simp only [It.err] at he
   exact absurd he hl
end Go.Proofs.Ytolpakpdkheanaa.br
