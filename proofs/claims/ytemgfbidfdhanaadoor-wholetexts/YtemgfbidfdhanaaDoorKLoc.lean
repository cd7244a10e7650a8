/- bracket: what is read hangs on the bytes of the expression alone: the same bytes at another place of another text are read alike. -/
import Derived.Test.YtemgfbidfdhanaaDoorKParse
namespace Go.Proofs.YtemgfbidfdhanaaDoor

/-- N bytes of one text, from a place on, are those of another one. -/
def Win (s : ByteArray) (i : Nat) (s' : ByteArray) (i' N : Nat) : Prop := i + N ≤ s.size ∧ i' + N ≤ s'.size ∧ ∀ j, j < N → byteAt s (i + j) = byteAt s' (i' + j)

theorem Win.at {s s' : ByteArray} {i i' N : Nat} (h : Win s i s' i' N) {k k' : Nat} (hk : i ≤ k) (hk' : k' = k - i + i') (hN : k < i + N) : byteAt s k = byteAt s' k' := by
  have := h.2.2 (k - i) (by omega)
  rw [show i + (k - i) = k from by omega, show i' + (k - i) = k' from by omega] at this
  exact this

theorem bytes_ext {a b : ByteArray} (h : a.size = b.size) (h2 : ∀ i, i < a.size → byteAt a i = byteAt b i) : a = b := by
  obtain ⟨⟨a⟩⟩ := a
  obtain ⟨⟨b⟩⟩ := b
  congr 2
  refine List.ext_getElem h fun i h1 h3 => ?_
  have hi := h2 i h1
  rw [byteAt_in (show i < (ByteArray.mk ⟨a⟩).size from h1), byteAt_in (show i < (ByteArray.mk ⟨b⟩).size from h3)] at hi
  exact UInt8.toNat_inj.1 (by exact_mod_cast hi)

theorem byteAt_extract (s : ByteArray) (a b i : Nat) (hb : b ≤ s.size) (hi : i < b - a) : byteAt (s.extract a b) i = byteAt s (a + i) := by
  have h1 : i < (s.extract a b).size := by rw [ByteArray.size_extract]; omega
  rw [byteAt_in h1, byteAt_in (by omega), ByteArray.getElem_extract]

theorem Win.extract {s s' : ByteArray} {i i' N : Nat} (h : Win s i s' i' N) {a b a' b' : Nat} (ha : i ≤ a) (hb : b ≤ i + N) (ha' : a' = a - i + i') (hb' : b' = b - i + i') (hab : a ≤ b) : s.extract a b = s'.extract a' b' := by
  have h1 := h.1
  have h2 := h.2.1
  refine bytes_ext (by rw [ByteArray.size_extract, ByteArray.size_extract]; omega) fun k hk => ?_
  rw [ByteArray.size_extract] at hk
  rw [byteAt_extract _ _ _ _ (by omega) (by omega), byteAt_extract _ _ _ _ (by omega) (by omega)]
  exact h.at (by omega) (by omega) (by omega)

theorem closeI_spec (s : ByteArray) (a : Nat) (m : UInt8) : closeI s a m = -1 ∨ ∃ c : Nat, closeI s a m = c ∧ a ≤ c ∧ c + 1 < s.size ∧ (byteAt s c == (m.toNat : Int) && byteAt s (c + 1) == 93) = true ∧ ∀ t, a ≤ t → t < c → (byteAt s t == (m.toNat : Int) && byteAt s (t + 1) == 93) = false := by
  rcases Lib.index_spec (s.data.toList.drop a) [m, 93] with ⟨h, -⟩ | ⟨i, h, h1, h2⟩
  · left; simp [closeI, h]
  · right
    have hr := Lib.index_room (s.data.toList.drop a) [m, 93] (by omega)
    rw [h] at hr
    simp at hr
    refine ⟨a + i, ?_, by omega, by omega, ?_, fun t ht hti => ?_⟩
    · rw [closeI, h, if_neg (by omega)]
      omega
    · have := h2.1
      rw [occ_iff] at this
      exact this
    · have := h2.2 (t - a) (by omega)
      rw [occ_iff, show a + (t - a) = t from by omega] at this
      exact this

theorem item_win {s s' : ByteArray} {i i' N : Nat} (h : Win s i s' i' N) {k k' : Nat} (hk : i ≤ k) (hk' : k' = k - i + i') (hN : k + 1 < i + N) (he : (itemS s k).e = 0) (hn : (itemS s k).next ≤ i + N) :
    itemS s' k' = ⟨0, (itemS s k).q, (itemS s k).b, (itemS s k).bound, (itemS s k).next - i + i'⟩ ∧ k < (itemS s k).next := by
  have w1 := h.1
  have w2 := h.2.1
  have b0 : byteAt s k = byteAt s' k' := h.at (by omega) (by omega) (by omega)
  have b1 : byteAt s (k + 1) = byteAt s' (k' + 1) := h.at (by omega) (by omega) (by omega)
  have hm : markedB s' k' = markedB s k := by unfold markedB; rw [b0, b1]
  have hlt := (itemS_next s k).2 he
  refine ⟨?_, hlt⟩
  have hmk : mkAt s' k' = mkAt s k := by unfold mkAt; rw [b1]
  unfold itemS at he hn hlt ⊢
  rw [if_pos (by omega)] at he hn hlt
  rw [if_pos (show k' < s'.size by omega), if_pos (show k < s.size by omega), hm]
  by_cases hmb : markedB s k = true
  · rw [if_pos hmb] at he hn hlt
    rw [if_pos hmb, if_pos hmb]
    unfold markS at he hn hlt ⊢
    rcases closeI_spec s (k + 3) (mkAt s k) with hc | ⟨c, hc, hc1, hc2, hc3, hc4⟩
    · rw [if_pos hc] at he
      simp [It.err] at he
    · rw [hc] at he hn hlt
      rw [if_neg (by omega)] at he hn hlt
      have key : c + 2 ≤ i + N → closeI s' (k' + 3) (mkAt s k) = ((c - i + i' : Nat) : Int) := by
        intro hcN
        refine closeI_some s' (k' + 3) (c - i + i') (mkAt s k) (by omega) ?_ ?_
        · rw [← h.at (k := c) (by omega) rfl (by omega), ← h.at (k := c + 1) (by omega) (by omega) (by omega)]
          exact hc3
        · intro t ht1 ht2
          rw [← h.at (k := t - i' + i) (by omega) (by omega) (by omega), ← h.at (k := t - i' + i + 1) (by omega) (by omega) (by omega)]
          exact hc4 _ (by omega) (by omega)
      rw [hmk, hc, ← b1]
      by_cases h58 : byteAt s (k + 1) = 58
      · rw [if_pos h58] at he hn hlt
        simp only [Int.toNat_natCast] at hn
        rw [key (by omega), if_neg (by omega), if_pos h58, if_neg (by omega), if_pos h58]
        simp only [Int.toNat_natCast] at he ⊢
        have hx : s.extract (k + 2) c = s'.extract (k' + 2) (c - i + i') := h.extract (by omega) (by omega) (by omega) rfl (by omega)
        rw [← hx, he]
        congr 1
        omega
      · rw [if_neg h58] at he hn hlt
        by_cases hc5 : (c : Int) = (k : Int) + 3
        · rw [if_pos hc5] at he hn hlt
          simp only [] at hn
          rw [key (by omega), if_neg (by omega), if_neg h58, if_pos (by omega), if_neg (by omega), if_neg h58, if_pos hc5]
          have hx : s.extract (k + 2) (k + 3) = s'.extract (k' + 2) (k' + 3) := h.extract (by omega) (by omega) (by omega) (by omega) (by omega)
          have hb2 : byteAt s (k + 2) = byteAt s' (k' + 2) := h.at (by omega) (by omega) (by omega)
          rw [← hx, ← hb2]
          simp only []
          congr 1
          omega
        · rw [if_neg hc5] at he
          simp [It.err] at he
  · rw [if_neg hmb, if_neg hmb]
    have hx : s.extract k (k + 1) = s'.extract k' (k' + 1) := h.extract (by omega) (by omega) (by omega) (by omega) (by omega)
    rw [← hx, ← b0]
    simp only []
    congr 1
    omega

/-- Up to a ] that ends the bytes: whether a - joins. -/
theorem joins_win {s s' : ByteArray} {i i' N : Nat} (h : Win s i s' i' (N + 1)) (hz : byteAt s (i + N) = 93) {k k' : Nat} (hk : i ≤ k) (hk' : k' = k - i + i') (hN : k ≤ i + N) : joinsB s' k' = joinsB s k ∧ (joinsB s k = true → k + 1 ≤ i + N) := by
  have b0 : byteAt s k = byteAt s' k' := h.at (by omega) (by omega) (by omega)
  unfold joinsB
  by_cases e : k = i + N
  · rw [← b0, e, hz]
    simp
  · have b1 : byteAt s (k + 1) = byteAt s' (k' + 1) := h.at (by omega) (by omega) (by omega)
    rw [b0, b1]
    exact ⟨rfl, fun _ => by omega⟩

theorem entry_win {s s' : ByteArray} {i i' N : Nat} (h : Win s i s' i' (N + 1)) (hz : byteAt s (i + N) = 93) {k k' : Nat} (hk : i ≤ k) (hk' : k' = k - i + i') (he : (entryS s k).e = 0) (hn : (entryS s k).next ≤ i + N) :
    entryS s' k' = ⟨0, (entryS s k).q, 0, false, (entryS s k).next - i + i'⟩ := by
  have hnx := (entryS_next s k he).1
  have w1 := h.1
  have w2 := h.2.1
  unfold entryS at he hn hnx ⊢
  by_cases he1 : (itemS s k).e = 0
  · rw [if_neg (by simp [he1])] at he hn hnx
    rw [if_neg (c := (itemS s k).e ≠ 0) (by simp [he1])]
    by_cases hj : joinsB s (itemS s k).next = true
    · rw [if_pos hj] at he hn hnx
      rw [if_pos hj]
      unfold rangeS at he hn hnx ⊢
      split at he
      · simp [It.err] at he
      rename_i c1
      rw [if_neg c1] at hn hnx
      split at he
      · simp [It.err] at he
      rename_i c2
      rw [if_neg c2] at hn hnx
      split at he
      · rename_i c3; simp only [It.err] at he; exact absurd he c3
      rename_i c3
      rw [if_neg c3] at hn hnx
      split at he
      · simp [It.err] at he
      rename_i c4
      rw [if_neg c4] at hn hnx
      have c3' : (itemS s ((itemS s k).next + 1)).e = 0 := by simpa using c3
      have n2 := (itemS_next s ((itemS s k).next + 1)).2 c3'
      simp only [] at hn hnx
      obtain ⟨i1, i2⟩ := item_win h (k := k) (k' := k') hk hk' (by omega) he1 (by omega)
      have hj1 := joins_win h hz (k := (itemS s k).next) (k' := (itemS s k).next - i + i') (by omega) rfl (by omega)
      obtain ⟨i3, i4⟩ := item_win h (k := (itemS s k).next + 1) (k' := (itemS s k).next - i + i' + 1) (by omega) (by omega) (by omega) c3' (by omega)
      have hj2 := joins_win h hz (k := (itemS s ((itemS s k).next + 1)).next) (k' := (itemS s ((itemS s k).next + 1)).next - i + i') (by omega) rfl (by omega)
      rw [i1]
      simp only []
      rw [hj1.1, if_neg (by simp), if_pos hj, i3]
      simp only []
      rw [if_neg (by omega), if_neg c2, if_neg (by simp), hj2.1, if_neg c4, if_neg c1, if_neg c2, if_neg c3, if_neg c4]
    · rw [if_neg hj] at he hn hnx
      rw [if_neg hj]
      simp only [] at hn hnx
      obtain ⟨i1, i2⟩ := item_win h (k := k) (k' := k') hk hk' (by omega) he1 (by omega)
      have hj1 := joins_win h hz (k := (itemS s k).next) (k' := (itemS s k).next - i + i') (by omega) rfl (by omega)
      rw [i1]
      simp only []
      rw [hj1.1, if_neg (by simp), if_neg hj]
  · rw [if_pos he1] at he
    simp only [It.err] at he
    exact absurd he he1

theorem loop_close (s : ByteArray) : ∀ (f : Nat) (first : Bool) (q : Nat → Bool) (k : Nat), (loopS s f first q k).e = 0 → k ≤ (loopS s f first q k).next ∧ byteAt s (loopS s f first q k).next = 93 ∧ (first = true → k < (loopS s f first q k).next)
  | 0, _, _, _, h => by simp [loopS, It.err] at h
  | f + 1, first, q, k, h => by
    unfold loopS at h ⊢
    by_cases hc : first = false ∧ byteAt s k = 93
    · rw [if_pos hc]
      exact ⟨Nat.le_refl _, hc.2, fun h => by rw [hc.1] at h; cases h⟩
    · rw [if_neg hc] at h ⊢
      by_cases he : (entryS s k).e = 0
      · rw [if_neg (by simp [he])] at h ⊢
        have h1 := loop_close s f false _ _ h
        have h2 := entryS_next s k he
        exact ⟨by omega, h1.2.1, fun _ => by omega⟩
      · rw [if_pos he] at h
        simp only [It.err] at h
        exact absurd h he

theorem loop_win {s s' : ByteArray} {i i' N : Nat} (h : Win s i s' i' (N + 1)) (hz : byteAt s (i + N) = 93) : ∀ (f f' : Nat) (first : Bool) (q : Nat → Bool) (k k' : Nat), i ≤ k → k' = k - i + i' → i + N + 1 ≤ k + f' →
    (loopS s f first q k).e = 0 → (loopS s f first q k).next = i + N → loopS s' f' first q k' = ⟨0, (loopS s f first q k).q, (loopS s f first q k).b, (loopS s f first q k).bound, i' + N⟩
  | 0, _, _, _, _, _, _, _, _, he, _ => by simp [loopS, It.err] at he
  | f + 1, 0, first, q, k, k', h1, h2, h3, he, hn => by
    have := (loop_close s (f + 1) first q k he).1
    omega
  | f + 1, f' + 1, first, q, k, k', h1, h2, h3, he, hn => by
    have hle := (loop_close s (f + 1) first q k he).1
    have b0 : byteAt s k = byteAt s' k' := h.at (by omega) (by omega) (by omega)
    unfold loopS at he hn ⊢
    rw [← b0]
    by_cases hc : first = false ∧ byteAt s k = 93
    · rw [if_pos hc] at hn
      rw [if_pos hc, if_pos hc]
      simp only [] at hn ⊢
      congr 1
      omega
    · rw [if_neg hc] at he hn
      rw [if_neg hc, if_neg hc]
      by_cases he1 : (entryS s k).e = 0
      · rw [if_neg (by simp [he1])] at he hn
        have h4 := loop_close s f false _ _ he
        have h5 := (entryS_next s k he1).1
        have hw := entry_win h hz (k := k) (k' := k') h1 h2 he1 (by omega)
        rw [if_neg (c := (entryS s k).e ≠ 0) (by simp [he1]), hw]
        simp only []
        rw [if_neg (by simp)]
        exact loop_win h hz f f' false _ _ _ (by omega) rfl (by omega) he hn
      · rw [if_pos he1] at he
        simp only [It.err] at he
        exact absurd he he1

/-- What parses, parses alike wherever its bytes stand. -/
theorem parse_win {s s' : ByteArray} {i i' : Nat} (he : (parseS s i).e = 0) (h : Win s i s' i' ((parseS s i).next - i)) : parseS s' i' = ⟨0, (parseS s i).q, 0, false, i' + ((parseS s i).next - i)⟩ := by
  unfold parseS at he h ⊢
  have hlt : byteAt s i = 91 := by
    by_cases c : byteAt s i = 91
    · exact c
    · rw [if_neg c] at he; simp [It.err] at he
  rw [if_pos hlt] at he h
  rw [if_pos (c := byteAt s i = 91) hlt]
  by_cases h94 : byteAt s (i + 1) = 94
  · rw [if_pos h94] at he h
    rw [if_pos (c := byteAt s (i + 1) = 94) h94]
    by_cases hl : (loopS s (s.size + 2) true noneP (i + 2)).e = 0
    · rw [if_neg (by simp [hl])] at h
      rw [if_neg (c := (loopS s (s.size + 2) true noneP (i + 2)).e ≠ 0) (by simp [hl])]
      obtain ⟨l1, l2, l3⟩ := loop_close s _ _ _ _ hl
      generalize hL : (loopS s (s.size + 2) true noneP (i + 2)).next = n at *
      simp only [] at h ⊢
      rw [show n + 1 - i = (n - i) + 1 from by omega] at h
      have b0 : byteAt s i = byteAt s' i' := h.at (by omega) (by omega) (by omega)
      have b1 : byteAt s (i + 1) = byteAt s' (i' + 1) := h.at (by omega) (by omega) (by omega)
      have hw := loop_win h (by rw [show i + (n - i) = n from by omega]; exact l2) (s.size + 2) (s'.size + 2) true noneP (i + 2) (i' + 2) (by omega) (by omega) (by have := h.2.1; omega) hl (by omega)
      rw [← b0, if_pos hlt, ← b1, if_pos h94, hw]
      simp only []
      rw [if_neg (by simp)]
      congr 1
      omega
    · rw [if_pos hl] at he
      simp only [It.err] at he
      exact absurd he hl
  · rw [if_neg h94] at he h
    rw [if_neg (c := byteAt s (i + 1) = 94) h94]
    by_cases hl : (loopS s (s.size + 2) true noneP (i + 1)).e = 0
    · rw [if_neg (by simp [hl])] at h
      rw [if_neg (c := (loopS s (s.size + 2) true noneP (i + 1)).e ≠ 0) (by simp [hl])]
      obtain ⟨l1, l2, l3⟩ := loop_close s _ _ _ _ hl
      generalize hL : (loopS s (s.size + 2) true noneP (i + 1)).next = n at *
      simp only [] at h ⊢
      rw [show n + 1 - i = (n - i) + 1 from by omega] at h
      have b0 : byteAt s i = byteAt s' i' := h.at (by omega) (by omega) (by omega)
      have b1 : byteAt s (i + 1) = byteAt s' (i' + 1) := h.at (by omega) (by omega) (by omega)
      have hw := loop_win h (by rw [show i + (n - i) = n from by omega]; exact l2) (s.size + 2) (s'.size + 2) true noneP (i + 1) (i' + 1) (by omega) (by omega) (by have := h.2.1; omega) hl (by omega)
      rw [← b0, if_pos hlt, ← b1, if_neg h94, hw]
      simp only []
      rw [if_neg (by simp)]
      congr 1
      omega
    · rw [if_pos hl] at he
      simp only [It.err] at he
      exact absurd he hl

/-- Its form. -/
theorem parse_form {s : ByteArray} {i : Nat} (he : (parseS s i).e = 0) : i + 3 ≤ (parseS s i).next ∧ (parseS s i).next ≤ s.size ∧ byteAt s i = 91 ∧ byteAt s ((parseS s i).next - 1) = 93 := by
  unfold parseS at he ⊢
  have hlt : byteAt s i = 91 := by
    by_cases c : byteAt s i = 91
    · exact c
    · rw [if_neg c] at he; simp [It.err] at he
  rw [if_pos hlt] at he ⊢
  by_cases h94 : byteAt s (i + 1) = 94
  · rw [if_pos h94] at he ⊢
    by_cases hl : (loopS s (s.size + 2) true noneP (i + 2)).e = 0
    · rw [if_neg (by simp [hl])]
      obtain ⟨l1, l2, l3⟩ := loop_close s _ _ _ _ hl
      have l4 := l3 rfl
      have := byteAt_lt l2 (by omega)
      exact ⟨by simp only []; omega, by simp only []; omega, hlt, by simpa using l2⟩
    · rw [if_pos hl] at he
      simp only [It.err] at he
      exact absurd he hl
  · rw [if_neg h94] at he ⊢
    by_cases hl : (loopS s (s.size + 2) true noneP (i + 1)).e = 0
    · rw [if_neg (by simp [hl])]
      obtain ⟨l1, l2, l3⟩ := loop_close s _ _ _ _ hl
      have l4 := l3 rfl
      have := byteAt_lt l2 (by omega)
      exact ⟨by simp only []; omega, by simp only []; omega, hlt, by simpa using l2⟩
    · rw [if_pos hl] at he
      simp only [It.err] at he
      exact absurd he hl

/-- With a ^ behind the [. -/
theorem parse_caret {s s' : ByteArray} (he : (parseS s 0).e = 0) (h94 : ¬ byteAt s 1 = 94) (hb0 : byteAt s' 0 = 91) (hb1 : byteAt s' 1 = 94) (h : Win s 1 s' 2 ((parseS s 0).next - 1)) :
    parseS s' 0 = ⟨0, notP (parseS s 0).q, 0, false, (parseS s 0).next + 1⟩ := by
  unfold parseS at he h ⊢
  have hlt : byteAt s 0 = 91 := by
    by_cases c : byteAt s 0 = 91
    · exact c
    · rw [if_neg c] at he; simp [It.err] at he
  rw [if_pos hlt] at he h
  rw [if_pos (c := byteAt s 0 = 91) hlt, if_pos hb0]
  rw [if_neg h94] at he h
  rw [if_neg (c := byteAt s (0 + 1) = 94) h94, if_pos hb1]
  by_cases hl : (loopS s (s.size + 2) true noneP (0 + 1)).e = 0
  · rw [if_neg (by simp [hl])] at h
    rw [if_neg (c := (loopS s (s.size + 2) true noneP (0 + 1)).e ≠ 0) (by simp [hl])]
    obtain ⟨l1, l2, l3⟩ := loop_close s _ _ _ _ hl
    generalize hL : (loopS s (s.size + 2) true noneP (0 + 1)).next = n at *
    simp only [] at h ⊢
    rw [show n + 1 - 1 = (n - 1) + 1 from by omega] at h
    have hw := loop_win h (by rw [show 1 + (n - 1) = n from by omega]; exact l2) (s.size + 2) (s'.size + 2) true noneP (0 + 1) (0 + 2) (by omega) (by omega) (by have := h.2.1; omega) hl (by omega)
    rw [hw]
    simp only []
    rw [if_neg (by simp)]
    congr 1
    omega
  · rw [if_pos hl] at he
    simp only [It.err] at he
    exact absurd he hl
end Go.Proofs.YtemgfbidfdhanaaDoor
