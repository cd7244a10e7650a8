/- bracket: what is read hangs on the bytes of the expression alone: the same bytes at another place of another text are read alike. -/
import Derived.Test.YtaapmphdnholaaaGreatDoorKParse
namespace Go.Proofs.YtaapmphdnholaaaGreatDoor
def Win (s : ByteArray) (i : Nat) (s' : ByteArray) (i' N : Nat) : Prop := i + N ≤ s.size ∧ i' + N ≤ s'.size ∧ ∀ j, j < N → xac s (i + j) = xac s' (i' + j)
theorem Win.at {s s' : ByteArray} {i i' N : Nat} (h : Win s i s' i' N) {k k' : Nat} (hk : i ≤ k) (hk' : k' = k - i + i') (hN : k < i + N) : xac s k = xac s' k' := by
 have := h.2.2 (k - i) (by omega)
 rw [show i + (k - i) = k from by omega, show i' + (k - i) = k' from by omega] at this
 exact this
theorem xrs {a b : ByteArray} (h : a.size = b.size) (h2 : ∀ i, i < a.size → xac a i = xac b i) : a = b := by
 obtain ⟨⟨a⟩⟩ := a
 obtain ⟨⟨b⟩⟩ := b
 congr 2
 refine List.ext_getElem h fun i h1 h3 => ?_
 have hi := h2 i h1
 rw [xah (show i < (ByteArray.mk ⟨a⟩).size from h1), xah (show i < (ByteArray.mk ⟨b⟩).size from h3)] at hi
 exact UInt8.toNat_inj.1 (by exact_mod_cast hi)
theorem xfe (s : ByteArray) (a b i : Nat) (hb : b ≤ s.size) (hi : i < b - a) : xac (s.extract a b) i = xac s (a + i) := by
 have h1 : i < (s.extract a b).size := by rw [ByteArray.size_extract]; omega
 rw [xah h1, xah (by omega), ByteArray.getElem_extract]
theorem Win.extract {s s' : ByteArray} {i i' N : Nat} (h : Win s i s' i' N) {a b a' b' : Nat} (ha : i ≤ a) (hb : b ≤ i + N) (ha' : a' = a - i + i') (hb' : b' = b - i + i') (hab : a ≤ b) : s.extract a b = s'.extract a' b' := by
 have h1 := h.1
 have h2 := h.2.1
 refine xrs (by rw [ByteArray.size_extract, ByteArray.size_extract]; omega) fun k hk => ?_
 rw [ByteArray.size_extract] at hk
 rw [xfe _ _ _ _ (by omega) (by omega), xfe _ _ _ _ (by omega) (by omega)]
 exact h.at (by omega) (by omega) (by omega)
theorem xnc (s : ByteArray) (a : Nat) (m : UInt8) : xbm s a m = -1 ∨ ∃ c : Nat, xbm s a m = c ∧ a ≤ c ∧ c + 1 < s.size ∧ (xac s c == (m.toNat : Int) && xac s (c + 1) == 93) = true ∧ ∀ t, a ≤ t → t < c → (xac s t == (m.toNat : Int) && xac s (t + 1) == 93) = false := by
 rcases Lib.index_spec (s.data.toList.drop a) [m, 93] with ⟨h, -⟩ | ⟨i, h, h1, h2⟩
 ·left; simp [xbm, h]
 ·right
  have hr := Lib.index_room (s.data.toList.drop a) [m, 93] (by omega)
  rw [h] at hr
  simp at hr
  refine ⟨a + i, ?_, by omega, by omega, ?_, fun t ht hti => ?_⟩
  ·rw [xbm, h, if_neg (by omega)]
   omega
  ·have := h2.1
   rw [xhh] at this
   exact this
  ·have := h2.2 (t - a) (by omega)
   rw [xhh, show a + (t - a) = t from by omega] at this
   exact this
theorem xj7 {s s' : ByteArray} {i i' N : Nat} (h : Win s i s' i' N) {k k' : Nat} (hk : i ≤ k) (hk' : k' = k - i + i') (hN : k + 1 < i + N) (he : (xan s k).e = 0) (hn : (xan s k).next ≤ i + N) :
  xan s' k' = ⟨0, (xan s k).q, (xan s k).b, (xan s k).bound, (xan s k).next - i + i'⟩ ∧ k < (xan s k).next := by
 have w1 := h.1
 have w2 := h.2.1
 have b0 : xac s k = xac s' k' := h.at (by omega) (by omega) (by omega)
 have b1 : xac s (k + 1) = xac s' (k' + 1) := h.at (by omega) (by omega) (by omega)
 have hm : xb9 s' k' = xb9 s k := by unfold xb9; rw [b0, b1]
 have hlt := (xch s k).2 he
 refine ⟨?_, hlt⟩
 have hmk : mkAt s' k' = mkAt s k := by unfold mkAt; rw [b1]
 unfold xan at he hn hlt ⊢
 rw [if_pos (by omega)] at he hn hlt
 rw [if_pos (show k' < s'.size by omega), if_pos (show k < s.size by omega), hm]
 by_cases hmb : xb9 s k = true
 ·rw [if_pos hmb] at he hn hlt
  rw [if_pos hmb, if_pos hmb]
  unfold xa1 at he hn hlt ⊢
  rcases xnc s (k + 3) (mkAt s k) with hc | ⟨c, hc, hc1, hc2, hc3, hc4⟩
  ·rw [if_pos hc] at he
   simp [It.err] at he
  ·rw [hc] at he hn hlt
   rw [if_neg (by omega)] at he hn hlt
   have key : c + 2 ≤ i + N → xbm s' (k' + 3) (mkAt s k) = ((c - i + i' : Nat) : Int) := by
    intro hcN
    refine xfg s' (k' + 3) (c - i + i') (mkAt s k) (by omega) ?_ ?_
    ·rw [← h.at (k := c) (by omega) rfl (by omega), ← h.at (k := c + 1) (by omega) (by omega) (by omega)]
     exact hc3
    ·intro t ht1 ht2
     rw [← h.at (k := t - i' + i) (by omega) (by omega) (by omega), ← h.at (k := t - i' + i + 1) (by omega) (by omega) (by omega)]
     exact hc4 _ (by omega) (by omega)
   rw [hmk, hc, ← b1]
   by_cases h58 : xac s (k + 1) = 58
   ·rw [if_pos h58] at he hn hlt
    simp only [Int.toNat_natCast] at hn
    rw [key (by omega), if_neg (by omega), if_pos h58, if_neg (by omega), if_pos h58]
    simp only [Int.toNat_natCast] at he ⊢
    have hx : s.extract (k + 2) c = s'.extract (k' + 2) (c - i + i') := h.extract (by omega) (by omega) (by omega) rfl (by omega)
    rw [← hx, he]
    congr 1
    omega
   ·rw [if_neg h58] at he hn hlt
    by_cases hc5 : (c : Int) = (k : Int) + 3
    ·rw [if_pos hc5] at he hn hlt
     simp only [] at hn
     rw [key (by omega), if_neg (by omega), if_neg h58, if_pos (by omega), if_neg (by omega), if_neg h58, if_pos hc5]
     have hx : s.extract (k + 2) (k + 3) = s'.extract (k' + 2) (k' + 3) := h.extract (by omega) (by omega) (by omega) (by omega) (by omega)
     have hb2 : xac s (k + 2) = xac s' (k' + 2) := h.at (by omega) (by omega) (by omega)
     rw [← hx, ← hb2]
     simp only []
     congr 1
     omega
    ·rw [if_neg hc5] at he
     simp [It.err] at he
 ·rw [if_neg hmb, if_neg hmb]
  have hx : s.extract k (k + 1) = s'.extract k' (k' + 1) := h.extract (by omega) (by omega) (by omega) (by omega) (by omega)
  rw [← hx, ← b0]
  simp only []
  congr 1
  omega
theorem xhv {s s' : ByteArray} {i i' N : Nat} (h : Win s i s' i' (N + 1)) (hz : xac s (i + N) = 93) {k k' : Nat} (hk : i ≤ k) (hk' : k' = k - i + i') (hN : k ≤ i + N) : xbk s' k' = xbk s k ∧ (xbk s k = true → k + 1 ≤ i + N) := by
 have b0 : xac s k = xac s' k' := h.at (by omega) (by omega) (by omega)
 unfold xbk
 by_cases e : k = i + N
 ·rw [← b0, e, hz]
  simp
 ·have b1 : xac s (k + 1) = xac s' (k' + 1) := h.at (by omega) (by omega) (by omega)
  rw [b0, b1]
  exact ⟨rfl, fun _ => by omega⟩
theorem xrt {s s' : ByteArray} {i i' N : Nat} (h : Win s i s' i' (N + 1)) (hz : xac s (i + N) = 93) {k k' : Nat} (hk : i ≤ k) (hk' : k' = k - i + i') (he : (xa2 s k).e = 0) (hn : (xa2 s k).next ≤ i + N) :
  xa2 s' k' = ⟨0, (xa2 s k).q, 0, false, (xa2 s k).next - i + i'⟩ := by
 have hnx := (xb4 s k he).1
 have w1 := h.1
 have w2 := h.2.1
 unfold xa2 at he hn hnx ⊢
 by_cases he1 : (xan s k).e = 0
 ·rw [if_neg (by simp [he1])] at he hn hnx
  rw [if_neg (c := (xan s k).e ≠ 0) (by simp [he1])]
  by_cases hj : xbk s (xan s k).next = true
  ·rw [if_pos hj] at he hn hnx
   rw [if_pos hj]
   unfold xhl at he hn hnx ⊢
   split at he
   ·simp [It.err] at he
   rename_i c1
   rw [if_neg c1] at hn hnx
   split at he
   ·simp [It.err] at he
   rename_i c2
   rw [if_neg c2] at hn hnx
   split at he
   ·rename_i c3; simp only [It.err] at he; exact absurd he c3
   rename_i c3
   rw [if_neg c3] at hn hnx
   split at he
   ·simp [It.err] at he
   rename_i c4
   rw [if_neg c4] at hn hnx
   have c3' : (xan s ((xan s k).next + 1)).e = 0 := by simpa using c3
   have n2 := (xch s ((xan s k).next + 1)).2 c3'
   simp only [] at hn hnx
   obtain ⟨i1, i2⟩ := xj7 h (k := k) (k' := k') hk hk' (by omega) he1 (by omega)
   have hj1 := xhv h hz (k := (xan s k).next) (k' := (xan s k).next - i + i') (by omega) rfl (by omega)
   obtain ⟨i3, i4⟩ := xj7 h (k := (xan s k).next + 1) (k' := (xan s k).next - i + i' + 1) (by omega) (by omega) (by omega) c3' (by omega)
   have hj2 := xhv h hz (k := (xan s ((xan s k).next + 1)).next) (k' := (xan s ((xan s k).next + 1)).next - i + i') (by omega) rfl (by omega)
   rw [i1]
   simp only []
   rw [hj1.1, if_neg (by simp), if_pos hj, i3]
   simp only []
   rw [if_neg (by omega), if_neg c2, if_neg (by simp), hj2.1, if_neg c4, if_neg c1, if_neg c2, if_neg c3, if_neg c4]
  ·rw [if_neg hj] at he hn hnx
   rw [if_neg hj]
   simp only [] at hn hnx
   obtain ⟨i1, i2⟩ := xj7 h (k := k) (k' := k') hk hk' (by omega) he1 (by omega)
   have hj1 := xhv h hz (k := (xan s k).next) (k' := (xan s k).next - i + i') (by omega) rfl (by omega)
   rw [i1]
   simp only []
   rw [hj1.1, if_neg (by simp), if_neg hj]
 ·rw [if_pos he1] at he
  simp only [It.err] at he
  exact absurd he he1
theorem xcj (s : ByteArray) : ∀ (f : Nat) (first : Bool) (q : Nat → Bool) (k : Nat), (xbi s f first q k).e = 0 → k ≤ (xbi s f first q k).next ∧ xac s (xbi s f first q k).next = 93 ∧ (first = true → k < (xbi s f first q k).next)
 | 0, _, _, _, h => by simp [xbi, It.err] at h
 | f + 1, first, q, k, h => by
  unfold xbi at h ⊢
  by_cases hc : first = false ∧ xac s k = 93
  ·rw [if_pos hc]
   exact ⟨Nat.le_refl _, hc.2, fun h => by rw [hc.1] at h; cases h⟩
  ·rw [if_neg hc] at h ⊢
   by_cases he : (xa2 s k).e = 0
   ·rw [if_neg (by simp [he])] at h ⊢
    have h1 := xcj s f false _ _ h
    have h2 := xb4 s k he
    exact ⟨by omega, h1.2.1, fun _ => by omega⟩
   ·rw [if_pos he] at h
    simp only [It.err] at h
    exact absurd h he
theorem xj8 {s s' : ByteArray} {i i' N : Nat} (h : Win s i s' i' (N + 1)) (hz : xac s (i + N) = 93) : ∀ (f f' : Nat) (first : Bool) (q : Nat → Bool) (k k' : Nat), i ≤ k → k' = k - i + i' → i + N + 1 ≤ k + f' →
  (xbi s f first q k).e = 0 → (xbi s f first q k).next = i + N → xbi s' f' first q k' = ⟨0, (xbi s f first q k).q, (xbi s f first q k).b, (xbi s f first q k).bound, i' + N⟩
 | 0, _, _, _, _, _, _, _, _, he, _ => by simp [xbi, It.err] at he
 | f + 1, 0, first, q, k, k', h1, h2, h3, he, hn => by
  have := (xcj s (f + 1) first q k he).1
  omega
 | f + 1, f' + 1, first, q, k, k', h1, h2, h3, he, hn => by
  have hle := (xcj s (f + 1) first q k he).1
  have b0 : xac s k = xac s' k' := h.at (by omega) (by omega) (by omega)
  unfold xbi at he hn ⊢
  rw [← b0]
  by_cases hc : first = false ∧ xac s k = 93
  ·rw [if_pos hc] at hn
   rw [if_pos hc, if_pos hc]
   simp only [] at hn ⊢
   congr 1
   omega
  ·rw [if_neg hc] at he hn
   rw [if_neg hc, if_neg hc]
   by_cases he1 : (xa2 s k).e = 0
   ·rw [if_neg (by simp [he1])] at he hn
    have h4 := xcj s f false _ _ he
    have h5 := (xb4 s k he1).1
    have hw := xrt h hz (k := k) (k' := k') h1 h2 he1 (by omega)
    rw [if_neg (c := (xa2 s k).e ≠ 0) (by simp [he1]), hw]
    simp only []
    rw [if_neg (by simp)]
    exact xj8 h hz f f' false _ _ _ (by omega) rfl (by omega) he hn
   ·rw [if_pos he1] at he
    simp only [It.err] at he
    exact absurd he he1
theorem xru {s s' : ByteArray} {i i' : Nat} (he : (xbn s i).e = 0) (h : Win s i s' i' ((xbn s i).next - i)) : xbn s' i' = ⟨0, (xbn s i).q, 0, false, i' + ((xbn s i).next - i)⟩ := by
 unfold xbn at he h ⊢
 have hlt : xac s i = 91 := by
  by_cases c : xac s i = 91
  ·exact c
  ·rw [if_neg c] at he; simp [It.err] at he
 rw [if_pos hlt] at he h
 rw [if_pos (c := xac s i = 91) hlt]
 by_cases h94 : xac s (i + 1) = 94
 ·rw [if_pos h94] at he h
  rw [if_pos (c := xac s (i + 1) = 94) h94]
  by_cases hl : (xbi s (s.size + 2) true xad (i + 2)).e = 0
  ·rw [if_neg (by simp [hl])] at h
   rw [if_neg (c := (xbi s (s.size + 2) true xad (i + 2)).e ≠ 0) (by simp [hl])]
   obtain ⟨l1, l2, l3⟩ := xcj s _ _ _ _ hl
   generalize hL : (xbi s (s.size + 2) true xad (i + 2)).next = n at *
   simp only [] at h ⊢
   rw [show n + 1 - i = (n - i) + 1 from by omega] at h
   have b0 : xac s i = xac s' i' := h.at (by omega) (by omega) (by omega)
   have b1 : xac s (i + 1) = xac s' (i' + 1) := h.at (by omega) (by omega) (by omega)
   have hw := xj8 h (by rw [show i + (n - i) = n from by omega]; exact l2) (s.size + 2) (s'.size + 2) true xad (i + 2) (i' + 2) (by omega) (by omega) (by have := h.2.1; omega) hl (by omega)
   rw [← b0, if_pos hlt, ← b1, if_pos h94, hw]
   simp only []
   rw [if_neg (by simp)]
   congr 1
   omega
  ·rw [if_pos hl] at he
   simp only [It.err] at he
   exact absurd he hl
 ·rw [if_neg h94] at he h
  rw [if_neg (c := xac s (i + 1) = 94) h94]
  by_cases hl : (xbi s (s.size + 2) true xad (i + 1)).e = 0
  ·rw [if_neg (by simp [hl])] at h
   rw [if_neg (c := (xbi s (s.size + 2) true xad (i + 1)).e ≠ 0) (by simp [hl])]
   obtain ⟨l1, l2, l3⟩ := xcj s _ _ _ _ hl
   generalize hL : (xbi s (s.size + 2) true xad (i + 1)).next = n at *
   simp only [] at h ⊢
   rw [show n + 1 - i = (n - i) + 1 from by omega] at h
   have b0 : xac s i = xac s' i' := h.at (by omega) (by omega) (by omega)
   have b1 : xac s (i + 1) = xac s' (i' + 1) := h.at (by omega) (by omega) (by omega)
   have hw := xj8 h (by rw [show i + (n - i) = n from by omega]; exact l2) (s.size + 2) (s'.size + 2) true xad (i + 1) (i' + 1) (by omega) (by omega) (by have := h.2.1; omega) hl (by omega)
   rw [← b0, if_pos hlt, ← b1, if_neg h94, hw]
   simp only []
   rw [if_neg (by simp)]
   congr 1
   omega
  ·rw [if_pos hl] at he
   simp only [It.err] at he
   exact absurd he hl
theorem xga {s : ByteArray} {i : Nat} (he : (xbn s i).e = 0) : i + 3 ≤ (xbn s i).next ∧ (xbn s i).next ≤ s.size ∧ xac s i = 91 ∧ xac s ((xbn s i).next - 1) = 93 := by
 unfold xbn at he ⊢
 have hlt : xac s i = 91 := by
  by_cases c : xac s i = 91
  ·exact c
  ·rw [if_neg c] at he; simp [It.err] at he
 rw [if_pos hlt] at he ⊢
 by_cases h94 : xac s (i + 1) = 94
 ·rw [if_pos h94] at he ⊢
  by_cases hl : (xbi s (s.size + 2) true xad (i + 2)).e = 0
  ·rw [if_neg (by simp [hl])]
   obtain ⟨l1, l2, l3⟩ := xcj s _ _ _ _ hl
   have l4 := l3 rfl
   have := xa7 l2 (by omega)
   exact ⟨by simp only []; omega, by simp only []; omega, hlt, by simpa using l2⟩
  ·rw [if_pos hl] at he
   simp only [It.err] at he
   exact absurd he hl
 ·rw [if_neg h94] at he ⊢
  by_cases hl : (xbi s (s.size + 2) true xad (i + 1)).e = 0
  ·rw [if_neg (by simp [hl])]
   obtain ⟨l1, l2, l3⟩ := xcj s _ _ _ _ hl
   have l4 := l3 rfl
   have := xa7 l2 (by omega)
   exact ⟨by simp only []; omega, by simp only []; omega, hlt, by simpa using l2⟩
  ·rw [if_pos hl] at he
   simp only [It.err] at he
   exact absurd he hl
end Go.Proofs.YtaapmphdnholaaaGreatDoor
