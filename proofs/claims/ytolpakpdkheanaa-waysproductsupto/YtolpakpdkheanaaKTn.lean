/- bre: a text behind another: the same tokens. WaysProducts: what a text that stands behind another parses to (pure). WaysProducts: the two texts; their ways (pure). WaysProducts: the walk. -/
import Derived.Test.YtolpakpdkheanaaKLoc
import Derived.Test.YtolpakpdkheanaaKQf
import Derived.Test.YtolpakpdkheanaaKPn
import Derived.Test.YtolpakpdkheanaaKTm
import Derived.Test.YtolpakpdkheanaaKNi
set_option maxRecDepth 100000
set_option maxHeartbeats 4000000
namespace Go.Proofs.Ytolpakpdkheanaa.br
open Go.RowKit
theorem list_at (s : ByteArray) (i : Nat) (h : i < s.size) : s.data.toList[i]'(by simpa using h) = s[i] := rfl
theorem occ_iff (s : ByteArray) (a t : Nat) (m : UInt8) : Lib.occAt (s.data.toList.drop a) [m, 93] t = (xag s (a + t) == (m.toNat : Int) && xag s (a + t + 1) == 93) := by
  have hm := m.toNat_lt
  rw [Lib.occAt, List.drop_drop]
  by_cases h : a + t < s.size
  · have h' : a + t < s.data.toList.length := by simpa using h
    rw [List.drop_eq_getElem_cons h', List.isPrefixOf_cons_cons, xan h]
    have e1 : (m == s.data.toList[a + t]) = ((s[a + t].toNat : Int) == (m.toNat : Int)) := by
      rw [list_at s _ h, Bool.eq_iff_iff, beq_iff_eq, beq_iff_eq]
      constructor
      · intro e; rw [e]
      · intro e; exact (UInt8.toNat_inj.1 (by omega)).symm
    rw [e1]
    congr 1
    by_cases h1 : a + t + 1 < s.size
    · have h1' : a + t + 1 < s.data.toList.length := by simpa using h1
      rw [List.drop_eq_getElem_cons h1', List.isPrefixOf_cons_cons, xan h1, List.isPrefixOf_nil_left, Bool.and_true, list_at s _ h1, Bool.eq_iff_iff, beq_iff_eq, beq_iff_eq]
      constructor
      · intro e; rw [← e]; rfl
      · intro e; exact (UInt8.toNat_inj.1 (by show s[a + t + 1].toNat = 93; omega)).symm
    · rw [List.drop_eq_nil_of_le (by simp; omega), xez (by omega)]
      rfl
  · rw [List.drop_eq_nil_of_le (by simp; omega), xez (by omega)]
    have : ((-1 : Int) == (m.toNat : Int)) = false := by rw [beq_eq_false_iff_ne]; omega
    rw [this]
    rfl
theorem closeI_some (s : ByteArray) (a j : Nat) (m : UInt8) (hj : a ≤ j) (h1 : (xag s j == (m.toNat : Int) && xag s (j + 1) == 93) = true) (h0 : ∀ t, a ≤ t → t < j → (xag s t == (m.toNat : Int) && xag s (t + 1) == 93) = false) : xc7 s a m = j := by
  have hlt : j < s.size := by
    rw [Bool.and_eq_true, beq_iff_eq, beq_iff_eq] at h1
    exact xcg h1.1 (by omega)
  have : Lib.index (s.data.toList.drop a) [m, 93] = ((j - a : Nat) : Int) := Lib.index_first (by simp; omega) (by rw [occ_iff, show a + (j - a) = j by omega]; exact h1) (fun t ht => by rw [occ_iff]; exact h0 _ (by omega) (by omega))
  rw [xc7, this, if_neg (by omega)]
  omega
theorem closeI_spec (s : ByteArray) (a : Nat) (m : UInt8) : xc7 s a m = -1 ∨ ∃ c : Nat, xc7 s a m = c ∧ a ≤ c ∧ c + 1 < s.size ∧ (xag s c == (m.toNat : Int) && xag s (c + 1) == 93) = true ∧ ∀ t, a ≤ t → t < c → (xag s t == (m.toNat : Int) && xag s (t + 1) == 93) = false := by
  rcases Lib.index_spec (s.data.toList.drop a) [m, 93] with ⟨h, -⟩ | ⟨i, h, h1, h2⟩
  · left; simp [xc7, h]
  · right
    have hr := Lib.index_room (s.data.toList.drop a) [m, 93] (by omega)
    rw [h] at hr
    simp at hr
    refine ⟨a + i, ?_, by omega, by omega, ?_, fun t ht hti => ?_⟩
    · rw [xc7, h, if_neg (by omega)]
      omega
    · have := h2.1
      rw [occ_iff] at this
      exact this
    · have := h2.2 (t - a) (by omega)
      rw [occ_iff, show a + (t - a) = t from by omega] at this
      exact this
theorem item_win {s s' : ByteArray} {i i' N : Nat} (h : Win s i s' i' N) {k k' : Nat} (hk : i ≤ k) (hk' : k' = k - i + i') (hN : k + 1 < i + N) (he : (xa4 s k).e = 0) (hn : (xa4 s k).next ≤ i + N) :
    xa4 s' k' = ⟨0, (xa4 s k).q, (xa4 s k).b, (xa4 s k).bound, (xa4 s k).next - i + i'⟩ ∧ k < (xa4 s k).next := by
  have w1 := h.1
  have w2 := h.2.1
  have b0 : xag s k = xag s' k' := h.at (by omega) (by omega) (by omega)
  have b1 : xag s (k + 1) = xag s' (k' + 1) := h.at (by omega) (by omega) (by omega)
  have hm : xd1 s' k' = xd1 s k := by unfold xd1; rw [b0, b1]
  have hlt := (xdl s k).2 he
  refine ⟨?_, hlt⟩
  have hmk : mkAt s' k' = mkAt s k := by unfold mkAt; rw [b1]
  unfold xa4 at he hn hlt ⊢
  rw [if_pos (by omega)] at he hn hlt
  rw [if_pos (show k' < s'.size by omega), if_pos (show k < s.size by omega), hm]
  by_cases hmb : xd1 s k = true
  · rw [if_pos hmb] at he hn hlt
    rw [if_pos hmb, if_pos hmb]
    unfold xa2 at he hn hlt ⊢
    rcases closeI_spec s (k + 3) (mkAt s k) with hc | ⟨c, hc, hc1, hc2, hc3, hc4⟩
    · rw [if_pos hc] at he
      simp [It.err] at he
    · rw [hc] at he hn hlt
      rw [if_neg (by omega)] at he hn hlt
      have key : c + 2 ≤ i + N → xc7 s' (k' + 3) (mkAt s k) = ((c - i + i' : Nat) : Int) := by
        intro hcN
        refine closeI_some s' (k' + 3) (c - i + i') (mkAt s k) (by omega) ?_ ?_
        · rw [← h.at (k := c) (by omega) rfl (by omega), ← h.at (k := c + 1) (by omega) (by omega) (by omega)]
          exact hc3
        · intro t ht1 ht2
          rw [← h.at (k := t - i' + i) (by omega) (by omega) (by omega), ← h.at (k := t - i' + i + 1) (by omega) (by omega) (by omega)]
          exact hc4 _ (by omega) (by omega)
      rw [hmk, hc, ← b1]
      by_cases h58 : xag s (k + 1) = 58
      · rw [if_pos h58] at he hn hlt
        simp only [Int.toNat_natCast] at hn
        rw [key (by omega), if_neg (by omega), if_pos h58, if_neg (by omega), if_pos h58]
        simp only [Int.toNat_natCast] at he ⊢
        have hx : s.extract (k + 2) c = s'.extract (k' + 2) (c - i + i') := h.extract (by omega) (by omega) (by omega) rfl (by omega)
        rw [← hx, he]
        congr 1
        omega
      · rw [if_neg h58] at he hn hlt
        by_cases hc5 : (c : Int) = (k : Int) + 3
        · rw [if_pos hc5] at he hn hlt
          simp only [] at hn
          rw [key (by omega), if_neg (by omega), if_neg h58, if_pos (by omega), if_neg (by omega), if_neg h58, if_pos hc5]
          have hx : s.extract (k + 2) (k + 3) = s'.extract (k' + 2) (k' + 3) := h.extract (by omega) (by omega) (by omega) (by omega) (by omega)
          have hb2 : xag s (k + 2) = xag s' (k' + 2) := h.at (by omega) (by omega) (by omega)
          rw [← hx, ← hb2]
          simp only []
          congr 1
          omega
        · rw [if_neg hc5] at he
          simp [It.err] at he
  · rw [if_neg hmb, if_neg hmb]
    have hx : s.extract k (k + 1) = s'.extract k' (k' + 1) := h.extract (by omega) (by omega) (by omega) (by omega) (by omega)
    rw [← hx, ← b0]
    simp only []
    congr 1
    omega
theorem joins_win {s s' : ByteArray} {i i' N : Nat} (h : Win s i s' i' (N + 1)) (hz : xag s (i + N) = 93) {k k' : Nat} (hk : i ≤ k) (hk' : k' = k - i + i') (hN : k ≤ i + N) : xef s' k' = xef s k ∧ (xef s k = true → k + 1 ≤ i + N) := by
  have b0 : xag s k = xag s' k' := h.at (by omega) (by omega) (by omega)
  unfold xef
  by_cases e : k = i + N
  · rw [← b0, e, hz]
    simp
  · have b1 : xag s (k + 1) = xag s' (k' + 1) := h.at (by omega) (by omega) (by omega)
    rw [b0, b1]
    exact ⟨rfl, fun _ => by omega⟩
theorem entry_win {s s' : ByteArray} {i i' N : Nat} (h : Win s i s' i' (N + 1)) (hz : xag s (i + N) = 93) {k k' : Nat} (hk : i ≤ k) (hk' : k' = k - i + i') (he : (xa6 s k).e = 0) (hn : (xa6 s k).next ≤ i + N) :
    xa6 s' k' = ⟨0, (xa6 s k).q, 0, false, (xa6 s k).next - i + i'⟩ := by
  have hnx := (xd2 s k he).1
  have w1 := h.1
  have w2 := h.2.1
  unfold xa6 at he hn hnx ⊢
  by_cases he1 : (xa4 s k).e = 0
  · rw [if_neg (by simp [he1])] at he hn hnx
    rw [if_neg (c := (xa4 s k).e ≠ 0) (by simp [he1])]
    by_cases hj : xef s (xa4 s k).next = true
    · rw [if_pos hj] at he hn hnx
      rw [if_pos hj]
      unfold xg4 at he hn hnx ⊢
      split at he
      · simp [It.err] at he
      rename_i c1
      rw [if_neg c1] at hn hnx
      split at he
      · simp [It.err] at he
      rename_i c2
      rw [if_neg c2] at hn hnx
      split at he
      · rename_i c3; simp only [It.err] at he; exact absurd he c3
      rename_i c3
      rw [if_neg c3] at hn hnx
      split at he
      · simp [It.err] at he
      rename_i c4
      rw [if_neg c4] at hn hnx
      have c3' : (xa4 s ((xa4 s k).next + 1)).e = 0 := by simpa using c3
      have n2 := (xdl s ((xa4 s k).next + 1)).2 c3'
      simp only [] at hn hnx
      obtain ⟨i1, i2⟩ := item_win h (k := k) (k' := k') hk hk' (by omega) he1 (by omega)
      have hj1 := joins_win h hz (k := (xa4 s k).next) (k' := (xa4 s k).next - i + i') (by omega) rfl (by omega)
      obtain ⟨i3, i4⟩ := item_win h (k := (xa4 s k).next + 1) (k' := (xa4 s k).next - i + i' + 1) (by omega) (by omega) (by omega) c3' (by omega)
      have hj2 := joins_win h hz (k := (xa4 s ((xa4 s k).next + 1)).next) (k' := (xa4 s ((xa4 s k).next + 1)).next - i + i') (by omega) rfl (by omega)
      rw [i1]
      simp only []
      rw [hj1.1, if_neg (by simp), if_pos hj, i3]
      simp only []
      rw [if_neg (by omega), if_neg c2, if_neg (by simp), hj2.1, if_neg c4, if_neg c1, if_neg c2, if_neg c3, if_neg c4]
    · rw [if_neg hj] at he hn hnx
      rw [if_neg hj]
      simp only [] at hn hnx
      obtain ⟨i1, i2⟩ := item_win h (k := k) (k' := k') hk hk' (by omega) he1 (by omega)
      have hj1 := joins_win h hz (k := (xa4 s k).next) (k' := (xa4 s k).next - i + i') (by omega) rfl (by omega)
      rw [i1]
      simp only []
      rw [hj1.1, if_neg (by simp), if_neg hj]
  · rw [if_pos he1] at he
    simp only [It.err] at he
    exact absurd he he1
theorem loop_win {s s' : ByteArray} {i i' N : Nat} (h : Win s i s' i' (N + 1)) (hz : xag s (i + N) = 93) : ∀ (f f' : Nat) (first : Bool) (q : Nat → Bool) (k k' : Nat), i ≤ k → k' = k - i + i' → i + N + 1 ≤ k + f' →
    (xbe s f first q k).e = 0 → (xbe s f first q k).next = i + N → xbe s' f' first q k' = ⟨0, (xbe s f first q k).q, (xbe s f first q k).b, (xbe s f first q k).bound, i' + N⟩
  | 0, _, _, _, _, _, _, _, _, he, _ => by simp [xbe, It.err] at he
  | f + 1, 0, first, q, k, k', h1, h2, h3, he, hn => by
    have := (xe0 s (f + 1) first q k he).1
    omega
  | f + 1, f' + 1, first, q, k, k', h1, h2, h3, he, hn => by
    have hle := (xe0 s (f + 1) first q k he).1
    have b0 : xag s k = xag s' k' := h.at (by omega) (by omega) (by omega)
    unfold xbe at he hn ⊢
    rw [← b0]
    by_cases hc : first = false ∧ xag s k = 93
    · rw [if_pos hc] at hn
      rw [if_pos hc, if_pos hc]
      simp only [] at hn ⊢
      congr 1
      omega
    · rw [if_neg hc] at he hn
      rw [if_neg hc, if_neg hc]
      by_cases he1 : (xa6 s k).e = 0
      · rw [if_neg (by simp [he1])] at he hn
        have h4 := xe0 s f false _ _ he
        have h5 := (xd2 s k he1).1
        have hw := entry_win h hz (k := k) (k' := k') h1 h2 he1 (by omega)
        rw [if_neg (c := (xa6 s k).e ≠ 0) (by simp [he1]), hw]
        simp only []
        rw [if_neg (by simp)]
        exact loop_win h hz f f' false _ _ _ (by omega) rfl (by omega) he hn
      · rw [if_pos he1] at he
        simp only [It.err] at he
        exact absurd he he1
theorem parse_win {s s' : ByteArray} {i i' : Nat} (he : (xco s i).e = 0) (h : Win s i s' i' ((xco s i).next - i)) : xco s' i' = ⟨0, (xco s i).q, 0, false, i' + ((xco s i).next - i)⟩ := by
  unfold xco at he h ⊢
  have hlt : xag s i = 91 := by
    by_cases c : xag s i = 91
    · exact c
    · rw [if_neg c] at he; simp [It.err] at he
  rw [if_pos hlt] at he h
  rw [if_pos (c := xag s i = 91) hlt]
  by_cases h94 : xag s (i + 1) = 94
  · rw [if_pos h94] at he h
    rw [if_pos (c := xag s (i + 1) = 94) h94]
    by_cases hl : (xbe s (s.size + 2) true xad (i + 2)).e = 0
    · rw [if_neg (by simp [hl])] at h
      rw [if_neg (c := (xbe s (s.size + 2) true xad (i + 2)).e ≠ 0) (by simp [hl])]
      obtain ⟨l1, l2, l3⟩ := xe0 s _ _ _ _ hl
      generalize hL : (xbe s (s.size + 2) true xad (i + 2)).next = n at *
      simp only [] at h ⊢
      rw [show n + 1 - i = (n - i) + 1 from by omega] at h
      have b0 : xag s i = xag s' i' := h.at (by omega) (by omega) (by omega)
      have b1 : xag s (i + 1) = xag s' (i' + 1) := h.at (by omega) (by omega) (by omega)
      have hw := loop_win h (by rw [show i + (n - i) = n from by omega]; exact l2) (s.size + 2) (s'.size + 2) true xad (i + 2) (i' + 2) (by omega) (by omega) (by have := h.2.1; omega) hl (by omega)
      rw [← b0, if_pos hlt, ← b1, if_pos h94, hw]
      simp only []
      rw [if_neg (by simp)]
      congr 1
      omega
    · rw [if_pos hl] at he
      simp only [It.err] at he
      exact absurd he hl
  · rw [if_neg h94] at he h
    rw [if_neg (c := xag s (i + 1) = 94) h94]
    by_cases hl : (xbe s (s.size + 2) true xad (i + 1)).e = 0
    · rw [if_neg (by simp [hl])] at h
      rw [if_neg (c := (xbe s (s.size + 2) true xad (i + 1)).e ≠ 0) (by simp [hl])]
      obtain ⟨l1, l2, l3⟩ := xe0 s _ _ _ _ hl
      generalize hL : (xbe s (s.size + 2) true xad (i + 1)).next = n at *
      simp only [] at h ⊢
      rw [show n + 1 - i = (n - i) + 1 from by omega] at h
      have b0 : xag s i = xag s' i' := h.at (by omega) (by omega) (by omega)
      have b1 : xag s (i + 1) = xag s' (i' + 1) := h.at (by omega) (by omega) (by omega)
      have hw := loop_win h (by rw [show i + (n - i) = n from by omega]; exact l2) (s.size + 2) (s'.size + 2) true xad (i + 1) (i' + 1) (by omega) (by omega) (by have := h.2.1; omega) hl (by omega)
      rw [← b0, if_pos hlt, ← b1, if_neg h94, hw]
      simp only []
      rw [if_neg (by simp)]
      congr 1
      omega
    · rw [if_pos hl] at he
      simp only [It.err] at he
      exact absurd he hl
structure Suf (s s' : ByteArray) (m : Nat) : Prop where
 list : ∃ pre, s'.data.toList = pre ++ s.data.toList ∧ pre.length = m
theorem data_len (s : ByteArray) : s.data.toList.length = s.size := by rw [Array.length_toList]; rfl
theorem byteAt_list (s : ByteArray) (i : Nat) : xag s i = match s.data.toList[i]? with | some b => (b.toNat : Int) | none => -1 := by
 by_cases h : i < s.size
 · have h2 : s.data.toList[i]? = some s[i] := by
    rw [Array.getElem?_toList, Array.getElem?_eq_getElem (show i < s.data.size from h)]
    rfl
   rw [xan h, h2]
 · have h2 : s.data.toList[i]? = none := List.getElem?_eq_none (by rw [data_len]; omega)
   rw [xez (by omega), h2]
theorem Suf.drop {s s' : ByteArray} {m : Nat} (h : Suf s s' m) (i : Nat) : s'.data.toList.drop (m + i) = s.data.toList.drop i := by
 obtain ⟨pre, he, hl⟩ := h.list
 rw [he, ← hl, List.drop_append, List.drop_eq_nil_of_le (by omega), List.nil_append, Nat.add_sub_cancel_left]
theorem Suf.byte {s s' : ByteArray} {m : Nat} (h : Suf s s' m) (i : Nat) : xag s' (m + i) = xag s i := by
 obtain ⟨pre, he, hl⟩ := h.list
 rw [byteAt_list, byteAt_list, he, ← hl, List.getElem?_append_right (by omega), Nat.add_sub_cancel_left]
theorem Suf.size {s s' : ByteArray} {m : Nat} (h : Suf s s' m) : s'.size = m + s.size := by
 obtain ⟨pre, he, hl⟩ := h.list
 have := congrArg List.length he
 rw [data_len, List.length_append, data_len, hl] at this
 exact this
def TkE (t t' : Tk) : Prop := t'.kind = t.kind ∧ t'.q = t.q ∧ t'.grp = t.grp ∧ t'.lo = t.lo ∧ t'.hi = t.hi
theorem ivl_suf {s s' : ByteArray} {m : Nat} (h : Suf s s' m) (i : Nat) (hk : (xbm s i).kind ≠ 0) : TkE (xbm s i) (xbm s' (m + i)) ∧ (xbm s' (m + i)).to = m + (xbm s i).to := by
 unfold xbm at hk ⊢
 rw [show m + i + 2 = m + (i + 2) by omega, h.drop]
 unfold ivlT at hk ⊢
 simp only [] at hk ⊢
 split
 · rename_i c
   exact ⟨⟨rfl, rfl, rfl, rfl, rfl⟩, by show m + i + _ = m + (i + _); omega⟩
 · rename_i c
   rw [if_neg c] at hk
   exact absurd rfl hk
theorem esc_suf {s s' : ByteArray} {m : Nat} (h : Suf s s' m) (i k : Nat) (hk : (xc6 s i k).kind ≠ 0) : TkE (xc6 s i k) (xc6 s' (m + i) k) ∧ (xc6 s' (m + i) k).to = m + (xc6 s i k).to := by
 have hz := h.size
 unfold xc6 at hk ⊢
 by_cases c : i + 1 = s.size
 · rw [if_pos c] at hk
   exact absurd rfl hk
 · rw [if_neg c] at hk ⊢
   rw [if_neg (by omega), show m + i + 1 = m + (i + 1) by omega, h.byte]
   generalize (xag s (i + 1)).toNat = b at hk ⊢
   unfold escB at hk ⊢
   split
   · exact ⟨⟨rfl, rfl, rfl, rfl, rfl⟩, by show m + i + 2 = m + (i + 2); omega⟩
   · rename_i c1
     rw [if_neg c1] at hk
     split
     · exact ⟨⟨rfl, rfl, rfl, rfl, rfl⟩, by show m + i + 2 = m + (i + 2); omega⟩
     · rename_i c2
       rw [if_neg c2] at hk
       split
       · rename_i c3
         rw [if_pos c3] at hk
         exact ivl_suf h i hk
       · rename_i c3
         rw [if_neg c3] at hk
         split
         · rename_i c4
           rw [if_pos c4] at hk
           exact absurd rfl hk
         · split
           · exact ⟨⟨rfl, rfl, rfl, rfl, rfl⟩, by show m + i + 2 = m + (i + 2); omega⟩
           · split
             · exact ⟨⟨rfl, rfl, rfl, rfl, rfl⟩, by show m + i + 2 = m + (i + 2); omega⟩
             · rename_i c4 c5 c6
               rw [if_neg c4, if_neg c5, if_neg c6] at hk
               split
               · rename_i c7
                 rw [if_pos c7] at hk
                 exact absurd rfl hk
               · exact ⟨⟨rfl, rfl, rfl, rfl, rfl⟩, by show m + i + 2 = m + (i + 2); omega⟩
theorem shuts_suf {s s' : ByteArray} {m : Nat} (h : Suf s s' m) (j : Nat) : shuts s' (m + j) = shuts s j := by
 have hz := h.size
 unfold shuts
 rw [xe9, xe9, h.drop]
 congr 1
 exact decide_eq_decide.2 (by omega)
theorem brk_suf {s s' : ByteArray} {m : Nat} (h : Suf s s' m) (i : Nat) (hk : (xcp s i).kind ≠ 0) : TkE (xcp s i) (xcp s' (m + i)) ∧ (xcp s' (m + i)).to = m + (xcp s i).to := by
 have hz := h.size
 have hp : ∀ (x : ByteArray) (j : Nat), xay x (j : Int) = xco x j := fun x j => by rw [xay, if_pos (by omega), Int.toNat_natCast]
 unfold xcp at hk ⊢
 rw [hp] at hk ⊢
 have hp' := hp s' (m + i)
 by_cases he : (xco s i).e ≠ 0
 · rw [if_pos he] at hk
   exact absurd rfl hk
 · have he0 : (xco s i).e = 0 := by omega
   obtain ⟨f1, f2, _, _⟩ := xno he0
   have hw := parse_win (s' := s') (i' := m + i) he0 ⟨by omega, by omega, fun j hj => by rw [Nat.add_assoc, h.byte]⟩
   rw [if_neg he, hp', hw]
   exact ⟨⟨rfl, rfl, rfl, rfl, rfl⟩, by show m + i + ((xco s i).next - i) = m + (xco s i).next; omega⟩
theorem tok_suf {s s' : ByteArray} {m : Nat} (h : Suf s s' m) (i k : Nat) (hk : (tokenT s i k).kind ≠ 0) : TkE (tokenT s i k) (tokenT s' (m + i) k) ∧ (tokenT s' (m + i) k).to = m + (tokenT s i k).to := by
 unfold tokenT at hk ⊢
 rw [h.byte, show m + i + 1 = m + (i + 1) by omega, shuts_suf h]
 split
 · rename_i c
   rw [if_pos c] at hk
   exact esc_suf h i k hk
 · rename_i c
   rw [if_neg c] at hk
   split
   · rename_i c
     rw [if_pos c] at hk
     exact brk_suf h i hk
   · split
     · exact ⟨⟨rfl, rfl, rfl, rfl, rfl⟩, rfl⟩
     · split
       · exact ⟨⟨rfl, rfl, rfl, rfl, rfl⟩, rfl⟩
       · split
         · exact ⟨⟨rfl, rfl, rfl, rfl, rfl⟩, rfl⟩
         · split
           · exact ⟨⟨rfl, rfl, rfl, rfl, rfl⟩, rfl⟩
           · exact ⟨⟨rfl, rfl, rfl, rfl, rfl⟩, rfl⟩
end Go.Proofs.Ytolpakpdkheanaa.br
namespace Go.Proofs.Ytolpakpdkheanaa.tly
open Go.RowKit Go.Proofs.Ytolpakpdkheanaa.br
theorem erL_map : ∀ ts : List Tr, erL ts = ts.map erT
 | [] => rfl
 | t :: ts => by rw [erL, erL_map ts]; rfl
theorem er_cat (ts : List Tr) : erT (catT ts) = .mk 0 xad 0 0 0 (erL ts) := by rw [catT, erT]
theorem er_grp (g : Nat) (ts : List Tr) : erT (xbp g ts) = .mk 4 xad 0 0 0 [.mk 0 xad 0 0 0 (erL ts)] := by rw [xbp, erT, erL, er_cat]; rfl
theorem er_rep (lo hi : Int) (t : Tr) : erT (repT lo hi t) = .mk 5 xad lo hi 0 [erT t] := by rw [repT, erT, erL]; rfl
theorem er_back (g : Nat) : erT (xi6 g) = .mk 6 xad 0 0 0 [] := by rw [xi6, erT]; rfl
def LvQ (pre : List Tr) (l l' : Lv) : Prop := ∃ ts, l'.parts = pre ++ ts ∧ erL ts = erL l.parts
def pf (pre : List Tr) (ls : List Lv) : List Tr := match ls with | [] => pre | _ => []
theorem pf_snoc (pre : List Tr) (ls : List Lv) (l : Lv) : pf pre (ls ++ [l]) = [] := by cases ls <;> rfl
inductive OutQ (pre : List Tr) : List Lv → List Lv → Prop where
 | nil : OutQ pre [] []
 | snoc {ls ls' : List Lv} {l l' : Lv} (h : OutQ pre ls ls') (hl : LvQ (pf pre ls) l l') : OutQ pre (ls ++ [l]) (ls' ++ [l'])
theorem OutQ.inv {pre : List Tr} {xs ys : List Lv} (h : OutQ pre xs ys) : (xs = [] ∧ ys = []) ∨ ∃ ls l ls' l', xs = ls ++ [l] ∧ ys = ls' ++ [l'] ∧ OutQ pre ls ls' ∧ LvQ (pf pre ls) l l' := by
 cases h with
 | nil => exact .inl ⟨rfl, rfl⟩
 | snoc h hl => exact .inr ⟨_, _, _, _, rfl, rfl, h, hl⟩
structure SqR (pre : List Tr) (P P' : Ps) : Prop where
 out : OutQ pre P.outer P'.outer
 top : LvQ (pf pre P.outer) P.top P'.top
theorem LvQ.snoc {pre : List Tr} {l l' : Lv} (h : LvQ pre l l') {x x' : Tr} (hx : erT x' = erT x) {m m' : Lv} (hm : m.parts = l.parts ++ [x]) (hm' : m'.parts = l'.parts ++ [x']) : LvQ pre m m' := by
 obtain ⟨ts, e1, e2⟩ := h
 refine ⟨ts ++ [x'], by rw [hm', e1, List.append_assoc], ?_⟩
 rw [hm]
 simp only [erL_map] at e2 ⊢
 rw [List.map_append, List.map_append, e2, List.map_cons, List.map_cons, hx]
theorem SqR.add {pre : List Tr} {P P' : Ps} (h : SqR pre P P') {x x' : Tr} (hx : erT x' = erT x) (p p' : Int) : SqR pre (P.add x p) (P'.add x' p') := ⟨h.out, h.top.snoc hx rfl rfl⟩
theorem map_split {f : Tr → Tr} {ts a : List Tr} {x : Tr} (h : ts.map f = (a ++ [x]).map f) : ∃ b y, ts = b ++ [y] ∧ b.map f = a.map f ∧ f y = f x := by
 rcases List.eq_nil_or_concat ts with rfl | ⟨b, y, e⟩
 · simp at h
 · subst e
   rw [List.concat_eq_append, List.map_append, List.map_append] at h
   have h2 := List.append_inj' h rfl
   refine ⟨b, y, by rw [List.concat_eq_append], h2.1, ?_⟩
   have h3 := h2.2
   simp only [List.map_cons, List.map_nil, List.cons.injEq, and_true] at h3
   exact h3
theorem take_suf {pre : List Tr} {P P' : Ps} (h : SqR pre P P') {t t' : Tk} (ht : TkE t t') (hk : t.kind ≠ 0) (hk7 : t.kind ≤ 7) (h7 : t.kind = 7 → P.top.parts ≠ []) (h0 : (P.take t).1 = 0) (h0' : (P'.take t').1 = 0) : SqR pre (P.take t).2 (P'.take t').2 := by
 obtain ⟨t1, t2, t3, t4, t5⟩ := ht
 rcases (show t.kind = 1 ∨ t.kind = 2 ∨ t.kind = 3 ∨ t.kind = 4 ∨ t.kind = 5 ∨ t.kind = 6 ∨ t.kind = 7 by omega) with c | c | c | c | c | c | c
 · have e : P'.take t' = (P'.add (byteT t.q) 1).grown := by rw [← t2]; simp only [Ps.take, t1, c]
   have e0 : P.take t = (P.add (byteT t.q) 1).grown := by simp only [Ps.take, c]
   rw [e, e0]
   exact h.add rfl 1 1
 · have e : P'.take t' = (P'.add bolT 0).grown := by simp only [Ps.take, t1, c]
   have e0 : P.take t = (P.add bolT 0).grown := by simp only [Ps.take, c]
   rw [e, e0]
   exact h.add rfl 0 0
 · have e : P'.take t' = (P'.add eolT 0).grown := by simp only [Ps.take, t1, c]
   have e0 : P.take t = (P.add eolT 0).grown := by simp only [Ps.take, c]
   rw [e, e0]
   exact h.add rfl 0 0
 · have e : P'.take t' = if P'.groups = 9 then (4, P') else (0, P'.opened t'.fr) := by simp only [Ps.take, t1, c]
   have e0 : P.take t = if P.groups = 9 then (4, P) else (0, P.opened t.fr) := by simp only [Ps.take, c]
   rw [e] at h0' ⊢
   rw [e0] at h0 ⊢
   by_cases g9 : P'.groups = 9
   · rw [if_pos g9] at h0'; cases h0'
   · by_cases g9' : P.groups = 9
     · rw [if_pos g9'] at h0; cases h0
     · rw [if_neg g9, if_neg g9']
       refine ⟨.snoc h.out h.top, [], ?_, rfl⟩
       show ([] : List Tr) = pf pre (P.outer ++ [P.top]) ++ []
       rw [pf_snoc]; rfl
 · have e : P'.take t' = match P'.outer.getLast? with | none => (10, P') | some l => (0, P'.close P'.outer.dropLast l) := by simp only [Ps.take, t1, c]; rfl
   have e0 : P.take t = match P.outer.getLast? with | none => (10, P) | some l => (0, P.close P.outer.dropLast l) := by simp only [Ps.take, c]; rfl
   rcases h.out.inv with ⟨x, _⟩ | ⟨ls, l, ls', l', x, y, hr2, hl⟩
   · rw [e0, x] at h0
     cases h0
   · have htop := h.top
     rw [x, pf_snoc] at htop
     obtain ⟨ts, e1, e2⟩ := htop
     rw [e, e0, x, y, List.getLast?_concat, List.getLast?_concat, List.dropLast_concat, List.dropLast_concat]
     exact ⟨hr2, hl.snoc (x := xbp P.top.grp P.top.parts) (x' := xbp P'.top.grp P'.top.parts) (by rw [er_grp, er_grp, e1, List.nil_append, e2]) rfl rfl⟩
 · have e : P'.take t' = if P'.shut t.grp then (P'.add (xi6 t.grp) 1).grown else (11, P') := by rw [← t3]; simp only [Ps.take, t1, c]
   have e0 : P.take t = if P.shut t.grp then (P.add (xi6 t.grp) 1).grown else (11, P) := by simp only [Ps.take, c]
   rw [e] at h0' ⊢
   rw [e0] at h0 ⊢
   by_cases x : P'.shut t.grp = true
   · by_cases y : P.shut t.grp = true
     · rw [if_pos x, if_pos y]
       exact h.add rfl 1 1
     · rw [if_neg y] at h0; cases h0
   · rw [if_neg x] at h0'; cases h0'
 · have e : P'.take t' = match P'.top.parts.getLast? with | none => (0, P') | some x => (P'.rep P'.top.parts.dropLast x t.lo t.hi).grown := by rw [← t4, ← t5]; simp only [Ps.take, t1, c]; rfl
   have e0 : P.take t = match P.top.parts.getLast? with | none => (0, P) | some x => (P.rep P.top.parts.dropLast x t.lo t.hi).grown := by simp only [Ps.take, c]; rfl
   obtain ⟨ts, e1, e2⟩ := h.top
   rcases List.eq_nil_or_concat P.top.parts with hn | ⟨init, x, hs⟩
   · exact absurd hn (h7 c)
   · rw [List.concat_eq_append] at hs
     rw [erL_map, erL_map, hs] at e2
     obtain ⟨b, y, rfl, e3, e4⟩ := map_split e2
     rw [← List.append_assoc] at e1
     rw [e, e0, hs, e1]
     simp only [List.getLast?_concat, List.dropLast_concat]
     refine ⟨h.out, b ++ [repT t.lo t.hi y], ?_, ?_⟩
     · show pf pre P.outer ++ b ++ [repT t.lo t.hi y] = pf pre P.outer ++ (b ++ [repT t.lo t.hi y])
       rw [List.append_assoc]
     · show erL (b ++ [repT t.lo t.hi y]) = erL (init ++ [repT t.lo t.hi x])
       rw [erL_map, erL_map, List.map_append, List.map_append, e3, List.map_cons, List.map_cons, er_rep, er_rep, e4]
theorem take_parts {P : Ps} {t : Tk} (hk : t.kind ≠ 0) (hk7 : t.kind ≤ 7) (h7 : t.kind = 7 → P.top.parts ≠ []) (h0 : (P.take t).1 = 0) : t.kind = 4 ∨ (P.take t).2.top.parts ≠ [] := by
 rcases (show t.kind = 1 ∨ t.kind = 2 ∨ t.kind = 3 ∨ t.kind = 4 ∨ t.kind = 5 ∨ t.kind = 6 ∨ t.kind = 7 by omega) with c | c | c | c | c | c | c
 · right
   have e0 : P.take t = (P.add (byteT t.q) 1).grown := by simp only [Ps.take, c]
   rw [e0]; simp [Ps.grown, Ps.add]
 · right
   have e0 : P.take t = (P.add bolT 0).grown := by simp only [Ps.take, c]
   rw [e0]; simp [Ps.grown, Ps.add]
 · right
   have e0 : P.take t = (P.add eolT 0).grown := by simp only [Ps.take, c]
   rw [e0]; simp [Ps.grown, Ps.add]
 · exact .inl c
 · right
   have e0 : P.take t = match P.outer.getLast? with | none => (10, P) | some l => (0, P.close P.outer.dropLast l) := by simp only [Ps.take, c]; rfl
   rw [e0] at h0 ⊢
   cases hl : P.outer.getLast? with
   | none => rw [hl] at h0; cases h0
   | some l => simp [Ps.close, Ps.add]
 · right
   have e0 : P.take t = if P.shut t.grp then (P.add (xi6 t.grp) 1).grown else (11, P) := by simp only [Ps.take, c]
   rw [e0] at h0 ⊢
   by_cases y : P.shut t.grp = true
   · rw [if_pos y]; simp [Ps.grown, Ps.add]
   · rw [if_neg y] at h0; cases h0
 · right
   have e0 : P.take t = match P.top.parts.getLast? with | none => (0, P) | some x => (P.rep P.top.parts.dropLast x t.lo t.hi).grown := by simp only [Ps.take, c]; rfl
   rw [e0]
   cases hl : P.top.parts.getLast? with
   | none => exact absurd (List.getLast?_eq_none_iff.1 hl) (h7 c)
   | some x => simp [Ps.grown, Ps.rep]
theorem take_kind {s : ByteArray} {i k : Nat} (hi : i < s.size) {P : Ps} (h0 : (P.take (tokenT s i k)).1 = 0) : (tokenT s i k).kind ≠ 0 := fun hk => by
 have e : P.take (tokenT s i k) = ((tokenT s i k).e, P) := by simp only [Ps.take, hk]
 rw [e] at h0
 exact (xbf s i k hi).fault hk h0
theorem run_suf {s s' : ByteArray} {m : Nat} (h : Suf s s' m) (pre : List Tr) : ∀ (f f' i k : Nat) (P P' Q Q' : Ps), s.size < i + f → f ≤ f' → SqR pre P P' → (k = 4 ∨ P.top.parts ≠ []) → br.runT s f i k P = .ok Q → br.runT s' f' (m + i) k P' = .ok Q' → SqR pre Q Q'
 | 0, 0, i, k, P, P', Q, Q', hf, _, hR, _, hr, hr' => by
  rw [br.runT] at hr hr'
  injection hr with hr
  injection hr' with hr'
  exact hr ▸ hr' ▸ hR
 | 0, f' + 1, i, k, P, P', Q, Q', hf, _, hR, _, hr, hr' => by
  have hz := h.size
  rw [br.runT.eq_def] at hr hr'
  dsimp only at hr hr'
  rw [if_neg (by omega)] at hr'
  injection hr with hr
  injection hr' with hr'
  exact hr ▸ hr' ▸ hR
 | f + 1, 0, _, _, _, _, _, _, _, hff, _, _, _, _ => by omega
 | f + 1, f' + 1, i, k, P, P', Q, Q', hf, hff, hR, hK, hr, hr' => by
  have hz := h.size
  rw [br.runT] at hr hr'
  by_cases hi : i < s.size
  · rw [if_pos hi] at hr
    rw [if_pos (show m + i < s'.size by omega)] at hr'
    by_cases h0 : (P.take (tokenT s i k)).1 = 0
    · rw [if_pos h0] at hr
      have hk := take_kind hi h0
      have ho := xbf s i k hi
      obtain ⟨hE, hto⟩ := tok_suf h i k hk
      have h7 : (tokenT s i k).kind = 7 → P.top.parts ≠ [] := fun h7 => by
       rcases hK with rfl | hK
       · have := ho.rep h7
         exact absurd this (by decide)
       · exact hK
      by_cases h0' : (P'.take (tokenT s' (m + i) k)).1 = 0
      · rw [if_pos h0', hto, hE.1] at hr'
        have hn := ho.next hk
        exact run_suf h pre f f' _ _ _ _ Q Q' (by omega) (by omega) (take_suf hR hE hk ho.ok.kind h7 h0 h0') (take_parts hk ho.ok.kind h7 h0) hr hr'
      · rw [if_neg h0'] at hr'
        cases hr'
    · rw [if_neg h0] at hr
      cases hr
  · rw [if_neg hi] at hr
    rw [if_neg (show ¬ m + i < s'.size by omega)] at hr'
    injection hr with hr
    injection hr' with hr'
    exact hr ▸ hr' ▸ hR
end Go.Proofs.Ytolpakpdkheanaa.tly
namespace Go.Proofs.Ytolpakpdkheanaa.tly
open Go.RowKit Go.Proofs.Ytolpakpdkheanaa.br
theorem esc_40 (i k : Nat) (iv : Tk) : escB i k 40 iv = escB i 0 40 iv ∧ (escB i k 40 iv).kind = 4 ∧ (escB i k 40 iv).to = i + 2 ∧ (escB i k 40 iv).fr = i := ⟨rfl, rfl, rfl, rfl⟩
theorem tok_open {s : ByteArray} {i : Nat} (h0 : xag s i = 92) (h1 : xag s (i + 1) = 40) (hi : i + 1 < s.size) (k : Nat) : tokenT s i k = escB i 0 40 (xbm s i) := by
 unfold tokenT xc6
 rw [if_pos h0, if_neg (by omega), h1]; rfl
theorem tok_close {s : ByteArray} {i : Nat} (h0 : xag s i = 92) (h1 : xag s (i + 1) = 41) (hi : i + 1 < s.size) (k : Nat) : tokenT s i k = escB i k 41 (xbm s i) := by
 unfold tokenT xc6
 rw [if_pos h0, if_neg (by omega), h1]; rfl
theorem tok_dot {s : ByteArray} {i : Nat} (h0 : xag s i = 46) (k : Nat) : tokenT s i k = ⟨1, i, i + 1, 0, notP xad, 0, 0, 0⟩ := by
 unfold tokenT
 rw [if_neg (by omega), if_neg (by omega), if_pos h0]
def dotB : ByteArray := ⟨#[92, 40, 46, 92, 41]⟩
theorem dot_suf (s : ByteArray) : Suf s (dotB ++ s) 5 := ⟨[92, 40, 46, 92, 41], by rw [ByteArray.data_append, Array.toList_append]; rfl, rfl⟩
theorem dot_byte (s : ByteArray) : xag (dotB ++ s) 0 = 92 ∧ xag (dotB ++ s) 1 = 40 ∧ xag (dotB ++ s) 2 = 46 ∧ xag (dotB ++ s) 3 = 92 ∧ xag (dotB ++ s) 4 = 41 := by
 have e : (dotB ++ s).data.toList = [92, 40, 46, 92, 41] ++ s.data.toList := by rw [ByteArray.data_append, Array.toList_append]; rfl
 refine ⟨?_, ?_, ?_, ?_, ?_⟩ <;> (rw [byteAt_list, e]; rfl)
def dotT : Tr := xbp 1 [byteT (notP xad)]
theorem run_step {s : ByteArray} {f i k : Nat} {P : Ps} {t : Tk} (hi : i < s.size) (ht : tokenT s i k = t) (h0 : (P.take t).1 = 0) : br.runT s (f + 1) i k P = br.runT s f t.to t.kind (P.take t).2 := by
 rw [br.runT, if_pos hi, ht, if_pos h0]
theorem run_k {s : ByteArray} {f i k k' : Nat} {P : Ps} (h : tokenT s i k = tokenT s i k') : br.runT s (f + 1) i k P = br.runT s (f + 1) i k' P := by
 conv => lhs; rw [br.runT]
 conv => rhs; rw [br.runT]
 rw [h]
def tkA : Tk := ⟨4, 0, 2, 0, xad, 0, 0, 0⟩
def tkB : Tk := ⟨1, 2, 3, 0, notP xad, 0, 0, 0⟩
def tkC : Tk := ⟨5, 3, 5, 0, xad, 0, 0, 0⟩
def psA : Ps := (Ps.start.take tkA).2
def psB : Ps := (psA.take tkB).2
def psC : Ps := (psB.take tkC).2
theorem run_dot (s : ByteArray) (f : Nat) : br.runT (dotB ++ s) (f + 3) 0 4 Ps.start = br.runT (dotB ++ s) f 5 5 psC := by
 obtain ⟨b0, b1, b2, b3, b4⟩ := dot_byte s
 have hz := (dot_suf s).size
 rw [run_step (t := tkA) (by omega) (by rw [tok_open b0 b1 (by omega)]; rfl) (by rfl)]
 show br.runT (dotB ++ s) (f + 2) 2 4 psA = _
 rw [run_step (t := tkB) (by omega) (tok_dot b2 4) (by rfl)]
 show br.runT (dotB ++ s) (f + 1) 3 1 psB = _
 rw [run_step (t := tkC) (by omega) (by rw [tok_close b3 b4 (by omega)]; rfl) (by rfl)]
 rfl
theorem sq_dot : SqR [dotT] Ps.start psC := ⟨.nil, [], rfl, rfl⟩
theorem parse_dot {s : ByteArray} (h0 : xag s 0 = 92) (h1 : xag s 1 = 40) (hz : 1 < s.size) {t1 t2 : List Tr} (e1 : parseT (dotB ++ s) = .ok t1) (e2 : parseT s = .ok t2) : erT (catT t1) = erT (catT (dotT :: t2)) := by
 have hsz := (dot_suf s).size
 unfold parseT at e1 e2
 split at e1
 · cases e1
 · split at e2
   · cases e2
   · rw [show (dotB ++ s).size + 1 = (s.size + 3) + 3 by omega, run_dot] at e1
     have hk : br.runT (dotB ++ s) (s.size + 3) 5 5 psC = br.runT (dotB ++ s) (s.size + 3) (5 + 0) 4 psC := by
      have b0 := (dot_suf s).byte 0
      have b1 := (dot_suf s).byte 1
      have t5 : tokenT (dotB ++ s) 5 5 = tokenT (dotB ++ s) (5 + 0) 4 := by
       rw [tok_open (i := 5) (by rw [show (5 : Nat) = 5 + 0 from rfl, b0]; exact h0) (by rw [show 5 + 1 = 5 + 1 from rfl, b1]; exact h1) (by omega) 5, tok_open (i := 5 + 0) (by rw [b0]; exact h0) (by show xag (dotB ++ s) (5 + 1) = 40; rw [b1]; exact h1) (by omega) 4]
      exact run_k t5
     rw [hk] at e1
     cases hr1 : br.runT (dotB ++ s) (s.size + 3) (5 + 0) 4 psC with
     | error x => rw [hr1] at e1; cases e1
     | ok Q1 =>
      cases hr2 : br.runT s (s.size + 1) 0 4 Ps.start with
      | error x => rw [hr2] at e2; cases e2
      | ok Q2 =>
       rw [hr1] at e1
       rw [hr2] at e2
       dsimp only at e1 e2
       have hR := run_suf (dot_suf s) [dotT] (s.size + 1) (s.size + 3) 0 4 _ _ Q2 Q1 (by omega) (by omega) sq_dot (.inl rfl) hr2 hr1
       by_cases o1 : Q1.outer.length = 0
       · by_cases o2 : Q2.outer.length = 0
         · rw [if_pos o1] at e1
           rw [if_pos o2] at e2
           injection e1 with e1
           injection e2 with e2
           have ho : Q2.outer = [] := List.eq_nil_of_length_eq_zero o2
           obtain ⟨ts, e3, e4⟩ := hR.top
           rw [ho] at e3
           have e3' : Q1.top.parts = [dotT] ++ ts := e3
           rw [← e1, ← e2, er_cat, er_cat, e3', erL_map, erL_map, List.map_append, List.map_cons]
           simp only [erL_map] at e4
           rw [e4]; rfl
         · rw [if_neg o2] at e2; cases e2
       · rw [if_neg o1] at e1; cases e1
theorem count_dot {b s : ByteArray} {t1 t2 : List Tr} (e1 : parseT (dotB ++ (⟨#[92, 40]⟩ ++ b)) = .ok t1) (e2 : parseT (⟨#[92, 40]⟩ ++ b) = .ok t2) (i : Nat) :
 (i < s.size → countT (catT t1) (bnS s) i = countT (catT t2) (bnS s) (i + 1)) ∧ countT (catT t1) (bnS s) s.size = 0 := by
 have hl : (⟨#[92, 40]⟩ ++ b : ByteArray).data.toList = [92, 40] ++ b.data.toList := by rw [ByteArray.data_append, Array.toList_append]
 have hz : 1 < (⟨#[92, 40]⟩ ++ b : ByteArray).size := by
  have := data_len (⟨#[92, 40]⟩ ++ b : ByteArray)
  rw [hl] at this
  simp only [List.length_append, List.length_cons, List.length_nil] at this
  omega
 have he := parse_dot (by rw [byteAt_list, hl]; rfl) (by rw [byteAt_list, hl]; rfl) hz e1 e2
 have h2 := two_of (notP xad) 1 t2
 have hok := (lay_ok (catT t2) (ly_parse e2)).1
 have hb : ∀ x ∈ bnS s, x < 256 := fun x hx => by
  obtain ⟨y, _, rfl⟩ := List.mem_map.1 hx
  exact y.toNat_lt
 refine ⟨fun hi => ?_, ?_⟩
 · rw [count_eq he]
   exact ways_two h2 hok (fun b hb => by simp [notP, xad]) hb (by rw [bnS_len]; exact hi)
 · rw [count_eq he]
   have := ways_end h2 hok.ed.len (bnS s)
   rw [bnS_len] at this
   exact this
end Go.Proofs.Ytolpakpdkheanaa.tly
namespace Go.Proofs.Ytolpakpdkheanaa.tly
open Go.RowKit Go.Proofs.Ytolpakpdkheanaa.br
theorem prod_ok (b s : ByteArray) (hs : s.size ≤ 30) {i : Nat} (hi : i ≤ s.size) :
 (countR ((⟨#[92, 40, 46, 92, 41, 92, 40]⟩ ++ b) ++ ⟨#[92, 41]⟩) s (i : Nat)).2 = 0 → (countR ((⟨#[92, 40]⟩ ++ b) ++ ⟨#[92, 41]⟩) s (min (i + 1) s.size : Nat)).2 = 0 →
 (i = s.size → (countR ((⟨#[92, 40, 46, 92, 41, 92, 40]⟩ ++ b) ++ ⟨#[92, 41]⟩) s (i : Nat)).1 = 0) ∧ (i < s.size → (countR ((⟨#[92, 40, 46, 92, 41, 92, 40]⟩ ++ b) ++ ⟨#[92, 41]⟩) s (i : Nat)).1 = (countR ((⟨#[92, 40]⟩ ++ b) ++ ⟨#[92, 41]⟩) s (min (i + 1) s.size : Nat)).1) := by
 have e1 : (⟨#[92, 40, 46, 92, 41, 92, 40]⟩ ++ b) ++ ⟨#[92, 41]⟩ = dotB ++ (⟨#[92, 40]⟩ ++ (b ++ ⟨#[92, 41]⟩)) := by
  rw [ByteArray.append_assoc, ← ByteArray.append_assoc (a := dotB)]; rfl
 have e2 : (⟨#[92, 40]⟩ ++ b) ++ ⟨#[92, 41]⟩ = (⟨#[92, 40]⟩ ++ (b ++ ⟨#[92, 41]⟩) : ByteArray) := ByteArray.append_assoc
 rw [e1, e2]
 generalize b ++ ⟨#[92, 41]⟩ = c
 intro h1 h2
 cases p1 : parseT (dotB ++ (⟨#[92, 40]⟩ ++ c)) with
 | error x =>
  obtain ⟨er, p⟩ := x
  rw [countR_err p1] at h1
  exact absurd h1 (xk9 _ er p p1).1
 | ok t1 =>
  cases p2 : parseT (⟨#[92, 40]⟩ ++ c) with
  | error x =>
   obtain ⟨er, p⟩ := x
   rw [countR_err p2] at h2
   exact absurd h2 (xk9 _ er p p2).1
  | ok t2 =>
   have hd := count_dot (s := s) p1 p2 i
   rw [countR_ok p1 (by omega) hi, countR_ok p2 (by omega) (Nat.min_le_right _ _)]
   refine ⟨fun hl => ?_, fun hl => ?_⟩
   · subst hl
     show ((countT (catT t1) (bnS s) s.size : Nat) : Int) = 0
     rw [hd.2]; rfl
   · show ((countT (catT t1) (bnS s) i : Nat) : Int) = ((countT (catT t2) (bnS s) (min (i + 1) s.size) : Nat) : Int)
     rw [hd.1 hl, Nat.min_eq_left (by omega)]
theorem walk_prods (b s : ByteArray) (hz : b.size + s.size ≤ 1048576) (a2 : Int) (w2 : (Lit.int .u8 a2).wf = true) (W : World) (hg : Glob W) : Calls Try.prog 4 #[.string b, .string s, .int .u8 a2] W fun e w' => e = .returned (.bool true) ∧ Below W.heap.size W w' := by
 obtain ⟨b0, b1⟩ : 0 ≤ a2 ∧ a2 ≤ 255 := bounds_u8 w2
 obtain ⟨n, rfl⟩ := Int.eq_ofNat_of_zero_le b0
 have HA := hideT (awake_w W hg)
 have HG := hideT hg
 clear hg w2 b0
 have i0 : (s.size : Int) ≤ 1048576 := by omega
 go_enter Try.func4, Try.ntmps4
 go_wp2_with fail
 refine HA.out.mono ?_
 rintro e W1 ⟨rfl, hB1⟩
 have HB := hideT hB1
 have HG1 := hideT (HG.out.below hB1 (Nat.le_refl _))
 clear hB1 HA HG
 go_wp2_with fail
 obtain ⟨m, hm, hm30, hms⟩ : ∃ m : Nat, min (s.size : Int) 30 = (m : Int) ∧ m ≤ 30 ∧ m ≤ s.size := ⟨min s.size 30, by omega, by omega, by omega⟩
 obtain ⟨i, hi, him⟩ : ∃ i : Nat, (n : Int) % ((m : Int) + 1) = (i : Int) ∧ i ≤ m := ⟨n % (m + 1), by rw [← Int.natCast_succ]; exact (Int.natCast_emod _ _).symm, by have := Nat.mod_lt n (show 0 < m + 1 by omega); omega⟩
 simp only [hm, Int.toNat_natCast, Nat.min_eq_left hms, hi]
 have hsz : (s.extract 0 m).size = m := by rw [ByteArray.size_extract]; omega
 generalize s.extract 0 m = s1 at *
 have hpr := prod_ok b s1 (by omega) (show i ≤ s1.size by omega)
 have hc1 := count_any ((⟨#[92, 40, 46, 92, 41, 92, 40]⟩ ++ b) ++ ⟨#[92, 41]⟩) s1 (by rw [ByteArray.size_append, ByteArray.size_append]; show 7 + b.size + 2 ≤ _; omega) (by omega) (i : Nat) W1 HG1.out
 have hc2 := fun V hV => count_any ((⟨#[92, 40]⟩ ++ b) ++ ⟨#[92, 41]⟩) s1 (by rw [ByteArray.size_append, ByteArray.size_append]; show 2 + b.size + 2 ≤ _; omega) (by omega) ((min (i + 1) s1.size : Nat) : Int) V hV
 generalize countR ((⟨#[92, 40, 46, 92, 41, 92, 40]⟩ ++ b) ++ ⟨#[92, 41]⟩) s1 (i : Nat) = R1 at *
 generalize countR ((⟨#[92, 40]⟩ ++ b) ++ ⟨#[92, 41]⟩) s1 ((min (i + 1) s1.size : Nat) : Int) = R2 at *
 obtain ⟨n1, er1⟩ := R1
 obtain ⟨n2, er2⟩ := R2
 have HC2 := hideT hc2
 have HPR := hideT (And.intro hpr (And.intro hsz (And.intro him hm30)))
 have k1 : ((min (i + 1) m : Nat) : Int) = min ((i : Int) + 1) (m : Int) := by omega
 have K1 := hideT k1
 clear hc2 hpr hm hms hi k1
 refine hc1.mono ?_
 rintro e w2 ⟨rfl, hb2⟩
 have hG2 := HG1.out.below hb2 (Nat.le_refl _)
 have hc2 := HC2.out w2 hG2
 rw [HPR.out.2.1, K1.out] at hc2
 have HB2 := hideT (HB.out.trans (hb2.mono HB.out.size))
 have j1 : (i : Int) ≤ 30 := by have := HPR.out.2.2; omega
 have j2 : (m : Int) ≤ 30 := by have := HPR.out.2.2; omega
 clear hb2 hc1 HC2 hG2
 go_wp2_with fail
 refine hc2.mono ?_
 rintro e w3 ⟨rfl, hb3⟩
 have HB3 := hideT (HB2.out.trans (hb3.mono HB2.out.size))
 clear hb3 hc2
 by_cases h1 : er1 = 0
 · subst h1
   by_cases h2 : er2 = 0
   · subst h2
     have hP := HPR.out.1 rfl rfl
     by_cases hl : i = m
     · have z1 : n1 = 0 := hP.1 (by rw [HPR.out.2.1]; exact hl)
       have q1 : ((i : Int) == (m : Int)) = true := by rw [beq_iff_eq]; omega
       subst z1
       clear hP hl HPR
       go_wp2
       go_ret
       exact ⟨rfl, HB3.out⟩
     · have z1 : n1 = n2 := hP.2 (by rw [HPR.out.2.1]; omega)
       have q1 : ((i : Int) == (m : Int)) = false := by rw [beq_eq_false_iff_ne]; omega
       subst z1
       have q2 : (n1 == n1) = true := beq_self_eq_true n1
       clear hP hl HPR
       go_wp2
       go_ret
       exact ⟨rfl, HB3.out⟩
   · have q1 : (er2 != 0) = true := by simpa using h2
     have q2 : (er2 == 0) = false := by simpa using h2
     clear HPR h2
     go_wp2
     go_ret
     exact ⟨rfl, HB3.out⟩
 · have q1 : (er1 != 0) = true := by simpa using h1
   have q2 : (er1 == 0) = false := by simpa using h1
   clear HPR h1
   go_wp2
   go_ret
   exact ⟨rfl, HB3.out⟩
end Go.Proofs.Ytolpakpdkheanaa.tly
