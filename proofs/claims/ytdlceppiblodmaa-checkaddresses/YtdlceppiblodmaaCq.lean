/- check: the document's Open. -/
import Derived.Test.YtdlceppiblodmaaCp
namespace Go.Proofs.Ytdlceppiblodmaa
open Go.RowKit
open chkP

/-- The places in the list of the open blocks, the last one first. -/
def idxR : List Cm → Nat → List Nat → List Nat
  | [], _, st => st
  | c :: r, k, st => idxR r (k + 1) (if c.nm = 123 then k :: st else if c.nm = 125 then st.tail else st)
theorem idx_open (all : List Cm) : ∀ (l : List Cm) (k : Nat) (st : List Nat), all.drop k = l → (idxR l k st).map (fun i => (all.getD i (cm 0 0)).pl) = openR l (st.map fun i => (all.getD i (cm 0 0)).pl)
  | [], _, _, _ => rfl
  | c :: r, k, st, h => by
    have hk : k < all.length := by
      apply Classical.byContradiction
      intro hn
      rw [List.drop_of_length_le (by omega)] at h
      cases h
    have h2 : all.drop (k + 1) = r := by
      rw [List.drop_eq_getElem_cons hk] at h
      exact (List.cons.inj h).2
    have h3 : all.getD k (cm 0 0) = c := by
      rw [List.drop_eq_getElem_cons hk] at h
      rw [List.getD_eq_getElem?_getD, List.getElem?_eq_getElem hk]
      exact (List.cons.inj h).1
    rw [idxR, openR, idx_open all r (k + 1) _ h2]
    congr 1
    by_cases h4 : c.nm = 123
    · rw [if_pos h4, if_pos h4, List.map_cons, h3]
    · rw [if_neg h4, if_neg h4]
      by_cases h5 : c.nm = 125
      · rw [if_pos h5, if_pos h5, List.map_tail]
      · rw [if_neg h5, if_neg h5]
theorem idx_lt : ∀ (l : List Cm) (k : Nat) (st : List Nat), (∀ i ∈ st, i < k) → ∀ i ∈ idxR l k st, i < k + l.length
  | [], k, st, h, i, hi => by have := h i hi; rw [List.length_nil]; omega
  | c :: r, k, st, h, i, hi => by
    have := idx_lt r (k + 1) (if c.nm = 123 then k :: st else if c.nm = 125 then st.tail else st) (fun j hj => by
      by_cases h4 : c.nm = 123
      · rw [if_pos h4] at hj
        rcases List.mem_cons.1 hj with rfl | hj
        · omega
        · have := h j hj
          omega
      · rw [if_neg h4] at hj
        by_cases h5 : c.nm = 125
        · rw [if_pos h5] at hj
          have := h j (List.mem_of_mem_tail hj)
          omega
        · rw [if_neg h5] at hj
          have := h j hj
          omega) i hi
    rw [List.length_cons]
    omega
def natsV (l : List Nat) : List Value := l.map fun (i : Nat) => Value.int .i64 (i : Int)
theorem natsV_len (l : List Nat) : (natsV l).length = l.length := by simp [natsV]
theorem natsV_app (l : List Nat) (x : Nat) : natsV (l ++ [x]) = natsV l ++ [.int .i64 (x : Int)] := by simp [natsV]
/-- A row of numbers that is made here. -/
structure NsAt (W wr : World) (v : Value) (l : List Nat) : Prop where
  own : wr.ownsRow W.heap.size 3 1 v l.length (natsV l)
  below : Below W.heap.size W wr
theorem NsAt.shape {W wr : World} {v : Value} {l : List Nat} (h : NsAt W wr v l) : (v = .slice none 0 0 ∧ l = []) ∨ ∃ g c, v = .slice (some ⟨g, 0, none⟩) l.length c ∧ l.length ≤ c := by
  rcases h.own.2 with ⟨h1, h2⟩ | ⟨g, c, _, h1, _, _, h3, _⟩
  · exact .inl ⟨h1, List.eq_nil_of_length_eq_zero h2⟩
  · exact .inr ⟨g, c, h1, h3⟩
theorem append_nat {W w V : World} {ops : Array Oper} {rest : List Oper} {op : Oper} {a : Act} {Q : Exit → Act → World → Prop} (hgd : op.guard = none) (s x : Operand)
    (ho : op.op = .call { callee := .builtin .append, args := #[s, x], argTypes := #[43, 43] })
    (v : Value) (l : List Nat) (t : Nat) (hw : w = V.alloc (.cells #[.int .i64 (t : Int)] 3)) (hs : a.eval s = v) (hA : NsAt W V v l) (hx : a.eval x = .slice (some ⟨V.heap.size, 0, none⟩) 1 1) (hl : l.length ≤ 1000000000)
    (h : ∀ g2 cap w', NsAt W w' (.slice (some ⟨g2, 0, none⟩) (l.length + 1) cap) (l ++ [t]) → wpList Try.prog ops Q rest (a.put op.dst (.slice (some ⟨g2, 0, none⟩) (l.length + 1) cap)) w') : wpList Try.prog ops Q (op :: rest) a w := by
  subst hw
  obtain ⟨i0, hi, hz0, hz1, hz2⟩ := info_parts infoInt
  refine wpList_append_lies _ hgd s x 43 ho W.heap.size 3 i0 _ 1 8 Try.underlying43 hi hz0 hz1 hz2 rfl (by decide) v l.length (natsV l) hs (World.ownsRow.alloc hA.own _) ⟨V.heap.size, 0, none⟩ 1 1 [.int .i64 (t : Int)] hx rfl (World.news_of_block (cs := #[.int .i64 (t : Int)]) (heap_alloc_new V _)) (by simp [Value.oneCell']) (by decide) (by unfold maxLen; omega) (by omega) (by rw [World.size_alloc]; have := hA.below.size; omega) (V.heap.size + 1) (by simp) ?_
  intro g2 cap w' h1 h2 h3 _
  refine h g2 cap w' ⟨?_, ?_⟩
  · rw [List.length_append, List.length_singleton, natsV_app]
    exact h1
  · have h2' : V.grownBy w' v.ownBlock := ⟨h2.os, h2.tape, h2.output, Nat.le_trans (by rw [World.size_alloc]; omega) h2.size, fun k hk hne => (h2.block k (by rw [World.size_alloc]; omega) hne).trans (Below.heap_alloc V _ k hk)⟩
    exact hA.below.trans (below_grown h2' (fun g hg => (hA.own.lt g hg).1) hA.below.size)

set_option maxRecDepth 100000 in
set_option maxHeartbeats 4000000 in
theorem open_any {W : World} {lv : Value} {l : List Cm} (hr : CRow W lv l) (hl : l.length ≤ 100000000) : Calls Try.prog 15 #[lv, .int .i64 (l.length : Nat)] W fun e w' => ∃ v, e = .returned v ∧ NsAt W w' v (idxR l 0 []).reverse := by
  obtain ⟨a, cp, rfl, hrow⟩ := hr
  have HROW := hideT hrow
  clear hrow
  obtain ⟨R, hR⟩ : ∃ R, R = idxR l 0 [] := ⟨_, rfl⟩
  rw [← hR]
  have HR := hideT hR
  clear hR
  go_enter Try.func15, Try.ntmps15
  go_wp2_with fail
  go_loopw [5, 6] (fun lv iv wr => ∃ (k : Nat) (st : List Nat), k ≤ l.length ∧ iv = .int .i64 (k : Nat) ∧ Hid (idxR (l.drop k) k st.reverse = R ∧ st.length ≤ k ∧ NsAt W wr lv st)) (fun _ iv _ => l.length - (intOf iv).toNat)
  case atStart => exact ⟨0, [], Nat.zero_le _, rfl, hideT ⟨HR.out.symm, Nat.le_refl _, World.ownsRow_nil _ _ _ _, Below.refl _ _⟩⟩
  case round =>
    obtain ⟨k, st, hk, rfl, HI⟩ := hrel
    by_cases hlt : k < l.length
    · have i1 : (k : Int) < (l.length : Int) := by omega
      have i2 : (0 : Int) ≤ (k : Int) := by omega
      obtain ⟨g, o, rfl, hcat, _⟩ := HROW.out k _ (List.getElem?_eq_getElem hlt)
      have hst : idxR (l.drop k) k st.reverse = idxR (l.drop (k + 1)) (k + 1) (if (l[k]'hlt).nm = 123 then k :: st.reverse else if (l[k]'hlt).nm = 125 then st.reverse.tail else st.reverse) := by
        rw [List.drop_eq_getElem_cons hlt, idxR]
      generalize (l[k]'hlt) = x at *
      have c8 := (hcat.keep (HI.out.2.2.below.block g hcat.lt)).c8
      have HST := hideT hst
      have HCAT := hideT hcat
      clear hst hcat
      by_cases k1 : x.nm = 123
      · have m1 : ((x.nm.toNat : Int) == 123) = true := by rw [k1]; rfl
        have m2 : ((x.nm.toNat : Int) == 125) = false := ne_byte x.nm 125 (by decide) (by rw [k1]; decide)
        have HST2 := hideT (show idxR (l.drop (k + 1)) (k + 1) (st ++ [k]).reverse = R by rw [← HI.out.1, HST.out, if_pos k1]; simp)
        clear k1
        go_wp2_with (at_builtin; refine append_nat (W := W) (by rfl) _ _ (by rfl) u5 st k rfl (by rfl) HI.out.2.2 (by rfl) (by have := HI.out.2.1; omega) ?_)
        intro g2 cap w2 hA
        have HN := hideT (show idxR (l.drop (k + 1)) (k + 1) (st ++ [k]).reverse = R ∧ (st ++ [k]).length ≤ k + 1 ∧ NsAt W w2 (.slice (some ⟨g2, 0, none⟩) (st.length + 1) cap) (st ++ [k]) from ⟨HST2.out, by have := HI.out.2.1; simp; omega, hA⟩)
        have c8' := (HCAT.out.keep (hA.below.block g HCAT.out.lt)).c8
        clear hA c8
        go_wp2
        exact ⟨⟨k + 1, st ++ [k], by omega, by go_num, HN⟩, by simp [intOf]; omega⟩
      · have m1 : ((x.nm.toNat : Int) == 123) = false := ne_byte x.nm 123 (by decide) k1
        by_cases k2 : x.nm = 125
        · have m2 : ((x.nm.toNat : Int) == 125) = true := by rw [k2]; rfl
          rcases HI.out.2.2.shape with ⟨rfl, rfl⟩ | ⟨g5, c5, rfl, hcap⟩
          · have HN := hideT (show idxR (l.drop (k + 1)) (k + 1) ([] : List Nat).reverse = R ∧ ([] : List Nat).length ≤ k + 1 ∧ NsAt W wr (.slice none 0 0) [] from ⟨by rw [← HI.out.1, HST.out, if_neg k1, if_pos k2]; rfl, Nat.zero_le _, HI.out.2.2⟩)
            clear k1 k2
            go_wp2
            exact ⟨⟨k + 1, [], by omega, by go_num, HN⟩, by simp [intOf]; omega⟩
          · rcases List.eq_nil_or_concat st with rfl | ⟨st1, p1, rfl⟩
            · have HN := hideT (show idxR (l.drop (k + 1)) (k + 1) ([] : List Nat).reverse = R ∧ ([] : List Nat).length ≤ k + 1 ∧ NsAt W wr (.slice (some ⟨g5, 0, none⟩) 0 c5) [] from ⟨by rw [← HI.out.1, HST.out, if_neg k1, if_pos k2]; rfl, Nat.zero_le _, HI.out.2.2⟩)
              clear k1 k2
              simp only [List.length_nil]
              go_wp2
              exact ⟨⟨k + 1, [], by omega, by go_num, HN⟩, by simp [intOf]; omega⟩
            · have hrv : (st1.concat p1).reverse.tail = st1.reverse := by simp
              have HN := hideT (show idxR (l.drop (k + 1)) (k + 1) st1.reverse = R ∧ st1.length ≤ k + 1 ∧ NsAt W wr (.slice (some ⟨g5, 0, none⟩) st1.length c5) st1 from ⟨by rw [← HI.out.1, HST.out, if_neg k1, if_pos k2, hrv], by have := HI.out.2.1; rw [List.length_concat] at this; omega, by
                have h1 := HI.out.2.2.own
                rw [List.concat_eq_append, List.length_append, List.length_singleton, natsV_app] at h1
                exact owns_init h1, HI.out.2.2.below⟩)
              have hlk := HI.out.2.1
              rw [List.length_concat] at hlk hcap
              rw [List.length_concat]
              obtain ⟨M, hM⟩ : ∃ M, M = st1.length := ⟨_, rfl⟩
              have HN2 := hideT (show idxR (l.drop (k + 1)) (k + 1) st1.reverse = R ∧ st1.length ≤ k + 1 ∧ NsAt W wr (.slice (some ⟨g5, 0, none⟩) M c5) st1 by rw [hM]; exact HN.out)
              rw [← hM] at hlk hcap ⊢
              have q0 : (0 : Int) < (M : Int) + 1 := by omega
              have q1 : IntKind.i64.wrap ((M : Int) + 1 - 1) = (M : Int) := by rw [IntKind.wrap_i64]; omega
              have q1' : IntKind.i64.wrap (M : Int) = (M : Int) := by rw [IntKind.wrap_i64]; omega
              have q2 : (0 : Int) ≤ (M : Int) := by omega
              have q3 : (M : Int) ≤ (c5 : Int) := by omega
              clear k1 k2 hrv hcap hlk hM HN
              go_wp2
              exact ⟨⟨k + 1, st1, by omega, by go_num, HN2⟩, by simp [intOf]; omega⟩
        · have m2 : ((x.nm.toNat : Int) == 125) = false := ne_byte x.nm 125 (by decide) k2
          have HN := hideT (show idxR (l.drop (k + 1)) (k + 1) st.reverse = R ∧ st.length ≤ k + 1 ∧ NsAt W wr u5 st from ⟨by rw [← HI.out.1, HST.out, if_neg k1, if_neg k2], by have := HI.out.2.1; omega, HI.out.2.2⟩)
          clear k1 k2
          go_wp2
          exact ⟨⟨k + 1, st, by omega, by go_num, HN⟩, by simp [intOf]; omega⟩
    · obtain rfl : k = l.length := by omega
      have i1 : ((l.length : Int) < (l.length : Int)) = False := by rw [eq_iff_iff, iff_false]; omega
      have HF := hideT (show NsAt W wr u5 R.reverse by
        have h1 := HI.out.1
        rw [List.drop_of_length_le (Nat.le_refl _)] at h1
        rw [← h1]
        show NsAt W wr u5 st.reverse.reverse
        rw [List.reverse_reverse]
        exact HI.out.2.2)
      go_wp2
      go_ret
      exact ⟨_, rfl, HF.out⟩
end Go.Proofs.Ytdlceppiblodmaa
