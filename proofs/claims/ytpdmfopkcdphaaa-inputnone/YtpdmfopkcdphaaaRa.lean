/- input: the program's queue as it lies: a slice of lines anywhere within its block (Win), and the queue's four cells. -/
import Derived.Test.YtpdmfopkcdphaaaQi
import Derived.ArgAppend
namespace Go.Proofs.Ytpdmfopkcdphaaa
open Go.RowKit

/-- The slice v has the lines l. -/
def Win (W : World) (v : Value) (l : List (List UInt8)) : Prop := (v = .slice none 0 0 ∧ l = []) ∨ ∃ g o cap cur, v = .slice (some ⟨g, o, none⟩) l.length cap ∧ W.heap[g]? = some (.cells cur 9 (0, 0)) ∧ l.length ≤ cap ∧ o + cap ≤ cur.size ∧ ∀ (j : Nat) (t : List UInt8), l[j]? = some t → cur[o + j]? = some (.string ⟨t.toArray⟩)
theorem Win.keep {W W' : World} {v : Value} {l : List (List UInt8)} (h : Win W v l) (hk : ∀ g, v.ownBlock = some g → W'.heap[g]? = W.heap[g]?) : Win W' v l := by
  rcases h with h | ⟨g, o, cap, cur, rfl, hb, h1, h2, h3⟩
  · exact .inl h
  · exact .inr ⟨g, o, cap, cur, rfl, (hk g rfl).trans hb, h1, h2, h3⟩
theorem Win.lt {W : World} {v : Value} {l : List (List UInt8)} (h : Win W v l) {g : Nat} (hg : v.ownBlock = some g) : g < W.heap.size := by
  rcases h with ⟨rfl, _⟩ | ⟨g', o, cap, cur, rfl, hb, _⟩
  · cases hg
  · cases hg
    exact (Array.getElem?_eq_some_iff.1 hb).1
/-- The program's queue at block b. -/
structure IA (W : World) (v : Value) (b : Nat) (q : Qs) : Prop where
  blk : W.heap[b]? = some (.cells #[v, .int .i64 (q.held : Nat), .int .i64 (q.tk : Nat), .bool q.cl] 43 (0, 0))
  win : Win W v (q.fed.drop q.tk)
theorem IA.blt {W : World} {b : Nat} {v : Value} {q : Qs} (h : IA W v b q) : b < W.heap.size := (Array.getElem?_eq_some_iff.1 h.blk).1
theorem IA.ne {W : World} {b : Nat} {v : Value} {q : Qs} (h : IA W v b q) {g : Nat} (hg : v.ownBlock = some g) : g ≠ b := by
  rcases h.win with ⟨rfl, _⟩ | ⟨g', o, cap, cur, rfl, hb, _⟩
  · cases hg
  · cases hg
    intro (e : g' = b)
    have := h.blk
    rw [← e, hb] at this
    injection this with this
    injection this with _ this _
    exact absurd this (by decide)
theorem IA.keep {W W' : World} {b : Nat} {v : Value} {q : Qs} (h : IA W v b q) (hk : ∀ k, foot b v k → W'.heap[k]? = W.heap[k]?) : IA W' v b q :=
  ⟨(hk b (.inl rfl)).trans h.blk, h.win.keep (fun g hg => hk g (.inr hg))⟩
theorem IA.step {W W' : World} {b : Nat} {v : Value} {q : Qs} (h : IA W v b q) (hb : Below W.heap.size W W') : IA W' v b q := h.keep (fun k hk => hb.block k (by rcases hk with rfl | hk; exact h.blt; exact h.win.lt hk))
theorem IA.c0 {W : World} {b : Nat} {v : Value} {q : Qs} (h : IA W v b q) : W.cell? ⟨b, 0, none⟩ = some v ∧ W.frozen? ⟨b, 0, none⟩ = false := by simp [World.cell?, World.frozen?, h.blk]
theorem IA.c1 {W : World} {b : Nat} {v : Value} {q : Qs} (h : IA W v b q) : W.cell? ⟨b, 1, none⟩ = some (.int .i64 (q.held : Nat)) ∧ W.frozen? ⟨b, 1, none⟩ = false := by simp [World.cell?, World.frozen?, h.blk]
theorem IA.c2 {W : World} {b : Nat} {v : Value} {q : Qs} (h : IA W v b q) : W.cell? ⟨b, 2, none⟩ = some (.int .i64 (q.tk : Nat)) ∧ W.frozen? ⟨b, 2, none⟩ = false := by simp [World.cell?, World.frozen?, h.blk]
theorem IA.c3 {W : World} {b : Nat} {v : Value} {q : Qs} (h : IA W v b q) : W.cell? ⟨b, 3, none⟩ = some (.bool q.cl) ∧ W.frozen? ⟨b, 3, none⟩ = false := by simp [World.cell?, World.frozen?, h.blk]
/-- Its list. -/
theorem IA.shape {W : World} {b : Nat} {v : Value} {q : Qs} (h : IA W v b q) : ∃ a cp, v = .slice a q.wait cp := by
  rcases h.win with ⟨rfl, h0⟩ | ⟨g, o, cap, cur, rfl, _⟩
  · refine ⟨none, 0, ?_⟩
    have := congrArg List.length h0
    rw [List.length_drop, List.length_nil] at this
    unfold Qs.wait
    rw [this]
  · exact ⟨_, cap, by unfold Qs.wait; rw [List.length_drop]⟩
def I0 (W : World) (F : Nat → Prop) (b : Nat) (q : Qs) : Prop := ∃ v, IA W v b q ∧ F = foot b v
theorem i0_keep {W W' : World} {F : Nat → Prop} {b : Nat} {q : Qs} (h : I0 W F b q) (_ : W.heap.size ≤ W'.heap.size) (hk : ∀ k, F k → W'.heap[k]? = W.heap[k]?) : I0 W' F b q := by
  obtain ⟨v, h, rfl⟩ := h
  exact ⟨v, h.keep hk, rfl⟩
theorem i0_lt {W : World} {F : Nat → Prop} {b : Nat} {q : Qs} (h : I0 W F b q) : ∀ k, F k → k < W.heap.size := by
  obtain ⟨v, h, rfl⟩ := h
  rintro k (rfl | hk)
  · exact h.blt
  · exact h.win.lt hk

/-- append of a line onto a list that lies anywhere within its block. -/
theorem append_win {w : World} (v : Value) (l : List (List UInt8)) (hw : Win w v l) (ad : Addr) (s : ByteArray) (hs : w.cell? ad = some (.string s)) (hl : l.length ≤ 100000000) (ty : TypeId) :
    ∃ g o cap w', (Builtin.append_ #[26, 26] ty #[v, .slice (some ad) 1 1]).run Try.prog w = .ok (.slice (some ⟨g, o, none⟩) (l.length + 1) cap) w' ∧ Win w' (.slice (some ⟨g, o, none⟩) (l.length + 1) cap) (l ++ [s.data.toList]) ∧ w.grownBy w' v.ownBlock ∧ (v.ownBlock = some g ∨ w.heap.size ≤ g) := by
  obtain ⟨i0, hi, hz0, hz1, hz2⟩ := info_parts infoStr
  have hnews : ∀ (j : Nat) (u : Value), [Value.string s][j]? = some u → w.cell? (ad.add j) = some u := by
    intro j u hj
    cases j with
    | zero =>
      have hadd : ad.add 0 = ad := by unfold Addr.add; split <;> simp_all
      rw [hadd]
      simp at hj
      rw [hs, hj]
    | succ j => simp at hj
  have grown : ∀ (v' : Value) (w' : World), w'.ownsRow w.heap.size 9 1 v' (l.length + 1) (strV l ++ [.string s]) → ∃ g o cap, v' = .slice (some ⟨g, o, none⟩) (l.length + 1) cap ∧ Win w' v' (l ++ [s.data.toList]) ∧ w.heap.size ≤ g := by
    intro v' w' ho
    rcases ho.2 with ⟨_, h0⟩ | ⟨g, cap, cur, rfl, hb, hh, h1, h2, h3, h4⟩
    · omega
    · refine ⟨g, 0, cap, rfl, .inr ⟨g, 0, cap, cur, by rw [List.length_append, List.length_singleton], hh, by rw [List.length_append, List.length_singleton]; exact h1, by omega, fun j t ht => ?_⟩, hb⟩
      rw [← strV_app] at h4
      rw [Nat.zero_add, ← Array.getElem?_toList]
      have h5 : (strV (l ++ [s.data.toList]))[j]? = some (.string ⟨t.toArray⟩) := by rw [strV, List.getElem?_map, ht]; rfl
      rw [← h4, List.getElem?_take] at h5
      split at h5
      · exact h5
      · cases h5
  rcases hw with ⟨rfl, rfl⟩ | ⟨g, o, cap, cur, rfl, hh, h1, h2, h3⟩
  · obtain ⟨v', w', hr, h2, h3, _⟩ := run_append_own (P := Try.prog) w w.heap.size 26 ty 9 i0 (.string ⟨#[]⟩) 1 16 Try.underlying26 hi hz0 hz1 hz2 rfl (by omega) (.slice none 0 0) 0 [] (World.ownsRow_nil w _ _ _) ad 1 1 [.string s] (by rfl) hnews (by simp [Value.oneCell']) (by decide) (by decide) (Nat.le_refl _)
    obtain ⟨g, o, cap, rfl, hW, hg⟩ := grown v' w' h2
    exact ⟨g, o, cap, w', hr, hW, h3, .inr hg⟩
  · by_cases hroom : l.length + 1 ≤ cap
    · have hin : o + l.length < cur.size := by omega
      have hr := run_append_room_cells (P := Try.prog) w 26 ty 9 i0 Try.underlying26 hi g o l.length cap ad 1 1 [.string s] (by rw [hz1]; rfl) hnews (by simp [Value.oneCell']) hroom
        (fun j hj => by
          obtain rfl : j = 0 := by simp at hj; exact hj
          rw [hz1]
          simp [World.cell?, hh, hin])
        (fun j hj => by simp [World.frozen?, hh])
      rw [hz1, Nat.mul_one] at hr
      have hset : w.setCells g (o + l.length) [.string s] = w.setCell ⟨g, o + l.length, none⟩ (.string s) := by simp [World.setCells]
      rw [hset] at hr
      refine ⟨g, o, cap, _, hr, .inr ⟨g, o, cap, _, by rw [List.length_append, List.length_singleton], put_same _ _ _ _ hh, by rw [List.length_append, List.length_singleton]; exact hroom, by rw [Array.size_setIfInBounds]; exact h2, fun j t ht => ?_⟩, ⟨rfl, rfl, rfl, by rw [put_size]; exact Nat.le_refl _, fun k hk hn => put_far _ _ _ _ (fun e => hn (by rw [e]; rfl))⟩, .inl rfl⟩
      rw [Array.getElem?_setIfInBounds]
      by_cases hj : j < l.length
      · rw [if_neg (by omega)]
        rw [List.getElem?_append_left hj] at ht
        exact h3 j t ht
      · have hj2 := (List.getElem?_eq_some_iff.1 ht).1
        rw [List.length_append, List.length_singleton] at hj2
        obtain rfl : j = l.length := by omega
        rw [if_pos rfl, if_pos hin]
        rw [List.getElem?_append_right (Nat.le_refl _), Nat.sub_self] at ht
        simp at ht
        rw [← ht]
    · obtain ⟨v', w', hr, h5, h6⟩ := run_append_arg_grows (P := Try.prog) w 26 ty 9 i0 (.string ⟨#[]⟩) 1 16 Try.underlying26 hi hz0 hz1 hz2 rfl (by omega) ⟨g, o, none⟩ l.length cap (strV l) (by rw [strV_len, Nat.mul_one]) (fun j u hu => by
          have hadd : (⟨g, o, none⟩ : Addr).add j = ⟨g, o + j, none⟩ := by unfold Addr.add; split <;> simp_all
          rw [hadd]
          rw [strV, List.getElem?_map] at hu
          cases ht : l[j]? with
          | none => rw [ht] at hu; cases hu
          | some t =>
            rw [ht] at hu
            cases hu
            simp [World.cell?, hh, h3 j t ht]) ad 1 1 [.string s] (by rfl) hnews (by omega) (by unfold maxLen; omega) (by omega)
      obtain ⟨g2, o2, cap2, rfl, hW, hg⟩ := grown v' w' h5
      exact ⟨g2, o2, cap2, w', hr, hW, ⟨h6.os, h6.tape, h6.output, h6.size, fun k hk _ => h6.block k hk (by simp)⟩, .inr hg⟩
end Go.Proofs.Ytpdmfopkcdphaaa
