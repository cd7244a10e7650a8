/- store: lists of files that are copied, written and added to, beside both stores. -/
import Derived.Test.YtbibfpgcnmocjaaSy
namespace Go.Proofs.Ytbibfpgcnmocjaa
open Go.RowKit

def tI (l : List (ByteArray × ByteArray)) : List It := l.map fun x => (x.1.data.toList, x.2.data.toList)
theorem tI_len (l : List (ByteArray × ByteArray)) : (tI l).length = l.length := by simp [tI]
theorem tI_back (l : List (ByteArray × ByteArray)) : (tI l).map bFl = l := by
  unfold tI
  rw [List.map_map]
  conv => rhs; rw [← List.map_id l]
  apply List.map_congr_left
  intro x _
  show ((⟨x.1.data.toList.toArray⟩ : ByteArray), (⟨x.2.data.toList.toArray⟩ : ByteArray)) = x
  rw [arr_list, arr_list]
theorem flV_one : ∀ (l : List It) (u : Value), u ∈ flV l → u.oneCell' = true
  | [], u, h => by cases h
  | x :: r, u, h => by
    simp only [flV, List.mem_cons] at h
    rcases h with rfl | rfl | h
    · rfl
    · rfl
    · exact flV_one r u h
theorem flV_of : ∀ (l : List It) (j : Nat) (u : Value), (flV l)[j]? = some u → ∃ (k : Nat) (x : It), l[k]? = some x ∧ ((j = k * 2 ∧ u = .string ⟨x.1.toArray⟩) ∨ (j = k * 2 + 1 ∧ u = .string ⟨x.2.toArray⟩))
  | [], j, u, h => by simp [flV] at h
  | x :: r, 0, u, h => by
    simp [flV] at h
    exact ⟨0, x, rfl, .inl ⟨rfl, h.symm⟩⟩
  | x :: r, 1, u, h => by
    simp [flV] at h
    exact ⟨0, x, rfl, .inr ⟨rfl, h.symm⟩⟩
  | x :: r, j + 2, u, h => by
    obtain ⟨k, y, hk, hy⟩ := flV_of r j u (by simpa [flV] using h)
    refine ⟨k + 1, y, by simpa using hk, ?_⟩
    rcases hy with ⟨h1, h2⟩ | ⟨h1, h2⟩
    · exact .inl ⟨by omega, h2⟩
    · exact .inr ⟨by omega, h2⟩
/-- A list that was handed in, copied. -/
theorem copy_run {V : World} {v : Value} {l : List (ByteArray × ByteArray)} (hv : FRow V v l) (hl : l.length ≤ 1048576) (ty : TypeId) : ∃ u w', (Builtin.append_ #[22, 22] ty #[.slice none 0 0, v]).run Try.prog V = .ok u w' ∧ w'.ownsRow V.heap.size 52 2 u l.length (flV (tI l)) ∧ Below V.heap.size V w' := by
  obtain ⟨i0, hi, hz0, hz1, hz2⟩ := info_parts infoFl
  obtain ⟨a, cp, rfl, hc⟩ := hv
  cases a with
  | none =>
    have h0 : l = [] := by
      cases l with
      | nil => rfl
      | cons x r =>
        obtain ⟨g, o, h, _⟩ := hc 0 x rfl
        cases h
    subst h0
    refine ⟨.slice none 0 0, V, ?_, World.ownsRow_nil _ _ _ _, Below.refl _ _⟩
    simp [Builtin.append_, run_underlying Try.underlying22, sizeOf, typeInfo, hi, Builtin.lenOf, Builtin.firstCells]
  | some ad =>
    obtain ⟨u, w', hr, ho, hg, _, h5⟩ := run_append_own_at (P := Try.prog) V V.heap.size 22 ty 52 i0 _ 2 32 Try.underlying22 hi hz0 hz1 hz2 rfl (by decide) (.slice none 0 0) 0 [] (World.ownsRow_nil _ _ _ _) ad l.length cp (flV (tI l)) (by rw [flV_len, tI_len]) (fun j u hu => by
      obtain ⟨k, x, hk, hx⟩ := flV_of _ j u hu
      unfold tI at hk
      rw [List.getElem?_map] at hk
      obtain ⟨y, hy, rfl⟩ := Option.map_eq_some_iff.1 hk
      obtain ⟨g, o, h, c1, c2⟩ := hc k y hy
      cases h
      have hadd : (⟨g, o, none⟩ : Addr).add j = ⟨g, o + j, none⟩ := by unfold Addr.add; split <;> simp_all
      rw [hadd]
      rcases hx with ⟨rfl, rfl⟩ | ⟨rfl, rfl⟩
      · rw [arr_list]
        exact c1
      · rw [arr_list, ← Nat.add_assoc]
        exact c2) (flV_one _) (by unfold maxLen; omega) (by omega) (Nat.le_refl _)
    refine ⟨u, w', hr, ?_, ?_⟩
    · simpa only [Nat.zero_add, List.nil_append] using ho
    · exact (Tch.grown (F := fun _ => False) hg (fun g hg => by cases hg)).below (fun k hk => hk.elim) (Nat.le_refl _)
/-- Files that lie in a block, added to a list of one's own. -/
theorem more_run {V : World} {B n : Nat} {u : Value} {xs : List Value} (h : V.ownsRow B 52 2 u n xs) (hB : B ≤ V.heap.size) {eb m c : Nat} {cs : Array Value} (ys : List It) (he : V.heap[eb]? = some (.cells cs 52 (0, 0))) (hcs : cs.toList = flV ys) (hm : ys.length = m) (hp : 0 < m) (hl : n + m ≤ 2000000) (ty : TypeId) :
    ∃ g cap w', (Builtin.append_ #[22, 22] ty #[u, .slice (some ⟨eb, 0, none⟩) m c]).run Try.prog V = .ok (.slice (some ⟨g, 0, none⟩) (n + m) cap) w' ∧ w'.ownsRow B 52 2 (.slice (some ⟨g, 0, none⟩) (n + m) cap) (n + m) (xs ++ flV ys) ∧ Tch (fun k => u.ownBlock = some k) V w' ∧ (u.ownBlock = some g ∨ g = V.heap.size) ∧ g < w'.heap.size := by
  obtain ⟨i0, hi, hz0, hz1, hz2⟩ := info_parts infoFl
  obtain ⟨g, cap, w', hr, ho, hg, h3, h4⟩ := run_append_lies (P := Try.prog) V 22 ty B 52 i0 _ 2 32 Try.underlying22 hi hz0 hz1 hz2 rfl (by decide) u n xs h ⟨eb, 0, none⟩ m c (flV ys) (by rw [flV_len, hm]) (by rw [← hcs]; exact World.news_of_block he) (flV_one _) hp (by unfold maxLen; omega) (by omega) hB V.heap.size rfl
  exact ⟨g, cap, w', hr, ho, Tch.grown hg (fun g hg => hg), h3, h4⟩
section
variable {W0 W W' : World} {b d : Nat} {S S' : Sr} {Q Q' F : Nat → Prop}
/-- Blocks of Q were written, others were made. -/
theorem Bo.grow (h : Bo W0 W b d S S' Q) (ht : Tch F W W') (hF : ∀ k, F k → Q k ∧ W0.heap.size ≤ k) (hQ : ∀ k, Q' k → (Q k ∨ W.heap.size ≤ k) ∧ k < W'.heap.size) : Bo W0 W' b d S S' Q' := by
  obtain ⟨lv, ov, ⟨G, hI, h0, hG, hP⟩, hD, hA⟩ := h
  refine ⟨lv, ov, ⟨G, hI.keep (fun k hk => ht.block k (hI.lt k hk) (fun hf => (hG k hk).2 (.inr (hF k hf).1))), below_of_tch h0 ht (fun k hk => (hF k hk).2), fun k hk => ⟨(hG k hk).1, fun hp => ?_⟩, fun k hk => ?_⟩, hD.keep (fun k hk => ht.block k (hD.lt hk).2 (fun hf => hA k (hF k hf).1 hk)), fun k hk hd => ?_⟩
  · rcases hp with hp | hp
    · exact (hG k hk).2 (.inl hp)
    · rcases (hQ k hp).1 with h | h
      · exact (hG k hk).2 (.inr h)
      · have := hI.lt k hk
        omega
  · rcases hk with hk | hk
    · exact Nat.lt_of_lt_of_le (hD.lt hk).2 ht.size
    · exact (hQ k hk).2
  · rcases (hQ k hk).1 with h | h
    · exact hA k h hd
    · have := (hD.lt hd).2
      omega
/-- From an elder world. -/
theorem Bo.elder {w : World} (h : Bo W0 W b d S S' (fun _ => False)) (hb : Below w.heap.size w W0) : Bo w W b d S S' (fun k => w.heap.size ≤ k ∧ k < W0.heap.size) := by
  obtain ⟨lv, ov, ⟨G, hI, h0, hG, hP⟩, hD, hA⟩ := h
  have hs := hb.size
  refine ⟨lv, ov, ⟨G, hI, hb.trans (h0.mono hs), fun k hk => ⟨Nat.le_trans hs (hG k hk).1, fun hp => ?_⟩, fun k hk => ?_⟩, hD.base hs, fun k hk hd => ?_⟩
  · rcases hp with hp | hp
    · exact (hG k hk).2 (.inl hp)
    · have := (hG k hk).1
      omega
  · rcases hk with hk | hk
    · exact (hD.lt hk).2
    · have := h0.size
      omega
  · have := (hD.lt hd).1
    omega
theorem Bo.files (h : Bo W0 W b d S S Q) (ho : SOk S) : Calls Try.prog 16 #[ptrV b] W fun e w' => ∃ v, e = .returned v ∧ w'.ownsRow W.heap.size 52 2 v S.fs.length (flV (itF S.fs)) ∧ Bo W0 w' b d S S (fun k => Q k ∨ v.ownBlock = some k) ∧ Stay Q W w' := by
  obtain ⟨lv, ov, hF, hD, hQ⟩ := h
  refine (hF.files ho).mono ?_
  rintro e w' ⟨v, rfl, hr, h1, h2⟩
  rw [items_len] at hr
  refine ⟨v, rfl, hr, ⟨lv, ov, h1.less (fun k hk => ?_), hD.keep (fun k hk => h2 k (.inl hk)), fun k hk hd => ?_⟩, fun k hk => h2 k (.inr hk)⟩
  · rcases hk with hk | hk | hk
    · exact .inl (.inl hk)
    · exact .inl (.inr hk)
    · exact .inr hk
  · rcases hk with hk | hk
    · exact hQ k hk hd
    · have := (row_in hr hk).1
      have := (hD.lt hd).2
      omega
end
/-- A cell of a list of one's own, to be written. -/
theorem row_cell {W : World} {B n g cap : Nat} {xs : List Value} (h : W.ownsRow B 52 2 (.slice (some ⟨g, 0, none⟩) n cap) n xs) {j : Nat} (hj : j < n * 2) : (∃ u, W.cell? ⟨g, j, none⟩ = some u) ∧ W.frozen? ⟨g, j, none⟩ = false := by
  have hc := h.cellAt j hj
  have hlen : xs.length = n * 2 := h.1
  rw [List.getElem?_eq_getElem (by omega)] at hc
  refine ⟨⟨_, hc⟩, ?_⟩
  obtain ⟨cur, hh⟩ := row_type h rfl
  simp [World.frozen?, hh]
end Go.Proofs.Ytbibfpgcnmocjaa
