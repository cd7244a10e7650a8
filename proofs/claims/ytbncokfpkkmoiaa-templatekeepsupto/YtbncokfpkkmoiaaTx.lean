/- template: lists that are appended to others, wherever they lie. -/
import Derived.Test.YtbncokfpkkmoiaaTt
import Derived.Laws.AppendOwn
import Derived.Laws.AppendOwnNone
namespace Go.Proofs.Ytbncokfpkkmoiaa
open Go.RowKit

/-- The cells of spans. -/
def spV : List (Int × Int) → List Value
  | [] => []
  | p :: r => .int .i64 p.1 :: .int .i64 p.2 :: spV r
theorem spV_len (l : List (Int × Int)) : (spV l).length = l.length * 2 := by
  induction l with
  | nil => rfl
  | cons p r ih => simp only [spV, List.length_cons, ih]; omega
theorem spV_app (l m : List (Int × Int)) : spV (l ++ m) = spV l ++ spV m := by
  induction l with
  | nil => rfl
  | cons p r ih => simp only [List.cons_append, spV, ih]
theorem spV_at : ∀ (l : List (Int × Int)) (i : Nat) (p : Int × Int), l[i]? = some p → (spV l)[i * 2]? = some (.int .i64 p.1) ∧ (spV l)[i * 2 + 1]? = some (.int .i64 p.2)
  | [], i, p, h => by simp at h
  | q :: r, 0, p, h => by
    cases h
    exact ⟨rfl, rfl⟩
  | q :: r, i + 1, p, h => by
    have h2 := spV_at r i p (by simpa using h)
    rw [show (i + 1) * 2 = i * 2 + 1 + 1 by omega]
    exact ⟨by simpa [spV] using h2.1, by simpa [spV] using h2.2⟩
theorem SRow.of_owns {W : World} {base : Nat} {v : Value} {l : List (Int × Int)} (h : W.ownsRow base 45 2 v l.length (spV l)) : SRow W v l := by
  rcases h.2 with ⟨rfl, h0⟩ | ⟨g, cap, cur, rfl, hg, hh, hrest⟩
  · exact .inl ⟨List.eq_nil_of_length_eq_zero h0, none, 0, rfl⟩
  · refine .inr ⟨g, 0, cap, rfl, fun i hi => ?_⟩
    have h0 := spV_at l i l[i] (List.getElem?_eq_getElem hi)
    have h1 := h.cells (g := g) rfl (i * 2) _ h0.1
    have h2 := h.cells (g := g) rfl (i * 2 + 1) _ h0.2
    have hplain : ∀ k, (⟨g, 0, none⟩ : Addr).add k = ⟨g, 0 + k, none⟩ := fun k => by unfold Addr.add; split <;> simp_all
    rw [hplain] at h1 h2
    exact ⟨h1, by rw [Nat.add_assoc]; exact h2⟩

theorem info45 : (Try.prog.info? 45).map (fun i => (i.zero, i.size, i.bytes)) = some (some (.agg #[.int .i64 0, .int .i64 0]), 2, 16) := by kernel_rfl
theorem und39 : Try.prog.underlying 39 = some (.slice 45) := by kernel_rfl
theorem ptV_one (l : List Pt) : ∀ u ∈ ptV l, u.oneCell' = true := by
  induction l with
  | nil => simp [ptV]
  | cons p r ih =>
    intro u hu
    rcases List.mem_cons.1 hu with rfl | hu
    · rfl
    · rcases List.mem_cons.1 hu with rfl | hu
      · rfl
      · exact ih u hu
theorem spV_one (l : List (Int × Int)) : ∀ u ∈ spV l, u.oneCell' = true := by
  induction l with
  | nil => simp [spV]
  | cons p r ih =>
    intro u hu
    rcases List.mem_cons.1 hu with rfl | hu
    · rfl
    · rcases List.mem_cons.1 hu with rfl | hu
      · rfl
      · exact ih u hu

theorem pair_news {W : World} {g off n : Nat} {V0 V1 : Nat → Value} {xs : List Value} (hl : xs.length = n * 2) (h : ∀ i, i < n → W.cell? ⟨g, off + i * 2, none⟩ = some (V0 i) ∧ W.cell? ⟨g, off + i * 2 + 1, none⟩ = some (V1 i)) (hx : ∀ i, i < n → xs[i * 2]? = some (V0 i) ∧ xs[i * 2 + 1]? = some (V1 i)) : ∀ j u, xs[j]? = some u → W.cell? ((⟨g, off, none⟩ : Addr).add j) = some u := by
  intro j u hj
  have hplain : (⟨g, off, none⟩ : Addr).add j = ⟨g, off + j, none⟩ := by unfold Addr.add; split <;> simp_all
  have hlt : j < n * 2 := by rw [← hl]; exact (List.getElem?_eq_some_iff.1 hj).1
  rw [hplain]
  rcases Nat.mod_two_eq_zero_or_one j with hm | hm
  · obtain ⟨i, rfl⟩ : ∃ i, j = i * 2 := ⟨j / 2, by omega⟩
    rw [(h i (by omega)).1, ← (hx i (by omega)).1, hj]
  · obtain ⟨i, rfl⟩ : ∃ i, j = i * 2 + 1 := ⟨j / 2, by omega⟩
    rw [← Nat.add_assoc, (h i (by omega)).2, ← (hx i (by omega)).2, hj]

theorem append_parts {w : World} {ops : Array Oper} {rest : List Oper} {o : Oper} {a : Act} {Q : Exit → Act → World → Prop} (hgd : o.guard = none) (s x : Operand)
    (ho : o.op = .call { callee := .builtin .append, args := #[s, x], argTypes := #[22, 22] }) (base : Nat) (v u : Value) (l m : List Pt) (hs : a.eval s = v)
    (hown : w.ownsRow base 48 2 v l.length (ptV l)) (hx : a.eval x = u) (hu : PRow w u m) (hshape : u = .slice none 0 0 ∨ ∃ ad n c, u = .slice (some ad) n c) (hlen : l.length + m.length ≤ 8388608) (hbase : base ≤ w.heap.size)
    (h : ∀ v' w', w'.ownsRow base 48 2 v' (l ++ m).length (ptV (l ++ m)) → w.grownBy w' v.ownBlock → wpList Try.prog ops Q rest (a.put o.dst v') w') : wpList Try.prog ops Q (o :: rest) a w := by
  obtain ⟨i0, hi, hz0, hz1, hz2⟩ := info_parts info48
  rcases hshape with rfl | ⟨ad, n, c, rfl⟩
  · obtain rfl : m = [] := by
      obtain ⟨p, c, e⟩ := hu.shape
      cases hm : m with
      | nil => rfl
      | cons y ys => rw [hm] at e; simp at e
    refine wpList_append_own_none hgd s x 22 ho base 48 i0 2 und22 hi v l.length (ptV l) hs hown hx ?_
    exact h v w (by simpa using hown) ⟨rfl, rfl, rfl, Nat.le_refl _, fun _ _ _ => rfl⟩
  · have hn : n = m.length := by
      obtain ⟨p, c', e⟩ := hu.shape
      cases e
      rfl
    subst hn
    refine wpList_append_own _ hgd s x 22 ho base 48 i0 (.agg #[.int .i64 0, .string ⟨#[]⟩]) 2 24 und22 hi hz0 hz1 hz2 rfl (by decide) v l.length (ptV l) hs hown ad m.length c (ptV m) hx (ptV_len m) ?_ (ptV_one m) (by unfold maxLen; omega) (by omega) hbase ?_
    · rcases hu with ⟨rfl, -⟩ | ⟨g, off, c', e, hc⟩
      · intro j y hj
        simp [ptV] at hj
      · cases e
        refine pair_news (n := m.length) (V0 := fun i => .int .i64 (m[i]?.getD ⟨0, ⟨#[]⟩⟩).g) (V1 := fun i => .string (m[i]?.getD ⟨0, ⟨#[]⟩⟩).t) (ptV_len m) (fun i hi => ?_) (fun i hi => ?_)
        · rw [List.getElem?_eq_getElem hi]
          exact hc i hi
        · rw [List.getElem?_eq_getElem hi]
          exact ptV_at m i m[i] (List.getElem?_eq_getElem hi)
    · intro v' w' h1 h2 _
      exact h v' w' (by rw [List.length_append, ptV_app]; exact h1) h2

theorem append_spans {w : World} {ops : Array Oper} {rest : List Oper} {o : Oper} {a : Act} {Q : Exit → Act → World → Prop} (hgd : o.guard = none) (s x : Operand)
    (ho : o.op = .call { callee := .builtin .append, args := #[s, x], argTypes := #[39, 39] }) (base : Nat) (v u : Value) (l m : List (Int × Int)) (hs : a.eval s = v)
    (hown : w.ownsRow base 45 2 v l.length (spV l)) (hx : a.eval x = u) (hu : SRow w u m) (hshape : u = .slice none 0 0 ∨ ∃ ad n c, u = .slice (some ad) n c) (hlen : l.length + m.length ≤ 8388608) (hbase : base ≤ w.heap.size)
    (h : ∀ v' w', w'.ownsRow base 45 2 v' (l ++ m).length (spV (l ++ m)) → w.grownBy w' v.ownBlock → wpList Try.prog ops Q rest (a.put o.dst v') w') : wpList Try.prog ops Q (o :: rest) a w := by
  obtain ⟨i0, hi, hz0, hz1, hz2⟩ := info_parts info45
  rcases hshape with rfl | ⟨ad, n, c, rfl⟩
  · obtain rfl : m = [] := by
      obtain ⟨p, c, e⟩ := hu.shape
      cases hm : m with
      | nil => rfl
      | cons y ys => rw [hm] at e; simp at e
    refine wpList_append_own_none hgd s x 39 ho base 45 i0 2 und39 hi v l.length (spV l) hs hown hx ?_
    exact h v w (by simpa using hown) ⟨rfl, rfl, rfl, Nat.le_refl _, fun _ _ _ => rfl⟩
  · have hn : n = m.length := by
      obtain ⟨p, c', e⟩ := hu.shape
      cases e
      rfl
    subst hn
    refine wpList_append_own _ hgd s x 39 ho base 45 i0 (.agg #[.int .i64 0, .int .i64 0]) 2 16 und39 hi hz0 hz1 hz2 rfl (by decide) v l.length (spV l) hs hown ad m.length c (spV m) hx (spV_len m) ?_ (spV_one m) (by unfold maxLen; omega) (by omega) hbase ?_
    · rcases hu with ⟨rfl, -⟩ | ⟨g, off, c', e, hc⟩
      · intro j y hj
        simp [spV] at hj
      · cases e
        refine pair_news (n := m.length) (V0 := fun i => .int .i64 (m[i]?.getD (0, 0)).1) (V1 := fun i => .int .i64 (m[i]?.getD (0, 0)).2) (spV_len m) (fun i hi => ?_) (fun i hi => ?_)
        · rw [List.getElem?_eq_getElem hi]
          exact hc i hi
        · rw [List.getElem?_eq_getElem hi]
          exact spV_at m i m[i] (List.getElem?_eq_getElem hi)
    · intro v' w' h1 h2 _
      exact h v' w' (by rw [List.length_append, spV_app]; exact h1) h2

theorem PRow.front {W : World} {g c : Nat} {l m : List Pt} (h : PRow W (.slice (some ⟨g, 0, none⟩) (l ++ m).length c) (l ++ m)) (c' : Nat) : PRow W (.slice (some ⟨g, 0, none⟩) l.length c') l := by
  rcases h with ⟨e, -⟩ | ⟨g', off, c2, e, hc⟩
  · have e2 : l = [] := (List.append_eq_nil_iff.1 e).1
    subst e2
    exact .inl ⟨rfl, _, _, rfl⟩
  · cases e
    refine .inr ⟨g, 0, c', rfl, fun i hi => ?_⟩
    have := hc i (by rw [List.length_append]; omega)
    rw [List.getElem_append_left hi] at this
    exact this
theorem SRow.front {W : World} {g c : Nat} {l m : List (Int × Int)} (h : SRow W (.slice (some ⟨g, 0, none⟩) (l ++ m).length c) (l ++ m)) (c' : Nat) : SRow W (.slice (some ⟨g, 0, none⟩) l.length c') l := by
  rcases h with ⟨e, -⟩ | ⟨g', off, c2, e, hc⟩
  · have e2 : l = [] := (List.append_eq_nil_iff.1 e).1
    subst e2
    exact .inl ⟨rfl, _, _, rfl⟩
  · cases e
    refine .inr ⟨g, 0, c', rfl, fun i hi => ?_⟩
    have := hc i (by rw [List.length_append]; omega)
    rw [List.getElem_append_left hi] at this
    exact this

/-- An own row stays where another block grows. -/
theorem owns_grown {W W' : World} {B e size n : Nat} {v : Value} {xs : List Value} {b : Option Nat} (h : W.ownsRow B e size v n xs) (hg : W.grownBy W' b) (hne : ∀ g, v.ownBlock = some g → b ≠ some g) : W'.ownsRow B e size v n xs :=
  owns_keep h fun g hg' => hg.block g (owns_blk h hg').2.1 (fun e => hne g hg' e.symm)
theorem owns_apart {W : World} {B B' e e' size size' n n' : Nat} {v v' : Value} {xs xs' : List Value} (h : W.ownsRow B e size v n xs) (h' : W.ownsRow B' e' size' v' n' xs') (he : e ≠ e') (g : Nat) (hg : v.ownBlock = some g) : v'.ownBlock ≠ some g := fun e2 => by
  obtain ⟨_, _, cur, h3⟩ := owns_blk h hg
  obtain ⟨_, _, cur', h4⟩ := owns_blk h' e2
  rw [h3] at h4
  cases h4
  exact he rfl
theorem owns_some {W : World} {B e size n : Nat} {v : Value} {xs : List Value} (h : W.ownsRow B e size v n xs) (hn : 0 < n) : ∃ g c, v = .slice (some ⟨g, 0, none⟩) n c ∧ n ≤ c ∧ g < W.heap.size := by
  rcases h.2 with ⟨_, h0⟩ | ⟨g, cap, cur, rfl, _, hh, h3, _⟩
  · omega
  · exact ⟨g, cap, rfl, h3, (Array.getElem?_eq_some_iff.1 hh).1⟩

theorem ptV_put : ∀ (qs : List Pt) (k : Nat) (g : Int) (t : ByteArray), k < qs.length → ((ptV qs).set (k * 2) (.int .i64 g)).set (k * 2 + 1) (.string t) = ptV (qs.set k ⟨g, t⟩)
  | [], k, g, t, h => by simp at h
  | q :: r, 0, g, t, _ => rfl
  | q :: r, k + 1, g, t, h => by
    have h2 := ptV_put r k g t (by simpa using h)
    rw [show (k + 1) * 2 = k * 2 + 1 + 1 by omega]
    simp only [ptV, List.set_cons_succ, h2]

end Go.Proofs.Ytbncokfpkkmoiaa
