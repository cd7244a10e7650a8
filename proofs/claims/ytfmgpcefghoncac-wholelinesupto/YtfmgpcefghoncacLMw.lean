/- A text is its lines and their newlines: the mathematics of WholeLines. -/
import Derived.Test.YtfmgpcefghoncacLNum
namespace Go.Proofs.Ytfmgpcefghoncac

def joinL (l : List (List UInt8)) : List UInt8 := (l.map fun x => x ++ [10]).flatten

theorem joinL_snoc (l : List (List UInt8)) (x : List UInt8) : joinL (l ++ [x]) = joinL l ++ x ++ [10] := by simp [joinL]
theorem joinL_take (l : List (List UInt8)) (k : Nat) (h : k < l.length) : joinL (l.take (k + 1)) = joinL (l.take k) ++ l[k] ++ [10] := by
  rw [List.take_succ_eq_append_getElem h, joinL_snoc]
theorem joinL_take_le (l : List (List UInt8)) (k : Nat) : (joinL (l.take k)).length ≤ (joinL l).length := by
  have h : joinL l = joinL (l.take k) ++ joinL (l.drop k) := by
    unfold joinL
    rw [← List.flatten_append, ← List.map_append, List.take_append_drop]
  rw [h, List.length_append]
  omega

theorem cutGo_noline (x : List UInt8) : ∀ (cur r : List UInt8), 10 ∉ x → cutGo cur (x ++ r) = cutGo (cur ++ x) r := by
  induction x with
  | nil => intro cur r _; simp
  | cons b x ih =>
    intro cur r h
    have hb : b ≠ 10 := fun e => h (by simp [e])
    rw [List.cons_append, cutGo_byte _ _ _ hb, ih _ _ (fun e => h (List.mem_cons_of_mem _ e))]
    simp

theorem cut_join (l : List (List UInt8)) (h : ∀ x ∈ l, (10 : UInt8) ∉ x) : cutL (joinL l) = l := by
  induction l with
  | nil => simp [joinL, cutL, cutGo]
  | cons x r ih =>
    have e : joinL (x :: r) = x ++ (10 :: joinL r) := by simp [joinL]
    rw [e, cutL, cutGo_noline x [] _ (h x (by simp)), List.nil_append, cutGo_line, ih (fun y hy => h y (List.mem_cons_of_mem _ hy))]

theorem cutL_ne {l : List UInt8} (h : l ≠ []) : cutL l ≠ [] := by rw [cutL_split l h]; simp

theorem cut_one_line (x : List UInt8) (h : (cutL (x ++ [120])).length = 1) : (10 : UInt8) ∉ x := by
  intro hm
  obtain ⟨a, b, rfl, ha⟩ := List.eq_append_cons_of_mem hm
  rw [cutL, List.append_assoc, List.cons_append, cutGo_noline a [] _ ha, List.nil_append, cutGo_line, List.length_cons] at h
  have h2 : cutL (b ++ [120]) ≠ [] := cutL_ne (by simp)
  have h3 : (cutL (b ++ [120])).length = 0 := by omega
  exact h2 (List.eq_nil_of_length_eq_zero h3)

theorem joinL_cons (x : List UInt8) (r : List (List UInt8)) : joinL (x :: r) = x ++ [10] ++ joinL r := by simp [joinL]

theorem join_cutGo (t : List UInt8) : ∀ cur, joinL (cutGo cur t) = if (t = [] ∧ cur = []) ∨ t.getLast? = some 10 then cur ++ t else cur ++ t ++ [10] := by
  induction t with
  | nil =>
    intro cur
    rw [cutGo_end]
    by_cases h : cur = []
    · simp [h, joinL]
    · simp [h, joinL]
  | cons b r ih =>
    intro cur
    by_cases hb : b = 10
    · subst hb
      rw [cutGo_line, joinL_cons, cutL, ih]
      have e : ((r = [] ∧ ([] : List UInt8) = []) ∨ r.getLast? = some 10) ↔ ((10 :: r : List UInt8) = [] ∧ cur = []) ∨ (10 :: r : List UInt8).getLast? = some 10 := by
        cases r with
        | nil => simp
        | cons c r => simp
      by_cases hc : (r = [] ∧ ([] : List UInt8) = []) ∨ r.getLast? = some 10
      · rw [if_pos hc, if_pos (e.1 hc)]; simp
      · rw [if_neg hc, if_neg (fun x => hc (e.2 x))]; simp
    · rw [cutGo_byte _ _ _ hb, ih]
      have e : ((r = [] ∧ cur ++ [b] = []) ∨ r.getLast? = some 10) ↔ ((b :: r : List UInt8) = [] ∧ cur = []) ∨ (b :: r : List UInt8).getLast? = some 10 := by
        cases r with
        | nil => simp [hb]
        | cons c r => simp
      by_cases hc : (r = [] ∧ cur ++ [b] = []) ∨ r.getLast? = some 10
      · rw [if_pos hc, if_pos (e.1 hc)]; simp
      · rw [if_neg hc, if_neg (fun x => hc (e.2 x))]; simp

theorem join_cut (t : List UInt8) : joinL (cutL t) = if t = [] ∨ t.getLast? = some 10 then t else t ++ [10] := by
  rw [cutL, join_cutGo]
  simp

theorem cutGo_app (a : List UInt8) : ∀ (cur b : List UInt8), cutGo cur (a ++ 10 :: b) = cutGo cur (a ++ [10]) ++ cutL b := by
  induction a with
  | nil => intro cur b; simp only [List.nil_append]; rw [cutGo_line, cutGo_line]; simp [cutL, cutGo]
  | cons x a ih =>
    intro cur b
    by_cases hx : x = 10
    · subst hx
      simp only [List.cons_append]
      rw [cutGo_line, cutGo_line, cutL, ih]
      rfl
    · simp only [List.cons_append]
      rw [cutGo_byte _ _ _ hx, cutGo_byte _ _ _ hx, ih]

theorem cut_split (a b : List UInt8) : cutL (a ++ 10 :: b) = cutL (a ++ [10]) ++ cutL b := cutGo_app a [] b

theorem cutGo_mem (t : List UInt8) : ∀ cur, (10 : UInt8) ∉ cur → ∀ x ∈ cutGo cur t, (10 : UInt8) ∉ x := by
  induction t with
  | nil =>
    intro cur hc x hx
    rw [cutGo_end] at hx
    split at hx
    · cases hx
    · rw [List.mem_singleton.1 hx]; exact hc
  | cons b r ih =>
    intro cur hc x hx
    by_cases hb : b = 10
    · subst hb
      rw [cutGo_line] at hx
      rcases List.mem_cons.1 hx with rfl | hx
      · exact hc
      · exact ih [] (by simp) x hx
    · rw [cutGo_byte _ _ _ hb] at hx
      exact ih _ (by simp only [List.mem_append, List.mem_singleton]; rintro (h | h); exact hc h; exact hb h.symm) x hx

theorem cutL_mem (t : List UInt8) : ∀ x ∈ cutL t, (10 : UInt8) ∉ x := cutGo_mem t [] (by simp)

theorem count_join (l : List (List UInt8)) (h : ∀ x ∈ l, (10 : UInt8) ∉ x) : (joinL l).count 10 = l.length := by
  induction l with
  | nil => simp [joinL]
  | cons x r ih =>
    rw [joinL_cons, List.count_append, List.count_append, ih (fun y hy => h y (List.mem_cons_of_mem _ hy)), List.count_eq_zero_of_not_mem (h x (by simp))]
    simp
    omega

theorem joinL_append (l m : List (List UInt8)) : joinL (l ++ m) = joinL l ++ joinL m := by simp [joinL]

theorem joinL_parts (l : List (List UInt8)) (k : Nat) (hk : k < l.length) : joinL l = joinL (l.take k) ++ (l[k] ++ 10 :: joinL (l.drop (k + 1))) := by
  have e : l = l.take k ++ (l[k] :: l.drop (k + 1)) := by rw [← List.drop_eq_getElem_cons hk, List.take_append_drop]
  conv => lhs; rw [e]
  rw [joinL_append, joinL_cons]
  simp

theorem join_ends (t : List UInt8) : joinL (cutL t) = t ∨ joinL (cutL t) = t ++ [10] := by
  rw [join_cut]
  split
  · exact .inl rfl
  · exact .inr rfl

/-- What stands at the k-th line's place. -/
theorem place (t : List UInt8) (k : Nat) (hk : k < (cutL t).length) (a : Nat) (ha : a = (joinL ((cutL t).take k)).length) :
    a + (cutL t)[k].length ≤ t.length ∧ (t.drop a).take (cutL t)[k].length = (cutL t)[k] ∧ numL t a = k + 1 ∧
    ((a + (cutL t)[k].length = t.length ∧ k + 1 = (cutL t).length) ∨ (∃ h : a + (cutL t)[k].length < t.length, t[a + (cutL t)[k].length] = 10 ∧ a + (cutL t)[k].length + 1 = (joinL ((cutL t).take (k + 1))).length)) := by
  have hp := joinL_parts (cutL t) k hk
  have hj := join_ends t
  have hn : (joinL ((cutL t).take k)).count 10 = k := by
    rw [count_join _ (fun x hx => cutL_mem t x (List.mem_of_mem_take hx)), List.length_take, Nat.min_eq_left (by omega)]
  have hs : (joinL ((cutL t).take (k + 1))).length = a + (cutL t)[k].length + 1 := by
    rw [joinL_take _ _ hk, ha]; simp; omega
  have hempty : joinL ((cutL t).drop (k + 1)) = [] → k + 1 = (cutL t).length := by
    intro e
    by_cases h : k + 1 < (cutL t).length
    · have := joinL_parts ((cutL t).drop (k + 1)) 0 (by simp; omega)
      rw [e] at this
      simp at this
    · omega
  generalize hA : joinL ((cutL t).take k) = A at *
  generalize hR : joinL ((cutL t).drop (k + 1)) = R at *
  generalize hX : (cutL t)[k] = X at *
  have key : ∀ R', t = A ++ (X ++ 10 :: R') → a + X.length ≤ t.length ∧ (t.drop a).take X.length = X ∧ numL t a = k + 1 ∧
    ((a + X.length = t.length ∧ k + 1 = (cutL t).length) ∨ (∃ h : a + X.length < t.length, t[a + X.length] = 10 ∧ a + X.length + 1 = (joinL ((cutL t).take (k + 1))).length)) := by
    intro R' e
    have hlen : t.length = a + X.length + 1 + R'.length := by rw [e, ha]; simp; omega
    refine ⟨by omega, ?_, ?_, .inr ⟨by omega, ?_, hs.symm⟩⟩
    · rw [e, ha, List.drop_left, List.take_left]
    · rw [numL, e, ha, List.take_left, hn]; omega
    · have : t[a + X.length]? = some 10 := by
        rw [e, ha, List.getElem?_append_right (by omega), Nat.add_sub_cancel_left, List.getElem?_append_right (Nat.le_refl _)]
        simp
      rw [List.getElem?_eq_getElem (by omega)] at this
      exact Option.some.inj this
  rcases hj with hj | hj
  · exact key R (by rw [← hj, hp])
  · rcases List.eq_nil_or_concat R with hR0 | ⟨R', y, hR'⟩
    · have e : t = A ++ X := by
        rw [hp, hR0] at hj
        have h2 : (A ++ X) ++ [10] = t ++ [10] := by rw [← hj]; simp
        exact (List.append_cancel_right h2).symm
      refine ⟨by rw [e, ha]; simp, ?_, ?_, .inl ⟨by rw [e, ha]; simp, hempty hR0⟩⟩
      · rw [e, ha, List.drop_left, List.take_length]
      · rw [numL, e, ha, List.take_left, hn]; omega
    · refine key R' ?_
      rw [hp, hR'] at hj
      have h2 : (A ++ (X ++ 10 :: R')) ++ [y] = t ++ [10] := by rw [← hj]; simp
      exact (List.append_inj_left' h2 rfl).symm

theorem place_end (t : List UInt8) : min (joinL (cutL t)).length t.length = t.length := by
  rcases join_ends t with h | h
  · rw [h]; omega
  · rw [h]; simp

theorem place_le (t : List UInt8) (k : Nat) (hk : k < (cutL t).length) : min (joinL ((cutL t).take k)).length t.length = (joinL ((cutL t).take k)).length := by
  have := (place t k hk _ rfl).1
  omega
end Go.Proofs.Ytfmgpcefghoncac
