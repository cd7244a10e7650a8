/- What is cut is put together again, and the other way about: the mathematics. -/
import Derived.Test.YtfmgpcefghoncaaJoin
namespace Go.Proofs.Ytfmgpcefghoncaa

theorem cutGo_noline (x : List UInt8) : ∀ (cur r : List UInt8), 10 ∉ x → cutGo cur (x ++ r) = cutGo (cur ++ x) r := by
  induction x with
  | nil => intro cur r _; simp
  | cons b x ih =>
    intro cur r h
    have hb : b ≠ 10 := fun e => h (by simp [e])
    rw [List.cons_append, cutGo_byte _ _ _ hb, ih _ _ (fun e => h (List.mem_cons_of_mem _ e))]
    simp

theorem cut_join (l : List (List UInt8)) (h : ∀ x ∈ l, (10 : UInt8) ∉ x) : cutL (joinL l) = l := by
  induction l with
  | nil => simp [joinL, cutL, cutGo]
  | cons x r ih =>
    have e : joinL (x :: r) = x ++ (10 :: joinL r) := by simp [joinL]
    rw [e, cutL, cutGo_noline x [] _ (h x (by simp)), List.nil_append, cutGo_line, ih (fun y hy => h y (List.mem_cons_of_mem _ hy))]

theorem cutL_ne {l : List UInt8} (h : l ≠ []) : cutL l ≠ [] := by rw [cutL_split l h]; simp

theorem cut_one_line (x : List UInt8) (h : (cutL (x ++ [120])).length = 1) : (10 : UInt8) ∉ x := by
  intro hm
  obtain ⟨a, b, rfl, ha⟩ := List.eq_append_cons_of_mem hm
  rw [cutL, List.append_assoc, List.cons_append, cutGo_noline a [] _ ha, List.nil_append, cutGo_line, List.length_cons] at h
  have h2 : cutL (b ++ [120]) ≠ [] := cutL_ne (by simp)
  have h3 : (cutL (b ++ [120])).length = 0 := by omega
  exact h2 (List.eq_nil_of_length_eq_zero h3)

theorem joinL_cons (x : List UInt8) (r : List (List UInt8)) : joinL (x :: r) = x ++ [10] ++ joinL r := by simp [joinL]

theorem join_cutGo (t : List UInt8) : ∀ cur, joinL (cutGo cur t) = if (t = [] ∧ cur = []) ∨ t.getLast? = some 10 then cur ++ t else cur ++ t ++ [10] := by
  induction t with
  | nil =>
    intro cur
    rw [cutGo_end]
    by_cases h : cur = []
    · simp [h, joinL]
    · simp [h, joinL]
  | cons b r ih =>
    intro cur
    by_cases hb : b = 10
    · subst hb
      rw [cutGo_line, joinL_cons, cutL, ih]
      have e : ((r = [] ∧ ([] : List UInt8) = []) ∨ r.getLast? = some 10) ↔ ((10 :: r : List UInt8) = [] ∧ cur = []) ∨ (10 :: r : List UInt8).getLast? = some 10 := by
        cases r with
        | nil => simp
        | cons c r => simp
      by_cases hc : (r = [] ∧ ([] : List UInt8) = []) ∨ r.getLast? = some 10
      · rw [if_pos hc, if_pos (e.1 hc)]; simp
      · rw [if_neg hc, if_neg (fun x => hc (e.2 x))]; simp
    · rw [cutGo_byte _ _ _ hb, ih]
      have e : ((r = [] ∧ cur ++ [b] = []) ∨ r.getLast? = some 10) ↔ ((b :: r : List UInt8) = [] ∧ cur = []) ∨ (b :: r : List UInt8).getLast? = some 10 := by
        cases r with
        | nil => simp [hb]
        | cons c r => simp
      by_cases hc : (r = [] ∧ cur ++ [b] = []) ∨ r.getLast? = some 10
      · rw [if_pos hc, if_pos (e.1 hc)]; simp
      · rw [if_neg hc, if_neg (fun x => hc (e.2 x))]; simp

theorem join_cut (t : List UInt8) : joinL (cutL t) = if t = [] ∨ t.getLast? = some 10 then t else t ++ [10] := by
  rw [cutL, join_cutGo]
  simp

theorem cutGo_app (a : List UInt8) : ∀ (cur b : List UInt8), cutGo cur (a ++ 10 :: b) = cutGo cur (a ++ [10]) ++ cutL b := by
  induction a with
  | nil => intro cur b; simp only [List.nil_append]; rw [cutGo_line, cutGo_line]; simp [cutL, cutGo]
  | cons x a ih =>
    intro cur b
    by_cases hx : x = 10
    · subst hx
      simp only [List.cons_append]
      rw [cutGo_line, cutGo_line, cutL, ih]
      rfl
    · simp only [List.cons_append]
      rw [cutGo_byte _ _ _ hx, cutGo_byte _ _ _ hx, ih]

theorem cut_split (a b : List UInt8) : cutL (a ++ 10 :: b) = cutL (a ++ [10]) ++ cutL b := cutGo_app a [] b
end Go.Proofs.Ytfmgpcefghoncaa
