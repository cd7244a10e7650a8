/- The plain mathematics of Tail's ring: what it holds, and that it ends as the last lines. No Go in sight. -/
import Derived.Test.YtfmgpcefghoncaaRefTail
namespace Go.Proofs.Ytfmgpcefghoncaa

/-- One line more into the ring of n lines, the oldest of which lies at p.2. -/
def ringStep (n : Nat) (p : List (List UInt8) × Nat) (x : List UInt8) : List (List UInt8) × Nat :=
  if p.1.length < n then (p.1 ++ [x], p.2) else (p.1.set p.2 x, (p.2 + 1) % n)

def ringSt (n : Nat) (L : List (List UInt8)) : List (List UInt8) × Nat := L.foldl (ringStep n) ([], 0)

theorem ringSt_snoc (n : Nat) (L : List (List UInt8)) (x : List UInt8) : ringSt n (L ++ [x]) = ringStep n (ringSt n L) x := by simp [ringSt]

/-- What the ring holds. -/
def RingOk (n : Nat) (L : List (List UInt8)) (p : List (List UInt8) × Nat) : Prop :=
  (L.length < n ∧ p.1 = L ∧ p.2 = 0) ∨ (n ≤ L.length ∧ p.1.length = n ∧ p.2 < n ∧ p.1.drop p.2 ++ p.1.take p.2 = L.drop (L.length - n))

theorem ring_ok (n : Nat) (hn : 0 < n) (L : List (List UInt8)) : RingOk n L (ringSt n L) := by
  suffices h : ∀ k, k ≤ L.length → RingOk n (L.take k) (ringSt n (L.take k)) by
    have := h L.length (Nat.le_refl _)
    rwa [List.take_length] at this
  intro k
  induction k with
  | zero => intro _; exact .inl ⟨by simpa using hn, rfl, rfl⟩
  | succ k ih =>
    intro hk
    have ih := ih (by omega)
    rw [List.take_succ_eq_append_getElem (by omega), ringSt_snoc]
    generalize hM : L.take k = M at *
    generalize L[k] = x at *
    generalize ringSt n M = p at *
    obtain ⟨r, o⟩ := p
    rcases ih with ⟨h1, h2, h3⟩ | ⟨h1, h2, h3, h4⟩
    · simp only at h2 h3
      subst h2 h3
      have e : ringStep n (r, 0) x = (r ++ [x], 0) := by simp [ringStep, h1]
      rw [e]
      by_cases hlt : r.length + 1 < n
      · exact .inl ⟨by simpa using hlt, rfl, rfl⟩
      · refine .inr ⟨by simp; omega, by simp; omega, hn, ?_⟩
        have e2 : (r ++ [x]).length - n = 0 := by simp; omega
        rw [e2]; simp
    · simp only at h2 h3 h4
      have e : ringStep n (r, o) x = (r.set o x, (o + 1) % n) := by simp [ringStep, h2]
      rw [e]
      refine .inr ⟨by simp; omega, by simpa using h2, Nat.mod_lt _ hn, ?_⟩
      have hr : (M ++ [x]).drop ((M ++ [x]).length - n) = (M.drop (M.length - n)).drop 1 ++ [x] := by
        rw [List.length_append, List.length_singleton, List.drop_drop, List.drop_append_of_le_length (by omega)]
        congr 2
        omega
      rw [hr, ← h4]
      have hd : r.drop o = r[o] :: r.drop (o + 1) := List.drop_eq_getElem_cons (by omega)
      rw [hd]
      simp only [List.cons_append, List.drop_succ_cons, List.drop_zero]
      have hset : r.set o x = r.take o ++ x :: r.drop (o + 1) := List.set_eq_take_append_cons_drop.trans (by rw [if_pos (by omega)])
      by_cases hlt : o + 1 < n
      · rw [Nat.mod_eq_of_lt hlt, hset]
        have hl : (r.take o).length = o := by simp; omega
        rw [List.drop_append, List.take_append, hl]
        have e1 : o + 1 - o = 1 := by omega
        rw [e1, List.drop_eq_nil_of_le (by omega), List.take_of_length_le (by omega)]
        simp
      · have e1 : o + 1 = n := by omega
        rw [e1, Nat.mod_self, hset]
        simp [e1, h2.symm]

theorem ring_ends (n : Nat) (hn : 0 < n) (L : List (List UInt8)) : (ringSt n L).1.drop (ringSt n L).2 ++ (ringSt n L).1.take (ringSt n L).2 = L.drop (L.length - n) ∧ (ringSt n L).2 ≤ (ringSt n L).1.length := by
  rcases ring_ok n hn L with ⟨h1, h2, h3⟩ | ⟨h1, h2, h3, h4⟩
  · rw [h2, h3]
    have e : L.length - n = 0 := by omega
    rw [e]; simp
  · exact ⟨h4, by omega⟩

theorem ring_le (n : Nat) (hn : 0 < n) (L : List (List UInt8)) : (ringSt n L).1.length ≤ L.length ∧ (¬ (ringSt n L).1.length < n → (ringSt n L).2 < (ringSt n L).1.length ∧ (ringSt n L).1.length = n) := by
  rcases ring_ok n hn L with ⟨h1, h2, h3⟩ | ⟨h1, h2, h3, h4⟩
  · rw [h2]; exact ⟨Nat.le_refl _, fun h => absurd h1 h⟩
  · exact ⟨by omega, fun _ => ⟨by omega, h2⟩⟩
end Go.Proofs.Ytfmgpcefghoncaa
