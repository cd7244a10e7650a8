/- The document's Text: the mathematics of its loops. -/
import Derived.Test.YtolkbemclkgmmaaTextE
import Derived.BigQuiet
import Derived.Deep.QuietTactic
namespace Go.Proofs.Ytolkbemclkgmmaa
open Go.RowKit

/-- A place in the list of members where no run is open that goes on. -/
def Bd (L : List Nat) (k : Nat) : Prop := ∀ b, L[k]? = some b → spec4 b = true ∨ (textSt (L.take k)).2 = [] ∨ ¬ (textSt (L.take k)).2.getLastD 0 + 1 = b

theorem bd_zero (L : List Nat) : Bd L 0 := fun b _ => .inr (.inl (by simp [textSt]))

theorem bd_special (L : List Nat) (k b : Nat) (h : L[k]? = some b) (hs : spec4 b = true) : textSt (L.take (k + 1)) = (flush (textSt (L.take k)) ++ [91, 46, b, 46, 93], []) ∧ Bd L (k + 1) := by
  have hk : k < L.length := (List.getElem?_eq_some_iff.1 h).1
  have e : L[k] = b := (List.getElem?_eq_some_iff.1 h).2
  have h1 : textSt (L.take (k + 1)) = (flush (textSt (L.take k)) ++ [91, 46, b, 46, 93], []) := by rw [textSt_take L k hk, e, tstep_special _ _ hs]
  exact ⟨h1, fun c _ => .inr (.inl (by rw [h1]))⟩

/-- From a place on, up to another one, the members are no special ones, and each is one above the one ahead. -/
def Run (L : List Nat) (k m : Nat) : Prop := k < m ∧ m ≤ L.length ∧ (∀ b, L[k]? = some b → spec4 b = false) ∧ ∀ q, k < q → q < m → ∀ b, L[q]? = some b → spec4 b = false ∧ L[q - 1]? = some (b - 1) ∧ 1 ≤ b

theorem run_st (L : List Nat) (k m : Nat) (hb : Bd L k) (h : Run L k m) : textSt (L.take m) = (flush (textSt (L.take k)), (L.drop k).take (m - k)) := by
  obtain ⟨h1, h2, h3, h4⟩ := h
  induction m with
  | zero => omega
  | succ m ih =>
    have hm : m < L.length := by omega
    by_cases e : m = k
    · subst e
      have hs := h3 L[m] (List.getElem?_eq_getElem hm)
      rw [textSt_take L m hm]
      rw [tstep_start _ _ hs (by rcases hb L[m] (List.getElem?_eq_getElem hm) with x | x | x; rw [hs] at x; cases x; exact .inl x; exact .inr x)]
      have : (L.drop m).take (m + 1 - m) = [L[m]] := by
        rw [show m + 1 - m = 1 from by omega, List.take_one, List.head?_drop, List.getElem?_eq_getElem hm]; rfl
      rw [this]
    · have hi := ih (by omega) (by omega) (fun q a b => h4 q a (by omega))
      obtain ⟨hs, hp, hp1⟩ := h4 m (by omega) (by omega) L[m] (List.getElem?_eq_getElem hm)
      have hl : ((L.drop k).take (m - k)).getLastD 0 + 1 = L[m] := by
        have h5 : ((L.drop k).take (m - k))[m - k - 1]? = some (L[m] - 1) := by
          rw [List.getElem?_take, if_pos (by omega), List.getElem?_drop, show k + (m - k - 1) = m - 1 from by omega, hp]
        have h6 : ((L.drop k).take (m - k)).length = m - k := by simp; omega
        have h7 : ((L.drop k).take (m - k)).getLast? = some (L[m] - 1) := by rw [List.getLast?_eq_getElem?, h6, h5]
        rw [List.getLastD_eq_getLast?, h7]
        simp only [Option.getD_some]
        omega
      rw [textSt_take L m hm, tstep_on _ _ hs (by rw [hi]; exact hl), hi]
      have : (L.drop k).take (m + 1 - k) = (L.drop k).take (m - k) ++ [L[m]] := by
        rw [show m + 1 - k = (m - k) + 1 from by omega, List.take_add_one, List.getElem?_drop, show k + (m - k) = m from by omega, List.getElem?_eq_getElem hm]; rfl
      rw [this]

/-- A run that can't go on ends at such a place. -/
theorem run_bd (L : List Nat) (k m : Nat) (hb : Bd L k) (h : Run L k m) (he : ∀ b, L[m]? = some b → spec4 b = true ∨ ∀ a, L[m - 1]? = some a → ¬ a + 1 = b) : Bd L m := by
  have hs := run_st L k m hb h
  obtain ⟨h1, h2, h3, h4⟩ := h
  intro b hbm
  rcases he b hbm with x | x
  · exact .inl x
  · refine .inr (.inr ?_)
    have hm : m - 1 < L.length := by omega
    have h5 : ((L.drop k).take (m - k))[m - k - 1]? = some L[m - 1] := by
      rw [List.getElem?_take, if_pos (by omega), List.getElem?_drop, show k + (m - k - 1) = m - 1 from by omega, List.getElem?_eq_getElem hm]
    have h6 : ((L.drop k).take (m - k)).length = m - k := by simp; omega
    have h7 : ((L.drop k).take (m - k)).getLast? = some L[m - 1] := by rw [List.getLast?_eq_getElem?, h6, h5]
    rw [hs, List.getLastD_eq_getLast?, h7]
    exact x _ (List.getElem?_eq_getElem hm)

theorem run_one (L : List Nat) (k b : Nat) (h : L[k]? = some b) (hs : spec4 b = false) : Run L k (k + 1) := by
  have hk : k < L.length := (List.getElem?_eq_some_iff.1 h).1
  exact ⟨by omega, by omega, fun c hc => by rw [h] at hc; cases hc; exact hs, fun q a b => by omega⟩

theorem run_more (L : List Nat) (k m a b : Nat) (h : Run L k m) (hm : L[m]? = some b) (ha : L[m - 1]? = some a) (hs : spec4 b = false) (he : a + 1 = b) : Run L k (m + 1) := by
  obtain ⟨h1, h2, h3, h4⟩ := h
  have hk : m < L.length := (List.getElem?_eq_some_iff.1 hm).1
  refine ⟨by omega, by omega, h3, fun q a1 a2 c hc => ?_⟩
  by_cases e : q = m
  · subst e
    rw [hm] at hc
    cases hc
    exact ⟨hs, by rw [ha]; congr 1; omega, by omega⟩
  · exact h4 q a1 (by omega) c hc

/-- What is let out of a run. -/
theorem run_flush (L : List Nat) (k m x y : Nat) (hb : Bd L k) (h : Run L k m) (hx : L[k]? = some x) (hy : L[m - 1]? = some y) :
    flush (textSt (L.take m)) = flush (textSt (L.take k)) ++ (if m - k < 3 then (L.drop k).take (m - k) else [x, 45, y]) := by
  rw [run_st L k m hb h]
  obtain ⟨h1, h2, h3, h4⟩ := h
  have h6 : ((L.drop k).take (m - k)).length = m - k := by simp; omega
  unfold flush
  simp only [h6]
  have hm : m - 1 < L.length := by omega
  have h5 : ((L.drop k).take (m - k))[m - k - 1]? = some y := by
    rw [List.getElem?_take, if_pos (by omega), List.getElem?_drop, show k + (m - k - 1) = m - 1 from by omega, hy]
  have h7 : ((L.drop k).take (m - k)).getLastD 0 = y := by rw [List.getLastD_eq_getLast?, List.getLast?_eq_getElem?, h6, h5]; rfl
  have h8 : ((L.drop k).take (m - k)).headD 0 = x := by
    rw [List.headD_eq_head?_getD, List.head?_take, if_neg (by omega), List.head?_drop, hx]; rfl
  rw [h7, h8]

end Go.Proofs.Ytolkbemclkgmmaa
