/- The plain mathematics of lines: a text's bytes cut behind each newline. No Go in sight. -/
import Derived.WalkKit
namespace Go.Proofs.Ytfmgpcefghoncaa

/-- The lines of a text, cur being what has come of the line that is open. -/
def cutGo (cur : List UInt8) : List UInt8 → List (List UInt8)
  | [] => if cur = [] then [] else [cur]
  | b :: r => if b = 10 then cur :: cutGo [] r else cutGo (cur ++ [b]) r

/-- The lines of a text. -/
def cutL (l : List UInt8) : List (List UInt8) := cutGo [] l

/-- The bytes ahead of the first newline, and those behind it. -/
def headL (l : List UInt8) : List UInt8 := l.takeWhile fun b => b != 10
def restL (l : List UInt8) : List UInt8 := (l.dropWhile fun b => b != 10).drop 1

theorem cutGo_split (cur l : List UInt8) (h : cur ++ l ≠ []) : cutGo cur l = (cur ++ headL l) :: cutL (restL l) := by
  induction l generalizing cur with
  | nil =>
    simp at h
    simp [cutGo, h, headL, restL, cutL]
  | cons b r ih =>
    unfold cutGo
    by_cases hb : b = 10
    · subst hb
      simp [headL, restL, cutL]
    · rw [if_neg hb, ih (cur ++ [b]) (by simp)]
      have hb' : (b != 10) = true := by simpa using hb
      simp [headL, restL, hb']

theorem cutL_split (l : List UInt8) (h : l ≠ []) : cutL l = headL l :: cutL (restL l) := by
  have := cutGo_split [] l (by simpa using h)
  simpa [cutL] using this

theorem cutGo_line (cur r : List UInt8) : cutGo cur (10 :: r) = cur :: cutL r := by simp [cutGo, cutL]
theorem cutGo_byte (cur r : List UInt8) (b : UInt8) (h : b ≠ 10) : cutGo cur (b :: r) = cutGo (cur ++ [b]) r := by simp [cutGo, h]
theorem cutGo_end (cur : List UInt8) : cutGo cur [] = if cur = [] then [] else [cur] := rfl

theorem cutL_le (l : List UInt8) : (cutL l).length ≤ l.length := by
  have key : ∀ (l cur : List UInt8), (cutGo cur l).length ≤ l.length + (if cur = [] then 0 else 1) := by
    intro l
    induction l with
    | nil => intro cur; unfold cutGo; split <;> simp
    | cons b r ih =>
      intro cur
      unfold cutGo
      by_cases hb : b = 10
      · rw [if_pos hb]
        have h := ih []
        simp at h ⊢
        omega
      · rw [if_neg hb]
        have h := ih (cur ++ [b])
        simp at h ⊢
        split <;> omega
  have := key l []
  simpa [cutL] using this

/-- A line as Go holds it. -/
def str (l : List UInt8) : ByteArray := ⟨l.toArray⟩
def strVals (l : List (List UInt8)) : List Value := l.map fun x => Value.string (str x)

theorem strVals_snoc (l : List (List UInt8)) (x : List UInt8) : strVals (l ++ [x]) = strVals l ++ [.string (str x)] := by simp [strVals]

theorem extract_str (s : ByteArray) (a b : Nat) : s.extract a b = str ((s.data.toList.drop a).take (b - a)) := by
  obtain ⟨⟨l⟩⟩ := s
  rw [ByteArray.extract_mk]
  simp [str]

/-- Where the plain cut stands behind i bytes, the open line beginning at f. -/
def Inv (l : List UInt8) (i f : Nat) (done : List (List UInt8)) : Prop :=
  f ≤ i ∧ i ≤ l.length ∧ done.length ≤ i ∧ cutL l = done ++ cutGo ((l.drop f).take (i - f)) (l.drop i)

theorem Inv.start (l : List UInt8) : Inv l 0 0 [] := ⟨Nat.le_refl _, Nat.zero_le _, Nat.zero_le _, by simp [cutL]⟩

theorem Inv.line {l : List UInt8} {i f : Nat} {done : List (List UInt8)} (h : Inv l i f done) (hi : i < l.length) (hb : l[i] = 10) :
    Inv l (i + 1) (i + 1) (done ++ [(l.drop f).take (i - f)]) := by
  obtain ⟨h1, h2, h3, h4⟩ := h
  refine ⟨Nat.le_refl _, hi, by simp; omega, ?_⟩
  rw [h4, List.drop_eq_getElem_cons hi, hb, cutGo_line]
  simp [cutL]

theorem Inv.byte {l : List UInt8} {i f : Nat} {done : List (List UInt8)} (h : Inv l i f done) (hi : i < l.length) (hb : l[i] ≠ 10) : Inv l (i + 1) f done := by
  obtain ⟨h1, h2, h3, h4⟩ := h
  refine ⟨by omega, hi, by omega, ?_⟩
  rw [h4, List.drop_eq_getElem_cons hi, cutGo_byte _ _ _ hb]
  congr 2
  have e : i + 1 - f = (i - f) + 1 := by omega
  rw [e, List.take_succ_eq_append_getElem (by simp; omega)]
  congr 2
  rw [List.getElem_drop]
  congr 1
  omega

theorem Inv.stop {l : List UInt8} {f : Nat} {done : List (List UInt8)} (h : Inv l l.length f done) :
    cutL l = if f < l.length then done ++ [l.drop f] else done := by
  obtain ⟨h1, h2, h3, h4⟩ := h
  rw [h4, List.drop_length, cutGo_end]
  have e : (l.drop f).take (l.length - f) = l.drop f := List.take_of_length_le (by simp)
  rw [e]
  by_cases hf : f < l.length
  · rw [if_pos hf, if_neg (by simp; omega)]
  · rw [if_neg hf, if_pos (by simp; omega)]
    simp

end Go.Proofs.Ytfmgpcefghoncaa
