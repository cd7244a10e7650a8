/- scan, pure: what the document's functions of a script's text answer, over lists of bytes; no function of the program. -/
import Derived.Test.YtcfbmdelgfkfeaaDoorProg
namespace Go.Proofs.YtcfbmdelgfkfeaaDoor
namespace scanP

/-- A place brought into a text. -/
def insN (n : Nat) (i : Int) : Nat := min i.toNat n
/-- How many blanks stand ahead. -/
def blkN : List UInt8 → Nat
  | [] => 0
  | b :: r => if b = 32 ∨ b = 9 then blkN r + 1 else 0
def blanksN (l : List UInt8) (k : Nat) : Nat := k + blkN (l.drop k)
def isDg (b : UInt8) : Bool := decide (48 ≤ b.toNat) && decide (b.toNat ≤ 57)
/-- How many digits stand ahead. -/
def dgN : List UInt8 → Nat
  | [] => 0
  | b :: r => if isDg b then dgN r + 1 else 0
/-- Their number. -/
def dgV (l : List UInt8) : Nat := l.foldl (fun n b => 10 * n + (b.toNat - 48)) 0
def numR (l : List UInt8) (k : Nat) : Nat × Nat × Nat :=
  let d := dgN (l.drop k)
  if d = 0 then (0, 0, 5) else if 9 < d then (0, 0, 1) else (dgV ((l.drop k).take d), k + d, 0)
/-- A byte that keeps its backslash. -/
def keptB (d c : UInt8) : Bool := decide (c ≠ d) || decide (c = 46) || decide (c = 91) || decide (c = 42) || decide (c = 94) || decide (c = 36) || decide (c = 38)
def unR (d : UInt8) (ln : Bool) : List UInt8 → Nat → List UInt8 → List UInt8 × Nat × Nat
  | [], _, _ => ([], 0, 6)
  | [b], p, t => if b = d then (t, p + 1, 0) else ([], 0, 6)
  | b :: c :: r, p, t =>
    if b = d then (t, p + 1, 0)
    else if b = 10 then ([], 0, 6)
    else if b ≠ 92 then unR d ln (c :: r) (p + 1) (t ++ [b])
    else if c = 10 ∧ ln = false then ([], 0, 6)
    else unR d ln r (p + 2) (t ++ ((if keptB d c then [92] else []) ++ [c]))
def untilR (l : List UInt8) (i : Int) (d : UInt8) (ln : Bool) : List UInt8 × Nat × Nat :=
  if i < 0 ∨ (l.length : Int) < i ∨ d = 10 ∨ d = 92 then ([], 0, 1) else unR d ln (l.drop i.toNat) i.toNat []
/-- The text of a, i, c, behind its first newline. -/
def txR : List UInt8 → Nat → List UInt8 → List UInt8 × Nat × Nat
  | [], p, t => (t ++ [10], p, 0)
  | [b], p, t => if b = 10 then (t ++ [10], p + 1, 0) else if b = 92 then ([], 0, 6) else (t ++ [b] ++ [10], p + 1, 0)
  | b :: c :: r, p, t =>
    if b = 10 then (t ++ [10], p + 1, 0)
    else if b = 92 then txR r (p + 2) (t ++ [c])
    else txR (c :: r) (p + 1) (t ++ [b])
def textR (l : List UInt8) (k : Nat) : List UInt8 × Nat × Nat :=
  let i := blanksN l k
  match l.drop i with
  | b :: c :: r => if b = 92 ∧ c = 10 then (if r = [] then ([], 0, 6) else txR r (i + 2) []) else ([], 0, 19)
  | _ => ([], 0, 19)
/-- How far the line goes; how far a word. -/
def lnN : List UInt8 → Nat
  | [] => 0
  | b :: r => if b = 10 then 0 else lnN r + 1
def wdN : List UInt8 → Nat
  | [] => 0
  | b :: r => if b = 10 ∨ b = 59 then 0 else wdN r + 1
/-- A list without blanks at its end. -/
def rtN : Nat → List UInt8 → Nat
  | 0, _ => 0
  | n + 1, l => if l[n]? = some 32 ∨ l[n]? = some 9 then rtN n l else n + 1
def lineR (l : List UInt8) (k : Nat) : List UInt8 × Nat :=
  let i := blanksN l k
  ((l.drop i).take (lnN (l.drop i)), i + lnN (l.drop i))
def wordR (l : List UInt8) (k : Nat) : List UInt8 × Nat :=
  let i := blanksN l k
  let w := wdN (l.drop i)
  ((l.drop i).take (rtN w (l.drop i)), i + w)
def nameB (l : List UInt8) : Bool := decide (1 ≤ l.length) && decide (l.length ≤ 64) && l.all fun b => decide (b ≠ 10) && decide (b ≠ 0)

theorem ins_le (n : Nat) (i : Int) : insN n i ≤ n := Nat.min_le_right _ _
theorem blk_le : ∀ l : List UInt8, blkN l ≤ l.length
  | [] => Nat.le_refl _
  | b :: r => by
    have h := blk_le r
    unfold blkN
    split
    · rw [List.length_cons]; omega
    · omega
theorem blanks_le (l : List UInt8) (k : Nat) (h : k ≤ l.length) : blanksN l k ≤ l.length := by
  have h1 := blk_le (l.drop k)
  rw [List.length_drop] at h1
  unfold blanksN
  omega
theorem dg_le : ∀ l : List UInt8, dgN l ≤ l.length
  | [] => Nat.le_refl _
  | b :: r => by
    have h := dg_le r
    unfold dgN
    split
    · rw [List.length_cons]; omega
    · omega
theorem ln_le : ∀ l : List UInt8, lnN l ≤ l.length
  | [] => Nat.le_refl _
  | b :: r => by
    have h := ln_le r
    unfold lnN
    split
    · omega
    · rw [List.length_cons]; omega
theorem wd_le : ∀ l : List UInt8, wdN l ≤ lnN l
  | [] => Nat.le_refl _
  | b :: r => by
    have h := wd_le r
    unfold wdN lnN
    by_cases h1 : b = 10
    · rw [if_pos (.inl h1), if_pos h1]; omega
    · rw [if_neg h1]
      split <;> omega
theorem rt_le : ∀ (n : Nat) (l : List UInt8), rtN n l ≤ n
  | 0, _ => Nat.le_refl _
  | n + 1, l => by
    have h := rt_le n l
    unfold rtN
    split <;> omega
theorem ln_at : ∀ (l : List UInt8), lnN l < l.length → l[lnN l]? = some 10
  | [], h => by simp [lnN] at h
  | b :: r, h => by
    unfold lnN at h ⊢
    by_cases h1 : b = 10
    · rw [if_pos h1, h1]; rfl
    · rw [if_neg h1] at h ⊢
      rw [List.getElem?_cons_succ]
      exact ln_at r (by rw [List.length_cons] at h; omega)
/-- One more blank, one more digit, one more sign of a line: how a loop goes on. -/
theorem blk_step {l : List UInt8} {k : Nat} (h : k < l.length) : blkN (l.drop k) = if l[k] = 32 ∨ l[k] = 9 then blkN (l.drop (k + 1)) + 1 else 0 := by
  rw [List.drop_eq_getElem_cons h]; rfl
theorem dg_step {l : List UInt8} {k : Nat} (h : k < l.length) : dgN (l.drop k) = if isDg l[k] then dgN (l.drop (k + 1)) + 1 else 0 := by
  rw [List.drop_eq_getElem_cons h]; rfl
theorem ln_step {l : List UInt8} {k : Nat} (h : k < l.length) : lnN (l.drop k) = if l[k] = 10 then 0 else lnN (l.drop (k + 1)) + 1 := by
  rw [List.drop_eq_getElem_cons h]; rfl
theorem wd_step {l : List UInt8} {k : Nat} (h : k < l.length) : wdN (l.drop k) = if l[k] = 10 ∨ l[k] = 59 then 0 else wdN (l.drop (k + 1)) + 1 := by
  rw [List.drop_eq_getElem_cons h]; rfl
theorem blk_end {l : List UInt8} {k : Nat} (h : l.length ≤ k) : blkN (l.drop k) = 0 := by rw [List.drop_of_length_le h]; rfl
theorem dg_end {l : List UInt8} {k : Nat} (h : l.length ≤ k) : dgN (l.drop k) = 0 := by rw [List.drop_of_length_le h]; rfl
theorem ln_end {l : List UInt8} {k : Nat} (h : l.length ≤ k) : lnN (l.drop k) = 0 := by rw [List.drop_of_length_le h]; rfl
theorem wd_end {l : List UInt8} {k : Nat} (h : l.length ≤ k) : wdN (l.drop k) = 0 := by rw [List.drop_of_length_le h]; rfl

/-- Until, step by step along a text. -/
theorem un_end {d : UInt8} {ln : Bool} {l : List UInt8} {k : Nat} (h : l.length ≤ k) (p : Nat) (t : List UInt8) : unR d ln (l.drop k) p t = ([], 0, 6) := by
  rw [List.drop_of_length_le h]; rfl
theorem un_hit {d : UInt8} {ln : Bool} {l : List UInt8} {k : Nat} (h : k < l.length) (hb : l[k] = d) (p : Nat) (t : List UInt8) : unR d ln (l.drop k) p t = (t, p + 1, 0) := by
  rw [List.drop_eq_getElem_cons h, hb]
  cases l.drop (k + 1) <;> simp [unR]
theorem un_line {d : UInt8} {ln : Bool} {l : List UInt8} {k : Nat} (h : k < l.length) (hb : l[k] ≠ d) (h2 : l[k] = 10) (p : Nat) (t : List UInt8) : unR d ln (l.drop k) p t = ([], 0, 6) := by
  rw [List.drop_eq_getElem_cons h]
  cases l.drop (k + 1) <;> simp [unR, hb] <;> simp [h2]
theorem un_step {d : UInt8} {ln : Bool} {l : List UInt8} {k : Nat} (h : k < l.length) (hb : l[k] ≠ d) (h2 : l[k] ≠ 10) (h3 : l[k] ≠ 92) (p : Nat) (t : List UInt8) : unR d ln (l.drop k) p t = unR d ln (l.drop (k + 1)) (p + 1) (t ++ [l[k]]) := by
  rw [List.drop_eq_getElem_cons h]
  cases l.drop (k + 1) with
  | nil => simp [unR, hb]
  | cons c r => simp [unR, hb, h2, h3]
theorem un_last {d : UInt8} {ln : Bool} {l : List UInt8} {k : Nat} (h : k + 1 = l.length) (hb : l[k] ≠ d) (p : Nat) (t : List UInt8) : unR d ln (l.drop k) p t = ([], 0, 6) := by
  rw [List.drop_eq_getElem_cons (by omega), List.drop_of_length_le (by omega)]
  simp [unR, hb]
theorem un_stop {d : UInt8} {l : List UInt8} {k : Nat} (h : k + 1 < l.length) (hb : l[k] ≠ d) (h3 : l[k] = 92) (h4 : l[k + 1] = 10) (p : Nat) (t : List UInt8) : unR d false (l.drop k) p t = ([], 0, 6) := by
  rw [List.drop_eq_getElem_cons (by omega), List.drop_eq_getElem_cons h, h4]
  have e : (92 : UInt8) ≠ 10 := by decide
  simp [unR, h3, e] <;> (intro hd; exact absurd (h3.trans hd) hb)
theorem un_pair {d : UInt8} {ln : Bool} {l : List UInt8} {k : Nat} (h : k + 1 < l.length) (hb : l[k] ≠ d) (h3 : l[k] = 92) (h4 : l[k + 1] ≠ 10 ∨ ln = true) (p : Nat) (t : List UInt8) : unR d ln (l.drop k) p t = unR d ln (l.drop (k + 2)) (p + 2) (t ++ ((if keptB d l[k + 1] then [92] else []) ++ [l[k + 1]])) := by
  rw [List.drop_eq_getElem_cons (by omega : k < l.length), List.drop_eq_getElem_cons h]
  have e : (92 : UInt8) ≠ 10 := by decide
  have e2 : ¬ (l[k + 1] = 10 ∧ ln = false) := by
    rintro ⟨a, b⟩
    rcases h4 with h4 | h4
    · exact h4 a
    · rw [b] at h4; cases h4
  rw [h3] at hb
  rw [unR, if_neg (by rw [h3]; exact hb), if_neg (by rw [h3]; exact e), if_neg (by rw [h3]; simp), if_neg e2]

/-- A text without backslashes, newlines and the delimiter is read up to the delimiter as it is. -/
theorem un_plain (d : UInt8) (ln : Bool) (r : List UInt8) : ∀ (l : List UInt8) (p : Nat) (t : List UInt8), (∀ b ∈ l, b ≠ 92 ∧ b ≠ 10 ∧ b ≠ d) → unR d ln (l ++ d :: r) p t = (t ++ l, p + l.length + 1, 0)
  | [], p, t, _ => by
    rw [List.nil_append, List.append_nil]
    cases r <;> simp [unR]
  | b :: l, p, t, h => by
    obtain ⟨h1, h2, h3⟩ := h b (by simp)
    have ih := un_plain d ln r l (p + 1) (t ++ [b]) (fun x hx => h x (by simp [hx]))
    have e : unR d ln ((b :: l) ++ d :: r) p t = unR d ln (l ++ d :: r) (p + 1) (t ++ [b]) := by
      rw [List.cons_append]
      cases hl : l ++ d :: r with
      | nil => simp at hl
      | cons c q => simp [unR, h1, h2, h3]
    rw [e, ih, List.append_assoc, List.length_cons]
    simp only [List.singleton_append, Prod.mk.injEq, true_and, and_true]
    omega
def markL (l : List UInt8) : List UInt8 := l.flatMap fun b => [92, b]
def wantL (d : UInt8) (l : List UInt8) : List UInt8 := l.flatMap fun b => (if keptB d b then [92] else []) ++ [b]
/-- Each byte with a backslash ahead stays so, but the delimiter. -/
theorem un_mark (d : UInt8) (hd : d ≠ 92) (r : List UInt8) : ∀ (l : List UInt8) (p : Nat) (t : List UInt8), unR d true (markL l ++ d :: r) p t = (t ++ wantL d l, p + (markL l).length + 1, 0)
  | [], p, t => by
    simp only [markL, wantL, List.flatMap_nil, List.nil_append, List.append_nil]
    cases r <;> simp [unR]
  | b :: l, p, t => by
    have ih := un_mark d hd r l (p + 2) (t ++ ((if keptB d b then [92] else []) ++ [b]))
    have e1 : markL (b :: l) = 92 :: b :: markL l := by simp [markL]
    have e2 : wantL d (b :: l) = ((if keptB d b then [92] else []) ++ [b]) ++ wantL d l := by simp [wantL]
    have e : unR d true (markL (b :: l) ++ d :: r) p t = unR d true (markL l ++ d :: r) (p + 2) (t ++ ((if keptB d b then [92] else []) ++ [b])) := by
      rw [e1, List.cons_append, List.cons_append, unR, if_neg (fun h => hd h.symm), if_neg (by decide), if_neg (by simp), if_neg (by simp)]
    rw [e, ih, e2, e1, List.append_assoc, List.length_cons, List.length_cons]
    simp only [Prod.mk.injEq, true_and, and_true]
    omega
/-- A text whose backslashes and newlines have a backslash ahead. -/
def putL (l : List UInt8) : List UInt8 := l.flatMap fun b => if b = 10 ∨ b = 92 then [92, b] else [b]
theorem tx_put (r : List UInt8) : ∀ (l : List UInt8) (p : Nat) (t : List UInt8), txR (putL l ++ 10 :: r) p t = (t ++ l ++ [10], p + (putL l).length + 1, 0)
  | [], p, t => by
    simp only [putL, List.flatMap_nil, List.nil_append, List.append_nil]
    cases r <;> simp [txR]
  | b :: l, p, t => by
    by_cases hb : b = 10 ∨ b = 92
    · have ih := tx_put r l (p + 2) (t ++ [b])
      have e1 : putL (b :: l) = 92 :: b :: putL l := by simp [putL, hb]
      have e : txR (putL (b :: l) ++ 10 :: r) p t = txR (putL l ++ 10 :: r) (p + 2) (t ++ [b]) := by
        rw [e1, List.cons_append, List.cons_append, txR, if_neg (by decide), if_pos rfl]
      rw [e, ih, e1, List.length_cons, List.length_cons]
      simp only [List.append_assoc, List.cons_append, List.nil_append, Prod.mk.injEq, true_and, and_true]
      omega
    · have ih := tx_put r l (p + 1) (t ++ [b])
      have e1 : putL (b :: l) = b :: putL l := by simp [putL, hb]
      have e : txR (putL (b :: l) ++ 10 :: r) p t = txR (putL l ++ 10 :: r) (p + 1) (t ++ [b]) := by
        rw [e1, List.cons_append]
        cases hl : putL l ++ 10 :: r with
        | nil => simp at hl
        | cons c q => rw [txR, if_neg (fun h => hb (.inl h)), if_neg (fun h => hb (.inr h))]
      rw [e, ih, e1, List.length_cons]
      simp only [List.append_assoc, List.cons_append, List.nil_append, Prod.mk.injEq, true_and, and_true]
      omega

end scanP
end Go.Proofs.YtcfbmdelgfkfeaaDoor
