/- listing in plain mathematics: escapes, lines, what is read of them. -/
import Derived.Test.YtiegmgcdfafhiaaDoorUk
namespace Go.Proofs.YtiegmgcdfafhiaaDoor

theorem bst_inj {l m : List UInt8} (h : bst l = bst m) : l = m := by rw [← bst_list l, ← bst_list m, h]

/-- One byte as it is written. -/
def escB (b : UInt8) : List UInt8 :=
  if b.toNat = 92 then [92, 92]
  else if 7 ≤ b.toNat ∧ b.toNat ≤ 13 then [92, ([97, 98, 116, 110, 118, 102, 114] : List UInt8).getD (b.toNat - 7) 0]
  else if 32 ≤ b.toNat ∧ b.toNat ≤ 126 then [b]
  else [92, UInt8.ofNat (48 + b.toNat / 64), UInt8.ofNat (48 + b.toNat / 8 % 8), UInt8.ofNat (48 + b.toNat % 8)]
/-- A text's escapes, one behind the other. -/
def escT : List UInt8 → List UInt8
  | [] => []
  | b :: r => escB b ++ escT r
theorem escT_app (l m : List UInt8) : escT (l ++ m) = escT l ++ escT m := by
  induction l with
  | nil => rfl
  | cons b r ih => simp only [List.cons_append, escT, ih, List.append_assoc]

theorem all_bytes {p : UInt8 → Prop} (h : ∀ n : Fin 256, p (UInt8.ofNat n.val)) (b : UInt8) : p b := by
  have := h ⟨b.toNat, b.toNat_lt⟩
  simpa using this

theorem escB_len (b : UInt8) : 1 ≤ (escB b).length ∧ (escB b).length ≤ 4 := by
  unfold escB
  split
  · simp
  · split
    · simp
    · split <;> simp
theorem escB_ne (b : UInt8) : escB b ≠ [] := fun h => by
  have := (escB_len b).1
  rw [h] at this
  simp at this
theorem escT_len (l : List UInt8) : l.length ≤ (escT l).length ∧ (escT l).length ≤ 4 * l.length := by
  induction l with
  | nil => simp [escT]
  | cons b r ih =>
    have := escB_len b
    simp only [escT, List.length_append, List.length_cons]
    omega
/-- All that is written can be seen. -/
theorem escB_seen (b : UInt8) : ∀ c ∈ escB b, 32 ≤ c.toNat ∧ c.toNat ≤ 126 := by
  have : ∀ n : Fin 256, ∀ c ∈ escB (UInt8.ofNat n.val), 32 ≤ c.toNat ∧ c.toNat ≤ 126 := by decide +kernel
  exact all_bytes (p := fun b => ∀ c ∈ escB b, 32 ≤ c.toNat ∧ c.toNat ≤ 126) this b
theorem escT_seen (l : List UInt8) : ∀ c ∈ escT l, 32 ≤ c.toNat ∧ c.toNat ≤ 126 := by
  induction l with
  | nil => intro c hc; simp [escT] at hc
  | cons b r ih =>
    intro c hc
    rw [escT, List.mem_append] at hc
    exact hc.elim (escB_seen b c) (ih c)

/-- The lines: line is what stands in the line that is begun. -/
def lnR : List UInt8 → List UInt8 → List (List UInt8)
  | [], line => [line ++ [36]]
  | b :: r, line => if 69 < line.length + (escB b).length then (line ++ [92]) :: lnR r (escB b) else lnR r (line ++ escB b)
def linesL (t : List UInt8) : List (List UInt8) := lnR t []

theorem lnR_ne : ∀ (t line : List UInt8), lnR t line ≠ []
  | [], line => by simp [lnR]
  | b :: r, line => by
    rw [lnR]
    split
    · simp
    · exact lnR_ne r _
theorem lnR_count : ∀ (t line : List UInt8), (lnR t line).length ≤ t.length + 1
  | [], line => by simp [lnR]
  | b :: r, line => by
    rw [lnR]
    split
    · have := lnR_count r (escB b)
      simp only [List.length_cons]
      omega
    · have := lnR_count r (line ++ escB b)
      simp only [List.length_cons]
      omega
/-- How a line may look: not the last one, the last one. -/
def okLine (last : Bool) (x : List UInt8) : Prop :=
  x.length ≤ 70 ∧ (∀ c ∈ x, 32 ≤ c.toNat ∧ c.toNat ≤ 126) ∧ (if last then x.getLast? = some 36 else x.getLast? = some 92 ∧ 67 ≤ x.length)
theorem lnR_ok : ∀ (t line : List UInt8), line.length ≤ 69 → (∀ c ∈ line, 32 ≤ c.toNat ∧ c.toNat ≤ 126) → ∀ i x, (lnR t line)[i]? = some x → okLine (i + 1 == (lnR t line).length) x
  | [], line, hl, hs, i, x, h => by
    match i with
    | 0 =>
      simp only [lnR, List.getElem?_cons_zero, Option.some.injEq] at h
      subst h
      refine ⟨by simp; omega, fun c hc => ?_, by simp [lnR]⟩
      rw [List.mem_append, List.mem_singleton] at hc
      rcases hc with hc | rfl
      · exact hs c hc
      · decide
    | i + 1 => simp [lnR] at h
  | b :: r, line, hl, hs, i, x, h => by
    have hb := escB_len b
    rw [lnR] at h ⊢
    split at h
    · rename_i hbig
      rw [if_pos hbig]
      match i with
      | 0 =>
        simp only [List.getElem?_cons_zero, Option.some.injEq] at h
        subst h
        have hn := lnR_ne r (escB b)
        have hp : 0 < (lnR r (escB b)).length := List.length_pos_iff.2 hn
        have e : ((0 + 1 == (lnR r (escB b)).length + 1) : Bool) = false := by rw [beq_eq_false_iff_ne]; omega
        simp only [List.length_cons]
        rw [e]
        refine ⟨by simp; omega, fun c hc => ?_, by simp; omega⟩
        rw [List.mem_append, List.mem_singleton] at hc
        rcases hc with hc | rfl
        · exact hs c hc
        · decide
      | i + 1 =>
        have := lnR_ok r (escB b) (by omega) (escB_seen b) i x (by simpa using h)
        simp only [List.length_cons]
        rw [show ((i + 1 + 1 == (lnR r (escB b)).length + 1) : Bool) = (i + 1 == (lnR r (escB b)).length) from by rw [Bool.eq_iff_iff]; simp]
        exact this
    · rename_i hbig
      rw [if_neg hbig]
      exact lnR_ok r (line ++ escB b) (by simp; omega) (fun c hc => (List.mem_append.1 hc).elim (hs c) (escB_seen b c)) i x h
theorem lines_ok (t : List UInt8) (i : Nat) (x : List UInt8) (h : (linesL t)[i]? = some x) : okLine (i + 1 == (linesL t).length) x := lnR_ok t [] (by simp) (by simp) i x h

/-- Line by line, the escapes that stand there. -/
theorem lnR_parts {α : Type} (f : List UInt8 → List α) (g : List UInt8 → List α) (hf : ∀ c, f (escT c) = g c) (hg : ∀ c d, g (c ++ d) = g c ++ g d) : ∀ (t line c : List UInt8), line = escT c → ((lnR t line).map fun x => f x.dropLast).flatten = g (c ++ t)
  | [], line, c, h => by simp [lnR, h, hf]
  | b :: r, line, c, h => by
    rw [lnR]
    split
    · have := lnR_parts f g hf hg r (escB b) [b] (by simp [escT])
      simp only [List.map_cons, List.flatten_cons, List.dropLast_concat, h, hf]
      rw [this, ← hg]
      simp
    · have := lnR_parts f g hf hg r (line ++ escB b) (c ++ [b]) (by rw [h, escT_app]; simp [escT])
      rw [this]
      simp
theorem lines_esc (t : List UInt8) : ((linesL t).map fun x => x.dropLast).flatten = escT t := lnR_parts id escT (fun _ => rfl) escT_app t [] [] rfl

/-- What three octal digits stand for. -/
def octN (a b c : UInt8) : Option Nat :=
  if 48 ≤ a.toNat ∧ a.toNat ≤ 55 ∧ 48 ≤ b.toNat ∧ b.toNat ≤ 55 ∧ 48 ≤ c.toNat ∧ c.toNat ≤ 55 then
    (let n := 64 * (a.toNat - 48) + 8 * (b.toNat - 48) + (c.toNat - 48)
     if n ≤ 255 then some n else none)
  else none
/-- The number of a letter among abtnvfr; 7: none. -/
def letN (b : UInt8) : Nat := ([97, 98, 116, 110, 118, 102, 114] : List UInt8).idxOf b
/-- The byte that is written at a text's beginning, and how long its escape is. -/
def unesc (l : List UInt8) : UInt8 × Nat :=
  match l with
  | [] => (0, 1)
  | [x] => (x, 1)
  | x :: y :: r =>
    if x.toNat ≠ 92 then (x, 1)
    else if y.toNat = 92 then (92, 2)
    else if letN y < 7 then (UInt8.ofNat (7 + letN y), 2)
    else match r with
      | z :: v :: _ => match octN y z v with
        | some n => (UInt8.ofNat n, 4)
        | none => (92, 1)
      | _ => (92, 1)
theorem unesc_pos (l : List UInt8) : 1 ≤ (unesc l).2 := by
  unfold unesc
  repeat' split
  all_goals simp
theorem unesc_le (l : List UInt8) (h : l ≠ []) : (unesc l).2 ≤ l.length := by
  unfold unesc
  repeat' split
  all_goals simp_all
/-- What is read of a row of escapes. -/
def mdec (l : List UInt8) : List UInt8 := if _h : l = [] then [] else (unesc l).1 :: mdec (l.drop (unesc l).2)
  termination_by l.length
  decreasing_by
    have := unesc_pos l
    have : 0 < l.length := List.length_pos_iff.2 _h
    simp only [List.length_drop]
    omega

theorem unesc_esc (b : UInt8) (r : List UInt8) : unesc (escB b ++ r) = (b, (escB b).length) := by
  by_cases h1 : b.toNat = 92
  · have : b = 92 := UInt8.toNat_inj.1 h1
    subst this
    rfl
  · by_cases h2 : 7 ≤ b.toNat ∧ b.toNat ≤ 13
    · have e : escB b = [92, ([97, 98, 116, 110, 118, 102, 114] : List UInt8).getD (b.toNat - 7) 0] := by unfold escB; rw [if_neg h1, if_pos h2]
      have hk : b = UInt8.ofNat b.toNat := by simp
      have : ∀ n : Fin 7, letN (([97, 98, 116, 110, 118, 102, 114] : List UInt8).getD n.val 0) = n.val ∧ (([97, 98, 116, 110, 118, 102, 114] : List UInt8).getD n.val 0).toNat ≠ 92 := by decide
      have h3 := this ⟨b.toNat - 7, by omega⟩
      simp only at h3
      rw [e]
      simp only [List.cons_append, List.nil_append, unesc]
      rw [if_neg (by decide), if_neg h3.2, h3.1, if_pos (by omega), show 7 + (b.toNat - 7) = b.toNat by omega]
      simp
    · by_cases h3 : 32 ≤ b.toNat ∧ b.toNat ≤ 126
      · have e : escB b = [b] := by unfold escB; rw [if_neg h1, if_neg h2, if_pos h3]
        rw [e]
        cases r with
        | nil => rfl
        | cons x r => simp only [List.cons_append, List.nil_append, unesc]; rw [if_pos h1]; rfl
      · have e : escB b = [92, UInt8.ofNat (48 + b.toNat / 64), UInt8.ofNat (48 + b.toNat / 8 % 8), UInt8.ofNat (48 + b.toNat % 8)] := by unfold escB; rw [if_neg h1, if_neg h2, if_neg h3]
        have hb := b.toNat_lt
        have t1 : (UInt8.ofNat (48 + b.toNat / 64)).toNat = 48 + b.toNat / 64 := by simp; omega
        have t2 : (UInt8.ofNat (48 + b.toNat / 8 % 8)).toNat = 48 + b.toNat / 8 % 8 := by simp; omega
        have t3 : (UInt8.ofNat (48 + b.toNat % 8)).toNat = 48 + b.toNat % 8 := by simp; omega
        have ho : octN (UInt8.ofNat (48 + b.toNat / 64)) (UInt8.ofNat (48 + b.toNat / 8 % 8)) (UInt8.ofNat (48 + b.toNat % 8)) = some b.toNat := by
          unfold octN
          rw [t1, t2, t3, if_pos (by omega)]
          dsimp only
          rw [if_pos (by omega)]
          congr 1
          omega
        have hl : ∀ n : Fin 4, ¬ letN (UInt8.ofNat (48 + n.val)) < 7 := by decide
        rw [e]
        simp only [List.cons_append, List.nil_append, unesc]
        rw [if_neg (by decide), if_neg (by rw [t1]; omega), if_neg (hl ⟨b.toNat / 64, by omega⟩), ho]
        simp
theorem mdec_esc (t : List UInt8) : mdec (escT t) = t := by
  induction t with
  | nil => unfold mdec; simp [escT]
  | cons b r ih =>
    rw [mdec, dif_neg (by rw [escT]; simp [escB_ne]), escT, unesc_esc]
    simp [ih]
def meantL (ls : List (List UInt8)) : List UInt8 := (ls.map fun x => mdec x.dropLast).flatten
theorem meant_lines (t : List UInt8) : meantL (linesL t) = t := lnR_parts mdec id mdec_esc (fun _ _ => rfl) t [] [] rfl
theorem lines_inj {t u : List UInt8} (h : linesL t = linesL u) : t = u := by rw [← meant_lines t, h, meant_lines]

/-- What Read answers. -/
def readR (ls : List (List UInt8)) : List UInt8 × Nat := if linesL (meantL ls) = ls then (meantL ls, 0) else ([], 19)
theorem read_lines (t : List UInt8) : readR (linesL t) = (t, 0) := by unfold readR; rw [meant_lines, if_pos rfl]
theorem read_none {ls : List (List UInt8)} (h : ∀ t, linesL t ≠ ls) : readR ls = ([], 19) := by unfold readR; rw [if_neg (h _)]

end Go.Proofs.YtiegmgcdfafhiaaDoor
