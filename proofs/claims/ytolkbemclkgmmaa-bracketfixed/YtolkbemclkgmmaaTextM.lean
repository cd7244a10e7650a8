/- bracket.Text: a set's one text, byte by byte: the mathematics. -/
import Derived.Test.YtolkbemclkgmmaaMem
namespace Go.Proofs.Ytolkbemclkgmmaa

/-- One of the four bytes that are written as [.c.]. -/
def spec4 (b : Nat) : Bool := b == 93 || b == 94 || b == 45 || b == 91

/-- What is gathered, let out. -/
def flush (p : List Nat × List Nat) : List Nat := p.1 ++ (if p.2.length < 3 then p.2 else [p.2.headD 0, 45, p.2.getLastD 0])

/-- One byte more: what is written so far, and the run that is gathered. -/
def tstep (p : List Nat × List Nat) (b : Nat) : List Nat × List Nat :=
  if spec4 b then (flush p ++ [91, 46, b, 46, 93], [])
  else if p.2 = [] ∨ p.2.getLastD 0 + 1 = b then (p.1, p.2 ++ [b]) else (flush p, [b])

def textSt (l : List Nat) : List Nat × List Nat := l.foldl tstep ([91], [])
def textL (l : List Nat) : List Nat := if l = [] then [91, 94, 0, 45, 255, 93] else flush (textSt l) ++ [93]

theorem textSt_snoc (l : List Nat) (b : Nat) : textSt (l ++ [b]) = tstep (textSt l) b := by simp [textSt]
theorem textSt_take (l : List Nat) (k : Nat) (h : k < l.length) : textSt (l.take (k + 1)) = tstep (textSt (l.take k)) l[k] := by
  rw [List.take_succ_eq_append_getElem h, textSt_snoc]

theorem flush_nil (o : List Nat) : flush (o, []) = o := by simp [flush]

theorem tstep_special (p : List Nat × List Nat) (b : Nat) (h : spec4 b = true) : tstep p b = (flush p ++ [91, 46, b, 46, 93], []) := by simp [tstep, h]
theorem tstep_start (p : List Nat × List Nat) (b : Nat) (h : spec4 b = false) (hb : p.2 = [] ∨ ¬ p.2.getLastD 0 + 1 = b) : tstep p b = (flush p, [b]) := by
  obtain ⟨o, r⟩ := p
  rcases hb with hb | hb
  · simp only at hb
    subst hb
    simp [tstep, h, flush_nil]
  · by_cases hr : r = []
    · subst hr
      simp [tstep, h, flush_nil]
    · rw [tstep, if_neg (by simp [h]), if_neg (by rintro (x | x); exact hr x; exact hb x)]
theorem tstep_on (p : List Nat × List Nat) (b : Nat) (h : spec4 b = false) (hl : p.2.getLastD 0 + 1 = b) : tstep p b = (p.1, p.2 ++ [b]) := by
  rw [tstep, if_neg (by simp [h]), if_pos (.inr hl)]

theorem flush_len (p : List Nat × List Nat) : (flush p).length ≤ p.1.length + p.2.length := by
  obtain ⟨o, r⟩ := p
  unfold flush
  simp only [List.length_append]
  split
  · omega
  · simp; omega

theorem tstep_len (p : List Nat × List Nat) (b : Nat) : (tstep p b).1.length + (tstep p b).2.length ≤ p.1.length + p.2.length + 5 := by
  have h := flush_len p
  unfold tstep
  split
  · simp; omega
  · split
    · simp; omega
    · simp; omega

theorem textSt_len (l : List Nat) : (textSt l).1.length + (textSt l).2.length ≤ 1 + 5 * l.length := by
  suffices h : ∀ p : List Nat × List Nat, (l.foldl tstep p).1.length + (l.foldl tstep p).2.length ≤ p.1.length + p.2.length + 5 * l.length by
    have := h ([91], [])
    simpa [textSt, Nat.add_comm] using this
  induction l with
  | nil => intro p; simp
  | cons b l ih =>
    intro p
    have h1 := ih (tstep p b)
    have h2 := tstep_len p b
    simp only [List.foldl_cons, List.length_cons]
    omega

/-- The run ends with the byte read last, where there is one. -/
theorem textSt_run (l : List Nat) (b : Nat) (h : spec4 b = false) : (textSt (l ++ [b])).2 ≠ [] ∧ (textSt (l ++ [b])).2.getLastD 0 = b := by
  rw [textSt_snoc]
  unfold tstep
  rw [if_neg (by simp [h])]
  split <;> simp
end Go.Proofs.Ytolkbemclkgmmaa
