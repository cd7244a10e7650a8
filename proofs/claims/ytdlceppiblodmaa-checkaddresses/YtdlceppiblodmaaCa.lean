/- check, pure: what the document's Check answers, over commands as far as it looks at them; no function of the program. -/
import Derived.Test.YtdlceppiblodmaaProg
namespace Go.Proofs.Ytdlceppiblodmaa
namespace chkP

/-- A command, as far as Check looks at it. -/
structure Cm where
  pl : Int
  ak : Int
  bk : Int
  nt : Bool
  nm : UInt8
  lb : List UInt8

/-- The error of a command's addresses. -/
def adrR (c : Cm) : Nat :=
  if ([58, 125] : List UInt8).contains c.nm then (if c.ak ≠ 0 ∨ c.bk ≠ 0 ∨ c.nt = true then 17 else 0)
  else if ([97, 105, 114, 113, 61] : List UInt8).contains c.nm then (if c.bk ≠ 0 then 17 else 0)
  else if ([123, 98, 99, 100, 68, 103, 71, 104, 72, 108, 110, 78, 112, 80, 115, 116, 119, 120, 121] : List UInt8).contains c.nm then (if c.bk ≠ 0 ∧ c.ak = 0 then 17 else 0)
  else 18
/-- Is there a : with this label? -/
def labB (l : List Cm) (s : List UInt8) : Bool := l.any fun c => c.nm == 58 && c.lb == s
/-- One command behind those of pre, with so many blocks open: the error, and how many are open then. -/
def oneR (pre : List Cm) (d : Nat) (c : Cm) : Nat × Nat :=
  if adrR c ≠ 0 then (adrR c, d)
  else if c.nm = 123 then (if 16 < d + 1 then (13, d + 1) else (0, d + 1))
  else if c.nm = 125 then (if d = 0 then (23, 0) else (0, d - 1))
  else if c.nm = 58 ∧ (c.lb = [] ∨ 32 < c.lb.length ∨ labB pre c.lb = true) then (22, d) else (0, d)
/-- All commands: the first error with its place, or how many blocks are open. -/
def goR (pre : List Cm) (d : Nat) : List Cm → (Nat × Int) ⊕ Nat
  | [] => .inr d
  | c :: r => if (oneR pre d c).1 ≠ 0 then .inl ((oneR pre d c).1, c.pl) else goR (pre ++ [c]) (oneR pre d c).2 r
/-- The places of the blocks that are open, the last one first. -/
def openR : List Cm → List Int → List Int
  | [], st => st
  | c :: r, st => openR r (if c.nm = 123 then c.pl :: st else if c.nm = 125 then st.tail else st)
/-- The first jump whose label isn't there. -/
def jumpR (all : List Cm) : List Cm → Option Int
  | [] => none
  | c :: r => if (c.nm = 98 ∨ c.nm = 116) ∧ c.lb ≠ [] ∧ labB all c.lb = false then some c.pl else jumpR all r
def chkR (l : List Cm) : Nat × Int :=
  match goR [] 0 l with
  | .inl x => x
  | .inr d => if d ≠ 0 then (23, (openR l []).headD 0) else match jumpR l l with
    | some p => (22, p)
    | none => (0, 0)

/-- The document's examples. -/
def cm (nm : UInt8) (p : Int) : Cm := ⟨p, 0, 0, false, nm, []⟩
theorem ex_open : chkR [cm 123 4, cm 112 5] = (23, 4) := by decide
theorem ex_one : chkR [cm 112 0] = (0, 0) := by decide
theorem ex_shut : chkR [cm 125 0] = (23, 0) := by decide

/-- How many blocks are open is how many places are known. -/
theorem open_len : ∀ (l pre : List Cm) (d : Nat) (st : List Int), st.length = d → ∀ e, goR pre d l = .inr e → (openR l st).length = e
  | [], _, d, st, h, e, he => by
    cases he
    exact h
  | c :: r, pre, d, st, h, e, he => by
    unfold goR at he
    split at he
    · cases he
    · rename_i h0
      refine open_len r _ _ _ ?_ e he
      have h1 : (oneR pre d c).1 = 0 := by simpa using h0
      unfold oneR at h1 ⊢
      by_cases ha : adrR c = 0
      · simp only [ha, ne_eq, not_true, if_false] at h1 ⊢
        by_cases h2 : c.nm = 123
        · simp only [h2, if_true] at h1 ⊢
          by_cases h3 : 16 < d + 1
          · simp [h3] at h1
          · simp [h3, h]
        · by_cases h3 : c.nm = 125
          · simp only [h3] at h1 ⊢
            by_cases h4 : d = 0
            · simp [h4] at h1
            · simp [h4, h]
          · simp only [h2, h3, if_false] at h1 ⊢
            split
            · exact h
            · exact h
      · simp [ha] at h1
end chkP
end Go.Proofs.Ytdlceppiblodmaa
