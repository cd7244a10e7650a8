/- template: replacements in plain mathematics: what Parse, Refs, Text and Build answer. -/
import Derived.WalkKit
namespace Go.Proofs.Ytbncokfpkkmoiaa

/-- A part: its group's number, its text. -/
structure Pt where
  g : Int
  t : ByteArray

/-- The cells of parts, one behind the other. -/
def ptV : List Pt → List Value
  | [] => []
  | p :: r => .int .i64 p.g :: .string p.t :: ptV r

theorem ptV_len (l : List Pt) : (ptV l).length = l.length * 2 := by
  induction l with
  | nil => rfl
  | cons p r ih => simp only [ptV, List.length_cons, ih]; omega
theorem ptV_app (l m : List Pt) : ptV (l ++ m) = ptV l ++ ptV m := by
  induction l with
  | nil => rfl
  | cons p r ih => simp only [List.cons_append, ptV, ih]
theorem ptV_at : ∀ (l : List Pt) (i : Nat) (p : Pt), l[i]? = some p → (ptV l)[i * 2]? = some (.int .i64 p.g) ∧ (ptV l)[i * 2 + 1]? = some (.string p.t)
  | [], i, p, h => by simp at h
  | q :: r, 0, p, h => by
    cases h
    exact ⟨rfl, rfl⟩
  | q :: r, i + 1, p, h => by
    have h2 := ptV_at r i p (by simpa using h)
    rw [show (i + 1) * 2 = i * 2 + 1 + 1 by omega]
    exact ⟨by simpa [ptV] using h2.1, by simpa [ptV] using h2.2⟩

/-- A text as a string. -/
def bst (l : List UInt8) : ByteArray := ⟨l.toArray⟩
theorem bst_size (l : List UInt8) : (bst l).size = l.length := by simp [bst, ByteArray.size]
theorem bst_data (s : ByteArray) : bst s.data.toList = s := by simp [bst]
theorem bst_list (l : List UInt8) : (bst l).data.toList = l := by simp [bst]

/-- What was gathered: the parts, and bytes behind them. -/
structure Ga where
  ps : List Pt
  bs : List UInt8

def Ga.plain (x : Ga) (b : UInt8) : Ga := ⟨x.ps, x.bs ++ [b]⟩
def Ga.out (x : Ga) : Ga := if x.bs = [] then x else ⟨x.ps ++ [⟨-1, bst x.bs⟩], []⟩
def Ga.group (x : Ga) (n : Int) : Ga := ⟨x.out.ps ++ [⟨n, bst []⟩], []⟩
def Ga.esc (x : Ga) (b : UInt8) : Ga := if 48 ≤ b.toNat ∧ b.toNat ≤ 57 then x.group ((b.toNat - 48 : Nat) : Int) else if b.toNat = 110 then x.plain 10 else x.plain b

theorem out_bs (x : Ga) : x.out.bs = [] := by
  unfold Ga.out
  split <;> simp_all

/-- The reader: what is gathered, or the fault and its place. -/
def runP : List UInt8 → Nat → Ga → Ga × Nat × Nat
  | [], _, x => (x.out, 0, 0)
  | b :: r, k, x =>
    if b.toNat = 38 then runP r (k + 1) (x.group 0)
    else if b.toNat = 10 then (⟨[], []⟩, 19, k)
    else if b.toNat ≠ 92 then runP r (k + 1) (x.plain b)
    else match r with
      | [] => (⟨[], []⟩, 6, k)
      | c :: q => runP q (k + 2) (x.esc c)
  termination_by l => l.length

def parseR (s : List UInt8) : Ga × Nat × Nat := if 4096 < s.length then (⟨[], []⟩, 2, 0) else runP s 0 ⟨[], []⟩

/-- How many parts there can be. -/
def Ga.wt (x : Ga) : Nat := x.ps.length + (if x.bs = [] then 0 else 1)
theorem plain_wt (x : Ga) (b : UInt8) : (x.plain b).wt ≤ x.wt + 1 := by
  unfold Ga.wt Ga.plain
  simp only
  split <;> split <;> omega
theorem out_len (x : Ga) : x.out.ps.length ≤ x.ps.length + 1 := by
  unfold Ga.out
  split <;> simp
theorem out_wt (x : Ga) : x.out.ps.length = x.wt := by
  unfold Ga.out Ga.wt
  split <;> simp
theorem group_wt (x : Ga) (n : Int) : (x.group n).wt ≤ x.wt + 1 := by
  have := out_wt x
  simp only [Ga.group, Ga.wt, List.length_append, List.length_singleton] at *
  simp only [if_true]
  omega

/-- The greatest group. -/
def refsN : List Pt → Int → Int
  | [], n => n
  | p :: r, n => refsN r (max n p.g)

/-- Bytes so that the reader takes them as themselves. -/
def escL : List UInt8 → List UInt8
  | [] => []
  | b :: r => (if b.toNat = 10 then [92, 110] else if b.toNat = 92 ∨ b.toNat = 38 then [92, b] else [b]) ++ escL r
theorem escL_app (l m : List UInt8) : escL (l ++ m) = escL l ++ escL m := by
  induction l with
  | nil => rfl
  | cons b r ih => simp only [List.cons_append, escL, ih, List.append_assoc]
theorem escL_len (l : List UInt8) : (escL l).length ≤ 2 * l.length := by
  induction l with
  | nil => simp [escL]
  | cons b r ih =>
    simp only [escL, List.length_append, List.length_cons]
    split
    · simp only [List.length_cons, List.length_nil]; omega
    · split <;> simp only [List.length_cons, List.length_nil] <;> omega

/-- One part written. -/
def oneT (p : Pt) : List UInt8 := if p.g = -1 then escL p.t.data.toList else if p.g = 0 then [38] else [92, UInt8.ofNat (48 + p.g.toNat)]
def badT (p : Pt) : Bool := decide (p.g < -1 ∨ 9 < p.g)
/-- Parts written, behind what is written; none where one can't be. -/
def textR : List Pt → List UInt8 → Option (List UInt8)
  | [], l => some l
  | p :: r, l => if badT p then none else textR r (l ++ oneT p)

/-- What a group has matched. -/
def matL (s : List UInt8) (sp : List (Int × Int)) (g : Int) : List UInt8 :=
  match sp[g.toNat]? with
  | none => []
  | some (f, t) => if 0 ≤ f ∧ f ≤ t ∧ t ≤ s.length then (s.drop f.toNat).take (t.toNat - f.toNat) else []
def pieceL (s : List UInt8) (sp : List (Int × Int)) (p : Pt) : List UInt8 := if p.g = -1 then p.t.data.toList else matL s sp p.g
/-- What parts make of a match, behind what is made: the text, or an error's number. -/
def buildR (s : List UInt8) (sp : List (Int × Int)) : List Pt → List UInt8 → List UInt8 × Nat
  | [], l => (l, 0)
  | p :: r, l => if p.g < -1 then ([], 1) else if 1024 < l.length + (pieceL s sp p).length then ([], 15) else buildR s sp r (l ++ pieceL s sp p)

end Go.Proofs.Ytbncokfpkkmoiaa
