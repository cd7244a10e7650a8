/- BsetClasses returns true: the twelve classes have their sizes and lie to one another as the document says. A closed statement: no input, no condition. -/
import Derived.Test.YtfmgpcefghoncabOpen
import Derived.Test.YtfmgpcefghoncabClassA
import Derived.Test.YtfmgpcefghoncabClassB
import Derived.Test.YtfmgpcefghoncabClassC
import Derived.Test.YtfmgpcefghoncabClassD
import Derived.Test.YtfmgpcefghoncabMem
import Derived.Lib.QuietBelow
import Derived.BigQuiet
import Derived.Deep.RegionHeld
namespace Go.Proofs.Ytfmgpcefghoncab.clss
open Go.ChangeShapes Go.WideShapes Go.ChangeAt Go.RowKit
open Go.Sort (grow)
set_option linter.unusedVariables false

def nm : Nat → ByteArray
  | 0 => ⟨#[97, 108, 110, 117, 109]⟩
  | 1 => ⟨#[97, 108, 112, 104, 97]⟩
  | 2 => ⟨#[98, 108, 97, 110, 107]⟩
  | 3 => ⟨#[99, 110, 116, 114, 108]⟩
  | 4 => ⟨#[100, 105, 103, 105, 116]⟩
  | 5 => ⟨#[103, 114, 97, 112, 104]⟩
  | 6 => ⟨#[108, 111, 119, 101, 114]⟩
  | 7 => ⟨#[112, 114, 105, 110, 116]⟩
  | 8 => ⟨#[112, 117, 110, 99, 116]⟩
  | 9 => ⟨#[115, 112, 97, 99, 101]⟩
  | 10 => ⟨#[117, 112, 112, 101, 114]⟩
  | _ => ⟨#[120, 100, 105, 103, 105, 116]⟩

def cls : Nat → Nat → Bool
  | 0 => (orP (orP (spanP 65 90) (spanP 97 122)) (spanP 48 57))
  | 1 => (orP (spanP 65 90) (spanP 97 122))
  | 2 => (ofP ⟨#[32, 9]⟩)
  | 3 => (ins (spanP 0 31) 127)
  | 4 => (spanP 48 57)
  | 5 => (spanP 33 126)
  | 6 => (spanP 97 122)
  | 7 => (ins (spanP 33 126) 32)
  | 8 => (andP (spanP 33 126) (notP (orP (orP (spanP 65 90) (spanP 97 122)) (spanP 48 57))))
  | 9 => (ins (spanP 9 13) 32)
  | 10 => (spanP 65 90)
  | _ => (orP (spanP 48 57) (orP (spanP 65 70) (spanP 97 102)))

def siz : Nat → Int
  | 0 => 62
  | 1 => 52
  | 2 => 2
  | 3 => 33
  | 4 => 10
  | 5 => 94
  | 6 => 26
  | 7 => 95
  | 8 => 32
  | 9 => 6
  | 10 => 26
  | _ => 22


theorem class_k (k : Nat) (hk : k < 12) (w : World) :
    Calls Try.prog 11 #[.string (nm k)] w fun e w' => e = .returned (.tuple #[.agg #[.int .u64 (wd (cls k) 0 : Nat), .int .u64 (wd (cls k) 1 : Nat), .int .u64 (wd (cls k) 2 : Nat), .int .u64 (wd (cls k) 3 : Nat)], .int .i64 0]) ∧ Below w.heap.size w w' := by
  match k, hk with
  | 0, _ => exact class_alnum w
  | 1, _ => exact class_alpha w
  | 2, _ => exact class_blank w
  | 3, _ => exact class_cntrl w
  | 4, _ => exact class_digit w
  | 5, _ => exact class_graph w
  | 6, _ => exact class_lower w
  | 7, _ => exact class_print w
  | 8, _ => exact class_punct w
  | 9, _ => exact class_space w
  | 10, _ => exact class_upper w
  | 11, _ => exact class_xdigit w

theorem card_k (k : Nat) (hk : k < 12) : ((card (cls k) : Nat) : Int) = siz k := by
  match k, hk with
  | 0, _ => decide +kernel
  | 1, _ => decide +kernel
  | 2, _ => decide +kernel
  | 3, _ => decide +kernel
  | 4, _ => decide +kernel
  | 5, _ => decide +kernel
  | 6, _ => decide +kernel
  | 7, _ => decide +kernel
  | 8, _ => decide +kernel
  | 9, _ => decide +kernel
  | 10, _ => decide +kernel
  | 11, _ => decide +kernel

theorem card_out (p : Nat → Bool) : card (andP p (notP (orP p noneP))) = 0 := by
  unfold card
  rw [List.length_eq_zero_iff, List.filter_eq_nil_iff]
  intro n _
  simp [andP, notP, orP, noneP]

/-- The rows of the names and of the sizes. -/
def NmAt (W : World) (b : Nat) : Prop := ∀ j, j < 12 → W.cell? ⟨b, j, none⟩ = some (.string (nm j))
def SzAt (W : World) (b : Nat) : Prop := ∀ j, j < 12 → W.cell? ⟨b, j, none⟩ = some (.int .i64 (siz j))

theorem NmAt.below {W W' : World} {b : Nat} (h : NmAt W b) (hb : Below W.heap.size W W') : NmAt W' b := fun j hj =>
  (hb.cell (p := ⟨b, j, none⟩) (World.block_lt_of_cell? _ _ (h j hj))).trans (h j hj)
theorem SzAt.below {W W' : World} {b : Nat} (h : SzAt W b) (hb : Below W.heap.size W W') : SzAt W' b := fun j hj =>
  (hb.cell (p := ⟨b, j, none⟩) (World.block_lt_of_cell? _ _ (h j hj))).trans (h j hj)

theorem NmAt.grown {W w2 : World} {b : Nat} {o : Obj} {row : Option Nat} (h : NmAt W b) (hg : (W.alloc o).grownBy w2 row) (hne : some b ≠ row) : NmAt w2 b := fun j hj =>
  hg.cell ((World.cell?_alloc_some W _ o (by rw [h j hj]; rfl)).trans (h j hj)) hne
theorem SzAt.grown {W w2 : World} {b : Nat} {o : Obj} {row : Option Nat} (h : SzAt W b) (hg : (W.alloc o).grownBy w2 row) (hne : some b ≠ row) : SzAt w2 b := fun j hj =>
  hg.cell ((World.cell?_alloc_some W _ o (by rw [h j hj]; rfl)).trans (h j hj)) hne

theorem cells_regrown {w : World} {b : Nat} {p : Nat → Bool} (h : Holds4 w b p) (d : Nat) (os : Array Obj) : Holds4 (grow (redrawn w d) os) b p :=
  h.below (below_regrown w d os) h.lt

theorem count_k (k : Nat) (hk : k < 12) (w : World) : Calls Try.prog 25 #[.agg #[.int .u64 (wd (cls k) 0 : Nat), .int .u64 (wd (cls k) 1 : Nat), .int .u64 (wd (cls k) 2 : Nat), .int .u64 (wd (cls k) 3 : Nat)]] w fun e w' => e = .returned (.int .i64 (siz k)) ∧ Below w.heap.size w w' := by
  have h := countD (cls k) w
  rw [card_k k hk] at h
  exact h
theorem count_zero (p : Nat → Bool) (w : World) : Calls Try.prog 25 #[.agg #[.int .u64 (wd (andP p (notP (orP p noneP))) 0 : Nat), .int .u64 (wd (andP p (notP (orP p noneP))) 1 : Nat), .int .u64 (wd (andP p (notP (orP p noneP))) 2 : Nat), .int .u64 (wd (andP p (notP (orP p noneP))) 3 : Nat)]] w fun e w' => e = .returned (.int .i64 0) ∧ Below w.heap.size w w' := by
  have h := countD (andP p (notP (orP p noneP))) w
  rw [card_out] at h
  exact h
theorem or_zero (p : Nat → Bool) (w : World) : Calls Try.prog 18 #[.agg #[.int .u64 (wd p 0 : Nat), .int .u64 (wd p 1 : Nat), .int .u64 (wd p 2 : Nat), .int .u64 (wd p 3 : Nat)], .agg #[.int .u64 0, .int .u64 0, .int .u64 0, .int .u64 0]] w fun e w' => e = .returned (.agg #[.int .u64 (wd (orP p noneP) 0 : Nat), .int .u64 (wd (orP p noneP) 1 : Nat), .int .u64 (wd (orP p noneP) 2 : Nat), .int .u64 (wd (orP p noneP) 3 : Nat)]) ∧ Below w.heap.size w w' := by
  have h := orD p noneP w
  have e : ∀ i, wd noneP i = 0 := fun i => wd_none i
  rw [e, e, e, e] at h
  exact h

/-- The cells of the first k sets. -/
def setCells : Nat → List Value
  | 0 => []
  | k + 1 => setCells k ++ [.int .u64 (wd (cls k) 0 : Nat), .int .u64 (wd (cls k) 1 : Nat), .int .u64 (wd (cls k) 2 : Nat), .int .u64 (wd (cls k) 3 : Nat)]

/-- The row of the twelve sets. -/
def RowAt (W : World) (g : Nat) : Prop := ∀ (j : Nat) (u : Value), (setCells 12)[j]? = some u → W.cell? ⟨g, j, none⟩ = some u
theorem RowAt.below {W W' : World} {g : Nat} (h : RowAt W g) (hb : Below W.heap.size W W') : RowAt W' g := fun j u hj =>
  (hb.cell (p := ⟨g, j, none⟩) (World.block_lt_of_cell? _ _ (h j u hj))).trans (h j u hj)

theorem row0x0 {W : World} {g : Nat} (h : RowAt W g) (d : Nat) (os : Array Obj) : (grow (redrawn W d) os).cell? ⟨g, 0, none⟩ = some (.int .u64 (wd (cls 0) 0 : Nat)) := cell_regrown (h 0 _ rfl) d os
theorem row0x1 {W : World} {g : Nat} (h : RowAt W g) (d : Nat) (os : Array Obj) : (grow (redrawn W d) os).cell? ⟨g, 1, none⟩ = some (.int .u64 (wd (cls 0) 1 : Nat)) := cell_regrown (h 1 _ rfl) d os
theorem row0x2 {W : World} {g : Nat} (h : RowAt W g) (d : Nat) (os : Array Obj) : (grow (redrawn W d) os).cell? ⟨g, 2, none⟩ = some (.int .u64 (wd (cls 0) 2 : Nat)) := cell_regrown (h 2 _ rfl) d os
theorem row0x3 {W : World} {g : Nat} (h : RowAt W g) (d : Nat) (os : Array Obj) : (grow (redrawn W d) os).cell? ⟨g, 3, none⟩ = some (.int .u64 (wd (cls 0) 3 : Nat)) := cell_regrown (h 3 _ rfl) d os
theorem row1x0 {W : World} {g : Nat} (h : RowAt W g) (d : Nat) (os : Array Obj) : (grow (redrawn W d) os).cell? ⟨g, 4, none⟩ = some (.int .u64 (wd (cls 1) 0 : Nat)) := cell_regrown (h 4 _ rfl) d os
theorem row1x1 {W : World} {g : Nat} (h : RowAt W g) (d : Nat) (os : Array Obj) : (grow (redrawn W d) os).cell? ⟨g, 5, none⟩ = some (.int .u64 (wd (cls 1) 1 : Nat)) := cell_regrown (h 5 _ rfl) d os
theorem row1x2 {W : World} {g : Nat} (h : RowAt W g) (d : Nat) (os : Array Obj) : (grow (redrawn W d) os).cell? ⟨g, 6, none⟩ = some (.int .u64 (wd (cls 1) 2 : Nat)) := cell_regrown (h 6 _ rfl) d os
theorem row1x3 {W : World} {g : Nat} (h : RowAt W g) (d : Nat) (os : Array Obj) : (grow (redrawn W d) os).cell? ⟨g, 7, none⟩ = some (.int .u64 (wd (cls 1) 3 : Nat)) := cell_regrown (h 7 _ rfl) d os
theorem row2x0 {W : World} {g : Nat} (h : RowAt W g) (d : Nat) (os : Array Obj) : (grow (redrawn W d) os).cell? ⟨g, 8, none⟩ = some (.int .u64 (wd (cls 2) 0 : Nat)) := cell_regrown (h 8 _ rfl) d os
theorem row2x1 {W : World} {g : Nat} (h : RowAt W g) (d : Nat) (os : Array Obj) : (grow (redrawn W d) os).cell? ⟨g, 9, none⟩ = some (.int .u64 (wd (cls 2) 1 : Nat)) := cell_regrown (h 9 _ rfl) d os
theorem row2x2 {W : World} {g : Nat} (h : RowAt W g) (d : Nat) (os : Array Obj) : (grow (redrawn W d) os).cell? ⟨g, 10, none⟩ = some (.int .u64 (wd (cls 2) 2 : Nat)) := cell_regrown (h 10 _ rfl) d os
theorem row2x3 {W : World} {g : Nat} (h : RowAt W g) (d : Nat) (os : Array Obj) : (grow (redrawn W d) os).cell? ⟨g, 11, none⟩ = some (.int .u64 (wd (cls 2) 3 : Nat)) := cell_regrown (h 11 _ rfl) d os
theorem row3x0 {W : World} {g : Nat} (h : RowAt W g) (d : Nat) (os : Array Obj) : (grow (redrawn W d) os).cell? ⟨g, 12, none⟩ = some (.int .u64 (wd (cls 3) 0 : Nat)) := cell_regrown (h 12 _ rfl) d os
theorem row3x1 {W : World} {g : Nat} (h : RowAt W g) (d : Nat) (os : Array Obj) : (grow (redrawn W d) os).cell? ⟨g, 13, none⟩ = some (.int .u64 (wd (cls 3) 1 : Nat)) := cell_regrown (h 13 _ rfl) d os
theorem row3x2 {W : World} {g : Nat} (h : RowAt W g) (d : Nat) (os : Array Obj) : (grow (redrawn W d) os).cell? ⟨g, 14, none⟩ = some (.int .u64 (wd (cls 3) 2 : Nat)) := cell_regrown (h 14 _ rfl) d os
theorem row3x3 {W : World} {g : Nat} (h : RowAt W g) (d : Nat) (os : Array Obj) : (grow (redrawn W d) os).cell? ⟨g, 15, none⟩ = some (.int .u64 (wd (cls 3) 3 : Nat)) := cell_regrown (h 15 _ rfl) d os
theorem row4x0 {W : World} {g : Nat} (h : RowAt W g) (d : Nat) (os : Array Obj) : (grow (redrawn W d) os).cell? ⟨g, 16, none⟩ = some (.int .u64 (wd (cls 4) 0 : Nat)) := cell_regrown (h 16 _ rfl) d os
theorem row4x1 {W : World} {g : Nat} (h : RowAt W g) (d : Nat) (os : Array Obj) : (grow (redrawn W d) os).cell? ⟨g, 17, none⟩ = some (.int .u64 (wd (cls 4) 1 : Nat)) := cell_regrown (h 17 _ rfl) d os
theorem row4x2 {W : World} {g : Nat} (h : RowAt W g) (d : Nat) (os : Array Obj) : (grow (redrawn W d) os).cell? ⟨g, 18, none⟩ = some (.int .u64 (wd (cls 4) 2 : Nat)) := cell_regrown (h 18 _ rfl) d os
theorem row4x3 {W : World} {g : Nat} (h : RowAt W g) (d : Nat) (os : Array Obj) : (grow (redrawn W d) os).cell? ⟨g, 19, none⟩ = some (.int .u64 (wd (cls 4) 3 : Nat)) := cell_regrown (h 19 _ rfl) d os
theorem row5x0 {W : World} {g : Nat} (h : RowAt W g) (d : Nat) (os : Array Obj) : (grow (redrawn W d) os).cell? ⟨g, 20, none⟩ = some (.int .u64 (wd (cls 5) 0 : Nat)) := cell_regrown (h 20 _ rfl) d os
theorem row5x1 {W : World} {g : Nat} (h : RowAt W g) (d : Nat) (os : Array Obj) : (grow (redrawn W d) os).cell? ⟨g, 21, none⟩ = some (.int .u64 (wd (cls 5) 1 : Nat)) := cell_regrown (h 21 _ rfl) d os
theorem row5x2 {W : World} {g : Nat} (h : RowAt W g) (d : Nat) (os : Array Obj) : (grow (redrawn W d) os).cell? ⟨g, 22, none⟩ = some (.int .u64 (wd (cls 5) 2 : Nat)) := cell_regrown (h 22 _ rfl) d os
theorem row5x3 {W : World} {g : Nat} (h : RowAt W g) (d : Nat) (os : Array Obj) : (grow (redrawn W d) os).cell? ⟨g, 23, none⟩ = some (.int .u64 (wd (cls 5) 3 : Nat)) := cell_regrown (h 23 _ rfl) d os
theorem row6x0 {W : World} {g : Nat} (h : RowAt W g) (d : Nat) (os : Array Obj) : (grow (redrawn W d) os).cell? ⟨g, 24, none⟩ = some (.int .u64 (wd (cls 6) 0 : Nat)) := cell_regrown (h 24 _ rfl) d os
theorem row6x1 {W : World} {g : Nat} (h : RowAt W g) (d : Nat) (os : Array Obj) : (grow (redrawn W d) os).cell? ⟨g, 25, none⟩ = some (.int .u64 (wd (cls 6) 1 : Nat)) := cell_regrown (h 25 _ rfl) d os
theorem row6x2 {W : World} {g : Nat} (h : RowAt W g) (d : Nat) (os : Array Obj) : (grow (redrawn W d) os).cell? ⟨g, 26, none⟩ = some (.int .u64 (wd (cls 6) 2 : Nat)) := cell_regrown (h 26 _ rfl) d os
theorem row6x3 {W : World} {g : Nat} (h : RowAt W g) (d : Nat) (os : Array Obj) : (grow (redrawn W d) os).cell? ⟨g, 27, none⟩ = some (.int .u64 (wd (cls 6) 3 : Nat)) := cell_regrown (h 27 _ rfl) d os
theorem row7x0 {W : World} {g : Nat} (h : RowAt W g) (d : Nat) (os : Array Obj) : (grow (redrawn W d) os).cell? ⟨g, 28, none⟩ = some (.int .u64 (wd (cls 7) 0 : Nat)) := cell_regrown (h 28 _ rfl) d os
theorem row7x1 {W : World} {g : Nat} (h : RowAt W g) (d : Nat) (os : Array Obj) : (grow (redrawn W d) os).cell? ⟨g, 29, none⟩ = some (.int .u64 (wd (cls 7) 1 : Nat)) := cell_regrown (h 29 _ rfl) d os
theorem row7x2 {W : World} {g : Nat} (h : RowAt W g) (d : Nat) (os : Array Obj) : (grow (redrawn W d) os).cell? ⟨g, 30, none⟩ = some (.int .u64 (wd (cls 7) 2 : Nat)) := cell_regrown (h 30 _ rfl) d os
theorem row7x3 {W : World} {g : Nat} (h : RowAt W g) (d : Nat) (os : Array Obj) : (grow (redrawn W d) os).cell? ⟨g, 31, none⟩ = some (.int .u64 (wd (cls 7) 3 : Nat)) := cell_regrown (h 31 _ rfl) d os
theorem row8x0 {W : World} {g : Nat} (h : RowAt W g) (d : Nat) (os : Array Obj) : (grow (redrawn W d) os).cell? ⟨g, 32, none⟩ = some (.int .u64 (wd (cls 8) 0 : Nat)) := cell_regrown (h 32 _ rfl) d os
theorem row8x1 {W : World} {g : Nat} (h : RowAt W g) (d : Nat) (os : Array Obj) : (grow (redrawn W d) os).cell? ⟨g, 33, none⟩ = some (.int .u64 (wd (cls 8) 1 : Nat)) := cell_regrown (h 33 _ rfl) d os
theorem row8x2 {W : World} {g : Nat} (h : RowAt W g) (d : Nat) (os : Array Obj) : (grow (redrawn W d) os).cell? ⟨g, 34, none⟩ = some (.int .u64 (wd (cls 8) 2 : Nat)) := cell_regrown (h 34 _ rfl) d os
theorem row8x3 {W : World} {g : Nat} (h : RowAt W g) (d : Nat) (os : Array Obj) : (grow (redrawn W d) os).cell? ⟨g, 35, none⟩ = some (.int .u64 (wd (cls 8) 3 : Nat)) := cell_regrown (h 35 _ rfl) d os
theorem row9x0 {W : World} {g : Nat} (h : RowAt W g) (d : Nat) (os : Array Obj) : (grow (redrawn W d) os).cell? ⟨g, 36, none⟩ = some (.int .u64 (wd (cls 9) 0 : Nat)) := cell_regrown (h 36 _ rfl) d os
theorem row9x1 {W : World} {g : Nat} (h : RowAt W g) (d : Nat) (os : Array Obj) : (grow (redrawn W d) os).cell? ⟨g, 37, none⟩ = some (.int .u64 (wd (cls 9) 1 : Nat)) := cell_regrown (h 37 _ rfl) d os
theorem row9x2 {W : World} {g : Nat} (h : RowAt W g) (d : Nat) (os : Array Obj) : (grow (redrawn W d) os).cell? ⟨g, 38, none⟩ = some (.int .u64 (wd (cls 9) 2 : Nat)) := cell_regrown (h 38 _ rfl) d os
theorem row9x3 {W : World} {g : Nat} (h : RowAt W g) (d : Nat) (os : Array Obj) : (grow (redrawn W d) os).cell? ⟨g, 39, none⟩ = some (.int .u64 (wd (cls 9) 3 : Nat)) := cell_regrown (h 39 _ rfl) d os
theorem row10x0 {W : World} {g : Nat} (h : RowAt W g) (d : Nat) (os : Array Obj) : (grow (redrawn W d) os).cell? ⟨g, 40, none⟩ = some (.int .u64 (wd (cls 10) 0 : Nat)) := cell_regrown (h 40 _ rfl) d os
theorem row10x1 {W : World} {g : Nat} (h : RowAt W g) (d : Nat) (os : Array Obj) : (grow (redrawn W d) os).cell? ⟨g, 41, none⟩ = some (.int .u64 (wd (cls 10) 1 : Nat)) := cell_regrown (h 41 _ rfl) d os
theorem row10x2 {W : World} {g : Nat} (h : RowAt W g) (d : Nat) (os : Array Obj) : (grow (redrawn W d) os).cell? ⟨g, 42, none⟩ = some (.int .u64 (wd (cls 10) 2 : Nat)) := cell_regrown (h 42 _ rfl) d os
theorem row10x3 {W : World} {g : Nat} (h : RowAt W g) (d : Nat) (os : Array Obj) : (grow (redrawn W d) os).cell? ⟨g, 43, none⟩ = some (.int .u64 (wd (cls 10) 3 : Nat)) := cell_regrown (h 43 _ rfl) d os
theorem row11x0 {W : World} {g : Nat} (h : RowAt W g) (d : Nat) (os : Array Obj) : (grow (redrawn W d) os).cell? ⟨g, 44, none⟩ = some (.int .u64 (wd (cls 11) 0 : Nat)) := cell_regrown (h 44 _ rfl) d os
theorem row11x1 {W : World} {g : Nat} (h : RowAt W g) (d : Nat) (os : Array Obj) : (grow (redrawn W d) os).cell? ⟨g, 45, none⟩ = some (.int .u64 (wd (cls 11) 1 : Nat)) := cell_regrown (h 45 _ rfl) d os
theorem row11x2 {W : World} {g : Nat} (h : RowAt W g) (d : Nat) (os : Array Obj) : (grow (redrawn W d) os).cell? ⟨g, 46, none⟩ = some (.int .u64 (wd (cls 11) 2 : Nat)) := cell_regrown (h 46 _ rfl) d os
theorem row11x3 {W : World} {g : Nat} (h : RowAt W g) (d : Nat) (os : Array Obj) : (grow (redrawn W d) os).cell? ⟨g, 47, none⟩ = some (.int .u64 (wd (cls 11) 3 : Nat)) := cell_regrown (h 47 _ rfl) d os
theorem eq0 : eqB (orP (cls 1) (cls 4)) (cls 0) = true := by decide +kernel
theorem run0 (w : World) : (binOp .eql 24 (.agg #[.int .u64 (wd (orP (cls 1) (cls 4)) 0 : Nat), .int .u64 (wd (orP (cls 1) (cls 4)) 1 : Nat), .int .u64 (wd (orP (cls 1) (cls 4)) 2 : Nat), .int .u64 (wd (orP (cls 1) (cls 4)) 3 : Nat)]) (.agg #[.int .u64 (wd (cls 0) 0 : Nat), .int .u64 (wd (cls 0) 1 : Nat), .int .u64 (wd (cls 0) 2 : Nat), .int .u64 (wd (cls 0) 3 : Nat)])).run Try.prog w = .ok (.bool true) w := by rw [run_eql_set, eq0]
theorem eq1 : eqB (orP (cls 6) (cls 10)) (cls 1) = true := by decide +kernel
theorem run1 (w : World) : (binOp .eql 24 (.agg #[.int .u64 (wd (orP (cls 6) (cls 10)) 0 : Nat), .int .u64 (wd (orP (cls 6) (cls 10)) 1 : Nat), .int .u64 (wd (orP (cls 6) (cls 10)) 2 : Nat), .int .u64 (wd (orP (cls 6) (cls 10)) 3 : Nat)]) (.agg #[.int .u64 (wd (cls 1) 0 : Nat), .int .u64 (wd (cls 1) 1 : Nat), .int .u64 (wd (cls 1) 2 : Nat), .int .u64 (wd (cls 1) 3 : Nat)])).run Try.prog w = .ok (.bool true) w := by rw [run_eql_set, eq1]
theorem eq2 : eqB (orP (cls 0) (cls 8)) (cls 5) = true := by decide +kernel
theorem run2 (w : World) : (binOp .eql 24 (.agg #[.int .u64 (wd (orP (cls 0) (cls 8)) 0 : Nat), .int .u64 (wd (orP (cls 0) (cls 8)) 1 : Nat), .int .u64 (wd (orP (cls 0) (cls 8)) 2 : Nat), .int .u64 (wd (orP (cls 0) (cls 8)) 3 : Nat)]) (.agg #[.int .u64 (wd (cls 5) 0 : Nat), .int .u64 (wd (cls 5) 1 : Nat), .int .u64 (wd (cls 5) 2 : Nat), .int .u64 (wd (cls 5) 3 : Nat)])).run Try.prog w = .ok (.bool true) w := by rw [run_eql_set, eq2]
theorem eq3 : eqB (orP (cls 5) (ofP ⟨#[32]⟩)) (cls 7) = true := by decide +kernel
theorem run3 (w : World) : (binOp .eql 24 (.agg #[.int .u64 (wd (orP (cls 5) (ofP ⟨#[32]⟩)) 0 : Nat), .int .u64 (wd (orP (cls 5) (ofP ⟨#[32]⟩)) 1 : Nat), .int .u64 (wd (orP (cls 5) (ofP ⟨#[32]⟩)) 2 : Nat), .int .u64 (wd (orP (cls 5) (ofP ⟨#[32]⟩)) 3 : Nat)]) (.agg #[.int .u64 (wd (cls 7) 0 : Nat), .int .u64 (wd (cls 7) 1 : Nat), .int .u64 (wd (cls 7) 2 : Nat), .int .u64 (wd (cls 7) 3 : Nat)])).run Try.prog w = .ok (.bool true) w := by rw [run_eql_set, eq3]
theorem eq4 : eqB (andP (cls 2) (cls 9)) (cls 2) = true := by decide +kernel
theorem run4 (w : World) : (binOp .eql 24 (.agg #[.int .u64 (wd (andP (cls 2) (cls 9)) 0 : Nat), .int .u64 (wd (andP (cls 2) (cls 9)) 1 : Nat), .int .u64 (wd (andP (cls 2) (cls 9)) 2 : Nat), .int .u64 (wd (andP (cls 2) (cls 9)) 3 : Nat)]) (.agg #[.int .u64 (wd (cls 2) 0 : Nat), .int .u64 (wd (cls 2) 1 : Nat), .int .u64 (wd (cls 2) 2 : Nat), .int .u64 (wd (cls 2) 3 : Nat)])).run Try.prog w = .ok (.bool true) w := by rw [run_eql_set, eq4]
theorem eq5 : eqB (orP (cls 4) (ofP ⟨#[97, 98, 99, 100, 101, 102, 65, 66, 67, 68, 69, 70]⟩)) (cls 11) = true := by decide +kernel
theorem run5 (w : World) : (binOp .eql 24 (.agg #[.int .u64 (wd (orP (cls 4) (ofP ⟨#[97, 98, 99, 100, 101, 102, 65, 66, 67, 68, 69, 70]⟩)) 0 : Nat), .int .u64 (wd (orP (cls 4) (ofP ⟨#[97, 98, 99, 100, 101, 102, 65, 66, 67, 68, 69, 70]⟩)) 1 : Nat), .int .u64 (wd (orP (cls 4) (ofP ⟨#[97, 98, 99, 100, 101, 102, 65, 66, 67, 68, 69, 70]⟩)) 2 : Nat), .int .u64 (wd (orP (cls 4) (ofP ⟨#[97, 98, 99, 100, 101, 102, 65, 66, 67, 68, 69, 70]⟩)) 3 : Nat)]) (.agg #[.int .u64 (wd (cls 11) 0 : Nat), .int .u64 (wd (cls 11) 1 : Nat), .int .u64 (wd (cls 11) 2 : Nat), .int .u64 (wd (cls 11) 3 : Nat)])).run Try.prog w = .ok (.bool true) w := by rw [run_eql_set, eq5]
theorem eqz : eqB (andP (cls 3) (cls 7)) noneP = true := by decide +kernel
theorem runz (w : World) : (binOp .eql 24 (.agg #[.int .u64 (wd (andP (cls 3) (cls 7)) 0 : Nat), .int .u64 (wd (andP (cls 3) (cls 7)) 1 : Nat), .int .u64 (wd (andP (cls 3) (cls 7)) 2 : Nat), .int .u64 (wd (andP (cls 3) (cls 7)) 3 : Nat)]) (.agg #[.int .u64 0, .int .u64 0, .int .u64 0, .int .u64 0])).run Try.prog w = .ok (.bool true) w := by
  have h := run_eql_set (andP (cls 3) (cls 7)) noneP w
  have e : ∀ i, wd noneP i = 0 := fun i => wd_none i
  rw [eqz, e, e, e, e] at h
  exact h

theorem info24 : (Try.prog.info? 24).map (fun i => (i.zero, i.size, i.bytes)) = some (some (.agg #[.int .u64 0, .int .u64 0, .int .u64 0, .int .u64 0]), 4, 32) := by kernel_rfl

set_option maxRecDepth 100000 in
set_option maxHeartbeats 2000000 in
theorem walk (w : World) :
    Calls Try.prog 8 #[] w fun e w' => e = .returned (.bool true) ∧ Below w.heap.size w w' := by
  obtain ⟨i0, hi, hz0, hz1, hz2⟩ := info_parts info24
  go_enter Try.func8, Try.ntmps8
  go_wp2_with fail
  have hn : NmAt ((w.alloc (.cells #[.string ⟨#[97, 108, 110, 117, 109]⟩, .string ⟨#[97, 108, 112, 104, 97]⟩, .string ⟨#[98, 108, 97, 110, 107]⟩, .string ⟨#[99, 110, 116, 114, 108]⟩, .string ⟨#[100, 105, 103, 105, 116]⟩, .string ⟨#[103, 114, 97, 112, 104]⟩, .string ⟨#[108, 111, 119, 101, 114]⟩, .string ⟨#[112, 114, 105, 110, 116]⟩, .string ⟨#[112, 117, 110, 99, 116]⟩, .string ⟨#[115, 112, 97, 99, 101]⟩, .string ⟨#[117, 112, 112, 101, 114]⟩, .string ⟨#[120, 100, 105, 103, 105, 116]⟩] 9)).alloc (.cells #[.int .i64 62, .int .i64 52, .int .i64 2, .int .i64 33, .int .i64 10, .int .i64 94, .int .i64 26, .int .i64 95, .int .i64 32, .int .i64 6, .int .i64 26, .int .i64 22] 3)) w.heap.size := by
    intro j hj
    match j, hj with
    | 0, _ => simp [go_sem, nm]
    | 1, _ => simp [go_sem, nm]
    | 2, _ => simp [go_sem, nm]
    | 3, _ => simp [go_sem, nm]
    | 4, _ => simp [go_sem, nm]
    | 5, _ => simp [go_sem, nm]
    | 6, _ => simp [go_sem, nm]
    | 7, _ => simp [go_sem, nm]
    | 8, _ => simp [go_sem, nm]
    | 9, _ => simp [go_sem, nm]
    | 10, _ => simp [go_sem, nm]
    | 11, _ => simp [go_sem, nm]
  have hs : SzAt ((w.alloc (.cells #[.string ⟨#[97, 108, 110, 117, 109]⟩, .string ⟨#[97, 108, 112, 104, 97]⟩, .string ⟨#[98, 108, 97, 110, 107]⟩, .string ⟨#[99, 110, 116, 114, 108]⟩, .string ⟨#[100, 105, 103, 105, 116]⟩, .string ⟨#[103, 114, 97, 112, 104]⟩, .string ⟨#[108, 111, 119, 101, 114]⟩, .string ⟨#[112, 114, 105, 110, 116]⟩, .string ⟨#[112, 117, 110, 99, 116]⟩, .string ⟨#[115, 112, 97, 99, 101]⟩, .string ⟨#[117, 112, 112, 101, 114]⟩, .string ⟨#[120, 100, 105, 103, 105, 116]⟩] 9)).alloc (.cells #[.int .i64 62, .int .i64 52, .int .i64 2, .int .i64 33, .int .i64 10, .int .i64 94, .int .i64 26, .int .i64 95, .int .i64 32, .int .i64 6, .int .i64 26, .int .i64 22] 3)) (w.heap.size + 1) := by
    intro j hj
    match j, hj with
    | 0, _ => simp [go_sem, siz]
    | 1, _ => simp [go_sem, siz]
    | 2, _ => simp [go_sem, siz]
    | 3, _ => simp [go_sem, siz]
    | 4, _ => simp [go_sem, siz]
    | 5, _ => simp [go_sem, siz]
    | 6, _ => simp [go_sem, siz]
    | 7, _ => simp [go_sem, siz]
    | 8, _ => simp [go_sem, siz]
    | 9, _ => simp [go_sem, siz]
    | 10, _ => simp [go_sem, siz]
    | 11, _ => simp [go_sem, siz]
  have hB : Below w.heap.size w ((w.alloc (.cells #[.string ⟨#[97, 108, 110, 117, 109]⟩, .string ⟨#[97, 108, 112, 104, 97]⟩, .string ⟨#[98, 108, 97, 110, 107]⟩, .string ⟨#[99, 110, 116, 114, 108]⟩, .string ⟨#[100, 105, 103, 105, 116]⟩, .string ⟨#[103, 114, 97, 112, 104]⟩, .string ⟨#[108, 111, 119, 101, 114]⟩, .string ⟨#[112, 114, 105, 110, 116]⟩, .string ⟨#[112, 117, 110, 99, 116]⟩, .string ⟨#[115, 112, 97, 99, 101]⟩, .string ⟨#[117, 112, 112, 101, 114]⟩, .string ⟨#[120, 100, 105, 103, 105, 116]⟩] 9)).alloc (.cells #[.int .i64 62, .int .i64 52, .int .i64 2, .int .i64 33, .int .i64 10, .int .i64 94, .int .i64 26, .int .i64 95, .int .i64 32, .int .i64 6, .int .i64 26, .int .i64 22] 3)) := ((Below.refl _ w).alloc (Nat.le_refl _) _).alloc (by simp) _
  have hl : ((w.alloc (.cells #[.string ⟨#[97, 108, 110, 117, 109]⟩, .string ⟨#[97, 108, 112, 104, 97]⟩, .string ⟨#[98, 108, 97, 110, 107]⟩, .string ⟨#[99, 110, 116, 114, 108]⟩, .string ⟨#[100, 105, 103, 105, 116]⟩, .string ⟨#[103, 114, 97, 112, 104]⟩, .string ⟨#[108, 111, 119, 101, 114]⟩, .string ⟨#[112, 114, 105, 110, 116]⟩, .string ⟨#[112, 117, 110, 99, 116]⟩, .string ⟨#[115, 112, 97, 99, 101]⟩, .string ⟨#[117, 112, 112, 101, 114]⟩, .string ⟨#[120, 100, 105, 103, 105, 116]⟩] 9)).alloc (.cells #[.int .i64 62, .int .i64 52, .int .i64 2, .int .i64 33, .int .i64 10, .int .i64 94, .int .i64 26, .int .i64 95, .int .i64 32, .int .i64 6, .int .i64 26, .int .i64 22] 3)).heap.size = w.heap.size + 2 := by simp
  generalize (w.alloc (.cells #[.string ⟨#[97, 108, 110, 117, 109]⟩, .string ⟨#[97, 108, 112, 104, 97]⟩, .string ⟨#[98, 108, 97, 110, 107]⟩, .string ⟨#[99, 110, 116, 114, 108]⟩, .string ⟨#[100, 105, 103, 105, 116]⟩, .string ⟨#[103, 114, 97, 112, 104]⟩, .string ⟨#[108, 111, 119, 101, 114]⟩, .string ⟨#[112, 114, 105, 110, 116]⟩, .string ⟨#[112, 117, 110, 99, 116]⟩, .string ⟨#[115, 112, 97, 99, 101]⟩, .string ⟨#[117, 112, 112, 101, 114]⟩, .string ⟨#[120, 100, 105, 103, 105, 116]⟩] 9)).alloc (.cells #[.int .i64 62, .int .i64 52, .int .i64 2, .int .i64 33, .int .i64 10, .int .i64 94, .int .i64 26, .int .i64 95, .int .i64 32, .int .i64 6, .int .i64 26, .int .i64 22] 3) = W at *
  have hl2 : w.heap.size + 2 ≤ W.heap.size := by omega
  clear hl
  go_loopw [3, 16] (fun v i wr => ∃ k : Nat, k ≤ 12 ∧ i = .int .i64 k ∧ NmAt wr w.heap.size ∧ SzAt wr (w.heap.size + 1) ∧ wr.ownsRow (w.heap.size + 2) 24 4 v k (setCells k) ∧ Below (w.heap.size + 2) W wr) (fun _ i _ => (12 - intOf i).toNat)
  case atStart => exact ⟨0, by omega, rfl, hn, hs, World.ownsRow_nil _ _ _ _, Below.refl _ _⟩
  case round =>
    clear hn hs
    obtain ⟨k, hk, rfl, hn, hs, hown, hBr⟩ := hrel
    by_cases hlt : k < 12
    · have hc := hn k hlt
      have HN : Hid _ := hn
      have HZ : Hid _ := hs
      have HW : Hid _ := hown
      clear hn hs hown
      go_wp2_with fail
      clear hc
      refine (class_k k hlt _).mono ?_
      rintro e w1 ⟨rfl, hb⟩
      have hn := NmAt.below HN.out hb
      have hs := SzAt.below HZ.out hb
      have hown := owns_below HW.out hb
      replace hBr := hBr.trans (hb.mono (Nat.le_trans hl2 hBr.size))
      clear hb HN HZ HW
      have HN : Hid _ := hn
      have HZ : Hid _ := hs
      have HW : Hid _ := hown
      clear hn hs hown
      go_wp2_with fail
      have h6 := holds4_new w1 (cls k) 24
      have hn := NmAt.below HN.out ((Below.refl _ _).alloc (Nat.le_refl _) (.cells #[.int .u64 (wd (cls k) 0 : Nat), .int .u64 (wd (cls k) 1 : Nat), .int .u64 (wd (cls k) 2 : Nat), .int .u64 (wd (cls k) 3 : Nat)] 24))
      have hs := SzAt.below HZ.out ((Below.refl _ _).alloc (Nat.le_refl _) (.cells #[.int .u64 (wd (cls k) 0 : Nat), .int .u64 (wd (cls k) 1 : Nat), .int .u64 (wd (cls k) 2 : Nat), .int .u64 (wd (cls k) 3 : Nat)] 24))
      have hown := owns_below HW.out ((Below.refl _ _).alloc (Nat.le_refl _) (.cells #[.int .u64 (wd (cls k) 0 : Nat), .int .u64 (wd (cls k) 1 : Nat), .int .u64 (wd (cls k) 2 : Nat), .int .u64 (wd (cls k) 3 : Nat)] 24))
      replace hBr := hBr.alloc (Nat.le_trans hl2 hBr.size) (.cells #[.int .u64 (wd (cls k) 0 : Nat), .int .u64 (wd (cls k) 1 : Nat), .int .u64 (wd (cls k) 2 : Nat), .int .u64 (wd (cls k) 3 : Nat)] 24)
      clear HN HZ HW
      generalize w1.alloc (.cells #[.int .u64 (wd (cls k) 0 : Nat), .int .u64 (wd (cls k) 1 : Nat), .int .u64 (wd (cls k) 2 : Nat), .int .u64 (wd (cls k) 3 : Nat)] 24) = Wa at *
      have HN : Hid _ := hn
      have HW : Hid _ := hown
      have HZ : Hid _ := hs
      have kz := fun d os => cell_regrown (hs k hlt) d os
      have kd := fun d os => (cells_regrown h6 d os).1
      have d0 := fun d os => (kd d os).1
      have d1 := fun d os => (kd d os).2.1
      have d2 := fun d os => (kd d os).2.2.1
      have d3 := fun d os => (kd d os).2.2.2
      clear kd hn hown hs
      have y0 : Hid (∀ d os, Calls Try.prog 25 #[.agg #[.int .u64 (wd (cls k) 0 : Nat), .int .u64 (wd (cls k) 1 : Nat), .int .u64 (wd (cls k) 2 : Nat), .int .u64 (wd (cls k) 3 : Nat)]] (grow (redrawn Wa d) os) fun e w'' => e = .returned (.int .i64 (siz k)) ∧ ∃ p : Regrown, w'' = grow (redrawn Wa p.d) p.os) := fun d os => Calls.regrown_of (count_k k hlt _)
      have y1 : Hid (∀ d os, Calls Try.prog 18 #[.agg #[.int .u64 (wd (cls k) 0 : Nat), .int .u64 (wd (cls k) 1 : Nat), .int .u64 (wd (cls k) 2 : Nat), .int .u64 (wd (cls k) 3 : Nat)], .agg #[.int .u64 0, .int .u64 0, .int .u64 0, .int .u64 0]] (grow (redrawn Wa d) os) fun e w'' => e = .returned (.agg #[.int .u64 (wd (orP (cls k) noneP) 0 : Nat), .int .u64 (wd (orP (cls k) noneP) 1 : Nat), .int .u64 (wd (orP (cls k) noneP) 2 : Nat), .int .u64 (wd (orP (cls k) noneP) 3 : Nat)]) ∧ ∃ p : Regrown, w'' = grow (redrawn Wa p.d) p.os) := fun d os => Calls.regrown_of (or_zero _ _)
      have y2 : Hid (∀ d os, Calls Try.prog 16 #[.agg #[.int .u64 (wd (orP (cls k) noneP) 0 : Nat), .int .u64 (wd (orP (cls k) noneP) 1 : Nat), .int .u64 (wd (orP (cls k) noneP) 2 : Nat), .int .u64 (wd (orP (cls k) noneP) 3 : Nat)]] (grow (redrawn Wa d) os) fun e w'' => e = .returned (.agg #[.int .u64 (wd (notP (orP (cls k) noneP)) 0 : Nat), .int .u64 (wd (notP (orP (cls k) noneP)) 1 : Nat), .int .u64 (wd (notP (orP (cls k) noneP)) 2 : Nat), .int .u64 (wd (notP (orP (cls k) noneP)) 3 : Nat)]) ∧ ∃ p : Regrown, w'' = grow (redrawn Wa p.d) p.os) := fun d os => Calls.regrown_of (notD _ _)
      have y3 : Hid (∀ d os, Calls Try.prog 20 #[.agg #[.int .u64 (wd (cls k) 0 : Nat), .int .u64 (wd (cls k) 1 : Nat), .int .u64 (wd (cls k) 2 : Nat), .int .u64 (wd (cls k) 3 : Nat)], .agg #[.int .u64 (wd (notP (orP (cls k) noneP)) 0 : Nat), .int .u64 (wd (notP (orP (cls k) noneP)) 1 : Nat), .int .u64 (wd (notP (orP (cls k) noneP)) 2 : Nat), .int .u64 (wd (notP (orP (cls k) noneP)) 3 : Nat)]] (grow (redrawn Wa d) os) fun e w'' => e = .returned (.agg #[.int .u64 (wd (andP (cls k) (notP (orP (cls k) noneP))) 0 : Nat), .int .u64 (wd (andP (cls k) (notP (orP (cls k) noneP))) 1 : Nat), .int .u64 (wd (andP (cls k) (notP (orP (cls k) noneP))) 2 : Nat), .int .u64 (wd (andP (cls k) (notP (orP (cls k) noneP))) 3 : Nat)]) ∧ ∃ p : Regrown, w'' = grow (redrawn Wa p.d) p.os) := fun d os => Calls.regrown_of (andD _ _ _)
      have y4 : Hid (∀ d os, Calls Try.prog 25 #[.agg #[.int .u64 (wd (andP (cls k) (notP (orP (cls k) noneP))) 0 : Nat), .int .u64 (wd (andP (cls k) (notP (orP (cls k) noneP))) 1 : Nat), .int .u64 (wd (andP (cls k) (notP (orP (cls k) noneP))) 2 : Nat), .int .u64 (wd (andP (cls k) (notP (orP (cls k) noneP))) 3 : Nat)]] (grow (redrawn Wa d) os) fun e w'' => e = .returned (.int .i64 0) ∧ ∃ p : Regrown, w'' = grow (redrawn Wa p.d) p.os) := fun d os => Calls.regrown_of (count_zero _ _)
      refine wp_region_quiet_below (by kernel_rfl) (by kernel_rfl) ?_
      repeat (quiet_step (first | with_reducible exact y0.out _ _ | with_reducible exact y1.out _ _ | with_reducible exact y2.out _ _ | with_reducible exact y3.out _ _ | with_reducible exact y4.out _ _))
      refine wpQuiet_nil ?_
      intro _ hw'
      obtain ⟨⟨dq, osq⟩, hw''⟩ := hw'
      subst hw''
      have hb := below_regrown Wa dq osq
      have hn := NmAt.below HN.out hb
      have hs := SzAt.below HZ.out hb
      have hown := owns_below HW.out hb
      replace h6 := h6.below hb h6.lt
      replace hBr := hBr.trans (hb.mono (Nat.le_trans hl2 hBr.size))
      clear hb HN HZ HW y0 y1 y2 y3 y4 d0 d1 d2 d3 kz
      generalize grow (redrawn Wa dq) osq = Wb at *
      have HN : Hid _ := hn
      have HZ : Hid _ := hs
      clear hn hs
      have hsz := Nat.le_trans hl2 hBr.size
      obtain ⟨⟨c0, c1, c2, c3⟩, -⟩ := id h6
      go_wp2_with (first | (at_builtin; refine wpList_append_own _ rfl _ _ 48 rfl (w.heap.size + 2) 24 i0 (.agg #[.int .u64 0, .int .u64 0, .int .u64 0, .int .u64 0]) 4 32 Try.underlying48 hi hz0 hz1 hz2 rfl (by decide) _ _ _ rfl (hown.alloc _) ⟨Wb.heap.size, 0, none⟩ 1 1 [.int .u64 (wd (cls k) 0 : Nat), .int .u64 (wd (cls k) 1 : Nat), .int .u64 (wd (cls k) 2 : Nat), .int .u64 (wd (cls k) 3 : Nat)] rfl rfl ?c1 ?c2 ?c3 ?c4 ?c5 ?_))
      case c1 =>
        intro j u hj
        match j, hj with
        | 0, hj => simp at hj; subst hj; simp [Addr.add, go_sem]
        | 1, hj => simp at hj; subst hj; simp [Addr.add, go_sem]
        | 2, hj => simp at hj; subst hj; simp [Addr.add, go_sem]
        | 3, hj => simp at hj; subst hj; simp [Addr.add, go_sem]
      case c2 => intro u hu; simp at hu; rcases hu with rfl | rfl | rfl | rfl <;> rfl
      case c3 => unfold maxLen; omega
      case c4 => omega
      case c5 => simp; omega
      · intro v' w2 hown2 hgrow _
        have hB2 := (hBr.alloc hsz _).grown hgrow (by simp; omega) (owns_block hown)
        have hn : NmAt w2 w.heap.size := NmAt.grown HN.out hgrow (fun e => by have := owns_block hown _ e.symm; omega)
        have hs : SzAt w2 (w.heap.size + 1) := SzAt.grown HZ.out hgrow (fun e => by have := owns_block hown _ e.symm; omega)
        clear hgrow hown h6 c0 c1 c2 c3 HN HZ hBr
        have HN : Hid _ := hn
        have HZ : Hid _ := hs
        have HW : Hid _ := hown2
        clear hn hs hown2
        go_wp2
        go_roundw
        case rel => exact ⟨k + 1, by omega, by go_num, HN.out, HZ.out, HW.out, hB2⟩
        case measure => simp [intOf]; omega
    · obtain rfl : k = 12 := by omega
      obtain ⟨g, cap, rfl⟩ : ∃ g cap, u3 = .slice (some ⟨g, 0, none⟩) 12 cap := by
        rcases hown.2 with ⟨-, h⟩ | ⟨g, cap, cur, h, -⟩
        · omega
        · exact ⟨g, cap, h⟩
      have hrow : RowAt wr g := fun j u hj => by
        have h := hown.cells (g := g) rfl j u hj
        have hplain : (⟨g, 0, none⟩ : Addr).add j = ⟨g, j, none⟩ := by unfold Addr.add; split <;> simp_all
        rwa [hplain] at h
      replace hB := hB.trans (hBr.mono (by omega))
      clear hn hs hown hBr
      have HR : Hid _ := hrow
      clear hrow
      go_wp2_with fail
      refine (class_other ⟨#[97, 108, 112, 104, 97, 115]⟩ (by rw [ByteArray.toList_eq]; decide) (by rw [ByteArray.toList_eq]; decide) (by rw [ByteArray.toList_eq]; decide) (by rw [ByteArray.toList_eq]; decide) (by rw [ByteArray.toList_eq]; decide) (by rw [ByteArray.toList_eq]; decide) (by rw [ByteArray.toList_eq]; decide) (by rw [ByteArray.toList_eq]; decide) (by rw [ByteArray.toList_eq]; decide) (by rw [ByteArray.toList_eq]; decide) (by rw [ByteArray.toList_eq]; decide) (by rw [ByteArray.toList_eq]; decide) _).mono ?_
      rintro e w1 ⟨rfl, hb⟩
      have hrow := RowAt.below HR.out hb
      replace hB := hB.trans (hb.mono hB.size)
      clear hb HR
      have HR : Hid _ := hrow
      clear hrow
      go_wp2_with fail
      refine (class_other ⟨#[]⟩ (by rw [ByteArray.toList_eq]; decide) (by rw [ByteArray.toList_eq]; decide) (by rw [ByteArray.toList_eq]; decide) (by rw [ByteArray.toList_eq]; decide) (by rw [ByteArray.toList_eq]; decide) (by rw [ByteArray.toList_eq]; decide) (by rw [ByteArray.toList_eq]; decide) (by rw [ByteArray.toList_eq]; decide) (by rw [ByteArray.toList_eq]; decide) (by rw [ByteArray.toList_eq]; decide) (by rw [ByteArray.toList_eq]; decide) (by rw [ByteArray.toList_eq]; decide) _).mono ?_
      rintro e w2 ⟨rfl, hb⟩
      have hrow := RowAt.below (RowAt.below HR.out ((Below.refl _ _).alloc (Nat.le_refl _) (.cells #[.int .u64 (wd noneP 0 : Nat), .int .u64 (wd noneP 1 : Nat), .int .u64 (wd noneP 2 : Nat), .int .u64 (wd noneP 3 : Nat)] 24))) hb
      replace hB := (hB.alloc hB.size (.cells #[.int .u64 (wd noneP 0 : Nat), .int .u64 (wd noneP 1 : Nat), .int .u64 (wd noneP 2 : Nat), .int .u64 (wd noneP 3 : Nat)] 24)).trans (hb.mono (hB.alloc hB.size _).size)
      clear hb HR
      have HR : Hid _ := hrow
      clear hrow
      go_wp2_with fail
      have hrow := RowAt.below HR.out ((Below.refl _ _).alloc (Nat.le_refl _) (.cells #[.int .u64 (wd noneP 0 : Nat), .int .u64 (wd noneP 1 : Nat), .int .u64 (wd noneP 2 : Nat), .int .u64 (wd noneP 3 : Nat)] 24))
      replace hB := hB.alloc hB.size (.cells #[.int .u64 (wd noneP 0 : Nat), .int .u64 (wd noneP 1 : Nat), .int .u64 (wd noneP 2 : Nat), .int .u64 (wd noneP 3 : Nat)] 24)
      generalize w2.alloc (.cells #[.int .u64 (wd noneP 0 : Nat), .int .u64 (wd noneP 1 : Nat), .int .u64 (wd noneP 2 : Nat), .int .u64 (wd noneP 3 : Nat)] 24) = Wf at *
      clear HR
      have r0x0 := fun d os => row0x0 hrow d os
      have r0x1 := fun d os => row0x1 hrow d os
      have r0x2 := fun d os => row0x2 hrow d os
      have r0x3 := fun d os => row0x3 hrow d os
      have r1x0 := fun d os => row1x0 hrow d os
      have r1x1 := fun d os => row1x1 hrow d os
      have r1x2 := fun d os => row1x2 hrow d os
      have r1x3 := fun d os => row1x3 hrow d os
      have r2x0 := fun d os => row2x0 hrow d os
      have r2x1 := fun d os => row2x1 hrow d os
      have r2x2 := fun d os => row2x2 hrow d os
      have r2x3 := fun d os => row2x3 hrow d os
      have r3x0 := fun d os => row3x0 hrow d os
      have r3x1 := fun d os => row3x1 hrow d os
      have r3x2 := fun d os => row3x2 hrow d os
      have r3x3 := fun d os => row3x3 hrow d os
      have r4x0 := fun d os => row4x0 hrow d os
      have r4x1 := fun d os => row4x1 hrow d os
      have r4x2 := fun d os => row4x2 hrow d os
      have r4x3 := fun d os => row4x3 hrow d os
      have r5x0 := fun d os => row5x0 hrow d os
      have r5x1 := fun d os => row5x1 hrow d os
      have r5x2 := fun d os => row5x2 hrow d os
      have r5x3 := fun d os => row5x3 hrow d os
      have r6x0 := fun d os => row6x0 hrow d os
      have r6x1 := fun d os => row6x1 hrow d os
      have r6x2 := fun d os => row6x2 hrow d os
      have r6x3 := fun d os => row6x3 hrow d os
      have r7x0 := fun d os => row7x0 hrow d os
      have r7x1 := fun d os => row7x1 hrow d os
      have r7x2 := fun d os => row7x2 hrow d os
      have r7x3 := fun d os => row7x3 hrow d os
      have r8x0 := fun d os => row8x0 hrow d os
      have r8x1 := fun d os => row8x1 hrow d os
      have r8x2 := fun d os => row8x2 hrow d os
      have r8x3 := fun d os => row8x3 hrow d os
      have r9x0 := fun d os => row9x0 hrow d os
      have r9x1 := fun d os => row9x1 hrow d os
      have r9x2 := fun d os => row9x2 hrow d os
      have r9x3 := fun d os => row9x3 hrow d os
      have r10x0 := fun d os => row10x0 hrow d os
      have r10x1 := fun d os => row10x1 hrow d os
      have r10x2 := fun d os => row10x2 hrow d os
      have r10x3 := fun d os => row10x3 hrow d os
      have r11x0 := fun d os => row11x0 hrow d os
      have r11x1 := fun d os => row11x1 hrow d os
      have r11x2 := fun d os => row11x2 hrow d os
      have r11x3 := fun d os => row11x3 hrow d os
      clear hrow
      have q0 := run0
      have q1 := run1
      have q2 := run2
      have q3 := run3
      have q4 := run4
      have q5 := run5
      have qz := runz
      have y0 : Hid (∀ d os, Calls Try.prog 18 #[.agg #[.int .u64 (wd (cls 1) 0 : Nat), .int .u64 (wd (cls 1) 1 : Nat), .int .u64 (wd (cls 1) 2 : Nat), .int .u64 (wd (cls 1) 3 : Nat)], .agg #[.int .u64 (wd (cls 4) 0 : Nat), .int .u64 (wd (cls 4) 1 : Nat), .int .u64 (wd (cls 4) 2 : Nat), .int .u64 (wd (cls 4) 3 : Nat)]] (grow (redrawn Wf d) os) fun e w'' => e = .returned (.agg #[.int .u64 (wd (orP (cls 1) (cls 4)) 0 : Nat), .int .u64 (wd (orP (cls 1) (cls 4)) 1 : Nat), .int .u64 (wd (orP (cls 1) (cls 4)) 2 : Nat), .int .u64 (wd (orP (cls 1) (cls 4)) 3 : Nat)]) ∧ ∃ p : Regrown, w'' = grow (redrawn Wf p.d) p.os) := fun d os => Calls.regrown_of (orD _ _ _)
      have y1 : Hid (∀ d os, Calls Try.prog 18 #[.agg #[.int .u64 (wd (cls 6) 0 : Nat), .int .u64 (wd (cls 6) 1 : Nat), .int .u64 (wd (cls 6) 2 : Nat), .int .u64 (wd (cls 6) 3 : Nat)], .agg #[.int .u64 (wd (cls 10) 0 : Nat), .int .u64 (wd (cls 10) 1 : Nat), .int .u64 (wd (cls 10) 2 : Nat), .int .u64 (wd (cls 10) 3 : Nat)]] (grow (redrawn Wf d) os) fun e w'' => e = .returned (.agg #[.int .u64 (wd (orP (cls 6) (cls 10)) 0 : Nat), .int .u64 (wd (orP (cls 6) (cls 10)) 1 : Nat), .int .u64 (wd (orP (cls 6) (cls 10)) 2 : Nat), .int .u64 (wd (orP (cls 6) (cls 10)) 3 : Nat)]) ∧ ∃ p : Regrown, w'' = grow (redrawn Wf p.d) p.os) := fun d os => Calls.regrown_of (orD _ _ _)
      have y2 : Hid (∀ d os, Calls Try.prog 18 #[.agg #[.int .u64 (wd (cls 0) 0 : Nat), .int .u64 (wd (cls 0) 1 : Nat), .int .u64 (wd (cls 0) 2 : Nat), .int .u64 (wd (cls 0) 3 : Nat)], .agg #[.int .u64 (wd (cls 8) 0 : Nat), .int .u64 (wd (cls 8) 1 : Nat), .int .u64 (wd (cls 8) 2 : Nat), .int .u64 (wd (cls 8) 3 : Nat)]] (grow (redrawn Wf d) os) fun e w'' => e = .returned (.agg #[.int .u64 (wd (orP (cls 0) (cls 8)) 0 : Nat), .int .u64 (wd (orP (cls 0) (cls 8)) 1 : Nat), .int .u64 (wd (orP (cls 0) (cls 8)) 2 : Nat), .int .u64 (wd (orP (cls 0) (cls 8)) 3 : Nat)]) ∧ ∃ p : Regrown, w'' = grow (redrawn Wf p.d) p.os) := fun d os => Calls.regrown_of (orD _ _ _)
      have y3 : Hid (∀ d os, Calls Try.prog 18 #[.agg #[.int .u64 (wd (cls 5) 0 : Nat), .int .u64 (wd (cls 5) 1 : Nat), .int .u64 (wd (cls 5) 2 : Nat), .int .u64 (wd (cls 5) 3 : Nat)], .agg #[.int .u64 (wd (ofP ⟨#[32]⟩) 0 : Nat), .int .u64 (wd (ofP ⟨#[32]⟩) 1 : Nat), .int .u64 (wd (ofP ⟨#[32]⟩) 2 : Nat), .int .u64 (wd (ofP ⟨#[32]⟩) 3 : Nat)]] (grow (redrawn Wf d) os) fun e w'' => e = .returned (.agg #[.int .u64 (wd (orP (cls 5) (ofP ⟨#[32]⟩)) 0 : Nat), .int .u64 (wd (orP (cls 5) (ofP ⟨#[32]⟩)) 1 : Nat), .int .u64 (wd (orP (cls 5) (ofP ⟨#[32]⟩)) 2 : Nat), .int .u64 (wd (orP (cls 5) (ofP ⟨#[32]⟩)) 3 : Nat)]) ∧ ∃ p : Regrown, w'' = grow (redrawn Wf p.d) p.os) := fun d os => Calls.regrown_of (orD _ _ _)
      have y4 : Hid (∀ d os, Calls Try.prog 20 #[.agg #[.int .u64 (wd (cls 3) 0 : Nat), .int .u64 (wd (cls 3) 1 : Nat), .int .u64 (wd (cls 3) 2 : Nat), .int .u64 (wd (cls 3) 3 : Nat)], .agg #[.int .u64 (wd (cls 7) 0 : Nat), .int .u64 (wd (cls 7) 1 : Nat), .int .u64 (wd (cls 7) 2 : Nat), .int .u64 (wd (cls 7) 3 : Nat)]] (grow (redrawn Wf d) os) fun e w'' => e = .returned (.agg #[.int .u64 (wd (andP (cls 3) (cls 7)) 0 : Nat), .int .u64 (wd (andP (cls 3) (cls 7)) 1 : Nat), .int .u64 (wd (andP (cls 3) (cls 7)) 2 : Nat), .int .u64 (wd (andP (cls 3) (cls 7)) 3 : Nat)]) ∧ ∃ p : Regrown, w'' = grow (redrawn Wf p.d) p.os) := fun d os => Calls.regrown_of (andD _ _ _)
      have y5 : Hid (∀ d os, Calls Try.prog 20 #[.agg #[.int .u64 (wd (cls 2) 0 : Nat), .int .u64 (wd (cls 2) 1 : Nat), .int .u64 (wd (cls 2) 2 : Nat), .int .u64 (wd (cls 2) 3 : Nat)], .agg #[.int .u64 (wd (cls 9) 0 : Nat), .int .u64 (wd (cls 9) 1 : Nat), .int .u64 (wd (cls 9) 2 : Nat), .int .u64 (wd (cls 9) 3 : Nat)]] (grow (redrawn Wf d) os) fun e w'' => e = .returned (.agg #[.int .u64 (wd (andP (cls 2) (cls 9)) 0 : Nat), .int .u64 (wd (andP (cls 2) (cls 9)) 1 : Nat), .int .u64 (wd (andP (cls 2) (cls 9)) 2 : Nat), .int .u64 (wd (andP (cls 2) (cls 9)) 3 : Nat)]) ∧ ∃ p : Regrown, w'' = grow (redrawn Wf p.d) p.os) := fun d os => Calls.regrown_of (andD _ _ _)
      have y6 : Hid (∀ d os, Calls Try.prog 18 #[.agg #[.int .u64 (wd (cls 4) 0 : Nat), .int .u64 (wd (cls 4) 1 : Nat), .int .u64 (wd (cls 4) 2 : Nat), .int .u64 (wd (cls 4) 3 : Nat)], .agg #[.int .u64 (wd (ofP ⟨#[97, 98, 99, 100, 101, 102, 65, 66, 67, 68, 69, 70]⟩) 0 : Nat), .int .u64 (wd (ofP ⟨#[97, 98, 99, 100, 101, 102, 65, 66, 67, 68, 69, 70]⟩) 1 : Nat), .int .u64 (wd (ofP ⟨#[97, 98, 99, 100, 101, 102, 65, 66, 67, 68, 69, 70]⟩) 2 : Nat), .int .u64 (wd (ofP ⟨#[97, 98, 99, 100, 101, 102, 65, 66, 67, 68, 69, 70]⟩) 3 : Nat)]] (grow (redrawn Wf d) os) fun e w'' => e = .returned (.agg #[.int .u64 (wd (orP (cls 4) (ofP ⟨#[97, 98, 99, 100, 101, 102, 65, 66, 67, 68, 69, 70]⟩)) 0 : Nat), .int .u64 (wd (orP (cls 4) (ofP ⟨#[97, 98, 99, 100, 101, 102, 65, 66, 67, 68, 69, 70]⟩)) 1 : Nat), .int .u64 (wd (orP (cls 4) (ofP ⟨#[97, 98, 99, 100, 101, 102, 65, 66, 67, 68, 69, 70]⟩)) 2 : Nat), .int .u64 (wd (orP (cls 4) (ofP ⟨#[97, 98, 99, 100, 101, 102, 65, 66, 67, 68, 69, 70]⟩)) 3 : Nat)]) ∧ ∃ p : Regrown, w'' = grow (redrawn Wf p.d) p.os) := fun d os => Calls.regrown_of (orD _ _ _)
      have y7 : Hid (∀ d os, Calls Try.prog 14 #[.string ⟨#[32]⟩] (grow (redrawn Wf d) os) fun e w'' => e = .returned (.agg #[.int .u64 (wd (ofP ⟨#[32]⟩) 0 : Nat), .int .u64 (wd (ofP ⟨#[32]⟩) 1 : Nat), .int .u64 (wd (ofP ⟨#[32]⟩) 2 : Nat), .int .u64 (wd (ofP ⟨#[32]⟩) 3 : Nat)]) ∧ ∃ p : Regrown, w'' = grow (redrawn Wf p.d) p.os) := fun d os => Calls.regrown_of (ofD _ (by decide) _)
      have y8 : Hid (∀ d os, Calls Try.prog 14 #[.string ⟨#[97, 98, 99, 100, 101, 102, 65, 66, 67, 68, 69, 70]⟩] (grow (redrawn Wf d) os) fun e w'' => e = .returned (.agg #[.int .u64 (wd (ofP ⟨#[97, 98, 99, 100, 101, 102, 65, 66, 67, 68, 69, 70]⟩) 0 : Nat), .int .u64 (wd (ofP ⟨#[97, 98, 99, 100, 101, 102, 65, 66, 67, 68, 69, 70]⟩) 1 : Nat), .int .u64 (wd (ofP ⟨#[97, 98, 99, 100, 101, 102, 65, 66, 67, 68, 69, 70]⟩) 2 : Nat), .int .u64 (wd (ofP ⟨#[97, 98, 99, 100, 101, 102, 65, 66, 67, 68, 69, 70]⟩) 3 : Nat)]) ∧ ∃ p : Regrown, w'' = grow (redrawn Wf p.d) p.os) := fun d os => Calls.regrown_of (ofD _ (by decide) _)
      refine wp_region_quiet_below (by as_aux_lemma => kernel_rfl) (by as_aux_lemma => kernel_rfl) ?_
      repeat (quiet_step (first | with_reducible exact y0.out _ _ | with_reducible exact y1.out _ _ | with_reducible exact y2.out _ _ | with_reducible exact y3.out _ _ | with_reducible exact y4.out _ _ | with_reducible exact y5.out _ _ | with_reducible exact y6.out _ _ | with_reducible exact y7.out _ _ | with_reducible exact y8.out _ _))
      refine wpQuiet_nil ?_
      intro _ hw'
      obtain ⟨⟨dq, osq⟩, hw''⟩ := hw'
      subst hw''
      go_wp2
      go_ret
      exact ⟨rfl, hB.trans ((below_regrown Wf dq osq).mono hB.size)⟩

theorem own : ownKnob Try.prog.godebug = none := by kernel_rfl
theorem laidOut : laidOutB Try.prog = true := by kernel_rfl

set_option maxHeartbeats 1000000 in
set_option maxRecDepth 100000 in
theorem lifted (os : Os) (started : os.Started) (H : Type) (enc : TypeId × Value → H) :
    ReturnsInHanded {} Try.checked os 8 .any (Rows.bsetClassesSpec.pre6 enc Try.prog Try.f8 Rows.bsetClassesRow.domain false) (Rows.bsetClassesSpec.post enc Try.prog Try.f8 false true false false) := by
  refine returnsInHanded_of_change (C := Try.checked) own started (by kernel_rfl) Try.func8
    (ChangeSpec.witness6 (enc := enc) (C := Try.checked) false ⟨#[], #[], []⟩ 8 (by kernel_rfl) (by kernel_rfl) (by kernel_rfl) (by kernel_rfl)) ?_
  intro W base args ds gs before hval0 hW hcnd _
  have hval : ∀ (j : Nat) t v, Try.f8.params[j]? = some t → args[j]? = some v → Value.okWide Try.prog W .any base t v := hval0
  have hW' := hW
  obtain ⟨p, q, hA0, hV, rfl, hfz, hnd⟩ := hW
  have hA : DataW.TrodAll enc Try.prog W 0 (fun _ => true) true Try.f8.params.toList args.toList ds p := hA0
  rw [Try.params8] at hA hval
  obtain ⟨hargs, rfl, rfl⟩ := trodAll_nil hA
  obtain rfl : args = #[] := by cases args; simp_all
  obtain ⟨rfl, rfl⟩ := trodVars_none hV
  clear hA0 hval0
  refine (walk  W).mono fun e W' ⟨he, bel⟩ => ?_
  subst he
  exact ⟨_, rfl, _, _, _, [], _, [], hW', trodAll_mk1 (shut_bool Try.underlying4 _), trodAll_mk0, rfl, bel.frame _, fun h => by cases h⟩

theorem over : Rows.bsetClassesRow.holds Try.pinned (OpenSpec.ofChange Rows.bsetClassesSpec) :=
  OpenClaim.holds_of_wide 8 Try.f8 rfl rfl rfl rfl rfl rfl rfl ⟨rfl, rfl, rfl, rfl, rfl⟩ rfl rfl rfl rfl rfl (by kernel_rfl) Try.func8 (by kernel_rfl)
    (of_decide_eq_true (by kernel_rfl)) (by unfold Func.isWrapper; first | (rw [if_pos (by decide +kernel)]; kernel_rfl) | (rw [if_neg (by decide +kernel)]; exact ⟨rfl, rfl⟩))
    (fun os started H enc _ => lifted os started H enc)

/-- The statement. -/
theorem proved : Rows.BsetClassesSaid := over

end Go.Proofs.Ytfmgpcefghoncab.clss

namespace Go.Proofs.Ytfmgpcefghoncab
/-- BsetClasses, the closed statement. -/
theorem bsetClasses_holds : Rows.BsetClassesSaid := clss.proved
#print axioms bsetClasses_holds
end Go.Proofs.Ytfmgpcefghoncab
