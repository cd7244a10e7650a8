/- BsetLaws returns true at every two sets and byte: what is in neither is out of both, counts of two add up, twice turned about is the set. No condition. -/
import Derived.Test.YtfmgpcefghoncabOpen
import Derived.Test.YtfmgpcefghoncabAwake
import Derived.Test.YtfmgpcefghoncabClassA
import Derived.Deep.RegionHeld
import Derived.Deep.DeepCutAuto
import Derived.Lib.QuietBelow
import Derived.BigQuiet
namespace Go.Proofs.Ytfmgpcefghoncab.laws
open Go.ChangeShapes Go.WideShapes Go.ChangeAt Go.RowKit
open Go.Sort (grow)
set_option linter.unusedVariables false

theorem keepS {w W wv : World} {a b : Nat → Bool} (hb : RowKit.Below W.heap.size W wv) (h : (W.cell? ⟨w.heap.size, 0, none⟩ = some (.int .u64 (wd a 0 : Nat)) ∧ W.cell? ⟨w.heap.size, 1, none⟩ = some (.int .u64 (wd a 1 : Nat)) ∧ W.cell? ⟨w.heap.size, 2, none⟩ = some (.int .u64 (wd a 2 : Nat)) ∧ W.cell? ⟨w.heap.size, 3, none⟩ = some (.int .u64 (wd a 3 : Nat))) ∧ (W.cell? ⟨w.heap.size + 1, 0, none⟩ = some (.int .u64 (wd b 0 : Nat)) ∧ W.cell? ⟨w.heap.size + 1, 1, none⟩ = some (.int .u64 (wd b 1 : Nat)) ∧ W.cell? ⟨w.heap.size + 1, 2, none⟩ = some (.int .u64 (wd b 2 : Nat)) ∧ W.cell? ⟨w.heap.size + 1, 3, none⟩ = some (.int .u64 (wd b 3 : Nat)))) :
    (wv.cell? ⟨w.heap.size, 0, none⟩ = some (.int .u64 (wd a 0 : Nat)) ∧ wv.cell? ⟨w.heap.size, 1, none⟩ = some (.int .u64 (wd a 1 : Nat)) ∧ wv.cell? ⟨w.heap.size, 2, none⟩ = some (.int .u64 (wd a 2 : Nat)) ∧ wv.cell? ⟨w.heap.size, 3, none⟩ = some (.int .u64 (wd a 3 : Nat))) ∧ (wv.cell? ⟨w.heap.size + 1, 0, none⟩ = some (.int .u64 (wd b 0 : Nat)) ∧ wv.cell? ⟨w.heap.size + 1, 1, none⟩ = some (.int .u64 (wd b 1 : Nat)) ∧ wv.cell? ⟨w.heap.size + 1, 2, none⟩ = some (.int .u64 (wd b 2 : Nat)) ∧ wv.cell? ⟨w.heap.size + 1, 3, none⟩ = some (.int .u64 (wd b 3 : Nat))) := by
  obtain ⟨⟨c0, c1, c2, c3⟩, d0, d1, d2, d3⟩ := h
  have l1 := World.block_lt_of_cell? W _ c0
  have l2 := World.block_lt_of_cell? W _ d0
  exact ⟨⟨(hb.cell (p := ⟨w.heap.size, 0, none⟩) l1).trans c0, (hb.cell (p := ⟨w.heap.size, 1, none⟩) l1).trans c1, (hb.cell (p := ⟨w.heap.size, 2, none⟩) l1).trans c2, (hb.cell (p := ⟨w.heap.size, 3, none⟩) l1).trans c3⟩, (hb.cell (p := ⟨w.heap.size + 1, 0, none⟩) l2).trans d0, (hb.cell (p := ⟨w.heap.size + 1, 1, none⟩) l2).trans d1, (hb.cell (p := ⟨w.heap.size + 1, 2, none⟩) l2).trans d2, (hb.cell (p := ⟨w.heap.size + 1, 3, none⟩) l2).trans d3⟩

theorem keepT {w W wv : World} {a b : Nat → Bool} (h : (W.cell? ⟨w.heap.size, 0, none⟩ = some (.int .u64 (wd a 0 : Nat)) ∧ W.cell? ⟨w.heap.size, 1, none⟩ = some (.int .u64 (wd a 1 : Nat)) ∧ W.cell? ⟨w.heap.size, 2, none⟩ = some (.int .u64 (wd a 2 : Nat)) ∧ W.cell? ⟨w.heap.size, 3, none⟩ = some (.int .u64 (wd a 3 : Nat))) ∧ (W.cell? ⟨w.heap.size + 1, 0, none⟩ = some (.int .u64 (wd b 0 : Nat)) ∧ W.cell? ⟨w.heap.size + 1, 1, none⟩ = some (.int .u64 (wd b 1 : Nat)) ∧ W.cell? ⟨w.heap.size + 1, 2, none⟩ = some (.int .u64 (wd b 2 : Nat)) ∧ W.cell? ⟨w.heap.size + 1, 3, none⟩ = some (.int .u64 (wd b 3 : Nat)))) (hb : RowKit.Below (w.heap.size + 2) W wv) :
    (wv.cell? ⟨w.heap.size, 0, none⟩ = some (.int .u64 (wd a 0 : Nat)) ∧ wv.cell? ⟨w.heap.size, 1, none⟩ = some (.int .u64 (wd a 1 : Nat)) ∧ wv.cell? ⟨w.heap.size, 2, none⟩ = some (.int .u64 (wd a 2 : Nat)) ∧ wv.cell? ⟨w.heap.size, 3, none⟩ = some (.int .u64 (wd a 3 : Nat))) ∧ (wv.cell? ⟨w.heap.size + 1, 0, none⟩ = some (.int .u64 (wd b 0 : Nat)) ∧ wv.cell? ⟨w.heap.size + 1, 1, none⟩ = some (.int .u64 (wd b 1 : Nat)) ∧ wv.cell? ⟨w.heap.size + 1, 2, none⟩ = some (.int .u64 (wd b 2 : Nat)) ∧ wv.cell? ⟨w.heap.size + 1, 3, none⟩ = some (.int .u64 (wd b 3 : Nat))) := by
  obtain ⟨⟨c0, c1, c2, c3⟩, d0, d1, d2, d3⟩ := h
  exact ⟨⟨(hb.cell (p := ⟨w.heap.size, 0, none⟩) (by simp)).trans c0, (hb.cell (p := ⟨w.heap.size, 1, none⟩) (by simp)).trans c1, (hb.cell (p := ⟨w.heap.size, 2, none⟩) (by simp)).trans c2, (hb.cell (p := ⟨w.heap.size, 3, none⟩) (by simp)).trans c3⟩, (hb.cell (p := ⟨w.heap.size + 1, 0, none⟩) (by simp)).trans d0, (hb.cell (p := ⟨w.heap.size + 1, 1, none⟩) (by simp)).trans d1, (hb.cell (p := ⟨w.heap.size + 1, 2, none⟩) (by simp)).trans d2, (hb.cell (p := ⟨w.heap.size + 1, 3, none⟩) (by simp)).trans d3⟩


theorem zero1 {W wv : World} (hb : RowKit.Below (W.alloc (.cells #[.int .u64 0, .int .u64 0, .int .u64 0, .int .u64 0] 24)).heap.size (W.alloc (.cells #[.int .u64 0, .int .u64 0, .int .u64 0, .int .u64 0] 24)) wv) : Holds4 wv W.heap.size (fun _ => false) := (holds4_zero W 24).below hb (by simp)
theorem zero2a {W wv : World} {o : Obj} (hb : RowKit.Below ((W.alloc (.cells #[.int .u64 0, .int .u64 0, .int .u64 0, .int .u64 0] 24)).alloc o).heap.size ((W.alloc (.cells #[.int .u64 0, .int .u64 0, .int .u64 0, .int .u64 0] 24)).alloc o) wv) : Holds4 wv W.heap.size (fun _ => false) := ((holds4_zero W 24).alloc o).below hb (by simp; omega)
theorem zero2b {W wv : World} {o : Obj} (hb : RowKit.Below ((W.alloc o).alloc (.cells #[.int .u64 0, .int .u64 0, .int .u64 0, .int .u64 0] 24)).heap.size ((W.alloc o).alloc (.cells #[.int .u64 0, .int .u64 0, .int .u64 0, .int .u64 0] 24)) wv) : Holds4 wv (W.heap.size + 1) (fun _ => false) := by
  have h := holds4_zero (W.alloc o) 24
  rw [World.size_alloc] at h
  exact h.below hb (by simp)
theorem zero1d {W wv : World} (hb : RowKit.Below (W.alloc (.cells #[.int .u64 0, .int .u64 0, .int .u64 0, .int .u64 0] 24)).drew.heap.size (W.alloc (.cells #[.int .u64 0, .int .u64 0, .int .u64 0, .int .u64 0] 24)).drew wv) : Holds4 wv W.heap.size (fun _ => false) := (holds4_zero W 24).drew.below hb (by simp)
theorem zero2ad {W wv : World} {o : Obj} (hb : RowKit.Below ((W.alloc (.cells #[.int .u64 0, .int .u64 0, .int .u64 0, .int .u64 0] 24)).alloc o).drew.heap.size ((W.alloc (.cells #[.int .u64 0, .int .u64 0, .int .u64 0, .int .u64 0] 24)).alloc o).drew wv) : Holds4 wv W.heap.size (fun _ => false) := ((holds4_zero W 24).alloc o).drew.below hb (by simp; omega)
theorem zero2bd {W wv : World} {o : Obj} (hb : RowKit.Below ((W.alloc o).alloc (.cells #[.int .u64 0, .int .u64 0, .int .u64 0, .int .u64 0] 24)).drew.heap.size ((W.alloc o).alloc (.cells #[.int .u64 0, .int .u64 0, .int .u64 0, .int .u64 0] 24)).drew wv) : Holds4 wv (W.heap.size + 1) (fun _ => false) := by
  have h := holds4_zero (W.alloc o) 24
  rw [World.size_alloc] at h
  exact h.drew.below hb (by simp)
theorem comB1d {w W wx : World} {o : Obj} (hB : RowKit.Below w.heap.size w W) (hb : RowKit.Below (W.alloc o).drew.heap.size (W.alloc o).drew wx) : RowKit.Below w.heap.size w wx := (hB.alloc hB.size o).drew.trans (hb.mono (hB.alloc hB.size o).size)
theorem comB2d {w W wx : World} {o o2 : Obj} (hB : RowKit.Below w.heap.size w W) (hb : RowKit.Below ((W.alloc o).alloc o2).drew.heap.size ((W.alloc o).alloc o2).drew wx) : RowKit.Below w.heap.size w wx := comB1d (hB.alloc hB.size o) hb
theorem carry0 {W wx : World} {b : Nat} {p : Nat → Bool} (z : Holds4 W b p) (hb : RowKit.Below W.heap.size W wx) : Holds4 wx b p := z.below hb z.lt
theorem carry1 {W wx : World} {o : Obj} {b : Nat} {p : Nat → Bool} (z : Holds4 W b p) (hb : RowKit.Below (W.alloc o).heap.size (W.alloc o) wx) : Holds4 wx b p := (z.alloc o).below hb (z.alloc o).lt
theorem carry2 {W wx : World} {o o2 : Obj} {b : Nat} {p : Nat → Bool} (z : Holds4 W b p) (hb : RowKit.Below ((W.alloc o).alloc o2).heap.size ((W.alloc o).alloc o2) wx) : Holds4 wx b p := ((z.alloc o).alloc o2).below hb ((z.alloc o).alloc o2).lt
theorem comB0 {w W wx : World} (hB : RowKit.Below w.heap.size w W) (hb : RowKit.Below W.heap.size W wx) : RowKit.Below w.heap.size w wx := hB.trans (hb.mono hB.size)
theorem comB1 {w W wx : World} {o : Obj} (hB : RowKit.Below w.heap.size w W) (hb : RowKit.Below (W.alloc o).heap.size (W.alloc o) wx) : RowKit.Below w.heap.size w wx := comB0 (hB.alloc hB.size o) hb
theorem comB2 {w W wx : World} {o o2 : Obj} (hB : RowKit.Below w.heap.size w W) (hb : RowKit.Below ((W.alloc o).alloc o2).heap.size ((W.alloc o).alloc o2) wx) : RowKit.Below w.heap.size w wx := comB1 (hB.alloc hB.size o) hb

theorem l_ll {w wx : World} {a b : Nat → Bool} (hS : (wx.cell? ⟨w.heap.size, 0, none⟩ = some (.int .u64 (wd a 0 : Nat)) ∧ wx.cell? ⟨w.heap.size, 1, none⟩ = some (.int .u64 (wd a 1 : Nat)) ∧ wx.cell? ⟨w.heap.size, 2, none⟩ = some (.int .u64 (wd a 2 : Nat)) ∧ wx.cell? ⟨w.heap.size, 3, none⟩ = some (.int .u64 (wd a 3 : Nat))) ∧ (wx.cell? ⟨w.heap.size + 1, 0, none⟩ = some (.int .u64 (wd b 0 : Nat)) ∧ wx.cell? ⟨w.heap.size + 1, 1, none⟩ = some (.int .u64 (wd b 1 : Nat)) ∧ wx.cell? ⟨w.heap.size + 1, 2, none⟩ = some (.int .u64 (wd b 2 : Nat)) ∧ wx.cell? ⟨w.heap.size + 1, 3, none⟩ = some (.int .u64 (wd b 3 : Nat)))) (hB : RowKit.Below w.heap.size w wx) (hl : w.heap.size + 2 ≤ wx.heap.size) : ∃ b7 b8, Value.pointer (some ⟨wx.heap.size, 0, none⟩) = .pointer (some ⟨b7, 0, none⟩) ∧ Value.pointer (some ⟨wx.heap.size + 1, 0, none⟩) = .pointer (some ⟨b8, 0, none⟩) ∧ Holds4 ((wx.alloc (.cells #[.int .u64 (wd (orP a b) 0 : Nat), .int .u64 (wd (orP a b) 1 : Nat), .int .u64 (wd (orP a b) 2 : Nat), .int .u64 (wd (orP a b) 3 : Nat)] 24)).alloc (.cells #[.int .u64 (wd (andP a b) 0 : Nat), .int .u64 (wd (andP a b) 1 : Nat), .int .u64 (wd (andP a b) 2 : Nat), .int .u64 (wd (andP a b) 3 : Nat)] 24)) b7 (orP a b) ∧ Holds4 ((wx.alloc (.cells #[.int .u64 (wd (orP a b) 0 : Nat), .int .u64 (wd (orP a b) 1 : Nat), .int .u64 (wd (orP a b) 2 : Nat), .int .u64 (wd (orP a b) 3 : Nat)] 24)).alloc (.cells #[.int .u64 (wd (andP a b) 0 : Nat), .int .u64 (wd (andP a b) 1 : Nat), .int .u64 (wd (andP a b) 2 : Nat), .int .u64 (wd (andP a b) 3 : Nat)] 24)) b8 (andP a b) ∧ ((((wx.alloc (.cells #[.int .u64 (wd (orP a b) 0 : Nat), .int .u64 (wd (orP a b) 1 : Nat), .int .u64 (wd (orP a b) 2 : Nat), .int .u64 (wd (orP a b) 3 : Nat)] 24)).alloc (.cells #[.int .u64 (wd (andP a b) 0 : Nat), .int .u64 (wd (andP a b) 1 : Nat), .int .u64 (wd (andP a b) 2 : Nat), .int .u64 (wd (andP a b) 3 : Nat)] 24)).cell? ⟨w.heap.size, 0, none⟩ = some (.int .u64 (wd a 0 : Nat)) ∧ ((wx.alloc (.cells #[.int .u64 (wd (orP a b) 0 : Nat), .int .u64 (wd (orP a b) 1 : Nat), .int .u64 (wd (orP a b) 2 : Nat), .int .u64 (wd (orP a b) 3 : Nat)] 24)).alloc (.cells #[.int .u64 (wd (andP a b) 0 : Nat), .int .u64 (wd (andP a b) 1 : Nat), .int .u64 (wd (andP a b) 2 : Nat), .int .u64 (wd (andP a b) 3 : Nat)] 24)).cell? ⟨w.heap.size, 1, none⟩ = some (.int .u64 (wd a 1 : Nat)) ∧ ((wx.alloc (.cells #[.int .u64 (wd (orP a b) 0 : Nat), .int .u64 (wd (orP a b) 1 : Nat), .int .u64 (wd (orP a b) 2 : Nat), .int .u64 (wd (orP a b) 3 : Nat)] 24)).alloc (.cells #[.int .u64 (wd (andP a b) 0 : Nat), .int .u64 (wd (andP a b) 1 : Nat), .int .u64 (wd (andP a b) 2 : Nat), .int .u64 (wd (andP a b) 3 : Nat)] 24)).cell? ⟨w.heap.size, 2, none⟩ = some (.int .u64 (wd a 2 : Nat)) ∧ ((wx.alloc (.cells #[.int .u64 (wd (orP a b) 0 : Nat), .int .u64 (wd (orP a b) 1 : Nat), .int .u64 (wd (orP a b) 2 : Nat), .int .u64 (wd (orP a b) 3 : Nat)] 24)).alloc (.cells #[.int .u64 (wd (andP a b) 0 : Nat), .int .u64 (wd (andP a b) 1 : Nat), .int .u64 (wd (andP a b) 2 : Nat), .int .u64 (wd (andP a b) 3 : Nat)] 24)).cell? ⟨w.heap.size, 3, none⟩ = some (.int .u64 (wd a 3 : Nat))) ∧ (((wx.alloc (.cells #[.int .u64 (wd (orP a b) 0 : Nat), .int .u64 (wd (orP a b) 1 : Nat), .int .u64 (wd (orP a b) 2 : Nat), .int .u64 (wd (orP a b) 3 : Nat)] 24)).alloc (.cells #[.int .u64 (wd (andP a b) 0 : Nat), .int .u64 (wd (andP a b) 1 : Nat), .int .u64 (wd (andP a b) 2 : Nat), .int .u64 (wd (andP a b) 3 : Nat)] 24)).cell? ⟨w.heap.size + 1, 0, none⟩ = some (.int .u64 (wd b 0 : Nat)) ∧ ((wx.alloc (.cells #[.int .u64 (wd (orP a b) 0 : Nat), .int .u64 (wd (orP a b) 1 : Nat), .int .u64 (wd (orP a b) 2 : Nat), .int .u64 (wd (orP a b) 3 : Nat)] 24)).alloc (.cells #[.int .u64 (wd (andP a b) 0 : Nat), .int .u64 (wd (andP a b) 1 : Nat), .int .u64 (wd (andP a b) 2 : Nat), .int .u64 (wd (andP a b) 3 : Nat)] 24)).cell? ⟨w.heap.size + 1, 1, none⟩ = some (.int .u64 (wd b 1 : Nat)) ∧ ((wx.alloc (.cells #[.int .u64 (wd (orP a b) 0 : Nat), .int .u64 (wd (orP a b) 1 : Nat), .int .u64 (wd (orP a b) 2 : Nat), .int .u64 (wd (orP a b) 3 : Nat)] 24)).alloc (.cells #[.int .u64 (wd (andP a b) 0 : Nat), .int .u64 (wd (andP a b) 1 : Nat), .int .u64 (wd (andP a b) 2 : Nat), .int .u64 (wd (andP a b) 3 : Nat)] 24)).cell? ⟨w.heap.size + 1, 2, none⟩ = some (.int .u64 (wd b 2 : Nat)) ∧ ((wx.alloc (.cells #[.int .u64 (wd (orP a b) 0 : Nat), .int .u64 (wd (orP a b) 1 : Nat), .int .u64 (wd (orP a b) 2 : Nat), .int .u64 (wd (orP a b) 3 : Nat)] 24)).alloc (.cells #[.int .u64 (wd (andP a b) 0 : Nat), .int .u64 (wd (andP a b) 1 : Nat), .int .u64 (wd (andP a b) 2 : Nat), .int .u64 (wd (andP a b) 3 : Nat)] 24)).cell? ⟨w.heap.size + 1, 3, none⟩ = some (.int .u64 (wd b 3 : Nat)))) ∧ RowKit.Below w.heap.size w ((wx.alloc (.cells #[.int .u64 (wd (orP a b) 0 : Nat), .int .u64 (wd (orP a b) 1 : Nat), .int .u64 (wd (orP a b) 2 : Nat), .int .u64 (wd (orP a b) 3 : Nat)] 24)).alloc (.cells #[.int .u64 (wd (andP a b) 0 : Nat), .int .u64 (wd (andP a b) 1 : Nat), .int .u64 (wd (andP a b) 2 : Nat), .int .u64 (wd (andP a b) 3 : Nat)] 24)) := by
  have h8 := holds4_new (wx.alloc (.cells #[.int .u64 (wd (orP a b) 0 : Nat), .int .u64 (wd (orP a b) 1 : Nat), .int .u64 (wd (orP a b) 2 : Nat), .int .u64 (wd (orP a b) 3 : Nat)] 24)) (andP a b) 24
  rw [World.size_alloc] at h8
  exact ⟨_, _, rfl, rfl, (holds4_new wx (orP a b) 24).alloc _, h8, keepT hS (((RowKit.Below.refl _ _).alloc hl _).alloc (by simp; omega) _), (hB.alloc hB.size _).alloc (hB.alloc hB.size _).size _⟩
theorem l_ll2 {w wx : World} {a b : Nat → Bool} (hS : (wx.cell? ⟨w.heap.size, 0, none⟩ = some (.int .u64 (wd a 0 : Nat)) ∧ wx.cell? ⟨w.heap.size, 1, none⟩ = some (.int .u64 (wd a 1 : Nat)) ∧ wx.cell? ⟨w.heap.size, 2, none⟩ = some (.int .u64 (wd a 2 : Nat)) ∧ wx.cell? ⟨w.heap.size, 3, none⟩ = some (.int .u64 (wd a 3 : Nat))) ∧ (wx.cell? ⟨w.heap.size + 1, 0, none⟩ = some (.int .u64 (wd b 0 : Nat)) ∧ wx.cell? ⟨w.heap.size + 1, 1, none⟩ = some (.int .u64 (wd b 1 : Nat)) ∧ wx.cell? ⟨w.heap.size + 1, 2, none⟩ = some (.int .u64 (wd b 2 : Nat)) ∧ wx.cell? ⟨w.heap.size + 1, 3, none⟩ = some (.int .u64 (wd b 3 : Nat)))) (hB : RowKit.Below w.heap.size w wx) (hl : w.heap.size + 2 ≤ wx.heap.size) : ∃ b7 b8, Value.pointer (some ⟨wx.heap.size + 1, 0, none⟩) = .pointer (some ⟨b7, 0, none⟩) ∧ Value.pointer (some ⟨wx.heap.size, 0, none⟩) = .pointer (some ⟨b8, 0, none⟩) ∧ Holds4 ((wx.alloc (.cells #[.int .u64 (wd (andP a b) 0 : Nat), .int .u64 (wd (andP a b) 1 : Nat), .int .u64 (wd (andP a b) 2 : Nat), .int .u64 (wd (andP a b) 3 : Nat)] 24)).alloc (.cells #[.int .u64 (wd (orP a b) 0 : Nat), .int .u64 (wd (orP a b) 1 : Nat), .int .u64 (wd (orP a b) 2 : Nat), .int .u64 (wd (orP a b) 3 : Nat)] 24)) b7 (orP a b) ∧ Holds4 ((wx.alloc (.cells #[.int .u64 (wd (andP a b) 0 : Nat), .int .u64 (wd (andP a b) 1 : Nat), .int .u64 (wd (andP a b) 2 : Nat), .int .u64 (wd (andP a b) 3 : Nat)] 24)).alloc (.cells #[.int .u64 (wd (orP a b) 0 : Nat), .int .u64 (wd (orP a b) 1 : Nat), .int .u64 (wd (orP a b) 2 : Nat), .int .u64 (wd (orP a b) 3 : Nat)] 24)) b8 (andP a b) ∧ ((((wx.alloc (.cells #[.int .u64 (wd (andP a b) 0 : Nat), .int .u64 (wd (andP a b) 1 : Nat), .int .u64 (wd (andP a b) 2 : Nat), .int .u64 (wd (andP a b) 3 : Nat)] 24)).alloc (.cells #[.int .u64 (wd (orP a b) 0 : Nat), .int .u64 (wd (orP a b) 1 : Nat), .int .u64 (wd (orP a b) 2 : Nat), .int .u64 (wd (orP a b) 3 : Nat)] 24)).cell? ⟨w.heap.size, 0, none⟩ = some (.int .u64 (wd a 0 : Nat)) ∧ ((wx.alloc (.cells #[.int .u64 (wd (andP a b) 0 : Nat), .int .u64 (wd (andP a b) 1 : Nat), .int .u64 (wd (andP a b) 2 : Nat), .int .u64 (wd (andP a b) 3 : Nat)] 24)).alloc (.cells #[.int .u64 (wd (orP a b) 0 : Nat), .int .u64 (wd (orP a b) 1 : Nat), .int .u64 (wd (orP a b) 2 : Nat), .int .u64 (wd (orP a b) 3 : Nat)] 24)).cell? ⟨w.heap.size, 1, none⟩ = some (.int .u64 (wd a 1 : Nat)) ∧ ((wx.alloc (.cells #[.int .u64 (wd (andP a b) 0 : Nat), .int .u64 (wd (andP a b) 1 : Nat), .int .u64 (wd (andP a b) 2 : Nat), .int .u64 (wd (andP a b) 3 : Nat)] 24)).alloc (.cells #[.int .u64 (wd (orP a b) 0 : Nat), .int .u64 (wd (orP a b) 1 : Nat), .int .u64 (wd (orP a b) 2 : Nat), .int .u64 (wd (orP a b) 3 : Nat)] 24)).cell? ⟨w.heap.size, 2, none⟩ = some (.int .u64 (wd a 2 : Nat)) ∧ ((wx.alloc (.cells #[.int .u64 (wd (andP a b) 0 : Nat), .int .u64 (wd (andP a b) 1 : Nat), .int .u64 (wd (andP a b) 2 : Nat), .int .u64 (wd (andP a b) 3 : Nat)] 24)).alloc (.cells #[.int .u64 (wd (orP a b) 0 : Nat), .int .u64 (wd (orP a b) 1 : Nat), .int .u64 (wd (orP a b) 2 : Nat), .int .u64 (wd (orP a b) 3 : Nat)] 24)).cell? ⟨w.heap.size, 3, none⟩ = some (.int .u64 (wd a 3 : Nat))) ∧ (((wx.alloc (.cells #[.int .u64 (wd (andP a b) 0 : Nat), .int .u64 (wd (andP a b) 1 : Nat), .int .u64 (wd (andP a b) 2 : Nat), .int .u64 (wd (andP a b) 3 : Nat)] 24)).alloc (.cells #[.int .u64 (wd (orP a b) 0 : Nat), .int .u64 (wd (orP a b) 1 : Nat), .int .u64 (wd (orP a b) 2 : Nat), .int .u64 (wd (orP a b) 3 : Nat)] 24)).cell? ⟨w.heap.size + 1, 0, none⟩ = some (.int .u64 (wd b 0 : Nat)) ∧ ((wx.alloc (.cells #[.int .u64 (wd (andP a b) 0 : Nat), .int .u64 (wd (andP a b) 1 : Nat), .int .u64 (wd (andP a b) 2 : Nat), .int .u64 (wd (andP a b) 3 : Nat)] 24)).alloc (.cells #[.int .u64 (wd (orP a b) 0 : Nat), .int .u64 (wd (orP a b) 1 : Nat), .int .u64 (wd (orP a b) 2 : Nat), .int .u64 (wd (orP a b) 3 : Nat)] 24)).cell? ⟨w.heap.size + 1, 1, none⟩ = some (.int .u64 (wd b 1 : Nat)) ∧ ((wx.alloc (.cells #[.int .u64 (wd (andP a b) 0 : Nat), .int .u64 (wd (andP a b) 1 : Nat), .int .u64 (wd (andP a b) 2 : Nat), .int .u64 (wd (andP a b) 3 : Nat)] 24)).alloc (.cells #[.int .u64 (wd (orP a b) 0 : Nat), .int .u64 (wd (orP a b) 1 : Nat), .int .u64 (wd (orP a b) 2 : Nat), .int .u64 (wd (orP a b) 3 : Nat)] 24)).cell? ⟨w.heap.size + 1, 2, none⟩ = some (.int .u64 (wd b 2 : Nat)) ∧ ((wx.alloc (.cells #[.int .u64 (wd (andP a b) 0 : Nat), .int .u64 (wd (andP a b) 1 : Nat), .int .u64 (wd (andP a b) 2 : Nat), .int .u64 (wd (andP a b) 3 : Nat)] 24)).alloc (.cells #[.int .u64 (wd (orP a b) 0 : Nat), .int .u64 (wd (orP a b) 1 : Nat), .int .u64 (wd (orP a b) 2 : Nat), .int .u64 (wd (orP a b) 3 : Nat)] 24)).cell? ⟨w.heap.size + 1, 3, none⟩ = some (.int .u64 (wd b 3 : Nat)))) ∧ RowKit.Below w.heap.size w ((wx.alloc (.cells #[.int .u64 (wd (andP a b) 0 : Nat), .int .u64 (wd (andP a b) 1 : Nat), .int .u64 (wd (andP a b) 2 : Nat), .int .u64 (wd (andP a b) 3 : Nat)] 24)).alloc (.cells #[.int .u64 (wd (orP a b) 0 : Nat), .int .u64 (wd (orP a b) 1 : Nat), .int .u64 (wd (orP a b) 2 : Nat), .int .u64 (wd (orP a b) 3 : Nat)] 24)) := by
  have h8 := holds4_new (wx.alloc (.cells #[.int .u64 (wd (andP a b) 0 : Nat), .int .u64 (wd (andP a b) 1 : Nat), .int .u64 (wd (andP a b) 2 : Nat), .int .u64 (wd (andP a b) 3 : Nat)] 24)) (orP a b) 24
  rw [World.size_alloc] at h8
  exact ⟨_, _, rfl, rfl, h8, (holds4_new wx (andP a b) 24).alloc _, keepT hS (((RowKit.Below.refl _ _).alloc hl _).alloc (by simp; omega) _), (hB.alloc hB.size _).alloc (hB.alloc hB.size _).size _⟩
theorem size_put4 (W : World) (c : Nat) (q : Nat → Bool) : (put4 W c q).heap.size = W.heap.size := by simp [put4]
theorem l_zl {w wx : World} {a b : Nat → Bool} (hS : (wx.cell? ⟨w.heap.size, 0, none⟩ = some (.int .u64 (wd a 0 : Nat)) ∧ wx.cell? ⟨w.heap.size, 1, none⟩ = some (.int .u64 (wd a 1 : Nat)) ∧ wx.cell? ⟨w.heap.size, 2, none⟩ = some (.int .u64 (wd a 2 : Nat)) ∧ wx.cell? ⟨w.heap.size, 3, none⟩ = some (.int .u64 (wd a 3 : Nat))) ∧ (wx.cell? ⟨w.heap.size + 1, 0, none⟩ = some (.int .u64 (wd b 0 : Nat)) ∧ wx.cell? ⟨w.heap.size + 1, 1, none⟩ = some (.int .u64 (wd b 1 : Nat)) ∧ wx.cell? ⟨w.heap.size + 1, 2, none⟩ = some (.int .u64 (wd b 2 : Nat)) ∧ wx.cell? ⟨w.heap.size + 1, 3, none⟩ = some (.int .u64 (wd b 3 : Nat)))) (hB : RowKit.Below w.heap.size w wx) (hl : w.heap.size + 2 ≤ wx.heap.size) {c : Nat} {z : Nat → Bool} (hz : Holds4 wx c z) (hc : w.heap.size + 2 ≤ c) : ∃ b7 b8, Value.pointer (some ⟨c, 0, none⟩) = .pointer (some ⟨b7, 0, none⟩) ∧ Value.pointer (some ⟨wx.heap.size, 0, none⟩) = .pointer (some ⟨b8, 0, none⟩) ∧ Holds4 ((put4 wx c (orP a b)).alloc (.cells #[.int .u64 (wd (andP a b) 0 : Nat), .int .u64 (wd (andP a b) 1 : Nat), .int .u64 (wd (andP a b) 2 : Nat), .int .u64 (wd (andP a b) 3 : Nat)] 24)) b7 (orP a b) ∧ Holds4 ((put4 wx c (orP a b)).alloc (.cells #[.int .u64 (wd (andP a b) 0 : Nat), .int .u64 (wd (andP a b) 1 : Nat), .int .u64 (wd (andP a b) 2 : Nat), .int .u64 (wd (andP a b) 3 : Nat)] 24)) b8 (andP a b) ∧ ((((put4 wx c (orP a b)).alloc (.cells #[.int .u64 (wd (andP a b) 0 : Nat), .int .u64 (wd (andP a b) 1 : Nat), .int .u64 (wd (andP a b) 2 : Nat), .int .u64 (wd (andP a b) 3 : Nat)] 24)).cell? ⟨w.heap.size, 0, none⟩ = some (.int .u64 (wd a 0 : Nat)) ∧ ((put4 wx c (orP a b)).alloc (.cells #[.int .u64 (wd (andP a b) 0 : Nat), .int .u64 (wd (andP a b) 1 : Nat), .int .u64 (wd (andP a b) 2 : Nat), .int .u64 (wd (andP a b) 3 : Nat)] 24)).cell? ⟨w.heap.size, 1, none⟩ = some (.int .u64 (wd a 1 : Nat)) ∧ ((put4 wx c (orP a b)).alloc (.cells #[.int .u64 (wd (andP a b) 0 : Nat), .int .u64 (wd (andP a b) 1 : Nat), .int .u64 (wd (andP a b) 2 : Nat), .int .u64 (wd (andP a b) 3 : Nat)] 24)).cell? ⟨w.heap.size, 2, none⟩ = some (.int .u64 (wd a 2 : Nat)) ∧ ((put4 wx c (orP a b)).alloc (.cells #[.int .u64 (wd (andP a b) 0 : Nat), .int .u64 (wd (andP a b) 1 : Nat), .int .u64 (wd (andP a b) 2 : Nat), .int .u64 (wd (andP a b) 3 : Nat)] 24)).cell? ⟨w.heap.size, 3, none⟩ = some (.int .u64 (wd a 3 : Nat))) ∧ (((put4 wx c (orP a b)).alloc (.cells #[.int .u64 (wd (andP a b) 0 : Nat), .int .u64 (wd (andP a b) 1 : Nat), .int .u64 (wd (andP a b) 2 : Nat), .int .u64 (wd (andP a b) 3 : Nat)] 24)).cell? ⟨w.heap.size + 1, 0, none⟩ = some (.int .u64 (wd b 0 : Nat)) ∧ ((put4 wx c (orP a b)).alloc (.cells #[.int .u64 (wd (andP a b) 0 : Nat), .int .u64 (wd (andP a b) 1 : Nat), .int .u64 (wd (andP a b) 2 : Nat), .int .u64 (wd (andP a b) 3 : Nat)] 24)).cell? ⟨w.heap.size + 1, 1, none⟩ = some (.int .u64 (wd b 1 : Nat)) ∧ ((put4 wx c (orP a b)).alloc (.cells #[.int .u64 (wd (andP a b) 0 : Nat), .int .u64 (wd (andP a b) 1 : Nat), .int .u64 (wd (andP a b) 2 : Nat), .int .u64 (wd (andP a b) 3 : Nat)] 24)).cell? ⟨w.heap.size + 1, 2, none⟩ = some (.int .u64 (wd b 2 : Nat)) ∧ ((put4 wx c (orP a b)).alloc (.cells #[.int .u64 (wd (andP a b) 0 : Nat), .int .u64 (wd (andP a b) 1 : Nat), .int .u64 (wd (andP a b) 2 : Nat), .int .u64 (wd (andP a b) 3 : Nat)] 24)).cell? ⟨w.heap.size + 1, 3, none⟩ = some (.int .u64 (wd b 3 : Nat)))) ∧ RowKit.Below w.heap.size w ((put4 wx c (orP a b)).alloc (.cells #[.int .u64 (wd (andP a b) 0 : Nat), .int .u64 (wd (andP a b) 1 : Nat), .int .u64 (wd (andP a b) 2 : Nat), .int .u64 (wd (andP a b) 3 : Nat)] 24)) := by
  have h8 := holds4_new (put4 wx c (orP a b)) (andP a b) 24
  rw [size_put4] at h8
  have hB2 := below_put4 hB (b := c) (by omega) (orP a b)
  exact ⟨_, _, rfl, rfl, (hz.put _).alloc _, h8, keepT hS ((below_put4 (RowKit.Below.refl _ _) hc _).alloc (by rw [size_put4]; exact hl) _), hB2.alloc hB2.size _⟩
theorem l_lz {w wx : World} {a b : Nat → Bool} (hS : (wx.cell? ⟨w.heap.size, 0, none⟩ = some (.int .u64 (wd a 0 : Nat)) ∧ wx.cell? ⟨w.heap.size, 1, none⟩ = some (.int .u64 (wd a 1 : Nat)) ∧ wx.cell? ⟨w.heap.size, 2, none⟩ = some (.int .u64 (wd a 2 : Nat)) ∧ wx.cell? ⟨w.heap.size, 3, none⟩ = some (.int .u64 (wd a 3 : Nat))) ∧ (wx.cell? ⟨w.heap.size + 1, 0, none⟩ = some (.int .u64 (wd b 0 : Nat)) ∧ wx.cell? ⟨w.heap.size + 1, 1, none⟩ = some (.int .u64 (wd b 1 : Nat)) ∧ wx.cell? ⟨w.heap.size + 1, 2, none⟩ = some (.int .u64 (wd b 2 : Nat)) ∧ wx.cell? ⟨w.heap.size + 1, 3, none⟩ = some (.int .u64 (wd b 3 : Nat)))) (hB : RowKit.Below w.heap.size w wx) (hl : w.heap.size + 2 ≤ wx.heap.size) {c : Nat} {z : Nat → Bool} (hz : Holds4 wx c z) (hc : w.heap.size + 2 ≤ c) : ∃ b7 b8, Value.pointer (some ⟨wx.heap.size, 0, none⟩) = .pointer (some ⟨b7, 0, none⟩) ∧ Value.pointer (some ⟨c, 0, none⟩) = .pointer (some ⟨b8, 0, none⟩) ∧ Holds4 ((put4 wx c (andP a b)).alloc (.cells #[.int .u64 (wd (orP a b) 0 : Nat), .int .u64 (wd (orP a b) 1 : Nat), .int .u64 (wd (orP a b) 2 : Nat), .int .u64 (wd (orP a b) 3 : Nat)] 24)) b7 (orP a b) ∧ Holds4 ((put4 wx c (andP a b)).alloc (.cells #[.int .u64 (wd (orP a b) 0 : Nat), .int .u64 (wd (orP a b) 1 : Nat), .int .u64 (wd (orP a b) 2 : Nat), .int .u64 (wd (orP a b) 3 : Nat)] 24)) b8 (andP a b) ∧ ((((put4 wx c (andP a b)).alloc (.cells #[.int .u64 (wd (orP a b) 0 : Nat), .int .u64 (wd (orP a b) 1 : Nat), .int .u64 (wd (orP a b) 2 : Nat), .int .u64 (wd (orP a b) 3 : Nat)] 24)).cell? ⟨w.heap.size, 0, none⟩ = some (.int .u64 (wd a 0 : Nat)) ∧ ((put4 wx c (andP a b)).alloc (.cells #[.int .u64 (wd (orP a b) 0 : Nat), .int .u64 (wd (orP a b) 1 : Nat), .int .u64 (wd (orP a b) 2 : Nat), .int .u64 (wd (orP a b) 3 : Nat)] 24)).cell? ⟨w.heap.size, 1, none⟩ = some (.int .u64 (wd a 1 : Nat)) ∧ ((put4 wx c (andP a b)).alloc (.cells #[.int .u64 (wd (orP a b) 0 : Nat), .int .u64 (wd (orP a b) 1 : Nat), .int .u64 (wd (orP a b) 2 : Nat), .int .u64 (wd (orP a b) 3 : Nat)] 24)).cell? ⟨w.heap.size, 2, none⟩ = some (.int .u64 (wd a 2 : Nat)) ∧ ((put4 wx c (andP a b)).alloc (.cells #[.int .u64 (wd (orP a b) 0 : Nat), .int .u64 (wd (orP a b) 1 : Nat), .int .u64 (wd (orP a b) 2 : Nat), .int .u64 (wd (orP a b) 3 : Nat)] 24)).cell? ⟨w.heap.size, 3, none⟩ = some (.int .u64 (wd a 3 : Nat))) ∧ (((put4 wx c (andP a b)).alloc (.cells #[.int .u64 (wd (orP a b) 0 : Nat), .int .u64 (wd (orP a b) 1 : Nat), .int .u64 (wd (orP a b) 2 : Nat), .int .u64 (wd (orP a b) 3 : Nat)] 24)).cell? ⟨w.heap.size + 1, 0, none⟩ = some (.int .u64 (wd b 0 : Nat)) ∧ ((put4 wx c (andP a b)).alloc (.cells #[.int .u64 (wd (orP a b) 0 : Nat), .int .u64 (wd (orP a b) 1 : Nat), .int .u64 (wd (orP a b) 2 : Nat), .int .u64 (wd (orP a b) 3 : Nat)] 24)).cell? ⟨w.heap.size + 1, 1, none⟩ = some (.int .u64 (wd b 1 : Nat)) ∧ ((put4 wx c (andP a b)).alloc (.cells #[.int .u64 (wd (orP a b) 0 : Nat), .int .u64 (wd (orP a b) 1 : Nat), .int .u64 (wd (orP a b) 2 : Nat), .int .u64 (wd (orP a b) 3 : Nat)] 24)).cell? ⟨w.heap.size + 1, 2, none⟩ = some (.int .u64 (wd b 2 : Nat)) ∧ ((put4 wx c (andP a b)).alloc (.cells #[.int .u64 (wd (orP a b) 0 : Nat), .int .u64 (wd (orP a b) 1 : Nat), .int .u64 (wd (orP a b) 2 : Nat), .int .u64 (wd (orP a b) 3 : Nat)] 24)).cell? ⟨w.heap.size + 1, 3, none⟩ = some (.int .u64 (wd b 3 : Nat)))) ∧ RowKit.Below w.heap.size w ((put4 wx c (andP a b)).alloc (.cells #[.int .u64 (wd (orP a b) 0 : Nat), .int .u64 (wd (orP a b) 1 : Nat), .int .u64 (wd (orP a b) 2 : Nat), .int .u64 (wd (orP a b) 3 : Nat)] 24)) := by
  have h8 := holds4_new (put4 wx c (andP a b)) (orP a b) 24
  rw [size_put4] at h8
  have hB2 := below_put4 hB (b := c) (by omega) (andP a b)
  exact ⟨_, _, rfl, rfl, h8, (hz.put _).alloc _, keepT hS ((below_put4 (RowKit.Below.refl _ _) hc _).alloc (by rw [size_put4]; exact hl) _), hB2.alloc hB2.size _⟩
theorem l_zz {w wx : World} {a b : Nat → Bool} (hS : (wx.cell? ⟨w.heap.size, 0, none⟩ = some (.int .u64 (wd a 0 : Nat)) ∧ wx.cell? ⟨w.heap.size, 1, none⟩ = some (.int .u64 (wd a 1 : Nat)) ∧ wx.cell? ⟨w.heap.size, 2, none⟩ = some (.int .u64 (wd a 2 : Nat)) ∧ wx.cell? ⟨w.heap.size, 3, none⟩ = some (.int .u64 (wd a 3 : Nat))) ∧ (wx.cell? ⟨w.heap.size + 1, 0, none⟩ = some (.int .u64 (wd b 0 : Nat)) ∧ wx.cell? ⟨w.heap.size + 1, 1, none⟩ = some (.int .u64 (wd b 1 : Nat)) ∧ wx.cell? ⟨w.heap.size + 1, 2, none⟩ = some (.int .u64 (wd b 2 : Nat)) ∧ wx.cell? ⟨w.heap.size + 1, 3, none⟩ = some (.int .u64 (wd b 3 : Nat)))) (hB : RowKit.Below w.heap.size w wx) (hl : w.heap.size + 2 ≤ wx.heap.size) {c d : Nat} {z y : Nat → Bool} (hz : Holds4 wx c z) (hy : Holds4 wx d y) (hc : w.heap.size + 2 ≤ c) (hd : w.heap.size + 2 ≤ d) (hne : c ≠ d) : ∃ b7 b8, Value.pointer (some ⟨c, 0, none⟩) = .pointer (some ⟨b7, 0, none⟩) ∧ Value.pointer (some ⟨d, 0, none⟩) = .pointer (some ⟨b8, 0, none⟩) ∧ Holds4 (put4 (put4 wx c (orP a b)) d (andP a b)) b7 (orP a b) ∧ Holds4 (put4 (put4 wx c (orP a b)) d (andP a b)) b8 (andP a b) ∧ (((put4 (put4 wx c (orP a b)) d (andP a b)).cell? ⟨w.heap.size, 0, none⟩ = some (.int .u64 (wd a 0 : Nat)) ∧ (put4 (put4 wx c (orP a b)) d (andP a b)).cell? ⟨w.heap.size, 1, none⟩ = some (.int .u64 (wd a 1 : Nat)) ∧ (put4 (put4 wx c (orP a b)) d (andP a b)).cell? ⟨w.heap.size, 2, none⟩ = some (.int .u64 (wd a 2 : Nat)) ∧ (put4 (put4 wx c (orP a b)) d (andP a b)).cell? ⟨w.heap.size, 3, none⟩ = some (.int .u64 (wd a 3 : Nat))) ∧ ((put4 (put4 wx c (orP a b)) d (andP a b)).cell? ⟨w.heap.size + 1, 0, none⟩ = some (.int .u64 (wd b 0 : Nat)) ∧ (put4 (put4 wx c (orP a b)) d (andP a b)).cell? ⟨w.heap.size + 1, 1, none⟩ = some (.int .u64 (wd b 1 : Nat)) ∧ (put4 (put4 wx c (orP a b)) d (andP a b)).cell? ⟨w.heap.size + 1, 2, none⟩ = some (.int .u64 (wd b 2 : Nat)) ∧ (put4 (put4 wx c (orP a b)) d (andP a b)).cell? ⟨w.heap.size + 1, 3, none⟩ = some (.int .u64 (wd b 3 : Nat)))) ∧ RowKit.Below w.heap.size w (put4 (put4 wx c (orP a b)) d (andP a b)) := by
  have hB2 := below_put4 (below_put4 hB (b := c) (by omega) (orP a b)) (b := d) (by omega) (andP a b)
  exact ⟨_, _, rfl, rfl, (hz.put _).other _ hne, (hy.other _ (Ne.symm hne)).put _, keepT hS (below_put4 (below_put4 (RowKit.Below.refl _ _) hc _) hd _), hB2⟩

theorem e_dm {a b : Nat → Bool} : eqB (notP (orP a b)) (andP (notP a) (notP b)) = true := by
  rw [eqB_iff]; intro n _; simp [notP, orP, andP]
theorem e_nn {a : Nat → Bool} : eqB (notP (notP a)) a = true := by
  rw [eqB_iff]; intro n _; simp [notP]
theorem e_or {a b : Nat → Bool} : eqB (orP a b) (orP b a) = true := by
  rw [eqB_iff]; intro n _; simp [orP, Bool.or_comm]
theorem e_an {a b : Nat → Bool} : eqB (andP a b) (andP b a) = true := by
  rw [eqB_iff]; intro n _; simp [andP, Bool.and_comm]

theorem count_add (l : List Nat) (a b : Nat → Bool) : (l.filter a).length + (l.filter b).length = (l.filter (orP a b)).length + (l.filter (andP a b)).length := by
  induction l with
  | nil => rfl
  | cons n l ih =>
    simp only [List.filter_cons, orP, andP] at ih ⊢
    by_cases ha : a n = true <;> by_cases hb : b n = true <;> simp [ha, hb] <;> omega

theorem count_not (l : List Nat) (a : Nat → Bool) : (l.filter a).length + (l.filter (notP a)).length = l.length := by
  induction l with
  | nil => rfl
  | cons n l ih =>
    simp only [List.filter_cons, notP] at ih ⊢
    by_cases ha : a n = true <;> simp [ha] <;> omega

theorem card_le (a : Nat → Bool) : card a ≤ 256 := by
  have := List.length_filter_le a (List.range 256)
  simpa [card] using this

theorem counts (a b : Nat → Bool) : ∃ n1 n2 n3 n4 n5 : Int,
    Hid (∀ w : World, Calls Try.prog 25 #[.agg #[.int .u64 (wd a 0 : Nat), .int .u64 (wd a 1 : Nat), .int .u64 (wd a 2 : Nat), .int .u64 (wd a 3 : Nat)]] w fun e w' => e = .returned (.int .i64 n1) ∧ RowKit.Below w.heap.size w w') ∧
    Hid (∀ w : World, Calls Try.prog 25 #[.agg #[.int .u64 (wd b 0 : Nat), .int .u64 (wd b 1 : Nat), .int .u64 (wd b 2 : Nat), .int .u64 (wd b 3 : Nat)]] w fun e w' => e = .returned (.int .i64 n2) ∧ RowKit.Below w.heap.size w w') ∧
    Hid (∀ w : World, Calls Try.prog 25 #[.agg #[.int .u64 (wd (orP a b) 0 : Nat), .int .u64 (wd (orP a b) 1 : Nat), .int .u64 (wd (orP a b) 2 : Nat), .int .u64 (wd (orP a b) 3 : Nat)]] w fun e w' => e = .returned (.int .i64 n3) ∧ RowKit.Below w.heap.size w w') ∧
    Hid (∀ w : World, Calls Try.prog 25 #[.agg #[.int .u64 (wd (andP a b) 0 : Nat), .int .u64 (wd (andP a b) 1 : Nat), .int .u64 (wd (andP a b) 2 : Nat), .int .u64 (wd (andP a b) 3 : Nat)]] w fun e w' => e = .returned (.int .i64 n4) ∧ RowKit.Below w.heap.size w w') ∧
    Hid (∀ w : World, Calls Try.prog 25 #[.agg #[.int .u64 (wd (notP a) 0 : Nat), .int .u64 (wd (notP a) 1 : Nat), .int .u64 (wd (notP a) 2 : Nat), .int .u64 (wd (notP a) 3 : Nat)]] w fun e w' => e = .returned (.int .i64 n5) ∧ RowKit.Below w.heap.size w w') ∧
    (0 ≤ n1 ∧ n1 ≤ 256) ∧ (0 ≤ n2 ∧ n2 ≤ 256) ∧ (0 ≤ n3 ∧ n3 ≤ 256) ∧ (0 ≤ n4 ∧ n4 ≤ 256) ∧ (0 ≤ n5 ∧ n5 ≤ 256) ∧ n1 + n2 = n3 + n4 ∧ n1 + n5 = 256 := by
  have c1 := card_le a
  have c2 := card_le b
  have c3 := card_le (orP a b)
  have c4 := card_le (andP a b)
  have c5 := card_le (notP a)
  have j1 : card a + card b = card (orP a b) + card (andP a b) := count_add _ a b
  have j2 : card a + card (notP a) = 256 := by
    have h := count_not (List.range 256) a
    rw [List.length_range] at h
    exact h
  exact ⟨(card a : Nat), (card b : Nat), (card (orP a b) : Nat), (card (andP a b) : Nat), (card (notP a) : Nat), fun w => countD _ w, fun w => countD _ w, fun w => countD _ w, fun w => countD _ w, fun w => countD _ w,
    by omega, by omega, by omega, by omega, by omega, by omega, by omega⟩

theorem hass (a b : Nat → Bool) (x : Int) (h0 : 0 ≤ x) (h1 : x < 256) : ∃ u v : Bool,
    Hid (∀ w : World, Calls Try.prog 23 #[.agg #[.int .u64 (wd (orP a b) 0 : Nat), .int .u64 (wd (orP a b) 1 : Nat), .int .u64 (wd (orP a b) 2 : Nat), .int .u64 (wd (orP a b) 3 : Nat)], .int .u8 x] w fun e w' => e = .returned (.bool (u || v)) ∧ RowKit.Below w.heap.size w w') ∧
    Hid (∀ w : World, Calls Try.prog 23 #[.agg #[.int .u64 (wd a 0 : Nat), .int .u64 (wd a 1 : Nat), .int .u64 (wd a 2 : Nat), .int .u64 (wd a 3 : Nat)], .int .u8 x] w fun e w' => e = .returned (.bool u) ∧ RowKit.Below w.heap.size w w') ∧
    Hid (∀ w : World, Calls Try.prog 23 #[.agg #[.int .u64 (wd b 0 : Nat), .int .u64 (wd b 1 : Nat), .int .u64 (wd b 2 : Nat), .int .u64 (wd b 3 : Nat)], .int .u8 x] w fun e w' => e = .returned (.bool v) ∧ RowKit.Below w.heap.size w w') ∧
    Hid (∀ w : World, Calls Try.prog 23 #[.agg #[.int .u64 (wd (andP a b) 0 : Nat), .int .u64 (wd (andP a b) 1 : Nat), .int .u64 (wd (andP a b) 2 : Nat), .int .u64 (wd (andP a b) 3 : Nat)], .int .u8 x] w fun e w' => e = .returned (.bool (u && v)) ∧ RowKit.Below w.heap.size w w') :=
  ⟨a x.toNat, b x.toNat, fun w => has_any (orP a b) x h0 h1 w, fun w => has_any a x h0 h1 w, fun w => has_any b x h0 h1 w, fun w => has_any (andP a b) x h0 h1 w⟩

set_option maxRecDepth 100000 in
set_option maxHeartbeats 30000000 in
theorem walk (a b : Nat → Bool) (x : Int) (hx0 : 0 ≤ x) (hx1 : x < 256) (w : World) :
    Calls Try.prog 7 #[.agg #[.int .u64 (wd a 0 : Nat), .int .u64 (wd a 1 : Nat), .int .u64 (wd a 2 : Nat), .int .u64 (wd a 3 : Nat)], .agg #[.int .u64 (wd b 0 : Nat), .int .u64 (wd b 1 : Nat), .int .u64 (wd b 2 : Nat), .int .u64 (wd b 3 : Nat)], .int .u8 x] w fun e w' => e = .returned (.bool true) ∧ RowKit.Below w.heap.size w w' := by
  go_enter Try.func7, Try.ntmps7
  go_wp2_with fail
  refine (awake_any class_digit _).mono ?_
  rintro e w1 ⟨rfl, hb1⟩
  have ha := ((holds4_new w a 24).alloc (.cells #[.int .u64 (wd b 0 : Nat), .int .u64 (wd b 1 : Nat), .int .u64 (wd b 2 : Nat), .int .u64 (wd b 3 : Nat)] 24)).below hb1 (by simp; omega)
  have hbb : Holds4 w1 (w.heap.size + 1) b := by
    have h := holds4_new (w.alloc (.cells #[.int .u64 (wd a 0 : Nat), .int .u64 (wd a 1 : Nat), .int .u64 (wd a 2 : Nat), .int .u64 (wd a 3 : Nat)] 24)) b 24
    rw [World.size_alloc] at h
    exact h.below hb1 (by simp)
  have hB : RowKit.Below w.heap.size w w1 := (((RowKit.Below.refl _ _).alloc (Nat.le_refl _) _).alloc (by simp) _).trans (hb1.mono (by simp; omega))
  clear hb1
  go_wp2_with fail
  go_cut [7, 8] (fun s7 s8 wc => ∃ b7 b8, s7 = .pointer (some ⟨b7, 0, none⟩) ∧ s8 = .pointer (some ⟨b8, 0, none⟩) ∧ Holds4 wc b7 (orP a b) ∧ Holds4 wc b8 (andP a b) ∧ ((wc.cell? ⟨w.heap.size, 0, none⟩ = some (.int .u64 (wd a 0 : Nat)) ∧ wc.cell? ⟨w.heap.size, 1, none⟩ = some (.int .u64 (wd a 1 : Nat)) ∧ wc.cell? ⟨w.heap.size, 2, none⟩ = some (.int .u64 (wd a 2 : Nat)) ∧ wc.cell? ⟨w.heap.size, 3, none⟩ = some (.int .u64 (wd a 3 : Nat))) ∧ (wc.cell? ⟨w.heap.size + 1, 0, none⟩ = some (.int .u64 (wd b 0 : Nat)) ∧ wc.cell? ⟨w.heap.size + 1, 1, none⟩ = some (.int .u64 (wd b 1 : Nat)) ∧ wc.cell? ⟨w.heap.size + 1, 2, none⟩ = some (.int .u64 (wd b 2 : Nat)) ∧ wc.cell? ⟨w.heap.size + 1, 3, none⟩ = some (.int .u64 (wd b 3 : Nat)))) ∧ RowKit.Below w.heap.size w wc)
  case first =>
    have hB0 := hB
    replace hB := hB.drew
    have hl : w.heap.size + 2 ≤ w1.heap.size := hbb.lt
    have hS0 : (w1.drew.cell? ⟨w.heap.size, 0, none⟩ = some (.int .u64 (wd a 0 : Nat)) ∧ w1.drew.cell? ⟨w.heap.size, 1, none⟩ = some (.int .u64 (wd a 1 : Nat)) ∧ w1.drew.cell? ⟨w.heap.size, 2, none⟩ = some (.int .u64 (wd a 2 : Nat)) ∧ w1.drew.cell? ⟨w.heap.size, 3, none⟩ = some (.int .u64 (wd a 3 : Nat))) ∧ (w1.drew.cell? ⟨w.heap.size + 1, 0, none⟩ = some (.int .u64 (wd b 0 : Nat)) ∧ w1.drew.cell? ⟨w.heap.size + 1, 1, none⟩ = some (.int .u64 (wd b 1 : Nat)) ∧ w1.drew.cell? ⟨w.heap.size + 1, 2, none⟩ = some (.int .u64 (wd b 2 : Nat)) ∧ w1.drew.cell? ⟨w.heap.size + 1, 3, none⟩ = some (.int .u64 (wd b 3 : Nat))) := ⟨ha.1, hbb.1⟩
    have hS00 : (w1.cell? ⟨w.heap.size, 0, none⟩ = some (.int .u64 (wd a 0 : Nat)) ∧ w1.cell? ⟨w.heap.size, 1, none⟩ = some (.int .u64 (wd a 1 : Nat)) ∧ w1.cell? ⟨w.heap.size, 2, none⟩ = some (.int .u64 (wd a 2 : Nat)) ∧ w1.cell? ⟨w.heap.size, 3, none⟩ = some (.int .u64 (wd a 3 : Nat))) ∧ (w1.cell? ⟨w.heap.size + 1, 0, none⟩ = some (.int .u64 (wd b 0 : Nat)) ∧ w1.cell? ⟨w.heap.size + 1, 1, none⟩ = some (.int .u64 (wd b 1 : Nat)) ∧ w1.cell? ⟨w.heap.size + 1, 2, none⟩ = some (.int .u64 (wd b 2 : Nat)) ∧ w1.cell? ⟨w.heap.size + 1, 3, none⟩ = some (.int .u64 (wd b 3 : Nat))) := ⟨ha.1, hbb.1⟩
    obtain ⟨⟨c0, c1, c2, c3⟩, -⟩ := id ha
    obtain ⟨⟨d0, d1, d2, d3⟩, -⟩ := id hbb
    clear ha hbb
    go_region_held (fun W' => (W'.cell? ⟨w.heap.size, 0, none⟩ = some (.int .u64 (wd a 0 : Nat)) ∧ W'.cell? ⟨w.heap.size, 1, none⟩ = some (.int .u64 (wd a 1 : Nat)) ∧ W'.cell? ⟨w.heap.size, 2, none⟩ = some (.int .u64 (wd a 2 : Nat)) ∧ W'.cell? ⟨w.heap.size, 3, none⟩ = some (.int .u64 (wd a 3 : Nat))) ∧ (W'.cell? ⟨w.heap.size + 1, 0, none⟩ = some (.int .u64 (wd b 0 : Nat)) ∧ W'.cell? ⟨w.heap.size + 1, 1, none⟩ = some (.int .u64 (wd b 1 : Nat)) ∧ W'.cell? ⟨w.heap.size + 1, 2, none⟩ = some (.int .u64 (wd b 2 : Nat)) ∧ W'.cell? ⟨w.heap.size + 1, 3, none⟩ = some (.int .u64 (wd b 3 : Nat)))) (first | with_reducible exact hS2 | with_reducible exact hS | with_reducible exact hS0 | (with_reducible refine keepT hS2 ?_; (repeat (first | with_reducible exact RowKit.Below.refl _ _ | (with_reducible refine RowKit.Below.setCell ?_ ?_ _; rotate_left; (first | omega | (simp; done) | (simp; omega))) | (with_reducible refine RowKit.Below.alloc ?_ ?_ _; rotate_left; (first | omega | (simp; done) | (simp; omega))) | with_reducible refine RowKit.Below.drew ?_)); done) | (with_reducible refine keepT hS ?_; (repeat (first | with_reducible exact RowKit.Below.refl _ _ | (with_reducible refine RowKit.Below.setCell ?_ ?_ _; rotate_left; (first | omega | (simp; done) | (simp; omega))) | (with_reducible refine RowKit.Below.alloc ?_ ?_ _; rotate_left; (first | omega | (simp; done) | (simp; omega))) | with_reducible refine RowKit.Below.drew ?_)); done) | (with_reducible refine keepT hS0 ?_; (repeat (first | with_reducible exact RowKit.Below.refl _ _ | (with_reducible refine RowKit.Below.setCell ?_ ?_ _; rotate_left; (first | omega | (simp; done) | (simp; omega))) | (with_reducible refine RowKit.Below.alloc ?_ ?_ _; rotate_left; (first | omega | (simp; done) | (simp; omega))) | with_reducible refine RowKit.Below.drew ?_)); done) | (with_reducible refine keepT hS00 ?_; (repeat (first | with_reducible exact RowKit.Below.refl _ _ | (with_reducible refine RowKit.Below.setCell ?_ ?_ _; rotate_left; (first | omega | (simp; done) | (simp; omega))) | (with_reducible refine RowKit.Below.alloc ?_ ?_ _; rotate_left; (first | omega | (simp; done) | (simp; omega))) | with_reducible refine RowKit.Below.drew ?_)); done)) (first | (go_at_call 18; go_must (refine (orD _ _ _).mono ?_; rintro e wv ⟨rfl, hb⟩; have hS := keepS hb (by with_reducible assumption); (first | replace hB := comB0 hB hb | replace hB := comB1d hB0 hb | replace hB := comB2d hB0 hb); have hsz := hb.size; (try simp only [World.size_alloc, World.size_drew] at hsz); (first | (have zA : Holds4 wv w1.heap.size (fun _ => false) := zero2ad (W := w1) hb) | (have zA : Holds4 wv w1.heap.size (fun _ => false) := zero1d (W := w1) hb) | skip); (try (have zB : Holds4 wv (w1.heap.size + 1) (fun _ => false) := zero2bd (W := w1) hb)); (try (have p8 := zA.lt; obtain ⟨⟨p0, p1, p2, p3⟩, p4, p5, p6, p7⟩ := id zA)); (try (have q8 := zB.lt; obtain ⟨⟨q0, q1, q2, q3⟩, q4, q5, q6, q7⟩ := id zB)))) | (go_at_call 20; go_must (refine (andD _ _ _).mono ?_; rintro e wx ⟨rfl, hb⟩; have hS2 := keepS hb (by with_reducible assumption); (first | replace hB := comB0 hB hb | replace hB := comB1 hB hb | replace hB := comB2 hB hb); have hsz2 := hb.size; (try simp only [World.size_alloc] at hsz2); (try (clear p0 p1 p2 p3 p4 p5 p6 p7)); (try (clear q0 q1 q2 q3 q4 q5 q6 q7)); (first | replace zA := carry0 zA hb | replace zA := carry1 zA hb | replace zA := carry2 zA hb | skip); (first | replace zB := carry0 zB hb | replace zB := carry1 zB hb | replace zB := carry2 zB hb | skip); (first | (have zC : Holds4 wx wv.heap.size (fun _ => false) := zero2a (W := wv) hb) | (have zC : Holds4 wx wv.heap.size (fun _ => false) := zero1 (W := wv) hb) | skip); (try (have zD : Holds4 wx (wv.heap.size + 1) (fun _ => false) := zero2b (W := wv) hb)); (try (have p8 := zA.lt; obtain ⟨⟨p0, p1, p2, p3⟩, p4, p5, p6, p7⟩ := id zA)); (try (have q8 := zB.lt; obtain ⟨⟨q0, q1, q2, q3⟩, q4, q5, q6, q7⟩ := id zB)); (try (have r8 := zC.lt; obtain ⟨⟨r0, r1, r2, r3⟩, r4, r5, r6, r7⟩ := id zC)); (try (have s8 := zD.lt; obtain ⟨⟨s0, s1, s2, s3⟩, s4, s5, s6, s7⟩ := id zD)))))
    · go_wp2
      go_meet
      exact l_ll hS2 hB (by omega)
    · go_wp2
      go_meet
      exact l_ll2 hS2 hB (by omega)
    · go_wp2
      go_meet
      exact l_zl hS2 hB (by omega) zC (by omega)
    · go_wp2
      go_meet
      exact l_zz hS2 hB (by omega) zC zD (by omega) (by omega) (by omega)
    · go_wp2
      go_meet
      exact l_lz hS2 hB (by omega) zC (by omega)
    · go_wp2
      go_meet
      exact l_zz hS2 hB (by omega) zD zC (by omega) (by omega) (by omega)
    · go_wp2
      go_meet
      exact l_zl hS2 hB (by omega) zA (by omega)
    · go_wp2
      go_meet
      exact l_zz hS2 hB (by omega) zA zC (by omega) (by omega) (by omega)
    · go_wp2
      go_meet
      exact l_zz hS2 hB (by omega) zA zB (by omega) (by omega) (by omega)
    · go_wp2
      go_meet
      exact l_lz hS2 hB (by omega) zA (by omega)
    · go_wp2
      go_meet
      exact l_zz hS2 hB (by omega) zC zA (by omega) (by omega) (by omega)
    · go_wp2
      go_meet
      exact l_zz hS2 hB (by omega) zB zA (by omega) (by omega) (by omega)
  case rest =>
    clear hB
    obtain ⟨b7, b8, rfl, rfl, h7, h8, ⟨sa, sb⟩, hB⟩ := hcut
    go_wp2_with fail
    have x7 := fun d os => (cells_regrown h7 d os).1
    have x70 := fun d os => (x7 d os).1
    have x71 := fun d os => (x7 d os).2.1
    have x72 := fun d os => (x7 d os).2.2.1
    have x73 := fun d os => (x7 d os).2.2.2
    clear x7
    have x8 := fun d os => (cells_regrown h8 d os).1
    have x80 := fun d os => (x8 d os).1
    have x81 := fun d os => (x8 d os).2.1
    have x82 := fun d os => (x8 d os).2.2.1
    have x83 := fun d os => (x8 d os).2.2.2
    clear x8
    have xa0 := fun d os => cell_regrown sa.1 d os
    have xa1 := fun d os => cell_regrown sa.2.1 d os
    have xa2 := fun d os => cell_regrown sa.2.2.1 d os
    have xa3 := fun d os => cell_regrown sa.2.2.2 d os
    have xb0 := fun d os => cell_regrown sb.1 d os
    have xb1 := fun d os => cell_regrown sb.2.1 d os
    have xb2 := fun d os => cell_regrown sb.2.2.1 d os
    have xb3 := fun d os => cell_regrown sb.2.2.2 d os
    have q1 : ∀ w, (binOp .neq 24 (.agg #[.int .u64 (wd (notP (orP a b)) 0 : Nat), .int .u64 (wd (notP (orP a b)) 1 : Nat), .int .u64 (wd (notP (orP a b)) 2 : Nat), .int .u64 (wd (notP (orP a b)) 3 : Nat)]) (.agg #[.int .u64 (wd (andP (notP a) (notP b)) 0 : Nat), .int .u64 (wd (andP (notP a) (notP b)) 1 : Nat), .int .u64 (wd (andP (notP a) (notP b)) 2 : Nat), .int .u64 (wd (andP (notP a) (notP b)) 3 : Nat)])).run Try.prog w = .ok (.bool false) w := fun w => by rw [run_neq_set, e_dm]; rfl
    have q2 : ∀ w, (binOp .neq 24 (.agg #[.int .u64 (wd (notP (notP a)) 0 : Nat), .int .u64 (wd (notP (notP a)) 1 : Nat), .int .u64 (wd (notP (notP a)) 2 : Nat), .int .u64 (wd (notP (notP a)) 3 : Nat)]) (.agg #[.int .u64 (wd a 0 : Nat), .int .u64 (wd a 1 : Nat), .int .u64 (wd a 2 : Nat), .int .u64 (wd a 3 : Nat)])).run Try.prog w = .ok (.bool false) w := fun w => by rw [run_neq_set, e_nn]; rfl
    have q3 : ∀ w, (binOp .neq 24 (.agg #[.int .u64 (wd (orP a b) 0 : Nat), .int .u64 (wd (orP a b) 1 : Nat), .int .u64 (wd (orP a b) 2 : Nat), .int .u64 (wd (orP a b) 3 : Nat)]) (.agg #[.int .u64 (wd (orP b a) 0 : Nat), .int .u64 (wd (orP b a) 1 : Nat), .int .u64 (wd (orP b a) 2 : Nat), .int .u64 (wd (orP b a) 3 : Nat)])).run Try.prog w = .ok (.bool false) w := fun w => by rw [run_neq_set, e_or]; rfl
    have q4 : ∀ w, (binOp .neq 24 (.agg #[.int .u64 (wd (andP a b) 0 : Nat), .int .u64 (wd (andP a b) 1 : Nat), .int .u64 (wd (andP a b) 2 : Nat), .int .u64 (wd (andP a b) 3 : Nat)]) (.agg #[.int .u64 (wd (andP b a) 0 : Nat), .int .u64 (wd (andP b a) 1 : Nat), .int .u64 (wd (andP b a) 2 : Nat), .int .u64 (wd (andP b a) 3 : Nat)])).run Try.prog w = .ok (.bool false) w := fun w => by rw [run_neq_set, e_an]; rfl
    have y0 : Hid (∀ d os, Calls Try.prog 16 #[.agg #[.int .u64 (wd (orP a b) 0 : Nat), .int .u64 (wd (orP a b) 1 : Nat), .int .u64 (wd (orP a b) 2 : Nat), .int .u64 (wd (orP a b) 3 : Nat)]] (grow (redrawn wc d) os) fun e w'' => e = .returned (.agg #[.int .u64 (wd (notP (orP a b)) 0 : Nat), .int .u64 (wd (notP (orP a b)) 1 : Nat), .int .u64 (wd (notP (orP a b)) 2 : Nat), .int .u64 (wd (notP (orP a b)) 3 : Nat)]) ∧ ∃ p : Regrown, w'' = grow (redrawn wc p.d) p.os) := fun d os => Calls.regrown_of (notD _ _)
    have y1 : Hid (∀ d os, Calls Try.prog 16 #[.agg #[.int .u64 (wd a 0 : Nat), .int .u64 (wd a 1 : Nat), .int .u64 (wd a 2 : Nat), .int .u64 (wd a 3 : Nat)]] (grow (redrawn wc d) os) fun e w'' => e = .returned (.agg #[.int .u64 (wd (notP a) 0 : Nat), .int .u64 (wd (notP a) 1 : Nat), .int .u64 (wd (notP a) 2 : Nat), .int .u64 (wd (notP a) 3 : Nat)]) ∧ ∃ p : Regrown, w'' = grow (redrawn wc p.d) p.os) := fun d os => Calls.regrown_of (notD _ _)
    have y2 : Hid (∀ d os, Calls Try.prog 16 #[.agg #[.int .u64 (wd b 0 : Nat), .int .u64 (wd b 1 : Nat), .int .u64 (wd b 2 : Nat), .int .u64 (wd b 3 : Nat)]] (grow (redrawn wc d) os) fun e w'' => e = .returned (.agg #[.int .u64 (wd (notP b) 0 : Nat), .int .u64 (wd (notP b) 1 : Nat), .int .u64 (wd (notP b) 2 : Nat), .int .u64 (wd (notP b) 3 : Nat)]) ∧ ∃ p : Regrown, w'' = grow (redrawn wc p.d) p.os) := fun d os => Calls.regrown_of (notD _ _)
    have y3 : Hid (∀ d os, Calls Try.prog 20 #[.agg #[.int .u64 (wd (notP a) 0 : Nat), .int .u64 (wd (notP a) 1 : Nat), .int .u64 (wd (notP a) 2 : Nat), .int .u64 (wd (notP a) 3 : Nat)], .agg #[.int .u64 (wd (notP b) 0 : Nat), .int .u64 (wd (notP b) 1 : Nat), .int .u64 (wd (notP b) 2 : Nat), .int .u64 (wd (notP b) 3 : Nat)]] (grow (redrawn wc d) os) fun e w'' => e = .returned (.agg #[.int .u64 (wd (andP (notP a) (notP b)) 0 : Nat), .int .u64 (wd (andP (notP a) (notP b)) 1 : Nat), .int .u64 (wd (andP (notP a) (notP b)) 2 : Nat), .int .u64 (wd (andP (notP a) (notP b)) 3 : Nat)]) ∧ ∃ p : Regrown, w'' = grow (redrawn wc p.d) p.os) := fun d os => Calls.regrown_of (andD _ _ _)
    have y4 : Hid (∀ d os, Calls Try.prog 16 #[.agg #[.int .u64 (wd (notP a) 0 : Nat), .int .u64 (wd (notP a) 1 : Nat), .int .u64 (wd (notP a) 2 : Nat), .int .u64 (wd (notP a) 3 : Nat)]] (grow (redrawn wc d) os) fun e w'' => e = .returned (.agg #[.int .u64 (wd (notP (notP a)) 0 : Nat), .int .u64 (wd (notP (notP a)) 1 : Nat), .int .u64 (wd (notP (notP a)) 2 : Nat), .int .u64 (wd (notP (notP a)) 3 : Nat)]) ∧ ∃ p : Regrown, w'' = grow (redrawn wc p.d) p.os) := fun d os => Calls.regrown_of (notD _ _)
    have y5 : Hid (∀ d os, Calls Try.prog 18 #[.agg #[.int .u64 (wd b 0 : Nat), .int .u64 (wd b 1 : Nat), .int .u64 (wd b 2 : Nat), .int .u64 (wd b 3 : Nat)], .agg #[.int .u64 (wd a 0 : Nat), .int .u64 (wd a 1 : Nat), .int .u64 (wd a 2 : Nat), .int .u64 (wd a 3 : Nat)]] (grow (redrawn wc d) os) fun e w'' => e = .returned (.agg #[.int .u64 (wd (orP b a) 0 : Nat), .int .u64 (wd (orP b a) 1 : Nat), .int .u64 (wd (orP b a) 2 : Nat), .int .u64 (wd (orP b a) 3 : Nat)]) ∧ ∃ p : Regrown, w'' = grow (redrawn wc p.d) p.os) := fun d os => Calls.regrown_of (orD _ _ _)
    have y6 : Hid (∀ d os, Calls Try.prog 20 #[.agg #[.int .u64 (wd b 0 : Nat), .int .u64 (wd b 1 : Nat), .int .u64 (wd b 2 : Nat), .int .u64 (wd b 3 : Nat)], .agg #[.int .u64 (wd a 0 : Nat), .int .u64 (wd a 1 : Nat), .int .u64 (wd a 2 : Nat), .int .u64 (wd a 3 : Nat)]] (grow (redrawn wc d) os) fun e w'' => e = .returned (.agg #[.int .u64 (wd (andP b a) 0 : Nat), .int .u64 (wd (andP b a) 1 : Nat), .int .u64 (wd (andP b a) 2 : Nat), .int .u64 (wd (andP b a) 3 : Nat)]) ∧ ∃ p : Regrown, w'' = grow (redrawn wc p.d) p.os) := fun d os => Calls.regrown_of (andD _ _ _)
    refine wp_region_quiet_below (by kernel_rfl) (by kernel_rfl) ?_
    repeat (quiet_step (first | with_reducible exact y0.out _ _ | with_reducible exact y1.out _ _ | with_reducible exact y2.out _ _ | with_reducible exact y3.out _ _ | with_reducible exact y4.out _ _ | with_reducible exact y5.out _ _ | with_reducible exact y6.out _ _))
    refine wpQuiet_nil ?_
    intro _ hw'
    obtain ⟨⟨dq, osq⟩, hw''⟩ := hw'
    subst hw''
    have hb := below_regrown wc dq osq
    replace h7 := h7.below hb h7.lt
    replace h8 := h8.below hb h8.lt
    obtain ⟨sa, sb⟩ := keepS (w := w) (a := a) (b := b) hb ⟨sa, sb⟩
    replace hB := hB.trans (hb.mono hB.size)
    clear hb y0 y1 y2 y3 y4 y5 y6 x70 x80 xa0 xb0 x71 x81 xa1 xb1 x72 x82 xa2 xb2 x73 x83 xa3 xb3
    generalize grow (redrawn wc dq) osq = W2 at *
    clear q1 q2 q3 q4
    go_wp2_with fail
    obtain ⟨n1, n2, n3, n4, n5, HC1, HC2, HC3, HC4, HC5, k1, k2, k3, k4, k5, j1, j2⟩ := counts a b
    have t1 : (n1 + n2 != n3 + n4) = false := by simp; omega
    have t2 : (n1 + n5 != 256) = false := by simp; omega
    have x7 := fun d os => (cells_regrown h7 d os).1
    have x70 := fun d os => (x7 d os).1
    have x71 := fun d os => (x7 d os).2.1
    have x72 := fun d os => (x7 d os).2.2.1
    have x73 := fun d os => (x7 d os).2.2.2
    clear x7
    have x8 := fun d os => (cells_regrown h8 d os).1
    have x80 := fun d os => (x8 d os).1
    have x81 := fun d os => (x8 d os).2.1
    have x82 := fun d os => (x8 d os).2.2.1
    have x83 := fun d os => (x8 d os).2.2.2
    clear x8
    have xa0 := fun d os => cell_regrown sa.1 d os
    have xa1 := fun d os => cell_regrown sa.2.1 d os
    have xa2 := fun d os => cell_regrown sa.2.2.1 d os
    have xa3 := fun d os => cell_regrown sa.2.2.2 d os
    have xb0 := fun d os => cell_regrown sb.1 d os
    have xb1 := fun d os => cell_regrown sb.2.1 d os
    have xb2 := fun d os => cell_regrown sb.2.2.1 d os
    have xb3 := fun d os => cell_regrown sb.2.2.2 d os
    have y0 : Hid (∀ d os, Calls Try.prog 25 #[.agg #[.int .u64 (wd a 0 : Nat), .int .u64 (wd a 1 : Nat), .int .u64 (wd a 2 : Nat), .int .u64 (wd a 3 : Nat)]] (grow (redrawn W2 d) os) fun e w'' => e = .returned (.int .i64 n1) ∧ ∃ p : Regrown, w'' = grow (redrawn W2 p.d) p.os) := fun d os => Calls.regrown_of (HC1.out _)
    have y1 : Hid (∀ d os, Calls Try.prog 25 #[.agg #[.int .u64 (wd b 0 : Nat), .int .u64 (wd b 1 : Nat), .int .u64 (wd b 2 : Nat), .int .u64 (wd b 3 : Nat)]] (grow (redrawn W2 d) os) fun e w'' => e = .returned (.int .i64 n2) ∧ ∃ p : Regrown, w'' = grow (redrawn W2 p.d) p.os) := fun d os => Calls.regrown_of (HC2.out _)
    have y2 : Hid (∀ d os, Calls Try.prog 25 #[.agg #[.int .u64 (wd (orP a b) 0 : Nat), .int .u64 (wd (orP a b) 1 : Nat), .int .u64 (wd (orP a b) 2 : Nat), .int .u64 (wd (orP a b) 3 : Nat)]] (grow (redrawn W2 d) os) fun e w'' => e = .returned (.int .i64 n3) ∧ ∃ p : Regrown, w'' = grow (redrawn W2 p.d) p.os) := fun d os => Calls.regrown_of (HC3.out _)
    have y3 : Hid (∀ d os, Calls Try.prog 25 #[.agg #[.int .u64 (wd (andP a b) 0 : Nat), .int .u64 (wd (andP a b) 1 : Nat), .int .u64 (wd (andP a b) 2 : Nat), .int .u64 (wd (andP a b) 3 : Nat)]] (grow (redrawn W2 d) os) fun e w'' => e = .returned (.int .i64 n4) ∧ ∃ p : Regrown, w'' = grow (redrawn W2 p.d) p.os) := fun d os => Calls.regrown_of (HC4.out _)
    have y4 : Hid (∀ d os, Calls Try.prog 16 #[.agg #[.int .u64 (wd a 0 : Nat), .int .u64 (wd a 1 : Nat), .int .u64 (wd a 2 : Nat), .int .u64 (wd a 3 : Nat)]] (grow (redrawn W2 d) os) fun e w'' => e = .returned (.agg #[.int .u64 (wd (notP a) 0 : Nat), .int .u64 (wd (notP a) 1 : Nat), .int .u64 (wd (notP a) 2 : Nat), .int .u64 (wd (notP a) 3 : Nat)]) ∧ ∃ p : Regrown, w'' = grow (redrawn W2 p.d) p.os) := fun d os => Calls.regrown_of (notD _ _)
    have y5 : Hid (∀ d os, Calls Try.prog 25 #[.agg #[.int .u64 (wd (notP a) 0 : Nat), .int .u64 (wd (notP a) 1 : Nat), .int .u64 (wd (notP a) 2 : Nat), .int .u64 (wd (notP a) 3 : Nat)]] (grow (redrawn W2 d) os) fun e w'' => e = .returned (.int .i64 n5) ∧ ∃ p : Regrown, w'' = grow (redrawn W2 p.d) p.os) := fun d os => Calls.regrown_of (HC5.out _)
    refine wp_region_quiet_below (by kernel_rfl) (by kernel_rfl) ?_
    repeat (quiet_step (first | with_reducible exact y0.out _ _ | with_reducible exact y1.out _ _ | with_reducible exact y2.out _ _ | with_reducible exact y3.out _ _ | with_reducible exact y4.out _ _ | with_reducible exact y5.out _ _))
    refine wpQuiet_nil ?_
    intro _ hw'
    obtain ⟨⟨dq, osq⟩, hw''⟩ := hw'
    subst hw''
    have hb := below_regrown W2 dq osq
    replace h7 := h7.below hb h7.lt
    replace h8 := h8.below hb h8.lt
    obtain ⟨sa, sb⟩ := keepS (w := w) (a := a) (b := b) hb ⟨sa, sb⟩
    replace hB := hB.trans (hb.mono hB.size)
    clear hb y0 y1 y2 y3 y4 y5 x70 x80 xa0 xb0 x71 x81 xa1 xb1 x72 x82 xa2 xb2 x73 x83 xa3 xb3
    generalize grow (redrawn W2 dq) osq = W3 at *
    clear t1 t2 HC1 HC2 HC3 HC4 HC5 k1 k2 k3 k4 k5 j1 j2
    go_wp2_with fail
    obtain ⟨u, v, HH1, HH2, HH3, HH4⟩ := hass a b x hx0 hx1
    cases u
    · cases v
      · have x7 := fun d os => (cells_regrown h7 d os).1
        have x70 := fun d os => (x7 d os).1
        have x71 := fun d os => (x7 d os).2.1
        have x72 := fun d os => (x7 d os).2.2.1
        have x73 := fun d os => (x7 d os).2.2.2
        clear x7
        have x8 := fun d os => (cells_regrown h8 d os).1
        have x80 := fun d os => (x8 d os).1
        have x81 := fun d os => (x8 d os).2.1
        have x82 := fun d os => (x8 d os).2.2.1
        have x83 := fun d os => (x8 d os).2.2.2
        clear x8
        have xa0 := fun d os => cell_regrown sa.1 d os
        have xa1 := fun d os => cell_regrown sa.2.1 d os
        have xa2 := fun d os => cell_regrown sa.2.2.1 d os
        have xa3 := fun d os => cell_regrown sa.2.2.2 d os
        have xb0 := fun d os => cell_regrown sb.1 d os
        have xb1 := fun d os => cell_regrown sb.2.1 d os
        have xb2 := fun d os => cell_regrown sb.2.2.1 d os
        have xb3 := fun d os => cell_regrown sb.2.2.2 d os
        have y0 : Hid (∀ d os, Calls Try.prog 23 #[.agg #[.int .u64 (wd (orP a b) 0 : Nat), .int .u64 (wd (orP a b) 1 : Nat), .int .u64 (wd (orP a b) 2 : Nat), .int .u64 (wd (orP a b) 3 : Nat)], .int .u8 x] (grow (redrawn W3 d) os) fun e w'' => e = .returned (.bool false) ∧ ∃ p : Regrown, w'' = grow (redrawn W3 p.d) p.os) := fun d os => Calls.regrown_of (HH1.out _)
        have y1 : Hid (∀ d os, Calls Try.prog 23 #[.agg #[.int .u64 (wd a 0 : Nat), .int .u64 (wd a 1 : Nat), .int .u64 (wd a 2 : Nat), .int .u64 (wd a 3 : Nat)], .int .u8 x] (grow (redrawn W3 d) os) fun e w'' => e = .returned (.bool false) ∧ ∃ p : Regrown, w'' = grow (redrawn W3 p.d) p.os) := fun d os => Calls.regrown_of (HH2.out _)
        have y2 : Hid (∀ d os, Calls Try.prog 23 #[.agg #[.int .u64 (wd b 0 : Nat), .int .u64 (wd b 1 : Nat), .int .u64 (wd b 2 : Nat), .int .u64 (wd b 3 : Nat)], .int .u8 x] (grow (redrawn W3 d) os) fun e w'' => e = .returned (.bool false) ∧ ∃ p : Regrown, w'' = grow (redrawn W3 p.d) p.os) := fun d os => Calls.regrown_of (HH3.out _)
        have y3 : Hid (∀ d os, Calls Try.prog 23 #[.agg #[.int .u64 (wd (andP a b) 0 : Nat), .int .u64 (wd (andP a b) 1 : Nat), .int .u64 (wd (andP a b) 2 : Nat), .int .u64 (wd (andP a b) 3 : Nat)], .int .u8 x] (grow (redrawn W3 d) os) fun e w'' => e = .returned (.bool false) ∧ ∃ p : Regrown, w'' = grow (redrawn W3 p.d) p.os) := fun d os => Calls.regrown_of (HH4.out _)
        refine wp_region_quiet_below (by kernel_rfl) (by kernel_rfl) ?_
        repeat (quiet_step (first | with_reducible exact y0.out _ _ | with_reducible exact y1.out _ _ | with_reducible exact y2.out _ _ | with_reducible exact y3.out _ _))
        refine wpQuiet_nil ?_
        intro _ hw'
        obtain ⟨⟨dq, osq⟩, hw''⟩ := hw'
        subst hw''
        have hb := below_regrown W3 dq osq
        replace h7 := h7.below hb h7.lt
        replace h8 := h8.below hb h8.lt
        obtain ⟨sa, sb⟩ := keepS (w := w) (a := a) (b := b) hb ⟨sa, sb⟩
        replace hB := hB.trans (hb.mono hB.size)
        clear hb y0 y1 y2 y3 x70 x80 xa0 xb0 x71 x81 xa1 xb1 x72 x82 xa2 xb2 x73 x83 xa3 xb3
        generalize grow (redrawn W3 dq) osq = W4 at *
        go_wp2
        go_ret
        exact ⟨rfl, hB⟩
      · have x7 := fun d os => (cells_regrown h7 d os).1
        have x70 := fun d os => (x7 d os).1
        have x71 := fun d os => (x7 d os).2.1
        have x72 := fun d os => (x7 d os).2.2.1
        have x73 := fun d os => (x7 d os).2.2.2
        clear x7
        have x8 := fun d os => (cells_regrown h8 d os).1
        have x80 := fun d os => (x8 d os).1
        have x81 := fun d os => (x8 d os).2.1
        have x82 := fun d os => (x8 d os).2.2.1
        have x83 := fun d os => (x8 d os).2.2.2
        clear x8
        have xa0 := fun d os => cell_regrown sa.1 d os
        have xa1 := fun d os => cell_regrown sa.2.1 d os
        have xa2 := fun d os => cell_regrown sa.2.2.1 d os
        have xa3 := fun d os => cell_regrown sa.2.2.2 d os
        have xb0 := fun d os => cell_regrown sb.1 d os
        have xb1 := fun d os => cell_regrown sb.2.1 d os
        have xb2 := fun d os => cell_regrown sb.2.2.1 d os
        have xb3 := fun d os => cell_regrown sb.2.2.2 d os
        have y0 : Hid (∀ d os, Calls Try.prog 23 #[.agg #[.int .u64 (wd (orP a b) 0 : Nat), .int .u64 (wd (orP a b) 1 : Nat), .int .u64 (wd (orP a b) 2 : Nat), .int .u64 (wd (orP a b) 3 : Nat)], .int .u8 x] (grow (redrawn W3 d) os) fun e w'' => e = .returned (.bool true) ∧ ∃ p : Regrown, w'' = grow (redrawn W3 p.d) p.os) := fun d os => Calls.regrown_of (HH1.out _)
        have y1 : Hid (∀ d os, Calls Try.prog 23 #[.agg #[.int .u64 (wd a 0 : Nat), .int .u64 (wd a 1 : Nat), .int .u64 (wd a 2 : Nat), .int .u64 (wd a 3 : Nat)], .int .u8 x] (grow (redrawn W3 d) os) fun e w'' => e = .returned (.bool false) ∧ ∃ p : Regrown, w'' = grow (redrawn W3 p.d) p.os) := fun d os => Calls.regrown_of (HH2.out _)
        have y2 : Hid (∀ d os, Calls Try.prog 23 #[.agg #[.int .u64 (wd b 0 : Nat), .int .u64 (wd b 1 : Nat), .int .u64 (wd b 2 : Nat), .int .u64 (wd b 3 : Nat)], .int .u8 x] (grow (redrawn W3 d) os) fun e w'' => e = .returned (.bool true) ∧ ∃ p : Regrown, w'' = grow (redrawn W3 p.d) p.os) := fun d os => Calls.regrown_of (HH3.out _)
        have y3 : Hid (∀ d os, Calls Try.prog 23 #[.agg #[.int .u64 (wd (andP a b) 0 : Nat), .int .u64 (wd (andP a b) 1 : Nat), .int .u64 (wd (andP a b) 2 : Nat), .int .u64 (wd (andP a b) 3 : Nat)], .int .u8 x] (grow (redrawn W3 d) os) fun e w'' => e = .returned (.bool false) ∧ ∃ p : Regrown, w'' = grow (redrawn W3 p.d) p.os) := fun d os => Calls.regrown_of (HH4.out _)
        refine wp_region_quiet_below (by kernel_rfl) (by kernel_rfl) ?_
        repeat (quiet_step (first | with_reducible exact y0.out _ _ | with_reducible exact y1.out _ _ | with_reducible exact y2.out _ _ | with_reducible exact y3.out _ _))
        refine wpQuiet_nil ?_
        intro _ hw'
        obtain ⟨⟨dq, osq⟩, hw''⟩ := hw'
        subst hw''
        have hb := below_regrown W3 dq osq
        replace h7 := h7.below hb h7.lt
        replace h8 := h8.below hb h8.lt
        obtain ⟨sa, sb⟩ := keepS (w := w) (a := a) (b := b) hb ⟨sa, sb⟩
        replace hB := hB.trans (hb.mono hB.size)
        clear hb y0 y1 y2 y3 x70 x80 xa0 xb0 x71 x81 xa1 xb1 x72 x82 xa2 xb2 x73 x83 xa3 xb3
        generalize grow (redrawn W3 dq) osq = W4 at *
        go_wp2
        go_ret
        exact ⟨rfl, hB⟩
    · cases v
      · have x7 := fun d os => (cells_regrown h7 d os).1
        have x70 := fun d os => (x7 d os).1
        have x71 := fun d os => (x7 d os).2.1
        have x72 := fun d os => (x7 d os).2.2.1
        have x73 := fun d os => (x7 d os).2.2.2
        clear x7
        have x8 := fun d os => (cells_regrown h8 d os).1
        have x80 := fun d os => (x8 d os).1
        have x81 := fun d os => (x8 d os).2.1
        have x82 := fun d os => (x8 d os).2.2.1
        have x83 := fun d os => (x8 d os).2.2.2
        clear x8
        have xa0 := fun d os => cell_regrown sa.1 d os
        have xa1 := fun d os => cell_regrown sa.2.1 d os
        have xa2 := fun d os => cell_regrown sa.2.2.1 d os
        have xa3 := fun d os => cell_regrown sa.2.2.2 d os
        have xb0 := fun d os => cell_regrown sb.1 d os
        have xb1 := fun d os => cell_regrown sb.2.1 d os
        have xb2 := fun d os => cell_regrown sb.2.2.1 d os
        have xb3 := fun d os => cell_regrown sb.2.2.2 d os
        have y0 : Hid (∀ d os, Calls Try.prog 23 #[.agg #[.int .u64 (wd (orP a b) 0 : Nat), .int .u64 (wd (orP a b) 1 : Nat), .int .u64 (wd (orP a b) 2 : Nat), .int .u64 (wd (orP a b) 3 : Nat)], .int .u8 x] (grow (redrawn W3 d) os) fun e w'' => e = .returned (.bool true) ∧ ∃ p : Regrown, w'' = grow (redrawn W3 p.d) p.os) := fun d os => Calls.regrown_of (HH1.out _)
        have y1 : Hid (∀ d os, Calls Try.prog 23 #[.agg #[.int .u64 (wd a 0 : Nat), .int .u64 (wd a 1 : Nat), .int .u64 (wd a 2 : Nat), .int .u64 (wd a 3 : Nat)], .int .u8 x] (grow (redrawn W3 d) os) fun e w'' => e = .returned (.bool true) ∧ ∃ p : Regrown, w'' = grow (redrawn W3 p.d) p.os) := fun d os => Calls.regrown_of (HH2.out _)
        have y2 : Hid (∀ d os, Calls Try.prog 23 #[.agg #[.int .u64 (wd b 0 : Nat), .int .u64 (wd b 1 : Nat), .int .u64 (wd b 2 : Nat), .int .u64 (wd b 3 : Nat)], .int .u8 x] (grow (redrawn W3 d) os) fun e w'' => e = .returned (.bool false) ∧ ∃ p : Regrown, w'' = grow (redrawn W3 p.d) p.os) := fun d os => Calls.regrown_of (HH3.out _)
        have y3 : Hid (∀ d os, Calls Try.prog 23 #[.agg #[.int .u64 (wd (andP a b) 0 : Nat), .int .u64 (wd (andP a b) 1 : Nat), .int .u64 (wd (andP a b) 2 : Nat), .int .u64 (wd (andP a b) 3 : Nat)], .int .u8 x] (grow (redrawn W3 d) os) fun e w'' => e = .returned (.bool false) ∧ ∃ p : Regrown, w'' = grow (redrawn W3 p.d) p.os) := fun d os => Calls.regrown_of (HH4.out _)
        refine wp_region_quiet_below (by kernel_rfl) (by kernel_rfl) ?_
        repeat (quiet_step (first | with_reducible exact y0.out _ _ | with_reducible exact y1.out _ _ | with_reducible exact y2.out _ _ | with_reducible exact y3.out _ _))
        refine wpQuiet_nil ?_
        intro _ hw'
        obtain ⟨⟨dq, osq⟩, hw''⟩ := hw'
        subst hw''
        have hb := below_regrown W3 dq osq
        replace h7 := h7.below hb h7.lt
        replace h8 := h8.below hb h8.lt
        obtain ⟨sa, sb⟩ := keepS (w := w) (a := a) (b := b) hb ⟨sa, sb⟩
        replace hB := hB.trans (hb.mono hB.size)
        clear hb y0 y1 y2 y3 x70 x80 xa0 xb0 x71 x81 xa1 xb1 x72 x82 xa2 xb2 x73 x83 xa3 xb3
        generalize grow (redrawn W3 dq) osq = W4 at *
        go_wp2
        go_ret
        exact ⟨rfl, hB⟩
      · have x7 := fun d os => (cells_regrown h7 d os).1
        have x70 := fun d os => (x7 d os).1
        have x71 := fun d os => (x7 d os).2.1
        have x72 := fun d os => (x7 d os).2.2.1
        have x73 := fun d os => (x7 d os).2.2.2
        clear x7
        have x8 := fun d os => (cells_regrown h8 d os).1
        have x80 := fun d os => (x8 d os).1
        have x81 := fun d os => (x8 d os).2.1
        have x82 := fun d os => (x8 d os).2.2.1
        have x83 := fun d os => (x8 d os).2.2.2
        clear x8
        have xa0 := fun d os => cell_regrown sa.1 d os
        have xa1 := fun d os => cell_regrown sa.2.1 d os
        have xa2 := fun d os => cell_regrown sa.2.2.1 d os
        have xa3 := fun d os => cell_regrown sa.2.2.2 d os
        have xb0 := fun d os => cell_regrown sb.1 d os
        have xb1 := fun d os => cell_regrown sb.2.1 d os
        have xb2 := fun d os => cell_regrown sb.2.2.1 d os
        have xb3 := fun d os => cell_regrown sb.2.2.2 d os
        have y0 : Hid (∀ d os, Calls Try.prog 23 #[.agg #[.int .u64 (wd (orP a b) 0 : Nat), .int .u64 (wd (orP a b) 1 : Nat), .int .u64 (wd (orP a b) 2 : Nat), .int .u64 (wd (orP a b) 3 : Nat)], .int .u8 x] (grow (redrawn W3 d) os) fun e w'' => e = .returned (.bool true) ∧ ∃ p : Regrown, w'' = grow (redrawn W3 p.d) p.os) := fun d os => Calls.regrown_of (HH1.out _)
        have y1 : Hid (∀ d os, Calls Try.prog 23 #[.agg #[.int .u64 (wd a 0 : Nat), .int .u64 (wd a 1 : Nat), .int .u64 (wd a 2 : Nat), .int .u64 (wd a 3 : Nat)], .int .u8 x] (grow (redrawn W3 d) os) fun e w'' => e = .returned (.bool true) ∧ ∃ p : Regrown, w'' = grow (redrawn W3 p.d) p.os) := fun d os => Calls.regrown_of (HH2.out _)
        have y2 : Hid (∀ d os, Calls Try.prog 23 #[.agg #[.int .u64 (wd b 0 : Nat), .int .u64 (wd b 1 : Nat), .int .u64 (wd b 2 : Nat), .int .u64 (wd b 3 : Nat)], .int .u8 x] (grow (redrawn W3 d) os) fun e w'' => e = .returned (.bool true) ∧ ∃ p : Regrown, w'' = grow (redrawn W3 p.d) p.os) := fun d os => Calls.regrown_of (HH3.out _)
        have y3 : Hid (∀ d os, Calls Try.prog 23 #[.agg #[.int .u64 (wd (andP a b) 0 : Nat), .int .u64 (wd (andP a b) 1 : Nat), .int .u64 (wd (andP a b) 2 : Nat), .int .u64 (wd (andP a b) 3 : Nat)], .int .u8 x] (grow (redrawn W3 d) os) fun e w'' => e = .returned (.bool true) ∧ ∃ p : Regrown, w'' = grow (redrawn W3 p.d) p.os) := fun d os => Calls.regrown_of (HH4.out _)
        refine wp_region_quiet_below (by kernel_rfl) (by kernel_rfl) ?_
        repeat (quiet_step (first | with_reducible exact y0.out _ _ | with_reducible exact y1.out _ _ | with_reducible exact y2.out _ _ | with_reducible exact y3.out _ _))
        refine wpQuiet_nil ?_
        intro _ hw'
        obtain ⟨⟨dq, osq⟩, hw''⟩ := hw'
        subst hw''
        have hb := below_regrown W3 dq osq
        replace h7 := h7.below hb h7.lt
        replace h8 := h8.below hb h8.lt
        obtain ⟨sa, sb⟩ := keepS (w := w) (a := a) (b := b) hb ⟨sa, sb⟩
        replace hB := hB.trans (hb.mono hB.size)
        clear hb y0 y1 y2 y3 x70 x80 xa0 xb0 x71 x81 xa1 xb1 x72 x82 xa2 xb2 x73 x83 xa3 xb3
        generalize grow (redrawn W3 dq) osq = W4 at *
        go_wp2
        go_ret
        exact ⟨rfl, hB⟩

theorem walkF (a b : Nat → Bool) (x : Int) (wx : (Lit.int .u8 x).wf = true) (w : World) :
    Calls Try.prog 7 #[.agg #[.int .u64 (wd a 0 : Nat), .int .u64 (wd a 1 : Nat), .int .u64 (wd a 2 : Nat), .int .u64 (wd a 3 : Nat)], .agg #[.int .u64 (wd b 0 : Nat), .int .u64 (wd b 1 : Nat), .int .u64 (wd b 2 : Nat), .int .u64 (wd b 3 : Nat)], .int .u8 x] w fun e w' => e = .returned (.bool true) ∧ RowKit.Below w.heap.size w w' := by
  have bx := bounds_u8 wx
  exact walk a b x (by omega) (by omega) w

theorem own : ownKnob Try.prog.godebug = none := by kernel_rfl
theorem laidOut : laidOutB Try.prog = true := by kernel_rfl

set_option maxHeartbeats 1000000 in
set_option maxRecDepth 100000 in
theorem lifted (os : Os) (started : os.Started) (H : Type) (enc : TypeId × Value → H) :
    ReturnsInHanded {} Try.checked os 7 .any (Rows.bsetLawsSpec.pre6 enc Try.prog Try.f7 Rows.bsetLawsRow.domain false) (Rows.bsetLawsSpec.post enc Try.prog Try.f7 false true false false) := by
  refine returnsInHanded_of_change (C := Try.checked) own started (by kernel_rfl) Try.func7
    (ChangeSpec.witness6 (enc := enc) (C := Try.checked) false ⟨#[], #[.agg #[.int .u64 0, .int .u64 0, .int .u64 0, .int .u64 0], .agg #[.int .u64 0, .int .u64 0, .int .u64 0, .int .u64 0], .int .u8 0], []⟩ 8 (by kernel_rfl) (by kernel_rfl) (by kernel_rfl) (by kernel_rfl)) ?_
  intro W base args ds gs before hval0 hW hcnd _
  have hval : ∀ (j : Nat) t v, Try.f7.params[j]? = some t → args[j]? = some v → Value.okWide Try.prog W .any base t v := hval0
  have hW' := hW
  obtain ⟨p, q, hA0, hV, rfl, hfz, hnd⟩ := hW
  have hA : DataW.TrodAll enc Try.prog W 0 (fun _ => true) true Try.f7.params.toList args.toList ds p := hA0
  rw [Try.params7] at hA hval
  obtain ⟨v0, vs0, d0, ds0, p0, q0, hargs, rfl, rfl, h0, r0⟩ := trodAll_cons hA
  obtain ⟨v1, vs1, d1, ds1, p1, q1, rfl, rfl, rfl, h1, r1⟩ := trodAll_cons r0
  obtain ⟨v2, vs2, d2, ds2, p2, q2, rfl, rfl, rfl, h2, r2⟩ := trodAll_cons r1
  obtain ⟨rfl, rfl, rfl⟩ := trodAll_nil r2
  obtain rfl : args = #[v0, v1, v2] := by cases args; simp_all
  obtain ⟨rfl, rfl⟩ := trodVars_none hV
  have k0 := h0
  have lt0 : ∀ x ∈ p0, x.block < W.heap.size := by obtain ⟨m, hm⟩ := k0; exact DataW.trod_lt m _ _ _ hm
  obtain ⟨a0, rfl⟩ := open_set (hval 0 24 v0 rfl rfl) h0
  have k1 := h1
  have lt1 : ∀ x ∈ p1, x.block < W.heap.size := by obtain ⟨m, hm⟩ := k1; exact DataW.trod_lt m _ _ _ hm
  obtain ⟨a1, rfl⟩ := open_set (hval 1 24 v1 rfl rfl) h1
  obtain ⟨a2, rfl, rfl, rfl, w2⟩ := open_int Try.underlying5 (hval 2 5 v2 rfl rfl) h2
  clear hA0 hval0
  refine (walkF a0 a1 a2 w2 W).mono fun e W' ⟨he, bel⟩ => ?_
  subst he
  exact ⟨_, rfl, _, _, _, [], _, [], hW', trodAll_mk1 (shut_bool Try.underlying4 _), (trodAll_cons_mk (Below.trod laidOut (by kernel_rfl) (of_decide_eq_true (by kernel_rfl)) k0 bel lt0) (trodAll_cons_mk (Below.trod laidOut (by kernel_rfl) (of_decide_eq_true (by kernel_rfl)) k1 bel lt1) (trodAll_cons_mk (shut_int Try.underlying5 w2) trodAll_mk0))), rfl, bel.frame _, fun h => by cases h⟩

theorem over : Rows.bsetLawsRow.holds Try.pinned (OpenSpec.ofChange Rows.bsetLawsSpec) :=
  OpenClaim.holds_of_wide 7 Try.f7 rfl rfl rfl rfl rfl rfl rfl ⟨rfl, rfl, rfl, rfl, rfl⟩ rfl rfl rfl rfl rfl (by kernel_rfl) Try.func7 (by kernel_rfl)
    (of_decide_eq_true (by kernel_rfl)) (by unfold Func.isWrapper; first | (rw [if_pos (by decide +kernel)]; kernel_rfl) | (rw [if_neg (by decide +kernel)]; exact ⟨rfl, rfl⟩))
    (fun os started H enc _ => lifted os started H enc)

/-- The statement. -/
theorem proved : Rows.BsetLawsSaid := over

end Go.Proofs.Ytfmgpcefghoncab.laws

namespace Go.Proofs.Ytfmgpcefghoncab
/-- BsetLaws, for every input. -/
theorem bsetLaws_holds : Rows.BsetLawsSaid := laws.proved
#print axioms bsetLaws_holds
end Go.Proofs.Ytfmgpcefghoncab
