/- WholeClasses returns true at every set and text: the classes cover the bytes below 128 once each but for the blank, and a set is made of its members. No condition. -/
import Derived.Test.YtfmgpcefghoncacOpen
import Derived.Test.YtfmgpcefghoncacClassW
import Derived.Deep.RegionWith
import Derived.Deep.DeepCutAuto
import Derived.Deep.RegionHeld
import Derived.Lib.QuietBelow
import Derived.BigQuiet
import Derived.SizedLaws
namespace Go.Proofs.Ytfmgpcefghoncac.classes
open Go.ChangeShapes Go.WideShapes Go.ChangeAt Go.RowKit
open Go.ChangeMaps (open_string shut_string)
open Go.Sort (grow)
set_option linter.unusedVariables false

/-- The four names. -/
def nm : Nat → ByteArray
  | 0 => ⟨#[99, 110, 116, 114, 108]⟩
  | 1 => ⟨#[97, 108, 112, 104, 97]⟩
  | 2 => ⟨#[100, 105, 103, 105, 116]⟩
  | _ => ⟨#[112, 117, 110, 99, 116]⟩

/-- Their sets. -/
def cls : Nat → Nat → Bool
  | 0 => (ins (spanP 0 31) 127)
  | 1 => (orP (spanP 65 90) (spanP 97 122))
  | 2 => (spanP 48 57)
  | _ => (andP (spanP 33 126) (notP (orP (orP (spanP 65 90) (spanP 97 122)) (spanP 48 57))))

theorem class_k (k : Nat) (hk : k < 4) (w : World) :
    Calls Try.prog 9 #[.string (nm k)] w fun e w' => e = .returned (.tuple #[.agg #[.int .u64 (wd (cls k) 0 : Nat), .int .u64 (wd (cls k) 1 : Nat), .int .u64 (wd (cls k) 2 : Nat), .int .u64 (wd (cls k) 3 : Nat)], .int .i64 0]) ∧ Below w.heap.size w w' := by
  match k, hk with
  | 0, _ => exact class_cntrl w
  | 1, _ => exact class_alpha w
  | 2, _ => exact class_digit w
  | 3, _ => exact class_punct w

/-- What is in the first k. -/
def sumP : Nat → Nat → Bool
  | 0 => fun _ => false
  | k + 1 => orP (sumP k) (cls k)

/-- What was in two of them. -/
def twP : Nat → Nat → Bool
  | 0 => fun _ => false
  | k + 1 => orP (twP k) (andP (sumP k) (cls k))

theorem tw_none : eqB (twP 4) (fun _ => false) = true := by decide +kernel
theorem sum_low : eqB (orP (sumP 4) (ofP ⟨#[32]⟩)) (spanP 0 127) = true := by decide +kernel

theorem keepS {b : Nat} {W wv : World} {a : Nat → Bool} (hb : Below W.heap.size W wv) (h : W.cell? ⟨b, 0, none⟩ = some (.int .u64 (wd a 0 : Nat)) ∧ W.cell? ⟨b, 1, none⟩ = some (.int .u64 (wd a 1 : Nat)) ∧ W.cell? ⟨b, 2, none⟩ = some (.int .u64 (wd a 2 : Nat)) ∧ W.cell? ⟨b, 3, none⟩ = some (.int .u64 (wd a 3 : Nat))) : wv.cell? ⟨b, 0, none⟩ = some (.int .u64 (wd a 0 : Nat)) ∧ wv.cell? ⟨b, 1, none⟩ = some (.int .u64 (wd a 1 : Nat)) ∧ wv.cell? ⟨b, 2, none⟩ = some (.int .u64 (wd a 2 : Nat)) ∧ wv.cell? ⟨b, 3, none⟩ = some (.int .u64 (wd a 3 : Nat)) := by
  obtain ⟨c0, c1, c2, c3⟩ := h
  have l1 := World.block_lt_of_cell? W _ c0
  exact ⟨(hb.cell (p := ⟨b, 0, none⟩) l1).trans c0, (hb.cell (p := ⟨b, 1, none⟩) l1).trans c1, (hb.cell (p := ⟨b, 2, none⟩) l1).trans c2, (hb.cell (p := ⟨b, 3, none⟩) l1).trans c3⟩
theorem keepT {b : Nat} {W wv : World} {a : Nat → Bool} (h : W.cell? ⟨b, 0, none⟩ = some (.int .u64 (wd a 0 : Nat)) ∧ W.cell? ⟨b, 1, none⟩ = some (.int .u64 (wd a 1 : Nat)) ∧ W.cell? ⟨b, 2, none⟩ = some (.int .u64 (wd a 2 : Nat)) ∧ W.cell? ⟨b, 3, none⟩ = some (.int .u64 (wd a 3 : Nat))) (hb : Below (b + 1) W wv) : wv.cell? ⟨b, 0, none⟩ = some (.int .u64 (wd a 0 : Nat)) ∧ wv.cell? ⟨b, 1, none⟩ = some (.int .u64 (wd a 1 : Nat)) ∧ wv.cell? ⟨b, 2, none⟩ = some (.int .u64 (wd a 2 : Nat)) ∧ wv.cell? ⟨b, 3, none⟩ = some (.int .u64 (wd a 3 : Nat)) := by
  obtain ⟨c0, c1, c2, c3⟩ := h
  exact ⟨(hb.cell (p := ⟨b, 0, none⟩) (by simp)).trans c0, (hb.cell (p := ⟨b, 1, none⟩) (by simp)).trans c1, (hb.cell (p := ⟨b, 2, none⟩) (by simp)).trans c2, (hb.cell (p := ⟨b, 3, none⟩) (by simp)).trans c3⟩
theorem zero1 {W wv : World} (hb : Below (W.alloc (.cells #[.int .u64 0, .int .u64 0, .int .u64 0, .int .u64 0] 32)).heap.size (W.alloc (.cells #[.int .u64 0, .int .u64 0, .int .u64 0, .int .u64 0] 32)) wv) : Holds4 wv W.heap.size (fun _ => false) := (holds4_zero W 32).below hb (by simp)
theorem zero1d {W wv : World} (hb : Below (W.alloc (.cells #[.int .u64 0, .int .u64 0, .int .u64 0, .int .u64 0] 32)).drew.heap.size (W.alloc (.cells #[.int .u64 0, .int .u64 0, .int .u64 0, .int .u64 0] 32)).drew wv) : Holds4 wv W.heap.size (fun _ => false) := (holds4_zero W 32).drew.below hb (by simp)
theorem carry0 {W wx : World} {b : Nat} {p : Nat → Bool} (z : Holds4 W b p) (hb : Below W.heap.size W wx) : Holds4 wx b p := z.below hb z.lt
theorem comB0 {w W wx : World} (hB : Below w.heap.size w W) (hb : Below W.heap.size W wx) : Below w.heap.size w wx := hB.trans (hb.mono hB.size)
theorem comB1 {w W wx : World} {o : Obj} (hB : Below w.heap.size w W) (hb : Below (W.alloc o).heap.size (W.alloc o) wx) : Below w.heap.size w wx := comB0 (hB.alloc hB.size o) hb
theorem comB1d {w W wx : World} {o : Obj} (hB : Below w.heap.size w W) (hb : Below (W.alloc o).drew.heap.size (W.alloc o).drew wx) : Below w.heap.size w wx := (hB.alloc hB.size o).drew.trans (hb.mono (hB.alloc hB.size o).size)

theorem has_in (p : Nat → Bool) (t : ByteArray) (k : Nat) (h : k < t.size) : orP p (ofP t) (t[k].toNat) = true := by
  unfold orP ofP inText
  rw [Bool.or_eq_true]
  right
  rw [List.any_eq_true]
  refine ⟨t[k], ?_, by simp⟩
  rw [List.take_of_length_le (by simp)]
  exact List.getElem_mem (by simpa using h)

theorem cells_regrown {w : World} {b : Nat} {p : Nat → Bool} (h : Holds4 w b p) (d : Nat) (os : Array Obj) : Holds4 (grow (redrawn w d) os) b p :=
  h.below (below_regrown w d os) h.lt

theorem ofP_iff (t : ByteArray) (n : Nat) : ofP t n = t.data.toList.any fun b => b.toNat == n := by
  unfold ofP inText
  rw [List.take_of_length_le (by simp)]

theorem of_twice (t : ByteArray) : eqB (ofP (t ++ t)) (ofP t) = true := by
  rw [eqB_iff]
  intro n _
  rw [ofP_iff, ofP_iff]
  simp [ByteArray.data_append]

theorem and_or (p q : Nat → Bool) : eqB (andP (orP p q) p) p = true := by
  rw [eqB_iff]
  intro n _
  unfold andP orP
  cases p n <;> simp

theorem or_not (p : Nat → Bool) : eqB (orP p (notP p)) (notP noneP) = true := by
  rw [eqB_iff]
  intro n _
  unfold orP notP noneP
  cases p n <;> simp

/-- The row of the four names. -/
def NmAt (W : World) (b : Nat) : Prop := ∀ j, j < 4 → W.cell? ⟨b, j, none⟩ = some (.string (nm j))

theorem NmAt.below {W W' : World} {b B : Nat} (h : NmAt W b) (hb : Below B W W') (hB : W.heap.size = B := by rfl) : NmAt W' b := fun j hj =>
  (hb.cell (p := ⟨b, j, none⟩) (by rw [← hB]; exact World.block_lt_of_cell? _ _ (h j hj))).trans (h j hj)

theorem NmAt.put {W : World} {b b' : Nat} (h : NmAt W b) (hne : b ≠ b') (q : Nat → Bool) : NmAt (put4 W b' q) b := fun j hj => by
  have h1 := h j hj
  unfold put4
  rw [World.cell?_setCell_other _ _ _ _ (fun e => hne (by cases e; rfl)), World.cell?_setCell_other _ _ _ _ (fun e => hne (by cases e; rfl)), World.cell?_setCell_other _ _ _ _ (fun e => hne (by cases e; rfl)), World.cell?_setCell_other _ _ _ _ (fun e => hne (by cases e; rfl))]
  exact h1

set_option maxRecDepth 100000 in
set_option maxHeartbeats 2000000 in
theorem walk (p : Nat → Bool) (t : ByteArray) (hsz : t.size ≤ 140737488351232) (w : World) :
    Calls Try.prog 4 #[.agg #[.int .u64 (wd p 0 : Nat), .int .u64 (wd p 1 : Nat), .int .u64 (wd p 2 : Nat), .int .u64 (wd p 3 : Nat)], .string t] w fun e w' => e = .returned (.bool true) ∧ Below w.heap.size w w' := by
  have HT : Hid (t.size ≤ maxLen) := by show t.size ≤ maxLen; unfold maxLen; omega
  have HS : Hid _ := hsz
  clear hsz
  go_enter Try.func4, Try.ntmps4
  go_wp2_with fail
  have h0 : Holds4 ((((w.alloc (.cells #[.int .u64 (wd p 0 : Nat), .int .u64 (wd p 1 : Nat), .int .u64 (wd p 2 : Nat), .int .u64 (wd p 3 : Nat)] 32)).alloc (.cells #[.string ⟨#[99, 110, 116, 114, 108]⟩, .string ⟨#[97, 108, 112, 104, 97]⟩, .string ⟨#[100, 105, 103, 105, 116]⟩, .string ⟨#[112, 117, 110, 99, 116]⟩] 9)).alloc (.cells #[.int .u64 0, .int .u64 0, .int .u64 0, .int .u64 0] 32)).alloc (.cells #[.int .u64 0, .int .u64 0, .int .u64 0, .int .u64 0] 32)) w.heap.size p := (((holds4_new w p 32).alloc _).alloc _).alloc _
  have hn : ∀ j, j < 4 → ((((w.alloc (.cells #[.int .u64 (wd p 0 : Nat), .int .u64 (wd p 1 : Nat), .int .u64 (wd p 2 : Nat), .int .u64 (wd p 3 : Nat)] 32)).alloc (.cells #[.string ⟨#[99, 110, 116, 114, 108]⟩, .string ⟨#[97, 108, 112, 104, 97]⟩, .string ⟨#[100, 105, 103, 105, 116]⟩, .string ⟨#[112, 117, 110, 99, 116]⟩] 9)).alloc (.cells #[.int .u64 0, .int .u64 0, .int .u64 0, .int .u64 0] 32)).alloc (.cells #[.int .u64 0, .int .u64 0, .int .u64 0, .int .u64 0] 32)).cell? ⟨w.heap.size + 1, j, none⟩ = some (.string (nm j)) := by
    intro j hj
    match j, hj with
    | 0, _ => simp [go_sem, nm]
    | 1, _ => simp [go_sem, nm]
    | 2, _ => simp [go_sem, nm]
    | 3, _ => simp [go_sem, nm]
  have h2 : Holds4 ((((w.alloc (.cells #[.int .u64 (wd p 0 : Nat), .int .u64 (wd p 1 : Nat), .int .u64 (wd p 2 : Nat), .int .u64 (wd p 3 : Nat)] 32)).alloc (.cells #[.string ⟨#[99, 110, 116, 114, 108]⟩, .string ⟨#[97, 108, 112, 104, 97]⟩, .string ⟨#[100, 105, 103, 105, 116]⟩, .string ⟨#[112, 117, 110, 99, 116]⟩] 9)).alloc (.cells #[.int .u64 0, .int .u64 0, .int .u64 0, .int .u64 0] 32)).alloc (.cells #[.int .u64 0, .int .u64 0, .int .u64 0, .int .u64 0] 32)) (w.heap.size + 1 + 1) (sumP 0) := by
    have h := (holds4_zero ((w.alloc (.cells #[.int .u64 (wd p 0 : Nat), .int .u64 (wd p 1 : Nat), .int .u64 (wd p 2 : Nat), .int .u64 (wd p 3 : Nat)] 32)).alloc (.cells #[.string ⟨#[99, 110, 116, 114, 108]⟩, .string ⟨#[97, 108, 112, 104, 97]⟩, .string ⟨#[100, 105, 103, 105, 116]⟩, .string ⟨#[112, 117, 110, 99, 116]⟩] 9)) 32).alloc (.cells #[.int .u64 0, .int .u64 0, .int .u64 0, .int .u64 0] 32)
    rwa [World.size_alloc, World.size_alloc] at h
  have h3 : Holds4 ((((w.alloc (.cells #[.int .u64 (wd p 0 : Nat), .int .u64 (wd p 1 : Nat), .int .u64 (wd p 2 : Nat), .int .u64 (wd p 3 : Nat)] 32)).alloc (.cells #[.string ⟨#[99, 110, 116, 114, 108]⟩, .string ⟨#[97, 108, 112, 104, 97]⟩, .string ⟨#[100, 105, 103, 105, 116]⟩, .string ⟨#[112, 117, 110, 99, 116]⟩] 9)).alloc (.cells #[.int .u64 0, .int .u64 0, .int .u64 0, .int .u64 0] 32)).alloc (.cells #[.int .u64 0, .int .u64 0, .int .u64 0, .int .u64 0] 32)) (w.heap.size + 1 + 1 + 1) (twP 0) := by
    have h := holds4_zero (((w.alloc (.cells #[.int .u64 (wd p 0 : Nat), .int .u64 (wd p 1 : Nat), .int .u64 (wd p 2 : Nat), .int .u64 (wd p 3 : Nat)] 32)).alloc (.cells #[.string ⟨#[99, 110, 116, 114, 108]⟩, .string ⟨#[97, 108, 112, 104, 97]⟩, .string ⟨#[100, 105, 103, 105, 116]⟩, .string ⟨#[112, 117, 110, 99, 116]⟩] 9)).alloc (.cells #[.int .u64 0, .int .u64 0, .int .u64 0, .int .u64 0] 32)) 32
    rwa [World.size_alloc, World.size_alloc, World.size_alloc] at h
  have hB : Below w.heap.size w ((((w.alloc (.cells #[.int .u64 (wd p 0 : Nat), .int .u64 (wd p 1 : Nat), .int .u64 (wd p 2 : Nat), .int .u64 (wd p 3 : Nat)] 32)).alloc (.cells #[.string ⟨#[99, 110, 116, 114, 108]⟩, .string ⟨#[97, 108, 112, 104, 97]⟩, .string ⟨#[100, 105, 103, 105, 116]⟩, .string ⟨#[112, 117, 110, 99, 116]⟩] 9)).alloc (.cells #[.int .u64 0, .int .u64 0, .int .u64 0, .int .u64 0] 32)).alloc (.cells #[.int .u64 0, .int .u64 0, .int .u64 0, .int .u64 0] 32)) := ((((Below.refl _ w).alloc (Nat.le_refl _) _).alloc (by simp) _).alloc (by simp; omega) _).alloc (by simp; omega) _
  generalize (((w.alloc (.cells #[.int .u64 (wd p 0 : Nat), .int .u64 (wd p 1 : Nat), .int .u64 (wd p 2 : Nat), .int .u64 (wd p 3 : Nat)] 32)).alloc (.cells #[.string ⟨#[99, 110, 116, 114, 108]⟩, .string ⟨#[97, 108, 112, 104, 97]⟩, .string ⟨#[100, 105, 103, 105, 116]⟩, .string ⟨#[112, 117, 110, 99, 116]⟩] 9)).alloc (.cells #[.int .u64 0, .int .u64 0, .int .u64 0, .int .u64 0] 32)).alloc (.cells #[.int .u64 0, .int .u64 0, .int .u64 0, .int .u64 0] 32) = W at *
  go_loopw [19] (fun i wr => ∃ k : Nat, k ≤ 4 ∧ i = .int .i64 k ∧ Holds4 wr w.heap.size p ∧ (∀ j, j < 4 → wr.cell? ⟨w.heap.size + 1, j, none⟩ = some (.string (nm j))) ∧ Holds4 wr (w.heap.size + 1 + 1) (sumP k) ∧ Holds4 wr (w.heap.size + 1 + 1 + 1) (twP k) ∧ Below w.heap.size w wr) (fun i _ => (4 - intOf i).toNat)
  case atStart => exact ⟨0, by omega, rfl, h0, hn, h2, h3, hB⟩
  case round =>
    clear h0 hn h2 h3 hB
    obtain ⟨k, hk, rfl, h0, hn, h2, h3, hB⟩ := hrel
    by_cases hlt : k < 4
    · have hc := hn k hlt
      have HN : Hid _ := hn
      clear hn
      go_wp2_with fail
      clear hc
      have hn := HN.out
      refine (class_k k hlt _).mono ?_
      rintro e w1 ⟨rfl, hb⟩
      replace hn : ∀ j, j < 4 → w1.cell? ⟨w.heap.size + 1, j, none⟩ = some (.string (nm j)) := fun j hj => (hb.cell (p := ⟨w.heap.size + 1, j, none⟩) (World.block_lt_of_cell? _ _ (hn j hj))).trans (hn j hj)
      replace h0 := h0.below hb h0.lt
      replace h2 := h2.below hb h2.lt
      replace h3 := h3.below hb h3.lt
      replace hB := hB.trans (hb.mono hB.size)
      clear hb HN
      have HN : Hid _ := hn
      clear hn
      have l3 := h3.lt
      go_wp2_with fail
      have h10 := holds4_new w1 (cls k) 32
      have hnN : NmAt (w1.alloc (.cells #[.int .u64 (wd (cls k) 0 : Nat), .int .u64 (wd (cls k) 1 : Nat), .int .u64 (wd (cls k) 2 : Nat), .int .u64 (wd (cls k) 3 : Nat)] 32)) (w.heap.size + 1) := NmAt.below (B := w1.heap.size) HN.out ((Below.refl _ _).alloc (Nat.le_refl _) _)
      clear HN
      replace h0 := h0.alloc (.cells #[.int .u64 (wd (cls k) 0 : Nat), .int .u64 (wd (cls k) 1 : Nat), .int .u64 (wd (cls k) 2 : Nat), .int .u64 (wd (cls k) 3 : Nat)] 32)
      replace h2 := h2.alloc (.cells #[.int .u64 (wd (cls k) 0 : Nat), .int .u64 (wd (cls k) 1 : Nat), .int .u64 (wd (cls k) 2 : Nat), .int .u64 (wd (cls k) 3 : Nat)] 32)
      replace h3 := h3.alloc (.cells #[.int .u64 (wd (cls k) 0 : Nat), .int .u64 (wd (cls k) 1 : Nat), .int .u64 (wd (cls k) 2 : Nat), .int .u64 (wd (cls k) 3 : Nat)] 32)
      replace hB := hB.alloc hB.size (.cells #[.int .u64 (wd (cls k) 0 : Nat), .int .u64 (wd (cls k) 1 : Nat), .int .u64 (wd (cls k) 2 : Nat), .int .u64 (wd (cls k) 3 : Nat)] 32)
      generalize w1.alloc (.cells #[.int .u64 (wd (cls k) 0 : Nat), .int .u64 (wd (cls k) 1 : Nat), .int .u64 (wd (cls k) 2 : Nat), .int .u64 (wd (cls k) 3 : Nat)] 32) = Wc at *
      go_cut [11] (fun _ wc => Holds4 wc w.heap.size p ∧ NmAt wc (w.heap.size + 1) ∧ Holds4 wc (w.heap.size + 1 + 1) (sumP k) ∧ Holds4 wc (w.heap.size + 1 + 1 + 1) (twP (k + 1)) ∧ Holds4 wc w1.heap.size (cls k) ∧ Below w.heap.size w wc)
      case first =>
        replace h0 : Holds4 Wc.drew _ _ := h0
        replace h2 : Holds4 Wc.drew _ _ := h2
        replace h3 : Holds4 Wc.drew _ _ := h3
        replace h10 : Holds4 Wc.drew _ _ := h10
        replace hnN : NmAt Wc.drew _ := hnN
        replace hB := hB.drew
        obtain ⟨⟨a0, a1, a2, a3⟩, -⟩ := id h2
        obtain ⟨⟨b0, b1, b2, b3⟩, -⟩ := id h3
        obtain ⟨⟨c0, c1, c2, c3⟩, -⟩ := id h10
        go_region_with (first | (go_at_call 11; go_must (refine (andD _ _ _).mono ?_; rintro e wv ⟨rfl, hb⟩; replace h0 := h0.below hb h0.lt; replace h2 := h2.below hb h2.lt; replace h3 := h3.below hb h3.lt; replace h10 := h10.below hb h10.lt; replace hnN := NmAt.below hnN hb; replace hB := hB.trans (hb.mono hB.size); obtain ⟨⟨a0, a1, a2, a3⟩, -⟩ := id h2; obtain ⟨⟨b0, b1, b2, b3⟩, g0, g1, g2, g3⟩ := id h3; obtain ⟨⟨c0, c1, c2, c3⟩, -⟩ := id h10)) | (go_at_call 10; go_must (refine (orD _ _ _).mono ?_; rintro e wv ⟨rfl, hb⟩; replace h0 := h0.below hb h0.lt; replace h2 := h2.below hb h2.lt; replace h3 := h3.below hb h3.lt; replace h10 := h10.below hb h10.lt; replace hnN := NmAt.below hnN hb; replace hB := hB.trans (hb.mono hB.size); obtain ⟨⟨a0, a1, a2, a3⟩, -⟩ := id h2; obtain ⟨⟨b0, b1, b2, b3⟩, g0, g1, g2, g3⟩ := id h3; obtain ⟨⟨c0, c1, c2, c3⟩, -⟩ := id h10)))
        all_goals
          go_wp2
          go_meet
          exact ⟨h0.other _ (by omega), hnN.put (by omega) _, h2.other _ (by omega), h3.put _, h10.other _ (by omega), below_put4 hB (by omega) _⟩
      case rest =>
        clear h0 hnN h2 h3 h10 hB
        obtain ⟨h0, hnN, h2, h3, h10, hB⟩ := hcut
        obtain ⟨⟨a0, a1, a2, a3⟩, -⟩ := id h2
        obtain ⟨⟨c0, c1, c2, c3⟩, -⟩ := id h10
        go_wp2_with fail
        refine (orD _ _ _).mono ?_
        rintro e w2 ⟨rfl, hb⟩
        clear a0 a1 a2 a3 c0 c1 c2 c3
        replace h0 := h0.below hb h0.lt
        replace hnN := NmAt.below hnN hb
        replace h2 := h2.below hb h2.lt
        replace h3 := h3.below hb h3.lt
        replace hB := hB.trans (hb.mono hB.size)
        obtain ⟨⟨a0, a1, a2, a3⟩, g0, g1, g2, g3⟩ := id h2
        go_wp2
        go_roundw
        case rel => exact ⟨k + 1, by omega, by go_num, h0.other _ (by omega), hnN.put (by omega) _, h2.put _, h3.other _ (by omega), below_put4 hB (by omega) _⟩
        case measure => simp [intOf]; omega
    · obtain rfl : k = 4 := by omega
      have hc : True := trivial
      clear hn
      have l2 := h2.lt
      have l3 := h3.lt
      clear hc
      go_wp2_with fail
      go_cut [11] (fun _ wc => Holds4 wc w.heap.size p ∧ Holds4 wc (w.heap.size + 1 + 1) (orP (sumP 4) (ofP ⟨#[32]⟩)) ∧ Holds4 wc (w.heap.size + 1 + 1 + 1) (twP 4) ∧ Below w.heap.size w wc)
      case first =>
        replace h0 : Holds4 wr.drew _ _ := h0
        replace h2 : Holds4 wr.drew _ _ := h2
        replace h3 : Holds4 wr.drew _ _ := h3
        replace hB := hB.drew
        obtain ⟨⟨a0, a1, a2, a3⟩, -⟩ := id h2
        go_region_with (first | (go_at_call 12; go_must (refine (ofD _ (by decide) _).mono ?_; rintro e wv ⟨rfl, hb⟩; replace h0 := h0.below hb h0.lt; replace h2 := h2.below hb h2.lt; replace h3 := h3.below hb h3.lt; replace hB := hB.trans (hb.mono hB.size); obtain ⟨⟨a0, a1, a2, a3⟩, g0, g1, g2, g3⟩ := id h2)) | (go_at_call 10; go_must (refine (orD _ _ _).mono ?_; rintro e wv ⟨rfl, hb⟩; replace h0 := h0.below hb h0.lt; replace h2 := h2.below hb h2.lt; replace h3 := h3.below hb h3.lt; replace hB := hB.trans (hb.mono hB.size); obtain ⟨⟨a0, a1, a2, a3⟩, g0, g1, g2, g3⟩ := id h2)))
        all_goals
          go_wp2
          go_meet
          exact ⟨h0.other _ (by omega), h2.put _, h3.other _ (by omega), below_put4 hB (by omega) _⟩
      case rest =>
        clear h0 h2 h3 hB
        obtain ⟨h0, h2, h3, hB⟩ := hcut
        go_wp2_with fail
        refine (spanD 0 127 (by omega) (by omega) (by omega) _).mono ?_
        rintro e w1 ⟨rfl, hb⟩
        replace h0 := h0.below hb h0.lt
        replace h2 := h2.below hb h2.lt
        replace h3 := h3.below hb h3.lt
        replace hB := hB.trans (hb.mono hB.size)
        clear hb l2 l3
        have l2 := h2.lt
        have l3 := h3.lt
        obtain ⟨⟨a0, a1, a2, a3⟩, -⟩ := id h2
        obtain ⟨⟨b0, b1, b2, b3⟩, -⟩ := id h3
        have q1 : ∀ w, (binOp .neq 32 (.agg #[.int .u64 (wd (twP 4) 0 : Nat), .int .u64 (wd (twP 4) 1 : Nat), .int .u64 (wd (twP 4) 2 : Nat), .int .u64 (wd (twP 4) 3 : Nat)]) (.agg #[.int .u64 0, .int .u64 0, .int .u64 0, .int .u64 0])).run Try.prog w = .ok (.bool false) w := fun w => by
          have h := run_neq_set (twP 4) (fun _ => false) w
          rw [tw_none, wd_none, wd_none, wd_none, wd_none] at h
          exact h
        have q2 : ∀ w, (binOp .neq 32 (.agg #[.int .u64 (wd (orP (sumP 4) (ofP ⟨#[32]⟩)) 0 : Nat), .int .u64 (wd (orP (sumP 4) (ofP ⟨#[32]⟩)) 1 : Nat), .int .u64 (wd (orP (sumP 4) (ofP ⟨#[32]⟩)) 2 : Nat), .int .u64 (wd (orP (sumP 4) (ofP ⟨#[32]⟩)) 3 : Nat)]) (.agg #[.int .u64 (wd (spanP 0 127) 0 : Nat), .int .u64 (wd (spanP 0 127) 1 : Nat), .int .u64 (wd (spanP 0 127) 2 : Nat), .int .u64 (wd (spanP 0 127) 3 : Nat)])).run Try.prog w = .ok (.bool false) w := fun w => by rw [run_neq_set, sum_low]; rfl
        go_wp2_with fail
        have lW : w.heap.size + 1 ≤ (w1.alloc (.cells #[.int .u64 (wd (spanP 0 127) 0 : Nat), .int .u64 (wd (spanP 0 127) 1 : Nat), .int .u64 (wd (spanP 0 127) 2 : Nat), .int .u64 (wd (spanP 0 127) 3 : Nat)] 32)).heap.size := by simp; omega
        replace h0 := h0.alloc (.cells #[.int .u64 (wd (spanP 0 127) 0 : Nat), .int .u64 (wd (spanP 0 127) 1 : Nat), .int .u64 (wd (spanP 0 127) 2 : Nat), .int .u64 (wd (spanP 0 127) 3 : Nat)] 32)
        replace hB := hB.alloc hB.size (.cells #[.int .u64 (wd (spanP 0 127) 0 : Nat), .int .u64 (wd (spanP 0 127) 1 : Nat), .int .u64 (wd (spanP 0 127) 2 : Nat), .int .u64 (wd (spanP 0 127) 3 : Nat)] 32)
        generalize w1.alloc (.cells #[.int .u64 (wd (spanP 0 127) 0 : Nat), .int .u64 (wd (spanP 0 127) 1 : Nat), .int .u64 (wd (spanP 0 127) 2 : Nat), .int .u64 (wd (spanP 0 127) 3 : Nat)] 32) = Wb at *
        clear h2 h3 l2 l3 a0 a1 a2 a3 b0 b1 b2 b3
        go_cut [14] (fun s14 wc => ∃ b, s14 = .pointer (some ⟨b, 0, none⟩) ∧ Holds4 wc b (orP p (ofP t)) ∧ (wc.cell? ⟨w.heap.size, 0, none⟩ = some (.int .u64 (wd p 0 : Nat)) ∧ wc.cell? ⟨w.heap.size, 1, none⟩ = some (.int .u64 (wd p 1 : Nat)) ∧ wc.cell? ⟨w.heap.size, 2, none⟩ = some (.int .u64 (wd p 2 : Nat)) ∧ wc.cell? ⟨w.heap.size, 3, none⟩ = some (.int .u64 (wd p 3 : Nat))) ∧ Below w.heap.size w wc)
        case first =>
          have hB0 := hB
          replace hB := hB.drew
          have hS0 : Wb.drew.cell? ⟨w.heap.size, 0, none⟩ = some (.int .u64 (wd p 0 : Nat)) ∧ Wb.drew.cell? ⟨w.heap.size, 1, none⟩ = some (.int .u64 (wd p 1 : Nat)) ∧ Wb.drew.cell? ⟨w.heap.size, 2, none⟩ = some (.int .u64 (wd p 2 : Nat)) ∧ Wb.drew.cell? ⟨w.heap.size, 3, none⟩ = some (.int .u64 (wd p 3 : Nat)) := h0.1
          have hS00 : Wb.cell? ⟨w.heap.size, 0, none⟩ = some (.int .u64 (wd p 0 : Nat)) ∧ Wb.cell? ⟨w.heap.size, 1, none⟩ = some (.int .u64 (wd p 1 : Nat)) ∧ Wb.cell? ⟨w.heap.size, 2, none⟩ = some (.int .u64 (wd p 2 : Nat)) ∧ Wb.cell? ⟨w.heap.size, 3, none⟩ = some (.int .u64 (wd p 3 : Nat)) := h0.1
          obtain ⟨⟨c0, c1, c2, c3⟩, -⟩ := id h0
          clear h0
          go_region_held (fun W' => W'.cell? ⟨w.heap.size, 0, none⟩ = some (.int .u64 (wd p 0 : Nat)) ∧ W'.cell? ⟨w.heap.size, 1, none⟩ = some (.int .u64 (wd p 1 : Nat)) ∧ W'.cell? ⟨w.heap.size, 2, none⟩ = some (.int .u64 (wd p 2 : Nat)) ∧ W'.cell? ⟨w.heap.size, 3, none⟩ = some (.int .u64 (wd p 3 : Nat))) (first | with_reducible exact hS2 | with_reducible exact hS1 | with_reducible exact hS0 | (with_reducible refine keepT hS2 ?_; (repeat (first | with_reducible exact Below.refl _ _ | (with_reducible refine Below.setCell ?_ ?_ _; rotate_left; (first | omega | (simp; done) | (simp; omega))) | (with_reducible refine Below.alloc ?_ ?_ _; rotate_left; (first | omega | (simp; done) | (simp; omega))) | with_reducible refine Below.drew ?_)); done) | (with_reducible refine keepT hS1 ?_; (repeat (first | with_reducible exact Below.refl _ _ | (with_reducible refine Below.setCell ?_ ?_ _; rotate_left; (first | omega | (simp; done) | (simp; omega))) | (with_reducible refine Below.alloc ?_ ?_ _; rotate_left; (first | omega | (simp; done) | (simp; omega))) | with_reducible refine Below.drew ?_)); done) | (with_reducible refine keepT hS0 ?_; (repeat (first | with_reducible exact Below.refl _ _ | (with_reducible refine Below.setCell ?_ ?_ _; rotate_left; (first | omega | (simp; done) | (simp; omega))) | (with_reducible refine Below.alloc ?_ ?_ _; rotate_left; (first | omega | (simp; done) | (simp; omega))) | with_reducible refine Below.drew ?_)); done) | (with_reducible refine keepT hS00 ?_; (repeat (first | with_reducible exact Below.refl _ _ | (with_reducible refine Below.setCell ?_ ?_ _; rotate_left; (first | omega | (simp; done) | (simp; omega))) | (with_reducible refine Below.alloc ?_ ?_ _; rotate_left; (first | omega | (simp; done) | (simp; omega))) | with_reducible refine Below.drew ?_)); done)) (first | (go_at_call 12; go_must (refine (ofD _ HT.out _).mono ?_; rintro e wv ⟨rfl, hb⟩; have hS1 := keepS hb (by with_reducible assumption); (first | replace hB := comB0 hB hb | replace hB := comB1d hB0 hb); have hsz := hb.size; (try simp only [World.size_alloc, World.size_drew] at hsz); (try (have zA : Holds4 wv Wb.heap.size (fun _ => false) := zero1d (W := Wb) hb)); (try (have p8 := zA.lt; obtain ⟨⟨p0, p1, p2, p3⟩, p4, p5, p6, p7⟩ := id zA)))) | (go_at_call 10; go_must (refine (orD _ _ _).mono ?_; rintro e wx ⟨rfl, hb⟩; have hS2 := keepS hb (by with_reducible assumption); (first | replace hB := comB0 hB hb | replace hB := comB1 hB hb); have hsz2 := hb.size; (try simp only [World.size_alloc] at hsz2); (try (clear p0 p1 p2 p3 p4 p5 p6 p7)); (try (replace zA := carry0 zA hb)); (try (have zC : Holds4 wx wv.heap.size (fun _ => false) := zero1 (W := wv) hb)); (try (have p8 := zA.lt; obtain ⟨⟨p0, p1, p2, p3⟩, p4, p5, p6, p7⟩ := id zA)); (try (have r8 := zC.lt; obtain ⟨⟨r0, r1, r2, r3⟩, r4, r5, r6, r7⟩ := id zC)))))
          · go_wp2
            go_meet
            exact ⟨_, rfl, holds4_new wx _ 32, keepT hS2 ((Below.refl _ _).alloc (by omega) _), hB.alloc hB.size _⟩
          · go_wp2
            go_meet
            exact ⟨_, rfl, zC.put _, keepT hS2 (below_put4 (Below.refl _ _) (by omega) _), below_put4 hB (by omega) _⟩
          · go_wp2
            go_meet
            exact ⟨_, rfl, zA.put _, keepT hS2 (below_put4 (Below.refl _ _) (by omega) _), below_put4 hB (by omega) _⟩
        case rest =>
          clear hB h0 lW
          obtain ⟨bb, rfl, h14, h0, hB⟩ := hcut
          go_wp2_with fail
          go_loopw [15] (fun i wr => ∃ k : Nat, k ≤ t.size ∧ i = .int .i64 k ∧ Holds4 wr bb (orP p (ofP t)) ∧ (wr.cell? ⟨w.heap.size, 0, none⟩ = some (.int .u64 (wd p 0 : Nat)) ∧ wr.cell? ⟨w.heap.size, 1, none⟩ = some (.int .u64 (wd p 1 : Nat)) ∧ wr.cell? ⟨w.heap.size, 2, none⟩ = some (.int .u64 (wd p 2 : Nat)) ∧ wr.cell? ⟨w.heap.size, 3, none⟩ = some (.int .u64 (wd p 3 : Nat))) ∧ Below w.heap.size w wr) (fun i _ => t.size - (intOf i).toNat)
          case atStart => exact ⟨0, by omega, rfl, h14, h0, hB⟩
          case round =>
            clear h14 h0 hB
            obtain ⟨k, hk, rfl, h14, h0, hB⟩ := hrel
            have ht : t.size ≤ 9223372036854775807 := HT.out
            by_cases hlt : k < t.size
            · obtain ⟨⟨c0, c1, c2, c3⟩, -⟩ := id h14
              have HM : Hid (orP p (ofP t) (t[k].toNat) = true) := has_in p t k hlt
              go_wp2_with fail
              go_region_with (go_at_call 14; go_must (refine (has_any _ _ (Int.natCast_nonneg _) (byte_lt _) _).mono ?_; rintro e w1 ⟨rfl, hb0⟩; have hb := ((Below.refl wr.heap.size wr).drew).trans hb0; replace h14 := h14.below hb h14.lt; replace h0 := keepS hb h0; replace hB := hB.trans (hb.mono hB.size); rw [Int.toNat_natCast, HM.out]))
              all_goals
                go_wp2
                exact ⟨⟨k + 1, by omega, by go_num, h14, h0, hB⟩, by simp [intOf]; omega⟩
            · obtain rfl : k = t.size := by omega
              go_wp2_with fail
              have kd := fun d os => (cells_regrown h14 d os).1
              have s0 := fun d os => cell_regrown h0.1 d os
              have s1 := fun d os => cell_regrown h0.2.1 d os
              have s2 := fun d os => cell_regrown h0.2.2.1 d os
              have s3 := fun d os => cell_regrown h0.2.2.2 d os
              have d0 := fun d os => (kd d os).1
              have d1 := fun d os => (kd d os).2.1
              have d2 := fun d os => (kd d os).2.2.1
              have d3 := fun d os => (kd d os).2.2.2
              clear kd h14 h0
              have n1 : ¬ 9223372036854775807 < t.size + t.size := by have := HS.out; omega
              have q3 : ∀ w, (binOp .eql 32 (.agg #[.int .u64 (wd (ofP (t ++ t)) 0 : Nat), .int .u64 (wd (ofP (t ++ t)) 1 : Nat), .int .u64 (wd (ofP (t ++ t)) 2 : Nat), .int .u64 (wd (ofP (t ++ t)) 3 : Nat)]) (.agg #[.int .u64 (wd (ofP t) 0 : Nat), .int .u64 (wd (ofP t) 1 : Nat), .int .u64 (wd (ofP t) 2 : Nat), .int .u64 (wd (ofP t) 3 : Nat)])).run Try.prog w = .ok (.bool true) w := fun w => by rw [run_eql_set, of_twice]
              have q4 : ∀ w, (binOp .eql 32 (.agg #[.int .u64 (wd (andP (orP p (ofP t)) p) 0 : Nat), .int .u64 (wd (andP (orP p (ofP t)) p) 1 : Nat), .int .u64 (wd (andP (orP p (ofP t)) p) 2 : Nat), .int .u64 (wd (andP (orP p (ofP t)) p) 3 : Nat)]) (.agg #[.int .u64 (wd p 0 : Nat), .int .u64 (wd p 1 : Nat), .int .u64 (wd p 2 : Nat), .int .u64 (wd p 3 : Nat)])).run Try.prog w = .ok (.bool true) w := fun w => by rw [run_eql_set, and_or]
              have q5 : ∀ w, (binOp .eql 32 (.agg #[.int .u64 (wd (orP (orP p (ofP t)) (notP (orP p (ofP t)))) 0 : Nat), .int .u64 (wd (orP (orP p (ofP t)) (notP (orP p (ofP t)))) 1 : Nat), .int .u64 (wd (orP (orP p (ofP t)) (notP (orP p (ofP t)))) 2 : Nat), .int .u64 (wd (orP (orP p (ofP t)) (notP (orP p (ofP t)))) 3 : Nat)]) (.agg #[.int .u64 (wd (notP noneP) 0 : Nat), .int .u64 (wd (notP noneP) 1 : Nat), .int .u64 (wd (notP noneP) 2 : Nat), .int .u64 (wd (notP noneP) 3 : Nat)])).run Try.prog w = .ok (.bool true) w := fun w => by rw [run_eql_set, or_not]
              have k1 : Hid (∀ d os, Calls Try.prog 12 #[.string (t ++ t)] (grow (redrawn wr d) os) fun e w'' => e = .returned (.agg #[.int .u64 (wd (ofP (t ++ t)) 0 : Nat), .int .u64 (wd (ofP (t ++ t)) 1 : Nat), .int .u64 (wd (ofP (t ++ t)) 2 : Nat), .int .u64 (wd (ofP (t ++ t)) 3 : Nat)]) ∧ ∃ p : Regrown, w'' = grow (redrawn wr p.d) p.os) := fun d os => Calls.regrown_of (ofD _ (by have := HS.out; unfold maxLen; rw [ByteArray.size_append]; omega) _)
              have k2 : Hid (∀ d os, Calls Try.prog 12 #[.string t] (grow (redrawn wr d) os) fun e w'' => e = .returned (.agg #[.int .u64 (wd (ofP t) 0 : Nat), .int .u64 (wd (ofP t) 1 : Nat), .int .u64 (wd (ofP t) 2 : Nat), .int .u64 (wd (ofP t) 3 : Nat)]) ∧ ∃ p : Regrown, w'' = grow (redrawn wr p.d) p.os) := fun d os => Calls.regrown_of (ofD _ HT.out _)
              have k3 : Hid (∀ d os, Calls Try.prog 11 #[.agg #[.int .u64 (wd (orP p (ofP t)) 0 : Nat), .int .u64 (wd (orP p (ofP t)) 1 : Nat), .int .u64 (wd (orP p (ofP t)) 2 : Nat), .int .u64 (wd (orP p (ofP t)) 3 : Nat)], .agg #[.int .u64 (wd p 0 : Nat), .int .u64 (wd p 1 : Nat), .int .u64 (wd p 2 : Nat), .int .u64 (wd p 3 : Nat)]] (grow (redrawn wr d) os) fun e w'' => e = .returned (.agg #[.int .u64 (wd (andP (orP p (ofP t)) p) 0 : Nat), .int .u64 (wd (andP (orP p (ofP t)) p) 1 : Nat), .int .u64 (wd (andP (orP p (ofP t)) p) 2 : Nat), .int .u64 (wd (andP (orP p (ofP t)) p) 3 : Nat)]) ∧ ∃ p : Regrown, w'' = grow (redrawn wr p.d) p.os) := fun d os => Calls.regrown_of (andD _ _ _)
              have k4 : Hid (∀ d os, Calls Try.prog 15 #[.agg #[.int .u64 (wd (orP p (ofP t)) 0 : Nat), .int .u64 (wd (orP p (ofP t)) 1 : Nat), .int .u64 (wd (orP p (ofP t)) 2 : Nat), .int .u64 (wd (orP p (ofP t)) 3 : Nat)]] (grow (redrawn wr d) os) fun e w'' => e = .returned (.agg #[.int .u64 (wd (notP (orP p (ofP t))) 0 : Nat), .int .u64 (wd (notP (orP p (ofP t))) 1 : Nat), .int .u64 (wd (notP (orP p (ofP t))) 2 : Nat), .int .u64 (wd (notP (orP p (ofP t))) 3 : Nat)]) ∧ ∃ p : Regrown, w'' = grow (redrawn wr p.d) p.os) := fun d os => Calls.regrown_of (notD _ _)
              have k5 : Hid (∀ d os, Calls Try.prog 10 #[.agg #[.int .u64 (wd (orP p (ofP t)) 0 : Nat), .int .u64 (wd (orP p (ofP t)) 1 : Nat), .int .u64 (wd (orP p (ofP t)) 2 : Nat), .int .u64 (wd (orP p (ofP t)) 3 : Nat)], .agg #[.int .u64 (wd (notP (orP p (ofP t))) 0 : Nat), .int .u64 (wd (notP (orP p (ofP t))) 1 : Nat), .int .u64 (wd (notP (orP p (ofP t))) 2 : Nat), .int .u64 (wd (notP (orP p (ofP t))) 3 : Nat)]] (grow (redrawn wr d) os) fun e w'' => e = .returned (.agg #[.int .u64 (wd (orP (orP p (ofP t)) (notP (orP p (ofP t)))) 0 : Nat), .int .u64 (wd (orP (orP p (ofP t)) (notP (orP p (ofP t)))) 1 : Nat), .int .u64 (wd (orP (orP p (ofP t)) (notP (orP p (ofP t)))) 2 : Nat), .int .u64 (wd (orP (orP p (ofP t)) (notP (orP p (ofP t)))) 3 : Nat)]) ∧ ∃ p : Regrown, w'' = grow (redrawn wr p.d) p.os) := fun d os => Calls.regrown_of (orD _ _ _)
              have k6 : Hid (∀ d os, Calls Try.prog 15 #[.agg #[.int .u64 0, .int .u64 0, .int .u64 0, .int .u64 0]] (grow (redrawn wr d) os) fun e w'' => e = .returned (.agg #[.int .u64 (wd (notP noneP) 0 : Nat), .int .u64 (wd (notP noneP) 1 : Nat), .int .u64 (wd (notP noneP) 2 : Nat), .int .u64 (wd (notP noneP) 3 : Nat)]) ∧ ∃ p : Regrown, w'' = grow (redrawn wr p.d) p.os) := fun d os => Calls.regrown_of (by
                have h := notD noneP (grow (redrawn wr d) os)
                unfold noneP at h
                rw [wd_none, wd_none, wd_none, wd_none] at h
                exact h)
              refine wp_region_quiet_below (by kernel_rfl) (by kernel_rfl) ?_
              repeat (quiet_step (first | with_reducible exact k1.out _ _ | with_reducible exact k2.out _ _ | with_reducible exact k3.out _ _ | with_reducible exact k4.out _ _ | with_reducible exact k5.out _ _ | with_reducible exact k6.out _ _))
              refine wpQuiet_nil ?_
              intro _ hw'
              obtain ⟨⟨dq, osq⟩, hw''⟩ := hw'
              subst hw''
              go_wp2
              go_ret
              exact ⟨rfl, hB.trans ((below_regrown wr dq osq).mono hB.size)⟩

theorem own : ownKnob Try.prog.godebug = none := by kernel_rfl
theorem laidOut : laidOutB Try.prog = true := by kernel_rfl

set_option maxHeartbeats 1000000 in
set_option maxRecDepth 100000 in
theorem lifted (os : Os) (started : os.Started) (H : Type) (enc : TypeId × Value → H) :
    ReturnsInHanded {} Try.checked os 4 .any (Rows.wholeClassesSpec.pre6 enc Try.prog Try.f4 Rows.wholeClassesRow.domain false) (Rows.wholeClassesSpec.post enc Try.prog Try.f4 false true false false) := by
  refine returnsInHanded_of_change_sized (C := Try.checked) own started (by kernel_rfl) Try.func4
    (ChangeSpec.witness6 (enc := enc) (C := Try.checked) false ⟨#[], #[.agg #[.int .u64 0, .int .u64 0, .int .u64 0, .int .u64 0], .string ⟨#[]⟩], []⟩ 8 (by kernel_rfl) (by kernel_rfl) (by kernel_rfl) (by kernel_rfl)) ?_
  intro W base args ds gs before hval0 hW hcnd hsz0 hholds
  have hval : ∀ (j : Nat) t v, Try.f4.params[j]? = some t → args[j]? = some v → Value.okWide Try.prog W .any base t v := hval0
  have hW' := hW
  obtain ⟨p, q, hA0, hV, rfl, hfz, hnd⟩ := hW
  have hA : DataW.TrodAll enc Try.prog W 0 (fun _ => true) true Try.f4.params.toList args.toList ds p := hA0
  have hsz : (DataW.weightsEach Try.prog (Try.f4.params.toList ++ Rows.wholeClassesSpec.plain.varTypes Try.prog) (ds ++ gs)).all (· ≤ reachBytes) = true := hsz0
  rw [Try.params4] at hA hval hsz
  obtain ⟨v0, vs0, d0, ds0, p0, q0, hargs, rfl, rfl, h0, r0⟩ := trodAll_cons hA
  obtain ⟨v1, vs1, d1, ds1, p1, q1, rfl, rfl, rfl, h1, r1⟩ := trodAll_cons r0
  obtain ⟨rfl, rfl, rfl⟩ := trodAll_nil r1
  obtain rfl : args = #[v0, v1] := by cases args; simp_all
  obtain ⟨rfl, rfl⟩ := trodVars_none hV
  have k0 := h0
  have lt0 : ∀ x ∈ p0, x.block < W.heap.size := by obtain ⟨m, hm⟩ := k0; exact DataW.trod_lt m _ _ _ hm
  obtain ⟨a0, rfl⟩ := open_set (hval 0 32 v0 rfl rfl) h0
  obtain ⟨s1, rfl, rfl, rfl, w1⟩ := open_string Try.underlying9 (hval 1 9 v1 rfl rfl) h1
  have z1 : s1.size ≤ 140737488351232 := by
    have h := sized_string hsz (j := 1) (t := 9) rfl rfl
    simpa [reachBytes] using h
  clear hA0 hval0
  refine (walk a0 s1 z1 W).mono fun e W' ⟨he, bel⟩ => ?_
  subst he
  exact ⟨_, rfl, _, _, _, [], _, [], hW', trodAll_mk1 (shut_bool Try.underlying4 _), (trodAll_cons_mk (Below.trod laidOut (by kernel_rfl) (of_decide_eq_true (by kernel_rfl)) k0 bel lt0) (trodAll_cons_mk (shut_string Try.underlying9 w1) trodAll_mk0)), rfl, bel.frame _, fun h => by cases h⟩

theorem over : Rows.wholeClassesRow.holds Try.pinned (OpenSpec.ofChange Rows.wholeClassesSpec) :=
  OpenClaim.holds_of_wide 4 Try.f4 rfl rfl rfl rfl rfl rfl rfl ⟨rfl, rfl, rfl, rfl, rfl⟩ rfl rfl rfl rfl rfl (by kernel_rfl) Try.func4 (by kernel_rfl)
    (of_decide_eq_true (by kernel_rfl)) (by unfold Func.isWrapper; first | (rw [if_pos (by decide +kernel)]; kernel_rfl) | (rw [if_neg (by decide +kernel)]; exact ⟨rfl, rfl⟩))
    (fun os started H enc _ => lifted os started H enc)

/-- The statement. -/
theorem proved : Rows.WholeClassesSaid := over

end Go.Proofs.Ytfmgpcefghoncac.classes

namespace Go.Proofs.Ytfmgpcefghoncac
/-- WholeClasses, for every input. -/
theorem wholeClasses_holds : Rows.WholeClassesSaid := classes.proved
#print axioms wholeClasses_holds
end Go.Proofs.Ytfmgpcefghoncac
