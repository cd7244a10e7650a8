/- template: parts in memory; the document's Same; Refs, the document's Refs. -/
import Derived.Test.YtbncokfpkkmoiaaTa
import Derived.Test.YtbncokfpkkmoiaaRows
import Derived.WalkSpells
import Derived.WalkLawsBesides
import Derived.BigQuiet
import Derived.Deep.Cut
import Derived.Laws.StructEq
import Derived.Lib.Strings
namespace Go.Proofs.Ytbncokfpkkmoiaa
open Go.RowKit

theorem below_drewN (B : Nat) (W : World) (n : Nat) : Below B W (W.drewN n) := { os := rfl, tape := rfl, output := rfl, size := Nat.le_refl _, block := fun _ _ => rfl }
theorem hideT {p : Prop} (h : p) : Hid p := h

theorem cell_lt {W : World} {g o : Nat} {v : Value} (h : W.cell? ⟨g, o, none⟩ = some v) : g < W.heap.size := by
  rcases Nat.lt_or_ge g W.heap.size with h' | h'
  · exact h'
  · simp [World.cell?, Array.getElem?_eq_none h'] at h

/-- The slice v reads as the parts l. -/
def PRow (W : World) (v : Value) (l : List Pt) : Prop :=
  (l = [] ∧ ∃ p c, v = .slice p 0 c) ∨ (∃ g off c, v = .slice (some ⟨g, off, none⟩) l.length c ∧ ∀ i (h : i < l.length), W.cell? ⟨g, off + i * 2, none⟩ = some (.int .i64 l[i].g) ∧ W.cell? ⟨g, off + i * 2 + 1, none⟩ = some (.string l[i].t))

theorem PRow.shape {W : World} {v : Value} {l : List Pt} (h : PRow W v l) : ∃ p c, v = .slice p l.length c := by
  rcases h with ⟨rfl, p, c, rfl⟩ | ⟨g, off, c, rfl, -⟩
  · exact ⟨p, c, rfl⟩
  · exact ⟨_, c, rfl⟩

/-- What a slice reads as stays, where nothing old is changed. -/
theorem PRow.stay {W W' : World} {v : Value} {l : List Pt} (h : PRow W v l) {B : Nat} (hb : Below B W W') (hB : W.heap.size ≤ B) : PRow W' v l := by
  rcases h with ⟨rfl, p, c, rfl⟩ | ⟨g, off, c, rfl, hc⟩
  · exact .inl ⟨rfl, p, c, rfl⟩
  · refine .inr ⟨g, off, c, rfl, fun i hi => ?_⟩
    obtain ⟨h1, h2⟩ := hc i hi
    exact ⟨(hb.cell (p := ⟨g, off + i * 2, none⟩) (Nat.lt_of_lt_of_le (cell_lt h1) hB)).trans h1, (hb.cell (p := ⟨g, off + i * 2 + 1, none⟩) (Nat.lt_of_lt_of_le (cell_lt h2) hB)).trans h2⟩

theorem PRow.of_owns {W : World} {base : Nat} {v : Value} {l : List Pt} (h : W.ownsRow base 48 2 v l.length (ptV l)) : PRow W v l := by
  rcases h.2 with ⟨rfl, h0⟩ | ⟨g, cap, cur, rfl, hg, hh, hrest⟩
  · exact .inl ⟨List.eq_nil_of_length_eq_zero h0, none, 0, rfl⟩
  · refine .inr ⟨g, 0, cap, rfl, fun i hi => ?_⟩
    have h0 := ptV_at l i l[i] (List.getElem?_eq_getElem hi)
    have h1 := h.cells (g := g) rfl (i * 2) _ h0.1
    have h2 := h.cells (g := g) rfl (i * 2 + 1) _ h0.2
    have hplain : ∀ k, (⟨g, 0, none⟩ : Addr).add k = ⟨g, 0 + k, none⟩ := fun k => by unfold Addr.add; split <;> simp_all
    rw [hplain] at h1 h2
    exact ⟨h1, by rw [Nat.add_assoc]; exact h2⟩

set_option maxRecDepth 100000 in
set_option maxHeartbeats 1000000 in
/-- Same of two lists of the same parts. -/
theorem same_any (a b : Value) (l : List Pt) (w : World) (ha : PRow w a l) (hb : PRow w b l) (hl : l.length ≤ 9223372036854775807) :
    Calls Try.prog 12 #[a, b] w fun e w' => e = .returned (.bool true) ∧ Below w.heap.size w w' := by
  obtain ⟨pa, ca, rfl⟩ := ha.shape
  obtain ⟨pb, cb, rfl⟩ := hb.shape
  go_enter Try.func12, Try.ntmps12
  go_wp2_with fail
  go_loopw [5] (fun i wr => ∃ k : Nat, k ≤ l.length ∧ i = .int .i64 k ∧ Below w.heap.size w wr) (fun i _ => l.length - (intOf i).toNat)
  case atStart => exact ⟨0, by omega, rfl, Below.refl _ _⟩
  case round =>
    obtain ⟨k, hk, rfl, hB⟩ := hrel
    by_cases hlt : k < l.length
    · rcases ha with ⟨rfl, -⟩ | ⟨g, off, c, e1, ha⟩
      · simp at hlt
      rcases hb with ⟨rfl, -⟩ | ⟨g2, off2, c2, e2, hb⟩
      · simp at hlt
      cases e1
      cases e2
      obtain ⟨a1, a2⟩ := ha k hlt
      obtain ⟨b1, b2⟩ := hb k hlt
      have c1 := (hB.cell (p := ⟨g, off + k * 2, none⟩) (cell_lt a1)).trans a1
      have c2 := (hB.cell (p := ⟨g, off + k * 2 + 1, none⟩) (cell_lt a2)).trans a2
      have d1 := (hB.cell (p := ⟨g2, off2 + k * 2, none⟩) (cell_lt b1)).trans b1
      have d2 := (hB.cell (p := ⟨g2, off2 + k * 2 + 1, none⟩) (cell_lt b2)).trans b2
      have i1 : (k : Int) < (l.length : Int) := by omega
      have i2 : (0 : Int) ≤ (k : Int) := by omega
      go_upto_region 6 with fail
      go_quiet (fail)
      go_wp2
      exact ⟨⟨k + 1, by omega, by go_num, hB.trans (below_drewN _ _ _)⟩, by simp [intOf]; omega⟩
    · obtain rfl : k = l.length := by omega
      go_wp2
      go_ret
      exact ⟨rfl, hB⟩

theorem refsN_take (l : List Pt) (k : Nat) (h : k < l.length) (n : Int) : refsN (l.take (k + 1)) n = max (refsN (l.take k) n) l[k].g := by
  induction l generalizing k n with
  | nil => simp at h
  | cons p r ih =>
    cases k with
    | zero => simp [refsN]
    | succ k =>
      simp only [List.take_succ_cons, refsN, List.getElem_cons_succ]
      exact ih k (by simpa using h) _

set_option maxRecDepth 100000 in
set_option maxHeartbeats 1000000 in
theorem refs_any (a : Value) (l : List Pt) (w : World) (ha : PRow w a l) (hl : l.length ≤ 4611686018427387904) :
    Calls Try.prog 15 #[a] w fun e w' => e = .returned (.int .i64 (refsN l 0)) ∧ Below w.heap.size w w' := by
  obtain ⟨pa, ca, rfl⟩ := ha.shape
  go_enter Try.func15, Try.ntmps15
  go_wp2_with fail
  go_loopw [3, 8] (fun n i wr => ∃ k : Nat, k ≤ l.length ∧ i = .int .i64 k ∧ n = .int .i64 (refsN (l.take k) 0) ∧ Below w.heap.size w wr) (fun _ i _ => l.length - (intOf i).toNat)
  case atStart => exact ⟨0, by omega, rfl, rfl, Below.refl _ _⟩
  case round =>
    obtain ⟨k, hk, rfl, rfl, hB⟩ := hrel
    by_cases hlt : k < l.length
    · rcases ha with ⟨rfl, -⟩ | ⟨g, off, c, e1, ha⟩
      · simp at hlt
      cases e1
      obtain ⟨a1, a2⟩ := ha k hlt
      have c1 := (hB.cell (p := ⟨g, off + k * 2, none⟩) (cell_lt a1)).trans a1
      have c2 := (hB.cell (p := ⟨g, off + k * 2 + 1, none⟩) (cell_lt a2)).trans a2
      have i1 : (k : Int) < (l.length : Int) := by omega
      have i2 : (0 : Int) ≤ (k : Int) := by omega
      have HR := hideT (refsN_take l k hlt 0)
      have HB := hideT ((hB.alloc hB.size (.cells #[.int .i64 l[k].g, .string l[k].t] 48)))
      go_wp2
      exact ⟨⟨k + 1, by omega, by go_num, by rw [HR.out, Int.max_def]; split <;> split <;> first | rfl | (congr 1; omega), HB.out⟩, by simp [intOf]; omega⟩
    · obtain rfl : k = l.length := by omega
      rw [List.take_length]
      go_wp2
      go_ret
      exact ⟨rfl, hB⟩

set_option maxRecDepth 100000 in
set_option maxHeartbeats 1000000 in
theorem docRefs_any (a : Value) (l : List Pt) (w : World) (ha : PRow w a l) (hl : l.length ≤ 4611686018427387904) :
    Calls Try.prog 16 #[a] w fun e w' => e = .returned (.int .i64 (refsN l 0)) ∧ Below w.heap.size w w' := by
  obtain ⟨pa, ca, rfl⟩ := ha.shape
  go_enter Try.func16, Try.ntmps16
  go_wp2_with fail
  go_loopw [3, 4] (fun n i wr => ∃ k : Nat, k ≤ l.length ∧ i = .int .i64 k ∧ n = .int .i64 (refsN (l.take k) 0) ∧ Below w.heap.size w wr) (fun _ i _ => l.length - (intOf i).toNat)
  case atStart => exact ⟨0, by omega, rfl, rfl, Below.refl _ _⟩
  case round =>
    obtain ⟨k, hk, rfl, rfl, hB⟩ := hrel
    by_cases hlt : k < l.length
    · rcases ha with ⟨rfl, -⟩ | ⟨g, off, c, e1, ha⟩
      · simp at hlt
      cases e1
      obtain ⟨a1, a2⟩ := ha k hlt
      have c1 := (hB.cell (p := ⟨g, off + k * 2, none⟩) (cell_lt a1)).trans a1
      have i1 : (k : Int) < (l.length : Int) := by omega
      have i2 : (0 : Int) ≤ (k : Int) := by omega
      have HR := hideT (refsN_take l k hlt 0)
      generalize refsN (l.take k) 0 = n at *
      by_cases hn : n < l[k].g
      · go_wp2
        exact ⟨⟨k + 1, by omega, by go_num, by rw [HR.out, Int.max_eq_right (by omega)], hB⟩, by simp [intOf]; omega⟩
      · go_wp2
        exact ⟨⟨k + 1, by omega, by go_num, by rw [HR.out, Int.max_eq_left (by omega)], hB⟩, by simp [intOf]; omega⟩
    · obtain rfl : k = l.length := by omega
      rw [List.take_length]
      go_wp2
      go_ret
      exact ⟨rfl, hB⟩

end Go.Proofs.Ytbncokfpkkmoiaa
