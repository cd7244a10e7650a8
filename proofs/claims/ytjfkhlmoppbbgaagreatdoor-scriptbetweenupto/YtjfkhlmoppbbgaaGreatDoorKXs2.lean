/- Arguments that are lists of bytes. -/
import Derived.Test.YtjfkhlmoppbbgaaGreatDoorKXr2
import Derived.Test.YtjfkhlmoppbbgaaGreatDoorRows
import Derived.SliceStrings
import Derived.Carry
import Derived.ChangeOld
import Derived.ProofKit
import Derived.OpenShut
import Derived.Deep.Slices
namespace Go.Proofs.YtjfkhlmoppbbgaaGreatDoor
open Go.ChangeShapes Go.WideShapes Go.RowKit

theorem spot_none {W : World} {a : Addr} {v : Value} (h : W.cell? (a.add 0) = some v) : a.spot = none := by
  obtain ⟨g, off, sp⟩ := a
  cases sp with
  | none => rfl
  | some x =>
    simp [Addr.add, World.cell?] at h
    split at h <;> simp_all
theorem bytes_bulk {H : Type} (n : Nat) (D : Nat → DataW H) (h : ∀ i, i < n → ∃ x, D i = .lit (.int .u8 x)) : ∀ m, m ≤ n → Rows.uptoBulkAll ((List.range m).map D) = m := by
  intro m
  induction m with
  | zero => intro _; rfl
  | succ m ih =>
    intro hm
    obtain ⟨x, hx⟩ := h m (by omega)
    have happ : ∀ (a b : List (DataW H)), Rows.uptoBulkAll (a ++ b) = Rows.uptoBulkAll a + Rows.uptoBulkAll b := by
      intro a b
      induction a with
      | nil => simp [Rows.uptoBulkAll]
      | cons y r ih2 => simp only [List.cons_append, Rows.uptoBulkAll, ih2]; omega
    rw [List.range_succ, List.map_append, happ, ih (by omega)]
    simp [Rows.uptoBulkAll, Rows.uptoBulk, hx]
set_option maxRecDepth 100000 in
theorem open_bytes {H : Type} {enc : TypeId × Value → H} {W : World} {b0 base : Nat} {spare : Nat → Bool} {held : Bool} {v : Value} {d : DataW H} {p : List MemPlace} (hv : Value.okWide Tryz.prog W .any b0 35 v) (h : DataW.Trod enc Tryz.prog W base spare held 35 v d p) :
    ∃ l : List UInt8, BRow W v l ∧ l.length ≤ Rows.uptoBulk d := by
  obtain ⟨a0, len, cap, rfl⟩ := okWide_slice Tryz.underlying35 hv
  obtain ⟨fuel, hf⟩ := h
  rcases Deep.open_slice Tryz.underlying35 hf with ⟨hcs, hx⟩ | ⟨a, len', cap', m, n, D, Pl, hcs, _, hl, hm, hz, hx, hcell⟩
  · simp only [Value.cells, List.cons.injEq, Value.slice.injEq, and_true] at hcs
    obtain ⟨rfl, rfl, rfl⟩ := hcs
    exact ⟨[], ⟨none, 0, rfl, fun k x hk => by simp at hk⟩, Nat.zero_le _⟩
  · simp only [Value.cells, List.cons.injEq, Value.slice.injEq, and_true] at hcs
    obtain ⟨rfl, rfl, rfl⟩ := hcs
    simp only [Prod.mk.injEq] at hx
    have hle : len ≤ m := by rw [hz]; split <;> omega
    have each : ∀ i, i < len → ∃ q : UInt8, W.cell? (a.add i) = some (.int .u8 (q.toNat : Nat)) ∧ D i = .lit (.int .u8 (q.toNat : Nat)) := by
      intro i hi
      obtain ⟨cs', h1, h2⟩ := hcell i (by omega)
      obtain ⟨x, e1, e2, e3⟩ := DataW.trod_int Tryz.underlying5 h2
      subst e1
      obtain ⟨_, _, hc⟩ := World.cells?_some h1
      have hc0 := hc 0 (by rw [show Tryz.prog.cellsOf 5 = 1 by kernel_rfl]; omega)
      have hb := bounds_u8 e3
      obtain ⟨q, rfl⟩ : ∃ q : UInt8, x = ((q.toNat : Nat) : Int) := ⟨x.toNat.toUInt8, by rw [UInt8.toNat_ofNat']; omega⟩
      simp only [Prod.mk.injEq] at e2
      rw [show Tryz.prog.cellsOf 5 = 1 by kernel_rfl, Nat.mul_one, Deep.add_add, Nat.add_zero] at hc0
      exact ⟨q, by simpa using hc0, e2.1⟩
    haveI : Inhabited UInt8 := ⟨0⟩
    obtain ⟨q, hq⟩ := Deep.choose_lt each
    refine ⟨(List.range len).map q, ⟨some a, cap, by simp, fun k x hk => ?_⟩, ?_⟩
    · have hk1 : k < len := by
        have := (List.getElem?_eq_some_iff.1 hk).1
        simpa using this
      rw [List.getElem?_map, List.getElem?_range hk1] at hk
      obtain rfl : q k = x := by simpa using hk
      have h1 := (hq k hk1).1
      have h0 := (hq 0 (by omega)).1
      obtain ⟨g, off, sp⟩ := a
      obtain rfl : sp = none := spot_none h0
      refine ⟨g, off, rfl, ?_⟩
      have hplain : (⟨g, off, none⟩ : Addr).add k = ⟨g, off + k, none⟩ := by unfold Addr.add; split <;> simp_all
      rw [hplain] at h1
      exact h1
    · rw [hx.1]
      have := bytes_bulk (H := H) len D (fun i hi => ⟨_, (hq i hi).2⟩) len (Nat.le_refl _)
      simp only [Rows.uptoBulk, this, List.length_map, List.length_range]
      omega
end Go.Proofs.YtjfkhlmoppbbgaaGreatDoor
