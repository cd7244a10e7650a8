/- listing: Escape. -/
import Derived.Test.YtiegmgcdfafhiaaDoorHa
namespace Go.Proofs.YtiegmgcdfafhiaaDoor
open Go.RowKit

theorem strCells_list (l : List UInt8) : (Lib.byteCells l).length = l.length := by simp [Lib.byteCells]
/-- A new row of bytes as a string. -/
theorem conv_new (W : World) (l : List UInt8) (cap : Nat) : (convert 42 9 (.slice (some ⟨W.heap.size, 0, none⟩) l.length cap)).run Tryd.prog (W.alloc (.cells (Lib.byteCells l).toArray 5)) = .ok (.string (bst l)) (W.alloc (.cells (Lib.byteCells l).toArray 5)) := by
  have hc : ∀ i, i < l.length → (W.alloc (.cells (Lib.byteCells l).toArray 5)).cell? ⟨W.heap.size, 0 + i, none⟩ = some (.int .u8 ((l.map fun (b : UInt8) => (b.toNat : Int)).getD i 0)) := by
    intro i hi
    rw [Nat.zero_add, new_cell W _ 5 i (.int .u8 ((l[i]).toNat : Nat)) (by simp [Lib.byteCells, hi])]
    simp [List.getD_eq_getElem?_getD, List.getElem?_eq_getElem hi]
  have h3 := run_convert_bytes_arg (P := Tryd.prog) (W.alloc (.cells (Lib.byteCells l).toArray 5)) 42 5 Tryd.underlying42 Tryd.underlying5 W.heap.size 0 l.length cap (l.map fun (b : UInt8) => (b.toNat : Int)) (by simp) hc 9 Tryd.underlying9
  rw [h3]
  have e : (l.map fun (b : UInt8) => (b.toNat : Int)).map (fun n => UInt8.ofNat n.toNat) = l := by
    rw [List.map_map]
    exact (List.map_congr_left (g := id) (fun b _ => by simp)).trans (List.map_id l)
  simp only [strOfNums, e, bst]

theorem esc_bs (c : UInt8) (h : c.toNat = 92) : escB c = [92, 92] := by unfold escB; rw [if_pos h]
theorem esc_let (c : UInt8) (h : 7 ≤ c.toNat ∧ c.toNat ≤ 13) : escB c = [92, ([97, 98, 116, 110, 118, 102, 114] : List UInt8).getD (c.toNat - 7) 0] := by unfold escB; rw [if_neg (by omega), if_pos h]
theorem esc_pl (c : UInt8) (h : 32 ≤ c.toNat ∧ c.toNat ≤ 126) (h2 : c.toNat ≠ 92) : escB c = [c] := by unfold escB; rw [if_neg h2, if_neg (by omega), if_pos h]
theorem esc_oct (c : UInt8) (h1 : c.toNat ≠ 92) (h2 : ¬ (7 ≤ c.toNat ∧ c.toNat ≤ 13)) (h3 : ¬ (32 ≤ c.toNat ∧ c.toNat ≤ 126)) : escB c = [92, UInt8.ofNat (48 + c.toNat / 64), UInt8.ofNat (48 + c.toNat / 8 % 8), UInt8.ofNat (48 + c.toNat % 8)] := by unfold escB; rw [if_neg h1, if_neg h2, if_neg h3]
theorem oct_val (c : UInt8) : (UInt8.ofNat (48 + c.toNat / 64)).toNat = 48 + c.toNat / 64 ∧ (UInt8.ofNat (48 + c.toNat / 8 % 8)).toNat = 48 + c.toNat / 8 % 8 ∧ (UInt8.ofNat (48 + c.toNat % 8)).toNat = 48 + c.toNat % 8 := by
  have := c.toNat_lt
  refine ⟨?_, ?_, ?_⟩ <;> (rw [UInt8.toNat_ofNat', Nat.mod_eq_of_lt]; omega)

set_option maxRecDepth 100000 in
set_option maxHeartbeats 2000000 in
theorem escape_any (c : UInt8) (w : World) : Calls Tryd.prog 11 #[.int .u8 (c.toNat : Nat)] w fun e w' => e = .returned (.string (bst (escB c))) ∧ Below w.heap.size w w' := by
  have hcl := c.toNat_lt
  by_cases h1 : c.toNat = 92
  · rw [esc_bs c h1]
    have e1 : ((c.toNat : Int) == 92) = true := by rw [beq_iff_eq]; omega
    go_enter Tryd.func11, Tryd.ntmps11
    go_wp2
    go_ret
    exact ⟨rfl, Below.refl _ _⟩
  have e1 : ((c.toNat : Int) == 92) = false := by rw [beq_eq_false_iff_ne]; omega
  by_cases h2 : 7 ≤ c.toNat ∧ c.toNat ≤ 13
  · rw [esc_let c h2]
    have i1 : (7 : Int) ≤ (c.toNat : Int) := by omega
    have i2 : (c.toNat : Int) < 14 := by omega
    have i3 : IntKind.u8.wrap ((c.toNat : Int) - 7) = ((c.toNat - 7 : Nat) : Int) := by rw [IntKind.wrap_u8]; omega
    have i4 : (0 : Int) ≤ ((c.toNat - 7 : Nat) : Int) := by omega
    have i5 : ((c.toNat - 7 : Nat) : Int) < 7 := by omega
    have hlt : c.toNat - 7 < (⟨#[97, 98, 116, 110, 118, 102, 114]⟩ : ByteArray).size := by show _ < 7; omega
    have hd : (⟨#[97, 98, 116, 110, 118, 102, 114]⟩ : ByteArray)[c.toNat - 7]'hlt = ([97, 98, 116, 110, 118, 102, 114] : List UInt8).getD (c.toNat - 7) 0 := by
      rw [List.getD_eq_getElem?_getD, List.getElem?_eq_getElem (by exact hlt)]
      rfl
    obtain ⟨d, hd2⟩ : ∃ d, d = ([97, 98, 116, 110, 118, 102, 114] : List UInt8).getD (c.toNat - 7) 0 := ⟨_, rfl⟩
    rw [← hd2] at hd ⊢
    have hcv := conv_new w [92, d] 2
    have HB := hideT ((Below.refl w.heap.size w).alloc (Nat.le_refl _) (.cells (Lib.byteCells [92, d]).toArray 5))
    simp only [Lib.byteCells, List.map_cons, List.map_nil, List.length_cons, List.length_nil, Nat.zero_add, Nat.reduceAdd, UInt8.reduceToNat, Int.cast_ofNat_Int] at hcv HB
    obtain ⟨bl, hbl⟩ : ∃ bl, bl = bst [92, d] := ⟨_, rfl⟩
    rw [← hbl] at hcv ⊢
    clear hbl hd2
    go_enter Tryd.func11, Tryd.ntmps11
    go_wp2
    go_ret
    exact ⟨rfl, HB.out⟩
  by_cases h3 : 32 ≤ c.toNat ∧ c.toNat ≤ 126
  · rw [esc_pl c h3 h1]
    have i1 : (32 : Int) ≤ (c.toNat : Int) := by omega
    have i2 : (c.toNat : Int) ≤ 126 := by omega
    have d1 : decide ((c.toNat : Int) < 14) = false := decide_eq_false (by omega)
    have i3 : (7 : Int) ≤ (c.toNat : Int) := by omega
    have hcv := conv_new w [c] 1
    have HB := hideT ((Below.refl w.heap.size w).alloc (Nat.le_refl _) (.cells (Lib.byteCells [c]).toArray 5))
    simp only [Lib.byteCells, List.map_cons, List.map_nil, List.length_singleton] at hcv HB
    obtain ⟨bl, hbl⟩ : ∃ bl, bl = bst [c] := ⟨_, rfl⟩
    rw [← hbl] at hcv ⊢
    clear hbl
    go_enter Tryd.func11, Tryd.ntmps11
    go_wp2
    go_ret
    exact ⟨rfl, HB.out⟩
  · rw [esc_oct c h1 h2 h3]
    obtain ⟨o1, o2, o3⟩ := oct_val c
    have hcv := conv_new w [92, UInt8.ofNat (48 + c.toNat / 64), UInt8.ofNat (48 + c.toNat / 8 % 8), UInt8.ofNat (48 + c.toNat % 8)] 4
    have HB := hideT ((Below.refl w.heap.size w).alloc (Nat.le_refl _) (.cells (Lib.byteCells [92, UInt8.ofNat (48 + c.toNat / 64), UInt8.ofNat (48 + c.toNat / 8 % 8), UInt8.ofNat (48 + c.toNat % 8)]).toArray 5))
    simp only [Lib.byteCells, List.map_cons, List.map_nil, List.length_cons, List.length_nil, Nat.zero_add, Nat.reduceAdd, UInt8.reduceToNat, Int.cast_ofNat_Int, o1, o2, o3, Int.natCast_add, Int.natCast_ediv, Int.natCast_emod] at hcv HB
    obtain ⟨bl, hbl⟩ : ∃ bl, bl = bst [92, UInt8.ofNat (48 + c.toNat / 64), UInt8.ofNat (48 + c.toNat / 8 % 8), UInt8.ofNat (48 + c.toNat % 8)] := ⟨_, rfl⟩
    rw [← hbl] at hcv ⊢
    clear hbl o1 o2 o3
    rcases Nat.lt_or_ge c.toNat 7 with g | g
    · have d1 : decide ((7 : Int) ≤ (c.toNat : Int)) = false := decide_eq_false (by omega)
      have d2 : decide ((32 : Int) ≤ (c.toNat : Int)) = false := decide_eq_false (by omega)
      go_enter Tryd.func11, Tryd.ntmps11
      go_wp2
      go_ret
      exact ⟨rfl, HB.out⟩
    have g1 : (7 : Int) ≤ (c.toNat : Int) := by omega
    have d3 : decide ((c.toNat : Int) < 14) = false := decide_eq_false (by omega)
    rcases Nat.lt_or_ge c.toNat 32 with g2 | g2
    · have d2 : decide ((32 : Int) ≤ (c.toNat : Int)) = false := decide_eq_false (by omega)
      go_enter Tryd.func11, Tryd.ntmps11
      go_wp2
      go_ret
      exact ⟨rfl, HB.out⟩
    · have d2 : (32 : Int) ≤ (c.toNat : Int) := by omega
      have d4 : decide ((c.toNat : Int) ≤ 126) = false := decide_eq_false (by omega)
      go_enter Tryd.func11, Tryd.ntmps11
      go_wp2
      go_ret
      exact ⟨rfl, HB.out⟩

end Go.Proofs.YtiegmgcdfafhiaaDoor
