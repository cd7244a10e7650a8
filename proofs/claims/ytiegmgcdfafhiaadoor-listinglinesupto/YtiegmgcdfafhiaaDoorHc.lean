/- listing: the document's Escape. -/
import Derived.Test.YtiegmgcdfafhiaaDoorHb
namespace Go.Proofs.YtiegmgcdfafhiaaDoor
open Go.RowKit

set_option maxRecDepth 100000 in
set_option maxHeartbeats 2000000 in
theorem docEscape_any (c : UInt8) (w : World) : Calls Tryd.prog 12 #[.int .u8 (c.toNat : Nat)] w fun e w' => e = .returned (.string (bst (escB c))) ∧ Below w.heap.size w w' := by
  have hcl := c.toNat_lt
  by_cases h1 : c.toNat = 92
  · rw [esc_bs c h1]
    have e1 : ((c.toNat : Int) == 92) = true := by rw [beq_iff_eq]; omega
    go_enter Tryd.func12, Tryd.ntmps12
    go_wp2
    go_ret
    exact ⟨rfl, Below.refl _ _⟩
  have e1 : ((c.toNat : Int) == 92) = false := by rw [beq_eq_false_iff_ne]; omega
  by_cases h2 : 7 ≤ c.toNat ∧ c.toNat ≤ 13
  · rw [esc_let c h2]
    have i1 : (7 : Int) ≤ (c.toNat : Int) := by omega
    have i2 : (c.toNat : Int) ≤ 13 := by omega
    have i3 : IntKind.u8.wrap ((c.toNat : Int) - 7) = ((c.toNat - 7 : Nat) : Int) := by rw [IntKind.wrap_u8]; omega
    have i4 : (0 : Int) ≤ ((c.toNat - 7 : Nat) : Int) := by omega
    have i5 : ((c.toNat - 7 : Nat) : Int) < 7 := by omega
    have hlt : c.toNat - 7 < (⟨#[97, 98, 116, 110, 118, 102, 114]⟩ : ByteArray).size := by show _ < 7; omega
    have hd : (⟨#[97, 98, 116, 110, 118, 102, 114]⟩ : ByteArray)[c.toNat - 7]'hlt = ([97, 98, 116, 110, 118, 102, 114] : List UInt8).getD (c.toNat - 7) 0 := by
      rw [List.getD_eq_getElem?_getD, List.getElem?_eq_getElem (by exact hlt)]
      rfl
    have hx := ext_one (⟨#[97, 98, 116, 110, 118, 102, 114]⟩ : ByteArray) (c.toNat - 7) hlt
    rw [hd, show c.toNat - 7 + 1 = c.toNat - 6 by omega] at hx
    obtain ⟨d, hd2⟩ : ∃ d, d = ([97, 98, 116, 110, 118, 102, 114] : List UInt8).getD (c.toNat - 7) 0 := ⟨_, rfl⟩
    rw [← hd2] at hx ⊢
    have hcat : (⟨#[92]⟩ : ByteArray) ++ bst [d] = bst [92, d] := bst_app [92] [d]
    have q1 : (9223372036854775807 < 1 + (bst [d]).size) = False := by rw [bst_size]; simp
    generalize bst [d] = b1 at *
    generalize bst [92, d] = bl at *
    have i6 : IntKind.u8.wrap ((c.toNat : Int) - 6) = ((c.toNat - 6 : Nat) : Int) := by rw [IntKind.wrap_u8]; omega
    have i7 : ((c.toNat - 7 : Nat) : Int) ≤ ((c.toNat - 6 : Nat) : Int) := by omega
    have i8 : ((c.toNat - 6 : Nat) : Int) ≤ 7 := by omega
    have i9 : (0 : Int) ≤ ((c.toNat - 6 : Nat) : Int) := by omega
    clear hd hd2
    go_enter Tryd.func12, Tryd.ntmps12
    go_wp2
    go_ret
    exact ⟨rfl, Below.refl _ _⟩
  by_cases h3 : 32 ≤ c.toNat ∧ c.toNat ≤ 126
  · rw [esc_pl c h3 h1]
    have i1 : (32 : Int) ≤ (c.toNat : Int) := by omega
    have i2 : (c.toNat : Int) ≤ 126 := by omega
    have d1 : decide ((c.toNat : Int) ≤ 13) = false := decide_eq_false (by omega)
    have i3 : (7 : Int) ≤ (c.toNat : Int) := by omega
    have hcv := conv_new w [c] 1
    have HB := hideT ((Below.refl w.heap.size w).alloc (Nat.le_refl _) (.cells (Lib.byteCells [c]).toArray 5))
    simp only [Lib.byteCells, List.map_cons, List.map_nil, List.length_singleton] at hcv HB
    obtain ⟨bl, hbl⟩ : ∃ bl, bl = bst [c] := ⟨_, rfl⟩
    rw [← hbl] at hcv ⊢
    clear hbl
    go_enter Tryd.func12, Tryd.ntmps12
    go_wp2
    go_ret
    exact ⟨rfl, HB.out⟩
  · rw [esc_oct c h1 h2 h3]
    obtain ⟨o1, o2, o3⟩ := oct_val c
    have hcv := conv_new w [92, UInt8.ofNat (48 + c.toNat / 64), UInt8.ofNat (48 + c.toNat / 8 % 8), UInt8.ofNat (48 + c.toNat % 8)] 4
    have HB := hideT ((Below.refl w.heap.size w).alloc (Nat.le_refl _) (.cells (Lib.byteCells [92, UInt8.ofNat (48 + c.toNat / 64), UInt8.ofNat (48 + c.toNat / 8 % 8), UInt8.ofNat (48 + c.toNat % 8)]).toArray 5))
    simp only [Lib.byteCells, List.map_cons, List.map_nil, List.length_cons, List.length_nil, Nat.zero_add, Nat.reduceAdd, UInt8.reduceToNat, Int.cast_ofNat_Int, o1, o2, o3, Int.natCast_add, Int.natCast_ediv, Int.natCast_emod] at hcv HB
    obtain ⟨bl, hbl⟩ : ∃ bl, bl = bst [92, UInt8.ofNat (48 + c.toNat / 64), UInt8.ofNat (48 + c.toNat / 8 % 8), UInt8.ofNat (48 + c.toNat % 8)] := ⟨_, rfl⟩
    rw [← hbl] at hcv ⊢
    clear hbl o1 o2 o3
    rcases Nat.lt_or_ge c.toNat 7 with g | g
    · have d1 : decide ((7 : Int) ≤ (c.toNat : Int)) = false := decide_eq_false (by omega)
      have d2 : decide ((32 : Int) ≤ (c.toNat : Int)) = false := decide_eq_false (by omega)
      go_enter Tryd.func12, Tryd.ntmps12
      go_wp2
      go_ret
      exact ⟨rfl, HB.out⟩
    have g1 : (7 : Int) ≤ (c.toNat : Int) := by omega
    have d3 : decide ((c.toNat : Int) ≤ 13) = false := decide_eq_false (by omega)
    rcases Nat.lt_or_ge c.toNat 32 with g2 | g2
    · have d2 : decide ((32 : Int) ≤ (c.toNat : Int)) = false := decide_eq_false (by omega)
      go_enter Tryd.func12, Tryd.ntmps12
      go_wp2
      go_ret
      exact ⟨rfl, HB.out⟩
    · have d2 : (32 : Int) ≤ (c.toNat : Int) := by omega
      have d4 : decide ((c.toNat : Int) ≤ 126) = false := decide_eq_false (by omega)
      go_enter Tryd.func12, Tryd.ntmps12
      go_wp2
      go_ret
      exact ⟨rfl, HB.out⟩

end Go.Proofs.YtiegmgcdfafhiaaDoor
