/- ytab: the document's Piece. -/
import Derived.Test.YtgcjjfidcadlgaaYb
namespace Go.Proofs.Ytgcjjfidcadlgaa
open Go.RowKit

set_option maxRecDepth 100000 in
set_option maxHeartbeats 2000000 in
theorem docPiece_any (s : ByteArray) (hs : s.size ≤ 140737488355000) (w : World) :
    Calls Try.prog 8 #[.string s] w fun e w' => e = .returned (.tuple #[.string (bst (pieceR s.data.toList).1), .int .i64 ((pieceR s.data.toList).2.1 : Nat), .int .i64 ((pieceR s.data.toList).2.2 : Nat)]) ∧ Below w.heap.size w w' := by
  have hlen : s.data.toList.length = s.size := rfl
  obtain ⟨i0, hi, hz0, hz1, hz2⟩ := info_parts info5
  unfold pieceR
  generalize hR : pcR s.data.toList 0 [] = R
  have HR := hideT hR
  clear hR
  go_enter Try.func8, Try.ntmps8
  go_wp2_with fail
  go_loopw [5, 6] (fun v i wr => ∃ (k : Nat) (l : List UInt8), k ≤ s.size ∧ i = .int .i64 k ∧ wr.ownsRow w.heap.size 5 1 v l.length (Lib.byteCells l) ∧ Below w.heap.size w wr ∧ pcR (s.data.toList.drop k) k l = pcR s.data.toList 0 [] ∧ l.length ≤ k) (fun _ i _ => s.size - (intOf i).toNat)
  case atStart => exact ⟨0, [], by omega, rfl, World.ownsRow_nil _ _ _ _, Below.refl _ _, by simp, by simp⟩
  case round =>
    obtain ⟨k, l, hk, rfl, hO, hB, hrun, hl⟩ := hrel
    have HO := hideT (And.intro hO hB)
    obtain ⟨va, vc, rfl⟩ := owns_shape hO
    obtain ⟨v, hv⟩ : ∃ v, v = Value.slice va l.length vc := ⟨_, rfl⟩
    rw [← hv] at HO
    clear hO hB
    by_cases hlt : k < s.size
    · have i1 : (k : Int) < (s.size : Int) := by omega
      have i2 : (0 : Int) ≤ (k : Int) := by omega
      have hbl := (s[k]'hlt).toNat_lt
      rw [drop_at s k hlt] at hrun
      by_cases h1 : (s[k]'hlt).toNat = 92
      · have e1 : (((s[k]'hlt).toNat : Int) == 92) = true := by rw [beq_iff_eq]; omega
        by_cases h2 : k + 1 = s.size
        · rw [show s.data.toList.drop (k + 1) = [] by rw [List.drop_eq_nil_iff, hlen]; omega, pc_end _ _ _ h1] at hrun
          have e2 : ((k : Int) + 1 == (s.size : Int)) = true := by rw [beq_iff_eq]; omega
          obtain rfl := hrun.trans HR.out
          clear HR
          go_wp2
          go_ret3
          exact ⟨rfl, HO.out.2⟩
        · have hlt2 : k + 1 < s.size := by omega
          have e2 : ((k : Int) + 1 == (s.size : Int)) = false := by rw [beq_eq_false_iff_ne]; omega
          have i5 : (k : Int) + 1 < (s.size : Int) := by omega
          have i6 : (0 : Int) ≤ (k : Int) + 1 := by omega
          rw [drop_at s (k + 1) hlt2] at hrun
          have hcl := (s[k + 1]'hlt2).toNat_lt
          by_cases h3 : (s[k + 1]'hlt2).toNat = 110
          · rw [pc_n _ _ _ _ _ h1 h3] at hrun
            have e3 : (((s[k + 1]'hlt2).toNat : Int) == 110) = true := by rw [beq_iff_eq]; omega
            have HU := hideT hrun
            clear hrun
            subst hv
            have HA := hideT ((Below.refl wr.heap.size wr).alloc (Nat.le_refl _) (.cells #[.int .u8 (10)] 5))
            have HN := hideT (new_cells wr [.int .u8 (10)] 5)
            go_wp2_with (at_builtin; refine wpList_append_lies _ rfl _ _ 42 rfl w.heap.size 5 i0 _ 1 1 undB hi hz0 hz1 hz2 rfl (by omega) (Value.slice va l.length vc) l.length (Lib.byteCells l) rfl (owns_below HO.out.1 HA.out) ⟨wr.heap.size, 0, none⟩ 1 1 [.int .u8 (10)] rfl rfl (fun j u hj => HN.out j u hj) (by simp [Value.oneCell']) (by omega) (by unfold maxLen; omega) (by omega) (by have := HO.out.2.size; simp; omega) _ rfl ?_)
            intro g gc w2 hown' hgrow hat hglt
            have HF := hideT (And.intro hown' ((HO.out.2.trans (HA.out.mono HO.out.2.size)).grown hgrow (by have := HO.out.2.size; have := HA.out.size; omega) (fun k hk => (HO.out.1.lt k hk).1)))
            clear hown' hgrow hat hglt
            go_wp2
            refine ⟨⟨k + 2, l ++ [10], by omega, by go_num, ?_, HF.out.2, HU.out, by simp; omega⟩, by simp [intOf]; omega⟩
            rw [cells_app, List.length_append]
            exact HF.out.1
          · have e3 : (((s[k + 1]'hlt2).toNat : Int) == 110) = false := by rw [beq_eq_false_iff_ne]; omega
            rcases Nat.lt_or_ge (s[k + 1]'hlt2).toNat 48 with g1 | g1
            · have d1 : decide ((48 : Int) ≤ ((s[k + 1]'hlt2).toNat : Int)) = false := decide_eq_false (by omega)
              have d2 : decide ((97 : Int) ≤ ((s[k + 1]'hlt2).toNat : Int)) = false := decide_eq_false (by omega)
              have d3 : decide ((65 : Int) ≤ ((s[k + 1]'hlt2).toNat : Int)) = false := decide_eq_false (by omega)
              rw [pc_esc _ _ _ _ _ h1 h3 (by unfold alnB; omega)] at hrun
              have HU := hideT hrun
              clear hrun
              subst hv
              have HA := hideT ((Below.refl wr.heap.size wr).alloc (Nat.le_refl _) (.cells #[.int .u8 (((s[k + 1]'hlt2).toNat : Nat))] 5))
              have HN := hideT (new_cells wr [.int .u8 (((s[k + 1]'hlt2).toNat : Nat))] 5)
              go_wp2_with (at_builtin; refine wpList_append_lies _ rfl _ _ 42 rfl w.heap.size 5 i0 _ 1 1 undB hi hz0 hz1 hz2 rfl (by omega) (Value.slice va l.length vc) l.length (Lib.byteCells l) rfl (owns_below HO.out.1 HA.out) ⟨wr.heap.size, 0, none⟩ 1 1 [.int .u8 (((s[k + 1]'hlt2).toNat : Nat))] rfl rfl (fun j u hj => HN.out j u hj) (by simp [Value.oneCell']) (by omega) (by unfold maxLen; omega) (by omega) (by have := HO.out.2.size; simp; omega) _ rfl ?_)
              intro g gc w2 hown' hgrow hat hglt
              have HF := hideT (And.intro hown' ((HO.out.2.trans (HA.out.mono HO.out.2.size)).grown hgrow (by have := HO.out.2.size; have := HA.out.size; omega) (fun k hk => (HO.out.1.lt k hk).1)))
              clear hown' hgrow hat hglt
              go_wp2
              refine ⟨⟨k + 2, l ++ [s[k + 1]'hlt2], by omega, by go_num, ?_, HF.out.2, HU.out, by simp; omega⟩, by simp [intOf]; omega⟩
              rw [cells_app, List.length_append]
              exact HF.out.1
            have f1 : (48 : Int) ≤ ((s[k + 1]'hlt2).toNat : Int) := by omega
            rcases Nat.lt_or_ge 57 (s[k + 1]'hlt2).toNat with g2 | g2
            rotate_left
            · have f2 : ((s[k + 1]'hlt2).toNat : Int) ≤ 57 := by omega
              rw [pc_bad _ _ _ _ _ h1 h3 (by unfold alnB; omega)] at hrun
              obtain rfl := hrun.trans HR.out
              clear HR
              go_wp2
              go_ret3
              exact ⟨rfl, HO.out.2⟩
            have d2 : decide (((s[k + 1]'hlt2).toNat : Int) ≤ 57) = false := decide_eq_false (by omega)
            rcases Nat.lt_or_ge (s[k + 1]'hlt2).toNat 65 with g3 | g3
            · have d3 : decide ((97 : Int) ≤ ((s[k + 1]'hlt2).toNat : Int)) = false := decide_eq_false (by omega)
              have d4 : decide ((65 : Int) ≤ ((s[k + 1]'hlt2).toNat : Int)) = false := decide_eq_false (by omega)
              rw [pc_esc _ _ _ _ _ h1 h3 (by unfold alnB; omega)] at hrun
              have HU := hideT hrun
              clear hrun
              subst hv
              have HA := hideT ((Below.refl wr.heap.size wr).alloc (Nat.le_refl _) (.cells #[.int .u8 (((s[k + 1]'hlt2).toNat : Nat))] 5))
              have HN := hideT (new_cells wr [.int .u8 (((s[k + 1]'hlt2).toNat : Nat))] 5)
              go_wp2_with (at_builtin; refine wpList_append_lies _ rfl _ _ 42 rfl w.heap.size 5 i0 _ 1 1 undB hi hz0 hz1 hz2 rfl (by omega) (Value.slice va l.length vc) l.length (Lib.byteCells l) rfl (owns_below HO.out.1 HA.out) ⟨wr.heap.size, 0, none⟩ 1 1 [.int .u8 (((s[k + 1]'hlt2).toNat : Nat))] rfl rfl (fun j u hj => HN.out j u hj) (by simp [Value.oneCell']) (by omega) (by unfold maxLen; omega) (by omega) (by have := HO.out.2.size; simp; omega) _ rfl ?_)
              intro g gc w2 hown' hgrow hat hglt
              have HF := hideT (And.intro hown' ((HO.out.2.trans (HA.out.mono HO.out.2.size)).grown hgrow (by have := HO.out.2.size; have := HA.out.size; omega) (fun k hk => (HO.out.1.lt k hk).1)))
              clear hown' hgrow hat hglt
              go_wp2
              refine ⟨⟨k + 2, l ++ [s[k + 1]'hlt2], by omega, by go_num, ?_, HF.out.2, HU.out, by simp; omega⟩, by simp [intOf]; omega⟩
              rw [cells_app, List.length_append]
              exact HF.out.1
            have f3 : (65 : Int) ≤ ((s[k + 1]'hlt2).toNat : Int) := by omega
            rcases Nat.lt_or_ge 90 (s[k + 1]'hlt2).toNat with g4 | g4
            rotate_left
            · have f4 : ((s[k + 1]'hlt2).toNat : Int) ≤ 90 := by omega
              have d3 : decide ((97 : Int) ≤ ((s[k + 1]'hlt2).toNat : Int)) = false := decide_eq_false (by omega)
              rw [pc_bad _ _ _ _ _ h1 h3 (by unfold alnB; omega)] at hrun
              obtain rfl := hrun.trans HR.out
              clear HR
              go_wp2
              go_ret3
              exact ⟨rfl, HO.out.2⟩
            have d4 : decide (((s[k + 1]'hlt2).toNat : Int) ≤ 90) = false := decide_eq_false (by omega)
            rcases Nat.lt_or_ge (s[k + 1]'hlt2).toNat 97 with g5 | g5
            · have d3 : decide ((97 : Int) ≤ ((s[k + 1]'hlt2).toNat : Int)) = false := decide_eq_false (by omega)
              rw [pc_esc _ _ _ _ _ h1 h3 (by unfold alnB; omega)] at hrun
              have HU := hideT hrun
              clear hrun
              subst hv
              have HA := hideT ((Below.refl wr.heap.size wr).alloc (Nat.le_refl _) (.cells #[.int .u8 (((s[k + 1]'hlt2).toNat : Nat))] 5))
              have HN := hideT (new_cells wr [.int .u8 (((s[k + 1]'hlt2).toNat : Nat))] 5)
              go_wp2_with (at_builtin; refine wpList_append_lies _ rfl _ _ 42 rfl w.heap.size 5 i0 _ 1 1 undB hi hz0 hz1 hz2 rfl (by omega) (Value.slice va l.length vc) l.length (Lib.byteCells l) rfl (owns_below HO.out.1 HA.out) ⟨wr.heap.size, 0, none⟩ 1 1 [.int .u8 (((s[k + 1]'hlt2).toNat : Nat))] rfl rfl (fun j u hj => HN.out j u hj) (by simp [Value.oneCell']) (by omega) (by unfold maxLen; omega) (by omega) (by have := HO.out.2.size; simp; omega) _ rfl ?_)
              intro g gc w2 hown' hgrow hat hglt
              have HF := hideT (And.intro hown' ((HO.out.2.trans (HA.out.mono HO.out.2.size)).grown hgrow (by have := HO.out.2.size; have := HA.out.size; omega) (fun k hk => (HO.out.1.lt k hk).1)))
              clear hown' hgrow hat hglt
              go_wp2
              refine ⟨⟨k + 2, l ++ [s[k + 1]'hlt2], by omega, by go_num, ?_, HF.out.2, HU.out, by simp; omega⟩, by simp [intOf]; omega⟩
              rw [cells_app, List.length_append]
              exact HF.out.1
            have f5 : (97 : Int) ≤ ((s[k + 1]'hlt2).toNat : Int) := by omega
            rcases Nat.lt_or_ge 122 (s[k + 1]'hlt2).toNat with g6 | g6
            rotate_left
            · have f4 : ((s[k + 1]'hlt2).toNat : Int) ≤ 122 := by omega
              rw [pc_bad _ _ _ _ _ h1 h3 (by unfold alnB; omega)] at hrun
              obtain rfl := hrun.trans HR.out
              clear HR
              go_wp2
              go_ret3
              exact ⟨rfl, HO.out.2⟩
            have d6 : decide (((s[k + 1]'hlt2).toNat : Int) ≤ 122) = false := decide_eq_false (by omega)
            rw [pc_esc _ _ _ _ _ h1 h3 (by unfold alnB; omega)] at hrun
            have HU := hideT hrun
            clear hrun
            subst hv
            have HA := hideT ((Below.refl wr.heap.size wr).alloc (Nat.le_refl _) (.cells #[.int .u8 (((s[k + 1]'hlt2).toNat : Nat))] 5))
            have HN := hideT (new_cells wr [.int .u8 (((s[k + 1]'hlt2).toNat : Nat))] 5)
            go_wp2_with (at_builtin; refine wpList_append_lies _ rfl _ _ 42 rfl w.heap.size 5 i0 _ 1 1 undB hi hz0 hz1 hz2 rfl (by omega) (Value.slice va l.length vc) l.length (Lib.byteCells l) rfl (owns_below HO.out.1 HA.out) ⟨wr.heap.size, 0, none⟩ 1 1 [.int .u8 (((s[k + 1]'hlt2).toNat : Nat))] rfl rfl (fun j u hj => HN.out j u hj) (by simp [Value.oneCell']) (by omega) (by unfold maxLen; omega) (by omega) (by have := HO.out.2.size; simp; omega) _ rfl ?_)
            intro g gc w2 hown' hgrow hat hglt
            have HF := hideT (And.intro hown' ((HO.out.2.trans (HA.out.mono HO.out.2.size)).grown hgrow (by have := HO.out.2.size; have := HA.out.size; omega) (fun k hk => (HO.out.1.lt k hk).1)))
            clear hown' hgrow hat hglt
            go_wp2
            refine ⟨⟨k + 2, l ++ [s[k + 1]'hlt2], by omega, by go_num, ?_, HF.out.2, HU.out, by simp; omega⟩, by simp [intOf]; omega⟩
            rw [cells_app, List.length_append]
            exact HF.out.1
      · have e1 : (((s[k]'hlt).toNat : Int) == 92) = false := by rw [beq_eq_false_iff_ne]; omega
        rw [pc_pl _ _ _ _ h1] at hrun
        have HU := hideT hrun
        clear hrun
        subst hv
        have HA := hideT ((Below.refl wr.heap.size wr).alloc (Nat.le_refl _) (.cells #[.int .u8 (((s[k]'hlt).toNat : Nat))] 5))
        have HN := hideT (new_cells wr [.int .u8 (((s[k]'hlt).toNat : Nat))] 5)
        go_wp2_with (at_builtin; refine wpList_append_lies _ rfl _ _ 42 rfl w.heap.size 5 i0 _ 1 1 undB hi hz0 hz1 hz2 rfl (by omega) (Value.slice va l.length vc) l.length (Lib.byteCells l) rfl (owns_below HO.out.1 HA.out) ⟨wr.heap.size, 0, none⟩ 1 1 [.int .u8 (((s[k]'hlt).toNat : Nat))] rfl rfl (fun j u hj => HN.out j u hj) (by simp [Value.oneCell']) (by omega) (by unfold maxLen; omega) (by omega) (by have := HO.out.2.size; simp; omega) _ rfl ?_)
        intro g gc w2 hown' hgrow hat hglt
        have HF := hideT (And.intro hown' ((HO.out.2.trans (HA.out.mono HO.out.2.size)).grown hgrow (by have := HO.out.2.size; have := HA.out.size; omega) (fun k hk => (HO.out.1.lt k hk).1)))
        clear hown' hgrow hat hglt
        go_wp2
        refine ⟨⟨k + 1, l ++ [s[k]'hlt], by omega, by go_num, ?_, HF.out.2, HU.out, by simp; omega⟩, by simp [intOf]; omega⟩
        rw [cells_app, List.length_append]
        exact HF.out.1
    · have i1 : ((k : Int) < (s.size : Int)) = False := by rw [eq_iff_iff, iff_false]; omega
      rw [show s.data.toList.drop k = [] by rw [List.drop_eq_nil_iff, hlen]; omega, pc_nil] at hrun
      obtain rfl := hrun.trans HR.out
      clear HR
      subst hv
      have hconv := conv_bytes HO.out.1
      obtain ⟨bl, hbl⟩ : ∃ bl, bl = bst l := ⟨_, rfl⟩
      rw [← hbl] at hconv
      have HL := hideT hbl
      clear hbl
      go_wp2
      go_ret3
      obtain rfl := HL.out
      exact ⟨rfl, HO.out.2⟩

end Go.Proofs.Ytgcjjfidcadlgaa
