/- ytab: isLetter, isDigit, Piece. -/
import Derived.Test.YtjfkhlmoppbbgaaGreatDoorKUk
import Derived.Test.YtjfkhlmoppbbgaaGreatDoorKYa
namespace Go.Proofs.YtjfkhlmoppbbgaaGreatDoor
namespace ytb
open Go.RowKit

def digB (b : Int) : Bool := decide (48 ≤ b) && decide (b ≤ 57)
def letB (b : Int) : Bool := (decide (97 ≤ b) && decide (b ≤ 122)) || (decide (65 ≤ b) && decide (b ≤ 90))

set_option maxRecDepth 100000 in
set_option maxHeartbeats 400000 in
theorem isDigit_any (b : Int) (w : World) : Calls Tryz.prog 134 #[.int .u8 b] w fun e w' => e = .returned (.bool (digB b)) ∧ w' = w := by
  unfold digB
  by_cases h1 : 48 ≤ b
  · go_enter Tryz.func134, Tryz.ntmps134
    go_wp2
    go_ret
    exact ⟨by simp_all, rfl⟩
  · have h1' : decide (48 ≤ b) = false := decide_eq_false h1
    go_enter Tryz.func134, Tryz.ntmps134
    go_wp2
    go_ret
    exact ⟨by simp_all, rfl⟩

set_option maxRecDepth 100000 in
set_option maxHeartbeats 400000 in
theorem isLetter_any (b : Int) (w : World) : Calls Tryz.prog 133 #[.int .u8 b] w fun e w' => e = .returned (.bool (letB b)) ∧ w' = w := by
  unfold letB
  by_cases h1 : 97 ≤ b
  · by_cases h2 : b ≤ 122
    · go_enter Tryz.func133, Tryz.ntmps133
      go_wp2
      go_ret
      exact ⟨by simp_all, rfl⟩
    · have h2' : decide (b ≤ 122) = false := decide_eq_false h2
      have h4 : decide (b ≤ 90) = false := decide_eq_false (by omega)
      have h3 : decide (65 ≤ b) = true := decide_eq_true (by omega)
      go_enter Tryz.func133, Tryz.ntmps133
      go_wp2
      go_ret
      exact ⟨by simp_all, rfl⟩
  · have h1' : decide (97 ≤ b) = false := decide_eq_false h1
    by_cases h3 : 65 ≤ b
    · go_enter Tryz.func133, Tryz.ntmps133
      go_wp2
      go_ret
      exact ⟨by simp_all, rfl⟩
    · have h3' : decide (65 ≤ b) = false := decide_eq_false h3
      go_enter Tryz.func133, Tryz.ntmps133
      go_wp2
      go_ret
      exact ⟨by simp_all, rfl⟩

theorem info24 : (Tryz.prog.info? 25).map (·.size) = some 2 := by kernel_rfl
/-- The end of a function that hands back a value and a fault. -/
theorem fault_result {fn : Func} {W : World} {t r b : Nat} {tmps : Array Value} {x y : Value} {fr : Nat × Nat} (hf : fn.results = #[.tmp t, .cell r 25]) (hr : tmps[r]?.getD undef = .pointer (some ⟨b, 0, none⟩)) (h : W.heap[b]? = some (.cells #[x, y] 25 fr)) : (results fn tmps).run Tryz.prog W = .ok (.tuple #[tmps.getD t undef, .agg #[x, y]]) W := by
  have := run_loadVar_mid (P := Tryz.prog) W b 0 25 [x, y] _ (range_block h) Tryz.underlying25 rfl (by rw [info24]; rfl)
  simp [results, hf, asAddr, hr, this]
/-- Two cells of a block written. -/
theorem put2 {W : World} {b t : Nat} {x y : Value} (h : W.heap[b]? = some (.cells #[x, y] t (0, 0))) (u v : Value) : ((W.setCell ⟨b, 0, none⟩ u).setCell ⟨b, 1, none⟩ v).heap[b]? = some (.cells #[u, v] t (0, 0)) := by
  simp only [World.setCell, Array.getElem?_modify, if_true, h, Option.map_some]
  rfl

theorem aln_iff (c : UInt8) : alnB c ↔ (letB (c.toNat : Int) = true ∨ digB (c.toNat : Int) = true) := by
  unfold alnB letB digB
  simp only [Bool.or_eq_true, Bool.and_eq_true, decide_eq_true_eq]
  omega

/-- What lies where while Piece goes on: the fault's two cells, the builder behind them. -/
def PcR (w : World) (s : ByteArray) (k : Nat) (l : List UInt8) (W : World) : Prop :=
  Lib.IsBuilder 157 5 (w.heap.size + 1) (w.heap.size + 1) (Lib.byteCells l) W ∧ Below (w.heap.size + 1) (w.alloc (.cells #[.int .i64 0, .int .i64 0] 25)) W ∧ pcR (s.data.toList.drop k) k l = pcR s.data.toList 0 [] ∧ l.length ≤ k

set_option maxRecDepth 100000 in
set_option maxHeartbeats 2000000 in
theorem piece_any (s : ByteArray) (hs : s.size ≤ 140737488355000) (w : World) :
    Calls Tryz.prog 118 #[.string s] w fun e w' => e = .returned (.tuple #[.string (bst (pieceR s.data.toList).1), .agg #[.int .i64 ((pieceR s.data.toList).2.1 : Nat), .int .i64 ((pieceR s.data.toList).2.2 : Nat)]]) ∧ Below w.heap.size w w' := by
  have hlen : s.data.toList.length = s.size := rfl
  unfold pieceR
  generalize hR : pcR s.data.toList 0 [] = R
  have HR := hideT hR
  clear hR
  have hA0 := (Below.refl w.heap.size w).alloc (Nat.le_refl _) (.cells #[.int .i64 0, .int .i64 0] 25)
  have hF := Lib.fresh_isBuilder 157 5 (w.alloc (.cells #[.int .i64 0, .int .i64 0] 25))
  have hB0 := (Below.refl (w.heap.size + 1) (w.alloc (.cells #[.int .i64 0, .int .i64 0] 25))).alloc (by simp) (.cells #[.pointer none, .slice none 0 0] 157)
  have hN0 := heap_alloc_new w (.cells #[.int .i64 0, .int .i64 0] 25)
  rw [World.size_alloc] at hF
  have H0 := hideT (And.intro hA0 (And.intro hF (And.intro hB0 hN0)))
  clear hA0 hF hB0 hN0
  go_enter Tryz.func118, Tryz.ntmps118
  go_wp2_with fail
  go_loopw [5] (fun i wr => ∃ (k : Nat) (l : List UInt8), k ≤ s.size ∧ i = .int .i64 k ∧ PcR w s k l wr) (fun i _ => s.size - (intOf i).toNat)
  case atStart => exact ⟨0, [], by omega, rfl, H0.out.2.1, H0.out.2.2.1, by simp, by simp⟩
  case round =>
    obtain ⟨k, l, hk, rfl, hb, hB, hrun, hl⟩ := hrel
    have hcell : wr.heap[w.heap.size]? = some (.cells #[.int .i64 0, .int .i64 0] 25 (0, 0)) := (hB.block _ (by omega)).trans H0.out.2.2.2
    have hBw : Below w.heap.size w wr := H0.out.1.trans (hB.mono (by omega))
    have hfl : ∀ u v, Below w.heap.size w ((wr.setCell ⟨w.heap.size, 0, none⟩ u).setCell ⟨w.heap.size, 1, none⟩ v) := fun u v => (hBw.setCell (p := ⟨w.heap.size, 0, none⟩) (Nat.le_refl _) u).setCell (p := ⟨w.heap.size, 1, none⟩) (Nat.le_refl _) v
    have c0 : wr.cell? ⟨w.heap.size, 0, none⟩ = some (.int .i64 0) := by simp [World.cell?, hcell]
    have c1 : wr.cell? ⟨w.heap.size, 1, none⟩ = some (.int .i64 0) := by simp [World.cell?, hcell]
    have f0 : wr.frozen? ⟨w.heap.size, 0, none⟩ = false := by simp [World.frozen?, hcell]
    have f1 : wr.frozen? ⟨w.heap.size, 1, none⟩ = false := by simp [World.frozen?, hcell]
    have HC := hideT (And.intro hcell (And.intro hfl hBw))
    have HW := hideT (show (Lib.byteCells l).length + 1 ≤ 140737488355328 by rw [Lib.byteCells_length]; omega)
    have HS := hideT (show w.heap.size + 1 ≤ wr.heap.size by have := hB.size; simpa using this)
    have HB := hideT (And.intro hb hB)
    clear hcell hfl hBw hb hB
    by_cases hlt : k < s.size
    · have i1 : (k : Int) < (s.size : Int) := by omega
      have i2 : (0 : Int) ≤ (k : Int) := by omega
      rw [drop_at s k hlt] at hrun
      by_cases h1 : (s[k]'hlt).toNat = 92
      · have e1 : (((s[k]'hlt).toNat : Int) != 92) = false := by rw [bne_eq_false_iff_eq]; omega
        by_cases h2 : k + 1 = s.size
        · rw [show s.data.toList.drop (k + 1) = [] by rw [List.drop_eq_nil_iff, hlen]; omega, pc_end _ _ _ h1] at hrun
          have e2 : ((k : Int) == (s.size : Int) - 1) = true := by rw [beq_iff_eq]; omega
          obtain rfl := hrun.trans HR.out
          clear HR
          go_wp2
          refine bodyPost_ret (fault_result rfl rfl (put2 HC.out.1 _ _)) rfl ?_
          exact ⟨rfl, HC.out.2.1 _ _⟩
        · have hlt2 : k + 1 < s.size := by omega
          have e2 : ((k : Int) == (s.size : Int) - 1) = false := by rw [beq_eq_false_iff_ne]; omega
          have i5 : (k : Int) + 1 < (s.size : Int) := by omega
          have i6 : (0 : Int) ≤ (k : Int) + 1 := by omega
          rw [drop_at s (k + 1) hlt2] at hrun
          have hcl := (s[k + 1]'hlt2).toNat_lt
          by_cases h3 : (s[k + 1]'hlt2).toNat = 110
          · rw [pc_n _ _ _ _ _ h1 h3] at hrun
            have e3 : (((s[k + 1]'hlt2).toNat : Int) == 110) = true := by rw [beq_iff_eq]; omega
            have HU := hideT hrun
            clear hrun c0 c1 f0 f1
            go_wp2_with fail
            refine (writeByte_any _ _ _ _ _ HB.out.1 HW.out HS.out).mono ?_
            rintro e w1 ⟨rfl, h1, hb1, hk1⟩
            have HF := hideT (And.intro h1 (HB.out.2.trans hb1))
            clear h1 hb1 hk1
            go_wp2
            refine ⟨⟨k + 2, l ++ [10], by omega, by go_num, .inr ?_, HF.out.2, HU.out, by simp; omega⟩, by simp [intOf]; omega⟩
            rw [cells_app]
            exact HF.out.1
          · have e3 : (((s[k + 1]'hlt2).toNat : Int) == 110) = false := by rw [beq_eq_false_iff_ne]; omega
            have hal := aln_iff (s[k + 1]'hlt2)
            have HL := hideT (isLetter_any ((s[k + 1]'hlt2).toNat : Int))
            have HD := hideT (isDigit_any ((s[k + 1]'hlt2).toNat : Int))
            cases hx : letB ((s[k + 1]'hlt2).toNat : Int) with
            | true =>
              rw [pc_bad _ _ _ _ _ h1 h3 (hal.2 (.inl hx))] at hrun
              rw [hx] at HL
              obtain rfl := hrun.trans HR.out
              clear HR hx hal
              go_wp2_with fail
              refine (HL.out _).mono ?_
              rintro e w1 ⟨rfl, rfl⟩
              go_wp2
              refine bodyPost_ret (fault_result rfl rfl (put2 HC.out.1 _ _)) rfl ?_
              exact ⟨rfl, HC.out.2.1 _ _⟩
            | false =>
              rw [hx] at HL
              cases hy : digB ((s[k + 1]'hlt2).toNat : Int) with
              | true =>
                rw [pc_bad _ _ _ _ _ h1 h3 (hal.2 (.inr hy))] at hrun
                rw [hy] at HD
                obtain rfl := hrun.trans HR.out
                clear HR hx hy hal
                go_wp2_with fail
                refine (HL.out _).mono ?_
                rintro e w1 ⟨rfl, rfl⟩
                go_wp2_with fail
                refine (HD.out _).mono ?_
                rintro e w1 ⟨rfl, rfl⟩
                go_wp2
                refine bodyPost_ret (fault_result rfl rfl (put2 HC.out.1 _ _)) rfl ?_
                exact ⟨rfl, HC.out.2.1 _ _⟩
              | false =>
                rw [pc_esc _ _ _ _ _ h1 h3 (fun h => by rcases hal.1 h with h | h <;> simp_all)] at hrun
                rw [hy] at HD
                have HU := hideT hrun
                clear hrun hx hy hal c0 c1 f0 f1
                go_wp2_with fail
                refine (HL.out _).mono ?_
                rintro e w1 ⟨rfl, rfl⟩
                go_wp2_with fail
                refine (HD.out _).mono ?_
                rintro e w1 ⟨rfl, rfl⟩
                go_wp2_with fail
                refine (writeByte_any _ _ _ _ _ HB.out.1 HW.out HS.out).mono ?_
                rintro e w1 ⟨rfl, h1, hb1, hk1⟩
                have HF := hideT (And.intro h1 (HB.out.2.trans hb1))
                clear h1 hb1 hk1
                go_wp2
                refine ⟨⟨k + 2, l ++ [s[k + 1]'hlt2], by omega, by go_num, .inr ?_, HF.out.2, HU.out, by simp; omega⟩, by simp [intOf]; omega⟩
                rw [cells_app]
                exact HF.out.1
      · have e1 : (((s[k]'hlt).toNat : Int) != 92) = true := by rw [bne_iff_ne]; omega
        rw [pc_pl _ _ _ _ h1] at hrun
        have HU := hideT hrun
        clear hrun c0 c1 f0 f1
        go_wp2_with fail
        refine (writeByte_any _ _ _ _ _ HB.out.1 HW.out HS.out).mono ?_
        rintro e w1 ⟨rfl, h1, hb1, hk1⟩
        have HF := hideT (And.intro h1 (HB.out.2.trans hb1))
        clear h1 hb1 hk1
        go_wp2
        refine ⟨⟨k + 1, l ++ [s[k]'hlt], by omega, by go_num, .inr ?_, HF.out.2, HU.out, by simp; omega⟩, by simp [intOf]; omega⟩
        rw [cells_app]
        exact HF.out.1
    · have i1 : ((k : Int) < (s.size : Int)) = False := by rw [eq_iff_iff, iff_false]; omega
      rw [show s.data.toList.drop k = [] by rw [List.drop_eq_nil_iff, hlen]; omega, pc_nil] at hrun
      obtain rfl := hrun.trans HR.out
      clear HR c0 c1 f0 f1
      go_wp2_with fail
      refine (builderString_any _ _ _ _ HB.out.1 HS.out).mono ?_
      rintro e w1 ⟨rfl, hb1⟩
      have hcell : w1.heap[w.heap.size]? = some (.cells #[.int .i64 0, .int .i64 0] 25 (0, 0)) := (hb1.block _ (by omega)).trans HC.out.1
      have hBw := HC.out.2.2.trans (hb1.mono (by omega))
      have HX := hideT (And.intro hcell ((hBw.setCell (p := ⟨w.heap.size, 0, none⟩) (Nat.le_refl _) (.int .i64 0)).setCell (p := ⟨w.heap.size, 1, none⟩) (Nat.le_refl _) (.int .i64 0)))
      have c0 : w1.cell? ⟨w.heap.size, 0, none⟩ = some (.int .i64 0) := by simp [World.cell?, hcell]
      have c1 : w1.cell? ⟨w.heap.size, 1, none⟩ = some (.int .i64 0) := by simp [World.cell?, hcell]
      have f0 : w1.frozen? ⟨w.heap.size, 0, none⟩ = false := by simp [World.frozen?, hcell]
      have f1 : w1.frozen? ⟨w.heap.size, 1, none⟩ = false := by simp [World.frozen?, hcell]
      clear hcell hBw hb1
      go_wp2
      refine bodyPost_ret (fault_result rfl rfl (put2 HX.out.1 _ _)) rfl ?_
      exact ⟨rfl, HX.out.2⟩

end ytb
end Go.Proofs.YtjfkhlmoppbbgaaGreatDoor
