/- template: Text. -/
import Derived.Test.YtbncokfpkkmoiaaTq
import Derived.Test.YtbncokfpkkmoiaaTo
namespace Go.Proofs.Ytbncokfpkkmoiaa
open Go.RowKit

theorem text_bad (p : Pt) (r : List Pt) (l : List UInt8) (h : p.g < -1 ∨ 9 < p.g) : textR (p :: r) l = none := by
  rw [textR, if_pos (by unfold badT; exact decide_eq_true h)]
theorem text_ok (p : Pt) (r : List Pt) (l : List UInt8) (h : ¬ (p.g < -1 ∨ 9 < p.g)) : textR (p :: r) l = textR r (l ++ oneT p) := by
  rw [textR, if_neg (by unfold badT; rw [decide_eq_true_eq]; exact h)]
theorem oneT_len (p : Pt) : (oneT p).length ≤ 2 * (p.t.size + 3) := by
  unfold oneT
  split
  · have := escL_len p.t.data.toList
    rw [show p.t.data.toList.length = p.t.size from rfl] at this
    omega
  · split <;> simp only [List.length_cons, List.length_nil] <;> omega

/-- What Text answers. -/
def txR (r : Option (List UInt8)) : List UInt8 × Nat := match r with | some l => (l, 0) | none => ([], 1)

set_option maxRecDepth 100000 in
set_option maxHeartbeats 2000000 in
theorem text_any (v : Value) (ps : List Pt) (w : World) (hv : PRow w v ps) (hn : bulkP ps ≤ 1048576) :
    Calls Try.prog 13 #[v] w fun e w' => e = .returned (.tuple #[.string (bst (txR (textR ps [])).1), .int .i64 ((txR (textR ps [])).2 : Nat)]) ∧ Below w.heap.size w w' := by
  obtain ⟨pa, ca, rfl⟩ := hv.shape
  have hpl := bulkP_len ps
  generalize hR : textR ps [] = R
  have HR0 := hideT hR
  clear hR
  have hF := Lib.fresh_isBuilder 58 5 w
  have hB0 := (Below.refl w.heap.size w).alloc (Nat.le_refl _) (.cells #[.pointer none, .slice none 0 0] 58)
  go_enter Try.func13, Try.ntmps13
  go_wp2_with fail
  go_loopw [9] (fun i wr => ∃ (k : Nat) (l : List UInt8), k ≤ ps.length ∧ i = .int .i64 k ∧ Lib.IsBuilder 58 5 w.heap.size w.heap.size (Lib.byteCells l) wr ∧ Below w.heap.size w wr ∧ textR (ps.drop k) l = R ∧ l.length + 2 * bulkP (ps.drop k) ≤ 2097152) (fun i _ => ps.length - (intOf i).toNat)
  case atStart => exact ⟨0, [], by omega, rfl, hF, hB0, by rw [List.drop_zero]; exact HR0.out, by rw [List.drop_zero]; simp; omega⟩
  case round =>
    obtain ⟨k, l, hk, rfl, hb, hB, hrun, hl⟩ := hrel
    clear hF hB0 HR0
    by_cases hlt : k < ps.length
    · rcases hv with ⟨rfl, -⟩ | ⟨gb, off, c, e1, ha⟩
      · simp at hlt
      cases e1
      obtain ⟨a1, a2⟩ := ha k hlt
      have c1 := (hB.cell (p := ⟨gb, off + k * 2, none⟩) (cell_lt a1)).trans a1
      have c2 := (hB.cell (p := ⟨gb, off + k * 2 + 1, none⟩) (cell_lt a2)).trans a2
      have i1 : (k : Int) < (ps.length : Int) := by omega
      have i2 : (0 : Int) ≤ (k : Int) := by omega
      rw [List.drop_eq_getElem_cons hlt] at hrun hl
      generalize ps[k] = p at *
      obtain ⟨r, hr⟩ : ∃ r, ps.drop (k + 1) = r := ⟨_, rfl⟩
      have HD := hideT hr
      rw [hr] at hrun hl
      have HR := hideT hrun
      have h1T := oneT_len p
      simp only [bulkP] at hl
      have HL := hideT (show l.length + (oneT p).length + 2 * bulkP r ≤ 2097152 by omega)
      have hl2 : l.length + 2 * p.t.size + 2 ≤ 140737488355328 := by omega
      clear hrun hr ha a1 a2 h1T hl
      have hA := (Below.refl wr.heap.size wr).alloc (Nat.le_refl _) (.cells #[.int .i64 p.g, .string p.t] 48)
      have HBA := hideT (And.intro (hB.trans (hA.mono hB.size)) (bu_stay hb hA))
      have HW := hideT hb
      clear hB hA hb
      by_cases hg1 : p.g < -1
      · have hres := text_bad p r l (.inl hg1)
        have HBB := HBA
        go_wp2
        go_ret2
        exact ⟨by rw [← HR.out, hres]; rfl, HBB.out.1⟩
      · by_cases hg9 : 9 < p.g
        · have hres := text_bad p r l (.inr hg9)
          have HBB := HBA
          go_wp2
          go_ret2
          exact ⟨by rw [← HR.out, hres]; rfl, HBB.out.1⟩
        · have hres := text_ok p r l (fun h => h.elim hg1 hg9)
          by_cases hg2 : p.g = -1
          · have e2 : (p.g == -1) = true := by rw [beq_iff_eq]; exact hg2
            have HO1 := hideT (show oneT p = escL p.t.data.toList by unfold oneT; rw [if_pos hg2])
            rw [hg2] at HBA c1
            have HG2 := hideT hg2
            clear hg2 hg1 hg9 e2
            generalize hgg : p.g = pg at *
            clear hgg
            go_wp2_with fail
            refine (escape_any _ _ l p.t _ HBA.out.2 (by omega) (by have := HBA.out.1.size; omega)).mono ?_
            rintro e w1 ⟨rfl, h1, hb1⟩
            have HF := hideT (And.intro h1 (HBA.out.1.trans hb1))
            clear h1 hb1
            go_wp2
            refine ⟨⟨k + 1, l ++ oneT p, by omega, by go_num, ?_, HF.out.2, ?_, ?_⟩, by simp [intOf]; omega⟩
            · rw [HO1.out]
              exact HF.out.1
            · rw [HD.out, ← hres]
              exact HR.out
            · rw [HD.out, List.length_append]
              have := HL.out
              omega
          · by_cases hg0 : p.g = 0
            · have HO1 := hideT (show oneT p = [38] by unfold oneT; rw [if_neg hg2, if_pos hg0])
              rw [hg0] at HBA c1
              clear hg2 hg1 hg9 hg0
              generalize hgg : p.g = pg at *
              clear hgg
              go_wp2_with fail
              refine (writeByte_any _ _ _ _ _ HBA.out.2 (by rw [Lib.byteCells_length]; omega) (by have := HBA.out.1.size; omega)).mono ?_
              rintro e w1 ⟨rfl, h1, hb1, -⟩
              have HF := hideT (And.intro (show Lib.IsBuilder 58 5 w.heap.size w.heap.size (Lib.byteCells (l ++ [38])) w1 by rw [cells_app]; exact .inr h1) (HBA.out.1.trans hb1))
              clear h1 hb1
              go_wp2
              refine ⟨⟨k + 1, l ++ oneT p, by omega, by go_num, ?_, HF.out.2, ?_, ?_⟩, by simp [intOf]; omega⟩
              · rw [HO1.out]
                exact HF.out.1
              · rw [HD.out, ← hres]
                exact HR.out
              · rw [HD.out, List.length_append]
                have := HL.out
                omega
            · obtain ⟨n, hn0⟩ : ∃ n : Nat, p.g = (n : Int) := ⟨p.g.toNat, by omega⟩
              have HO1 := hideT (show oneT p = [92, UInt8.ofNat (48 + n)] by unfold oneT; rw [if_neg hg2, if_neg hg0, hn0, Int.toNat_natCast])
              have hn9 : n ≤ 9 := by omega
              have hn1 : 1 ≤ n := by omega
              rw [hn0] at HBA c1
              clear hg2 hg1 hg9 hg0
              generalize hgg : p.g = pg at *
              clear hgg hn0
              have j1 : ((n : Int) < -1) = False := by rw [eq_iff_iff, iff_false]; omega
              have j2 : ((9 : Int) < (n : Int)) = False := by rw [eq_iff_iff, iff_false]; omega
              have j3 : ((n : Int) == -1) = false := by rw [beq_eq_false_iff_ne]; omega
              have j4 : ((n : Int) == 0) = false := by rw [beq_eq_false_iff_ne]; omega
              have j5 : IntKind.u8.wrap (n : Int) = (n : Int) := by rw [IntKind.wrap_u8]; omega
              have j6 : IntKind.u8.wrap (48 + (n : Int)) = ((48 + n : Nat) : Int) := by rw [IntKind.wrap_u8]; omega
              go_wp2_with fail
              refine (writeByte_any _ _ _ _ _ HBA.out.2 (by rw [Lib.byteCells_length]; omega) (by have := HBA.out.1.size; omega)).mono ?_
              rintro e w1 ⟨rfl, h1, hb1, hk1⟩
              have bk : NotB (wr.alloc (.cells #[.int .i64 (n : Int), .string p.t] 48)) w.heap.size wr.heap.size := notB_new HW.out ((Below.refl wr.heap.size wr).alloc (Nat.le_refl _) _) (by simp)
              have bn := (hk1 _ bk).2
              have b0 : w1.cell? ⟨wr.heap.size, 0, none⟩ = some (.int .i64 (n : Int)) := by
                rw [World.cell?_of_block (a := ⟨wr.heap.size, 0, none⟩) bn]
                exact new_cell wr [.int .i64 (n : Int), .string p.t] 48 0 _ rfl
              have HF1 := hideT (And.intro h1 (HBA.out.1.trans hb1))
              clear h1 hb1 hk1 bk bn
              go_wp2_with fail
              refine (writeByte_any _ _ _ _ _ (.inr HF1.out.1) (by rw [List.length_append, Lib.byteCells_length]; simp only [List.length_singleton]; omega) (by have := HF1.out.2.size; omega)).mono ?_
              rintro e w2 ⟨rfl, h1, hb1, -⟩
              have e8 : (UInt8.ofNat (48 + n)).toNat = 48 + n := by have e9 : (UInt8.ofNat (48 + n)).toNat = (48 + n) % 256 := rfl; omega
              have HF := hideT (And.intro (show Lib.IsBuilder 58 5 w.heap.size w.heap.size (Lib.byteCells (l ++ [92, UInt8.ofNat (48 + n)])) w2 by
                rw [cells_app, show Lib.byteCells [92, UInt8.ofNat (48 + n)] = [.int .u8 92] ++ [.int .u8 ((UInt8.ofNat (48 + n)).toNat : Nat)] from rfl, e8, ← List.append_assoc]
                exact .inr h1) (HF1.out.2.trans hb1))
              clear h1 hb1 e8 b0
              go_wp2
              refine ⟨⟨k + 1, l ++ oneT p, by omega, by go_num, ?_, HF.out.2, ?_, ?_⟩, by simp [intOf]; omega⟩
              · rw [HO1.out]
                exact HF.out.1
              · rw [HD.out, ← hres]
                exact HR.out
              · rw [HD.out, List.length_append]
                have := HL.out
                omega
    · obtain rfl : k = ps.length := by omega
      rw [List.drop_length] at hrun
      have hres : R = some l := hrun.symm
      subst hres
      have HC := hideT hB
      go_wp2_with fail
      refine (builderString_any _ _ _ _ hb hB.size).mono ?_
      rintro e w1 ⟨rfl, hb1⟩
      have HF := hideT (hB.trans hb1)
      clear hb1 HC
      go_wp2
      go_ret2
      exact ⟨rfl, HF.out⟩

end Go.Proofs.Ytbncokfpkkmoiaa
