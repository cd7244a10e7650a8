/- template: the document's Digits and Text. -/
import Derived.Test.YtbncokfpkkmoiaaTr
namespace Go.Proofs.Ytbncokfpkkmoiaa
open Go.RowKit

theorem conv_one (W : World) (b : UInt8) : (convert 50 9 (.slice (some ⟨W.heap.size, 0, none⟩) 1 1)).run Try.prog (W.alloc (.cells #[.int .u8 (b.toNat : Nat)] 5)) = .ok (.string (bst [b])) (W.alloc (.cells #[.int .u8 (b.toNat : Nat)] 5)) :=
  conv_bytes (base := W.heap.size) (l := [b]) ⟨rfl, .inr ⟨W.heap.size, 1, #[.int .u8 (b.toNat : Nat)], rfl, Nat.le_refl _, heap_alloc_new W _, Nat.le_refl _, by unfold maxLen; omega, rfl, rfl⟩⟩

set_option maxRecDepth 100000 in
theorem digits_any (n : Nat) (hn : n ≤ 9) (w : World) : Calls Try.prog 27 #[.int .i64 (n : Int)] w fun e w' => e = .returned (.string (bst [UInt8.ofNat (48 + n)])) ∧ Below w.heap.size w w' := by
  have hc := conv_one w (UInt8.ofNat (48 + n))
  have e8 : (UInt8.ofNat (48 + n)).toNat = 48 + n := by have e9 : (UInt8.ofNat (48 + n)).toNat = (48 + n) % 256 := rfl; omega
  rw [e8, show ((48 + n : Nat) : Int) = 48 + (n : Int) by omega] at hc
  have HB := hideT ((Below.refl w.heap.size w).alloc (Nat.le_refl _) (.cells #[.int .u8 (48 + (n : Int))] 5))
  generalize bst [UInt8.ofNat (48 + n)] = dg at *
  have j1 : (n : Int) < 10 := by omega
  have j5 : IntKind.i64.wrap (48 + (n : Int)) = 48 + (n : Int) := by rw [IntKind.wrap_i64]; omega
  have j6 : IntKind.u8.wrap (48 + (n : Int)) = 48 + (n : Int) := by rw [IntKind.wrap_u8]; omega
  clear e8
  go_enter Try.func27, Try.ntmps27
  go_wp2
  go_ret
  exact ⟨rfl, HB.out⟩

set_option maxRecDepth 100000 in
set_option maxHeartbeats 4000000 in
theorem docText_any (v : Value) (ps : List Pt) (w : World) (hv : PRow w v ps) (hn : bulkP ps ≤ 1048576) :
    Calls Try.prog 14 #[v] w fun e w' => e = .returned (.tuple #[.string (bst (txR (textR ps [])).1), .int .i64 ((txR (textR ps [])).2 : Nat)]) ∧ Below w.heap.size w w' := by
  obtain ⟨i0, hi0, hz0, hz1, hz2⟩ := info_parts info5
  obtain ⟨pa, ca, rfl⟩ := hv.shape
  have hpl := bulkP_len ps
  generalize hR : textR ps [] = R
  have HR0 := hideT hR
  clear hR
  go_enter Try.func14, Try.ntmps14
  go_wp2_with fail
  go_loopw [4, 5] (fun tv i wr => ∃ (k : Nat) (l : List UInt8), k ≤ ps.length ∧ i = .int .i64 k ∧ wr.ownsRow w.heap.size 5 1 tv l.length (Lib.byteCells l) ∧ Below w.heap.size w wr ∧ textR (ps.drop k) l = R ∧ l.length + 2 * bulkP (ps.drop k) ≤ 2097152) (fun _ i _ => ps.length - (intOf i).toNat)
  case atStart => exact ⟨0, [], by omega, rfl, World.ownsRow_nil _ _ _ _, Below.refl _ _, by rw [List.drop_zero]; exact HR0.out, by rw [List.drop_zero]; simp; omega⟩
  case round =>
    obtain ⟨k, l, hk, rfl, hO, hB, hrun, hl⟩ := hrel
    clear HR0
    obtain ⟨va, vc, rfl⟩ := owns_shape hO
    by_cases hlt : k < ps.length
    · rcases hv with ⟨rfl, -⟩ | ⟨gb, off, c, e1, ha⟩
      · simp at hlt
      cases e1
      obtain ⟨a1, a2⟩ := ha k hlt
      have c1 := (hB.cell (p := ⟨gb, off + k * 2, none⟩) (cell_lt a1)).trans a1
      have c2 := (hB.cell (p := ⟨gb, off + k * 2 + 1, none⟩) (cell_lt a2)).trans a2
      have i1 : (k : Int) < (ps.length : Int) := by omega
      have i2 : (0 : Int) ≤ (k : Int) := by omega
      rw [List.drop_eq_getElem_cons hlt] at hrun hl
      have HA2 := hideT a2
      generalize ps[k] = p at *
      obtain ⟨r, hr⟩ : ∃ r, ps.drop (k + 1) = r := ⟨_, rfl⟩
      have HD := hideT hr
      rw [hr] at hrun hl
      have HR := hideT hrun
      have h1T := oneT_len p
      simp only [bulkP] at hl
      have HL := hideT (show l.length + (oneT p).length + 2 * bulkP r ≤ 2097152 by omega)
      have hl2 : l.length + 2 * p.t.size + 2 ≤ 140737488355 := by omega
      have HO := hideT (And.intro hO hB)
      clear hrun hr ha a1 a2 h1T hl hO hB
      by_cases hg1 : p.g < -1
      · have hres := text_bad p r l (.inl hg1)
        go_wp2
        go_ret2
        exact ⟨by rw [← HR.out, hres]; rfl, HO.out.2⟩
      · by_cases hg9 : 9 < p.g
        · have hres := text_bad p r l (.inr hg9)
          go_wp2
          go_ret2
          exact ⟨by rw [← HR.out, hres]; rfl, HO.out.2⟩
        · have hres := text_ok p r l (fun h => h.elim hg1 hg9)
          by_cases hg2 : p.g = -1
          · have HO1 := hideT (show oneT p = escL p.t.data.toList by unfold oneT; rw [if_pos hg2])
            rw [hg2] at c1
            clear hg2 hg1 hg9
            generalize hgg : p.g = pg at *
            clear hgg
            have hlist : p.t.data.toList.length = p.t.size := rfl
            go_wp2_with fail
            go_loopw [4, 7] (fun tv i wq => ∃ j : Nat, j ≤ p.t.size ∧ i = .int .i64 j ∧ wq.ownsRow w.heap.size 5 1 tv (l ++ escL (p.t.data.toList.take j)).length (Lib.byteCells (l ++ escL (p.t.data.toList.take j))) ∧ Below w.heap.size w wq) (fun _ i _ => p.t.size - (intOf i).toNat)
            case atStart => exact ⟨0, by omega, rfl, by simpa [escL] using HO.out.1, HO.out.2⟩
            case round =>
              obtain ⟨j, hj, rfl, hO, hB⟩ := hrel
              obtain ⟨va2, vc2, rfl⟩ := owns_shape hO
              have cq := (hB.cell (p := ⟨gb, off + k * 2 + 1, none⟩) (cell_lt HA2.out)).trans HA2.out
              by_cases hjt : j < p.t.size
              · have j1 : (j : Int) < (p.t.size : Int) := by omega
                have j2 : (0 : Int) ≤ (j : Int) := by omega
                have hel := escL_len (p.t.data.toList.take j)
                rw [List.length_take, hlist] at hel
                have HE := hideT (esc_take p.t j hjt)
                have hc := (p.t[j]'hjt).toNat_lt
                obtain ⟨M, hM⟩ : ∃ M, l ++ escL (p.t.data.toList.take j) = M := ⟨_, rfl⟩
                have hml : M.length ≤ l.length + 2 * p.t.size := by rw [← hM, List.length_append]; omega
                have HM := hideT hM
                rw [hM] at hO ⊢
                have HQ := hideT (And.intro hO hB)
                clear hO hB hM hel
                generalize hbyte : p.t[j]'hjt = cc at *
                by_cases c3 : cc.toNat = 10
                · have e1 : ((cc.toNat : Int) == 10) = true := by rw [beq_iff_eq]; omega
                  rw [if_pos c3] at HE
                  have hA := (Below.refl wr.heap.size wr).alloc (Nat.le_refl _) (.cells #[.int .u8 92, .int .u8 110] 5)
                  have HN := hideT (new_cells wr [.int .u8 92, .int .u8 110] 5)
                  have HA := hideT hA
                  clear hA
                  go_wp2_with (at_builtin; refine wpList_append_lies _ rfl _ _ 50 rfl w.heap.size 5 i0 _ 1 1 und50 hi0 hz0 hz1 hz2 rfl (by omega) _ M.length (Lib.byteCells M) rfl (owns_below HQ.out.1 HA.out) ⟨wr.heap.size, 0, none⟩ 2 2 [.int .u8 92, .int .u8 110] rfl rfl (fun j u hj => HN.out j u hj) (by simp [Value.oneCell']) (by omega) (by unfold maxLen; omega) (by omega) (by have := HQ.out.2.size; have := HA.out.size; omega) _ rfl ?_)
                  intro g gc w2 hown hgr hat hglt
                  have HF := hideT (And.intro hown ((HQ.out.2.trans (HA.out.mono HQ.out.2.size)).grown hgr (by have := HQ.out.2.size; have := HA.out.size; omega) (fun k hk => (owns_blk HQ.out.1 hk).1)))
                  clear hown hgr hat hglt cq
                  go_wp2
                  refine ⟨⟨j + 1, by omega, by go_num, ?_, HF.out.2⟩, by simp [intOf]; omega⟩
                  rw [HE.out, ← List.append_assoc, HM.out, cells_app M, List.length_append]
                  exact HF.out.1
                · have e1 : ((cc.toNat : Int) == 10) = false := by rw [beq_eq_false_iff_ne]; omega
                  rw [if_neg c3] at HE
                  by_cases c4 : cc.toNat = 92 ∨ cc.toNat = 38
                  · rw [if_pos c4] at HE
                    rcases c4 with c4 | c4
                    · have e2 : ((cc.toNat : Int) == 92) = true := by rw [beq_iff_eq]; omega
                      have e3 : ((cc.toNat : Int)) = 92 := by omega
                      have hA := (Below.refl wr.heap.size wr).alloc (Nat.le_refl _) (.cells #[.int .u8 92, .int .u8 92] 5)
                      have HN := hideT (new_cells wr [.int .u8 92, .int .u8 92] 5)
                      have HA := hideT hA
                      clear hA
                      go_wp2_with (at_builtin; refine wpList_append_lies _ rfl _ _ 50 rfl w.heap.size 5 i0 _ 1 1 und50 hi0 hz0 hz1 hz2 rfl (by omega) _ M.length (Lib.byteCells M) rfl (owns_below HQ.out.1 HA.out) ⟨wr.heap.size, 0, none⟩ 2 2 [.int .u8 92, .int .u8 92] rfl rfl (fun j u hj => HN.out j u hj) (by simp [Value.oneCell']) (by omega) (by unfold maxLen; omega) (by omega) (by have := HQ.out.2.size; have := HA.out.size; omega) _ rfl ?_)
                      intro g gc w2 hown hgr hat hglt
                      have HF := hideT (And.intro hown ((HQ.out.2.trans (HA.out.mono HQ.out.2.size)).grown hgr (by have := HQ.out.2.size; have := HA.out.size; omega) (fun k hk => (owns_blk HQ.out.1 hk).1)))
                      clear hown hgr hat hglt cq
                      go_wp2
                      refine ⟨⟨j + 1, by omega, by go_num, ?_, HF.out.2⟩, by simp [intOf]; omega⟩
                      rw [HE.out, ← List.append_assoc, HM.out, cells_app M, List.length_append]
                      rw [show Lib.byteCells [92, cc] = [.int .u8 92, .int .u8 ((cc.toNat : Nat) : Int)] from rfl, e3]
                      exact HF.out.1
                    · have e2 : ((cc.toNat : Int) == 92) = false := by rw [beq_eq_false_iff_ne]; omega
                      have e3 : ((cc.toNat : Int) == 38) = true := by rw [beq_iff_eq]; omega
                      have e4 : ((cc.toNat : Int)) = 38 := by omega
                      have hA := (Below.refl wr.heap.size wr).alloc (Nat.le_refl _) (.cells #[.int .u8 92, .int .u8 38] 5)
                      have HN := hideT (new_cells wr [.int .u8 92, .int .u8 38] 5)
                      have HA := hideT hA
                      clear hA
                      go_wp2_with (at_builtin; refine wpList_append_lies _ rfl _ _ 50 rfl w.heap.size 5 i0 _ 1 1 und50 hi0 hz0 hz1 hz2 rfl (by omega) _ M.length (Lib.byteCells M) rfl (owns_below HQ.out.1 HA.out) ⟨wr.heap.size, 0, none⟩ 2 2 [.int .u8 92, .int .u8 38] rfl rfl (fun j u hj => HN.out j u hj) (by simp [Value.oneCell']) (by omega) (by unfold maxLen; omega) (by omega) (by have := HQ.out.2.size; have := HA.out.size; omega) _ rfl ?_)
                      intro g gc w2 hown hgr hat hglt
                      have HF := hideT (And.intro hown ((HQ.out.2.trans (HA.out.mono HQ.out.2.size)).grown hgr (by have := HQ.out.2.size; have := HA.out.size; omega) (fun k hk => (owns_blk HQ.out.1 hk).1)))
                      clear hown hgr hat hglt cq
                      go_wp2
                      refine ⟨⟨j + 1, by omega, by go_num, ?_, HF.out.2⟩, by simp [intOf]; omega⟩
                      rw [HE.out, ← List.append_assoc, HM.out, cells_app M, List.length_append]
                      rw [show Lib.byteCells [92, cc] = [.int .u8 92, .int .u8 ((cc.toNat : Nat) : Int)] from rfl, e4]
                      exact HF.out.1
                  · rw [if_neg c4] at HE
                    have e2 : ((cc.toNat : Int) == 92) = false := by rw [beq_eq_false_iff_ne]; omega
                    have e3 : ((cc.toNat : Int) == 38) = false := by rw [beq_eq_false_iff_ne]; omega
                    have hA := (Below.refl wr.heap.size wr).alloc (Nat.le_refl _) (.cells #[.int .u8 (cc.toNat : Nat)] 5)
                    have HN := hideT (new_cells wr [.int .u8 (cc.toNat : Nat)] 5)
                    have HA := hideT hA
                    clear hA
                    go_wp2_with (at_builtin; refine wpList_append_lies _ rfl _ _ 50 rfl w.heap.size 5 i0 _ 1 1 und50 hi0 hz0 hz1 hz2 rfl (by omega) _ M.length (Lib.byteCells M) rfl (owns_below HQ.out.1 HA.out) ⟨wr.heap.size, 0, none⟩ 1 1 [.int .u8 (cc.toNat : Nat)] rfl rfl (fun j u hj => HN.out j u hj) (by simp [Value.oneCell']) (by omega) (by unfold maxLen; omega) (by omega) (by have := HQ.out.2.size; have := HA.out.size; omega) _ rfl ?_)
                    intro g gc w2 hown hgr hat hglt
                    have HF := hideT (And.intro hown ((HQ.out.2.trans (HA.out.mono HQ.out.2.size)).grown hgr (by have := HQ.out.2.size; have := HA.out.size; omega) (fun k hk => (owns_blk HQ.out.1 hk).1)))
                    clear hown hgr hat hglt cq
                    go_wp2
                    refine ⟨⟨j + 1, by omega, by go_num, ?_, HF.out.2⟩, by simp [intOf]; omega⟩
                    rw [HE.out, ← List.append_assoc, HM.out, cells_app M, List.length_append]
                    exact HF.out.1
              · obtain rfl : j = p.t.size := by omega
                rw [show p.t.data.toList.take p.t.size = p.t.data.toList from List.take_length] at hO ⊢
                have HF := hideT (And.intro hO hB)
                clear hO hB
                go_wp2
                refine ⟨⟨k + 1, l ++ oneT p, by omega, by go_num, ?_, HF.out.2, ?_, ?_⟩, by simp [intOf]; omega⟩
                · rw [HO1.out]
                  exact HF.out.1
                · rw [HD.out, ← hres]
                  exact HR.out
                · rw [HD.out, List.length_append]
                  have := HL.out
                  omega
          · by_cases hg0 : p.g = 0
            · have HO1 := hideT (show oneT p = [38] by unfold oneT; rw [if_neg hg2, if_pos hg0])
              rw [hg0] at c1
              clear hg2 hg1 hg9 hg0
              generalize hgg : p.g = pg at *
              clear hgg
              have hA := (Below.refl wr.heap.size wr).alloc (Nat.le_refl _) (.cells #[.int .u8 38] 5)
              have HN := hideT (new_cells wr [.int .u8 38] 5)
              have HA := hideT hA
              clear hA
              go_wp2_with (at_builtin; refine wpList_append_lies _ rfl _ _ 50 rfl w.heap.size 5 i0 _ 1 1 und50 hi0 hz0 hz1 hz2 rfl (by omega) _ l.length (Lib.byteCells l) rfl (owns_below HO.out.1 HA.out) ⟨wr.heap.size, 0, none⟩ 1 1 [.int .u8 38] rfl rfl (fun j u hj => HN.out j u hj) (by simp [Value.oneCell']) (by omega) (by unfold maxLen; omega) (by omega) (by have := HO.out.2.size; have := HA.out.size; omega) _ rfl ?_)
              intro g gc w2 hown hgr hat hglt
              have HF := hideT (And.intro hown ((HO.out.2.trans (HA.out.mono HO.out.2.size)).grown hgr (by have := HO.out.2.size; have := HA.out.size; omega) (fun k hk => (owns_blk HO.out.1 hk).1)))
              clear hown hgr hat hglt 
              go_wp2
              refine ⟨⟨k + 1, l ++ oneT p, by omega, by go_num, ?_, HF.out.2, ?_, ?_⟩, by simp [intOf]; omega⟩
              · rw [HO1.out, cells_app, List.length_append]
                exact HF.out.1
              · rw [HD.out, ← hres]
                exact HR.out
              · rw [HD.out, List.length_append]
                have := HL.out
                omega
            · obtain ⟨n, hn0⟩ : ∃ n : Nat, p.g = (n : Int) := ⟨p.g.toNat, by omega⟩
              have HO1 := hideT (show oneT p = [92] ++ [UInt8.ofNat (48 + n)] by unfold oneT; rw [if_neg hg2, if_neg hg0, hn0, Int.toNat_natCast]; rfl)
              have hn9 : n ≤ 9 := by omega
              have hn1 : 1 ≤ n := by omega
              rw [hn0] at c1
              clear hg2 hg1 hg9 hg0
              generalize hgg : p.g = pg at *
              clear hgg hn0
              have j1 : ((n : Int) < -1) = False := by rw [eq_iff_iff, iff_false]; omega
              have j2 : ((9 : Int) < (n : Int)) = False := by rw [eq_iff_iff, iff_false]; omega
              have j4 : ((n : Int) == 0) = false := by rw [beq_eq_false_iff_ne]; omega
              have j5 : (0 : Int) < (n : Int) := by omega
              have hA := (Below.refl wr.heap.size wr).alloc (Nat.le_refl _) (.cells #[.int .u8 92] 5)
              have HN := hideT (new_cells wr [.int .u8 92] 5)
              have HA := hideT hA
              clear hA
              go_wp2_with (at_builtin; refine wpList_append_lies _ rfl _ _ 50 rfl w.heap.size 5 i0 _ 1 1 und50 hi0 hz0 hz1 hz2 rfl (by omega) _ l.length (Lib.byteCells l) rfl (owns_below HO.out.1 HA.out) ⟨wr.heap.size, 0, none⟩ 1 1 [.int .u8 92] rfl rfl (fun j u hj => HN.out j u hj) (by simp [Value.oneCell']) (by omega) (by unfold maxLen; omega) (by omega) (by have := HO.out.2.size; have := HA.out.size; omega) _ rfl ?_)
              intro g gc w2 hown hgr hat hglt
              have HF := hideT (And.intro hown ((HO.out.2.trans (HA.out.mono HO.out.2.size)).grown hgr (by have := HO.out.2.size; have := HA.out.size; omega) (fun k hk => (owns_blk HO.out.1 hk).1)))
              clear hown hgr hat hglt 
              go_wp2_with fail
              have HDg := hideT (digits_any n hn9)
              obtain ⟨dg, hdg⟩ : ∃ dg, bst [UInt8.ofNat (48 + n)] = dg := ⟨_, rfl⟩
              have HV := hideT (show strVals dg.data.toList = Lib.byteCells [UInt8.ofNat (48 + n)] by rw [← hdg]; rfl)
              have HZ := hideT (show dg.size = 1 by rw [← hdg]; rfl)
              rw [hdg] at HDg
              clear hdg
              refine (HDg.out _).mono ?_
              rintro e w3 ⟨rfl, hb3⟩
              have HF3 := hideT (And.intro (show w3.ownsRow w.heap.size 5 1 (.slice (some ⟨g, 0, none⟩) (l.length + 1) gc) (l.length + 1) (Lib.byteCells (l ++ [92])) by rw [cells_app]; exact owns_below HF.out.1 hb3) (HF.out.2.trans (hb3.mono HF.out.2.size)))
              clear hb3 HN HA
              go_wp2_with (at_builtin; refine wpList_append_own_string rfl _ _ 50 9 rfl w.heap.size 5 i0 _ Try.underlying50 Try.underlying9 hi0 hz0 hz1 hz2 rfl _ (l.length + 1) (Lib.byteCells (l ++ [92])) rfl HF3.out.1 dg rfl (by rw [HZ.out]; omega) HF3.out.2.size ?_)
              intro v' w4 hown' hgrow hv'
              rw [HZ.out, HV.out] at hown'
              obtain ⟨va', vc', rfl⟩ := owns_shape hown'
              have HF4 := hideT (And.intro hown' (HF3.out.2.grown hgrow HF3.out.2.size (fun k hk => (owns_blk HF3.out.1 hk).1)))
              clear hown' hgrow hv'
              go_wp2
              refine ⟨⟨k + 1, l ++ oneT p, by omega, by go_num, ?_, HF4.out.2, ?_, ?_⟩, by simp [intOf]; omega⟩
              · rw [HO1.out, ← List.append_assoc, cells_app (l ++ [92]), List.length_append, List.length_append]
                exact HF4.out.1
              · rw [HD.out, ← hres]
                exact HR.out
              · rw [HD.out, List.length_append]
                have := HL.out
                omega
    · obtain rfl : k = ps.length := by omega
      rw [List.drop_length] at hrun
      have hres : R = some l := hrun.symm
      subst hres
      have HC := hideT hB
      have hcv := conv_bytes hO
      clear hO hB
      go_wp2
      go_ret2
      exact ⟨rfl, HC.out⟩

end Go.Proofs.Ytbncokfpkkmoiaa
