/- show: template.Text: the walk. -/
import Derived.Test.YtidgnebbibkmhaaGreatDoorKWk
import Derived.Test.YtidgnebbibkmhaaGreatDoorKWz
import Derived.Test.YtidgnebbibkmhaaGreatDoorKTd
import Derived.Lib.ConvBytes
set_option maxRecDepth 100000
set_option maxHeartbeats 4000000
namespace Go.Proofs.YtidgnebbibkmhaaGreatDoor
open Go.RowKit
open scanP scrP tpl ytb
namespace sho

theorem keep_gr2 {W W2 : World} {B b n : Nat} {bs : List Value} {p v v' : Value} (hbk : W.heap[b]? = some (.cells #[p, v] 68 (0, 0))) (hown : W.ownsRow B 5 1 v n bs) (hg : W.grownBy W2 v.ownBlock) (hv : ∀ g, v'.ownBlock = some g → v.ownBlock = some g ∨ W.heap.size ≤ g) : KeepB W (W2.setCell ⟨b, 1, none⟩ v') b := fun r hr => by
  have e := hr.2.2 _ _ hbk
  have hb2 : W2.heap[b]? = some (.cells #[p, v] 68 (0, 0)) := by
    rw [hg.block b (Array.getElem?_eq_some_iff.1 hbk).1 (fun e2 => by
      obtain ⟨_, _, cur, h3⟩ := owns_blk hown e2.symm
      rw [hbk] at h3
      cases h3)]
    exact hbk
  refine ⟨⟨?_, hr.2.1, fun p1 v1 h1 => ?_⟩, (put_far _ _ _ _ hr.2.1).trans (hg.block r hr.1 (fun e2 => e e2.symm))⟩
  · have := hg.size
    have := hr.1
    simp
    omega
  · simp only [World.setCell, Array.getElem?_modify, if_true, hb2, Option.map_some] at h1
    cases h1
    have := hr.1
    intro e3
    rcases hv r e3 with h2 | h2
    · exact e h2
    · omega
theorem strCells_app (l : List UInt8) (s : ByteArray) : Lib.byteCells l ++ Lib.strCells s = Lib.byteCells (l ++ s.data.toList) := by rw [cells_app]; rfl
theorem writeString_any (B b : Nat) (l : List UInt8) (s : ByteArray) (w : World) (h : Lib.IsBuilder 68 5 B b (Lib.byteCells l) w) (hlen : l.length + s.size ≤ 140737488355328) (hBw : B ≤ w.heap.size) :
    Calls Tryz.prog 25 #[.pointer (some ⟨b, 0, none⟩), .string s] w fun e w' => e = .returned (.tuple #[.int .i64 s.size, .nilIface]) ∧ (Lib.BuilderAt 68 5 B b (.pointer (some ⟨b, 0, none⟩)) (Lib.byteCells (l ++ s.data.toList)) w' ∧ Below B w w' ∧ KeepB w w' b) := by
  go_enter Tryz.func25, Tryz.ntmps25
  go_wp2_with (go_at_call 42; refine (xhf B b _ _ h).mono ?_)
  rintro e w1 ⟨rfl, h1, hb1, hk1⟩
  obtain ⟨hB, v, hbk, hown, hne⟩ := h1
  rw [Lib.byteCells_length] at hown
  have c0 : w1.cell? ⟨b, 0, none⟩ = some (.pointer (some ⟨b, 0, none⟩)) := by rw [Lib.cell_of_heap hbk]; rfl
  have c1 : w1.cell? ⟨b, 1, none⟩ = some v := by rw [Lib.cell_of_heap hbk]; rfl
  obtain ⟨v', w2, hrun, hown', hgrow, hv'⟩ := app_str hown (by have := hb1.size; omega) s hlen 44
  obtain ⟨ao, n', cap, rfl⟩ : ∃ ao n' cap, v' = .slice ao n' cap := by
    rcases hown'.2 with ⟨hv, _⟩ | ⟨g, cap, cur, hv, _⟩
    · exact ⟨_, _, _, hv⟩
    · exact ⟨_, _, _, hv⟩
  have hlt : b < w1.heap.size := (Array.getElem?_eq_some_iff.1 hbk).1
  have hb2 : w2.heap[b]? = some (.cells #[.pointer (some ⟨b, 0, none⟩), v] 68 (0, 0)) := by
    rw [hgrow.block b hlt (fun e => hne e.symm)]
    exact hbk
  have d0 : w2.cell? ⟨b, 0, none⟩ = some (.pointer (some ⟨b, 0, none⟩)) := by rw [Lib.cell_of_heap hb2]; rfl
  have d1 : w2.cell? ⟨b, 1, none⟩ = some v := by rw [Lib.cell_of_heap hb2]; rfl
  have f1 : w2.frozen? ⟨b, 1, none⟩ = false := Lib.frozen_of_heap hb2 1
  have HK := hideT (hk1.trans (keep_gr2 hbk hown hgrow (v' := .slice ao n' cap) hv'))
  have HP := hideT (Lib.BuilderAt.put (T := 68) (e := 5) hB hb2 (bs' := Lib.byteCells (l ++ s.data.toList)) (by rw [Lib.byteCells_length, List.length_append]; exact hown') (by decide))
  have HB := hideT ((hb1.grown hgrow (by have := hb1.size; omega) (fun k hk => (hown.lt k hk).1)).setCell (p := ⟨b, 1, none⟩) hB (.slice ao n' cap))
  have HR := hideT hrun
  clear hrun hown' hgrow hv' hb2 hown hlt
  go_wp2_with (at_builtin; refine wpList_run rfl _ _ _ _ rfl HR.out ?_)
  go_wp2
  go_ret2
  exact ⟨rfl, HP.out, HB.out, HK.out⟩
theorem escL_app (l m : List UInt8) : escL (l ++ m) = escL l ++ escL m := by
  induction l with
  | nil => rfl
  | cons b r ih => simp only [List.cons_append, escL, ih, List.append_assoc]
theorem escL_len (l : List UInt8) : (escL l).length ≤ 2 * l.length := by
  induction l with
  | nil => simp [escL]
  | cons b r ih =>
    simp only [escL, List.length_append, List.length_cons]
    split
    · simp only [List.length_cons, List.length_nil]; omega
    · split <;> simp only [List.length_cons, List.length_nil] <;> omega
theorem bu_stay {T e B b : Nat} {bs : List Value} {W W' : World} (h : Lib.IsBuilder T e B b bs W) (hb : Below W.heap.size W W') : Lib.IsBuilder T e B b bs W' := by
  rcases h with ⟨h0, v, h1, h2, h3⟩ | ⟨h0, v, h1, h2, h3⟩
  · exact .inl ⟨h0, v, (hb.block b (Array.getElem?_eq_some_iff.1 h1).1).trans h1, owns_below h2 hb, h3⟩
  · exact .inr ⟨h0, v, (hb.block b (Array.getElem?_eq_some_iff.1 h1).1).trans h1, owns_below h2 hb, h3⟩
theorem esc_take (s : ByteArray) (k : Nat) (h : k < s.size) : escL (s.data.toList.take (k + 1)) = escL (s.data.toList.take k) ++ (if (s[k]'h).toNat = 10 then [92, 110] else if (s[k]'h).toNat = 92 ∨ (s[k]'h).toNat = 38 then [92, s[k]'h] else [s[k]'h]) := by
  rw [take_snocB s k h, escL_app]
  simp only [escL, List.append_nil]
theorem bu_blk {T e B b : Nat} {bs : List Value} {W : World} (h : Lib.IsBuilder T e B b bs W) : ∃ p v, W.heap[b]? = some (.cells #[p, v] T (0, 0)) ∧ W.ownsRow B e 1 v bs.length bs := by
  rcases h with ⟨h0, v, h1, h2, h3⟩ | ⟨h0, v, h1, h2, h3⟩
  · exact ⟨_, v, h1, h2⟩
  · exact ⟨_, v, h1, h2⟩
/-- A new block is none of the builder's. -/
theorem keep_below {W W' : World} {b : Nat} (hlt : b < W.heap.size) (hb : Below W.heap.size W W') : KeepB W W' b := fun r hr =>
  ⟨⟨Nat.lt_of_lt_of_le hr.1 hb.size, hr.2.1, fun p v hv => hr.2.2 p v ((hb.block b hlt).symm.trans hv)⟩, hb.block r hr.1⟩
theorem notB_new {W W' : World} {B b : Nat} {bs : List Value} (h : Lib.IsBuilder 68 5 B b bs W) (hb : Below W.heap.size W W') (hs : W.heap.size < W'.heap.size) : NotB W' b W.heap.size := by
  obtain ⟨p, v, h1, h2⟩ := bu_blk h
  have hlt := (Array.getElem?_eq_some_iff.1 h1).1
  refine ⟨hs, by omega, fun p' v' hv => ?_⟩
  rw [hb.block b hlt, h1] at hv
  cases hv
  intro e
  have := (owns_blk h2 e).2.1
  omega
theorem conv_below (w : World) (s : ByteArray) : Below w.heap.size w (Lib.bytesWorld w 5 s) := { os := rfl, tape := rfl, output := rfl, size := by rw [Lib.bytesWorld_size]; omega, block := fun k hk => Lib.bytesWorld_at_old w 5 s k hk }
theorem getD_byte (s : ByteArray) (k : Nat) (h : k < s.size) : (s.data.toList.getD k 0) = s[k]'h := by
  rw [List.getD_eq_getElem?_getD, List.getElem?_eq_getElem (by simpa using h)]
  rfl
theorem escape_any (B b : Nat) (l : List UInt8) (s : ByteArray) (w : World) (h : Lib.IsBuilder 68 5 B b (Lib.byteCells l) w) (hlen : l.length + 2 * s.size ≤ 140737488355328) (hBw : B ≤ w.heap.size) :
    Calls Tryz.prog 112 #[.pointer (some ⟨b, 0, none⟩), .string s] w fun e w' => e = .returned (.tuple #[]) ∧ Lib.IsBuilder 68 5 B b (Lib.byteCells (l ++ escL s.data.toList)) w' ∧ Below B w w' := by
  have hconv := Lib.run_convert_string_bytes (P := Tryz.prog) w 9 44 5 s Tryz.underlying9 undB Tryz.underlying5
  have hX := conv_below w s
  have hXs := Lib.bytesWorld_size w 5 s
  have hXc := Lib.bytesWorld_cell w 5 s
  have hNot := notB_new h hX (by rw [hXs]; omega)
  have hI := bu_stay h hX
  have HX := hideT (And.intro hX (And.intro hXs (And.intro hXc (And.intro hNot hI))))
  have hlist : s.data.toList.length = s.size := rfl
  clear hX hXs hXc hNot hI h
  go_enter Tryz.func112, Tryz.ntmps112
  go_wp2_with fail
  generalize Lib.bytesWorld w 5 s = X at *
  clear hconv
  generalize grownCap w s.size 0 5 = cp at *
  go_loopw [9] (fun i wr => ∃ k : Nat, k ≤ s.size ∧ i = .int .i64 k ∧ Lib.IsBuilder 68 5 B b (Lib.byteCells (l ++ escL (s.data.toList.take k))) wr ∧ Below B w wr ∧ KeepB X wr b) (fun i _ => s.size - (intOf i).toNat)
  case atStart => exact ⟨0, by omega, rfl, by simpa [escL] using HX.out.2.2.2.2, HX.out.1.mono hBw, KeepB.refl _ _⟩
  case round =>
    obtain ⟨k, hk, rfl, hb, hB, hK⟩ := hrel
    by_cases hlt : k < s.size
    · obtain ⟨hn, hrow⟩ := hK _ HX.out.2.2.2.1
      have ck : wr.cell? ⟨w.heap.size, k, none⟩ = some (.int .u8 ((s[k]'hlt).toNat : Nat)) := by
        rw [World.cell?_of_block (a := ⟨w.heap.size, k, none⟩) hrow, HX.out.2.2.1 k hlt, getD_byte s k hlt]
      have i1 : (k : Int) < (s.size : Int) := by omega
      have i2 : (0 : Int) ≤ (k : Int) := by omega
      have hel := escL_len (s.data.toList.take k)
      rw [List.length_take, hlist] at hel
      have hel2 : (Lib.byteCells (l ++ escL (s.data.toList.take k))).length + 2 ≤ 140737488355328 := by rw [Lib.byteCells_length, List.length_append]; omega
      have HE := hideT (esc_take s k hlt)
      have hc := (s[k]'hlt).toNat_lt
      have HB := hideT (And.intro hb (And.intro hB (And.intro hK hel2)))
      clear hb hB hK hel hn hrow hel2
      generalize hbyte : s[k]'hlt = c at *
      clear hbyte
      by_cases c1 : c.toNat = 10
      · have e1 : ((c.toNat : Int) == 10) = true := by rw [beq_iff_eq]; omega
        rw [if_pos c1] at HE
        go_wp2_with fail
        refine (writeString_any _ _ _ _ _ HB.out.1 (by have := HB.out.2.2.2; rw [Lib.byteCells_length] at this; exact this) (by have := HB.out.2.1.size; omega)).mono ?_
        rintro e w1 ⟨rfl, h1, hb1, hk1⟩
        have HF := hideT (And.intro h1 (And.intro (HB.out.2.1.trans hb1) (HB.out.2.2.1.trans hk1)))
        clear h1 hb1 hk1 ck
        go_wp2
        refine ⟨⟨k + 1, by omega, by go_num, .inr ?_, HF.out.2.1, HF.out.2.2⟩, by simp [intOf]; omega⟩
        rw [HE.out, ← List.append_assoc]
        exact HF.out.1
      · have e1 : ((c.toNat : Int) == 10) = false := by rw [beq_eq_false_iff_ne]; omega
        rw [if_neg c1] at HE
        by_cases c2 : c.toNat = 92 ∨ c.toNat = 38
        · rw [if_pos c2] at HE
          rcases c2 with c2 | c2
          · have e2 : ((c.toNat : Int) == 92) = true := by rw [beq_iff_eq]; omega
            go_wp2_with fail
            refine (xb6 _ _ _ _ _ HB.out.1 (by have := HB.out.2.2.2; omega) (by have := HB.out.2.1.size; omega)).mono ?_
            rintro e w1 ⟨rfl, h1, hb1, hk1⟩
            have HF1 := hideT (And.intro h1 (And.intro (HB.out.2.1.trans hb1) (HB.out.2.2.1.trans hk1)))
            clear h1 hb1 hk1 ck
            go_wp2_with fail
            refine (xb6 _ _ _ _ _ (.inr HF1.out.1) (by rw [List.length_append]; have := HB.out.2.2.2; simp only [List.length_singleton]; omega) (by have := HF1.out.2.1.size; omega)).mono ?_
            rintro e w2 ⟨rfl, h1, hb1, hk1⟩
            have HF := hideT (And.intro h1 (And.intro (HF1.out.2.1.trans hb1) (HF1.out.2.2.trans hk1)))
            clear h1 hb1 hk1
            go_wp2
            refine ⟨⟨k + 1, by omega, by go_num, .inr ?_, HF.out.2.1, HF.out.2.2⟩, by simp [intOf]; omega⟩
            rw [HE.out, ← List.append_assoc, cells_app _ [92, c], show Lib.byteCells [92, c] = [.int .u8 92] ++ [.int .u8 (c.toNat : Nat)] from rfl, ← List.append_assoc, c2]
            exact HF.out.1
          · have e2 : ((c.toNat : Int) == 92) = false := by rw [beq_eq_false_iff_ne]; omega
            have e3 : ((c.toNat : Int) == 38) = true := by rw [beq_iff_eq]; omega
            go_wp2_with fail
            refine (xb6 _ _ _ _ _ HB.out.1 (by have := HB.out.2.2.2; omega) (by have := HB.out.2.1.size; omega)).mono ?_
            rintro e w1 ⟨rfl, h1, hb1, hk1⟩
            have HF1 := hideT (And.intro h1 (And.intro (HB.out.2.1.trans hb1) (HB.out.2.2.1.trans hk1)))
            clear h1 hb1 hk1 ck
            go_wp2_with fail
            refine (xb6 _ _ _ _ _ (.inr HF1.out.1) (by rw [List.length_append]; have := HB.out.2.2.2; simp only [List.length_singleton]; omega) (by have := HF1.out.2.1.size; omega)).mono ?_
            rintro e w2 ⟨rfl, h1, hb1, hk1⟩
            have HF := hideT (And.intro h1 (And.intro (HF1.out.2.1.trans hb1) (HF1.out.2.2.trans hk1)))
            clear h1 hb1 hk1
            go_wp2
            refine ⟨⟨k + 1, by omega, by go_num, .inr ?_, HF.out.2.1, HF.out.2.2⟩, by simp [intOf]; omega⟩
            rw [HE.out, ← List.append_assoc, cells_app _ [92, c], show Lib.byteCells [92, c] = [.int .u8 92] ++ [.int .u8 (c.toNat : Nat)] from rfl, ← List.append_assoc, c2]
            exact HF.out.1
        · rw [if_neg c2] at HE
          have e2 : ((c.toNat : Int) == 92) = false := by rw [beq_eq_false_iff_ne]; omega
          have e3 : ((c.toNat : Int) == 38) = false := by rw [beq_eq_false_iff_ne]; omega
          go_wp2_with fail
          refine (xb6 _ _ _ _ _ HB.out.1 (by have := HB.out.2.2.2; omega) (by have := HB.out.2.1.size; omega)).mono ?_
          rintro e w1 ⟨rfl, h1, hb1, hk1⟩
          have HF := hideT (And.intro h1 (And.intro (HB.out.2.1.trans hb1) (HB.out.2.2.1.trans hk1)))
          clear h1 hb1 hk1 ck
          go_wp2
          refine ⟨⟨k + 1, by omega, by go_num, .inr ?_, HF.out.2.1, HF.out.2.2⟩, by simp [intOf]; omega⟩
          rw [HE.out, ← List.append_assoc, cells_app _ [c]]
          exact HF.out.1
    · obtain rfl : k = s.size := by omega
      rw [show s.data.toList.take s.size = s.data.toList from List.take_length] at hb
      have HF := hideT (And.intro hb hB)
      clear hb hB hK
      go_wp2
      go_end0
      exact ⟨rfl, HF.out.1, HF.out.2⟩
/-- What the parts' bulk bounds. -/
theorem oneT_len (p : Pt) : (oneT p).length ≤ 2 * (p.t.size + 3) := by
  unfold oneT
  split
  · have := escL_len p.t.data.toList
    rw [show p.t.data.toList.length = p.t.size from rfl] at this
    omega
  · split <;> simp only [List.length_cons, List.length_nil] <;> omega
/-- What Text answers. -/
def txO (r : Option (List UInt8)) : List UInt8 × Nat := match r with | some l => (l, 0) | none => ([], 1)
theorem text_any (v : Value) (ps : List Pt) (w : World) (hv : PRow w v ps) (hn : bulkP ps ≤ 1048576) :
    Calls Tryz.prog 87 #[v] w fun e w' => e = .returned (.tuple #[.string (bst (txO (tpl.textR ps [])).1), .int .i64 ((txO (tpl.textR ps [])).2 : Nat)]) ∧ Below w.heap.size w w' := by
  obtain ⟨pa, ca, rfl⟩ := hv.shape
  have hpl := bulkP_len ps
  generalize hR : tpl.textR ps [] = R
  have HR0 := hideT hR
  clear hR
  have hF := Lib.fresh_isBuilder 68 5 w
  have hB0 := (Below.refl w.heap.size w).alloc (Nat.le_refl _) (.cells #[.pointer none, .slice none 0 0] 68)
  go_enter Tryz.func87, Tryz.ntmps87
  go_wp2_with fail
  go_loopw [9] (fun i wr => ∃ (k : Nat) (l : List UInt8), k ≤ ps.length ∧ i = .int .i64 k ∧ Lib.IsBuilder 68 5 w.heap.size w.heap.size (Lib.byteCells l) wr ∧ Below w.heap.size w wr ∧ tpl.textR (ps.drop k) l = R ∧ l.length + 2 * bulkP (ps.drop k) ≤ 2097152) (fun i _ => ps.length - (intOf i).toNat)
  case atStart => exact ⟨0, [], by omega, rfl, hF, hB0, by rw [List.drop_zero]; exact HR0.out, by rw [List.drop_zero]; simp; omega⟩
  case round =>
    obtain ⟨k, l, hk, rfl, hb, hB, hrun, hl⟩ := hrel
    clear hF hB0 HR0
    by_cases hlt : k < ps.length
    · rcases hv with ⟨rfl, -⟩ | ⟨gb, off, c, e1, ha⟩
      · simp at hlt
      cases e1
      obtain ⟨a1, a2⟩ := ha k hlt
      have c1 := (hB.cell (p := ⟨gb, off + k * 2, none⟩) (cell_lt a1)).trans a1
      have c2 := (hB.cell (p := ⟨gb, off + k * 2 + 1, none⟩) (cell_lt a2)).trans a2
      have i1 : (k : Int) < (ps.length : Int) := by omega
      have i2 : (0 : Int) ≤ (k : Int) := by omega
      rw [List.drop_eq_getElem_cons hlt] at hrun hl
      generalize ps[k] = p at *
      obtain ⟨r, hr⟩ : ∃ r, ps.drop (k + 1) = r := ⟨_, rfl⟩
      have HD := hideT hr
      rw [hr] at hrun hl
      have HR := hideT hrun
      have h1T := oneT_len p
      simp only [bulkP] at hl
      have HL := hideT (show l.length + (oneT p).length + 2 * bulkP r ≤ 2097152 by omega)
      have hl2 : l.length + 2 * p.t.size + 2 ≤ 140737488355328 := by omega
      clear hrun hr ha a1 a2 h1T hl
      have hA := (Below.refl wr.heap.size wr).alloc (Nat.le_refl _) (.cells #[.int .i64 p.g, .string p.t] 116)
      have HBA := hideT (And.intro (hB.trans (hA.mono hB.size)) (bu_stay hb hA))
      have HW := hideT hb
      clear hB hA hb
      by_cases hg1 : p.g < -1
      · have hres := text_bad p r l (.inl hg1)
        have HBB := HBA
        go_wp2
        go_ret2
        exact ⟨by rw [← HR.out, hres]; rfl, HBB.out.1⟩
      · by_cases hg9 : 9 < p.g
        · have hres := text_bad p r l (.inr hg9)
          have HBB := HBA
          go_wp2
          go_ret2
          exact ⟨by rw [← HR.out, hres]; rfl, HBB.out.1⟩
        · have hres := text_ok p r l (fun h => h.elim hg1 hg9)
          by_cases hg2 : p.g = -1
          · have e2 : (p.g == -1) = true := by rw [beq_iff_eq]; exact hg2
            have HO1 := hideT (show oneT p = escL p.t.data.toList by unfold oneT; rw [if_pos hg2])
            rw [hg2] at HBA c1
            have HG2 := hideT hg2
            clear hg2 hg1 hg9 e2
            generalize hgg : p.g = pg at *
            clear hgg
            go_wp2_with fail
            refine (escape_any _ _ l p.t _ HBA.out.2 (by omega) (by have := HBA.out.1.size; omega)).mono ?_
            rintro e w1 ⟨rfl, h1, hb1⟩
            have HF := hideT (And.intro h1 (HBA.out.1.trans hb1))
            clear h1 hb1
            go_wp2
            refine ⟨⟨k + 1, l ++ oneT p, by omega, by go_num, ?_, HF.out.2, ?_, ?_⟩, by simp [intOf]; omega⟩
            · rw [HO1.out]
              exact HF.out.1
            · rw [HD.out, ← hres]
              exact HR.out
            · rw [HD.out, List.length_append]
              have := HL.out
              omega
          · by_cases hg0 : p.g = 0
            · have HO1 := hideT (show oneT p = [38] by unfold oneT; rw [if_neg hg2, if_pos hg0])
              rw [hg0] at HBA c1
              clear hg2 hg1 hg9 hg0
              generalize hgg : p.g = pg at *
              clear hgg
              go_wp2_with fail
              refine (xb6 _ _ _ _ _ HBA.out.2 (by rw [Lib.byteCells_length]; omega) (by have := HBA.out.1.size; omega)).mono ?_
              rintro e w1 ⟨rfl, h1, hb1, -⟩
              have HF := hideT (And.intro (show Lib.IsBuilder 68 5 w.heap.size w.heap.size (Lib.byteCells (l ++ [38])) w1 by rw [cells_app]; exact .inr h1) (HBA.out.1.trans hb1))
              clear h1 hb1
              go_wp2
              refine ⟨⟨k + 1, l ++ oneT p, by omega, by go_num, ?_, HF.out.2, ?_, ?_⟩, by simp [intOf]; omega⟩
              · rw [HO1.out]
                exact HF.out.1
              · rw [HD.out, ← hres]
                exact HR.out
              · rw [HD.out, List.length_append]
                have := HL.out
                omega
            · obtain ⟨n, hn0⟩ : ∃ n : Nat, p.g = (n : Int) := ⟨p.g.toNat, by omega⟩
              have HO1 := hideT (show oneT p = [92, UInt8.ofNat (48 + n)] by unfold oneT; rw [if_neg hg2, if_neg hg0, hn0, Int.toNat_natCast])
              have hn9 : n ≤ 9 := by omega
              have hn1 : 1 ≤ n := by omega
              rw [hn0] at HBA c1
              clear hg2 hg1 hg9 hg0
              generalize hgg : p.g = pg at *
              clear hgg hn0
              have j1 : ((n : Int) < -1) = False := by rw [eq_iff_iff, iff_false]; omega
              have j2 : ((9 : Int) < (n : Int)) = False := by rw [eq_iff_iff, iff_false]; omega
              have j3 : ((n : Int) == -1) = false := by rw [beq_eq_false_iff_ne]; omega
              have j4 : ((n : Int) == 0) = false := by rw [beq_eq_false_iff_ne]; omega
              have j5 : IntKind.u8.wrap (n : Int) = (n : Int) := by rw [IntKind.wrap_u8]; omega
              have j6 : IntKind.u8.wrap (48 + (n : Int)) = ((48 + n : Nat) : Int) := by rw [IntKind.wrap_u8]; omega
              go_wp2_with fail
              refine (xb6 _ _ _ _ _ HBA.out.2 (by rw [Lib.byteCells_length]; omega) (by have := HBA.out.1.size; omega)).mono ?_
              rintro e w1 ⟨rfl, h1, hb1, hk1⟩
              have bk : NotB (wr.alloc (.cells #[.int .i64 (n : Int), .string p.t] 116)) w.heap.size wr.heap.size := notB_new HW.out ((Below.refl wr.heap.size wr).alloc (Nat.le_refl _) _) (by simp)
              have bn := (hk1 _ bk).2
              have b0 : w1.cell? ⟨wr.heap.size, 0, none⟩ = some (.int .i64 (n : Int)) := by
                rw [World.cell?_of_block (a := ⟨wr.heap.size, 0, none⟩) bn]
                exact new_cell wr [.int .i64 (n : Int), .string p.t] 116 0 _ rfl
              have HF1 := hideT (And.intro h1 (HBA.out.1.trans hb1))
              clear h1 hb1 hk1 bk bn
              go_wp2_with fail
              refine (xb6 _ _ _ _ _ (.inr HF1.out.1) (by rw [List.length_append, Lib.byteCells_length]; simp only [List.length_singleton]; omega) (by have := HF1.out.2.size; omega)).mono ?_
              rintro e w2 ⟨rfl, h1, hb1, -⟩
              have e8 : (UInt8.ofNat (48 + n)).toNat = 48 + n := by have e9 : (UInt8.ofNat (48 + n)).toNat = (48 + n) % 256 := rfl; omega
              have HF := hideT (And.intro (show Lib.IsBuilder 68 5 w.heap.size w.heap.size (Lib.byteCells (l ++ [92, UInt8.ofNat (48 + n)])) w2 by
                rw [cells_app, show Lib.byteCells [92, UInt8.ofNat (48 + n)] = [.int .u8 92] ++ [.int .u8 ((UInt8.ofNat (48 + n)).toNat : Nat)] from rfl, e8, ← List.append_assoc]
                exact .inr h1) (HF1.out.2.trans hb1))
              clear h1 hb1 e8 b0
              go_wp2
              refine ⟨⟨k + 1, l ++ oneT p, by omega, by go_num, ?_, HF.out.2, ?_, ?_⟩, by simp [intOf]; omega⟩
              · rw [HO1.out]
                exact HF.out.1
              · rw [HD.out, ← hres]
                exact HR.out
              · rw [HD.out, List.length_append]
                have := HL.out
                omega
    · obtain rfl : k = ps.length := by omega
      rw [List.drop_length] at hrun
      have hres : R = some l := hrun.symm
      subst hres
      have HC := hideT hB
      go_wp2_with fail
      refine (xcv _ _ _ _ hb hB.size).mono ?_
      rintro e w1 ⟨rfl, hb1⟩
      have HF := hideT (hB.trans hb1)
      clear hb1 HC
      go_wp2
      go_ret2
      exact ⟨rfl, HF.out⟩

end sho
end Go.Proofs.YtidgnebbibkmhaaGreatDoor
