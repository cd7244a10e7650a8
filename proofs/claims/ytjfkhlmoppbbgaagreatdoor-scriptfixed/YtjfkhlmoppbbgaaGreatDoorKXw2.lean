/- ScriptFixed: the two lists; the loop over them. -/
import Derived.Test.YtjfkhlmoppbbgaaGreatDoorKXv2
import Derived.Deep.Cut
import Derived.BigQuiet
namespace Go.Proofs.YtjfkhlmoppbbgaaGreatDoor
open Go.RowKit
open scanP scrP tpl ytb

def txA : Array Value := #[.string ⟨#[48, 112]⟩, .string ⟨#[49, 44, 112]⟩, .string ⟨#[107]⟩, .string ⟨#[49]⟩, .string ⟨#[112, 32, 112]⟩, .string ⟨#[115, 47, 97]⟩, .string ⟨#[115, 47, 97, 47, 98, 47, 103, 103]⟩, .string ⟨#[115, 47, 97, 47, 92, 49, 47]⟩, .string ⟨#[47, 92, 40, 47, 112]⟩, .string ⟨#[121, 47, 97, 98, 47, 99, 47]⟩, .string ⟨#[97, 32, 120]⟩, .string ⟨#[33, 33, 112]⟩, .string ⟨#[58]⟩, .string ⟨#[119]⟩, .string ⟨#[49, 35]⟩, .string ⟨#[115, 47, 97, 47, 98, 47, 48]⟩, .string ⟨#[115, 47, 97, 47, 98, 47, 53, 49, 51]⟩, .string ⟨#[121, 47, 97, 92, 113, 47, 98, 99, 47]⟩, .string ⟨#[92]⟩, .string ⟨#[98, 49, 50, 51, 52, 53, 54, 55, 56, 57, 48, 49, 50, 51, 52, 53, 54, 55, 56, 57, 48, 49, 50, 51, 52, 53, 54, 55, 56, 57, 48, 49, 50, 120]⟩, .string ⟨#[36, 44, 36, 44, 112]⟩, .string ⟨#[112, 59, 49, 50, 51, 52, 53, 54, 55, 56, 57, 48, 112]⟩, .string ⟨#[115]⟩, .string ⟨#[115, 47, 97, 47, 92]⟩, .string ⟨#[97, 92, 10]⟩, .string ⟨#[115, 47, 97, 47, 98, 47, 50, 103, 51]⟩]
def wnA : Array Value := #[.int .i64 17, .int .i64 0, .int .i64 17, .int .i64 2, .int .i64 18, .int .i64 0, .int .i64 18, .int .i64 1, .int .i64 19, .int .i64 2, .int .i64 6, .int .i64 0, .int .i64 20, .int .i64 7, .int .i64 11, .int .i64 0, .int .i64 10, .int .i64 0, .int .i64 21, .int .i64 0, .int .i64 19, .int .i64 0, .int .i64 18, .int .i64 1, .int .i64 22, .int .i64 0, .int .i64 3, .int .i64 0, .int .i64 18, .int .i64 1, .int .i64 20, .int .i64 6, .int .i64 20, .int .i64 6, .int .i64 12, .int .i64 0, .int .i64 17, .int .i64 0, .int .i64 22, .int .i64 0, .int .i64 18, .int .i64 3, .int .i64 17, .int .i64 2, .int .i64 19, .int .i64 0, .int .i64 6, .int .i64 0, .int .i64 6, .int .i64 0, .int .i64 20, .int .i64 8]
set_option maxRecDepth 100000 in
set_option maxHeartbeats 2000000 in
theorem bld_texts {a : Act} {op : Oper} {w : World} (ho : op.op = .buildSlice 44 26 #[(0, .const (.string ⟨#[48, 112]⟩)), (1, .const (.string ⟨#[49, 44, 112]⟩)), (2, .const (.string ⟨#[107]⟩)), (3, .const (.string ⟨#[49]⟩)), (4, .const (.string ⟨#[112, 32, 112]⟩)), (5, .const (.string ⟨#[115, 47, 97]⟩)), (6, .const (.string ⟨#[115, 47, 97, 47, 98, 47, 103, 103]⟩)), (7, .const (.string ⟨#[115, 47, 97, 47, 92, 49, 47]⟩)), (8, .const (.string ⟨#[47, 92, 40, 47, 112]⟩)), (9, .const (.string ⟨#[121, 47, 97, 98, 47, 99, 47]⟩)), (10, .const (.string ⟨#[97, 32, 120]⟩)), (11, .const (.string ⟨#[33, 33, 112]⟩)), (12, .const (.string ⟨#[58]⟩)), (13, .const (.string ⟨#[119]⟩)), (14, .const (.string ⟨#[49, 35]⟩)), (15, .const (.string ⟨#[115, 47, 97, 47, 98, 47, 48]⟩)), (16, .const (.string ⟨#[115, 47, 97, 47, 98, 47, 53, 49, 51]⟩)), (17, .const (.string ⟨#[121, 47, 97, 92, 113, 47, 98, 99, 47]⟩)), (18, .const (.string ⟨#[92]⟩)), (19, .const (.string ⟨#[98, 49, 50, 51, 52, 53, 54, 55, 56, 57, 48, 49, 50, 51, 52, 53, 54, 55, 56, 57, 48, 49, 50, 51, 52, 53, 54, 55, 56, 57, 48, 49, 50, 120]⟩)), (20, .const (.string ⟨#[36, 44, 36, 44, 112]⟩)), (21, .const (.string ⟨#[112, 59, 49, 50, 51, 52, 53, 54, 55, 56, 57, 48, 112]⟩)), (22, .const (.string ⟨#[115]⟩)), (23, .const (.string ⟨#[115, 47, 97, 47, 92]⟩)), (24, .const (.string ⟨#[97, 92, 10]⟩)), (25, .const (.string ⟨#[115, 47, 97, 47, 98, 47, 50, 103, 51]⟩))]) : (execOp a.eval op).run Tryz.prog w = .ok (.value (.slice (some ⟨w.heap.size, 0, none⟩) 26 26)) (w.alloc (.cells txA 9)) := by
  unfold txA
  go_simp
  try rfl
set_option maxRecDepth 100000 in
set_option maxHeartbeats 2000000 in
theorem bld_wants {ev : Operand → Value} {op : Oper} {w : World} (x0 x1 x2 x3 x4 x5 x6 x7 x8 x9 x10 x11 x12 x13 x14 x15 x16 x17 x18 x19 x20 x21 x22 x23 x24 x25 : Operand) (ho : op.op = .buildSlice 45 26 #[(0, x0), (1, x1), (2, x2), (3, x3), (4, x4), (5, x5), (6, x6), (7, x7), (8, x8), (9, x9), (10, x10), (11, x11), (12, x12), (13, x13), (14, x14), (15, x15), (16, x16), (17, x17), (18, x18), (19, x19), (20, x20), (21, x21), (22, x22), (23, x23), (24, x24), (25, x25)]) (h0 : ev x0 = .agg #[.int .i64 17, .int .i64 0]) (h1 : ev x1 = .agg #[.int .i64 17, .int .i64 2]) (h2 : ev x2 = .agg #[.int .i64 18, .int .i64 0]) (h3 : ev x3 = .agg #[.int .i64 18, .int .i64 1]) (h4 : ev x4 = .agg #[.int .i64 19, .int .i64 2]) (h5 : ev x5 = .agg #[.int .i64 6, .int .i64 0]) (h6 : ev x6 = .agg #[.int .i64 20, .int .i64 7]) (h7 : ev x7 = .agg #[.int .i64 11, .int .i64 0]) (h8 : ev x8 = .agg #[.int .i64 10, .int .i64 0]) (h9 : ev x9 = .agg #[.int .i64 21, .int .i64 0]) (h10 : ev x10 = .agg #[.int .i64 19, .int .i64 0]) (h11 : ev x11 = .agg #[.int .i64 18, .int .i64 1]) (h12 : ev x12 = .agg #[.int .i64 22, .int .i64 0]) (h13 : ev x13 = .agg #[.int .i64 3, .int .i64 0]) (h14 : ev x14 = .agg #[.int .i64 18, .int .i64 1]) (h15 : ev x15 = .agg #[.int .i64 20, .int .i64 6]) (h16 : ev x16 = .agg #[.int .i64 20, .int .i64 6]) (h17 : ev x17 = .agg #[.int .i64 12, .int .i64 0]) (h18 : ev x18 = .agg #[.int .i64 17, .int .i64 0]) (h19 : ev x19 = .agg #[.int .i64 22, .int .i64 0]) (h20 : ev x20 = .agg #[.int .i64 18, .int .i64 3]) (h21 : ev x21 = .agg #[.int .i64 17, .int .i64 2]) (h22 : ev x22 = .agg #[.int .i64 19, .int .i64 0]) (h23 : ev x23 = .agg #[.int .i64 6, .int .i64 0]) (h24 : ev x24 = .agg #[.int .i64 6, .int .i64 0]) (h25 : ev x25 = .agg #[.int .i64 20, .int .i64 8]) : (execOp ev op).run Tryz.prog w = .ok (.value (.slice (some ⟨w.heap.size, 0, none⟩) 26 26)) (w.alloc (.cells wnA 25)) := by
  unfold wnA
  go_simp
  try rfl
theorem tx_list : txA = (fixT.map (fun t => Value.string (bst t))).toArray := rfl
def prV : List (Nat × Nat) → List Value
  | [] => []
  | x :: r => .int .i64 (x.1 : Nat) :: .int .i64 (x.2 : Nat) :: prV r
theorem wn_list : wnA = (prV fixW).toArray := rfl
theorem pr_at : ∀ (l : List (Nat × Nat)) (k : Nat) (x : Nat × Nat), l[k]? = some x → (prV l)[k * 2]? = some (.int .i64 (x.1 : Nat)) ∧ (prV l)[k * 2 + 1]? = some (.int .i64 (x.2 : Nat))
  | [], k, x, h => by simp at h
  | y :: r, 0, x, h => by
    cases h
    exact ⟨rfl, rfl⟩
  | y :: r, k + 1, x, h => by
    have h2 := pr_at r k x (by simpa using h)
    rw [show (k + 1) * 2 = k * 2 + 1 + 1 by omega]
    exact ⟨by simpa [prV] using h2.1, by simpa [prV] using h2.2⟩
theorem fix_at (k : Nat) (hk : k < 26) : ∃ t e p, fixT[k]? = some t ∧ fixW[k]? = some (e, p) ∧ scrR gM t = ([], false, e, p) ∧ t.length ≤ 100 := by
  have h1 : k < fixT.length := hk
  have h2 : k < fixW.length := hk
  refine ⟨fixT[k], fixW[k].1, fixW[k].2, List.getElem?_eq_getElem h1, List.getElem?_eq_getElem h2, ?_, ?_⟩
  · have h := congrArg (fun l => l[k]?) fix_all
    simp only [List.getElem?_map, List.getElem?_eq_getElem h1, List.getElem?_eq_getElem h2, Option.map_some] at h
    exact Option.some.inj h
  · have h3 : ∀ t ∈ fixT, t.length ≤ 100 := by decide
    exact h3 _ (List.getElem_mem h1)
theorem inf5 : (Tryz.prog.info? 5).map (fun i => (i.zero, i.size, i.bytes)) = some (some (.int .u8 0), 1, 1) := by kernel_rfl
/-- The row of semicolons, filled up to k. -/
def fillV (k : Nat) : List Value := List.replicate k (.int .u8 59) ++ List.replicate (4097 - k) (.int .u8 0)
theorem fill_len (k : Nat) (h : k ≤ 4097) : (fillV k).length = 4097 := by unfold fillV; rw [List.length_append, List.length_replicate, List.length_replicate]; omega
theorem fill_set (k : Nat) (h : k < 4097) : (fillV k).set k (.int .u8 59) = fillV (k + 1) := by
  unfold fillV
  rw [show 4097 - k = (4097 - (k + 1)) + 1 by omega, List.replicate_succ (n := 4097 - (k + 1)), List.set_append_right _ _ (by rw [List.length_replicate]; omega), List.length_replicate, Nat.sub_self, List.set_cons_zero, List.replicate_succ' (n := k), List.append_assoc]
  rfl
theorem fill_at (k : Nat) (h : k < 4097) : (fillV k)[k]? = some (.int .u8 0) := by
  unfold fillV
  rw [List.getElem?_append_right (by rw [List.length_replicate]; omega), List.length_replicate, Nat.sub_self, List.getElem?_replicate, if_pos (by omega)]
theorem made_cells (n : Nat) : madeCells (Value.int .u8 0).cells n = (List.replicate n (.int .u8 0)).toArray := by
  apply Array.ext'
  apply List.ext_getElem?
  intro j
  simp [madeCells, Value.cells, Nat.mod_one, List.getElem?_replicate]
  by_cases h : j < n
  · rw [List.getElem?_range h, if_pos h]; rfl
  · rw [List.getElem?_eq_none (by rw [List.length_range]; omega), if_neg h]; rfl
theorem make_four {a : Act} {op : Oper} {W : World} (ho : op.op = .makeSlice 35 (.const (.int .i64 4097)) (.const (.int .i64 4097))) : (execOp a.eval op).run Tryz.prog W = .ok (.value (.slice (some ⟨W.heap.size, 0, none⟩) 4097 4097)) (W.alloc (.cells (fillV 0).toArray 5)) := by
  have hm : (Instr.makeSlice 35 (.int .i64 4097) (.int .i64 4097)).run Tryz.prog W = .ok (.slice (some ⟨W.heap.size, 0, none⟩) 4097 4097) (W.alloc (.cells (fillV 0).toArray 5)) := by
    have h := inf5
    cases hi : Tryz.prog.info? 5 with
    | none => rw [hi] at h; simp at h
    | some i =>
      rw [hi] at h
      simp only [Option.map_some, Option.some.injEq, Prod.mk.injEq] at h
      obtain ⟨h1, h2, h3⟩ := h
      have h4 := run_makeSlice (P := Tryz.prog) W 35 5 i _ Tryz.underlying35 hi h1 .i64 .i64 4097 4097 (by omega) (by omega) (by rw [h2]; decide) (by rw [h3]; decide) (by omega)
      rw [h4, h2]
      have e : madeCells (Value.int .u8 0).cells ((4097 : Int).toNat * 1) = (fillV 0).toArray := made_cells 4097
      rw [e]
      rfl
  have he : ∀ v, a.eval (.const v) = v := fun _ => rfl
  unfold execOp
  simp only [ho]
  simp only [he, Sem.run_bind, hm, Result.andThen_ok, Sem.run_pure]
theorem byte_fill (k : Nat) (h : k ≤ 4097) : Lib.byteCells (List.replicate k 59) = (fillV 4097).take k := by
  unfold Lib.byteCells fillV
  rw [Nat.sub_self, List.replicate_zero, List.append_nil, List.take_replicate, Nat.min_eq_left h, List.map_replicate]
  rfl
theorem conv_op {a : Act} {op : Oper} {W : World} {base : Nat} {v : Value} (x : Operand) (ho : op.op = .convert 35 9 x) (l : List UInt8) (hx : a.eval x = v) (h : W.ownsRow base 5 1 v l.length (Lib.byteCells l)) : (execOp a.eval op).run Tryz.prog W = .ok (.value (.string (bst l))) W := by
  have hc := conv_bytes h
  unfold execOp
  simp only [ho, hx, Sem.run_bind, hc, Result.andThen_ok, Sem.run_pure]
set_option maxRecDepth 100000 in
set_option maxHeartbeats 4000000 in
theorem fixed_any (w : World) (hg : Gl w) : Calls Tryz.prog 7 #[] w fun e w' => e = .returned (.bool true) ∧ Below w.heap.size w w' := by
  have HG := hideT hg
  clear hg
  have a1 := (Below.refl w.heap.size w).alloc (Nat.le_refl _) (.cells txA 9)
  have n1 := heap_alloc_new w (.cells txA 9)
  have a2 := (Below.refl (w.alloc (.cells txA 9)).heap.size (w.alloc (.cells txA 9))).alloc (Nat.le_refl _) (.cells wnA 25)
  have n2 := heap_alloc_new (w.alloc (.cells txA 9)) (.cells wnA 25)
  have n1' := (a2.block _ (blk_lt n1)).trans n1
  rw [one_sz] at n2
  have HX := hideT (And.intro n1' (And.intro n2 (a1.trans (a2.mono a1.size))))
  clear a1 n1 a2 n2 n1'
  go_enter Tryz.func7, Tryz.ntmps7
  go_wp2_with (first | (refine wl_value rfl (bld_texts rfl) ?_) | (refine wl_value rfl (bld_wants _ _ _ _ _ _ _ _ _ _ _ _ _ _ _ _ _ _ _ _ _ _ _ _ _ _ rfl rfl rfl rfl rfl rfl rfl rfl rfl rfl rfl rfl rfl rfl rfl rfl rfl rfl rfl rfl rfl rfl rfl rfl rfl rfl rfl) ?_))
  revert HX
  generalize (w.alloc (.cells txA 9)).alloc (.cells wnA 25) = X
  intro HX
  go_loopw [52] (fun i wr => ∃ k : Nat, k ≤ 26 ∧ i = .int .i64 k ∧ Hid (Below X.heap.size X wr)) (fun i _ => 26 - (intOf i).toNat)
  case atStart => exact ⟨0, by omega, rfl, hideT (Below.refl _ _)⟩
  case round =>
    obtain ⟨k, hk, rfl, HW⟩ := hrel
    obtain ⟨x1, x2, x3⟩ := HX.out
    have n1 := (HW.out.block _ (blk_lt x1)).trans x1
    have n2 := (HW.out.block _ (blk_lt x2)).trans x2
    have HBw := hideT (x3.trans (HW.out.mono x3.size))
    clear x1 x2 x3
    by_cases hlt : k < 26
    · obtain ⟨t, e, p, h1, h2, h3, h4⟩ := fix_at k hlt
      have q1 : wr.cell? ⟨w.heap.size, k, none⟩ = some (.string (bst t)) := by
        simp only [World.cell?, n1, tx_list]
        simp [h1]
      have i1 : (k : Int) < 26 := by omega
      have i2 : (0 : Int) ≤ (k : Int) := by omega
      have HP := hideT (parse_reads (bst t) (by rw [bst_size]; omega) wr (HG.out.below HBw.out))
      have HN2 := hideT n2
      have HPR := hideT (pr_at fixW k (e, p) h2)
      rw [bst_list, h3] at HP
      clear h1 h2 h3 n1 n2
      go_wp2_with fail
      refine HP.out.mono ?_
      rintro e9 w2 ⟨v, rfl, hC, hb⟩
      obtain ⟨a, cp, rfl, -⟩ := hC
      have a2 := (Below.refl w2.heap.size w2).alloc (Nat.le_refl _) (.cells #[.int .i64 (e : Int), .int .i64 (p : Int)] 25)
      have m2 := heap_alloc_new w2 (.cells #[.int .i64 (e : Int), .int .i64 (p : Int)] 25)
      have b2 := hb.trans (a2.mono hb.size)
      have m1 := (b2.block _ (blk_lt HN2.out)).trans HN2.out
      have HB2 := hideT (HW.out.trans (b2.mono HW.out.size))
      simp only [List.length_nil] at *
      go_upto_region 7 with fail
      revert HB2
      revert m1
      revert m2
      generalize w2.alloc (.cells #[.int .i64 (e : Int), .int .i64 (p : Int)] 25) = Y
      intro m2 m1 HB2
      have c1 : Y.cell? ⟨w2.heap.size, 0, none⟩ = some (.int .i64 (e : Int)) := by simp only [World.cell?, m2]; rfl
      have c2 : Y.cell? ⟨w2.heap.size, 1, none⟩ = some (.int .i64 (p : Int)) := by simp only [World.cell?, m2]; rfl
      have c3 : Y.cell? ⟨w.heap.size + 1, k * 2, none⟩ = some (.int .i64 (e : Int)) := by
        simp only [World.cell?, m1, wn_list]
        simp [HPR.out.1]
      have c4 : Y.cell? ⟨w.heap.size + 1, k * 2 + 1, none⟩ = some (.int .i64 (p : Int)) := by
        simp only [World.cell?, m1, wn_list]
        simp [HPR.out.2]
      clear m1 m2 a2 b2 hb HP HN2 HPR q1
      go_big_quiet (fail)
      have HE := hideT (show Below X.heap.size X Y from HB2.out)
      clear HB2 c1 c2 c3 c4
      go_wp2_with fail
      exact ⟨⟨k + 1, by omega, by go_num, hideT ⟨HE.out.os, HE.out.tape, HE.out.output, HE.out.size, HE.out.block⟩⟩, by simp [intOf]; omega⟩
    · have i1 : ((k : Int) < 26) = False := by rw [eq_iff_iff, iff_false]; omega
      clear n1 n2
      have a3 := (Below.refl wr.heap.size wr).alloc (Nat.le_refl _) (.cells (fillV 0).toArray 5)
      have n3 := heap_alloc_new wr (.cells (fillV 0).toArray 5)
      have HX3 := hideT (And.intro n3 (And.intro HBw.out.size (HBw.out.trans (a3.mono HBw.out.size))))
      clear a3 n3
      go_wp2_with (refine wl_value rfl (make_four rfl) ?_)
      revert HX3
      generalize wr.alloc (.cells (fillV 0).toArray 5) = X3
      intro HX3
      clear HW HBw HX
      generalize wr.heap.size = gb at *
      go_loopw [81] (fun i wq => ∃ m : Nat, m ≤ 4097 ∧ i = .int .i64 m ∧ Hid (wq.heap[gb]? = some (.cells (fillV m).toArray 5 (0, 0)) ∧ w.heap.size ≤ gb ∧ Below w.heap.size w wq)) (fun i _ => 4097 - (intOf i).toNat)
      case atStart => exact ⟨0, by omega, rfl, HX3⟩
      case round =>
        obtain ⟨m, hm, rfl, HQ⟩ := hrel
        by_cases hmt : m < 4097
        · have j1 : (m : Int) < 4097 := by omega
          have j2 : (0 : Int) ≤ (m : Int) := by omega
          have c1 : wr.cell? ⟨gb, m, none⟩ = some (.int .u8 0) := by simp only [World.cell?, HQ.out.1]; simp [fill_at m hmt]
          have c2 : wr.frozen? ⟨gb, m, none⟩ = false := by simp [World.frozen?, HQ.out.1]
          have HQ2 := hideT (show (wr.setCell ⟨gb, m, none⟩ (.int .u8 59)).heap[gb]? = some (.cells (fillV (m + 1)).toArray 5 (0, 0)) ∧ w.heap.size ≤ gb ∧ Below w.heap.size w (wr.setCell ⟨gb, m, none⟩ (.int .u8 59)) from ⟨by
            simp only [World.setCell, Array.getElem?_modify, if_true, HQ.out.1, Option.map_some]
            simp [fill_set m hmt], HQ.out.2.1, HQ.out.2.2.setCell (p := ⟨gb, m, none⟩) HQ.out.2.1 _⟩)
          clear HQ
          go_wp2_with fail
          exact ⟨⟨m + 1, by omega, by go_num, HQ2⟩, by simp [intOf]; omega⟩
        · obtain rfl : m = 4097 := by omega
          have j1 : (((4097 : Nat) : Int) < 4097) = False := by rw [eq_iff_iff, iff_false]; omega
          obtain ⟨y1, y2, y3⟩ := HQ.out
          obtain ⟨R, hR⟩ : ∃ R : List UInt8, R = List.replicate 4097 59 := ⟨_, rfl⟩
          obtain ⟨R5, hR5⟩ : ∃ R : List UInt8, R = List.replicate 4095 59 := ⟨_, rfl⟩
          have hRl : R.length = 4097 := by rw [hR, List.length_replicate]
          have hR5l : R5.length = 4095 := by rw [hR5, List.length_replicate]
          have HO := hideT (fun (V : World) (hV : V.heap[gb]? = some (.cells (fillV 4097).toArray 5 (0, 0))) => (⟨by rw [Lib.byteCells_length, Nat.mul_one], .inr ⟨gb, 4097, _, by rw [hRl], Nat.le_refl _, hV, by omega, by decide, by rw [List.size_toArray, fill_len 4097 (by omega)], by rw [hRl, hR, byte_fill 4097 (by omega)]⟩⟩ : V.ownsRow gb 5 1 (.slice (some ⟨gb, 0, none⟩) 4097 4097) R.length (Lib.byteCells R)))
          have HO5 := hideT (fun (V : World) (hV : V.heap[gb]? = some (.cells (fillV 4097).toArray 5 (0, 0))) => (⟨by rw [Lib.byteCells_length, Nat.mul_one], .inr ⟨gb, 4097, _, by rw [hR5l], Nat.le_refl _, hV, by omega, by decide, by rw [List.size_toArray, fill_len 4097 (by omega)], by rw [hR5l, hR5, byte_fill 4095 (by omega)]⟩⟩ : V.ownsRow gb 5 1 (.slice (some ⟨gb, 0, none⟩) 4095 4097) R5.length (Lib.byteCells R5)))
          have HP1 := hideT (parse_reads (bst R) (by rw [bst_size, hRl]; omega) wr (HG.out.below y3))
          have hsc : scrR gM R = ([], false, 13, 0) := by rw [hR]; exact fix_big
          rw [bst_list, hsc] at HP1
          obtain ⟨c0, hc0⟩ := fix_p
          rw [← hR5] at hc0
          have HC0 := hideT hc0
          have hbs : (bst R5 ++ (⟨#[112]⟩ : ByteArray)) = bst (R5 ++ [112]) := by apply ByteArray.ext; simp [bst, ByteArray.data_append]
          have HBS := hideT hbs
          have hs5 : (bst R5).size = 4095 := by rw [bst_size, hR5l]
          have HO1 := hideT (show wr.ownsRow gb 5 1 (.slice (some ⟨gb, 0, none⟩) 4097 4097) R.length (Lib.byteCells R) from HO.out wr y1)
          have hRn := hRl
          have HQ1 := hideT (And.intro y1 (And.intro y2 y3))
          have HL5 := hideT hR5l
          clear y1 y2 y3 HQ hR hR5 hRl hRn hR5l hsc hc0 hbs HO
          go_wp2_with (refine wl_value rfl (conv_op (base := gb) (v := .slice (some ⟨gb, 0, none⟩) 4097 4097) _ rfl R rfl HO1.out) ?_)
          refine HP1.out.mono ?_
          rintro e9 w4 ⟨v4, rfl, -, hb4⟩
          have z13 : ((13 : Nat) : Int) = 13 := rfl
          have z00 : ((0 : Nat) : Int) = 0 := rfl
          simp only [z13, z00]
          have a4 := (Below.refl w4.heap.size w4).alloc (Nat.le_refl _) (.cells #[.int .i64 13, .int .i64 0] 25)
          have n4 := heap_alloc_new w4 (.cells #[.int .i64 13, .int .i64 0] 25)
          have b4 := hb4.trans (a4.mono hb4.size)
          obtain ⟨y1, y2, y3⟩ := HQ1.out
          have g4 := (b4.block gb (blk_lt y1)).trans y1
          have HX4 := hideT (And.intro n4 (And.intro g4 (y3.trans (b4.mono y3.size))))
          clear y1 y3 a4 n4 b4 g4 hb4 HP1 HO1 HQ1
          go_upto_region 17 with fail
          revert HX4
          generalize w4.alloc (.cells #[.int .i64 13, .int .i64 0] 25) = X4
          intro HX4
          obtain ⟨n4, g4, b4⟩ := HX4.out
          have HO6 := hideT (HO5.out X4 g4)
          have HP2 := hideT (parse_reads (bst (R5 ++ [112])) (by rw [bst_size, List.length_append, HL5.out]; simp) X4 (HG.out.below b4))
          rw [bst_list, HC0.out] at HP2
          clear n4 g4 b4
          go_wp2_with (refine wl_value rfl (conv_op (base := gb) (v := .slice (some ⟨gb, 0, none⟩) 4095 4097) _ rfl R5 rfl HO6.out) ?_)
          rw [HBS.out]
          refine HP2.out.mono ?_
          rintro e9 w5 ⟨v5, rfl, hC5, hb5⟩
          obtain ⟨a5, cp5, rfl, -⟩ := hC5
          simp only [z00]
          have a5' := (Below.refl w5.heap.size w5).alloc (Nat.le_refl _) (.cells #[.int .i64 0, .int .i64 0] 25)
          have n5 := heap_alloc_new w5 (.cells #[.int .i64 0, .int .i64 0] 25)
          have b5 := hb5.trans (a5'.mono hb5.size)
          obtain ⟨n4, g4, b4⟩ := HX4.out
          have n4' := (b5.block _ (blk_lt n4)).trans n4
          have HX5 := hideT (And.intro n5 (And.intro n4' (b4.trans (b5.mono b4.size))))
          clear n4 g4 b4 n4' n5 a5' b5 hb5 HP2 HO6 HX4
          go_upto_region 18 with fail
          revert HX5
          generalize w5.alloc (.cells #[.int .i64 0, .int .i64 0] 25) = X5
          intro HX5
          have HP3 := hideT (parse_reads ⟨#[35, 110]⟩ (by decide) X5 (HG.out.below HX5.out.2.2))
          rw [show (⟨#[35, 110]⟩ : ByteArray).data.toList = [35, 110] from rfl, fix_n] at HP3
          go_wp2_with fail
          refine HP3.out.mono ?_
          rintro e9 w6 ⟨v6, rfl, -, hb6⟩
          simp only [z00]
          have a6 := (Below.refl w6.heap.size w6).alloc (Nat.le_refl _) (.cells #[.int .i64 0, .int .i64 0] 25)
          have n6 := heap_alloc_new w6 (.cells #[.int .i64 0, .int .i64 0] 25)
          have b6 := hb6.trans (a6.mono hb6.size)
          obtain ⟨n5, n4, b5⟩ := HX5.out
          have HX6 := hideT (And.intro n6 (And.intro ((b6.block _ (blk_lt n5)).trans n5) (And.intro ((b6.block _ (blk_lt n4)).trans n4) (b5.trans (b6.mono b5.size)))))
          clear n4 n5 b5 n6 a6 b6 hb6 HP3 HX5
          go_upto_region 19 with fail
          revert HX6
          generalize w6.alloc (.cells #[.int .i64 0, .int .i64 0] 25) = X6
          intro HX6
          have HP4 := hideT (parse_reads ⟨#[35, 110, 110, 10]⟩ (by decide) X6 (HG.out.below HX6.out.2.2.2))
          rw [show (⟨#[35, 110, 110, 10]⟩ : ByteArray).data.toList = [35, 110, 110, 10] from rfl, fix_nn] at HP4
          go_wp2_with fail
          refine HP4.out.mono ?_
          rintro e9 w7 ⟨v7, rfl, -, hb7⟩
          simp only [z00]
          have a7 := (Below.refl w7.heap.size w7).alloc (Nat.le_refl _) (.cells #[.int .i64 0, .int .i64 0] 25)
          have n7 := heap_alloc_new w7 (.cells #[.int .i64 0, .int .i64 0] 25)
          have b7 := hb7.trans (a7.mono hb7.size)
          obtain ⟨n6, n5, n4, b6⟩ := HX6.out
          have HX7 := hideT (And.intro n7 (And.intro ((b7.block _ (blk_lt n6)).trans n6) (And.intro ((b7.block _ (blk_lt n5)).trans n5) (And.intro ((b7.block _ (blk_lt n4)).trans n4) (b6.trans (b7.mono b6.size))))))
          clear n4 n5 n6 b6 n7 a7 b7 hb7 HP4 HX6
          go_upto_region 20 with fail
          revert HX7
          generalize w7.alloc (.cells #[.int .i64 0, .int .i64 0] 25) = X7
          intro HX7
          have HA := hideT (awake_any X7 (HG.out.below HX7.out.2.2.2.2))
          go_wp2_with fail
          refine HA.out.mono ?_
          rintro e9 w8 ⟨rfl, hb8⟩
          obtain ⟨n7, n6, n5, n4, b7⟩ := HX7.out
          have q7 : w8.cell? ⟨w7.heap.size, 0, none⟩ = some (.int .i64 0) := by simp only [World.cell?, (hb8.block _ (blk_lt n7)).trans n7]; rfl
          have q6 : w8.cell? ⟨w6.heap.size, 0, none⟩ = some (.int .i64 0) := by simp only [World.cell?, (hb8.block _ (blk_lt n6)).trans n6]; rfl
          have q5 : w8.cell? ⟨w5.heap.size, 0, none⟩ = some (.int .i64 0) := by simp only [World.cell?, (hb8.block _ (blk_lt n5)).trans n5]; rfl
          have q4 : w8.cell? ⟨w4.heap.size, 0, none⟩ = some (.int .i64 13) := by simp only [World.cell?, (hb8.block _ (blk_lt n4)).trans n4]; rfl
          have q4' : w8.cell? ⟨w4.heap.size, 1, none⟩ = some (.int .i64 0) := by simp only [World.cell?, (hb8.block _ (blk_lt n4)).trans n4]; rfl
          have HF := hideT (b7.trans (hb8.mono b7.size))
          clear n4 n5 n6 n7 b7 hb8 HX7 HA
          go_wp2
          go_ret
          exact ⟨rfl, HF.out⟩
end Go.Proofs.YtjfkhlmoppbbgaaGreatDoor
