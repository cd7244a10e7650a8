/- Step, Load, and the walk of a machine that is none. -/
import Derived.Test.YtcpokkpjeeblnaaGreatDoorKNa
import Derived.Test.YtcpokkpjeeblnaaGreatDoorKEj
import Derived.Deep.MidRow
import Derived.WalkMore
set_option maxRecDepth 100000
set_option maxHeartbeats 4000000
set_option linter.unusedSimpArgs false
set_option linter.unusedVariables false
namespace Go.Proofs.YtcpokkpjeeblnaaGreatDoor
open Go.RowKit
open em (zC zO New al_op xq2 xj1 und_op xlk)
namespace mch
/-- The cells of the command p; pv its parts. -/
def cL (pv : Value) : List Value := [.int .i64 0, .int .i64 0, .int .i64 0, .string ⟨#[]⟩, .int .i64 0, .int .i64 0, .string ⟨#[]⟩, .bool false, .int .u8 112, .string ⟨#[]⟩, .string ⟨#[]⟩, .string ⟨#[]⟩, .string ⟨#[]⟩, pv, .int .i64 0, .bool false, .bool false, .string ⟨#[]⟩, .string ⟨#[]⟩]
def zM : List Value := zC ++ [.int .i64 0, .pointer none]
def oL (pv : Value) : List Value := cL pv ++ [.int .i64 0, .pointer none]
theorem own_any (W : World) (pv : Value) : Calls Tryz.prog 47 #[.agg (cL pv).toArray] W fun e w' => e = .returned (.tuple #[.pointer none, .int .i64 0]) ∧ Below W.heap.size W w' := by
  have hn := heap_alloc_new W (.cells (cL pv).toArray 71)
  have hb := (Below.refl W.heap.size W).alloc (Nat.le_refl _) (.cells (cL pv).toArray 71)
  have c12 : (W.alloc (.cells (cL pv).toArray 71)).cell? ⟨W.heap.size, 12, none⟩ = some (.string ⟨#[]⟩) := by rw [Lib.cell_of_heap hn]; rfl
  have HB := hideT hb
  clear hn hb
  go_enter Tryz.func47, Tryz.ntmps47
  go_upto_region 1 with fail
  generalize W.alloc (.cells (cL pv).toArray 71) = X at *
  go_wp2
  go_ret2
  exact ⟨rfl, HB.out⟩
theorem open_any (W : World) (fa : Option Addr) (fc : Nat) : Calls Tryz.prog 29 #[.slice none 0 0, .slice fa 0 fc] W fun e w' => ∃ b F, e = .returned (.tuple #[pt b, .int .i64 0]) ∧ sto.I0 w' F b ⟨[], [], 0⟩ ∧ (∀ k, F k → W.heap.size ≤ k) ∧ Below W.heap.size W w' := by
  have HN := hideT (sto.new_any W (.slice none 0 0) [] ⟨none, 0, rfl, fun k x h => by simp at h⟩ (fun x h => by cases h))
  go_enter Tryz.func29, Tryz.ntmps29
  go_wp2_with fail
  refine HN.out.mono ?_
  intro e w1 h1
  obtain ⟨hb, h1⟩ := h1
  rcases h1 with ⟨h0, _⟩ | ⟨_, b, F, rfl, hI, hF⟩
  · exact absurd rfl h0
  have HI := hideT (And.intro hI (And.intro hF hb))
  clear hI hF hb HN
  go_wp2_with fail
  go_loopw [21] (fun i wr => i = .int .i64 0 ∧ wr = w1) (fun _ _ => 0)
  case atStart => exact ⟨rfl, rfl⟩
  case round =>
    obtain ⟨rfl, rfl⟩ := hrel
    go_wp2
    go_ret2
    exact ⟨b, F, rfl, HI.out⟩
theorem infoMo : (Tryz.prog.info? 74).map (fun i => (i.zero, i.size, i.bytes)) = some (some (.agg zM.toArray), 21, 232) := by kernel_rfl
theorem infoAr : (Tryz.prog.info? 102).map (fun i => (i.zero, i.size, i.bytes)) = some (some (.agg #[.int .i64 0, .int .i64 0, .string ⟨#[]⟩, .int .i64 0, .int .i64 0, .string ⟨#[]⟩, .bool false]), 7, 72) := by kernel_rfl
theorem make_ops (V : World) : (Instr.makeSlice 35 (.int .i64 1) (.int .i64 1)).run Tryz.prog V = .ok (.slice (some ⟨V.heap.size, 0, none⟩) 1 1) (V.alloc (.cells zM.toArray 74)) := by
  obtain ⟨i0, hi, hz0, hz1, hz2⟩ := info_parts infoMo
  have := run_makeSlice (P := Tryz.prog) (w := V) 35 74 i0 _ Tryz.underlying35 hi hz0 .i64 .i64 1 1 (by omega) (by omega) (by rw [hz1]; decide) (by rw [hz2]; decide) (by omega)
  rw [hz1, show madeCells (Value.agg zM.toArray).cells ((1 : Int).toNat * 21) = zM.toArray by kernel_rfl] at this
  exact this
theorem make_rows (V : World) : (Instr.makeSlice 57 (.int .i64 1) (.int .i64 1)).run Tryz.prog V = .ok (.slice (some ⟨V.heap.size, 0, none⟩) 1 1) (V.alloc (.cells #[.int .i64 0, .int .i64 0, .string ⟨#[]⟩, .int .i64 0, .int .i64 0, .string ⟨#[]⟩, .bool false] 102)) := by
  obtain ⟨i0, hi, hz0, hz1, hz2⟩ := info_parts infoAr
  have := run_makeSlice (P := Tryz.prog) (w := V) 57 102 i0 _ Tryz.underlying57 hi hz0 .i64 .i64 1 1 (by omega) (by omega) (by rw [hz1]; decide) (by rw [hz2]; decide) (by omega)
  rw [hz1, show madeCells (Value.agg #[.int .i64 0, .int .i64 0, .string ⟨#[]⟩, .int .i64 0, .int .i64 0, .string ⟨#[]⟩, .bool false]).cells ((1 : Int).toNat * 7) = #[.int .i64 0, .int .i64 0, .string ⟨#[]⟩, .int .i64 0, .int .i64 0, .string ⟨#[]⟩, .bool false] by kernel_rfl] at this
  exact this
theorem bld_op {ev : Operand → Value} {op : Oper} {w : World} {pa : Option Addr} {n m : Nat} (x y z : Operand) (ho : op.op = .build 74 #[(0, x), (1, y), (2, z)]) (hx : ev x = .agg (cL (.slice pa n m)).toArray) (hy : ev y = .int .i64 0) (hz : ev z = .pointer none) : (execOp ev op).run Tryz.prog w = .ok (.value (.agg (oL (.slice pa n m)).toArray)) w := by
  unfold cL at hx
  unfold oL cL
  go_simp
  try rfl
theorem infoM : (Tryz.prog.info? 74).map (·.size) = some 21 := by kernel_rfl
theorem cL_one (pa : Option Addr) (n m : Nat) : (cL (.slice pa n m)).toArray.all (·.oneCell') = true := by kernel_rfl
theorem oL_one (pa : Option Addr) (n m : Nat) : (oL (.slice pa n m)).toArray.all (·.oneCell') = true := by kernel_rfl
theorem yL_one (pa : Option Addr) (n m : Nat) (j s : Int) : (cL (.slice pa n m) ++ [Value.int .i64 j, Value.int .i64 s]).toArray.all (·.oneCell') = true := by kernel_rfl
theorem bld_x {a : Act} {op : Oper} {w : World} {pa : Option Addr} {n m : Nat} {xs zs : List Value} (hxs : Hid (xs = cL (.slice pa n m))) (hzs : Hid (zs = oL (.slice pa n m))) (x y z : Operand) (ho : op.op = .build 74 #[(0, x), (1, y), (2, z)]) (hx : a.eval x = .agg xs.toArray) (hy : a.eval y = .int .i64 0) (hz : a.eval z = .pointer none) : (execOp a.eval op).run Tryz.prog w = .ok (.value (.agg zs.toArray)) w := by
  rw [hzs.out]
  rw [hxs.out] at hx
  exact bld_op x y z ho hx hy hz
theorem read_any (W : World) (g : Nat) (pa : Option Addr) (pn pm : Nat) (hg : W.heap[g]? = some (.cells (cL (.slice pa pn pm) ++ [Value.int .i64 0, Value.int .i64 (-1)]).toArray 98 (0, 0))) : Calls Tryz.prog 30 #[.slice (some ⟨g, 0, none⟩) 1 1] W fun e w' => ∃ og xg, e = .returned (.tuple #[.slice (some ⟨og, 0, none⟩) 1 1, .slice (some ⟨xg, 0, none⟩) 1 1, .int .i64 0]) ∧ w'.heap[og]? = some (.cells (oL (.slice pa pn pm)).toArray 74 (0, 0)) ∧ w'.heap[xg]? = some (.cells #[.int .i64 0, .int .i64 0, .string ⟨#[]⟩, .int .i64 0, .int .i64 0, .string ⟨#[]⟩, .bool false] 102 (0, 0)) ∧ W.heap.size ≤ og ∧ W.heap.size ≤ xg ∧ Below W.heap.size W w' := by
  have hk1 := make_ops W
  have hk2 := make_rows (W.alloc (.cells zM.toArray 74))
  rw [World.size_alloc] at hk2
  obtain ⟨X, hX⟩ : ∃ X, X = (W.alloc (.cells zM.toArray 74)).alloc (.cells #[.int .i64 0, .int .i64 0, .string ⟨#[]⟩, .int .i64 0, .int .i64 0, .string ⟨#[]⟩, .bool false] 102) := ⟨_, rfl⟩
  have hA : Below W.heap.size W X := by rw [hX]; exact ((Below.refl _ _).alloc (Nat.le_refl _) _).alloc (by simp) _
  have hz : X.heap.size = W.heap.size + 1 + 1 := by rw [hX]; simp
  have h0 : X.heap[W.heap.size]? = some (.cells zM.toArray 74 (0, 0)) := by rw [hX]; exact (Below.heap_alloc _ _ _ (by simp)).trans (heap_alloc_new W _)
  have h1 : X.heap[W.heap.size + 1]? = some (.cells #[.int .i64 0, .int .i64 0, .string ⟨#[]⟩, .int .i64 0, .int .i64 0, .string ⟨#[]⟩, .bool false] 102 (0, 0)) := by
    have := heap_alloc_new (W.alloc (.cells zM.toArray 74)) (.cells #[.int .i64 0, .int .i64 0, .string ⟨#[]⟩, .int .i64 0, .int .i64 0, .string ⟨#[]⟩, .bool false] 102)
    rw [World.size_alloc] at this
    rw [hX]
    exact this
  have H0 := hideT h0
  have H1 := hideT h1
  have HA := hideT hA
  have HZ := hideT hz
  have HX := hideT ((hA.block g (blk_lt hg)).trans hg)
  obtain ⟨xs, hxs⟩ : ∃ xs, xs = cL (.slice pa pn pm) := ⟨_, rfl⟩
  obtain ⟨ys, hys⟩ : ∃ ys, ys = cL (.slice pa pn pm) ++ [Value.int .i64 0, Value.int .i64 (-1)] := ⟨_, rfl⟩
  rw [← hys] at HX
  have hxl : xs.length = 19 := by rw [hxs]; rfl
  have hyl : ys.length = 21 := by rw [hys]; rfl
  have IM := hideT (show (Tryz.prog.info? 71).map (·.size) = some xs.length by rw [hxl]; exact xcm)
  have IO := hideT (show (Tryz.prog.info? 98).map (·.size) = some ys.length by rw [hyl]; exact xlk)
  have O9 := hideT (show xs.toArray.all (·.oneCell') = true by rw [hxs]; exact cL_one _ _ _)
  have OO := hideT (show ys.toArray.all (·.oneCell') = true by rw [hys]; exact yL_one _ _ _ _ _)
  have ZL := hideT (show zC.length = xs.length by rw [hxl]; rfl)
  have ZO := hideT (show zO.length = ys.length by rw [hyl]; rfl)
  have HRY := hideT (fun (V : World) (b : Nat) (h : V.heap[b]? = some (.cells ys.toArray 98 (0, 0))) => show V.rangeAt b 0 xs from fun j v hv => (by rw [Nat.zero_add, Lib.cell_of_heap h]; rw [hys, List.getElem?_toArray, List.getElem?_append_left (by rw [← hxs]; exact (List.getElem?_eq_some_iff.1 hv).1), ← hxs]; exact hv))
  have HRX := hideT (fun (V : World) (b : Nat) (h : V.heap[b]? = some (.cells xs.toArray 71 (0, 0))) => show V.rangeAt b 0 xs from fun j v hv => (by rw [Nat.zero_add, Lib.cell_of_heap h, List.getElem?_toArray]; exact hv))
  have HYR := hideT (fun (V : World) (b : Nat) (h : V.heap[b]? = some (.cells ys.toArray 98 (0, 0))) => show V.rangeAt b 0 ys from fun j v hv => (by rw [Nat.zero_add, Lib.cell_of_heap h, List.getElem?_toArray]; exact hv))
  have HXS := hideT hxs
  have HYS := hideT hys
  clear h0 h1 hA hz hg hxl hyl
  go_enter Tryz.func30, Tryz.ntmps30
  go_upto_region 3 with fail
  rw [← hX]
  clear hk1 hk2 hX hxs hys
  go_wp2_with fail
  go_loopw [20] (fun i wr => (i = .int .i64 0 ∧ Hid (wr = X)) ∨ (i = .int .i64 1 ∧ Hid (wr.heap[W.heap.size]? = some (.cells (oL (.slice pa pn pm)).toArray 74 (0, 0)) ∧ wr.heap[W.heap.size + 1]? = some (.cells #[.int .i64 0, .int .i64 0, .string ⟨#[]⟩, .int .i64 0, .int .i64 0, .string ⟨#[]⟩, .bool false] 102 (0, 0)) ∧ Below W.heap.size W wr))) (fun i _ => 1 - (intOf i).toNat)
  case atStart => exact .inl ⟨rfl, hideT rfl⟩
  case round =>
    rcases hrel with ⟨rfl, he⟩ | ⟨rfl, hf⟩
    · have he2 := he.out
      subst he2
      clear he
      go_upto_region 7 with (first | (refine wpList_load_mid rfl 98 _ rfl g 0 rfl ys _ (HYR.out _ _ HX.out) und_op rfl IO.out ?_) | (refine al_op rfl rfl ?_; intro w3 H3) | (refine xj1 rfl 98 _ _ rfl ys zO rfl rfl H3.out ZO.out IO.out OO.out ?_; intro w4 H4) | (refine wpList_load_mid rfl 71 _ rfl wr.heap.size 0 rfl xs _ (HRY.out _ _ H4.out.blk) xc9 rfl IM.out ?_) | (refine xq2 rfl rfl ?_; intro w5 H5) | (refine xj1 rfl 71 _ _ rfl xs zC rfl rfl H5.out ZL.out IM.out O9.out ?_; intro w6 H6))
      have HOW := hideT (show Calls Tryz.prog 47 #[.agg xs.toArray] w6 fun e w' => e = .returned (.tuple #[.pointer none, .int .i64 0]) ∧ Below w6.heap.size w6 w' by rw [HXS.out]; exact own_any w6 _)
      have hs4 := H4.out.sz
      have hb46 := H6.out.bel
      have hb06 : Below wr.heap.size wr w6 := H4.out.bel.trans (hb46.mono (by omega))
      have B6 := hideT hb06
      have K4 := hideT ((hb46.block wr.heap.size (by omega)).trans H4.out.blk)
      clear hs4 hb46 hb06
      go_wp2_with (first | (refine wpList_load_mid rfl 71 _ rfl w4.heap.size 0 rfl xs _ (HRX.out _ _ H6.out.blk) xc9 rfl IM.out ?_))
      refine HOW.out.mono ?_
      rintro e w7 ⟨rfl, hb7⟩
      have K7 := hideT ((hb7.block w4.heap.size (blk_lt H6.out.blk)).trans H6.out.blk)
      have hb07 := B6.out.trans (hb7.mono B6.out.size)
      have j19 : w7.cell? ⟨wr.heap.size, 19, none⟩ = some (.int .i64 0) := by rw [Lib.cell_of_heap ((hb7.block _ (blk_lt K4.out)).trans K4.out), HYS.out]; rfl
      obtain ⟨zs, hzs⟩ : ∃ zs, zs = oL (.slice pa pn pm) := ⟨_, rfl⟩
      have HZS := hideT hzs
      have hzl : zs.length = 21 := by rw [hzs]; rfl
      have k0 := (hb07.block W.heap.size (blk_lt H0.out)).trans H0.out
      have TH := hideT (xcd k0 zs.toArray.size (by rw [List.size_toArray, hzl]; rfl))
      have IZ := hideT (show (Tryz.prog.info? 74).map (·.size) = some zs.toArray.size by rw [List.size_toArray, hzl]; exact infoM)
      have OZ := hideT (show zs.toArray.all (·.oneCell') = true by rw [hzs]; exact oL_one _ _ _)
      have S0 := hideT (show (w7.setCells W.heap.size 0 zs.toArray.toList).heap[W.heap.size]? = some (.cells zs.toArray 74 (0, 0)) from xcs _ k0 (by rw [hzl]; rfl))
      have S1 := hideT ((mch.setCells_far W.heap.size zs.toArray.toList w7 0 (Nat.succ_ne_self _)).trans ((hb07.block (W.heap.size + 1) (blk_lt H1.out)).trans H1.out))
      have hne : w4.heap.size ≠ W.heap.size := by have := H4.out.sz; have := HZ.out; omega
      have S4 := hideT ((mch.setCells_far W.heap.size zs.toArray.toList w7 0 hne).trans K7.out)
      have BS := hideT ((HA.out.trans (hb07.mono HA.out.size)).trans (mch.setCells_bel W.heap.size W.heap.size (Nat.le_refl _) zs.toArray.toList w7 0))
      clear hb7 hb07 hzs hzl k0 hne HOW H3 H4 H5 H6 B6 K4
      go_upto_region 11 with (first | (refine wpList_load_mid rfl 71 _ rfl w4.heap.size 0 rfl xs _ (HRX.out _ _ K7.out) xc9 rfl IM.out ?_) | (refine xid rfl (bld_x HXS HZS _ _ _ rfl rfl rfl rfl) ?_) | (refine wpList_store_mid rfl 74 _ _ rfl W.heap.size 0 zs.toArray rfl rfl TH.out IZ.out OZ.out ?_))
      generalize w7.setCells W.heap.size 0 zs.toArray.toList = w8 at *
      have e1 : w8.cell? ⟨w4.heap.size, 1, none⟩ = some (.int .i64 0) := by rw [Lib.cell_of_heap S4.out, HXS.out]; rfl
      have e2 : w8.cell? ⟨w4.heap.size, 2, none⟩ = some (.int .i64 0) := by rw [Lib.cell_of_heap S4.out, HXS.out]; rfl
      have e3 : w8.cell? ⟨w4.heap.size, 3, none⟩ = some (.string ⟨#[]⟩) := by rw [Lib.cell_of_heap S4.out, HXS.out]; rfl
      have e4 : w8.cell? ⟨w4.heap.size, 4, none⟩ = some (.int .i64 0) := by rw [Lib.cell_of_heap S4.out, HXS.out]; rfl
      have e5 : w8.cell? ⟨w4.heap.size, 5, none⟩ = some (.int .i64 0) := by rw [Lib.cell_of_heap S4.out, HXS.out]; rfl
      have e6 : w8.cell? ⟨w4.heap.size, 6, none⟩ = some (.string ⟨#[]⟩) := by rw [Lib.cell_of_heap S4.out, HXS.out]; rfl
      have e7 : w8.cell? ⟨w4.heap.size, 7, none⟩ = some (.bool false) := by rw [Lib.cell_of_heap S4.out, HXS.out]; rfl
      have r0 : w8.cell? ⟨W.heap.size + 1, 0, none⟩ = some (.int .i64 0) := by rw [Lib.cell_of_heap S1.out]; rfl
      have r1 : w8.cell? ⟨W.heap.size + 1, 1, none⟩ = some (.int .i64 0) := by rw [Lib.cell_of_heap S1.out]; rfl
      have r2 : w8.cell? ⟨W.heap.size + 1, 2, none⟩ = some (.string ⟨#[]⟩) := by rw [Lib.cell_of_heap S1.out]; rfl
      have r3 : w8.cell? ⟨W.heap.size + 1, 3, none⟩ = some (.int .i64 0) := by rw [Lib.cell_of_heap S1.out]; rfl
      have r4 : w8.cell? ⟨W.heap.size + 1, 4, none⟩ = some (.int .i64 0) := by rw [Lib.cell_of_heap S1.out]; rfl
      have r5 : w8.cell? ⟨W.heap.size + 1, 5, none⟩ = some (.string ⟨#[]⟩) := by rw [Lib.cell_of_heap S1.out]; rfl
      have r6 : w8.cell? ⟨W.heap.size + 1, 6, none⟩ = some (.bool false) := by rw [Lib.cell_of_heap S1.out]; rfl
      have fz : ∀ j, w8.frozen? ⟨W.heap.size + 1, j, none⟩ = false := fun j => by simp [World.frozen?, S1.out]
      have f0 := fz 0
      have f1 := fz 1
      have f2 := fz 2
      have f3 := fz 3
      have f4 := fz 4
      have f5 := fz 5
      have f6 := fz 6
      have HEND : Hid ((w8.setCells (W.heap.size + 1) 0 (#[.int .i64 0, .int .i64 0, .string ⟨#[]⟩, .int .i64 0, .int .i64 0, .string ⟨#[]⟩, .bool false] : Array Value).toList).heap[W.heap.size]? = some (.cells (oL (.slice pa pn pm)).toArray 74 (0, 0)) ∧ (w8.setCells (W.heap.size + 1) 0 (#[.int .i64 0, .int .i64 0, .string ⟨#[]⟩, .int .i64 0, .int .i64 0, .string ⟨#[]⟩, .bool false] : Array Value).toList).heap[W.heap.size + 1]? = some (.cells #[.int .i64 0, .int .i64 0, .string ⟨#[]⟩, .int .i64 0, .int .i64 0, .string ⟨#[]⟩, .bool false] 102 (0, 0)) ∧ Below W.heap.size W (w8.setCells (W.heap.size + 1) 0 (#[.int .i64 0, .int .i64 0, .string ⟨#[]⟩, .int .i64 0, .int .i64 0, .string ⟨#[]⟩, .bool false] : Array Value).toList)) := hideT ⟨by rw [mch.setCells_far _ _ _ _ (Nat.ne_of_lt (Nat.lt_succ_self _)), S0.out, HZS.out], setCells_same _ _ _ _ S1.out (fun j u hj => by rw [Nat.zero_add]; simpa using hj), BS.out.trans (mch.setCells_bel _ _ (Nat.le_succ _) _ _ _)⟩
      clear fz S0 S1 S4 BS K7 TH IZ OZ j19
      go_wp2
      exact ⟨.inr ⟨by go_num, HEND⟩, by simp [intOf]⟩
    · go_wp2
      go_ret3
      exact ⟨_, _, rfl, hf.out.1, hf.out.2.1, Nat.le_refl _, Nat.le_succ _, hf.out.2.2⟩
end mch
end Go.Proofs.YtcpokkpjeeblnaaGreatDoor
namespace Go.Proofs.YtcpokkpjeeblnaaGreatDoor
open Go.RowKit
namespace mch
variable {W : World} {N : Nat} {k : Bk} {oc : Array Value} {s : Mm}
theorem step_any (h : MX W N k oc s) (hc : oc[8]? = some (.int .u8 112)) (f : Nat) (hf : f ≤ 16) (ho : OkM s f) : Calls Tryz.prog 8 #[pt k.m, .int .i64 (f : Nat)] W fun e w' => e = .returned (.int .i64 ((stepR f s).1 : Nat)) ∧ MX w' N k oc (stepR f s).2 ∧ Below N W w' := by
  have HM := hideT h
  have HO := hideT ho
  have HC := hideT hc
  clear h ho hc
  go_enter Tryz.func8, Tryz.ntmps8
  go_wp2_with fail
  go_step3
  go_wp2_with fail
  go_step3
  go_wp2_with fail
  go_loopw [5, 6] (fun z i wr => ∃ (j : Nat) (s' : Mm), j ≤ f ∧ z = .int .i64 3 ∧ i = .int .i64 j ∧ Hid (MX wr N k oc s') ∧ Hid (OkM s' (f - j)) ∧ Hid (stepR (f - j) s' = stepR f s) ∧ Hid (Below N W wr)) (fun _ i _ => f - (intOf i).toNat)
  case atStart => exact ⟨0, s, by omega, rfl, rfl, HM, HO, hideT rfl, hideT (Below.refl _ _)⟩
  case round =>
    obtain ⟨j, s', hj, rfl, rfl, HX, HK, HE, HB⟩ := hrel
    obtain ⟨Fq, Fs, hX⟩ := HX.out
    have c15 := hX.c 15 (v := .bool s'.en) rfl
    have HA := hideT hX
    clear hX HX
    cases hen : s'.en with
    | true =>
      rw [hen] at c15
      have hR : stepR f s = (3, s') := by
        rw [← HE.out]
        cases f - j <;> simp [stepR, hen]
      have HR := hideT hR
      clear hen hR
      go_wp2
      rw [Exit.noGoto_ret]
      go_ret
      exact ⟨by rw [HR.out]; rfl, by rw [HR.out]; exact ⟨_, _, HA.out⟩, HB.out⟩
    | false =>
      rw [hen] at c15
      by_cases hjf : j < f
      · have i1 : ((f : Int) ≤ (j : Int)) = False := eq_false (by omega)
        have i2 : (f ≤ j) = False := eq_false (by omega)
        obtain ⟨n, hn⟩ : ∃ n, f - j = n + 1 := ⟨f - j - 1, by omega⟩
        have hn2 : f - (j + 1) = n := by omega
        rw [hn] at HK HE
        have hs1 : stepR f s = if hung s' then (1, s') else stepR n (nextM s') := by rw [← HE.out]; simp [stepR, hen]
        have HS := hideT hs1
        have HN2 := hideT hn2
        have HW := hideT (wants_any HA.out HC.out HK.out.nx)
        have HEN := hideT hen
        clear hen hs1 hn hn2 HE
        go_wp2_with fail
        refine HW.out.mono ?_
        rintro e w1 ⟨rfl, hb1⟩
        have h1 := HA.out.below hb1
        have B1 := hideT (HB.out.trans (hb1.mono HA.out.ns))
        have c3 := h1.c 3 (v := pt k.qb) rfl
        have H1 := hideT h1
        have HRD := hideT (reads_any h1)
        have HY := hideT (inp.ready_any h1.qu HK.out.q (by omega))
        clear h1 hb1 HW HA HB c15
        by_cases hx : s'.nx = -1
        · rw [decide_eq_true hx]
          rw [decide_eq_true hx] at HRD
          go_wp2_with fail
          refine HY.out.mono ?_
          rintro e w2 ⟨rfl, hb2⟩
          have h2 := H1.out.below hb2
          have B2 := hideT (B1.out.trans (hb2.mono H1.out.ns))
          have H2 := hideT h2
          have HRD2 := hideT (reads_any h2)
          rw [decide_eq_true hx] at HRD2
          have HLS := hideT (inp.last_any h2.qu HK.out.q (by omega))
          have c3 := h2.c 3 (v := pt k.qb) rfl
          clear h2 hb2 HY HRD H1 B1
          cases hr : s'.q.ready with
          | false =>
            have hR : stepR f s = (1, s') := by rw [HS.out]; simp [hung, hx, hr]
            have HR := hideT hR
            clear hR hr hx
            go_wp2
            rw [Exit.noGoto_ret]
            go_ret
            exact ⟨by rw [HR.out]; rfl, by rw [HR.out]; exact ⟨_, _, H2.out⟩, B2.out⟩
          | true =>
            have hR : stepR f s = stepR n (nextM s') := by rw [HS.out]; simp [hung, hr]
            have HR := hideT hR
            clear hR
            go_wp2_with fail
            refine HRD2.out.mono ?_
            rintro e w3 ⟨rfl, rfl⟩
            clear HRD2
            go_wp2_with fail
            refine HLS.out.mono ?_
            rintro e w4 ⟨rfl, hb4⟩
            have h4 := H2.out.below hb4
            have B4 := hideT (B2.out.trans (hb4.mono H2.out.ns))
            have H4 := hideT h4
            have c14 := h4.c 14 (v := .int .i64 (s'.tk : Nat)) rfl
            have f14 := h4.fz 14
            have HEN4 := hideT (end_any h4)
            clear h4 hb4 HLS H2 B2
            cases hla : s'.q.last with
            | true =>
              have hN : nextM s' = { s' with en := true } := by unfold nextM; rw [if_pos ⟨hx, hla⟩]
              have HNX := hideT hN
              clear hN hla hx hr
              go_wp2_with fail
              refine HEN4.out.mono ?_
              rintro e w5 ⟨rfl, h5, hb5⟩
              have H5 := hideT h5
              have B5 := hideT (B4.out.trans hb5)
              clear h5 hb5 HEN4
              go_wp2
              exact ⟨⟨j + 1, nextM s', by omega, rfl, by go_num, hideT (by rw [HNX.out]; exact ⟨_, _, H5.out⟩), hideT (by rw [HN2.out]; exact HK.out.next), hideT (by rw [HN2.out]; exact HR.out.symm), B5⟩, by simp [intOf]; omega⟩
            | false =>
              have hN : nextM s' = tickM { s' with tk := s'.tk + 1 } := by unfold nextM; rw [if_neg (fun e => by rw [hla] at e; exact absurd e.2 (by decide))]
              have HNX := hideT hN
              have ht := HK.out.tk
              have n5 : ((s'.tk : Int) == 10000) = false := by rw [beq_eq_false_iff_ne]; omega
              have n6 : (s'.tk == 10000) = false := by rw [beq_eq_false_iff_ne]; omega
              have v1 : IntKind.i64.wrap ((s'.tk : Int) + 1) = ((s'.tk + 1 : Nat) : Int) := by rw [IntKind.wrap_i64]; omega
              have h6 := H4.out.put (s' := { s' with tk := s'.tk + 1 }) 14 (.int .i64 ((s'.tk + 1 : Nat) : Int)) rfl rfl rfl
              have HT := hideT (tick_any h6 HC.out HK.out.q HK.out.S HK.out.sp (by show s'.S.wr + 1025 ≤ 32768; have := HK.out.wr; omega) (by have := HK.out.nx; exact this))
              have B6 := hideT (B4.out.trans (H4.out.bp 14 (.int .i64 ((s'.tk + 1 : Nat) : Int))))
              clear h6 hN hla hx hr HEN4
              go_wp2_with fail
              refine HT.out.mono ?_
              rintro e w7 ⟨rfl, h7, hb7⟩
              have H7 := hideT h7
              have B7 := hideT (B6.out.trans hb7)
              clear h7 hb7 HT
              go_wp2
              exact ⟨⟨j + 1, nextM s', by omega, rfl, by go_num, hideT (by rw [HNX.out]; exact H7.out), hideT (by rw [HN2.out]; exact HK.out.next), hideT (by rw [HN2.out]; exact HR.out.symm), B7⟩, by simp [intOf]; omega⟩
        · have hR : stepR f s = stepR n (nextM s') := by rw [HS.out]; simp [hung, hx]
          have HR := hideT hR
          rw [decide_eq_false hx]
          rw [decide_eq_false hx] at HRD
          have c14 := H1.out.c 14 (v := .int .i64 (s'.tk : Nat)) rfl
          have f14 := H1.out.fz 14
          have hN : nextM s' = tickM { s' with tk := s'.tk + 1 } := by unfold nextM; rw [if_neg (fun e => hx e.1)]
          have HNX := hideT hN
          have ht := HK.out.tk
          have n5 : ((s'.tk : Int) == 10000) = false := by rw [beq_eq_false_iff_ne]; omega
          have n6 : (s'.tk == 10000) = false := by rw [beq_eq_false_iff_ne]; omega
          have v1 : IntKind.i64.wrap ((s'.tk : Int) + 1) = ((s'.tk + 1 : Nat) : Int) := by rw [IntKind.wrap_i64]; omega
          have h6 := H1.out.put (s' := { s' with tk := s'.tk + 1 }) 14 (.int .i64 ((s'.tk + 1 : Nat) : Int)) rfl rfl rfl
          have HT := hideT (tick_any h6 HC.out HK.out.q HK.out.S HK.out.sp (by show s'.S.wr + 1025 ≤ 32768; have := HK.out.wr; omega) (by have := HK.out.nx; exact this))
          have B6 := hideT (B1.out.trans (H1.out.bp 14 (.int .i64 ((s'.tk + 1 : Nat) : Int))))
          clear h6 hN hx hR HY c3
          go_wp2_with fail
          refine HRD.out.mono ?_
          rintro e w3 ⟨rfl, rfl⟩
          clear HRD
          go_wp2_with fail
          refine HT.out.mono ?_
          rintro e w7 ⟨rfl, h7, hb7⟩
          have H7 := hideT h7
          have B7 := hideT (B6.out.trans hb7)
          clear h7 hb7 HT
          go_wp2
          exact ⟨⟨j + 1, nextM s', by omega, rfl, by go_num, hideT (by rw [HNX.out]; exact H7.out), hideT (by rw [HN2.out]; exact HK.out.next), hideT (by rw [HN2.out]; exact HR.out.symm), B7⟩, by simp [intOf]; omega⟩
      · have hR : stepR f s = (2, s') := by
          rw [← HE.out, show f - j = 0 by omega]
          simp [stepR, hen]
        have HR := hideT hR
        have i1 : ((f : Int) ≤ (j : Int)) = True := eq_true (by omega)
        have i2 : (f ≤ j) = True := eq_true (by omega)
        clear hen hR
        go_wp2
        rw [Exit.noGoto_ret]
        go_ret
        exact ⟨by rw [HR.out]; rfl, by rw [HR.out]; exact ⟨_, _, HA.out⟩, HB.out⟩
end mch
end Go.Proofs.YtcpokkpjeeblnaaGreatDoor
namespace Go.Proofs.YtcpokkpjeeblnaaGreatDoor
open Go.RowKit
open scanP scrP tpl ytb
open em (xeq BdPost bldS jmF slF opF opV xhd)
open emP (slN)
namespace mch
theorem p_bld : ∃ c : Co, scrR gM [112] = ([c], false, 0, 0) ∧ bldS (scrR gM [112]) = .inr [] ∧ jmF [c] 0 = 0 ∧ slF [c] 0 = -1 ∧ slN [c] = 0 ∧ ∀ pv, coV c pv = cL pv := by
  have h2 : ∀ G : Gr, scrR G [112] = (([⟨0, adr0, adr0, false, 112, [], [], [], [], [], 0, false, false, [], []⟩] : List Co), false, 0, 0) := fun G => by kernel_rfl
  refine ⟨_, h2 gM, ?_, ?_, ?_, ?_, fun pv => ?_⟩
  · rw [h2 gM]; rfl
  all_goals rfl
def s0 : Mm := ⟨[], -1, 0, false, inp.q0, ⟨[], [], 0⟩⟩
theorem build_p (w : World) (hg : Gl w) : Calls Tryz.prog 28 #[.string ⟨#[112]⟩] w fun e w' => ∃ g pa pn pm fa fc, e = .returned (.tuple #[.agg #[.bool false, .slice (some ⟨g, 0, none⟩) 1 1, .int .i64 0, .slice fa 0 fc], .agg #[.int .i64 0, .int .i64 0]]) ∧ w'.heap[g]? = some (.cells (cL (.slice pa pn pm) ++ [Value.int .i64 0, Value.int .i64 (-1)]).toArray 98 (0, 0)) ∧ Below w.heap.size w w' := by
  obtain ⟨c, hsc, hbs, hj, hs, hn, hcl⟩ := p_bld
  refine (xeq ⟨#[112]⟩ (by decide) w hg).mono ?_
  intro e w' h
  have hb := h.1
  have h := h.2
  rw [show scrR gM (⟨#[112]⟩ : ByteArray).data.toList = scrR gM [112] from rfl, hbs, hsc] at h
  simp only at h
  obtain ⟨L, g, fv, hm, hsl, _, _, _, _, hgb, hfv, rfl⟩ := h
  obtain ⟨fa, fc, hfs⟩ := owns_shape hfv
  subst hfs
  match L, hm with
  | [x], hm =>
    have hx : x.1 = c := by simpa using hm
    obtain ⟨pa, pn, pm, hp⟩ := hsl x (List.mem_singleton.2 rfl)
    refine ⟨g, pa, pn, pm, fa, fc, ?_, ?_, hb⟩
    · rw [hn]; rfl
    · have e1 : opF (jmF [c]) (slF [c]) 0 [x] = cL (.slice pa pn pm) ++ [Value.int .i64 0, Value.int .i64 (-1)] := by
        show opV x.1 x.2 (jmF [c] 0) (slF [c] 0) ++ [] = _
        rw [List.append_nil, hx, hp, hj, hs]
        unfold em.opV
        rw [hcl]
      rw [e1] at hgb
      exact hgb
theorem two_n (w : World) (o p : Obj) : ∃ X, X = (w.alloc o).alloc p ∧ Below w.heap.size w X ∧ X.heap[w.heap.size]? = some o ∧ X.heap[w.heap.size + 1]? = some p ∧ X.heap.size = w.heap.size + 1 + 1 := by
  refine ⟨_, rfl, ((Below.refl _ _).alloc (Nat.le_refl _) _).alloc (by simp) _, (Below.heap_alloc _ _ _ (by simp)).trans (heap_alloc_new w _), ?_, by simp⟩
  have := heap_alloc_new (w.alloc o) p
  rw [World.size_alloc] at this
  exact this
theorem load_fin {w w2 w3 w4 w5 : World} {Fs Fq : Nat → Prop} {og pb rb qb sb : Nat} {oc : Array Value} (HI : sto.I0 w2 Fs sb ⟨[], [], 0⟩) (HFs : ∀ k, Fs k → w.heap.size < k) (ho : w3.heap[og]? = some (.cells oc 74 (0, 0))) (go : w2.heap.size ≤ og) (hb3 : Below w2.heap.size w2 w3) (hpk : w4.heap[pb]? = some (.cells #[.slice (some ⟨rb, 0, none⟩) 1 1, .pointer none] 105 (0, 0))) (hrw : w4.heap[rb]? = some (.cells rV 109 (0, 0))) (gp : w3.heap.size ≤ pb) (gr : w3.heap.size ≤ rb) (hb4 : Below w3.heap.size w3 w4) (hb5 : Below w4.heap.size w4 w5) (hq : inp.I0 w5 Fq qb inp.q0) (hF : ∀ k, Fq k → w4.heap.size ≤ k) (hl : w.heap.size < w2.heap.size) (B4 : Below w.heap.size w w4) (a b : Value) :
    MX (((w5.setCell ⟨w.heap.size, 0, none⟩ a).setCell ⟨w.heap.size, 1, none⟩ b).alloc (.cells (mV ⟨w5.heap.size, og, pb, rb, qb, sb⟩ s0) 43)) w.heap.size ⟨w5.heap.size, og, pb, rb, qb, sb⟩ oc s0 ∧ Below w.heap.size w (((w5.setCell ⟨w.heap.size, 0, none⟩ a).setCell ⟨w.heap.size, 1, none⟩ b).alloc (.cells (mV ⟨w5.heap.size, og, pb, rb, qb, sb⟩ s0) 43)) := by
  obtain ⟨U, hU⟩ : ∃ U, U = (w5.setCell ⟨w.heap.size, 0, none⟩ a).setCell ⟨w.heap.size, 1, none⟩ b := ⟨_, rfl⟩
  rw [← hU]
  have hz : U.heap.size = w5.heap.size := by rw [hU, inp.put_size, inp.put_size]
  have hk : ∀ j, j ≠ w.heap.size → U.heap[j]? = w5.heap[j]? := fun j hj => by rw [hU, inp.put_far _ _ _ _ hj, inp.put_far _ _ _ _ hj]
  have hA := (Below.refl U.heap.size U).alloc (Nat.le_refl _) (.cells (mV ⟨w5.heap.size, og, pb, rb, qb, sb⟩ s0) 43)
  have hn := heap_alloc_new U (.cells (mV ⟨w5.heap.size, og, pb, rb, qb, sb⟩ s0) 43)
  rw [hz] at hn hA
  have s3 := hb3.size
  have s4 := hb4.size
  have s5 := hb5.size
  have lo := blk_lt ho
  have lp := blk_lt hpk
  have lr := blk_lt hrw
  have hV : ∀ j, j < w5.heap.size → j ≠ w.heap.size → (U.alloc (.cells (mV ⟨w5.heap.size, og, pb, rb, qb, sb⟩ s0) 43)).heap[j]? = w5.heap[j]? := fun j h1 h2 => (hA.block j h1).trans (hk j h2)
  have hBU : Below w.heap.size w U := by
    rw [hU]
    exact inp.below_put (inp.below_put (B4.trans (hb5.mono B4.size)) (Nat.le_refl _) _ _) (Nat.le_refl _) _ _
  refine ⟨⟨Fq, Fs, hn, ?_, ?_, ?_, ?_, ?_, fun j hj => ?_, fun j hj => ?_, ?_, ?_⟩, hBU.trans (hA.mono (by omega))⟩
  · exact (hV og (by omega) (by omega)).trans ((hb5.block og (by omega)).trans ((hb4.block og lo).trans ho))
  · exact (hV pb (by omega) (by omega)).trans ((hb5.block pb lp).trans hpk)
  · exact (hV rb (by omega) (by omega)).trans ((hb5.block rb lr).trans hrw)
  · refine inp.i0_keep hq (by rw [World.size_alloc]; omega) (fun j hj => hV j (inp.i0_lt hq j hj) (by have := hF j hj; omega))
  · refine HI.keep (fun j hj => ?_)
    have l := HI.lt j hj
    have l2 := HFs j hj
    exact (hV j (by omega) (by omega)).trans ((hb5.block j (by omega)).trans ((hb4.block j (by omega)).trans (hb3.block j l)))
  · have l := inp.i0_lt hq j hj
    have l2 := hF j hj
    exact ⟨by omega, by show j ≠ w5.heap.size; omega, by show j ≠ og; omega, by show j ≠ pb; omega, by show j ≠ rb; omega, fun h => by have := HI.lt j h; omega⟩
  · have l := HI.lt j hj
    have l2 := HFs j hj
    exact ⟨by omega, by show j ≠ w5.heap.size; omega, by show j ≠ og; omega, by show j ≠ pb; omega, by show j ≠ rb; omega⟩
  · show w.heap.size ≤ w5.heap.size; omega
  · show w.heap.size ≤ rb; omega
theorem load_any (w : World) (hg : Gl w) : Calls Tryz.prog 15 #[.string ⟨#[112]⟩, .bool false, .slice none 0 0] w fun e w' => ∃ k oc, e = .returned (.tuple #[pt k.m, .agg #[.int .i64 0, .int .i64 0]]) ∧ MX w' w.heap.size k oc s0 ∧ oc[8]? = some (.int .u8 112) ∧ Below w.heap.size w w' := by
  have hA := (Below.refl w.heap.size w).alloc (Nat.le_refl _) (.cells #[.int .i64 0, .int .i64 0] 45)
  have hn := heap_alloc_new w (.cells #[.int .i64 0, .int .i64 0] 45)
  obtain ⟨X0, hX0⟩ : ∃ X, X = w.alloc (.cells #[.int .i64 0, .int .i64 0] 45) := ⟨_, rfl⟩
  rw [← hX0] at hA hn
  have HB := hideT (build_p X0 (hg.below hA))
  have B0 := hideT hA
  have N0 := hideT hn
  clear hA hn hg
  go_enter Tryz.func15, Tryz.ntmps15
  go_upto_region 1 with fail
  rw [← hX0]
  clear hX0
  go_wp2_with fail
  refine HB.out.mono ?_
  rintro e w1 ⟨g, pa, pn, pm, fa, fc, rfl, hgb, hb1⟩
  obtain ⟨X1, hX1, hB1, hP, hF, _⟩ := two_n w1 (.cells #[.bool false, .slice (some ⟨g, 0, none⟩) 1 1, .int .i64 0, .slice fa 0 fc] 52) (.cells #[.int .i64 0, .int .i64 0] 45)
  go_upto_region 2 with fail
  rw [← hX1]
  have h01 := hb1.trans (hB1.mono hb1.size)
  have B1 := hideT (B0.out.trans (h01.mono B0.out.size))
  have N1 := hideT ((h01.block _ (blk_lt N0.out)).trans N0.out)
  have HG := hideT ((hB1.block g (blk_lt hgb)).trans hgb)
  have HP := hideT hP
  have q0 : X1.cell? ⟨w1.heap.size + 1, 0, none⟩ = some (.int .i64 0) := by rw [Lib.cell_of_heap hF]; rfl
  have q3 : X1.cell? ⟨w1.heap.size, 3, none⟩ = some (.slice fa 0 fc) := by rw [Lib.cell_of_heap hP]; rfl
  have HO := hideT (open_any X1 fa fc)
  clear hX1 hB1 hP hF hb1 hgb h01 HB
  generalize w1.heap.size = b1 at *
  go_wp2_with fail
  refine HO.out.mono ?_
  rintro e w2 ⟨sb, Fs, rfl, hI, hFs, hb2⟩
  have B2 := hideT (B1.out.trans (hb2.mono B1.out.size))
  have N2 := hideT ((hb2.block _ (blk_lt N1.out)).trans N1.out)
  have hG2 := (hb2.block g (blk_lt HG.out)).trans HG.out
  have hP2 := (hb2.block b1 (blk_lt HP.out)).trans HP.out
  have p1 : w2.cell? ⟨b1, 1, none⟩ = some (.slice (some ⟨g, 0, none⟩) 1 1) := by rw [Lib.cell_of_heap hP2]; rfl
  have HR := hideT (read_any w2 g pa pn pm hG2)
  have HP2 := hideT hP2
  have HI := hideT hI
  have HFs := hideT (fun k hk => Nat.lt_of_lt_of_le (blk_lt N1.out) (hFs k hk))
  have HL2 := hideT (blk_lt N2.out)
  clear hI hFs hb2 hG2 hP2 HO HG HP N1 q0 q3
  go_wp2_with fail
  refine HR.out.mono ?_
  rintro e w3 ⟨og, xg, rfl, ho, hx, go, gx, hb3⟩
  have B3 := hideT (B2.out.trans (hb3.mono B2.out.size))
  have N3 := hideT ((hb3.block _ (blk_lt N2.out)).trans N2.out)
  have HP3 := hideT ((hb3.block b1 (blk_lt HP2.out)).trans HP2.out)
  have HPK := hideT (new_pick w3 xg hx)
  have HOG := hideT (And.intro ho go)
  have HB3 := hideT hb3
  clear ho hx go gx hb3 HR HP2 N2 p1
  go_wp2_with fail
  refine HPK.out.mono ?_
  rintro e w4 ⟨pb, rb, rfl, hpk, hrw, gp, gr, hb4⟩
  have B4 := hideT (B3.out.trans (hb4.mono B3.out.size))
  have N4 := hideT ((hb4.block _ (blk_lt N3.out)).trans N3.out)
  have hP4 := (hb4.block b1 (blk_lt HP3.out)).trans HP3.out
  have p0 : w4.cell? ⟨b1, 0, none⟩ = some (.bool false) := by rw [Lib.cell_of_heap hP4]; rfl
  have HK := hideT (And.intro hpk (And.intro hrw (And.intro gp gr)))
  have HB4 := hideT hb4
  clear hpk hrw gp gr hb4 hP4 HPK HP3 N3
  go_upto_region 13 with fail
  go_region_with (go_at_call 32; refine (inp.new_any _).mono ?_; rintro x w5 ⟨qb, Fq, rfl, hb5, hq5, hF5⟩; have n5 := (hb5.block w.heap.size (blk_lt N4.out)).trans N4.out; have z0 : w5.cell? ⟨w.heap.size, 0, none⟩ = some (.int .i64 0) := (by rw [Lib.cell_of_heap n5]; rfl); have z1 : w5.cell? ⟨w.heap.size, 1, none⟩ = some (.int .i64 0) := (by rw [Lib.cell_of_heap n5]; rfl); have y0 : w5.frozen? ⟨w.heap.size, 0, none⟩ = false := (by simp [World.frozen?, n5]); have y1 : w5.frozen? ⟨w.heap.size, 1, none⟩ = false := (by simp [World.frozen?, n5]); have N5 := hideT n5; have l5 : w.heap.size < w5.heap.size := blk_lt n5; clear n5; have p05 : w5.cell? ⟨b1, 0, none⟩ = some (.bool false) := inp.keep_cell hb5 p0; have l51 : b1 < w5.heap.size := World.block_lt_of_cell? w5 _ p05; have H5 := hideT (And.intro hb5 (And.intro hq5 hF5)); clear hb5 hq5 hF5)
  all_goals
    have hfin := load_fin HI.out HFs.out HOG.out.1 HOG.out.2 HB3.out HK.out.1 HK.out.2.1 HK.out.2.2.1 HK.out.2.2.2 HB4.out (w5 := w5) (Below.trans (Below.refl w4.heap.size w4).drew H5.out.1) H5.out.2.1 H5.out.2.2 HL2.out B4.out (.int .i64 0) (.int .i64 0)
    have HFN := hideT hfin
    clear hfin
    go_wp2
    refine bodyPost_ret (v := .tuple #[pt w5.heap.size, .agg #[.int .i64 0, .int .i64 0]]) (by simp [results, Tryz.results15, go_sem, z0, z1, y0, y1, l5]) rfl ⟨⟨w5.heap.size, og, pb, rb, qb, sb⟩, _, rfl, HFN.out.1, rfl, HFN.out.2⟩
end mch
end Go.Proofs.YtcpokkpjeeblnaaGreatDoor
namespace Go.Proofs.YtcpokkpjeeblnaaGreatDoor
open Go.RowKit
namespace mch
variable {W : World} {N : Nat} {k : Bk} {oc : Array Value} {s : Mm}
theorem feed_m (h : MX W N k oc s) (he : s.en = false) (hq : inp.QOk s.q 90) (t : ByteArray) (ht : t.size ≤ 100) : Calls Tryz.prog 6 #[pt k.m, .string t] W fun e w' => e = .returned (.int .i64 (inp.feedE s.q t.data.toList : Nat)) ∧ MX w' N k oc { s with q := s.q.feed t.data.toList } ∧ Below N W w' := by
  obtain ⟨Fq, Fs, h⟩ := h
  have c15 := h.c 15 (v := .bool false) (by rw [← he]; rfl)
  have c3 := h.c 3 (v := pt k.qb) rfl
  have HF := hideT (inp.feed_any h.qu hq (by omega) t (by omega))
  have HM := hideT h
  clear h
  go_enter Tryz.func6, Tryz.ntmps6
  go_wp2_with fail
  refine HF.out.mono ?_
  rintro e w1 ⟨rfl, ht, F', hI, hs⟩
  have H1 := hideT (And.intro (HM.out.callQ ht hI hs) (HM.out.bq ht))
  clear ht hI hs HF
  go_wp2
  go_ret
  exact ⟨rfl, ⟨_, _, H1.out.1⟩, H1.out.2⟩
theorem close_m (h : MX W N k oc s) (he : s.en = false) (hq : inp.QOk s.q 90) : Calls Tryz.prog 7 #[pt k.m] W fun e w' => e = .returned (.int .i64 (inp.closeE s.q : Nat)) ∧ MX w' N k oc { s with q := s.q.close } ∧ Below N W w' := by
  obtain ⟨Fq, Fs, h⟩ := h
  have c15 := h.c 15 (v := .bool false) (by rw [← he]; rfl)
  have c3 := h.c 3 (v := pt k.qb) rfl
  have HF := hideT (inp.close_any h.qu hq (by omega))
  have HM := hideT h
  clear h
  go_enter Tryz.func7, Tryz.ntmps7
  go_wp2_with fail
  refine HF.out.mono ?_
  rintro e w1 ⟨rfl, ht, F', hI, hs⟩
  have H1 := hideT (And.intro (HM.out.callQ ht hI hs) (HM.out.bq ht))
  clear ht hI hs HF
  go_wp2
  go_ret
  exact ⟨rfl, ⟨_, _, H1.out.1⟩, H1.out.2⟩
theorem out_m (h : MX W N k oc s) : Calls Tryz.prog 9 #[pt k.m] W fun e w' => e = .returned (tx s.S.out) ∧ MX w' N k oc s ∧ Below N W w' := by
  obtain ⟨Fq, Fs, h⟩ := h
  have c4 := h.c 4 (v := pt k.sb) rfl
  have HF := hideT (sto.out_any h.st)
  have HM := hideT h
  clear h
  go_enter Tryz.func9, Tryz.ntmps9
  go_wp2_with fail
  refine HF.out.mono ?_
  rintro e w1 ⟨rfl, ht, F', hI, hs⟩
  have H1 := hideT (And.intro (HM.out.callS ht hI hs) (HM.out.bs ht))
  clear ht hI hs HF
  go_wp2
  go_ret
  exact ⟨rfl, ⟨_, _, H1.out.1⟩, H1.out.2⟩
theorem ticks_m (h : MX W N k oc s) : Calls Tryz.prog 12 #[pt k.m] W fun e w' => e = .returned (.int .i64 (s.tk : Nat)) ∧ w' = W := by
  obtain ⟨Fq, Fs, h⟩ := h
  have c14 := h.c 14 (v := .int .i64 (s.tk : Nat)) rfl
  clear h
  go_enter Tryz.func12, Tryz.ntmps12
  go_wp2
  go_ret
  exact ⟨rfl, rfl⟩
theorem err_m (h : MX W N k oc s) : Calls Tryz.prog 14 #[pt k.m] W fun e w' => e = .returned (.int .i64 0) ∧ w' = W := by
  obtain ⟨Fq, Fs, h⟩ := h
  have c16 := h.c 16 (v := .int .i64 0) rfl
  clear h
  go_enter Tryz.func14, Tryz.ntmps14
  go_wp2
  go_ret
  exact ⟨rfl, rfl⟩
def s1 : Mm := { s0 with q := inp.q0.feed [97] }
def s2 : Mm := { s1 with q := s1.q.close }
def s3 : Mm := nextM (nextM s2)
theorem ok0 : OkM s0 9 := ⟨.inl rfl, ⟨Nat.le_refl _, by decide, (fun t h => by cases h)⟩, ⟨by decide, by decide, by decide, (fun n f h => by cases h), (fun n h => by cases h)⟩, by decide, by decide, by decide⟩
theorem q1_ok : inp.QOk s1.q 90 := ⟨by decide, by decide, fun t h => by
  have : t = [97] := by simpa [s1, inp.q0, inp.Qs.feed, inp.feedE] using h
  rw [this]; decide⟩
theorem ok1 : OkM s1 9 := ⟨.inl rfl, ⟨q1_ok.tk, Nat.le_trans q1_ok.len (by decide), q1_ok.line⟩, ok0.S, by decide, by decide, by decide⟩
theorem ok2 : OkM s2 11 := ⟨.inl rfl, ⟨q1_ok.tk, Nat.le_trans q1_ok.len (by decide), q1_ok.line⟩, ok0.S, by decide, by decide, by decide⟩
theorem ok2' : OkM s2 2 := ⟨.inl rfl, ok2.q, ok0.S, by decide, by decide, by decide⟩
theorem ok3 : OkM s3 9 := ok2.next.next
theorem st0 : stepR 9 s0 = (1, s0) := by kernel_rfl
theorem st1 : stepR 9 s1 = (1, s1) := by kernel_rfl
theorem st2 : stepR 2 s2 = (2, s3) := by kernel_rfl
theorem st3 : (stepR 9 s3).1 = 3 ∧ (stepR 9 s3).2.S.out = [97, 10, 97, 10] ∧ (stepR 9 s3).2.tk = 3 ∧ s3.S.out = [97, 10] := ⟨by kernel_rfl, by kernel_rfl, by kernel_rfl, by kernel_rfl⟩
theorem awake_any (w : World) (hg : Gl w) : Calls Tryz.prog 5 #[] w fun e w' => e = .returned (.bool true) ∧ Below w.heap.size w w' := by
  have HL := hideT (load_any w hg)
  clear hg
  go_enter Tryz.func5, Tryz.ntmps5
  go_wp2_with fail
  refine HL.out.mono ?_
  rintro e w1 ⟨k, oc, rfl, h1, hc, hb1⟩
  have hA := (Below.refl w1.heap.size w1).alloc (Nat.le_refl _) (.cells #[.int .i64 0, .int .i64 0] 45)
  have hn := heap_alloc_new w1 (.cells #[.int .i64 0, .int .i64 0] 45)
  have h2 : MX (w1.alloc (.cells #[.int .i64 0, .int .i64 0] 45)) w.heap.size k oc s0 := (let ⟨a, b, h⟩ := h1; ⟨a, b, h.below hA⟩)
  have B2 := hideT (hb1.trans (hA.mono hb1.size))
  have HC := hideT hc
  go_upto_region 2 with fail
  generalize w1.alloc (.cells #[.int .i64 0, .int .i64 0] 45) = X at *
  have q0 : X.cell? ⟨w1.heap.size, 0, none⟩ = some (.int .i64 0) := by rw [Lib.cell_of_heap hn]; rfl
  have H2 := hideT (step_any h2 HC.out 9 (by omega) ok0)
  rw [st0] at H2
  clear h1 hc hb1 hA hn h2 HL
  go_wp2_with fail
  refine H2.out.mono ?_
  rintro e w2 ⟨rfl, h3, hb3⟩
  have H3 := hideT (feed_m h3 rfl ⟨Nat.le_refl _, by decide, (fun t h => by cases h)⟩ ⟨#[97]⟩ (by decide))
  have B3 := hideT (B2.out.trans hb3)
  clear h3 hb3 H2 q0
  go_wp2_with fail
  refine H3.out.mono ?_
  rintro e w3 ⟨rfl, h4, hb4⟩
  have H4 := hideT (step_any (s := s1) h4 HC.out 9 (by omega) ok1)
  rw [st1] at H4
  have B4 := hideT (B3.out.trans hb4)
  clear h4 hb4 H3
  rw [show ((inp.feedE s0.q (⟨#[97]⟩ : ByteArray).data.toList : Nat) : Int) = 0 from rfl]
  go_wp2_with fail
  refine H4.out.mono ?_
  rintro e w4 ⟨rfl, h5, hb5⟩
  have H5 := hideT (close_m (s := s1) h5 rfl q1_ok)
  have B5 := hideT (B4.out.trans hb5)
  clear h5 hb5 H4
  go_wp2_with fail
  refine H5.out.mono ?_
  rintro e w5 ⟨rfl, h6, hb6⟩
  have H6 := hideT (step_any (s := s2) h6 HC.out 2 (by omega) ok2')
  rw [st2] at H6
  have B6 := hideT (B5.out.trans hb6)
  clear h6 hb6 H5
  rw [show ((inp.closeE s1.q : Nat) : Int) = 0 from rfl]
  go_wp2_with fail
  refine H6.out.mono ?_
  rintro e w6 ⟨rfl, h7, hb7⟩
  have H7 := hideT (out_m h7)
  rw [show (s3.S.out) = [97, 10] from st3.2.2.2] at H7
  have B7 := hideT (B6.out.trans hb7)
  clear h7 hb7 H6
  go_wp2_with fail
  refine H7.out.mono ?_
  rintro e w7 ⟨rfl, h8, hb8⟩
  have H8 := hideT (step_any h8 HC.out 9 (by omega) ok3)
  rw [st3.1] at H8
  have B8 := hideT (B7.out.trans hb8)
  clear h8 hb8 H7
  have t1 : ((⟨[97, 10].toArray⟩ : ByteArray).toList == (⟨#[97, 10]⟩ : ByteArray).toList) = true := by simp
  go_wp2_with fail
  refine H8.out.mono ?_
  rintro e w8 ⟨rfl, h9, hb9⟩
  have H9 := hideT (out_m h9)
  rw [st3.2.1] at H9
  have B9 := hideT (B8.out.trans hb9)
  clear h9 hb9 H8
  go_wp2_with fail
  refine H9.out.mono ?_
  rintro e w9 ⟨rfl, h10, hb10⟩
  have H10 := hideT (ticks_m h10)
  rw [st3.2.2.1] at H10
  have H11 := hideT (err_m h10)
  have B10 := hideT (B9.out.trans hb10)
  clear h10 hb10 H9
  have t2 : ((⟨[97, 10, 97, 10].toArray⟩ : ByteArray).toList == (⟨#[97, 10, 97, 10]⟩ : ByteArray).toList) = true := by simp
  go_wp2_with fail
  refine H10.out.mono ?_
  rintro e w10 ⟨rfl, rfl⟩
  clear H10
  go_wp2_with fail
  refine H11.out.mono ?_
  rintro e w11 ⟨rfl, rfl⟩
  clear H11
  go_wp2
  go_ret
  exact ⟨rfl, B10.out⟩
theorem spaces_n (w : World) : Calls Tryz.prog 4 #[.pointer none] w fun e w' => e = .returned (.tuple #[.string ⟨#[]⟩, .string ⟨#[]⟩]) ∧ w' = w := by
  go_enter Tryz.func4, Tryz.ntmps4
  go_wp2
  go_ret2
  exact ⟨rfl, rfl⟩
theorem feed_n (w : World) (t : ByteArray) : Calls Tryz.prog 6 #[.pointer none, .string t] w fun e w' => e = .returned (.int .i64 25) ∧ w' = w := by
  go_enter Tryz.func6, Tryz.ntmps6
  go_wp2
  go_ret
  exact ⟨rfl, rfl⟩
theorem close_n (w : World) : Calls Tryz.prog 7 #[.pointer none] w fun e w' => e = .returned (.int .i64 25) ∧ w' = w := by
  go_enter Tryz.func7, Tryz.ntmps7
  go_wp2
  go_ret
  exact ⟨rfl, rfl⟩
theorem step_n (w : World) (f : Int) : Calls Tryz.prog 8 #[.pointer none, .int .i64 f] w fun e w' => e = .returned (.int .i64 0) ∧ w' = w := by
  go_enter Tryz.func8, Tryz.ntmps8
  go_wp2_with fail
  go_step3
  go_wp2
  rw [Exit.noGoto_ret]
  go_ret
  exact ⟨rfl, rfl⟩
theorem out_n (w : World) : Calls Tryz.prog 9 #[.pointer none] w fun e w' => e = .returned (.string ⟨#[]⟩) ∧ w' = w := by
  go_enter Tryz.func9, Tryz.ntmps9
  go_wp2
  go_ret
  exact ⟨rfl, rfl⟩
theorem files_n (w : World) : Calls Tryz.prog 10 #[.pointer none] w fun e w' => e = .returned (.slice none 0 0) ∧ w' = w := by
  go_enter Tryz.func10, Tryz.ntmps10
  go_wp2
  go_ret
  exact ⟨rfl, rfl⟩
theorem line_n (w : World) : Calls Tryz.prog 11 #[.pointer none] w fun e w' => e = .returned (.int .i64 0) ∧ w' = w := by
  go_enter Tryz.func11, Tryz.ntmps11
  go_wp2
  go_ret
  exact ⟨rfl, rfl⟩
theorem ticks_n (w : World) : Calls Tryz.prog 12 #[.pointer none] w fun e w' => e = .returned (.int .i64 0) ∧ w' = w := by
  go_enter Tryz.func12, Tryz.ntmps12
  go_wp2
  go_ret
  exact ⟨rfl, rfl⟩
theorem held_n (w : World) : Calls Tryz.prog 13 #[.pointer none] w fun e w' => e = .returned (.int .i64 0) ∧ w' = w := by
  go_enter Tryz.func13, Tryz.ntmps13
  go_wp2
  go_ret
  exact ⟨rfl, rfl⟩
theorem err_n (w : World) : Calls Tryz.prog 14 #[.pointer none] w fun e w' => e = .returned (.int .i64 25) ∧ w' = w := by
  go_enter Tryz.func14, Tryz.ntmps14
  go_wp2
  go_ret
  exact ⟨rfl, rfl⟩
theorem none_any (w : World) (hg : Gl w) (t : ByteArray) (f : Int) : Calls Tryz.prog 3 #[.string t, .int .i64 f] w fun e w' => e = .returned (.bool true) ∧ Below w.heap.size w w' := by
  have HA := hideT (awake_any w hg)
  clear hg
  go_enter Tryz.func3, Tryz.ntmps3
  go_wp2_with fail
  refine (spaces_n w).mono ?_
  rintro e w1 ⟨rfl, rfl⟩
  go_wp2_with fail
  refine HA.out.mono ?_
  rintro e w2 ⟨rfl, hb⟩
  have HB := hideT hb
  clear hb HA
  go_wp2_with fail
  refine (feed_n _ t).mono ?_
  rintro e w3 ⟨rfl, rfl⟩
  go_wp2_with fail
  refine (close_n _).mono ?_
  rintro e w3 ⟨rfl, rfl⟩
  go_wp2_with fail
  refine (step_n _ f).mono ?_
  rintro e w3 ⟨rfl, rfl⟩
  go_wp2_with fail
  refine (out_n _).mono ?_
  rintro e w3 ⟨rfl, rfl⟩
  go_wp2_with fail
  refine (files_n _).mono ?_
  rintro e w3 ⟨rfl, rfl⟩
  go_wp2_with fail
  refine (line_n _).mono ?_
  rintro e w3 ⟨rfl, rfl⟩
  go_wp2_with fail
  refine (ticks_n _).mono ?_
  rintro e w3 ⟨rfl, rfl⟩
  go_wp2_with fail
  refine (held_n _).mono ?_
  rintro e w3 ⟨rfl, rfl⟩
  go_wp2_with fail
  refine (err_n _).mono ?_
  rintro e w3 ⟨rfl, rfl⟩
  go_wp2
  go_ret
  exact ⟨rfl, HB.out⟩
end mch
end Go.Proofs.YtcpokkpjeeblnaaGreatDoor
