/- reach: join. -/
import Derived.Test.YtiedliahmjiadaaKIl
import Derived.Deep.AppendLies
set_option maxRecDepth 100000
set_option maxHeartbeats 1000000
namespace Go.Proofs.Ytiedliahmjiadaa
open Go.RowKit Go.Shelf
theorem info_border : (Try.prog.info? 78).map (·.size) = some 9 := by kernel_rfl
theorem und_border : ∃ d, Try.prog.underlying 78 = some d ∧ d.isRow = true := ⟨_, Try.underlying78, rfl⟩
theorem bdV_len (b : BdB) : (bdV b).length = 9 := rfl
theorem bdV_one (b : BdB) : (bdV b).toArray.all (·.oneCell') = true := by simp [bdV, Value.oneCell']
theorem range_part {W : World} {b k : Nat} {p : PaB} {t : TypeId} {fr : Nat × Nat} (h : W.heap[b]? = some (.cells (paV p).toArray t fr)) (hk : k < 4) : W.rangeAt b (k * 9) (bdV (p k)) := fun j v hv => by
 have hj : j < 9 := by have := (List.getElem?_eq_some_iff.1 hv).1; simpa [bdV] using this
 have e : (paV p)[k * 9 + j]? = (bdV (p k))[j]? := by
  have hk' : k = 0 ∨ k = 1 ∨ k = 2 ∨ k = 3 := by omega
  unfold paV
  rcases hk' with rfl | rfl | rfl | rfl
  ·rw [Nat.zero_mul, Nat.zero_add, List.getElem?_append_left (by rw [bdV_len]; omega)]
  ·rw [List.getElem?_append_right (by rw [bdV_len]; omega), bdV_len, List.getElem?_append_left (by rw [bdV_len]; omega)]
   congr 1; omega
  ·rw [List.getElem?_append_right (by rw [bdV_len]; omega), bdV_len, List.getElem?_append_right (by rw [bdV_len]; omega), bdV_len, List.getElem?_append_left (by rw [bdV_len]; omega)]
   congr 1; omega
  ·rw [List.getElem?_append_right (by rw [bdV_len]; omega), bdV_len, List.getElem?_append_right (by rw [bdV_len]; omega), bdV_len, List.getElem?_append_right (by rw [bdV_len]; omega), bdV_len]
   congr 1; omega
 simp only [World.cell?, h]
 rw [List.getElem?_toArray, e, hv]
 rfl
def z9 : List Value := [.bool false, .int .u64 0, .int .u64 0, .int .u64 0, .int .u64 0, .int .u64 0, .int .u64 0, .int .u64 0, .int .u64 0]
def pfx (p : PaB) : Nat → List Value
 | 0 => []
 | k + 1 => pfx p k ++ bdV (p k)
def zr : Nat → List Value
 | 0 => []
 | k + 1 => z9 ++ zr k
theorem pfx_len (p : PaB) : ∀ k, (pfx p k).length = k * 9
 | 0 => rfl
 | k + 1 => by
  rw [pfx, List.length_append, pfx_len p k, bdV_len]
  omega
theorem pfx_four (p : PaB) : pfx p 4 ++ zr 0 = paV p := by simp [pfx, zr, paV]
theorem zr_pos {k : Nat} (h : k < 4) : zr (4 - k) = z9 ++ zr (3 - k) := by
 rw [show 4 - k = (3 - k) + 1 by omega]
 rfl
theorem seg_cell {W : World} {b : Nat} {t : TypeId} {pre cs suf : List Value} (h : W.heap[b]? = some (.cells (pre ++ (cs ++ suf)).toArray t (0, 0))) {o : Nat} (ho : pre.length = o) (j : Nat) (v : Value) (hv : cs[j]? = some v) : W.cell? ⟨b, o + j, none⟩ = some v ∧ W.frozen? ⟨b, o + j, none⟩ = false := by
 have hj := (List.getElem?_eq_some_iff.1 hv).1
 refine ⟨?_, by simp [World.frozen?, h]⟩
 simp only [World.cell?, h]
 rw [List.getElem?_toArray, List.getElem?_append_right (by omega), show o + j - pre.length = j by omega, List.getElem?_append_left hj, hv]
 rfl
theorem set9_at {W : World} {b : Nat} {t : TypeId} {pre cs suf : List Value} (h : W.heap[b]? = some (.cells (pre ++ (cs ++ suf)).toArray t (0, 0))) {o : Nat} (ho : pre.length = o) (hc : cs.length = 9) (v0 v1 v2 v3 v4 v5 v6 v7 v8 : Value) : (set9 W b o v0 v1 v2 v3 v4 v5 v6 v7 v8).heap[b]? = some (.cells (pre ++ (([v0, v1, v2, v3, v4, v5, v6, v7, v8] : List Value) ++ suf)).toArray t (0, 0)) :=
 setCells_at b t (0, 0) [v0, v1, v2, v3, v4, v5, v6, v7, v8] pre cs suf W o h ho hc
theorem put4at_at {W : World} {b : Nat} {t : TypeId} {pre cs suf : List Value} (h : W.heap[b]? = some (.cells (pre ++ (cs ++ suf)).toArray t (0, 0))) {o : Nat} (ho : pre.length = o) (hc : cs.length = 4) (q : Nat → Bool) : (put4at W b o q).heap[b]? = some (.cells (pre ++ (([.int .u64 (wd q 0 : Nat), .int .u64 (wd q 1 : Nat), .int .u64 (wd q 2 : Nat), .int .u64 (wd q 3 : Nat)] : List Value) ++ suf)).toArray t (0, 0)) :=
 setCells_at b t (0, 0) [.int .u64 (wd q 0 : Nat), .int .u64 (wd q 1 : Nat), .int .u64 (wd q 2 : Nat), .int .u64 (wd q 3 : Nat)] pre cs suf W o h ho hc
theorem take_y {P : Program} {ops : Array Oper} {Q : Exit → Act → World → Prop} {S : World → Prop} {md : Region.Mode} (i : Nat) (d : Option Tmp) {oi : Oper} {v : Value} {fuel : Nat} {listed : Array Bool} {a : Act} {w : World} (hi : ops[i]? = some oi) (hd : oi.dst = d)
  (hs : Region.noSelect ops = true) (hf : Region.free md ops listed i = true) (hr : (Region.ready md ops listed).contains i = true)
  (hQ : ∀ c a w, Q (.panic c) (a.put d v) w → Q (.panic c) a w) (hS : S w) (hy : YieldsIf P ops S oi v a)
  (h : wpAnyH P md ops Q S fuel (listed.setIfInBounds i true) (a.put d v) w) : wpAnyH P md ops Q S (fuel + 1) listed a w := by
 subst hd
 exact wpAnyH_take hi hs hf hr hQ hy hS h
theorem op_of {P : Program} {ops : Array Oper} {Q : Exit → Act → World → Prop} {i : Nat} {o : Oper} {K : Act → World → Prop} {a : Act} {w : World} (hi : ops[i]? = some o) (hw : Region.wanted o (yielded ops a.tmps) = true) (h : o.wp P a w K Q) : wpOp P ops Q i K a w := by
 unfold wpOp
 rw [hi]
 dsimp only
 rw [if_pos hw]
 exact .inl h
theorem wanted_none {o : Oper} (hg : o.guard = none) (l : Nat → Option Bool) : Region.wanted o l = true := by simp only [Region.wanted, hg]
theorem op_store {P : Program} {ops : Array Oper} {Q : Exit → Act → World → Prop} {i : Nat} {o : Oper} {K : Act → World → Prop} {a : Act} {w : World} (ty : TypeId) (r s b : Nat) (cs : List Value) (hi : ops[i]? = some o) (ho : o.op = .store ty (.tmp r) (.tmp s)) (hd : o.dst = none) (hg : o.guard = none) (hx : a.eval (.tmp r) = .pointer (some ⟨b, 0, none⟩)) (hy : a.eval (.tmp s) = .agg cs.toArray) (ht : w.there b 0 cs.length) (hz : (P.info? ty).map (·.size) = some cs.length) (h1 : cs.toArray.all (·.oneCell') = true) (h : K (a.put none undef) (w.setCells b 0 cs)) : wpOp P ops Q i K a w := by
 refine op_of hi (wanted_none hg _) (wp_store_mid ty _ _ ho b 0 cs.toArray hx hy (by rw [List.size_toArray]; exact ht) (by rw [List.size_toArray]; exact hz) h1 ?_)
 rw [hd]
 exact h
theorem wl_value {P : Program} {ops : Array Oper} {rest : List Oper} {Q : Exit → Act → World → Prop} {o : Oper} {a : Act} {w w' : World} {v : Value} (hg : o.guard = none) (hx : (execOp a.eval o).run P w = .ok (.value v) w') (h : wpList P ops Q rest (a.put o.dst v) w') : wpList P ops Q (o :: rest) a w :=
 wpList_plain hg fun K hK => by
  unfold Oper.wp
  rw [hx]
  exact hK _ _ h
theorem wl_call {P : Program} {ops : Array Oper} {rest : List Oper} {Q : Exit → Act → World → Prop} {o : Oper} {a : Act} {w : World} {f : FuncId} {args : Array Value} {R : Value → World → Prop} (hg : o.guard = none) (hx : (execOp a.eval o).run P w = .ok (.enter f args) w) (hc : Calls P f args w fun e w' => ∃ v, e = .returned v ∧ R v w') (h : ∀ v w', R v w' → wpList P ops Q rest (a.put o.dst v) w') : wpList P ops Q (o :: rest) a w :=
 wpList_plain hg fun K hK => by
  unfold Oper.wp
  rw [hx]
  refine Calls.mono hc ?_
  rintro e w' ⟨v, rfl, hR⟩
  exact hK _ _ (h v w' hR)
theorem seg_fs {pre suf : List Value} (v0 v1 v2 v3 v4 v5 v6 v7 v8 : Value) : pre ++ ([v0, v1, v2, v3, v4, v5, v6, v7, v8] ++ suf) = (pre ++ [v0]) ++ ([v1, v2, v3, v4] ++ ([v5, v6, v7, v8] ++ suf)) := by simp
theorem seg_ls {pre suf : List Value} (v0 v1 v2 v3 v4 v5 v6 v7 v8 : Value) : pre ++ ([v0, v1, v2, v3, v4, v5, v6, v7, v8] ++ suf) = (pre ++ [v0, v1, v2, v3, v4]) ++ ([v5, v6, v7, v8] ++ suf) := by simp
theorem WebAt.far {W : World} {B b c : Nat} {ps : List PosB} {cs : List Value} (h : WebAt W B b ps cs) {o : Obj} (hc : W.heap[c]? = some o) (hm : webs o = false) (k : Nat) (vs : List Value) : WebAt (W.setCells c k vs) B b ps cs := by
 obtain ⟨h1, ⟨v, hv, ho⟩, h3⟩ := h
 refine ⟨h1, ⟨v, (setCells_far W c (fun e => ?_) vs k).trans hv, owns_keep ho fun g hg => setCells_far W c (fun e => ?_) vs k⟩, h3⟩
 ·rw [← e, hv] at hc
  cases hc
  cases hm
 ·obtain ⟨_, _, cur, hh⟩ := owns_blk ho hg
  rw [← e, hh] at hc
  cases hc
  cases hm
theorem WFr.far {B c : Nat} {w W : World} (h : WFr B w W) (hB : B ≤ w.heap.size) (hc : w.heap.size ≤ c) (k : Nat) (vs : List Value) : WFr B w (W.setCells c k vs) :=
 ⟨below_setCells c (Nat.le_trans hB hc) vs W k h.below, fun i o hi ho => (setCells_far W c (fun e => by have := (Array.getElem?_eq_some_iff.1 hi).1; omega) vs k).trans (h.same i o hi ho)⟩
def JnR (w1 : World) (a a1 : PaB) (k : Nat) (W : World) : Prop := Below w1.heap.size w1 W ∧ W.heap[w1.heap.size]? = some (.cells (pfx (joinB a a1) k ++ zr (4 - k)).toArray 81 (0, 0))
theorem jn_fin {w1 Z : World} {a a1 : PaB} {k : Nat} (hk : k < 4) (hb : Below w1.heap.size w1 Z) {q r : Nat → Bool} {n : Bool} (h : Z.heap[w1.heap.size]? = some (.cells (pfx (joinB a a1) k ++ (([.bool n, .int .u64 (wd q 0 : Nat), .int .u64 (wd q 1 : Nat), .int .u64 (wd q 2 : Nat), .int .u64 (wd q 3 : Nat), .int .u64 (wd r 0 : Nat), .int .u64 (wd r 1 : Nat), .int .u64 (wd r 2 : Nat), .int .u64 (wd r 3 : Nat)] : List Value) ++ zr (3 - k))).toArray 81 (0, 0))) (hn : n = (joinB a a1 k).no) (hq : q = (joinB a a1 k).fs) (hr : r = (joinB a a1 k).ls) : JnR w1 a a1 (k + 1) Z := by
 subst hn hq hr
 refine ⟨hb, ?_⟩
 rw [h, show 4 - (k + 1) = 3 - k by omega, pfx, List.append_assoc]
 rfl
theorem join_any {B b : Nat} {ps : List PosB} {cs : List Value} (a a1 : PaB) (w : World) (hB : B ≤ w.heap.size) (hw : WebAt w B b ps cs) (h1 : ∀ x, (a 0).ls x = true → x < ps.length) (h2 : ∀ x, (a1 0).fs x = true → x < ps.length) :
  Calls Try.prog 59 #[.pointer (some ⟨b, 0, none⟩), partV a, partV a1] w fun e w' => e = .returned (partV (joinB a a1)) ∧ WebAt w' B b (linkB a a1 ps) cs ∧ WFr B w w' := by
 unfold partV
 have HJ : Hid (∀ W : World, Below w.heap.size w W → Calls Try.prog 68 #[.pointer (some ⟨b, 0, none⟩), .agg (paV a).toArray, .agg (paV a1).toArray] W fun e w' => ∃ v, e = .returned v ∧ WebAt w' B b (linkB a a1 ps) cs ∧ WFr B w w' ∧ WFr B W w') := hideT (fun W hb => (link_any a a1 W (Nat.le_trans hB hb.size) (hw.below hb) h1 h2).mono (by
  rintro e w' ⟨⟨v, rfl⟩, k1, k2⟩
  exact ⟨v, rfl, k1, (WFr.of_below hb hB).trans k2, k2⟩))
 clear hw h1 h2
 go_enter Try.func59, Try.ntmps59
 go_upto_region 1 with fail
 rename_i K1 hK1
 obtain ⟨X, hX⟩ : ∃ X, X = (((w.alloc (.cells (paV a).toArray 81)).alloc (.cells (paV a1).toArray 81)).alloc (.cells #[.bool false, .int .u64 0, .int .u64 0, .int .u64 0, .int .u64 0, .int .u64 0, .int .u64 0, .int .u64 0, .int .u64 0, .bool false, .int .u64 0, .int .u64 0, .int .u64 0, .int .u64 0, .int .u64 0, .int .u64 0, .int .u64 0, .int .u64 0, .bool false, .int .u64 0, .int .u64 0, .int .u64 0, .int .u64 0, .int .u64 0, .int .u64 0, .int .u64 0, .int .u64 0, .bool false, .int .u64 0, .int .u64 0, .int .u64 0, .int .u64 0, .int .u64 0, .int .u64 0, .int .u64 0, .int .u64 0] 81)) := ⟨_, rfl⟩
 rw [← hX]
 have nw := fun (W : World) (ob : Obj) (H : Nat) (hH : W.heap.size = H) => (show (W.alloc ob).heap[H]? = some ob from hH ▸ World.alloc_heap_new W ob)
 have hBX : Below w.heap.size w X := by
  rw [hX]
  exact (((Below.refl _ w).alloc (Nat.le_refl _) _).alloc (by simp only [World.size_alloc]; omega) _).alloc (by simp only [World.size_alloc]; omega) _
 have x0 : X.heap[w.heap.size]? = some (.cells (paV a).toArray 81 (0, 0)) := by
  rw [hX, Below.heap_alloc _ _ _ (by simp only [World.size_alloc]; omega), Below.heap_alloc _ _ _ (by simp only [World.size_alloc]; omega)]
  exact World.alloc_heap_new w _
 have x1 : X.heap[w.heap.size + 1]? = some (.cells (paV a1).toArray 81 (0, 0)) := by
  rw [hX, Below.heap_alloc _ _ _ (by simp only [World.size_alloc]; omega)]
  exact nw _ _ _ (by simp only [World.size_alloc])
 have x2 : X.heap[w.heap.size + 1 + 1]? = some (.cells [.bool false, .int .u64 0, .int .u64 0, .int .u64 0, .int .u64 0, .int .u64 0, .int .u64 0, .int .u64 0, .int .u64 0, .bool false, .int .u64 0, .int .u64 0, .int .u64 0, .int .u64 0, .int .u64 0, .int .u64 0, .int .u64 0, .int .u64 0, .bool false, .int .u64 0, .int .u64 0, .int .u64 0, .int .u64 0, .int .u64 0, .int .u64 0, .int .u64 0, .int .u64 0, .bool false, .int .u64 0, .int .u64 0, .int .u64 0, .int .u64 0, .int .u64 0, .int .u64 0, .int .u64 0, .int .u64 0].toArray 81 (0, 0)) := by
  rw [hX]
  exact nw _ _ _ (by simp only [World.size_alloc])
 clear hX nw
 refine wp_region_lit (l := [_, _, _, _]) ?_
 refine wl_value (v := .pointer (some ⟨b, 0, none⟩)) (w' := X) rfl (by clear x0 x1 x2; go_simp; (try with_reducible rfl)) ?_
 refine wpList_load_mid rfl 81 _ rfl w.heap.size 0 rfl (paV a) _ (range_block x0) und_part rfl (by rw [info_part]; rfl) ?_
 refine wpList_load_mid rfl 81 _ rfl (w.heap.size + 1) 0 rfl (paV a1) _ (range_block x1) und_part rfl (by rw [info_part]; rfl) ?_
 refine wl_call (f := 68) (args := #[.pointer (some ⟨b, 0, none⟩), .agg (paV a).toArray, .agg (paV a1).toArray]) rfl (by clear x0 x1 x2; go_simp; (try with_reducible rfl)) (HJ.out X hBX) ?_
 rintro v w1 ⟨k1, k2, k3⟩
 refine wpList_nil (hK1 _ _ ?_)
 simp only [Act.put, List.setIfInBounds_toArray, List.set_cons_zero, List.set_cons_succ]
 have y0 := k3.same _ _ x0 rfl
 have y1 := k3.same _ _ x1 rfl
 have y2 := k3.same _ _ x2 rfl
 have hlt : w.heap.size + 1 + 1 < w1.heap.size := (Array.getElem?_eq_some_iff.1 y2).1
 have HK := hideT (And.intro k1 k2)
 clear k1 k2 k3 x0 x1 x2 hK1 hBX HJ
 go_wp2_with fail
 have hC0 : (w1.alloc (.cells #[.bool false, .int .u64 0, .int .u64 0, .int .u64 0, .int .u64 0, .int .u64 0, .int .u64 0, .int .u64 0, .int .u64 0, .bool false, .int .u64 0, .int .u64 0, .int .u64 0, .int .u64 0, .int .u64 0, .int .u64 0, .int .u64 0, .int .u64 0, .bool false, .int .u64 0, .int .u64 0, .int .u64 0, .int .u64 0, .int .u64 0, .int .u64 0, .int .u64 0, .int .u64 0, .bool false, .int .u64 0, .int .u64 0, .int .u64 0, .int .u64 0, .int .u64 0, .int .u64 0, .int .u64 0, .int .u64 0] 81)).heap[w1.heap.size]? = some (.cells (pfx (joinB a a1) 0 ++ zr (4 - 0)).toArray 81 (0, 0)) := World.alloc_heap_new w1 _
 have hB0 := (Below.refl w1.heap.size w1).alloc (Nat.le_refl _) (.cells #[.bool false, .int .u64 0, .int .u64 0, .int .u64 0, .int .u64 0, .int .u64 0, .int .u64 0, .int .u64 0, .int .u64 0, .bool false, .int .u64 0, .int .u64 0, .int .u64 0, .int .u64 0, .int .u64 0, .int .u64 0, .int .u64 0, .int .u64 0, .bool false, .int .u64 0, .int .u64 0, .int .u64 0, .int .u64 0, .int .u64 0, .int .u64 0, .int .u64 0, .int .u64 0, .bool false, .int .u64 0, .int .u64 0, .int .u64 0, .int .u64 0, .int .u64 0, .int .u64 0, .int .u64 0, .int .u64 0] 81)
 generalize w1.alloc (.cells #[.bool false, .int .u64 0, .int .u64 0, .int .u64 0, .int .u64 0, .int .u64 0, .int .u64 0, .int .u64 0, .int .u64 0, .bool false, .int .u64 0, .int .u64 0, .int .u64 0, .int .u64 0, .int .u64 0, .int .u64 0, .int .u64 0, .int .u64 0, .bool false, .int .u64 0, .int .u64 0, .int .u64 0, .int .u64 0, .int .u64 0, .int .u64 0, .int .u64 0, .int .u64 0, .bool false, .int .u64 0, .int .u64 0, .int .u64 0, .int .u64 0, .int .u64 0, .int .u64 0, .int .u64 0, .int .u64 0] 81) = W0 at *
 obtain ⟨ud, hud, hur⟩ := und_border
 go_loopw [15] (fun iv wq => ∃ k : Nat, k ≤ 4 ∧ iv = .int .i64 k ∧ JnR w1 a a1 k wq) (fun iv _ => (4 - intOf iv).toNat)
 case atStart => exact ⟨0, by omega, rfl, hB0, hC0⟩
 case round =>
  obtain ⟨k, hk1, rfl, hbw, hC⟩ := hrel
  by_cases hlt : k < 4
  ·have a0 := (hbw.block _ (by omega)).trans y0
   have a1' := (hbw.block _ (by omega)).trans y1
   rw [zr_pos hlt] at hC
   have i1 : (k : Int) < 4 := by omega
   have i2 : (0 : Int) ≤ (k : Int) := by omega
   have hCw : w1.heap.size < wr.heap.size := (Array.getElem?_eq_some_iff.1 hC).1
   go_wp2_with fail
   rename_i K2 hK2
   refine wp_region_held (S := fun V => Below wr.heap.size wr V) (by kernel_rfl) ?_
   have hS0 : Below wr.heap.size wr wr.drew := (Below.refl _ _).drew
   refine' take_d 0 (some 18) rfl rfl (by kernel_rfl) (by kernel_rfl) (by kernel_rfl) (fun _ _ _ h => h) (by rfl) hS0 ?hy1 ?rest1
   case hy1 => intro V hV; go_simp; (try with_reducible rfl)
   refine' take_d 1 (some 19) rfl rfl (by kernel_rfl) (by kernel_rfl) (by kernel_rfl) (fun _ _ _ h => h) (by rfl) hS0 ?hy2 ?rest2
   case hy2 => intro V hV; go_simp; (try with_reducible rfl)
   refine take_y 2 (some 20) rfl rfl (by kernel_rfl) (by kernel_rfl) (by kernel_rfl) (fun _ _ _ h => h) hS0 (yieldsIf_load_mid (by rfl) 78 _ rfl (w.heap.size) (k * 9) rfl (bdV (a k)) ud (fun V hV => range_part ((Below.block hV _ ((Array.getElem?_eq_some_iff.1 a0).1)).trans a0) hlt) hud hur (by rw [info_border]; rfl)) ?_
   refine' take_d 3 (some 21) rfl rfl (by kernel_rfl) (by kernel_rfl) (by kernel_rfl) (fun _ _ _ h => h) (by rfl) hS0 ?hy3 ?rest3
   case hy3 => intro V hV; go_simp; (try with_reducible rfl)
   refine' take_d 4 (some 22) rfl rfl (by kernel_rfl) (by kernel_rfl) (by kernel_rfl) (fun _ _ _ h => h) (by rfl) hS0 ?hy4 ?rest4
   case hy4 => intro V hV; go_simp; (try with_reducible rfl)
   refine take_y 5 (some 23) rfl rfl (by kernel_rfl) (by kernel_rfl) (by kernel_rfl) (fun _ _ _ h => h) hS0 (yieldsIf_load_mid (by rfl) 78 _ rfl (w.heap.size + 1) (k * 9) rfl (bdV (a1 k)) ud (fun V hV => range_part ((Below.block hV _ ((Array.getElem?_eq_some_iff.1 a1').1)).trans a1') hlt) hud hur (by rw [info_border]; rfl)) ?_
   refine wpAnyH_all (rs := [6, 7]) (by kernel_rfl) (by simp) (fun i hi => ?_)
   have hc2 : i = 6 ∨ i = 7 := by simpa using hi
   have hA1 := hS0.alloc (Nat.le_refl _) (.cells #[.bool false, .int .u64 0, .int .u64 0, .int .u64 0, .int .u64 0, .int .u64 0, .int .u64 0, .int .u64 0, .int .u64 0] 78)
   have hA2 := hA1.alloc (by simp) (.cells #[.bool false, .int .u64 0, .int .u64 0, .int .u64 0, .int .u64 0, .int .u64 0, .int .u64 0, .int .u64 0, .int .u64 0] 78)
   have zb1 : ((wr.drew.alloc (.cells #[.bool false, .int .u64 0, .int .u64 0, .int .u64 0, .int .u64 0, .int .u64 0, .int .u64 0, .int .u64 0, .int .u64 0] 78)).alloc (.cells #[.bool false, .int .u64 0, .int .u64 0, .int .u64 0, .int .u64 0, .int .u64 0, .int .u64 0, .int .u64 0, .int .u64 0] 78)).heap[wr.heap.size]? = some (.cells z9.toArray 78 (0, 0)) := (Below.heap_alloc _ _ _ (by rw [World.size_alloc]; exact Nat.lt_succ_self _)).trans (World.alloc_heap_new wr.drew _)
   have zb2 : ((wr.drew.alloc (.cells #[.bool false, .int .u64 0, .int .u64 0, .int .u64 0, .int .u64 0, .int .u64 0, .int .u64 0, .int .u64 0, .int .u64 0] 78)).alloc (.cells #[.bool false, .int .u64 0, .int .u64 0, .int .u64 0, .int .u64 0, .int .u64 0, .int .u64 0, .int .u64 0, .int .u64 0] 78)).heap[wr.heap.size + 1]? = some (.cells z9.toArray 78 (0, 0)) := by
    have h := World.alloc_heap_new (wr.drew.alloc (.cells #[.bool false, .int .u64 0, .int .u64 0, .int .u64 0, .int .u64 0, .int .u64 0, .int .u64 0, .int .u64 0, .int .u64 0] 78)) (.cells #[.bool false, .int .u64 0, .int .u64 0, .int .u64 0, .int .u64 0, .int .u64 0, .int .u64 0, .int .u64 0, .int .u64 0] 78)
    rw [World.size_alloc] at h
    exact h
   rcases hc2 with rfl | rfl
   ·refine op_value (some 9) rfl rfl (by rfl) (v := .pointer (some ⟨wr.heap.size, 0, none⟩)) (w' := wr.drew.alloc (.cells #[.bool false, .int .u64 0, .int .u64 0, .int .u64 0, .int .u64 0, .int .u64 0, .int .u64 0, .int .u64 0, .int .u64 0] 78)) (by clear a0 a1' hC; go_simp; (try with_reducible rfl)) ⟨hA1, ?_⟩
    refine wpAnyH_all (rs := [7]) (by kernel_rfl) (by simp) (fun i hi => ?_)
    obtain rfl : i = 7 := List.mem_singleton.1 hi
    refine op_value (some 10) rfl rfl (by rfl) (v := .pointer (some ⟨wr.heap.size + 1, 0, none⟩)) (w' := (wr.drew.alloc (.cells #[.bool false, .int .u64 0, .int .u64 0, .int .u64 0, .int .u64 0, .int .u64 0, .int .u64 0, .int .u64 0, .int .u64 0] 78)).alloc (.cells #[.bool false, .int .u64 0, .int .u64 0, .int .u64 0, .int .u64 0, .int .u64 0, .int .u64 0, .int .u64 0, .int .u64 0] 78)) (by clear a0 a1' hC; go_simp; (try with_reducible rfl)) ⟨hA2, ?_⟩
    generalize (wr.drew.alloc (.cells #[.bool false, .int .u64 0, .int .u64 0, .int .u64 0, .int .u64 0, .int .u64 0, .int .u64 0, .int .u64 0, .int .u64 0] 78)).alloc (.cells #[.bool false, .int .u64 0, .int .u64 0, .int .u64 0, .int .u64 0, .int .u64 0, .int .u64 0, .int .u64 0, .int .u64 0] 78) = Y0 at *
    simp only [Act.put, List.setIfInBounds_toArray, List.set_cons_zero, List.set_cons_succ]
    refine wpAnyH_all (rs := [8]) (by kernel_rfl) (by simp) (fun i hi => ?_)
    obtain rfl : i = 8 := List.mem_singleton.1 hi
    refine op_store 78 9 20 (wr.heap.size) (bdV (a k)) rfl rfl rfl rfl rfl rfl (there_block zb1 _ rfl) (by rw [info_border]; rfl) (bdV_one _) ?_
    refine And.intro (below_setCells _ (by omega) _ _ _ hA2) ?_
    refine wpAnyH_all (rs := [9]) (by kernel_rfl) (by simp) (fun i hi => ?_)
    obtain rfl : i = 9 := List.mem_singleton.1 hi
    have hA3 := below_setCells (wr.heap.size) (by omega) (bdV (a k)) Y0 0 hA2
    have yb1 := setCells_whole (bdV (a k)) zb1 rfl
    have yb2 : (Y0.setCells (wr.heap.size) 0 (bdV (a k))).heap[wr.heap.size + 1]? = _ := (setCells_far Y0 _ (by omega) _ _).trans zb2
    refine op_store 78 10 23 (wr.heap.size + 1) (bdV (a1 k)) rfl rfl rfl rfl rfl rfl (there_block yb2 _ rfl) (by rw [info_border]; rfl) (bdV_one _) ?_
    refine And.intro (below_setCells _ (by omega) _ _ _ hA3) ?_
    have hY := below_setCells (wr.heap.size + 1) (by omega) (bdV (a1 k)) _ 0 hA3
    have b9 := (setCells_far (Y0.setCells (wr.heap.size) 0 (bdV (a k))) (wr.heap.size + 1) (j := wr.heap.size) (by omega) (bdV (a1 k)) 0).trans yb1
    have b10 := setCells_whole (bdV (a1 k)) yb2 rfl
    refine wpAnyH_done (by kernel_rfl) ?_ _
    change ((Y0.setCells (wr.heap.size) 0 (bdV (a k))).setCells (wr.heap.size + 1) 0 (bdV (a1 k))).heap[wr.heap.size]? = some (.cells (bdV (a k)).toArray 78 (0, 0)) at b9
    show K2 _ ((Y0.setCells (wr.heap.size) 0 (bdV (a k))).setCells (wr.heap.size + 1) 0 (bdV (a1 k)))
    generalize (Y0.setCells (wr.heap.size) 0 (bdV (a k))).setCells (wr.heap.size + 1) 0 (bdV (a1 k)) = Y at *
    obtain ⟨P1, hP1⟩ : ∃ P1, P1 = wr.heap.size := ⟨_, rfl⟩
    obtain ⟨P2, hP2⟩ : ∃ P2, P2 = wr.heap.size + 1 := ⟨_, rfl⟩
    rw [← hP2] at b10 ⊢
    rw [← hP1] at b9 ⊢
    have hP1l : wr.heap.size ≤ P1 := by omega
    have hP2l : wr.heap.size ≤ P2 := by omega
    clear hP1 hP2 zb1 zb2 hA1 hA2 hA3 yb1 yb2 hS0
    refine hK2 _ _ ?_
    simp only [Act.put]
    have hCY := (hY.block _ hCw).trans hC
    have hYw := hbw.trans (hY.mono hbw.size)
    have nP1 : P1 ≠ w1.heap.size := by omega
    have nP2 : P2 ≠ w1.heap.size := by omega
    have hP1Y : P1 < Y.heap.size := (Array.getElem?_eq_some_iff.1 b9).1
    have hP2Y : P2 < Y.heap.size := (Array.getElem?_eq_some_iff.1 b10).1
    have hCs : w1.heap.size < Y.heap.size := (Array.getElem?_eq_some_iff.1 hCY).1
    have HOF := hideT (fun V => orD (a k).fs (a1 k).fs V)
    have HOL := hideT (fun V => orD (a k).ls (a1 k).ls V)
    have X0 : Y.cell? ⟨P1, 0, none⟩ = some (.bool (a k).no) := by simp [World.cell?, b9, bdV]
    have X1 : Y.cell? ⟨P1, 1, none⟩ = some (.int .u64 (wd (a k).fs 0 : Nat)) := by simp [World.cell?, b9, bdV]
    have X2 : Y.cell? ⟨P1, 2, none⟩ = some (.int .u64 (wd (a k).fs 1 : Nat)) := by simp [World.cell?, b9, bdV]
    have X3 : Y.cell? ⟨P1, 3, none⟩ = some (.int .u64 (wd (a k).fs 2 : Nat)) := by simp [World.cell?, b9, bdV]
    have X4 : Y.cell? ⟨P1, 4, none⟩ = some (.int .u64 (wd (a k).fs 3 : Nat)) := by simp [World.cell?, b9, bdV]
    have X5 : Y.cell? ⟨P1, 5, none⟩ = some (.int .u64 (wd (a k).ls 0 : Nat)) := by simp [World.cell?, b9, bdV]
    have X6 : Y.cell? ⟨P1, 6, none⟩ = some (.int .u64 (wd (a k).ls 1 : Nat)) := by simp [World.cell?, b9, bdV]
    have X7 : Y.cell? ⟨P1, 7, none⟩ = some (.int .u64 (wd (a k).ls 2 : Nat)) := by simp [World.cell?, b9, bdV]
    have X8 : Y.cell? ⟨P1, 8, none⟩ = some (.int .u64 (wd (a k).ls 3 : Nat)) := by simp [World.cell?, b9, bdV]
    have Y0' : Y.cell? ⟨P2, 0, none⟩ = some (.bool (a1 k).no) := by simp [World.cell?, b10, bdV]
    have Y1' : Y.cell? ⟨P2, 1, none⟩ = some (.int .u64 (wd (a1 k).fs 0 : Nat)) := by simp [World.cell?, b10, bdV]
    have Y2' : Y.cell? ⟨P2, 2, none⟩ = some (.int .u64 (wd (a1 k).fs 1 : Nat)) := by simp [World.cell?, b10, bdV]
    have Y3' : Y.cell? ⟨P2, 3, none⟩ = some (.int .u64 (wd (a1 k).fs 2 : Nat)) := by simp [World.cell?, b10, bdV]
    have Y4' : Y.cell? ⟨P2, 4, none⟩ = some (.int .u64 (wd (a1 k).fs 3 : Nat)) := by simp [World.cell?, b10, bdV]
    have Y5' : Y.cell? ⟨P2, 5, none⟩ = some (.int .u64 (wd (a1 k).ls 0 : Nat)) := by simp [World.cell?, b10, bdV]
    have Y6' : Y.cell? ⟨P2, 6, none⟩ = some (.int .u64 (wd (a1 k).ls 1 : Nat)) := by simp [World.cell?, b10, bdV]
    have Y7' : Y.cell? ⟨P2, 7, none⟩ = some (.int .u64 (wd (a1 k).ls 2 : Nat)) := by simp [World.cell?, b10, bdV]
    have Y8' : Y.cell? ⟨P2, 8, none⟩ = some (.int .u64 (wd (a1 k).ls 3 : Nat)) := by simp [World.cell?, b10, bdV]
    obtain ⟨C0, F0⟩ := seg_cell hCY (pfx_len (joinB a a1) k) 0 _ rfl
    obtain ⟨C1, F1⟩ := seg_cell hCY (pfx_len (joinB a a1) k) 1 _ rfl
    obtain ⟨C2, F2⟩ := seg_cell hCY (pfx_len (joinB a a1) k) 2 _ rfl
    obtain ⟨C3, F3⟩ := seg_cell hCY (pfx_len (joinB a a1) k) 3 _ rfl
    obtain ⟨C4, F4⟩ := seg_cell hCY (pfx_len (joinB a a1) k) 4 _ rfl
    obtain ⟨C5, F5⟩ := seg_cell hCY (pfx_len (joinB a a1) k) 5 _ rfl
    obtain ⟨C6, F6⟩ := seg_cell hCY (pfx_len (joinB a a1) k) 6 _ rfl
    obtain ⟨C7, F7⟩ := seg_cell hCY (pfx_len (joinB a a1) k) 7 _ rfl
    obtain ⟨C8, F8⟩ := seg_cell hCY (pfx_len (joinB a a1) k) 8 _ rfl
    rw [Nat.add_zero] at C0 F0
    cases hn1 : (a k).no
    ·rw [hn1] at X0
     cases hn2 : (a1 k).no
     ·rw [hn2] at Y0'
      have hV := set9_at hCY (pfx_len (joinB a a1) k) rfl (.bool false) (.int .u64 (wd (a k).fs 0 : Nat)) (.int .u64 (wd (a k).fs 1 : Nat)) (.int .u64 (wd (a k).fs 2 : Nat)) (.int .u64 (wd (a k).fs 3 : Nat)) (.int .u64 (wd (a1 k).ls 0 : Nat)) (.int .u64 (wd (a1 k).ls 1 : Nat)) (.int .u64 (wd (a1 k).ls 2 : Nat)) (.int .u64 (wd (a1 k).ls 3 : Nat))
      have hVb : Below w1.heap.size w1 (set9 Y w1.heap.size (k * 9) (.bool false) (.int .u64 (wd (a k).fs 0 : Nat)) (.int .u64 (wd (a k).fs 1 : Nat)) (.int .u64 (wd (a k).fs 2 : Nat)) (.int .u64 (wd (a k).fs 3 : Nat)) (.int .u64 (wd (a1 k).ls 0 : Nat)) (.int .u64 (wd (a1 k).ls 1 : Nat)) (.int .u64 (wd (a1 k).ls 2 : Nat)) (.int .u64 (wd (a1 k).ls 3 : Nat))) := below_setCells w1.heap.size (Nat.le_refl _) [.bool false, .int .u64 (wd (a k).fs 0 : Nat), .int .u64 (wd (a k).fs 1 : Nat), .int .u64 (wd (a k).fs 2 : Nat), .int .u64 (wd (a k).fs 3 : Nat), .int .u64 (wd (a1 k).ls 0 : Nat), .int .u64 (wd (a1 k).ls 1 : Nat), .int .u64 (wd (a1 k).ls 2 : Nat), .int .u64 (wd (a1 k).ls 3 : Nat)] Y (k * 9) hYw
      have hVs : (set9 Y w1.heap.size (k * 9) (.bool false) (.int .u64 (wd (a k).fs 0 : Nat)) (.int .u64 (wd (a k).fs 1 : Nat)) (.int .u64 (wd (a k).fs 2 : Nat)) (.int .u64 (wd (a k).fs 3 : Nat)) (.int .u64 (wd (a1 k).ls 0 : Nat)) (.int .u64 (wd (a1 k).ls 1 : Nat)) (.int .u64 (wd (a1 k).ls 2 : Nat)) (.int .u64 (wd (a1 k).ls 3 : Nat))).heap.size = Y.heap.size := setCells_size w1.heap.size [.bool false, .int .u64 (wd (a k).fs 0 : Nat), .int .u64 (wd (a k).fs 1 : Nat), .int .u64 (wd (a k).fs 2 : Nat), .int .u64 (wd (a k).fs 3 : Nat), .int .u64 (wd (a1 k).ls 0 : Nat), .int .u64 (wd (a1 k).ls 1 : Nat), .int .u64 (wd (a1 k).ls 2 : Nat), .int .u64 (wd (a1 k).ls 3 : Nat)] Y (k * 9)
      have hV9 : (set9 Y w1.heap.size (k * 9) (.bool false) (.int .u64 (wd (a k).fs 0 : Nat)) (.int .u64 (wd (a k).fs 1 : Nat)) (.int .u64 (wd (a k).fs 2 : Nat)) (.int .u64 (wd (a k).fs 3 : Nat)) (.int .u64 (wd (a1 k).ls 0 : Nat)) (.int .u64 (wd (a1 k).ls 1 : Nat)) (.int .u64 (wd (a1 k).ls 2 : Nat)) (.int .u64 (wd (a1 k).ls 3 : Nat))).heap[P1]? = _ := (setCells_far Y w1.heap.size nP1 [.bool false, .int .u64 (wd (a k).fs 0 : Nat), .int .u64 (wd (a k).fs 1 : Nat), .int .u64 (wd (a k).fs 2 : Nat), .int .u64 (wd (a k).fs 3 : Nat), .int .u64 (wd (a1 k).ls 0 : Nat), .int .u64 (wd (a1 k).ls 1 : Nat), .int .u64 (wd (a1 k).ls 2 : Nat), .int .u64 (wd (a1 k).ls 3 : Nat)] (k * 9)).trans b9
      have hV10 : (set9 Y w1.heap.size (k * 9) (.bool false) (.int .u64 (wd (a k).fs 0 : Nat)) (.int .u64 (wd (a k).fs 1 : Nat)) (.int .u64 (wd (a k).fs 2 : Nat)) (.int .u64 (wd (a k).fs 3 : Nat)) (.int .u64 (wd (a1 k).ls 0 : Nat)) (.int .u64 (wd (a1 k).ls 1 : Nat)) (.int .u64 (wd (a1 k).ls 2 : Nat)) (.int .u64 (wd (a1 k).ls 3 : Nat))).heap[P2]? = _ := (setCells_far Y w1.heap.size nP2 [.bool false, .int .u64 (wd (a k).fs 0 : Nat), .int .u64 (wd (a k).fs 1 : Nat), .int .u64 (wd (a k).fs 2 : Nat), .int .u64 (wd (a k).fs 3 : Nat), .int .u64 (wd (a1 k).ls 0 : Nat), .int .u64 (wd (a1 k).ls 1 : Nat), .int .u64 (wd (a1 k).ls 2 : Nat), .int .u64 (wd (a1 k).ls 3 : Nat)] (k * 9)).trans b10
      have HV := hideT (And.intro hV (And.intro hVb (And.intro hVs (And.intro hV9 hV10))))
      clear hV hVb hVs hV9 hV10 b9 b10 hCY hYw hY hC a0 a1'
      go_wp2
      exact ⟨⟨k + 1, by omega, by go_num, jn_fin hlt HV.out.2.1 HV.out.1 (by simp [joinB, hn1]) (by simp [joinB, hn1]) (by simp [joinB, hn2])⟩, by simp [intOf]; omega⟩
     ·rw [hn2] at Y0'
      have hV := set9_at hCY (pfx_len (joinB a a1) k) rfl (.bool false) (.int .u64 (wd (a k).fs 0 : Nat)) (.int .u64 (wd (a k).fs 1 : Nat)) (.int .u64 (wd (a k).fs 2 : Nat)) (.int .u64 (wd (a k).fs 3 : Nat)) (.int .u64 (wd (a1 k).ls 0 : Nat)) (.int .u64 (wd (a1 k).ls 1 : Nat)) (.int .u64 (wd (a1 k).ls 2 : Nat)) (.int .u64 (wd (a1 k).ls 3 : Nat))
      have hVb : Below w1.heap.size w1 (set9 Y w1.heap.size (k * 9) (.bool false) (.int .u64 (wd (a k).fs 0 : Nat)) (.int .u64 (wd (a k).fs 1 : Nat)) (.int .u64 (wd (a k).fs 2 : Nat)) (.int .u64 (wd (a k).fs 3 : Nat)) (.int .u64 (wd (a1 k).ls 0 : Nat)) (.int .u64 (wd (a1 k).ls 1 : Nat)) (.int .u64 (wd (a1 k).ls 2 : Nat)) (.int .u64 (wd (a1 k).ls 3 : Nat))) := below_setCells w1.heap.size (Nat.le_refl _) [.bool false, .int .u64 (wd (a k).fs 0 : Nat), .int .u64 (wd (a k).fs 1 : Nat), .int .u64 (wd (a k).fs 2 : Nat), .int .u64 (wd (a k).fs 3 : Nat), .int .u64 (wd (a1 k).ls 0 : Nat), .int .u64 (wd (a1 k).ls 1 : Nat), .int .u64 (wd (a1 k).ls 2 : Nat), .int .u64 (wd (a1 k).ls 3 : Nat)] Y (k * 9) hYw
      have hVs : (set9 Y w1.heap.size (k * 9) (.bool false) (.int .u64 (wd (a k).fs 0 : Nat)) (.int .u64 (wd (a k).fs 1 : Nat)) (.int .u64 (wd (a k).fs 2 : Nat)) (.int .u64 (wd (a k).fs 3 : Nat)) (.int .u64 (wd (a1 k).ls 0 : Nat)) (.int .u64 (wd (a1 k).ls 1 : Nat)) (.int .u64 (wd (a1 k).ls 2 : Nat)) (.int .u64 (wd (a1 k).ls 3 : Nat))).heap.size = Y.heap.size := setCells_size w1.heap.size [.bool false, .int .u64 (wd (a k).fs 0 : Nat), .int .u64 (wd (a k).fs 1 : Nat), .int .u64 (wd (a k).fs 2 : Nat), .int .u64 (wd (a k).fs 3 : Nat), .int .u64 (wd (a1 k).ls 0 : Nat), .int .u64 (wd (a1 k).ls 1 : Nat), .int .u64 (wd (a1 k).ls 2 : Nat), .int .u64 (wd (a1 k).ls 3 : Nat)] Y (k * 9)
      have hV9 : (set9 Y w1.heap.size (k * 9) (.bool false) (.int .u64 (wd (a k).fs 0 : Nat)) (.int .u64 (wd (a k).fs 1 : Nat)) (.int .u64 (wd (a k).fs 2 : Nat)) (.int .u64 (wd (a k).fs 3 : Nat)) (.int .u64 (wd (a1 k).ls 0 : Nat)) (.int .u64 (wd (a1 k).ls 1 : Nat)) (.int .u64 (wd (a1 k).ls 2 : Nat)) (.int .u64 (wd (a1 k).ls 3 : Nat))).heap[P1]? = _ := (setCells_far Y w1.heap.size nP1 [.bool false, .int .u64 (wd (a k).fs 0 : Nat), .int .u64 (wd (a k).fs 1 : Nat), .int .u64 (wd (a k).fs 2 : Nat), .int .u64 (wd (a k).fs 3 : Nat), .int .u64 (wd (a1 k).ls 0 : Nat), .int .u64 (wd (a1 k).ls 1 : Nat), .int .u64 (wd (a1 k).ls 2 : Nat), .int .u64 (wd (a1 k).ls 3 : Nat)] (k * 9)).trans b9
      have hV10 : (set9 Y w1.heap.size (k * 9) (.bool false) (.int .u64 (wd (a k).fs 0 : Nat)) (.int .u64 (wd (a k).fs 1 : Nat)) (.int .u64 (wd (a k).fs 2 : Nat)) (.int .u64 (wd (a k).fs 3 : Nat)) (.int .u64 (wd (a1 k).ls 0 : Nat)) (.int .u64 (wd (a1 k).ls 1 : Nat)) (.int .u64 (wd (a1 k).ls 2 : Nat)) (.int .u64 (wd (a1 k).ls 3 : Nat))).heap[P2]? = _ := (setCells_far Y w1.heap.size nP2 [.bool false, .int .u64 (wd (a k).fs 0 : Nat), .int .u64 (wd (a k).fs 1 : Nat), .int .u64 (wd (a k).fs 2 : Nat), .int .u64 (wd (a k).fs 3 : Nat), .int .u64 (wd (a1 k).ls 0 : Nat), .int .u64 (wd (a1 k).ls 1 : Nat), .int .u64 (wd (a1 k).ls 2 : Nat), .int .u64 (wd (a1 k).ls 3 : Nat)] (k * 9)).trans b10
      have HV := hideT (And.intro hV (And.intro hVb (And.intro hVs (And.intro hV9 hV10))))
      clear hV hVb hVs hV9 hV10 b9 b10 hCY hYw hY hC a0 a1'
      go_wp2_with fail
      refine (HOL.out _).mono ?_
      rintro e W2 ⟨rfl, hb2⟩
      have hC2 := (hb2.block _ (by rw [HV.out.2.2.1]; omega)).trans HV.out.1
      rw [seg_ls] at hC2
      have hp2 : (pfx (joinB a a1) k ++ [Value.bool false, .int .u64 (wd (a k).fs 0 : Nat), .int .u64 (wd (a k).fs 1 : Nat), .int .u64 (wd (a k).fs 2 : Nat), .int .u64 (wd (a k).fs 3 : Nat)]).length = k * 9 + 5 := by rw [List.length_append, pfx_len]; rfl
      have hZ := put4at_at hC2 hp2 rfl (orP (a k).ls (a1 k).ls)
      have hZb : Below w1.heap.size w1 (put4at W2 w1.heap.size (k * 9 + 5) (orP (a k).ls (a1 k).ls)) := below_setCells w1.heap.size (Nat.le_refl _) [.int .u64 (wd (orP (a k).ls (a1 k).ls) 0 : Nat), .int .u64 (wd (orP (a k).ls (a1 k).ls) 1 : Nat), .int .u64 (wd (orP (a k).ls (a1 k).ls) 2 : Nat), .int .u64 (wd (orP (a k).ls (a1 k).ls) 3 : Nat)] W2 (k * 9 + 5) (HV.out.2.1.trans (hb2.mono HV.out.2.1.size))
      obtain ⟨c0, f0⟩ := seg_cell hC2 hp2 0 _ rfl
      obtain ⟨c1, f1⟩ := seg_cell hC2 hp2 1 _ rfl
      obtain ⟨c2, f2⟩ := seg_cell hC2 hp2 2 _ rfl
      obtain ⟨c3, f3⟩ := seg_cell hC2 hp2 3 _ rfl
      rw [Nat.add_zero] at c0 f0
      have HZ := hideT (And.intro hZ hZb)
      clear hZ hZb hC2 hp2 hb2 HV X0 X1 X2 X3 X4 X5 X6 X7 X8 Y0' Y1' Y2' Y3' Y4' Y5' Y6' Y7' Y8' C0 C1 C2 C3 C4 C5 C6 C7 C8 F0 F1 F2 F3 F4 F5 F6 F7 F8
      go_wp2
      exact ⟨⟨k + 1, by omega, by go_num, jn_fin hlt HZ.out.2 (HZ.out.1.trans (by rw [List.append_assoc]; rfl)) (by simp [joinB, hn1]) (by simp [joinB, hn1]) (by simp [joinB, hn2]; rfl)⟩, by simp [intOf]; omega⟩
    ·rw [hn1] at X0
     cases hn2 : (a1 k).no
     ·rw [hn2] at Y0'
      have hV := set9_at hCY (pfx_len (joinB a a1) k) rfl (.bool false) (.int .u64 (wd (a k).fs 0 : Nat)) (.int .u64 (wd (a k).fs 1 : Nat)) (.int .u64 (wd (a k).fs 2 : Nat)) (.int .u64 (wd (a k).fs 3 : Nat)) (.int .u64 (wd (a1 k).ls 0 : Nat)) (.int .u64 (wd (a1 k).ls 1 : Nat)) (.int .u64 (wd (a1 k).ls 2 : Nat)) (.int .u64 (wd (a1 k).ls 3 : Nat))
      have hVb : Below w1.heap.size w1 (set9 Y w1.heap.size (k * 9) (.bool false) (.int .u64 (wd (a k).fs 0 : Nat)) (.int .u64 (wd (a k).fs 1 : Nat)) (.int .u64 (wd (a k).fs 2 : Nat)) (.int .u64 (wd (a k).fs 3 : Nat)) (.int .u64 (wd (a1 k).ls 0 : Nat)) (.int .u64 (wd (a1 k).ls 1 : Nat)) (.int .u64 (wd (a1 k).ls 2 : Nat)) (.int .u64 (wd (a1 k).ls 3 : Nat))) := below_setCells w1.heap.size (Nat.le_refl _) [.bool false, .int .u64 (wd (a k).fs 0 : Nat), .int .u64 (wd (a k).fs 1 : Nat), .int .u64 (wd (a k).fs 2 : Nat), .int .u64 (wd (a k).fs 3 : Nat), .int .u64 (wd (a1 k).ls 0 : Nat), .int .u64 (wd (a1 k).ls 1 : Nat), .int .u64 (wd (a1 k).ls 2 : Nat), .int .u64 (wd (a1 k).ls 3 : Nat)] Y (k * 9) hYw
      have hVs : (set9 Y w1.heap.size (k * 9) (.bool false) (.int .u64 (wd (a k).fs 0 : Nat)) (.int .u64 (wd (a k).fs 1 : Nat)) (.int .u64 (wd (a k).fs 2 : Nat)) (.int .u64 (wd (a k).fs 3 : Nat)) (.int .u64 (wd (a1 k).ls 0 : Nat)) (.int .u64 (wd (a1 k).ls 1 : Nat)) (.int .u64 (wd (a1 k).ls 2 : Nat)) (.int .u64 (wd (a1 k).ls 3 : Nat))).heap.size = Y.heap.size := setCells_size w1.heap.size [.bool false, .int .u64 (wd (a k).fs 0 : Nat), .int .u64 (wd (a k).fs 1 : Nat), .int .u64 (wd (a k).fs 2 : Nat), .int .u64 (wd (a k).fs 3 : Nat), .int .u64 (wd (a1 k).ls 0 : Nat), .int .u64 (wd (a1 k).ls 1 : Nat), .int .u64 (wd (a1 k).ls 2 : Nat), .int .u64 (wd (a1 k).ls 3 : Nat)] Y (k * 9)
      have hV9 : (set9 Y w1.heap.size (k * 9) (.bool false) (.int .u64 (wd (a k).fs 0 : Nat)) (.int .u64 (wd (a k).fs 1 : Nat)) (.int .u64 (wd (a k).fs 2 : Nat)) (.int .u64 (wd (a k).fs 3 : Nat)) (.int .u64 (wd (a1 k).ls 0 : Nat)) (.int .u64 (wd (a1 k).ls 1 : Nat)) (.int .u64 (wd (a1 k).ls 2 : Nat)) (.int .u64 (wd (a1 k).ls 3 : Nat))).heap[P1]? = _ := (setCells_far Y w1.heap.size nP1 [.bool false, .int .u64 (wd (a k).fs 0 : Nat), .int .u64 (wd (a k).fs 1 : Nat), .int .u64 (wd (a k).fs 2 : Nat), .int .u64 (wd (a k).fs 3 : Nat), .int .u64 (wd (a1 k).ls 0 : Nat), .int .u64 (wd (a1 k).ls 1 : Nat), .int .u64 (wd (a1 k).ls 2 : Nat), .int .u64 (wd (a1 k).ls 3 : Nat)] (k * 9)).trans b9
      have hV10 : (set9 Y w1.heap.size (k * 9) (.bool false) (.int .u64 (wd (a k).fs 0 : Nat)) (.int .u64 (wd (a k).fs 1 : Nat)) (.int .u64 (wd (a k).fs 2 : Nat)) (.int .u64 (wd (a k).fs 3 : Nat)) (.int .u64 (wd (a1 k).ls 0 : Nat)) (.int .u64 (wd (a1 k).ls 1 : Nat)) (.int .u64 (wd (a1 k).ls 2 : Nat)) (.int .u64 (wd (a1 k).ls 3 : Nat))).heap[P2]? = _ := (setCells_far Y w1.heap.size nP2 [.bool false, .int .u64 (wd (a k).fs 0 : Nat), .int .u64 (wd (a k).fs 1 : Nat), .int .u64 (wd (a k).fs 2 : Nat), .int .u64 (wd (a k).fs 3 : Nat), .int .u64 (wd (a1 k).ls 0 : Nat), .int .u64 (wd (a1 k).ls 1 : Nat), .int .u64 (wd (a1 k).ls 2 : Nat), .int .u64 (wd (a1 k).ls 3 : Nat)] (k * 9)).trans b10
      have HV := hideT (And.intro hV (And.intro hVb (And.intro hVs (And.intro hV9 hV10))))
      clear hV hVb hVs hV9 hV10 b9 b10 hCY hYw hY hC a0 a1'
      go_wp2_with fail
      refine (HOF.out _).mono ?_
      rintro e W2 ⟨rfl, hb2⟩
      have hC2 := (hb2.block _ (by rw [HV.out.2.2.1]; omega)).trans HV.out.1
      rw [seg_fs] at hC2
      have hp2 : (pfx (joinB a a1) k ++ [Value.bool false]).length = k * 9 + 1 := by rw [List.length_append, pfx_len]; rfl
      have hZ := put4at_at hC2 hp2 rfl (orP (a k).fs (a1 k).fs)
      have hZb : Below w1.heap.size w1 (put4at W2 w1.heap.size (k * 9 + 1) (orP (a k).fs (a1 k).fs)) := below_setCells w1.heap.size (Nat.le_refl _) [.int .u64 (wd (orP (a k).fs (a1 k).fs) 0 : Nat), .int .u64 (wd (orP (a k).fs (a1 k).fs) 1 : Nat), .int .u64 (wd (orP (a k).fs (a1 k).fs) 2 : Nat), .int .u64 (wd (orP (a k).fs (a1 k).fs) 3 : Nat)] W2 (k * 9 + 1) (HV.out.2.1.trans (hb2.mono HV.out.2.1.size))
      have hZs : (put4at W2 w1.heap.size (k * 9 + 1) (orP (a k).fs (a1 k).fs)).heap.size = W2.heap.size := put4at_size _ _ _ _
      have hZ9 := (put4at_far W2 w1.heap.size (k * 9 + 1) (orP (a k).fs (a1 k).fs) nP1).trans ((hb2.block _ (by rw [HV.out.2.2.1]; exact hP1Y)).trans HV.out.2.2.2.1)
      have hZ10 := (put4at_far W2 w1.heap.size (k * 9 + 1) (orP (a k).fs (a1 k).fs) nP2).trans ((hb2.block _ (by rw [HV.out.2.2.1]; exact hP2Y)).trans HV.out.2.2.2.2)
      have hs2 := hb2.size
      rw [HV.out.2.2.1] at hs2
      obtain ⟨c0, f0⟩ := seg_cell hC2 hp2 0 _ rfl
      obtain ⟨c1, f1⟩ := seg_cell hC2 hp2 1 _ rfl
      obtain ⟨c2, f2⟩ := seg_cell hC2 hp2 2 _ rfl
      obtain ⟨c3, f3⟩ := seg_cell hC2 hp2 3 _ rfl
      rw [Nat.add_zero] at c0 f0
      have g0 := (hb2.block P2 (by rw [HV.out.2.2.1]; exact hP2Y)).trans HV.out.2.2.2.2
      have g9 := (hb2.block P1 (by rw [HV.out.2.2.1]; exact hP1Y)).trans HV.out.2.2.2.1
      have r0 : W2.cell? ⟨P2, 0, none⟩ = some (.bool false) := by simp [World.cell?, g0, bdV, hn2]
      have u0 : W2.cell? ⟨P2, 5, none⟩ = some (.int .u64 (wd (a1 k).ls 0 : Nat)) := by simp [World.cell?, g0, bdV]
      have t0 : W2.cell? ⟨P1, 5, none⟩ = some (.int .u64 (wd (a k).ls 0 : Nat)) := by simp [World.cell?, g9, bdV]
      have u1 : W2.cell? ⟨P2, 6, none⟩ = some (.int .u64 (wd (a1 k).ls 1 : Nat)) := by simp [World.cell?, g0, bdV]
      have t1 : W2.cell? ⟨P1, 6, none⟩ = some (.int .u64 (wd (a k).ls 1 : Nat)) := by simp [World.cell?, g9, bdV]
      have u2 : W2.cell? ⟨P2, 7, none⟩ = some (.int .u64 (wd (a1 k).ls 2 : Nat)) := by simp [World.cell?, g0, bdV]
      have t2 : W2.cell? ⟨P1, 7, none⟩ = some (.int .u64 (wd (a k).ls 2 : Nat)) := by simp [World.cell?, g9, bdV]
      have u3 : W2.cell? ⟨P2, 8, none⟩ = some (.int .u64 (wd (a1 k).ls 3 : Nat)) := by simp [World.cell?, g0, bdV]
      have t3 : W2.cell? ⟨P1, 8, none⟩ = some (.int .u64 (wd (a k).ls 3 : Nat)) := by simp [World.cell?, g9, bdV]
      have HZ := hideT (And.intro hZ (And.intro hZb (And.intro hZs (And.intro hZ9 (And.intro hZ10 hs2)))))
      clear hZ hZb hZs hZ9 hZ10 hC2 hp2 hb2 g0 g9 HV hs2 X0 X1 X2 X3 X4 X5 X6 X7 X8 Y0' Y1' Y2' Y3' Y4' Y5' Y6' Y7' Y8' C0 C1 C2 C3 C4 C5 C6 C7 C8 F0 F1 F2 F3 F4 F5 F6 F7 F8
      go_wp2
      exact ⟨⟨k + 1, by omega, by go_num, jn_fin hlt HZ.out.2.1 (HZ.out.1.trans (by rw [List.append_assoc]; rfl)) (by simp [joinB, hn2]) (by simp [joinB, hn1]; rfl) (by simp [joinB, hn2])⟩, by simp [intOf]; omega⟩
     ·rw [hn2] at Y0'
      have hV := set9_at hCY (pfx_len (joinB a a1) k) rfl (.bool true) (.int .u64 (wd (a k).fs 0 : Nat)) (.int .u64 (wd (a k).fs 1 : Nat)) (.int .u64 (wd (a k).fs 2 : Nat)) (.int .u64 (wd (a k).fs 3 : Nat)) (.int .u64 (wd (a1 k).ls 0 : Nat)) (.int .u64 (wd (a1 k).ls 1 : Nat)) (.int .u64 (wd (a1 k).ls 2 : Nat)) (.int .u64 (wd (a1 k).ls 3 : Nat))
      have hVb : Below w1.heap.size w1 (set9 Y w1.heap.size (k * 9) (.bool true) (.int .u64 (wd (a k).fs 0 : Nat)) (.int .u64 (wd (a k).fs 1 : Nat)) (.int .u64 (wd (a k).fs 2 : Nat)) (.int .u64 (wd (a k).fs 3 : Nat)) (.int .u64 (wd (a1 k).ls 0 : Nat)) (.int .u64 (wd (a1 k).ls 1 : Nat)) (.int .u64 (wd (a1 k).ls 2 : Nat)) (.int .u64 (wd (a1 k).ls 3 : Nat))) := below_setCells w1.heap.size (Nat.le_refl _) [.bool true, .int .u64 (wd (a k).fs 0 : Nat), .int .u64 (wd (a k).fs 1 : Nat), .int .u64 (wd (a k).fs 2 : Nat), .int .u64 (wd (a k).fs 3 : Nat), .int .u64 (wd (a1 k).ls 0 : Nat), .int .u64 (wd (a1 k).ls 1 : Nat), .int .u64 (wd (a1 k).ls 2 : Nat), .int .u64 (wd (a1 k).ls 3 : Nat)] Y (k * 9) hYw
      have hVs : (set9 Y w1.heap.size (k * 9) (.bool true) (.int .u64 (wd (a k).fs 0 : Nat)) (.int .u64 (wd (a k).fs 1 : Nat)) (.int .u64 (wd (a k).fs 2 : Nat)) (.int .u64 (wd (a k).fs 3 : Nat)) (.int .u64 (wd (a1 k).ls 0 : Nat)) (.int .u64 (wd (a1 k).ls 1 : Nat)) (.int .u64 (wd (a1 k).ls 2 : Nat)) (.int .u64 (wd (a1 k).ls 3 : Nat))).heap.size = Y.heap.size := setCells_size w1.heap.size [.bool true, .int .u64 (wd (a k).fs 0 : Nat), .int .u64 (wd (a k).fs 1 : Nat), .int .u64 (wd (a k).fs 2 : Nat), .int .u64 (wd (a k).fs 3 : Nat), .int .u64 (wd (a1 k).ls 0 : Nat), .int .u64 (wd (a1 k).ls 1 : Nat), .int .u64 (wd (a1 k).ls 2 : Nat), .int .u64 (wd (a1 k).ls 3 : Nat)] Y (k * 9)
      have hV9 : (set9 Y w1.heap.size (k * 9) (.bool true) (.int .u64 (wd (a k).fs 0 : Nat)) (.int .u64 (wd (a k).fs 1 : Nat)) (.int .u64 (wd (a k).fs 2 : Nat)) (.int .u64 (wd (a k).fs 3 : Nat)) (.int .u64 (wd (a1 k).ls 0 : Nat)) (.int .u64 (wd (a1 k).ls 1 : Nat)) (.int .u64 (wd (a1 k).ls 2 : Nat)) (.int .u64 (wd (a1 k).ls 3 : Nat))).heap[P1]? = _ := (setCells_far Y w1.heap.size nP1 [.bool true, .int .u64 (wd (a k).fs 0 : Nat), .int .u64 (wd (a k).fs 1 : Nat), .int .u64 (wd (a k).fs 2 : Nat), .int .u64 (wd (a k).fs 3 : Nat), .int .u64 (wd (a1 k).ls 0 : Nat), .int .u64 (wd (a1 k).ls 1 : Nat), .int .u64 (wd (a1 k).ls 2 : Nat), .int .u64 (wd (a1 k).ls 3 : Nat)] (k * 9)).trans b9
      have hV10 : (set9 Y w1.heap.size (k * 9) (.bool true) (.int .u64 (wd (a k).fs 0 : Nat)) (.int .u64 (wd (a k).fs 1 : Nat)) (.int .u64 (wd (a k).fs 2 : Nat)) (.int .u64 (wd (a k).fs 3 : Nat)) (.int .u64 (wd (a1 k).ls 0 : Nat)) (.int .u64 (wd (a1 k).ls 1 : Nat)) (.int .u64 (wd (a1 k).ls 2 : Nat)) (.int .u64 (wd (a1 k).ls 3 : Nat))).heap[P2]? = _ := (setCells_far Y w1.heap.size nP2 [.bool true, .int .u64 (wd (a k).fs 0 : Nat), .int .u64 (wd (a k).fs 1 : Nat), .int .u64 (wd (a k).fs 2 : Nat), .int .u64 (wd (a k).fs 3 : Nat), .int .u64 (wd (a1 k).ls 0 : Nat), .int .u64 (wd (a1 k).ls 1 : Nat), .int .u64 (wd (a1 k).ls 2 : Nat), .int .u64 (wd (a1 k).ls 3 : Nat)] (k * 9)).trans b10
      have HV := hideT (And.intro hV (And.intro hVb (And.intro hVs (And.intro hV9 hV10))))
      clear hV hVb hVs hV9 hV10 b9 b10 hCY hYw hY hC a0 a1'
      go_wp2_with fail
      refine (HOF.out _).mono ?_
      rintro e W2 ⟨rfl, hb2⟩
      have hC2 := (hb2.block _ (by rw [HV.out.2.2.1]; omega)).trans HV.out.1
      rw [seg_fs] at hC2
      have hp2 : (pfx (joinB a a1) k ++ [Value.bool true]).length = k * 9 + 1 := by rw [List.length_append, pfx_len]; rfl
      have hZ := put4at_at hC2 hp2 rfl (orP (a k).fs (a1 k).fs)
      have hZb : Below w1.heap.size w1 (put4at W2 w1.heap.size (k * 9 + 1) (orP (a k).fs (a1 k).fs)) := below_setCells w1.heap.size (Nat.le_refl _) [.int .u64 (wd (orP (a k).fs (a1 k).fs) 0 : Nat), .int .u64 (wd (orP (a k).fs (a1 k).fs) 1 : Nat), .int .u64 (wd (orP (a k).fs (a1 k).fs) 2 : Nat), .int .u64 (wd (orP (a k).fs (a1 k).fs) 3 : Nat)] W2 (k * 9 + 1) (HV.out.2.1.trans (hb2.mono HV.out.2.1.size))
      have hZs : (put4at W2 w1.heap.size (k * 9 + 1) (orP (a k).fs (a1 k).fs)).heap.size = W2.heap.size := put4at_size _ _ _ _
      have hZ9 := (put4at_far W2 w1.heap.size (k * 9 + 1) (orP (a k).fs (a1 k).fs) nP1).trans ((hb2.block _ (by rw [HV.out.2.2.1]; exact hP1Y)).trans HV.out.2.2.2.1)
      have hZ10 := (put4at_far W2 w1.heap.size (k * 9 + 1) (orP (a k).fs (a1 k).fs) nP2).trans ((hb2.block _ (by rw [HV.out.2.2.1]; exact hP2Y)).trans HV.out.2.2.2.2)
      have hs2 := hb2.size
      rw [HV.out.2.2.1] at hs2
      obtain ⟨c0, f0⟩ := seg_cell hC2 hp2 0 _ rfl
      obtain ⟨c1, f1⟩ := seg_cell hC2 hp2 1 _ rfl
      obtain ⟨c2, f2⟩ := seg_cell hC2 hp2 2 _ rfl
      obtain ⟨c3, f3⟩ := seg_cell hC2 hp2 3 _ rfl
      rw [Nat.add_zero] at c0 f0
      have g0 := (hb2.block P2 (by rw [HV.out.2.2.1]; exact hP2Y)).trans HV.out.2.2.2.2
      have g9 := (hb2.block P1 (by rw [HV.out.2.2.1]; exact hP1Y)).trans HV.out.2.2.2.1
      have r0 : W2.cell? ⟨P2, 0, none⟩ = some (.bool true) := by simp [World.cell?, g0, bdV, hn2]
      have u0 : W2.cell? ⟨P2, 5, none⟩ = some (.int .u64 (wd (a1 k).ls 0 : Nat)) := by simp [World.cell?, g0, bdV]
      have t0 : W2.cell? ⟨P1, 5, none⟩ = some (.int .u64 (wd (a k).ls 0 : Nat)) := by simp [World.cell?, g9, bdV]
      have u1 : W2.cell? ⟨P2, 6, none⟩ = some (.int .u64 (wd (a1 k).ls 1 : Nat)) := by simp [World.cell?, g0, bdV]
      have t1 : W2.cell? ⟨P1, 6, none⟩ = some (.int .u64 (wd (a k).ls 1 : Nat)) := by simp [World.cell?, g9, bdV]
      have u2 : W2.cell? ⟨P2, 7, none⟩ = some (.int .u64 (wd (a1 k).ls 2 : Nat)) := by simp [World.cell?, g0, bdV]
      have t2 : W2.cell? ⟨P1, 7, none⟩ = some (.int .u64 (wd (a k).ls 2 : Nat)) := by simp [World.cell?, g9, bdV]
      have u3 : W2.cell? ⟨P2, 8, none⟩ = some (.int .u64 (wd (a1 k).ls 3 : Nat)) := by simp [World.cell?, g0, bdV]
      have t3 : W2.cell? ⟨P1, 8, none⟩ = some (.int .u64 (wd (a k).ls 3 : Nat)) := by simp [World.cell?, g9, bdV]
      have HZ := hideT (And.intro hZ (And.intro hZb (And.intro hZs (And.intro hZ9 (And.intro hZ10 hs2)))))
      clear hZ hZb hZs hZ9 hZ10 hC2 hp2 hb2 g0 g9 HV hs2 X0 X1 X2 X3 X4 X5 X6 X7 X8 Y0' Y1' Y2' Y3' Y4' Y5' Y6' Y7' Y8' C0 C1 C2 C3 C4 C5 C6 C7 C8 F0 F1 F2 F3 F4 F5 F6 F7 F8
      go_wp2_with fail
      refine (HOL.out _).mono ?_
      rintro e W3 ⟨rfl, hb3⟩
      have hC3 := (hb3.block _ (by rw [HZ.out.2.2.1]; have := HZ.out.2.2.2.2.2; omega)).trans (HZ.out.1.trans (by rw [List.append_assoc]; rfl : _ = some (Obj.cells (pfx (joinB a a1) k ++ (([.bool true, .int .u64 (wd (orP (a k).fs (a1 k).fs) 0 : Nat), .int .u64 (wd (orP (a k).fs (a1 k).fs) 1 : Nat), .int .u64 (wd (orP (a k).fs (a1 k).fs) 2 : Nat), .int .u64 (wd (orP (a k).fs (a1 k).fs) 3 : Nat), .int .u64 (wd (a1 k).ls 0 : Nat), .int .u64 (wd (a1 k).ls 1 : Nat), .int .u64 (wd (a1 k).ls 2 : Nat), .int .u64 (wd (a1 k).ls 3 : Nat)] : List Value) ++ zr (3 - k))).toArray 81 (0, 0))))
      rw [seg_ls] at hC3
      have hp3 : (pfx (joinB a a1) k ++ [Value.bool true, .int .u64 (wd (orP (a k).fs (a1 k).fs) 0 : Nat), .int .u64 (wd (orP (a k).fs (a1 k).fs) 1 : Nat), .int .u64 (wd (orP (a k).fs (a1 k).fs) 2 : Nat), .int .u64 (wd (orP (a k).fs (a1 k).fs) 3 : Nat)]).length = k * 9 + 5 := by rw [List.length_append, pfx_len]; rfl
      have hZ := put4at_at hC3 hp3 rfl (orP (a k).ls (a1 k).ls)
      have hZb : Below w1.heap.size w1 (put4at W3 w1.heap.size (k * 9 + 5) (orP (a k).ls (a1 k).ls)) := below_setCells w1.heap.size (Nat.le_refl _) [.int .u64 (wd (orP (a k).ls (a1 k).ls) 0 : Nat), .int .u64 (wd (orP (a k).ls (a1 k).ls) 1 : Nat), .int .u64 (wd (orP (a k).ls (a1 k).ls) 2 : Nat), .int .u64 (wd (orP (a k).ls (a1 k).ls) 3 : Nat)] W3 (k * 9 + 5) (HZ.out.2.1.trans (hb3.mono HZ.out.2.1.size))
      obtain ⟨c0', f0'⟩ := seg_cell hC3 hp3 0 _ rfl
      obtain ⟨c1', f1'⟩ := seg_cell hC3 hp3 1 _ rfl
      obtain ⟨c2', f2'⟩ := seg_cell hC3 hp3 2 _ rfl
      obtain ⟨c3', f3'⟩ := seg_cell hC3 hp3 3 _ rfl
      rw [Nat.add_zero] at c0' f0'
      have HZ2 := hideT (And.intro hZ hZb)
      clear hZ hZb hC3 hp3 hb3 HZ c0 c1 c2 c3 f0 f1 f2 f3 u0 u1 u2 u3 t0 t1 t2 t3 r0
      go_wp2
      exact ⟨⟨k + 1, by omega, by go_num, jn_fin hlt HZ2.out.2 (HZ2.out.1.trans (by rw [List.append_assoc]; rfl)) (by simp [joinB, hn1, hn2]) (by simp [joinB, hn1]; rfl) (by simp [joinB, hn2]; rfl)⟩, by simp [intOf]; omega⟩
   ·refine op_value (some 10) rfl rfl (by rfl) (v := .pointer (some ⟨wr.heap.size, 0, none⟩)) (w' := wr.drew.alloc (.cells #[.bool false, .int .u64 0, .int .u64 0, .int .u64 0, .int .u64 0, .int .u64 0, .int .u64 0, .int .u64 0, .int .u64 0] 78)) (by clear a0 a1' hC; go_simp; (try with_reducible rfl)) ⟨hA1, ?_⟩
    refine wpAnyH_all (rs := [6]) (by kernel_rfl) (by simp) (fun i hi => ?_)
    obtain rfl : i = 6 := List.mem_singleton.1 hi
    refine op_value (some 9) rfl rfl (by rfl) (v := .pointer (some ⟨wr.heap.size + 1, 0, none⟩)) (w' := (wr.drew.alloc (.cells #[.bool false, .int .u64 0, .int .u64 0, .int .u64 0, .int .u64 0, .int .u64 0, .int .u64 0, .int .u64 0, .int .u64 0] 78)).alloc (.cells #[.bool false, .int .u64 0, .int .u64 0, .int .u64 0, .int .u64 0, .int .u64 0, .int .u64 0, .int .u64 0, .int .u64 0] 78)) (by clear a0 a1' hC; go_simp; (try with_reducible rfl)) ⟨hA2, ?_⟩
    generalize (wr.drew.alloc (.cells #[.bool false, .int .u64 0, .int .u64 0, .int .u64 0, .int .u64 0, .int .u64 0, .int .u64 0, .int .u64 0, .int .u64 0] 78)).alloc (.cells #[.bool false, .int .u64 0, .int .u64 0, .int .u64 0, .int .u64 0, .int .u64 0, .int .u64 0, .int .u64 0, .int .u64 0] 78) = Y0 at *
    simp only [Act.put, List.setIfInBounds_toArray, List.set_cons_zero, List.set_cons_succ]
    refine wpAnyH_all (rs := [8]) (by kernel_rfl) (by simp) (fun i hi => ?_)
    obtain rfl : i = 8 := List.mem_singleton.1 hi
    refine op_store 78 9 20 (wr.heap.size + 1) (bdV (a k)) rfl rfl rfl rfl rfl rfl (there_block zb2 _ rfl) (by rw [info_border]; rfl) (bdV_one _) ?_
    refine And.intro (below_setCells _ (by omega) _ _ _ hA2) ?_
    refine wpAnyH_all (rs := [9]) (by kernel_rfl) (by simp) (fun i hi => ?_)
    obtain rfl : i = 9 := List.mem_singleton.1 hi
    have hA3 := below_setCells (wr.heap.size + 1) (by omega) (bdV (a k)) Y0 0 hA2
    have yb1 := setCells_whole (bdV (a k)) zb2 rfl
    have yb2 : (Y0.setCells (wr.heap.size + 1) 0 (bdV (a k))).heap[wr.heap.size]? = _ := (setCells_far Y0 _ (by omega) _ _).trans zb1
    refine op_store 78 10 23 (wr.heap.size) (bdV (a1 k)) rfl rfl rfl rfl rfl rfl (there_block yb2 _ rfl) (by rw [info_border]; rfl) (bdV_one _) ?_
    refine And.intro (below_setCells _ (by omega) _ _ _ hA3) ?_
    have hY := below_setCells (wr.heap.size) (by omega) (bdV (a1 k)) _ 0 hA3
    have b9 := (setCells_far (Y0.setCells (wr.heap.size + 1) 0 (bdV (a k))) (wr.heap.size) (j := wr.heap.size + 1) (by omega) (bdV (a1 k)) 0).trans yb1
    have b10 := setCells_whole (bdV (a1 k)) yb2 rfl
    refine wpAnyH_done (by kernel_rfl) ?_ _
    change ((Y0.setCells (wr.heap.size + 1) 0 (bdV (a k))).setCells (wr.heap.size) 0 (bdV (a1 k))).heap[wr.heap.size + 1]? = some (.cells (bdV (a k)).toArray 78 (0, 0)) at b9
    show K2 _ ((Y0.setCells (wr.heap.size + 1) 0 (bdV (a k))).setCells (wr.heap.size) 0 (bdV (a1 k)))
    generalize (Y0.setCells (wr.heap.size + 1) 0 (bdV (a k))).setCells (wr.heap.size) 0 (bdV (a1 k)) = Y at *
    obtain ⟨P1, hP1⟩ : ∃ P1, P1 = wr.heap.size + 1 := ⟨_, rfl⟩
    obtain ⟨P2, hP2⟩ : ∃ P2, P2 = wr.heap.size := ⟨_, rfl⟩
    rw [← hP1] at b9 ⊢
    rw [← hP2] at b10 ⊢
    have hP1l : wr.heap.size ≤ P1 := by omega
    have hP2l : wr.heap.size ≤ P2 := by omega
    clear hP1 hP2 zb1 zb2 hA1 hA2 hA3 yb1 yb2 hS0
    refine hK2 _ _ ?_
    simp only [Act.put]
    have hCY := (hY.block _ hCw).trans hC
    have hYw := hbw.trans (hY.mono hbw.size)
    have nP1 : P1 ≠ w1.heap.size := by omega
    have nP2 : P2 ≠ w1.heap.size := by omega
    have hP1Y : P1 < Y.heap.size := (Array.getElem?_eq_some_iff.1 b9).1
    have hP2Y : P2 < Y.heap.size := (Array.getElem?_eq_some_iff.1 b10).1
    have hCs : w1.heap.size < Y.heap.size := (Array.getElem?_eq_some_iff.1 hCY).1
    have HOF := hideT (fun V => orD (a k).fs (a1 k).fs V)
    have HOL := hideT (fun V => orD (a k).ls (a1 k).ls V)
    have X0 : Y.cell? ⟨P1, 0, none⟩ = some (.bool (a k).no) := by simp [World.cell?, b9, bdV]
    have X1 : Y.cell? ⟨P1, 1, none⟩ = some (.int .u64 (wd (a k).fs 0 : Nat)) := by simp [World.cell?, b9, bdV]
    have X2 : Y.cell? ⟨P1, 2, none⟩ = some (.int .u64 (wd (a k).fs 1 : Nat)) := by simp [World.cell?, b9, bdV]
    have X3 : Y.cell? ⟨P1, 3, none⟩ = some (.int .u64 (wd (a k).fs 2 : Nat)) := by simp [World.cell?, b9, bdV]
    have X4 : Y.cell? ⟨P1, 4, none⟩ = some (.int .u64 (wd (a k).fs 3 : Nat)) := by simp [World.cell?, b9, bdV]
    have X5 : Y.cell? ⟨P1, 5, none⟩ = some (.int .u64 (wd (a k).ls 0 : Nat)) := by simp [World.cell?, b9, bdV]
    have X6 : Y.cell? ⟨P1, 6, none⟩ = some (.int .u64 (wd (a k).ls 1 : Nat)) := by simp [World.cell?, b9, bdV]
    have X7 : Y.cell? ⟨P1, 7, none⟩ = some (.int .u64 (wd (a k).ls 2 : Nat)) := by simp [World.cell?, b9, bdV]
    have X8 : Y.cell? ⟨P1, 8, none⟩ = some (.int .u64 (wd (a k).ls 3 : Nat)) := by simp [World.cell?, b9, bdV]
    have Y0' : Y.cell? ⟨P2, 0, none⟩ = some (.bool (a1 k).no) := by simp [World.cell?, b10, bdV]
    have Y1' : Y.cell? ⟨P2, 1, none⟩ = some (.int .u64 (wd (a1 k).fs 0 : Nat)) := by simp [World.cell?, b10, bdV]
    have Y2' : Y.cell? ⟨P2, 2, none⟩ = some (.int .u64 (wd (a1 k).fs 1 : Nat)) := by simp [World.cell?, b10, bdV]
    have Y3' : Y.cell? ⟨P2, 3, none⟩ = some (.int .u64 (wd (a1 k).fs 2 : Nat)) := by simp [World.cell?, b10, bdV]
    have Y4' : Y.cell? ⟨P2, 4, none⟩ = some (.int .u64 (wd (a1 k).fs 3 : Nat)) := by simp [World.cell?, b10, bdV]
    have Y5' : Y.cell? ⟨P2, 5, none⟩ = some (.int .u64 (wd (a1 k).ls 0 : Nat)) := by simp [World.cell?, b10, bdV]
    have Y6' : Y.cell? ⟨P2, 6, none⟩ = some (.int .u64 (wd (a1 k).ls 1 : Nat)) := by simp [World.cell?, b10, bdV]
    have Y7' : Y.cell? ⟨P2, 7, none⟩ = some (.int .u64 (wd (a1 k).ls 2 : Nat)) := by simp [World.cell?, b10, bdV]
    have Y8' : Y.cell? ⟨P2, 8, none⟩ = some (.int .u64 (wd (a1 k).ls 3 : Nat)) := by simp [World.cell?, b10, bdV]
    obtain ⟨C0, F0⟩ := seg_cell hCY (pfx_len (joinB a a1) k) 0 _ rfl
    obtain ⟨C1, F1⟩ := seg_cell hCY (pfx_len (joinB a a1) k) 1 _ rfl
    obtain ⟨C2, F2⟩ := seg_cell hCY (pfx_len (joinB a a1) k) 2 _ rfl
    obtain ⟨C3, F3⟩ := seg_cell hCY (pfx_len (joinB a a1) k) 3 _ rfl
    obtain ⟨C4, F4⟩ := seg_cell hCY (pfx_len (joinB a a1) k) 4 _ rfl
    obtain ⟨C5, F5⟩ := seg_cell hCY (pfx_len (joinB a a1) k) 5 _ rfl
    obtain ⟨C6, F6⟩ := seg_cell hCY (pfx_len (joinB a a1) k) 6 _ rfl
    obtain ⟨C7, F7⟩ := seg_cell hCY (pfx_len (joinB a a1) k) 7 _ rfl
    obtain ⟨C8, F8⟩ := seg_cell hCY (pfx_len (joinB a a1) k) 8 _ rfl
    rw [Nat.add_zero] at C0 F0
    cases hn1 : (a k).no
    ·rw [hn1] at X0
     cases hn2 : (a1 k).no
     ·rw [hn2] at Y0'
      have hV := set9_at hCY (pfx_len (joinB a a1) k) rfl (.bool false) (.int .u64 (wd (a k).fs 0 : Nat)) (.int .u64 (wd (a k).fs 1 : Nat)) (.int .u64 (wd (a k).fs 2 : Nat)) (.int .u64 (wd (a k).fs 3 : Nat)) (.int .u64 (wd (a1 k).ls 0 : Nat)) (.int .u64 (wd (a1 k).ls 1 : Nat)) (.int .u64 (wd (a1 k).ls 2 : Nat)) (.int .u64 (wd (a1 k).ls 3 : Nat))
      have hVb : Below w1.heap.size w1 (set9 Y w1.heap.size (k * 9) (.bool false) (.int .u64 (wd (a k).fs 0 : Nat)) (.int .u64 (wd (a k).fs 1 : Nat)) (.int .u64 (wd (a k).fs 2 : Nat)) (.int .u64 (wd (a k).fs 3 : Nat)) (.int .u64 (wd (a1 k).ls 0 : Nat)) (.int .u64 (wd (a1 k).ls 1 : Nat)) (.int .u64 (wd (a1 k).ls 2 : Nat)) (.int .u64 (wd (a1 k).ls 3 : Nat))) := below_setCells w1.heap.size (Nat.le_refl _) [.bool false, .int .u64 (wd (a k).fs 0 : Nat), .int .u64 (wd (a k).fs 1 : Nat), .int .u64 (wd (a k).fs 2 : Nat), .int .u64 (wd (a k).fs 3 : Nat), .int .u64 (wd (a1 k).ls 0 : Nat), .int .u64 (wd (a1 k).ls 1 : Nat), .int .u64 (wd (a1 k).ls 2 : Nat), .int .u64 (wd (a1 k).ls 3 : Nat)] Y (k * 9) hYw
      have hVs : (set9 Y w1.heap.size (k * 9) (.bool false) (.int .u64 (wd (a k).fs 0 : Nat)) (.int .u64 (wd (a k).fs 1 : Nat)) (.int .u64 (wd (a k).fs 2 : Nat)) (.int .u64 (wd (a k).fs 3 : Nat)) (.int .u64 (wd (a1 k).ls 0 : Nat)) (.int .u64 (wd (a1 k).ls 1 : Nat)) (.int .u64 (wd (a1 k).ls 2 : Nat)) (.int .u64 (wd (a1 k).ls 3 : Nat))).heap.size = Y.heap.size := setCells_size w1.heap.size [.bool false, .int .u64 (wd (a k).fs 0 : Nat), .int .u64 (wd (a k).fs 1 : Nat), .int .u64 (wd (a k).fs 2 : Nat), .int .u64 (wd (a k).fs 3 : Nat), .int .u64 (wd (a1 k).ls 0 : Nat), .int .u64 (wd (a1 k).ls 1 : Nat), .int .u64 (wd (a1 k).ls 2 : Nat), .int .u64 (wd (a1 k).ls 3 : Nat)] Y (k * 9)
      have hV9 : (set9 Y w1.heap.size (k * 9) (.bool false) (.int .u64 (wd (a k).fs 0 : Nat)) (.int .u64 (wd (a k).fs 1 : Nat)) (.int .u64 (wd (a k).fs 2 : Nat)) (.int .u64 (wd (a k).fs 3 : Nat)) (.int .u64 (wd (a1 k).ls 0 : Nat)) (.int .u64 (wd (a1 k).ls 1 : Nat)) (.int .u64 (wd (a1 k).ls 2 : Nat)) (.int .u64 (wd (a1 k).ls 3 : Nat))).heap[P1]? = _ := (setCells_far Y w1.heap.size nP1 [.bool false, .int .u64 (wd (a k).fs 0 : Nat), .int .u64 (wd (a k).fs 1 : Nat), .int .u64 (wd (a k).fs 2 : Nat), .int .u64 (wd (a k).fs 3 : Nat), .int .u64 (wd (a1 k).ls 0 : Nat), .int .u64 (wd (a1 k).ls 1 : Nat), .int .u64 (wd (a1 k).ls 2 : Nat), .int .u64 (wd (a1 k).ls 3 : Nat)] (k * 9)).trans b9
      have hV10 : (set9 Y w1.heap.size (k * 9) (.bool false) (.int .u64 (wd (a k).fs 0 : Nat)) (.int .u64 (wd (a k).fs 1 : Nat)) (.int .u64 (wd (a k).fs 2 : Nat)) (.int .u64 (wd (a k).fs 3 : Nat)) (.int .u64 (wd (a1 k).ls 0 : Nat)) (.int .u64 (wd (a1 k).ls 1 : Nat)) (.int .u64 (wd (a1 k).ls 2 : Nat)) (.int .u64 (wd (a1 k).ls 3 : Nat))).heap[P2]? = _ := (setCells_far Y w1.heap.size nP2 [.bool false, .int .u64 (wd (a k).fs 0 : Nat), .int .u64 (wd (a k).fs 1 : Nat), .int .u64 (wd (a k).fs 2 : Nat), .int .u64 (wd (a k).fs 3 : Nat), .int .u64 (wd (a1 k).ls 0 : Nat), .int .u64 (wd (a1 k).ls 1 : Nat), .int .u64 (wd (a1 k).ls 2 : Nat), .int .u64 (wd (a1 k).ls 3 : Nat)] (k * 9)).trans b10
      have HV := hideT (And.intro hV (And.intro hVb (And.intro hVs (And.intro hV9 hV10))))
      clear hV hVb hVs hV9 hV10 b9 b10 hCY hYw hY hC a0 a1'
      go_wp2
      exact ⟨⟨k + 1, by omega, by go_num, jn_fin hlt HV.out.2.1 HV.out.1 (by simp [joinB, hn1]) (by simp [joinB, hn1]) (by simp [joinB, hn2])⟩, by simp [intOf]; omega⟩
     ·rw [hn2] at Y0'
      have hV := set9_at hCY (pfx_len (joinB a a1) k) rfl (.bool false) (.int .u64 (wd (a k).fs 0 : Nat)) (.int .u64 (wd (a k).fs 1 : Nat)) (.int .u64 (wd (a k).fs 2 : Nat)) (.int .u64 (wd (a k).fs 3 : Nat)) (.int .u64 (wd (a1 k).ls 0 : Nat)) (.int .u64 (wd (a1 k).ls 1 : Nat)) (.int .u64 (wd (a1 k).ls 2 : Nat)) (.int .u64 (wd (a1 k).ls 3 : Nat))
      have hVb : Below w1.heap.size w1 (set9 Y w1.heap.size (k * 9) (.bool false) (.int .u64 (wd (a k).fs 0 : Nat)) (.int .u64 (wd (a k).fs 1 : Nat)) (.int .u64 (wd (a k).fs 2 : Nat)) (.int .u64 (wd (a k).fs 3 : Nat)) (.int .u64 (wd (a1 k).ls 0 : Nat)) (.int .u64 (wd (a1 k).ls 1 : Nat)) (.int .u64 (wd (a1 k).ls 2 : Nat)) (.int .u64 (wd (a1 k).ls 3 : Nat))) := below_setCells w1.heap.size (Nat.le_refl _) [.bool false, .int .u64 (wd (a k).fs 0 : Nat), .int .u64 (wd (a k).fs 1 : Nat), .int .u64 (wd (a k).fs 2 : Nat), .int .u64 (wd (a k).fs 3 : Nat), .int .u64 (wd (a1 k).ls 0 : Nat), .int .u64 (wd (a1 k).ls 1 : Nat), .int .u64 (wd (a1 k).ls 2 : Nat), .int .u64 (wd (a1 k).ls 3 : Nat)] Y (k * 9) hYw
      have hVs : (set9 Y w1.heap.size (k * 9) (.bool false) (.int .u64 (wd (a k).fs 0 : Nat)) (.int .u64 (wd (a k).fs 1 : Nat)) (.int .u64 (wd (a k).fs 2 : Nat)) (.int .u64 (wd (a k).fs 3 : Nat)) (.int .u64 (wd (a1 k).ls 0 : Nat)) (.int .u64 (wd (a1 k).ls 1 : Nat)) (.int .u64 (wd (a1 k).ls 2 : Nat)) (.int .u64 (wd (a1 k).ls 3 : Nat))).heap.size = Y.heap.size := setCells_size w1.heap.size [.bool false, .int .u64 (wd (a k).fs 0 : Nat), .int .u64 (wd (a k).fs 1 : Nat), .int .u64 (wd (a k).fs 2 : Nat), .int .u64 (wd (a k).fs 3 : Nat), .int .u64 (wd (a1 k).ls 0 : Nat), .int .u64 (wd (a1 k).ls 1 : Nat), .int .u64 (wd (a1 k).ls 2 : Nat), .int .u64 (wd (a1 k).ls 3 : Nat)] Y (k * 9)
      have hV9 : (set9 Y w1.heap.size (k * 9) (.bool false) (.int .u64 (wd (a k).fs 0 : Nat)) (.int .u64 (wd (a k).fs 1 : Nat)) (.int .u64 (wd (a k).fs 2 : Nat)) (.int .u64 (wd (a k).fs 3 : Nat)) (.int .u64 (wd (a1 k).ls 0 : Nat)) (.int .u64 (wd (a1 k).ls 1 : Nat)) (.int .u64 (wd (a1 k).ls 2 : Nat)) (.int .u64 (wd (a1 k).ls 3 : Nat))).heap[P1]? = _ := (setCells_far Y w1.heap.size nP1 [.bool false, .int .u64 (wd (a k).fs 0 : Nat), .int .u64 (wd (a k).fs 1 : Nat), .int .u64 (wd (a k).fs 2 : Nat), .int .u64 (wd (a k).fs 3 : Nat), .int .u64 (wd (a1 k).ls 0 : Nat), .int .u64 (wd (a1 k).ls 1 : Nat), .int .u64 (wd (a1 k).ls 2 : Nat), .int .u64 (wd (a1 k).ls 3 : Nat)] (k * 9)).trans b9
      have hV10 : (set9 Y w1.heap.size (k * 9) (.bool false) (.int .u64 (wd (a k).fs 0 : Nat)) (.int .u64 (wd (a k).fs 1 : Nat)) (.int .u64 (wd (a k).fs 2 : Nat)) (.int .u64 (wd (a k).fs 3 : Nat)) (.int .u64 (wd (a1 k).ls 0 : Nat)) (.int .u64 (wd (a1 k).ls 1 : Nat)) (.int .u64 (wd (a1 k).ls 2 : Nat)) (.int .u64 (wd (a1 k).ls 3 : Nat))).heap[P2]? = _ := (setCells_far Y w1.heap.size nP2 [.bool false, .int .u64 (wd (a k).fs 0 : Nat), .int .u64 (wd (a k).fs 1 : Nat), .int .u64 (wd (a k).fs 2 : Nat), .int .u64 (wd (a k).fs 3 : Nat), .int .u64 (wd (a1 k).ls 0 : Nat), .int .u64 (wd (a1 k).ls 1 : Nat), .int .u64 (wd (a1 k).ls 2 : Nat), .int .u64 (wd (a1 k).ls 3 : Nat)] (k * 9)).trans b10
      have HV := hideT (And.intro hV (And.intro hVb (And.intro hVs (And.intro hV9 hV10))))
      clear hV hVb hVs hV9 hV10 b9 b10 hCY hYw hY hC a0 a1'
      go_wp2_with fail
      refine (HOL.out _).mono ?_
      rintro e W2 ⟨rfl, hb2⟩
      have hC2 := (hb2.block _ (by rw [HV.out.2.2.1]; omega)).trans HV.out.1
      rw [seg_ls] at hC2
      have hp2 : (pfx (joinB a a1) k ++ [Value.bool false, .int .u64 (wd (a k).fs 0 : Nat), .int .u64 (wd (a k).fs 1 : Nat), .int .u64 (wd (a k).fs 2 : Nat), .int .u64 (wd (a k).fs 3 : Nat)]).length = k * 9 + 5 := by rw [List.length_append, pfx_len]; rfl
      have hZ := put4at_at hC2 hp2 rfl (orP (a k).ls (a1 k).ls)
      have hZb : Below w1.heap.size w1 (put4at W2 w1.heap.size (k * 9 + 5) (orP (a k).ls (a1 k).ls)) := below_setCells w1.heap.size (Nat.le_refl _) [.int .u64 (wd (orP (a k).ls (a1 k).ls) 0 : Nat), .int .u64 (wd (orP (a k).ls (a1 k).ls) 1 : Nat), .int .u64 (wd (orP (a k).ls (a1 k).ls) 2 : Nat), .int .u64 (wd (orP (a k).ls (a1 k).ls) 3 : Nat)] W2 (k * 9 + 5) (HV.out.2.1.trans (hb2.mono HV.out.2.1.size))
      obtain ⟨c0, f0⟩ := seg_cell hC2 hp2 0 _ rfl
      obtain ⟨c1, f1⟩ := seg_cell hC2 hp2 1 _ rfl
      obtain ⟨c2, f2⟩ := seg_cell hC2 hp2 2 _ rfl
      obtain ⟨c3, f3⟩ := seg_cell hC2 hp2 3 _ rfl
      rw [Nat.add_zero] at c0 f0
      have HZ := hideT (And.intro hZ hZb)
      clear hZ hZb hC2 hp2 hb2 HV X0 X1 X2 X3 X4 X5 X6 X7 X8 Y0' Y1' Y2' Y3' Y4' Y5' Y6' Y7' Y8' C0 C1 C2 C3 C4 C5 C6 C7 C8 F0 F1 F2 F3 F4 F5 F6 F7 F8
      go_wp2
      exact ⟨⟨k + 1, by omega, by go_num, jn_fin hlt HZ.out.2 (HZ.out.1.trans (by rw [List.append_assoc]; rfl)) (by simp [joinB, hn1]) (by simp [joinB, hn1]) (by simp [joinB, hn2]; rfl)⟩, by simp [intOf]; omega⟩
    ·rw [hn1] at X0
     cases hn2 : (a1 k).no
     ·rw [hn2] at Y0'
      have hV := set9_at hCY (pfx_len (joinB a a1) k) rfl (.bool false) (.int .u64 (wd (a k).fs 0 : Nat)) (.int .u64 (wd (a k).fs 1 : Nat)) (.int .u64 (wd (a k).fs 2 : Nat)) (.int .u64 (wd (a k).fs 3 : Nat)) (.int .u64 (wd (a1 k).ls 0 : Nat)) (.int .u64 (wd (a1 k).ls 1 : Nat)) (.int .u64 (wd (a1 k).ls 2 : Nat)) (.int .u64 (wd (a1 k).ls 3 : Nat))
      have hVb : Below w1.heap.size w1 (set9 Y w1.heap.size (k * 9) (.bool false) (.int .u64 (wd (a k).fs 0 : Nat)) (.int .u64 (wd (a k).fs 1 : Nat)) (.int .u64 (wd (a k).fs 2 : Nat)) (.int .u64 (wd (a k).fs 3 : Nat)) (.int .u64 (wd (a1 k).ls 0 : Nat)) (.int .u64 (wd (a1 k).ls 1 : Nat)) (.int .u64 (wd (a1 k).ls 2 : Nat)) (.int .u64 (wd (a1 k).ls 3 : Nat))) := below_setCells w1.heap.size (Nat.le_refl _) [.bool false, .int .u64 (wd (a k).fs 0 : Nat), .int .u64 (wd (a k).fs 1 : Nat), .int .u64 (wd (a k).fs 2 : Nat), .int .u64 (wd (a k).fs 3 : Nat), .int .u64 (wd (a1 k).ls 0 : Nat), .int .u64 (wd (a1 k).ls 1 : Nat), .int .u64 (wd (a1 k).ls 2 : Nat), .int .u64 (wd (a1 k).ls 3 : Nat)] Y (k * 9) hYw
      have hVs : (set9 Y w1.heap.size (k * 9) (.bool false) (.int .u64 (wd (a k).fs 0 : Nat)) (.int .u64 (wd (a k).fs 1 : Nat)) (.int .u64 (wd (a k).fs 2 : Nat)) (.int .u64 (wd (a k).fs 3 : Nat)) (.int .u64 (wd (a1 k).ls 0 : Nat)) (.int .u64 (wd (a1 k).ls 1 : Nat)) (.int .u64 (wd (a1 k).ls 2 : Nat)) (.int .u64 (wd (a1 k).ls 3 : Nat))).heap.size = Y.heap.size := setCells_size w1.heap.size [.bool false, .int .u64 (wd (a k).fs 0 : Nat), .int .u64 (wd (a k).fs 1 : Nat), .int .u64 (wd (a k).fs 2 : Nat), .int .u64 (wd (a k).fs 3 : Nat), .int .u64 (wd (a1 k).ls 0 : Nat), .int .u64 (wd (a1 k).ls 1 : Nat), .int .u64 (wd (a1 k).ls 2 : Nat), .int .u64 (wd (a1 k).ls 3 : Nat)] Y (k * 9)
      have hV9 : (set9 Y w1.heap.size (k * 9) (.bool false) (.int .u64 (wd (a k).fs 0 : Nat)) (.int .u64 (wd (a k).fs 1 : Nat)) (.int .u64 (wd (a k).fs 2 : Nat)) (.int .u64 (wd (a k).fs 3 : Nat)) (.int .u64 (wd (a1 k).ls 0 : Nat)) (.int .u64 (wd (a1 k).ls 1 : Nat)) (.int .u64 (wd (a1 k).ls 2 : Nat)) (.int .u64 (wd (a1 k).ls 3 : Nat))).heap[P1]? = _ := (setCells_far Y w1.heap.size nP1 [.bool false, .int .u64 (wd (a k).fs 0 : Nat), .int .u64 (wd (a k).fs 1 : Nat), .int .u64 (wd (a k).fs 2 : Nat), .int .u64 (wd (a k).fs 3 : Nat), .int .u64 (wd (a1 k).ls 0 : Nat), .int .u64 (wd (a1 k).ls 1 : Nat), .int .u64 (wd (a1 k).ls 2 : Nat), .int .u64 (wd (a1 k).ls 3 : Nat)] (k * 9)).trans b9
      have hV10 : (set9 Y w1.heap.size (k * 9) (.bool false) (.int .u64 (wd (a k).fs 0 : Nat)) (.int .u64 (wd (a k).fs 1 : Nat)) (.int .u64 (wd (a k).fs 2 : Nat)) (.int .u64 (wd (a k).fs 3 : Nat)) (.int .u64 (wd (a1 k).ls 0 : Nat)) (.int .u64 (wd (a1 k).ls 1 : Nat)) (.int .u64 (wd (a1 k).ls 2 : Nat)) (.int .u64 (wd (a1 k).ls 3 : Nat))).heap[P2]? = _ := (setCells_far Y w1.heap.size nP2 [.bool false, .int .u64 (wd (a k).fs 0 : Nat), .int .u64 (wd (a k).fs 1 : Nat), .int .u64 (wd (a k).fs 2 : Nat), .int .u64 (wd (a k).fs 3 : Nat), .int .u64 (wd (a1 k).ls 0 : Nat), .int .u64 (wd (a1 k).ls 1 : Nat), .int .u64 (wd (a1 k).ls 2 : Nat), .int .u64 (wd (a1 k).ls 3 : Nat)] (k * 9)).trans b10
      have HV := hideT (And.intro hV (And.intro hVb (And.intro hVs (And.intro hV9 hV10))))
      clear hV hVb hVs hV9 hV10 b9 b10 hCY hYw hY hC a0 a1'
      go_wp2_with fail
      refine (HOF.out _).mono ?_
      rintro e W2 ⟨rfl, hb2⟩
      have hC2 := (hb2.block _ (by rw [HV.out.2.2.1]; omega)).trans HV.out.1
      rw [seg_fs] at hC2
      have hp2 : (pfx (joinB a a1) k ++ [Value.bool false]).length = k * 9 + 1 := by rw [List.length_append, pfx_len]; rfl
      have hZ := put4at_at hC2 hp2 rfl (orP (a k).fs (a1 k).fs)
      have hZb : Below w1.heap.size w1 (put4at W2 w1.heap.size (k * 9 + 1) (orP (a k).fs (a1 k).fs)) := below_setCells w1.heap.size (Nat.le_refl _) [.int .u64 (wd (orP (a k).fs (a1 k).fs) 0 : Nat), .int .u64 (wd (orP (a k).fs (a1 k).fs) 1 : Nat), .int .u64 (wd (orP (a k).fs (a1 k).fs) 2 : Nat), .int .u64 (wd (orP (a k).fs (a1 k).fs) 3 : Nat)] W2 (k * 9 + 1) (HV.out.2.1.trans (hb2.mono HV.out.2.1.size))
      have hZs : (put4at W2 w1.heap.size (k * 9 + 1) (orP (a k).fs (a1 k).fs)).heap.size = W2.heap.size := put4at_size _ _ _ _
      have hZ9 := (put4at_far W2 w1.heap.size (k * 9 + 1) (orP (a k).fs (a1 k).fs) nP1).trans ((hb2.block _ (by rw [HV.out.2.2.1]; exact hP1Y)).trans HV.out.2.2.2.1)
      have hZ10 := (put4at_far W2 w1.heap.size (k * 9 + 1) (orP (a k).fs (a1 k).fs) nP2).trans ((hb2.block _ (by rw [HV.out.2.2.1]; exact hP2Y)).trans HV.out.2.2.2.2)
      have hs2 := hb2.size
      rw [HV.out.2.2.1] at hs2
      obtain ⟨c0, f0⟩ := seg_cell hC2 hp2 0 _ rfl
      obtain ⟨c1, f1⟩ := seg_cell hC2 hp2 1 _ rfl
      obtain ⟨c2, f2⟩ := seg_cell hC2 hp2 2 _ rfl
      obtain ⟨c3, f3⟩ := seg_cell hC2 hp2 3 _ rfl
      rw [Nat.add_zero] at c0 f0
      have g0 := (hb2.block P2 (by rw [HV.out.2.2.1]; exact hP2Y)).trans HV.out.2.2.2.2
      have g9 := (hb2.block P1 (by rw [HV.out.2.2.1]; exact hP1Y)).trans HV.out.2.2.2.1
      have r0 : W2.cell? ⟨P2, 0, none⟩ = some (.bool false) := by simp [World.cell?, g0, bdV, hn2]
      have u0 : W2.cell? ⟨P2, 5, none⟩ = some (.int .u64 (wd (a1 k).ls 0 : Nat)) := by simp [World.cell?, g0, bdV]
      have t0 : W2.cell? ⟨P1, 5, none⟩ = some (.int .u64 (wd (a k).ls 0 : Nat)) := by simp [World.cell?, g9, bdV]
      have u1 : W2.cell? ⟨P2, 6, none⟩ = some (.int .u64 (wd (a1 k).ls 1 : Nat)) := by simp [World.cell?, g0, bdV]
      have t1 : W2.cell? ⟨P1, 6, none⟩ = some (.int .u64 (wd (a k).ls 1 : Nat)) := by simp [World.cell?, g9, bdV]
      have u2 : W2.cell? ⟨P2, 7, none⟩ = some (.int .u64 (wd (a1 k).ls 2 : Nat)) := by simp [World.cell?, g0, bdV]
      have t2 : W2.cell? ⟨P1, 7, none⟩ = some (.int .u64 (wd (a k).ls 2 : Nat)) := by simp [World.cell?, g9, bdV]
      have u3 : W2.cell? ⟨P2, 8, none⟩ = some (.int .u64 (wd (a1 k).ls 3 : Nat)) := by simp [World.cell?, g0, bdV]
      have t3 : W2.cell? ⟨P1, 8, none⟩ = some (.int .u64 (wd (a k).ls 3 : Nat)) := by simp [World.cell?, g9, bdV]
      have HZ := hideT (And.intro hZ (And.intro hZb (And.intro hZs (And.intro hZ9 (And.intro hZ10 hs2)))))
      clear hZ hZb hZs hZ9 hZ10 hC2 hp2 hb2 g0 g9 HV hs2 X0 X1 X2 X3 X4 X5 X6 X7 X8 Y0' Y1' Y2' Y3' Y4' Y5' Y6' Y7' Y8' C0 C1 C2 C3 C4 C5 C6 C7 C8 F0 F1 F2 F3 F4 F5 F6 F7 F8
      go_wp2
      exact ⟨⟨k + 1, by omega, by go_num, jn_fin hlt HZ.out.2.1 (HZ.out.1.trans (by rw [List.append_assoc]; rfl)) (by simp [joinB, hn2]) (by simp [joinB, hn1]; rfl) (by simp [joinB, hn2])⟩, by simp [intOf]; omega⟩
     ·rw [hn2] at Y0'
      have hV := set9_at hCY (pfx_len (joinB a a1) k) rfl (.bool true) (.int .u64 (wd (a k).fs 0 : Nat)) (.int .u64 (wd (a k).fs 1 : Nat)) (.int .u64 (wd (a k).fs 2 : Nat)) (.int .u64 (wd (a k).fs 3 : Nat)) (.int .u64 (wd (a1 k).ls 0 : Nat)) (.int .u64 (wd (a1 k).ls 1 : Nat)) (.int .u64 (wd (a1 k).ls 2 : Nat)) (.int .u64 (wd (a1 k).ls 3 : Nat))
      have hVb : Below w1.heap.size w1 (set9 Y w1.heap.size (k * 9) (.bool true) (.int .u64 (wd (a k).fs 0 : Nat)) (.int .u64 (wd (a k).fs 1 : Nat)) (.int .u64 (wd (a k).fs 2 : Nat)) (.int .u64 (wd (a k).fs 3 : Nat)) (.int .u64 (wd (a1 k).ls 0 : Nat)) (.int .u64 (wd (a1 k).ls 1 : Nat)) (.int .u64 (wd (a1 k).ls 2 : Nat)) (.int .u64 (wd (a1 k).ls 3 : Nat))) := below_setCells w1.heap.size (Nat.le_refl _) [.bool true, .int .u64 (wd (a k).fs 0 : Nat), .int .u64 (wd (a k).fs 1 : Nat), .int .u64 (wd (a k).fs 2 : Nat), .int .u64 (wd (a k).fs 3 : Nat), .int .u64 (wd (a1 k).ls 0 : Nat), .int .u64 (wd (a1 k).ls 1 : Nat), .int .u64 (wd (a1 k).ls 2 : Nat), .int .u64 (wd (a1 k).ls 3 : Nat)] Y (k * 9) hYw
      have hVs : (set9 Y w1.heap.size (k * 9) (.bool true) (.int .u64 (wd (a k).fs 0 : Nat)) (.int .u64 (wd (a k).fs 1 : Nat)) (.int .u64 (wd (a k).fs 2 : Nat)) (.int .u64 (wd (a k).fs 3 : Nat)) (.int .u64 (wd (a1 k).ls 0 : Nat)) (.int .u64 (wd (a1 k).ls 1 : Nat)) (.int .u64 (wd (a1 k).ls 2 : Nat)) (.int .u64 (wd (a1 k).ls 3 : Nat))).heap.size = Y.heap.size := setCells_size w1.heap.size [.bool true, .int .u64 (wd (a k).fs 0 : Nat), .int .u64 (wd (a k).fs 1 : Nat), .int .u64 (wd (a k).fs 2 : Nat), .int .u64 (wd (a k).fs 3 : Nat), .int .u64 (wd (a1 k).ls 0 : Nat), .int .u64 (wd (a1 k).ls 1 : Nat), .int .u64 (wd (a1 k).ls 2 : Nat), .int .u64 (wd (a1 k).ls 3 : Nat)] Y (k * 9)
      have hV9 : (set9 Y w1.heap.size (k * 9) (.bool true) (.int .u64 (wd (a k).fs 0 : Nat)) (.int .u64 (wd (a k).fs 1 : Nat)) (.int .u64 (wd (a k).fs 2 : Nat)) (.int .u64 (wd (a k).fs 3 : Nat)) (.int .u64 (wd (a1 k).ls 0 : Nat)) (.int .u64 (wd (a1 k).ls 1 : Nat)) (.int .u64 (wd (a1 k).ls 2 : Nat)) (.int .u64 (wd (a1 k).ls 3 : Nat))).heap[P1]? = _ := (setCells_far Y w1.heap.size nP1 [.bool true, .int .u64 (wd (a k).fs 0 : Nat), .int .u64 (wd (a k).fs 1 : Nat), .int .u64 (wd (a k).fs 2 : Nat), .int .u64 (wd (a k).fs 3 : Nat), .int .u64 (wd (a1 k).ls 0 : Nat), .int .u64 (wd (a1 k).ls 1 : Nat), .int .u64 (wd (a1 k).ls 2 : Nat), .int .u64 (wd (a1 k).ls 3 : Nat)] (k * 9)).trans b9
      have hV10 : (set9 Y w1.heap.size (k * 9) (.bool true) (.int .u64 (wd (a k).fs 0 : Nat)) (.int .u64 (wd (a k).fs 1 : Nat)) (.int .u64 (wd (a k).fs 2 : Nat)) (.int .u64 (wd (a k).fs 3 : Nat)) (.int .u64 (wd (a1 k).ls 0 : Nat)) (.int .u64 (wd (a1 k).ls 1 : Nat)) (.int .u64 (wd (a1 k).ls 2 : Nat)) (.int .u64 (wd (a1 k).ls 3 : Nat))).heap[P2]? = _ := (setCells_far Y w1.heap.size nP2 [.bool true, .int .u64 (wd (a k).fs 0 : Nat), .int .u64 (wd (a k).fs 1 : Nat), .int .u64 (wd (a k).fs 2 : Nat), .int .u64 (wd (a k).fs 3 : Nat), .int .u64 (wd (a1 k).ls 0 : Nat), .int .u64 (wd (a1 k).ls 1 : Nat), .int .u64 (wd (a1 k).ls 2 : Nat), .int .u64 (wd (a1 k).ls 3 : Nat)] (k * 9)).trans b10
      have HV := hideT (And.intro hV (And.intro hVb (And.intro hVs (And.intro hV9 hV10))))
      clear hV hVb hVs hV9 hV10 b9 b10 hCY hYw hY hC a0 a1'
      go_wp2_with fail
      refine (HOF.out _).mono ?_
      rintro e W2 ⟨rfl, hb2⟩
      have hC2 := (hb2.block _ (by rw [HV.out.2.2.1]; omega)).trans HV.out.1
      rw [seg_fs] at hC2
      have hp2 : (pfx (joinB a a1) k ++ [Value.bool true]).length = k * 9 + 1 := by rw [List.length_append, pfx_len]; rfl
      have hZ := put4at_at hC2 hp2 rfl (orP (a k).fs (a1 k).fs)
      have hZb : Below w1.heap.size w1 (put4at W2 w1.heap.size (k * 9 + 1) (orP (a k).fs (a1 k).fs)) := below_setCells w1.heap.size (Nat.le_refl _) [.int .u64 (wd (orP (a k).fs (a1 k).fs) 0 : Nat), .int .u64 (wd (orP (a k).fs (a1 k).fs) 1 : Nat), .int .u64 (wd (orP (a k).fs (a1 k).fs) 2 : Nat), .int .u64 (wd (orP (a k).fs (a1 k).fs) 3 : Nat)] W2 (k * 9 + 1) (HV.out.2.1.trans (hb2.mono HV.out.2.1.size))
      have hZs : (put4at W2 w1.heap.size (k * 9 + 1) (orP (a k).fs (a1 k).fs)).heap.size = W2.heap.size := put4at_size _ _ _ _
      have hZ9 := (put4at_far W2 w1.heap.size (k * 9 + 1) (orP (a k).fs (a1 k).fs) nP1).trans ((hb2.block _ (by rw [HV.out.2.2.1]; exact hP1Y)).trans HV.out.2.2.2.1)
      have hZ10 := (put4at_far W2 w1.heap.size (k * 9 + 1) (orP (a k).fs (a1 k).fs) nP2).trans ((hb2.block _ (by rw [HV.out.2.2.1]; exact hP2Y)).trans HV.out.2.2.2.2)
      have hs2 := hb2.size
      rw [HV.out.2.2.1] at hs2
      obtain ⟨c0, f0⟩ := seg_cell hC2 hp2 0 _ rfl
      obtain ⟨c1, f1⟩ := seg_cell hC2 hp2 1 _ rfl
      obtain ⟨c2, f2⟩ := seg_cell hC2 hp2 2 _ rfl
      obtain ⟨c3, f3⟩ := seg_cell hC2 hp2 3 _ rfl
      rw [Nat.add_zero] at c0 f0
      have g0 := (hb2.block P2 (by rw [HV.out.2.2.1]; exact hP2Y)).trans HV.out.2.2.2.2
      have g9 := (hb2.block P1 (by rw [HV.out.2.2.1]; exact hP1Y)).trans HV.out.2.2.2.1
      have r0 : W2.cell? ⟨P2, 0, none⟩ = some (.bool true) := by simp [World.cell?, g0, bdV, hn2]
      have u0 : W2.cell? ⟨P2, 5, none⟩ = some (.int .u64 (wd (a1 k).ls 0 : Nat)) := by simp [World.cell?, g0, bdV]
      have t0 : W2.cell? ⟨P1, 5, none⟩ = some (.int .u64 (wd (a k).ls 0 : Nat)) := by simp [World.cell?, g9, bdV]
      have u1 : W2.cell? ⟨P2, 6, none⟩ = some (.int .u64 (wd (a1 k).ls 1 : Nat)) := by simp [World.cell?, g0, bdV]
      have t1 : W2.cell? ⟨P1, 6, none⟩ = some (.int .u64 (wd (a k).ls 1 : Nat)) := by simp [World.cell?, g9, bdV]
      have u2 : W2.cell? ⟨P2, 7, none⟩ = some (.int .u64 (wd (a1 k).ls 2 : Nat)) := by simp [World.cell?, g0, bdV]
      have t2 : W2.cell? ⟨P1, 7, none⟩ = some (.int .u64 (wd (a k).ls 2 : Nat)) := by simp [World.cell?, g9, bdV]
      have u3 : W2.cell? ⟨P2, 8, none⟩ = some (.int .u64 (wd (a1 k).ls 3 : Nat)) := by simp [World.cell?, g0, bdV]
      have t3 : W2.cell? ⟨P1, 8, none⟩ = some (.int .u64 (wd (a k).ls 3 : Nat)) := by simp [World.cell?, g9, bdV]
      have HZ := hideT (And.intro hZ (And.intro hZb (And.intro hZs (And.intro hZ9 (And.intro hZ10 hs2)))))
      clear hZ hZb hZs hZ9 hZ10 hC2 hp2 hb2 g0 g9 HV hs2 X0 X1 X2 X3 X4 X5 X6 X7 X8 Y0' Y1' Y2' Y3' Y4' Y5' Y6' Y7' Y8' C0 C1 C2 C3 C4 C5 C6 C7 C8 F0 F1 F2 F3 F4 F5 F6 F7 F8
      go_wp2_with fail
      refine (HOL.out _).mono ?_
      rintro e W3 ⟨rfl, hb3⟩
      have hC3 := (hb3.block _ (by rw [HZ.out.2.2.1]; have := HZ.out.2.2.2.2.2; omega)).trans (HZ.out.1.trans (by rw [List.append_assoc]; rfl : _ = some (Obj.cells (pfx (joinB a a1) k ++ (([.bool true, .int .u64 (wd (orP (a k).fs (a1 k).fs) 0 : Nat), .int .u64 (wd (orP (a k).fs (a1 k).fs) 1 : Nat), .int .u64 (wd (orP (a k).fs (a1 k).fs) 2 : Nat), .int .u64 (wd (orP (a k).fs (a1 k).fs) 3 : Nat), .int .u64 (wd (a1 k).ls 0 : Nat), .int .u64 (wd (a1 k).ls 1 : Nat), .int .u64 (wd (a1 k).ls 2 : Nat), .int .u64 (wd (a1 k).ls 3 : Nat)] : List Value) ++ zr (3 - k))).toArray 81 (0, 0))))
      rw [seg_ls] at hC3
      have hp3 : (pfx (joinB a a1) k ++ [Value.bool true, .int .u64 (wd (orP (a k).fs (a1 k).fs) 0 : Nat), .int .u64 (wd (orP (a k).fs (a1 k).fs) 1 : Nat), .int .u64 (wd (orP (a k).fs (a1 k).fs) 2 : Nat), .int .u64 (wd (orP (a k).fs (a1 k).fs) 3 : Nat)]).length = k * 9 + 5 := by rw [List.length_append, pfx_len]; rfl
      have hZ := put4at_at hC3 hp3 rfl (orP (a k).ls (a1 k).ls)
      have hZb : Below w1.heap.size w1 (put4at W3 w1.heap.size (k * 9 + 5) (orP (a k).ls (a1 k).ls)) := below_setCells w1.heap.size (Nat.le_refl _) [.int .u64 (wd (orP (a k).ls (a1 k).ls) 0 : Nat), .int .u64 (wd (orP (a k).ls (a1 k).ls) 1 : Nat), .int .u64 (wd (orP (a k).ls (a1 k).ls) 2 : Nat), .int .u64 (wd (orP (a k).ls (a1 k).ls) 3 : Nat)] W3 (k * 9 + 5) (HZ.out.2.1.trans (hb3.mono HZ.out.2.1.size))
      obtain ⟨c0', f0'⟩ := seg_cell hC3 hp3 0 _ rfl
      obtain ⟨c1', f1'⟩ := seg_cell hC3 hp3 1 _ rfl
      obtain ⟨c2', f2'⟩ := seg_cell hC3 hp3 2 _ rfl
      obtain ⟨c3', f3'⟩ := seg_cell hC3 hp3 3 _ rfl
      rw [Nat.add_zero] at c0' f0'
      have HZ2 := hideT (And.intro hZ hZb)
      clear hZ hZb hC3 hp3 hb3 HZ c0 c1 c2 c3 f0 f1 f2 f3 u0 u1 u2 u3 t0 t1 t2 t3 r0
      go_wp2
      exact ⟨⟨k + 1, by omega, by go_num, jn_fin hlt HZ2.out.2 (HZ2.out.1.trans (by rw [List.append_assoc]; rfl)) (by simp [joinB, hn1, hn2]) (by simp [joinB, hn1]; rfl) (by simp [joinB, hn2]; rfl)⟩, by simp [intOf]; omega⟩
  ·obtain rfl : k = 4 := by omega
   rw [show 4 - 4 = 0 from rfl, pfx_four] at hC
   have y2' := (hbw.block _ (by omega)).trans y2
   have HB := hideT hbw
   clear hbw y0 y1 y2
   go_upto_region 13 with fail
   refine ret_part (b := w1.heap.size) (b' := w.heap.size + 1 + 1) (cs := paV (joinB a a1)) (zs := [.bool false, .int .u64 0, .int .u64 0, .int .u64 0, .int .u64 0, .int .u64 0, .int .u64 0, .int .u64 0, .int .u64 0, .bool false, .int .u64 0, .int .u64 0, .int .u64 0, .int .u64 0, .int .u64 0, .int .u64 0, .int .u64 0, .int .u64 0, .bool false, .int .u64 0, .int .u64 0, .int .u64 0, .int .u64 0, .int .u64 0, .int .u64 0, .int .u64 0, .int .u64 0, .bool false, .int .u64 0, .int .u64 0, .int .u64 0, .int .u64 0, .int .u64 0, .int .u64 0, .int .u64 0, .int .u64 0]) rfl (by assumption) rfl rfl (by decide) rfl hC y2' rfl rfl (paV_one _) rfl rfl ⟨rfl, ?_, ?_⟩
   ·exact (HK.out.1.below HB.out).far y2' rfl 0 _
   ·exact (HK.out.2.trans (WFr.of_below HB.out (Nat.le_trans hB HK.out.2.below.size))).far hB (by omega) 0 _
end Go.Proofs.Ytiedliahmjiadaa
namespace Go.Proofs.Ytiedliahmjiadaa
open Go.RowKit Go.Shelf
theorem info_pos : (Try.prog.info? 105).map (fun i => (i.zero, i.size, i.bytes)) = some (some (.agg #[.int .u64 0, .int .u64 0, .int .u64 0, .int .u64 0, .int .u64 0, .int .u64 0, .int .u64 0, .int .u64 0, .int .u64 0, .int .u64 0, .int .u64 0, .int .u64 0]), 12, 96) := by kernel_rfl
theorem und_posS : Try.prog.underlying 79 = some (.slice 105) := by kernel_rfl
def PnR (w1 : World) (p : PaB) (k : Nat) (W : World) : Prop := Below w1.heap.size w1 W ∧ W.heap[w1.heap.size]? = some (.cells (pfx p k ++ zr (4 - k)).toArray 81 (0, 0))
def posP (n : Nat) : PaB := fun _ => ⟨false, onB n, onB n⟩
theorem web_app {w W W2 : World} {B b g gc : Nat} {ps : List PosB} {cs : List Value} {x : PosB} {v : Value} (hw : WebAt W B b ps cs) (hlt : ps.length < 256) (hv : W.heap[b]? = some (.cells (v :: cs).toArray 83 (0, 0))) (hr : W.ownsRow B 105 12 v ps.length (posV ps)) (hne : v.ownBlock ≠ some b) (hgr : W.grownBy W2 v.ownBlock) (hown : W2.ownsRow B 105 12 (.slice (some ⟨g, 0, none⟩) (ps.length + 1) gc) (ps.length + 1) (posV ps ++ poV x)) (hat : v.ownBlock = some g ∨ W.heap.size ≤ g) (hB : B ≤ w.heap.size) (hf : WFr B w W) :
  WebAt (W2.setCell ⟨b, 0, none⟩ (.slice (some ⟨g, 0, none⟩) (ps.length + 1) gc)) B b (ps ++ [x]) cs ∧ WFr B w (W2.setCell ⟨b, 0, none⟩ (.slice (some ⟨g, 0, none⟩) (ps.length + 1) gc)) ∧ (∀ (k : Nat) (o : Obj), W.heap[k]? = some o → webs o = false → (W2.setCell ⟨b, 0, none⟩ (.slice (some ⟨g, 0, none⟩) (ps.length + 1) gc)).heap[k]? = some o) := by
 have hblt := hw.lt
 have hb2 : W2.heap[b]? = some (.cells (v :: cs).toArray 83 (0, 0)) := (hgr.block b hblt (fun e => hne e.symm)).trans hv
 have hgb : g ≠ b := fun e => by
  rcases hat with h | h
  ·exact hne (by rw [h, e])
  ·omega
 have fr2 : WFr B w W2 := hf.grown hgr (Nat.le_trans hB hf.below.size) (fun r hr' => by
  obtain ⟨h1, h2, cur, h3⟩ := owns_blk hr hr'
  exact ⟨h1, _, h3, rfl⟩)
 have fr3 : WFr B w (W2.setCell ⟨b, 0, none⟩ (.slice (some ⟨g, 0, none⟩) (ps.length + 1) gc)) := fr2.put hw.base hb2 rfl 0 _
 refine ⟨⟨hw.base, ⟨.slice (some ⟨g, 0, none⟩) (ps.length + 1) gc, ?_, ?_⟩, by simp; omega⟩, fr3, fun k o hk ho => ?_⟩
 ·exact setCells_at b 83 (0, 0) [.slice (some ⟨g, 0, none⟩) (ps.length + 1) gc] [] [v] cs W2 0 hb2 rfl rfl
 ·rw [List.length_append, posV_app]
  exact owns_far hown (ne_own hgb.symm) 0 _
 ·have h1 : W2.heap[k]? = some o := (hgr.block k (Array.getElem?_eq_some_iff.1 hk).1 (fun e => by
   obtain ⟨_, _, cur, h3⟩ := owns_blk hr e.symm
   rw [h3] at hk
   cases hk
   cases ho)).trans hk
  refine (put_far W2 b 0 _ (fun e => ?_)).trans h1
  rw [e, hb2] at h1
  cases h1
  cases ho
theorem addPosition_any {B b : Nat} {ps : List PosB} {cs : List Value} (q : Nat → Bool) (w : World) (hB : B ≤ w.heap.size) (hw : WebAt w B b ps cs) (hlt : ps.length < 256) :
  Calls Try.prog 55 #[.pointer (some ⟨b, 0, none⟩), .agg #[.int .u64 (wd q 0 : Nat), .int .u64 (wd q 1 : Nat), .int .u64 (wd q 2 : Nat), .int .u64 (wd q 3 : Nat)]] w fun e w' => e = .returned (partV (posP ps.length)) ∧ WebAt w' B b (ps ++ [⟨q, noB, noB⟩]) cs ∧ WFr B w w' := by
 obtain ⟨i0, hi0, hz0, hz1, hz2⟩ := info_parts info_pos
 have HOn := hideT (fun V => only_any ps.length hlt V)
 unfold partV
 go_enter Try.func55, Try.ntmps55
 go_upto_region 1 with fail
 obtain ⟨X, hX⟩ : ∃ X, X = ((w.alloc (.cells #[.int .u64 (wd q 0 : Nat), .int .u64 (wd q 1 : Nat), .int .u64 (wd q 2 : Nat), .int .u64 (wd q 3 : Nat)] 45)).alloc (.cells #[.bool false, .int .u64 0, .int .u64 0, .int .u64 0, .int .u64 0, .int .u64 0, .int .u64 0, .int .u64 0, .int .u64 0, .bool false, .int .u64 0, .int .u64 0, .int .u64 0, .int .u64 0, .int .u64 0, .int .u64 0, .int .u64 0, .int .u64 0, .bool false, .int .u64 0, .int .u64 0, .int .u64 0, .int .u64 0, .int .u64 0, .int .u64 0, .int .u64 0, .int .u64 0, .bool false, .int .u64 0, .int .u64 0, .int .u64 0, .int .u64 0, .int .u64 0, .int .u64 0, .int .u64 0, .int .u64 0] 81)) := ⟨_, rfl⟩
 rw [← hX]
 have hBX : Below w.heap.size w X := by
  rw [hX]
  exact ((Below.refl _ w).alloc (Nat.le_refl _) _).alloc (by simp only [World.size_alloc]; omega) _
 have xs0 : Set4 X w.heap.size q := by
  show X.heap[w.heap.size]? = _
  rw [hX, Below.heap_alloc _ _ _ (by simp only [World.size_alloc]; omega)]
  exact World.alloc_heap_new w _
 have xz : X.heap[w.heap.size + 1]? = some (.cells [.bool false, .int .u64 0, .int .u64 0, .int .u64 0, .int .u64 0, .int .u64 0, .int .u64 0, .int .u64 0, .int .u64 0, .bool false, .int .u64 0, .int .u64 0, .int .u64 0, .int .u64 0, .int .u64 0, .int .u64 0, .int .u64 0, .int .u64 0, .bool false, .int .u64 0, .int .u64 0, .int .u64 0, .int .u64 0, .int .u64 0, .int .u64 0, .int .u64 0, .int .u64 0, .bool false, .int .u64 0, .int .u64 0, .int .u64 0, .int .u64 0, .int .u64 0, .int .u64 0, .int .u64 0, .int .u64 0].toArray 81 (0, 0)) := by
  have h := World.alloc_heap_new (w.alloc (.cells #[.int .u64 (wd q 0 : Nat), .int .u64 (wd q 1 : Nat), .int .u64 (wd q 2 : Nat), .int .u64 (wd q 3 : Nat)] 45)) (.cells #[.bool false, .int .u64 0, .int .u64 0, .int .u64 0, .int .u64 0, .int .u64 0, .int .u64 0, .int .u64 0, .int .u64 0, .bool false, .int .u64 0, .int .u64 0, .int .u64 0, .int .u64 0, .int .u64 0, .int .u64 0, .int .u64 0, .int .u64 0, .bool false, .int .u64 0, .int .u64 0, .int .u64 0, .int .u64 0, .int .u64 0, .int .u64 0, .int .u64 0, .int .u64 0, .bool false, .int .u64 0, .int .u64 0, .int .u64 0, .int .u64 0, .int .u64 0, .int .u64 0, .int .u64 0, .int .u64 0] 81)
  rw [World.size_alloc] at h
  rw [hX]
  exact h
 clear hX
 have hwX := hw.below hBX
 obtain ⟨sa, cap, cb, -, -⟩ := hwX.cell0
 have k0 : IntKind.u8.wrap (ps.length : Int) = (ps.length : Int) := by rw [IntKind.wrap_u8]; omega
 have HX := hideT (And.intro hBX (And.intro xs0 (And.intro xz hwX)))
 clear hBX xs0 xz hwX hw
 go_wp2_with fail
 refine (HOn.out _).mono ?_
 rintro e w1 ⟨rfl, hb1⟩
 have hY0 := (Below.refl w1.heap.size w1).alloc (Nat.le_refl _) (.cells #[.int .u64 (wd (onB ps.length) 0 : Nat), .int .u64 (wd (onB ps.length) 1 : Nat), .int .u64 (wd (onB ps.length) 2 : Nat), .int .u64 (wd (onB ps.length) 3 : Nat)] 45)
 have own : Set4 (w1.alloc (.cells #[.int .u64 (wd (onB ps.length) 0 : Nat), .int .u64 (wd (onB ps.length) 1 : Nat), .int .u64 (wd (onB ps.length) 2 : Nat), .int .u64 (wd (onB ps.length) 3 : Nat)] 45)) w1.heap.size (onB ps.length) := Set4.new w1 (onB ps.length)
 have hXY := hb1.trans (hY0.mono hb1.size)
 go_upto_region 2 with fail
 generalize w1.alloc (.cells #[.int .u64 (wd (onB ps.length) 0 : Nat), .int .u64 (wd (onB ps.length) 1 : Nat), .int .u64 (wd (onB ps.length) 2 : Nat), .int .u64 (wd (onB ps.length) 3 : Nat)] 45) = Y at *
 have hwY := HX.out.2.2.2.below hXY
 have hBY := HX.out.1.trans (hXY.mono HX.out.1.size)
 have ys0 := HX.out.2.1.below hXY HX.out.2.1.lt
 have yz := (hXY.block _ (Array.getElem?_eq_some_iff.1 HX.out.2.2.1).1).trans HX.out.2.2.1
 obtain ⟨v, hv, hr, hne⟩ := hwY.row
 have cY : Y.cell? ⟨b, 0, none⟩ = some v := by simp [World.cell?, hv]
 have fY : Y.frozen? ⟨b, 0, none⟩ = false := by simp [World.frozen?, hv]
 rename_i K2 hK2
 have key : ∀ (v0 : Value) (g gc : Nat) (Z : World), WebAt Z B b (ps ++ [⟨q, noB, noB⟩]) cs → WFr B w Z → Z.heap[w1.heap.size]? = some (.cells #[.int .u64 (wd (onB ps.length) 0 : Nat), .int .u64 (wd (onB ps.length) 1 : Nat), .int .u64 (wd (onB ps.length) 2 : Nat), .int .u64 (wd (onB ps.length) 3 : Nat)] 45 (0, 0)) → Z.heap[w.heap.size + 1]? = some (.cells [.bool false, .int .u64 0, .int .u64 0, .int .u64 0, .int .u64 0, .int .u64 0, .int .u64 0, .int .u64 0, .int .u64 0, .bool false, .int .u64 0, .int .u64 0, .int .u64 0, .int .u64 0, .int .u64 0, .int .u64 0, .int .u64 0, .int .u64 0, .bool false, .int .u64 0, .int .u64 0, .int .u64 0, .int .u64 0, .int .u64 0, .int .u64 0, .int .u64 0, .int .u64 0, .bool false, .int .u64 0, .int .u64 0, .int .u64 0, .int .u64 0, .int .u64 0, .int .u64 0, .int .u64 0, .int .u64 0].toArray 81 (0, 0)) → K2 { tmps := #[.pointer (some ⟨b, 0, none⟩), .agg #[.int .u64 (wd q 0 : Nat), .int .u64 (wd q 1 : Nat), .int .u64 (wd q 2 : Nat), .int .u64 (wd q 3 : Nat)], undef, .pointer (some ⟨w.heap.size, 0, none⟩), .pointer (some ⟨w.heap.size + 1, 0, none⟩), .pointer (some ⟨w1.heap.size, 0, none⟩), undef, undef, .pointer (some ⟨b, 0, none⟩), .pointer (some ⟨b, 0, none⟩), .pointer (some ⟨b, 0, none⟩), .slice sa ps.length cap, .int .i64 (ps.length : Nat), .int .u8 (ps.length : Nat), .agg #[.int .u64 (wd (onB ps.length) 0 : Nat), .int .u64 (wd (onB ps.length) 1 : Nat), .int .u64 (wd (onB ps.length) 2 : Nat), .int .u64 (wd (onB ps.length) 3 : Nat)], .pointer (some ⟨b, 0, none⟩), .pointer (some ⟨b, 0, none⟩), .pointer (some ⟨b, 0, none⟩), .pointer (some ⟨b, 0, none⟩), v0, .agg #[.int .u64 (wd q 0 : Nat), .int .u64 (wd q 1 : Nat), .int .u64 (wd q 2 : Nat), .int .u64 (wd q 3 : Nat)], .agg #[.int .u64 (wd q 0 : Nat), .int .u64 (wd q 1 : Nat), .int .u64 (wd q 2 : Nat), .int .u64 (wd q 3 : Nat), .int .u64 0, .int .u64 0, .int .u64 0, .int .u64 0, .int .u64 0, .int .u64 0, .int .u64 0, .int .u64 0], .slice (some ⟨Y.heap.size, 0, none⟩) 1 1, .slice (some ⟨g, 0, none⟩) (ps.length + 1) gc, .pointer (some ⟨b, 0, none⟩), .pointer (some ⟨b, 0, none⟩), undef, undef, undef, undef, undef, undef, undef, undef, undef, undef], defers := [] } Z := by
  intro v0 g gc Z hZw hZf o1 z1
  refine hK2 _ _ ?_
  have hC0 : (Z.alloc (.cells #[.bool false, .int .u64 0, .int .u64 0, .int .u64 0, .int .u64 0, .int .u64 0, .int .u64 0, .int .u64 0, .int .u64 0, .bool false, .int .u64 0, .int .u64 0, .int .u64 0, .int .u64 0, .int .u64 0, .int .u64 0, .int .u64 0, .int .u64 0, .bool false, .int .u64 0, .int .u64 0, .int .u64 0, .int .u64 0, .int .u64 0, .int .u64 0, .int .u64 0, .int .u64 0, .bool false, .int .u64 0, .int .u64 0, .int .u64 0, .int .u64 0, .int .u64 0, .int .u64 0, .int .u64 0, .int .u64 0] 81)).heap[Z.heap.size]? = some (.cells (pfx (posP ps.length) 0 ++ zr (4 - 0)).toArray 81 (0, 0)) := World.alloc_heap_new Z _
  have hB0 := (Below.refl Z.heap.size Z).alloc (Nat.le_refl _) (.cells #[.bool false, .int .u64 0, .int .u64 0, .int .u64 0, .int .u64 0, .int .u64 0, .int .u64 0, .int .u64 0, .int .u64 0, .bool false, .int .u64 0, .int .u64 0, .int .u64 0, .int .u64 0, .int .u64 0, .int .u64 0, .int .u64 0, .int .u64 0, .bool false, .int .u64 0, .int .u64 0, .int .u64 0, .int .u64 0, .int .u64 0, .int .u64 0, .int .u64 0, .int .u64 0, .bool false, .int .u64 0, .int .u64 0, .int .u64 0, .int .u64 0, .int .u64 0, .int .u64 0, .int .u64 0, .int .u64 0] 81)
  have HZ := hideT (And.intro hZw hZf)
  have hO : w1.heap.size < Z.heap.size := (Array.getElem?_eq_some_iff.1 o1).1
  have hH1 : w.heap.size + 1 < Z.heap.size := (Array.getElem?_eq_some_iff.1 z1).1
  clear hZw hZf hwY hBY ys0 yz hv hr hne cY fY own hXY hY0 hb1 HX HOn hK2 cb
  go_wp2_with fail
  generalize Z.alloc (.cells #[.bool false, .int .u64 0, .int .u64 0, .int .u64 0, .int .u64 0, .int .u64 0, .int .u64 0, .int .u64 0, .int .u64 0, .bool false, .int .u64 0, .int .u64 0, .int .u64 0, .int .u64 0, .int .u64 0, .int .u64 0, .int .u64 0, .int .u64 0, .bool false, .int .u64 0, .int .u64 0, .int .u64 0, .int .u64 0, .int .u64 0, .int .u64 0, .int .u64 0, .int .u64 0, .bool false, .int .u64 0, .int .u64 0, .int .u64 0, .int .u64 0, .int .u64 0, .int .u64 0, .int .u64 0, .int .u64 0] 81) = W0 at *
  go_loopw [26] (fun iv wq => ∃ k : Nat, k ≤ 4 ∧ iv = .int .i64 k ∧ PnR Z (posP ps.length) k wq) (fun iv _ => (4 - intOf iv).toNat)
  case atStart => exact ⟨0, by omega, rfl, hB0, hC0⟩
  case round =>
   obtain ⟨k, hk1, rfl, hbw, hC⟩ := hrel
   by_cases hk4 : k < 4
   ·rw [zr_pos hk4] at hC
    have i1 : (k : Int) < 4 := by omega
    have i2 : (0 : Int) ≤ (k : Int) := by omega
    have oR := (hbw.block _ hO).trans o1
    have e0 : wr.cell? ⟨w1.heap.size, 0, none⟩ = some (.int .u64 (wd (onB ps.length) 0 : Nat)) := by simp [World.cell?, oR]
    have e1 : wr.cell? ⟨w1.heap.size, 1, none⟩ = some (.int .u64 (wd (onB ps.length) 1 : Nat)) := by simp [World.cell?, oR]
    have e2 : wr.cell? ⟨w1.heap.size, 2, none⟩ = some (.int .u64 (wd (onB ps.length) 2 : Nat)) := by simp [World.cell?, oR]
    have e3 : wr.cell? ⟨w1.heap.size, 3, none⟩ = some (.int .u64 (wd (onB ps.length) 3 : Nat)) := by simp [World.cell?, oR]
    have hV := set9_at hC (pfx_len (posP ps.length) k) rfl (.bool false) (.int .u64 (wd (onB ps.length) 0 : Nat)) (.int .u64 (wd (onB ps.length) 1 : Nat)) (.int .u64 (wd (onB ps.length) 2 : Nat)) (.int .u64 (wd (onB ps.length) 3 : Nat)) (.int .u64 (wd (onB ps.length) 0 : Nat)) (.int .u64 (wd (onB ps.length) 1 : Nat)) (.int .u64 (wd (onB ps.length) 2 : Nat)) (.int .u64 (wd (onB ps.length) 3 : Nat))
    have hVb : Below Z.heap.size Z (set9 wr Z.heap.size (k * 9) (.bool false) (.int .u64 (wd (onB ps.length) 0 : Nat)) (.int .u64 (wd (onB ps.length) 1 : Nat)) (.int .u64 (wd (onB ps.length) 2 : Nat)) (.int .u64 (wd (onB ps.length) 3 : Nat)) (.int .u64 (wd (onB ps.length) 0 : Nat)) (.int .u64 (wd (onB ps.length) 1 : Nat)) (.int .u64 (wd (onB ps.length) 2 : Nat)) (.int .u64 (wd (onB ps.length) 3 : Nat))) := below_setCells Z.heap.size (Nat.le_refl _) [.bool false, .int .u64 (wd (onB ps.length) 0 : Nat), .int .u64 (wd (onB ps.length) 1 : Nat), .int .u64 (wd (onB ps.length) 2 : Nat), .int .u64 (wd (onB ps.length) 3 : Nat), .int .u64 (wd (onB ps.length) 0 : Nat), .int .u64 (wd (onB ps.length) 1 : Nat), .int .u64 (wd (onB ps.length) 2 : Nat), .int .u64 (wd (onB ps.length) 3 : Nat)] wr (k * 9) hbw
    obtain ⟨C0, F0⟩ := seg_cell hC (pfx_len (posP ps.length) k) 0 _ rfl
    obtain ⟨C1, F1⟩ := seg_cell hC (pfx_len (posP ps.length) k) 1 _ rfl
    obtain ⟨C2, F2⟩ := seg_cell hC (pfx_len (posP ps.length) k) 2 _ rfl
    obtain ⟨C3, F3⟩ := seg_cell hC (pfx_len (posP ps.length) k) 3 _ rfl
    obtain ⟨C4, F4⟩ := seg_cell hC (pfx_len (posP ps.length) k) 4 _ rfl
    obtain ⟨C5, F5⟩ := seg_cell hC (pfx_len (posP ps.length) k) 5 _ rfl
    obtain ⟨C6, F6⟩ := seg_cell hC (pfx_len (posP ps.length) k) 6 _ rfl
    obtain ⟨C7, F7⟩ := seg_cell hC (pfx_len (posP ps.length) k) 7 _ rfl
    obtain ⟨C8, F8⟩ := seg_cell hC (pfx_len (posP ps.length) k) 8 _ rfl
    rw [Nat.add_zero] at C0 F0
    have HF : Hid (PnR Z (posP ps.length) (k + 1) (set9 wr Z.heap.size (k * 9) (.bool false) (.int .u64 (wd (onB ps.length) 0 : Nat)) (.int .u64 (wd (onB ps.length) 1 : Nat)) (.int .u64 (wd (onB ps.length) 2 : Nat)) (.int .u64 (wd (onB ps.length) 3 : Nat)) (.int .u64 (wd (onB ps.length) 0 : Nat)) (.int .u64 (wd (onB ps.length) 1 : Nat)) (.int .u64 (wd (onB ps.length) 2 : Nat)) (.int .u64 (wd (onB ps.length) 3 : Nat)))) := hideT ⟨hVb, by
     rw [hV, show 4 - (k + 1) = 3 - k by omega, pfx, List.append_assoc]
     rfl⟩
    clear hV hVb hC hbw oR o1 z1
    go_wp2
    exact ⟨⟨k + 1, by omega, by go_num, HF.out⟩, by simp [intOf]; omega⟩
   ·obtain rfl : k = 4 := by omega
    rw [show 4 - 4 = 0 from rfl, pfx_four] at hC
    have z2 := (hbw.block _ hH1).trans z1
    have HB := hideT hbw
    clear hbw z1 o1
    go_upto_region 9 with fail
    refine ret_part (b := Z.heap.size) (b' := w.heap.size + 1) (cs := paV (posP ps.length)) (zs := [.bool false, .int .u64 0, .int .u64 0, .int .u64 0, .int .u64 0, .int .u64 0, .int .u64 0, .int .u64 0, .int .u64 0, .bool false, .int .u64 0, .int .u64 0, .int .u64 0, .int .u64 0, .int .u64 0, .int .u64 0, .int .u64 0, .int .u64 0, .bool false, .int .u64 0, .int .u64 0, .int .u64 0, .int .u64 0, .int .u64 0, .int .u64 0, .int .u64 0, .int .u64 0, .bool false, .int .u64 0, .int .u64 0, .int .u64 0, .int .u64 0, .int .u64 0, .int .u64 0, .int .u64 0, .int .u64 0]) rfl (by assumption) rfl rfl (by decide) rfl hC z2 rfl rfl (paV_one _) rfl rfl ⟨rfl, ?_, ?_⟩
    ·exact (HZ.out.1.below HB.out).far z2 rfl 0 _
    ·exact (HZ.out.2.trans (WFr.of_below HB.out (Nat.le_trans hB HZ.out.2.below.size))).far hB (by omega) 0 _
 have HKEY := hideT key
 clear key hK2
 refine wp_region_held (S := (fun V : World => Set4 V w.heap.size q)) (by kernel_rfl) ?_
 have hS0 : Set4 Y.drew w.heap.size q := ys0
 have hA1 : Below Y.heap.size Y (Y.drew.alloc (.cells #[.int .u64 (wd q 0 : Nat), .int .u64 (wd q 1 : Nat), .int .u64 (wd q 2 : Nat), .int .u64 (wd q 3 : Nat), .int .u64 0, .int .u64 0, .int .u64 0, .int .u64 0, .int .u64 0, .int .u64 0, .int .u64 0, .int .u64 0] 105)) := ((Below.refl Y.heap.size Y).drew).alloc (Nat.le_refl _) _
 have hblk : (Y.drew.alloc (.cells #[.int .u64 (wd q 0 : Nat), .int .u64 (wd q 1 : Nat), .int .u64 (wd q 2 : Nat), .int .u64 (wd q 3 : Nat), .int .u64 0, .int .u64 0, .int .u64 0, .int .u64 0, .int .u64 0, .int .u64 0, .int .u64 0, .int .u64 0] 105)).heap[Y.heap.size]? = some (.cells (poV ⟨q, noB, noB⟩).toArray 105 (0, 0)) := by
  have e : (poV ⟨q, noB, noB⟩) = [.int .u64 (wd q 0 : Nat), .int .u64 (wd q 1 : Nat), .int .u64 (wd q 2 : Nat), .int .u64 (wd q 3 : Nat), .int .u64 0, .int .u64 0, .int .u64 0, .int .u64 0, .int .u64 0, .int .u64 0, .int .u64 0, .int .u64 0] := by simp [poV, wd_noB]
  rw [e]
  exact World.alloc_heap_new Y.drew _
 refine' take_d 0 (some 15) rfl rfl (by kernel_rfl) (by kernel_rfl) (by kernel_rfl) (fun _ _ _ h => h) (by rfl) hS0 ?hy1 ?rest1
 case hy1 => intro V hV; go_simp; (try with_reducible rfl)
 refine' take_d 1 (some 16) rfl rfl (by kernel_rfl) (by kernel_rfl) (by kernel_rfl) (fun _ _ _ h => h) (by rfl) hS0 ?hy2 ?rest2
 case hy2 => intro V hV; go_simp; (try with_reducible rfl)
 refine' take_d 2 (some 17) rfl rfl (by kernel_rfl) (by kernel_rfl) (by kernel_rfl) (fun _ _ _ h => h) (by rfl) hS0 ?hy3 ?rest3
 case hy3 => intro V hV; go_simp; (try with_reducible rfl)
 refine' take_d 3 (some 18) rfl rfl (by kernel_rfl) (by kernel_rfl) (by kernel_rfl) (fun _ _ _ h => h) (by rfl) hS0 ?hy4 ?rest4
 case hy4 => intro V hV; go_simp; (try with_reducible rfl)
 refine' take_d 5 (some 20) rfl rfl (by kernel_rfl) (by kernel_rfl) (by kernel_rfl) (fun _ _ _ h => h) (by rfl) hS0 ?hy5 ?rest5
 case hy5 => intro V hV; obtain ⟨⟨k0, k1, k2, k3⟩, -⟩ := Set4.holds hV; go_simp; (try with_reducible rfl)
 refine' take_d 6 (some 21) rfl rfl (by kernel_rfl) (by kernel_rfl) (by kernel_rfl) (fun _ _ _ h => h) (by rfl) hS0 ?hy6 ?rest6
 case hy6 => intro V hV; go_simp; (try with_reducible rfl)
 refine wpAnyH_all (rs := [4, 7]) (by kernel_rfl) (by simp) (fun i hi => ?_)
 have hc2 : i = 4 ∨ i = 7 := by simpa using hi
 rcases hc2 with rfl | rfl
 ·have cD : Y.drew.cell? ⟨b, 0, none⟩ = some v := cY
  refine op_value (some 19) rfl rfl (by rfl) (v := v) (w' := Y.drew) (by go_simp; (try with_reducible rfl)) ?_
  refine And.intro hS0 ?_
  refine wpAnyH_all (rs := [7]) (by kernel_rfl) (by simp) (fun i hi => ?_)
  obtain rfl : i = 7 := List.mem_singleton.1 hi
  refine op_value (some 22) rfl rfl (by rfl) (v := .slice (some ⟨Y.heap.size, 0, none⟩) 1 1) (w' := (Y.drew.alloc (.cells #[.int .u64 (wd q 0 : Nat), .int .u64 (wd q 1 : Nat), .int .u64 (wd q 2 : Nat), .int .u64 (wd q 3 : Nat), .int .u64 0, .int .u64 0, .int .u64 0, .int .u64 0, .int .u64 0, .int .u64 0, .int .u64 0, .int .u64 0] 105))) (by go_simp; (try with_reducible rfl)) ?_
  refine And.intro (ys0.below hA1 ys0.lt) ?_
  simp only [Act.put, List.setIfInBounds_toArray, List.set_cons_zero, List.set_cons_succ]
  clear cD
  refine wpAnyH_all (rs := [8]) (by kernel_rfl) (by simp) (fun i hi => ?_)
  obtain rfl : i = 8 := List.mem_singleton.1 hi
  refine op_of rfl (wanted_none rfl _) (wp_append_lies _ _ _ _ rfl B 105 i0 (.agg #[.int .u64 0, .int .u64 0, .int .u64 0, .int .u64 0, .int .u64 0, .int .u64 0, .int .u64 0, .int .u64 0, .int .u64 0, .int .u64 0, .int .u64 0, .int .u64 0]) 12 96 und_posS hi0 hz0 hz1 hz2 rfl (by omega) v ps.length (posV ps) rfl (owns_below hr hA1) ⟨Y.heap.size, 0, none⟩ 1 1 (poV ⟨q, noB, noB⟩) rfl rfl (fun j u hj => by rw [Addr.add_mid]; exact range_block hblk j u hj) (by simp [poV, Value.oneCell']) (by omega) (by unfold maxLen; omega) (by omega) (by have := hBY.size; have := hA1.size; omega) (Y.heap.size + 1) (by simp) ?_)
  intro g gc w2 hown hgr hat hglt
  obtain ⟨hZw, hZf, hZs⟩ := web_app (w := w) (hwY.below hA1) hlt ((hA1.block b (Array.getElem?_eq_some_iff.1 hv).1).trans hv) (owns_below hr hA1) hne hgr hown (hat.imp id (fun e => by simp; omega)) hB (WFr.of_below (hBY.trans (hA1.mono hBY.size)) hB)
  have hs2 : Set4 w2 w.heap.size q := (hgr.block _ (Nat.lt_of_lt_of_le ys0.lt hA1.size) (fun e => by
   obtain ⟨_, _, cur, h3⟩ := owns_blk (owns_below hr hA1) e.symm
   rw [show (Y.drew.alloc (.cells #[.int .u64 (wd q 0 : Nat), .int .u64 (wd q 1 : Nat), .int .u64 (wd q 2 : Nat), .int .u64 (wd q 3 : Nat), .int .u64 0, .int .u64 0, .int .u64 0, .int .u64 0, .int .u64 0, .int .u64 0, .int .u64 0, .int .u64 0] 105)).heap[_]? = _ from ys0.below hA1 ys0.lt] at h3
   cases h3)).trans (ys0.below hA1 ys0.lt)
  have hbw2 : w2.heap[b]? = some (.cells (v :: cs).toArray 83 (0, 0)) := (hgr.block b (Nat.lt_of_lt_of_le (Array.getElem?_eq_some_iff.1 hv).1 hA1.size) (fun e => hne e.symm)).trans ((hA1.block b (Array.getElem?_eq_some_iff.1 hv).1).trans hv)
  have c2 : w2.cell? ⟨b, 0, none⟩ = some v := by simp [World.cell?, hbw2]
  have f2 : w2.frozen? ⟨b, 0, none⟩ = false := by simp [World.frozen?, hbw2]
  have nbH : w.heap.size ≠ b := fun e => by
   rw [← e, show w2.heap[_]? = _ from hs2] at hbw2
   cases hbw2
  refine And.intro hs2 ?_
  refine' take_d 9 (some 24) rfl rfl (by kernel_rfl) (by kernel_rfl) (by kernel_rfl) (fun _ _ _ h => h) (by rfl) hs2 ?hy7 ?rest7
  case hy7 => intro V hV; go_simp; (try with_reducible rfl)
  refine' take_d 10 (some 25) rfl rfl (by kernel_rfl) (by kernel_rfl) (by kernel_rfl) (fun _ _ _ h => h) (by rfl) hs2 ?hy8 ?rest8
  case hy8 => intro V hV; go_simp; (try with_reducible rfl)
  refine wpAnyH_all (rs := [11]) (by kernel_rfl) (by simp) (fun i hi => ?_)
  obtain rfl : i = 11 := List.mem_singleton.1 hi
  refine op_skip rfl rfl (by rfl) (w' := w2.setCell ⟨b, 0, none⟩ (.slice (some ⟨g, 0, none⟩) (ps.length + 1) gc)) (by go_simp; (try with_reducible rfl)) ?_
  refine And.intro ((put_far w2 b 0 _ nbH).trans hs2) ?_
  refine wpAnyH_done (by kernel_rfl) ?_ _
  have o1 := hZs _ _ (show (Y.drew.alloc (.cells #[.int .u64 (wd q 0 : Nat), .int .u64 (wd q 1 : Nat), .int .u64 (wd q 2 : Nat), .int .u64 (wd q 3 : Nat), .int .u64 0, .int .u64 0, .int .u64 0, .int .u64 0, .int .u64 0, .int .u64 0, .int .u64 0, .int .u64 0] 105)).heap[w1.heap.size]? = _ from own.below hA1 own.lt) rfl
  have z1 := hZs _ _ ((hA1.block _ (Array.getElem?_eq_some_iff.1 yz).1).trans yz) rfl
  exact HKEY.out v g gc _ hZw hZf o1 z1
 ·refine op_value (some 22) rfl rfl (by rfl) (v := .slice (some ⟨Y.heap.size, 0, none⟩) 1 1) (w' := (Y.drew.alloc (.cells #[.int .u64 (wd q 0 : Nat), .int .u64 (wd q 1 : Nat), .int .u64 (wd q 2 : Nat), .int .u64 (wd q 3 : Nat), .int .u64 0, .int .u64 0, .int .u64 0, .int .u64 0, .int .u64 0, .int .u64 0, .int .u64 0, .int .u64 0] 105))) (by go_simp; (try with_reducible rfl)) ?_
  refine And.intro (ys0.below hA1 ys0.lt) ?_
  have cD : (Y.drew.alloc (.cells #[.int .u64 (wd q 0 : Nat), .int .u64 (wd q 1 : Nat), .int .u64 (wd q 2 : Nat), .int .u64 (wd q 3 : Nat), .int .u64 0, .int .u64 0, .int .u64 0, .int .u64 0, .int .u64 0, .int .u64 0, .int .u64 0, .int .u64 0] 105)).cell? ⟨b, 0, none⟩ = some v := keep_cell hA1 cY
  refine wpAnyH_all (rs := [4]) (by kernel_rfl) (by simp) (fun i hi => ?_)
  obtain rfl : i = 4 := List.mem_singleton.1 hi
  refine op_value (some 19) rfl rfl (by rfl) (v := v) (w' := (Y.drew.alloc (.cells #[.int .u64 (wd q 0 : Nat), .int .u64 (wd q 1 : Nat), .int .u64 (wd q 2 : Nat), .int .u64 (wd q 3 : Nat), .int .u64 0, .int .u64 0, .int .u64 0, .int .u64 0, .int .u64 0, .int .u64 0, .int .u64 0, .int .u64 0] 105))) (by generalize (Y.drew.alloc (.cells #[.int .u64 (wd q 0 : Nat), .int .u64 (wd q 1 : Nat), .int .u64 (wd q 2 : Nat), .int .u64 (wd q 3 : Nat), .int .u64 0, .int .u64 0, .int .u64 0, .int .u64 0, .int .u64 0, .int .u64 0, .int .u64 0, .int .u64 0] 105)) = Y1 at *; go_simp; (try with_reducible rfl)) ?_
  refine And.intro (ys0.below hA1 ys0.lt) ?_
  simp only [Act.put, List.setIfInBounds_toArray, List.set_cons_zero, List.set_cons_succ]
  clear cD
  refine wpAnyH_all (rs := [8]) (by kernel_rfl) (by simp) (fun i hi => ?_)
  obtain rfl : i = 8 := List.mem_singleton.1 hi
  refine op_of rfl (wanted_none rfl _) (wp_append_lies _ _ _ _ rfl B 105 i0 (.agg #[.int .u64 0, .int .u64 0, .int .u64 0, .int .u64 0, .int .u64 0, .int .u64 0, .int .u64 0, .int .u64 0, .int .u64 0, .int .u64 0, .int .u64 0, .int .u64 0]) 12 96 und_posS hi0 hz0 hz1 hz2 rfl (by omega) v ps.length (posV ps) rfl (owns_below hr hA1) ⟨Y.heap.size, 0, none⟩ 1 1 (poV ⟨q, noB, noB⟩) rfl rfl (fun j u hj => by rw [Addr.add_mid]; exact range_block hblk j u hj) (by simp [poV, Value.oneCell']) (by omega) (by unfold maxLen; omega) (by omega) (by have := hBY.size; have := hA1.size; omega) (Y.heap.size + 1) (by simp) ?_)
  intro g gc w2 hown hgr hat hglt
  obtain ⟨hZw, hZf, hZs⟩ := web_app (w := w) (hwY.below hA1) hlt ((hA1.block b (Array.getElem?_eq_some_iff.1 hv).1).trans hv) (owns_below hr hA1) hne hgr hown (hat.imp id (fun e => by simp; omega)) hB (WFr.of_below (hBY.trans (hA1.mono hBY.size)) hB)
  have hs2 : Set4 w2 w.heap.size q := (hgr.block _ (Nat.lt_of_lt_of_le ys0.lt hA1.size) (fun e => by
   obtain ⟨_, _, cur, h3⟩ := owns_blk (owns_below hr hA1) e.symm
   rw [show (Y.drew.alloc (.cells #[.int .u64 (wd q 0 : Nat), .int .u64 (wd q 1 : Nat), .int .u64 (wd q 2 : Nat), .int .u64 (wd q 3 : Nat), .int .u64 0, .int .u64 0, .int .u64 0, .int .u64 0, .int .u64 0, .int .u64 0, .int .u64 0, .int .u64 0] 105)).heap[_]? = _ from ys0.below hA1 ys0.lt] at h3
   cases h3)).trans (ys0.below hA1 ys0.lt)
  have hbw2 : w2.heap[b]? = some (.cells (v :: cs).toArray 83 (0, 0)) := (hgr.block b (Nat.lt_of_lt_of_le (Array.getElem?_eq_some_iff.1 hv).1 hA1.size) (fun e => hne e.symm)).trans ((hA1.block b (Array.getElem?_eq_some_iff.1 hv).1).trans hv)
  have c2 : w2.cell? ⟨b, 0, none⟩ = some v := by simp [World.cell?, hbw2]
  have f2 : w2.frozen? ⟨b, 0, none⟩ = false := by simp [World.frozen?, hbw2]
  have nbH : w.heap.size ≠ b := fun e => by
   rw [← e, show w2.heap[_]? = _ from hs2] at hbw2
   cases hbw2
  refine And.intro hs2 ?_
  refine' take_d 9 (some 24) rfl rfl (by kernel_rfl) (by kernel_rfl) (by kernel_rfl) (fun _ _ _ h => h) (by rfl) hs2 ?hy9 ?rest9
  case hy9 => intro V hV; go_simp; (try with_reducible rfl)
  refine' take_d 10 (some 25) rfl rfl (by kernel_rfl) (by kernel_rfl) (by kernel_rfl) (fun _ _ _ h => h) (by rfl) hs2 ?hy10 ?rest10
  case hy10 => intro V hV; go_simp; (try with_reducible rfl)
  refine wpAnyH_all (rs := [11]) (by kernel_rfl) (by simp) (fun i hi => ?_)
  obtain rfl : i = 11 := List.mem_singleton.1 hi
  refine op_skip rfl rfl (by rfl) (w' := w2.setCell ⟨b, 0, none⟩ (.slice (some ⟨g, 0, none⟩) (ps.length + 1) gc)) (by go_simp; (try with_reducible rfl)) ?_
  refine And.intro ((put_far w2 b 0 _ nbH).trans hs2) ?_
  refine wpAnyH_done (by kernel_rfl) ?_ _
  have o1 := hZs _ _ (show (Y.drew.alloc (.cells #[.int .u64 (wd q 0 : Nat), .int .u64 (wd q 1 : Nat), .int .u64 (wd q 2 : Nat), .int .u64 (wd q 3 : Nat), .int .u64 0, .int .u64 0, .int .u64 0, .int .u64 0, .int .u64 0, .int .u64 0, .int .u64 0, .int .u64 0] 105)).heap[w1.heap.size]? = _ from own.below hA1 own.lt) rfl
  have z1 := hZs _ _ ((hA1.block _ (Array.getElem?_eq_some_iff.1 yz).1).trans yz) rfl
  exact HKEY.out v g gc _ hZw hZf o1 z1
end Go.Proofs.Ytiedliahmjiadaa
