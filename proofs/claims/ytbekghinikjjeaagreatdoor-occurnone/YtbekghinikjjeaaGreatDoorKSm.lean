/- KSm -/
import Derived.Test.YtbekghinikjjeaaGreatDoorKA2
set_option maxRecDepth 100000
set_option maxHeartbeats 4000000
namespace Go.Proofs.YtbekghinikjjeaaGreatDoor.smt
open Go.RowKit Go.Proofs.YtbekghinikjjeaaGreatDoor.br
theorem info_border : (Tryz.prog.info? 159).map (·.size) = some 9 := by kernel_rfl
theorem und_border : ∃ d, Tryz.prog.underlying 159 = some d ∧ d.isRow = true := ⟨_, Tryz.underlying159, rfl⟩
theorem bdV_len (b : Bd) : (bdV b).length = 9 := rfl
theorem bdV_one (b : Bd) : (bdV b).toArray.all (·.oneCell') = true := by simp [bdV, Value.oneCell']
abbrev put4at (W : World) (b o q : Nat) : World := (((W.setCell ⟨b, o, none⟩ (.int .u64 (wd (Nat.testBit q) 0 : Nat))).setCell ⟨b, o + 1, none⟩ (.int .u64 (wd (Nat.testBit q) 1 : Nat))).setCell ⟨b, o + 2, none⟩ (.int .u64 (wd (Nat.testBit q) 2 : Nat))).setCell ⟨b, o + 3, none⟩ (.int .u64 (wd (Nat.testBit q) 3 : Nat))
abbrev set9 (W : World) (g o : Nat) (v0 v1 v2 v3 v4 v5 v6 v7 v8 : Value) : World :=
 ((((((((W.setCell ⟨g, o, none⟩ v0).setCell ⟨g, o + 1, none⟩ v1).setCell ⟨g, o + 2, none⟩ v2).setCell ⟨g, o + 3, none⟩ v3).setCell ⟨g, o + 4, none⟩ v4).setCell ⟨g, o + 5, none⟩ v5).setCell ⟨g, o + 6, none⟩ v6).setCell ⟨g, o + 7, none⟩ v7).setCell ⟨g, o + 8, none⟩ v8
theorem put4at_size (W : World) (b o q : Nat) : (put4at W b o q).heap.size = W.heap.size := by simp [put4at]
theorem put4at_far (W : World) (b o q : Nat) {j : Nat} (h : j ≠ b) : (put4at W b o q).heap[j]? = W.heap[j]? := setCells_far W b h [.int .u64 (wd (Nat.testBit q) 0 : Nat), .int .u64 (wd (Nat.testBit q) 1 : Nat), .int .u64 (wd (Nat.testBit q) 2 : Nat), .int .u64 (wd (Nat.testBit q) 3 : Nat)] o
theorem bs_get (p : List Bd) (k j : Nat) (hk : k < 4) (hj : j < 9) : (bsV p)[k * 9 + j]? = (bdV (bat p k))[j]? := by
 match k, hk with
 | 0, _ => rw [Nat.zero_mul, Nat.zero_add, bsV, List.getElem?_append_left (by rw [bdV_len]; omega)]
 | 1, _ =>
  rw [bsV, List.getElem?_append_right (by rw [bdV_len]; omega), bdV_len, List.getElem?_append_left (by rw [bdV_len]; omega)]
  congr 1; omega
 | 2, _ =>
  rw [bsV, List.getElem?_append_right (by rw [bdV_len]; omega), bdV_len, List.getElem?_append_right (by rw [bdV_len]; omega), bdV_len, List.getElem?_append_left (by rw [bdV_len]; omega)]
  congr 1; omega
 | 3, _ =>
  rw [bsV, List.getElem?_append_right (by rw [bdV_len]; omega), bdV_len, List.getElem?_append_right (by rw [bdV_len]; omega), bdV_len, List.getElem?_append_right (by rw [bdV_len]; omega), bdV_len]
  congr 1; omega
theorem range_part {W : World} {b k : Nat} {p : List Bd} {t : TypeId} {fr : Nat × Nat} (h : W.heap[b]? = some (.cells (bsV p).toArray t fr)) (hk : k < 4) : W.rangeAt b (k * 9) (bdV (bat p k)) := fun j v hv => by
 have hj : j < 9 := by have := (List.getElem?_eq_some_iff.1 hv).1; simpa [bdV] using this
 simp only [World.cell?, h]
 rw [List.getElem?_toArray, bs_get p k j hk hj, hv]
 rfl
theorem bat_join {a b : List Bd} (ha : a.length = 4) (hb : b.length = 4) (k : Nat) (hk : k < 4) : bat (joinB a b) k = ⟨(bat a k).no && (bat b k).no, bif (bat a k).no then (bat a k).fi ||| (bat b k).fi else (bat a k).fi, bif (bat b k).no then (bat a k).la ||| (bat b k).la else (bat b k).la⟩ := by
 match a, b, ha, hb, k, hk with
 | [_, _, _, _], [_, _, _, _], _, _, 0, _ => rfl
 | [_, _, _, _], [_, _, _, _], _, _, 1, _ => rfl
 | [_, _, _, _], [_, _, _, _], _, _, 2, _ => rfl
 | [_, _, _, _], [_, _, _, _], _, _, 3, _ => rfl
def z9 : List Value := [.bool false, .int .u64 0, .int .u64 0, .int .u64 0, .int .u64 0, .int .u64 0, .int .u64 0, .int .u64 0, .int .u64 0]
def pfx (p : List Bd) : Nat → List Value
  | 0 => []
  | k + 1 => pfx p k ++ bdV (bat p k)
def zr : Nat → List Value
  | 0 => []
  | k + 1 => z9 ++ zr k
theorem pfx_len (p : List Bd) : ∀ k, (pfx p k).length = k * 9
  | 0 => rfl
  | k + 1 => by
    rw [pfx, List.length_append, pfx_len p k, bdV_len]
    omega
theorem pfx_four (p : List Bd) : pfx p 4 ++ zr 0 = bsV p := by simp [pfx, zr, bsV]
theorem zr_pos {k : Nat} (h : k < 4) : zr (4 - k) = z9 ++ zr (3 - k) := by
  rw [show 4 - k = (3 - k) + 1 by omega]
  rfl
theorem seg_cell {W : World} {b : Nat} {t : TypeId} {pre cs suf : List Value} (h : W.heap[b]? = some (.cells (pre ++ (cs ++ suf)).toArray t (0, 0))) {o : Nat} (ho : pre.length = o) (j : Nat) (v : Value) (hv : cs[j]? = some v) : W.cell? ⟨b, o + j, none⟩ = some v ∧ W.frozen? ⟨b, o + j, none⟩ = false := by
  have hj := (List.getElem?_eq_some_iff.1 hv).1
  refine ⟨?_, by simp [World.frozen?, h]⟩
  simp only [World.cell?, h]
  rw [List.getElem?_toArray, List.getElem?_append_right (by omega), show o + j - pre.length = j by omega, List.getElem?_append_left hj, hv]
  rfl
theorem set9_at {W : World} {b : Nat} {t : TypeId} {pre cs suf : List Value} (h : W.heap[b]? = some (.cells (pre ++ (cs ++ suf)).toArray t (0, 0))) {o : Nat} (ho : pre.length = o) (hc : cs.length = 9) (v0 v1 v2 v3 v4 v5 v6 v7 v8 : Value) : (set9 W b o v0 v1 v2 v3 v4 v5 v6 v7 v8).heap[b]? = some (.cells (pre ++ (([v0, v1, v2, v3, v4, v5, v6, v7, v8] : List Value) ++ suf)).toArray t (0, 0)) :=
  setCells_at b t (0, 0) [v0, v1, v2, v3, v4, v5, v6, v7, v8] pre cs suf W o h ho hc
theorem put4at_at {W : World} {b : Nat} {t : TypeId} {pre cs suf : List Value} (h : W.heap[b]? = some (.cells (pre ++ (cs ++ suf)).toArray t (0, 0))) {o : Nat} (ho : pre.length = o) (hc : cs.length = 4) (q : Nat) : (put4at W b o q).heap[b]? = some (.cells (pre ++ (([.int .u64 (wd (Nat.testBit q) 0 : Nat), .int .u64 (wd (Nat.testBit q) 1 : Nat), .int .u64 (wd (Nat.testBit q) 2 : Nat), .int .u64 (wd (Nat.testBit q) 3 : Nat)] : List Value) ++ suf)).toArray t (0, 0)) :=
  setCells_at b t (0, 0) [.int .u64 (wd (Nat.testBit q) 0 : Nat), .int .u64 (wd (Nat.testBit q) 1 : Nat), .int .u64 (wd (Nat.testBit q) 2 : Nat), .int .u64 (wd (Nat.testBit q) 3 : Nat)] pre cs suf W o h ho hc
theorem take_y {P : Program} {ops : Array Oper} {Q : Exit → Act → World → Prop} {S : World → Prop} {md : Region.Mode} (i : Nat) (d : Option Tmp) {oi : Oper} {v : Value} {fuel : Nat} {listed : Array Bool} {a : Act} {w : World} (hi : ops[i]? = some oi) (hd : oi.dst = d)
    (hs : Region.noSelect ops = true) (hf : Region.free md ops listed i = true) (hr : (Region.ready md ops listed).contains i = true)
    (hQ : ∀ c a w, Q (.panic c) (a.put d v) w → Q (.panic c) a w) (hS : S w) (hy : YieldsIf P ops S oi v a)
    (h : wpAnyH P md ops Q S fuel (listed.setIfInBounds i true) (a.put d v) w) : wpAnyH P md ops Q S (fuel + 1) listed a w := by
  subst hd
  exact wpAnyH_take hi hs hf hr hQ hy hS h
theorem op_of {P : Program} {ops : Array Oper} {Q : Exit → Act → World → Prop} {i : Nat} {o : Oper} {K : Act → World → Prop} {a : Act} {w : World} (hi : ops[i]? = some o) (hw : Region.wanted o (yielded ops a.tmps) = true) (h : o.wp P a w K Q) : wpOp P ops Q i K a w := by
  unfold wpOp
  rw [hi]
  dsimp only
  rw [if_pos hw]
  exact .inl h
theorem op_store {P : Program} {ops : Array Oper} {Q : Exit → Act → World → Prop} {i : Nat} {o : Oper} {K : Act → World → Prop} {a : Act} {w : World} (ty : TypeId) (r s b : Nat) (cs : List Value) (hi : ops[i]? = some o) (ho : o.op = .store ty (.tmp r) (.tmp s)) (hd : o.dst = none) (hg : o.guard = none) (hx : a.eval (.tmp r) = .pointer (some ⟨b, 0, none⟩)) (hy : a.eval (.tmp s) = .agg cs.toArray) (ht : w.there b 0 cs.length) (hz : (P.info? ty).map (·.size) = some cs.length) (h1 : cs.toArray.all (·.oneCell') = true) (h : K (a.put none undef) (w.setCells b 0 cs)) : wpOp P ops Q i K a w := by
  refine op_of hi (wanted_none hg _) (wp_store_mid ty _ _ ho b 0 cs.toArray hx hy (by rw [List.size_toArray]; exact ht) (by rw [List.size_toArray]; exact hz) h1 ?_)
  rw [hd]
  exact h
theorem wl_value {P : Program} {ops : Array Oper} {rest : List Oper} {Q : Exit → Act → World → Prop} {o : Oper} {a : Act} {w w' : World} {v : Value} (hg : o.guard = none) (hx : (execOp a.eval o).run P w = .ok (.value v) w') (h : wpList P ops Q rest (a.put o.dst v) w') : wpList P ops Q (o :: rest) a w :=
  wpList_plain hg fun K hK => by
    unfold Oper.wp
    rw [hx]
    exact hK _ _ h
theorem wl_call {P : Program} {ops : Array Oper} {rest : List Oper} {Q : Exit → Act → World → Prop} {o : Oper} {a : Act} {w : World} {f : FuncId} {args : Array Value} {R : Value → World → Prop} (hg : o.guard = none) (hx : (execOp a.eval o).run P w = .ok (.enter f args) w) (hc : Calls P f args w fun e w' => ∃ v, e = .returned v ∧ R v w') (h : ∀ v w', R v w' → wpList P ops Q rest (a.put o.dst v) w') : wpList P ops Q (o :: rest) a w :=
  wpList_plain hg fun K hK => by
    unfold Oper.wp
    rw [hx]
    refine Calls.mono hc ?_
    rintro e w' ⟨v, rfl, hR⟩
    exact hK _ _ (h v w' hR)
theorem seg_fs {pre suf : List Value} (v0 v1 v2 v3 v4 v5 v6 v7 v8 : Value) : pre ++ ([v0, v1, v2, v3, v4, v5, v6, v7, v8] ++ suf) = (pre ++ [v0]) ++ ([v1, v2, v3, v4] ++ ([v5, v6, v7, v8] ++ suf)) := by simp
theorem seg_ls {pre suf : List Value} (v0 v1 v2 v3 v4 v5 v6 v7 v8 : Value) : pre ++ ([v0, v1, v2, v3, v4, v5, v6, v7, v8] ++ suf) = (pre ++ [v0, v1, v2, v3, v4]) ++ ([v5, v6, v7, v8] ++ suf) := by simp
def JnR (w1 : World) (a a1 : List Bd) (k : Nat) (W : World) : Prop := Below w1.heap.size w1 W ∧ W.heap[w1.heap.size]? = some (.cells (pfx (joinB a a1) k ++ zr (4 - k)).toArray 161 (0, 0))
theorem jn_fin {w1 Z : World} {a a1 : List Bd} {k : Nat} (hk : k < 4) (hb : Below w1.heap.size w1 Z) {q r : Nat} {n : Bool} (h : Z.heap[w1.heap.size]? = some (.cells (pfx (joinB a a1) k ++ (((.bool n :: ([.int .u64 (wd (Nat.testBit q) 0 : Nat), .int .u64 (wd (Nat.testBit q) 1 : Nat), .int .u64 (wd (Nat.testBit q) 2 : Nat), .int .u64 (wd (Nat.testBit q) 3 : Nat)] ++ [.int .u64 (wd (Nat.testBit r) 0 : Nat), .int .u64 (wd (Nat.testBit r) 1 : Nat), .int .u64 (wd (Nat.testBit r) 2 : Nat), .int .u64 (wd (Nat.testBit r) 3 : Nat)])) : List Value) ++ zr (3 - k))).toArray 161 (0, 0))) (hn : n = (bat (joinB a a1) k).no) (hq : q = (bat (joinB a a1) k).fi) (hr : r = (bat (joinB a a1) k).la) : JnR w1 a a1 (k + 1) Z := by
 subst hn hq hr
 refine ⟨hb, ?_⟩
 rw [h, show 4 - (k + 1) = 3 - k by omega, pfx, List.append_assoc]
 rfl
theorem join_any {a a1 : List Bd} (ha : a.length = 4) (h1 : a1.length = 4) (w : World) : Calls Tryz.prog 94 #[.agg (bsV a).toArray, .agg (bsV a1).toArray] w fun e w' => e = .returned (.agg (bsV (joinB a a1)).toArray) ∧ Below w.heap.size w w' := by
  go_enter Tryz.func94, Tryz.ntmps94
  go_upto_region 1 with fail
  obtain ⟨w1, hX⟩ : ∃ w1, w1 = (((w.alloc (.cells (bsV a).toArray 161)).alloc (.cells (bsV a1).toArray 161)).alloc (.cells #[.bool false, .int .u64 0, .int .u64 0, .int .u64 0, .int .u64 0, .int .u64 0, .int .u64 0, .int .u64 0, .int .u64 0, .bool false, .int .u64 0, .int .u64 0, .int .u64 0, .int .u64 0, .int .u64 0, .int .u64 0, .int .u64 0, .int .u64 0, .bool false, .int .u64 0, .int .u64 0, .int .u64 0, .int .u64 0, .int .u64 0, .int .u64 0, .int .u64 0, .int .u64 0, .bool false, .int .u64 0, .int .u64 0, .int .u64 0, .int .u64 0, .int .u64 0, .int .u64 0, .int .u64 0, .int .u64 0] 161)) := ⟨_, rfl⟩
  rw [← hX]
  have nw := fun (W : World) (ob : Obj) (H : Nat) (hH : W.heap.size = H) => (show (W.alloc ob).heap[H]? = some ob from hH ▸ World.alloc_heap_new W ob)
  have hBX : Below w.heap.size w w1 := by
    rw [hX]
    exact (((Below.refl _ w).alloc (Nat.le_refl _) _).alloc (by simp only [World.size_alloc]; omega) _).alloc (by simp only [World.size_alloc]; omega) _
  have y0 : w1.heap[w.heap.size]? = some (.cells (bsV a).toArray 161 (0, 0)) := by
    rw [hX, Below.heap_alloc _ _ _ (by simp only [World.size_alloc]; omega), Below.heap_alloc _ _ _ (by simp only [World.size_alloc]; omega)]
    exact World.alloc_heap_new w _
  have y1 : w1.heap[w.heap.size + 1]? = some (.cells (bsV a1).toArray 161 (0, 0)) := by
    rw [hX, Below.heap_alloc _ _ _ (by simp only [World.size_alloc]; omega)]
    exact nw _ _ _ (by simp only [World.size_alloc])
  have y2 : w1.heap[w.heap.size + 1 + 1]? = some (.cells [.bool false, .int .u64 0, .int .u64 0, .int .u64 0, .int .u64 0, .int .u64 0, .int .u64 0, .int .u64 0, .int .u64 0, .bool false, .int .u64 0, .int .u64 0, .int .u64 0, .int .u64 0, .int .u64 0, .int .u64 0, .int .u64 0, .int .u64 0, .bool false, .int .u64 0, .int .u64 0, .int .u64 0, .int .u64 0, .int .u64 0, .int .u64 0, .int .u64 0, .int .u64 0, .bool false, .int .u64 0, .int .u64 0, .int .u64 0, .int .u64 0, .int .u64 0, .int .u64 0, .int .u64 0, .int .u64 0].toArray 161 (0, 0)) := by
    rw [hX]
    exact nw _ _ _ (by simp only [World.size_alloc])
  have hsz : w.heap.size + 1 + 1 < w1.heap.size := (Array.getElem?_eq_some_iff.1 y2).1
  clear hX nw
  go_wp2_with fail
  have hC0 : (w1.alloc (.cells #[.bool false, .int .u64 0, .int .u64 0, .int .u64 0, .int .u64 0, .int .u64 0, .int .u64 0, .int .u64 0, .int .u64 0, .bool false, .int .u64 0, .int .u64 0, .int .u64 0, .int .u64 0, .int .u64 0, .int .u64 0, .int .u64 0, .int .u64 0, .bool false, .int .u64 0, .int .u64 0, .int .u64 0, .int .u64 0, .int .u64 0, .int .u64 0, .int .u64 0, .int .u64 0, .bool false, .int .u64 0, .int .u64 0, .int .u64 0, .int .u64 0, .int .u64 0, .int .u64 0, .int .u64 0, .int .u64 0] 161)).heap[w1.heap.size]? = some (.cells (pfx (joinB a a1) 0 ++ zr (4 - 0)).toArray 161 (0, 0)) := World.alloc_heap_new w1 _
  have hB0 := (Below.refl w1.heap.size w1).alloc (Nat.le_refl _) (.cells #[.bool false, .int .u64 0, .int .u64 0, .int .u64 0, .int .u64 0, .int .u64 0, .int .u64 0, .int .u64 0, .int .u64 0, .bool false, .int .u64 0, .int .u64 0, .int .u64 0, .int .u64 0, .int .u64 0, .int .u64 0, .int .u64 0, .int .u64 0, .bool false, .int .u64 0, .int .u64 0, .int .u64 0, .int .u64 0, .int .u64 0, .int .u64 0, .int .u64 0, .int .u64 0, .bool false, .int .u64 0, .int .u64 0, .int .u64 0, .int .u64 0, .int .u64 0, .int .u64 0, .int .u64 0, .int .u64 0] 161)
  generalize w1.alloc (.cells #[.bool false, .int .u64 0, .int .u64 0, .int .u64 0, .int .u64 0, .int .u64 0, .int .u64 0, .int .u64 0, .int .u64 0, .bool false, .int .u64 0, .int .u64 0, .int .u64 0, .int .u64 0, .int .u64 0, .int .u64 0, .int .u64 0, .int .u64 0, .bool false, .int .u64 0, .int .u64 0, .int .u64 0, .int .u64 0, .int .u64 0, .int .u64 0, .int .u64 0, .int .u64 0, .bool false, .int .u64 0, .int .u64 0, .int .u64 0, .int .u64 0, .int .u64 0, .int .u64 0, .int .u64 0, .int .u64 0] 161) = W0 at *
  obtain ⟨ud, hud, hur⟩ := und_border
  go_loopw [9] (fun iv wq => ∃ k : Nat, k ≤ 4 ∧ iv = .int .i64 k ∧ JnR w1 a a1 k wq) (fun iv _ => (4 - intOf iv).toNat)
  case atStart => exact ⟨0, by omega, rfl, hB0, hC0⟩
  case round =>
    obtain ⟨k, hk1, rfl, hbw, hC⟩ := hrel
    by_cases hlt : k < 4
    · have hJk := bat_join ha h1 k hlt
      have a0 := (hbw.block _ (by omega)).trans y0
      have a1' := (hbw.block _ (by omega)).trans y1
      rw [zr_pos hlt] at hC
      have i1 : (k : Int) < 4 := by omega
      have i2 : (0 : Int) ≤ (k : Int) := by omega
      have hCw : w1.heap.size < wr.heap.size := (Array.getElem?_eq_some_iff.1 hC).1
      go_wp2_with fail
      rename_i K2 hK2
      refine wp_region_held (S := fun V => Below wr.heap.size wr V) (by kernel_rfl) ?_
      have hS0 : Below wr.heap.size wr wr.drew := (Below.refl _ _).drew
      refine' take_d 0 (some 12) rfl rfl (by kernel_rfl) (by kernel_rfl) (by kernel_rfl) (fun _ _ _ h => h) (by rfl) hS0 ?hy1 ?rest1
      case hy1 => intro V hV; go_simp; (try with_reducible rfl)
      refine' take_d 1 (some 13) rfl rfl (by kernel_rfl) (by kernel_rfl) (by kernel_rfl) (fun _ _ _ h => h) (by rfl) hS0 ?hy2 ?rest2
      case hy2 => intro V hV; go_simp; (try with_reducible rfl)
      refine take_y 2 (some 14) rfl rfl (by kernel_rfl) (by kernel_rfl) (by kernel_rfl) (fun _ _ _ h => h) hS0 (yieldsIf_load_mid (by rfl) 159 _ rfl (w.heap.size) (k * 9) rfl (bdV (bat a k)) ud (fun V hV => range_part ((Below.block hV _ ((Array.getElem?_eq_some_iff.1 a0).1)).trans a0) hlt) hud hur (by rw [info_border]; rfl)) ?_
      refine' take_d 3 (some 15) rfl rfl (by kernel_rfl) (by kernel_rfl) (by kernel_rfl) (fun _ _ _ h => h) (by rfl) hS0 ?hy3 ?rest3
      case hy3 => intro V hV; go_simp; (try with_reducible rfl)
      refine' take_d 4 (some 16) rfl rfl (by kernel_rfl) (by kernel_rfl) (by kernel_rfl) (fun _ _ _ h => h) (by rfl) hS0 ?hy4 ?rest4
      case hy4 => intro V hV; go_simp; (try with_reducible rfl)
      refine take_y 5 (some 17) rfl rfl (by kernel_rfl) (by kernel_rfl) (by kernel_rfl) (fun _ _ _ h => h) hS0 (yieldsIf_load_mid (by rfl) 159 _ rfl (w.heap.size + 1) (k * 9) rfl (bdV (bat a1 k)) ud (fun V hV => range_part ((Below.block hV _ ((Array.getElem?_eq_some_iff.1 a1').1)).trans a1') hlt) hud hur (by rw [info_border]; rfl)) ?_
      refine wpAnyH_all (rs := [6, 7]) (by kernel_rfl) (by simp) (fun i hi => ?_)
      have hc2 : i = 6 ∨ i = 7 := by simpa using hi
      have hA1 := hS0.alloc (Nat.le_refl _) (.cells #[.bool false, .int .u64 0, .int .u64 0, .int .u64 0, .int .u64 0, .int .u64 0, .int .u64 0, .int .u64 0, .int .u64 0] 159)
      have hA2 := hA1.alloc (by simp) (.cells #[.bool false, .int .u64 0, .int .u64 0, .int .u64 0, .int .u64 0, .int .u64 0, .int .u64 0, .int .u64 0, .int .u64 0] 159)
      have zb1 : ((wr.drew.alloc (.cells #[.bool false, .int .u64 0, .int .u64 0, .int .u64 0, .int .u64 0, .int .u64 0, .int .u64 0, .int .u64 0, .int .u64 0] 159)).alloc (.cells #[.bool false, .int .u64 0, .int .u64 0, .int .u64 0, .int .u64 0, .int .u64 0, .int .u64 0, .int .u64 0, .int .u64 0] 159)).heap[wr.heap.size]? = some (.cells z9.toArray 159 (0, 0)) := (Below.heap_alloc _ _ _ (by rw [World.size_alloc]; exact Nat.lt_succ_self _)).trans (World.alloc_heap_new wr.drew _)
      have zb2 : ((wr.drew.alloc (.cells #[.bool false, .int .u64 0, .int .u64 0, .int .u64 0, .int .u64 0, .int .u64 0, .int .u64 0, .int .u64 0, .int .u64 0] 159)).alloc (.cells #[.bool false, .int .u64 0, .int .u64 0, .int .u64 0, .int .u64 0, .int .u64 0, .int .u64 0, .int .u64 0, .int .u64 0] 159)).heap[wr.heap.size + 1]? = some (.cells z9.toArray 159 (0, 0)) := by
        have h := World.alloc_heap_new (wr.drew.alloc (.cells #[.bool false, .int .u64 0, .int .u64 0, .int .u64 0, .int .u64 0, .int .u64 0, .int .u64 0, .int .u64 0, .int .u64 0] 159)) (.cells #[.bool false, .int .u64 0, .int .u64 0, .int .u64 0, .int .u64 0, .int .u64 0, .int .u64 0, .int .u64 0, .int .u64 0] 159)
        rw [World.size_alloc] at h
        exact h
      rcases hc2 with rfl | rfl
      · refine op_value (some 7) rfl rfl (by rfl) (v := .pointer (some ⟨wr.heap.size, 0, none⟩)) (w' := wr.drew.alloc (.cells #[.bool false, .int .u64 0, .int .u64 0, .int .u64 0, .int .u64 0, .int .u64 0, .int .u64 0, .int .u64 0, .int .u64 0] 159)) (by clear a0 a1' hC; go_simp; (try with_reducible rfl)) ⟨hA1, ?_⟩
        refine wpAnyH_all (rs := [7]) (by kernel_rfl) (by simp) (fun i hi => ?_)
        obtain rfl : i = 7 := List.mem_singleton.1 hi
        refine op_value (some 8) rfl rfl (by rfl) (v := .pointer (some ⟨wr.heap.size + 1, 0, none⟩)) (w' := (wr.drew.alloc (.cells #[.bool false, .int .u64 0, .int .u64 0, .int .u64 0, .int .u64 0, .int .u64 0, .int .u64 0, .int .u64 0, .int .u64 0] 159)).alloc (.cells #[.bool false, .int .u64 0, .int .u64 0, .int .u64 0, .int .u64 0, .int .u64 0, .int .u64 0, .int .u64 0, .int .u64 0] 159)) (by clear a0 a1' hC; go_simp; (try with_reducible rfl)) ⟨hA2, ?_⟩
        generalize (wr.drew.alloc (.cells #[.bool false, .int .u64 0, .int .u64 0, .int .u64 0, .int .u64 0, .int .u64 0, .int .u64 0, .int .u64 0, .int .u64 0] 159)).alloc (.cells #[.bool false, .int .u64 0, .int .u64 0, .int .u64 0, .int .u64 0, .int .u64 0, .int .u64 0, .int .u64 0, .int .u64 0] 159) = Y0 at *
        simp only [Act.put, List.setIfInBounds_toArray, List.set_cons_zero, List.set_cons_succ]
        refine wpAnyH_all (rs := [8]) (by kernel_rfl) (by simp) (fun i hi => ?_)
        obtain rfl : i = 8 := List.mem_singleton.1 hi
        refine op_store 159 7 14 (wr.heap.size) (bdV (bat a k)) rfl rfl rfl rfl rfl rfl (there_block zb1 _ rfl) (by rw [info_border]; rfl) (bdV_one _) ?_
        refine And.intro (below_setCells _ (by omega) _ _ _ hA2) ?_
        refine wpAnyH_all (rs := [9]) (by kernel_rfl) (by simp) (fun i hi => ?_)
        obtain rfl : i = 9 := List.mem_singleton.1 hi
        have hA3 := below_setCells (wr.heap.size) (by omega) (bdV (bat a k)) Y0 0 hA2
        have yb1 := setCells_whole (bdV (bat a k)) zb1 rfl
        have yb2 : (Y0.setCells (wr.heap.size) 0 (bdV (bat a k))).heap[wr.heap.size + 1]? = _ := (setCells_far Y0 _ (by omega) _ _).trans zb2
        refine op_store 159 8 17 (wr.heap.size + 1) (bdV (bat a1 k)) rfl rfl rfl rfl rfl rfl (there_block yb2 _ rfl) (by rw [info_border]; rfl) (bdV_one _) ?_
        refine And.intro (below_setCells _ (by omega) _ _ _ hA3) ?_
        have hY := below_setCells (wr.heap.size + 1) (by omega) (bdV (bat a1 k)) _ 0 hA3
        have b9 := (setCells_far (Y0.setCells (wr.heap.size) 0 (bdV (bat a k))) (wr.heap.size + 1) (j := wr.heap.size) (by omega) (bdV (bat a1 k)) 0).trans yb1
        have b10 := setCells_whole (bdV (bat a1 k)) yb2 rfl
        refine wpAnyH_done (by kernel_rfl) ?_ _
        change ((Y0.setCells (wr.heap.size) 0 (bdV (bat a k))).setCells (wr.heap.size + 1) 0 (bdV (bat a1 k))).heap[wr.heap.size]? = some (.cells (bdV (bat a k)).toArray 159 (0, 0)) at b9
        show K2 _ ((Y0.setCells (wr.heap.size) 0 (bdV (bat a k))).setCells (wr.heap.size + 1) 0 (bdV (bat a1 k)))
        generalize (Y0.setCells (wr.heap.size) 0 (bdV (bat a k))).setCells (wr.heap.size + 1) 0 (bdV (bat a1 k)) = Y at *
        obtain ⟨P1, hP1⟩ : ∃ P1, P1 = wr.heap.size := ⟨_, rfl⟩
        obtain ⟨P2, hP2⟩ : ∃ P2, P2 = wr.heap.size + 1 := ⟨_, rfl⟩
        rw [← hP2] at b10 ⊢
        rw [← hP1] at b9 ⊢
        have hP1l : wr.heap.size ≤ P1 := by omega
        have hP2l : wr.heap.size ≤ P2 := by omega
        clear hP1 hP2 zb1 zb2 hA1 hA2 hA3 yb1 yb2 hS0
        refine hK2 _ _ ?_
        simp only [Act.put]
        have hCY := (hY.block _ hCw).trans hC
        have hYw := hbw.trans (hY.mono hbw.size)
        have nP1 : P1 ≠ w1.heap.size := by omega
        have nP2 : P2 ≠ w1.heap.size := by omega
        have hP1Y : P1 < Y.heap.size := (Array.getElem?_eq_some_iff.1 b9).1
        have hP2Y : P2 < Y.heap.size := (Array.getElem?_eq_some_iff.1 b10).1
        have hCs : w1.heap.size < Y.heap.size := (Array.getElem?_eq_some_iff.1 hCY).1
        have HOF := hideT (fun V => or_any (bat a k).fi (bat a1 k).fi V)
        have HOL := hideT (fun V => or_any (bat a k).la (bat a1 k).la V)
        have X0 : Y.cell? ⟨P1, 0, none⟩ = some (.bool (bat a k).no) := by simp [World.cell?, b9, bdV]
        have X1 : Y.cell? ⟨P1, 1, none⟩ = some (.int .u64 (wd (Nat.testBit (bat a k).fi) 0 : Nat)) := by simp [World.cell?, b9, bdV]
        have X2 : Y.cell? ⟨P1, 2, none⟩ = some (.int .u64 (wd (Nat.testBit (bat a k).fi) 1 : Nat)) := by simp [World.cell?, b9, bdV]
        have X3 : Y.cell? ⟨P1, 3, none⟩ = some (.int .u64 (wd (Nat.testBit (bat a k).fi) 2 : Nat)) := by simp [World.cell?, b9, bdV]
        have X4 : Y.cell? ⟨P1, 4, none⟩ = some (.int .u64 (wd (Nat.testBit (bat a k).fi) 3 : Nat)) := by simp [World.cell?, b9, bdV]
        have X5 : Y.cell? ⟨P1, 5, none⟩ = some (.int .u64 (wd (Nat.testBit (bat a k).la) 0 : Nat)) := by simp [World.cell?, b9, bdV]
        have X6 : Y.cell? ⟨P1, 6, none⟩ = some (.int .u64 (wd (Nat.testBit (bat a k).la) 1 : Nat)) := by simp [World.cell?, b9, bdV]
        have X7 : Y.cell? ⟨P1, 7, none⟩ = some (.int .u64 (wd (Nat.testBit (bat a k).la) 2 : Nat)) := by simp [World.cell?, b9, bdV]
        have X8 : Y.cell? ⟨P1, 8, none⟩ = some (.int .u64 (wd (Nat.testBit (bat a k).la) 3 : Nat)) := by simp [World.cell?, b9, bdV]
        have Y0' : Y.cell? ⟨P2, 0, none⟩ = some (.bool (bat a1 k).no) := by simp [World.cell?, b10, bdV]
        have Y1' : Y.cell? ⟨P2, 1, none⟩ = some (.int .u64 (wd (Nat.testBit (bat a1 k).fi) 0 : Nat)) := by simp [World.cell?, b10, bdV]
        have Y2' : Y.cell? ⟨P2, 2, none⟩ = some (.int .u64 (wd (Nat.testBit (bat a1 k).fi) 1 : Nat)) := by simp [World.cell?, b10, bdV]
        have Y3' : Y.cell? ⟨P2, 3, none⟩ = some (.int .u64 (wd (Nat.testBit (bat a1 k).fi) 2 : Nat)) := by simp [World.cell?, b10, bdV]
        have Y4' : Y.cell? ⟨P2, 4, none⟩ = some (.int .u64 (wd (Nat.testBit (bat a1 k).fi) 3 : Nat)) := by simp [World.cell?, b10, bdV]
        have Y5' : Y.cell? ⟨P2, 5, none⟩ = some (.int .u64 (wd (Nat.testBit (bat a1 k).la) 0 : Nat)) := by simp [World.cell?, b10, bdV]
        have Y6' : Y.cell? ⟨P2, 6, none⟩ = some (.int .u64 (wd (Nat.testBit (bat a1 k).la) 1 : Nat)) := by simp [World.cell?, b10, bdV]
        have Y7' : Y.cell? ⟨P2, 7, none⟩ = some (.int .u64 (wd (Nat.testBit (bat a1 k).la) 2 : Nat)) := by simp [World.cell?, b10, bdV]
        have Y8' : Y.cell? ⟨P2, 8, none⟩ = some (.int .u64 (wd (Nat.testBit (bat a1 k).la) 3 : Nat)) := by simp [World.cell?, b10, bdV]
        obtain ⟨C0, F0⟩ := seg_cell hCY (pfx_len (joinB a a1) k) 0 _ rfl
        obtain ⟨C1, F1⟩ := seg_cell hCY (pfx_len (joinB a a1) k) 1 _ rfl
        obtain ⟨C2, F2⟩ := seg_cell hCY (pfx_len (joinB a a1) k) 2 _ rfl
        obtain ⟨C3, F3⟩ := seg_cell hCY (pfx_len (joinB a a1) k) 3 _ rfl
        obtain ⟨C4, F4⟩ := seg_cell hCY (pfx_len (joinB a a1) k) 4 _ rfl
        obtain ⟨C5, F5⟩ := seg_cell hCY (pfx_len (joinB a a1) k) 5 _ rfl
        obtain ⟨C6, F6⟩ := seg_cell hCY (pfx_len (joinB a a1) k) 6 _ rfl
        obtain ⟨C7, F7⟩ := seg_cell hCY (pfx_len (joinB a a1) k) 7 _ rfl
        obtain ⟨C8, F8⟩ := seg_cell hCY (pfx_len (joinB a a1) k) 8 _ rfl
        rw [Nat.add_zero] at C0 F0
        cases hn1 : (bat a k).no
        · rw [hn1] at X0
          cases hn2 : (bat a1 k).no
          · rw [hn2] at Y0'
            have hV := set9_at hCY (pfx_len (joinB a a1) k) rfl (.bool false) (.int .u64 (wd (Nat.testBit (bat a k).fi) 0 : Nat)) (.int .u64 (wd (Nat.testBit (bat a k).fi) 1 : Nat)) (.int .u64 (wd (Nat.testBit (bat a k).fi) 2 : Nat)) (.int .u64 (wd (Nat.testBit (bat a k).fi) 3 : Nat)) (.int .u64 (wd (Nat.testBit (bat a1 k).la) 0 : Nat)) (.int .u64 (wd (Nat.testBit (bat a1 k).la) 1 : Nat)) (.int .u64 (wd (Nat.testBit (bat a1 k).la) 2 : Nat)) (.int .u64 (wd (Nat.testBit (bat a1 k).la) 3 : Nat))
            have hVb : Below w1.heap.size w1 (set9 Y w1.heap.size (k * 9) (.bool false) (.int .u64 (wd (Nat.testBit (bat a k).fi) 0 : Nat)) (.int .u64 (wd (Nat.testBit (bat a k).fi) 1 : Nat)) (.int .u64 (wd (Nat.testBit (bat a k).fi) 2 : Nat)) (.int .u64 (wd (Nat.testBit (bat a k).fi) 3 : Nat)) (.int .u64 (wd (Nat.testBit (bat a1 k).la) 0 : Nat)) (.int .u64 (wd (Nat.testBit (bat a1 k).la) 1 : Nat)) (.int .u64 (wd (Nat.testBit (bat a1 k).la) 2 : Nat)) (.int .u64 (wd (Nat.testBit (bat a1 k).la) 3 : Nat))) := below_setCells w1.heap.size (Nat.le_refl _) [.bool false, .int .u64 (wd (Nat.testBit (bat a k).fi) 0 : Nat), .int .u64 (wd (Nat.testBit (bat a k).fi) 1 : Nat), .int .u64 (wd (Nat.testBit (bat a k).fi) 2 : Nat), .int .u64 (wd (Nat.testBit (bat a k).fi) 3 : Nat), .int .u64 (wd (Nat.testBit (bat a1 k).la) 0 : Nat), .int .u64 (wd (Nat.testBit (bat a1 k).la) 1 : Nat), .int .u64 (wd (Nat.testBit (bat a1 k).la) 2 : Nat), .int .u64 (wd (Nat.testBit (bat a1 k).la) 3 : Nat)] Y (k * 9) hYw
            have hVs : (set9 Y w1.heap.size (k * 9) (.bool false) (.int .u64 (wd (Nat.testBit (bat a k).fi) 0 : Nat)) (.int .u64 (wd (Nat.testBit (bat a k).fi) 1 : Nat)) (.int .u64 (wd (Nat.testBit (bat a k).fi) 2 : Nat)) (.int .u64 (wd (Nat.testBit (bat a k).fi) 3 : Nat)) (.int .u64 (wd (Nat.testBit (bat a1 k).la) 0 : Nat)) (.int .u64 (wd (Nat.testBit (bat a1 k).la) 1 : Nat)) (.int .u64 (wd (Nat.testBit (bat a1 k).la) 2 : Nat)) (.int .u64 (wd (Nat.testBit (bat a1 k).la) 3 : Nat))).heap.size = Y.heap.size := setCells_size w1.heap.size [.bool false, .int .u64 (wd (Nat.testBit (bat a k).fi) 0 : Nat), .int .u64 (wd (Nat.testBit (bat a k).fi) 1 : Nat), .int .u64 (wd (Nat.testBit (bat a k).fi) 2 : Nat), .int .u64 (wd (Nat.testBit (bat a k).fi) 3 : Nat), .int .u64 (wd (Nat.testBit (bat a1 k).la) 0 : Nat), .int .u64 (wd (Nat.testBit (bat a1 k).la) 1 : Nat), .int .u64 (wd (Nat.testBit (bat a1 k).la) 2 : Nat), .int .u64 (wd (Nat.testBit (bat a1 k).la) 3 : Nat)] Y (k * 9)
            have hV9 : (set9 Y w1.heap.size (k * 9) (.bool false) (.int .u64 (wd (Nat.testBit (bat a k).fi) 0 : Nat)) (.int .u64 (wd (Nat.testBit (bat a k).fi) 1 : Nat)) (.int .u64 (wd (Nat.testBit (bat a k).fi) 2 : Nat)) (.int .u64 (wd (Nat.testBit (bat a k).fi) 3 : Nat)) (.int .u64 (wd (Nat.testBit (bat a1 k).la) 0 : Nat)) (.int .u64 (wd (Nat.testBit (bat a1 k).la) 1 : Nat)) (.int .u64 (wd (Nat.testBit (bat a1 k).la) 2 : Nat)) (.int .u64 (wd (Nat.testBit (bat a1 k).la) 3 : Nat))).heap[P1]? = _ := (setCells_far Y w1.heap.size nP1 [.bool false, .int .u64 (wd (Nat.testBit (bat a k).fi) 0 : Nat), .int .u64 (wd (Nat.testBit (bat a k).fi) 1 : Nat), .int .u64 (wd (Nat.testBit (bat a k).fi) 2 : Nat), .int .u64 (wd (Nat.testBit (bat a k).fi) 3 : Nat), .int .u64 (wd (Nat.testBit (bat a1 k).la) 0 : Nat), .int .u64 (wd (Nat.testBit (bat a1 k).la) 1 : Nat), .int .u64 (wd (Nat.testBit (bat a1 k).la) 2 : Nat), .int .u64 (wd (Nat.testBit (bat a1 k).la) 3 : Nat)] (k * 9)).trans b9
            have hV10 : (set9 Y w1.heap.size (k * 9) (.bool false) (.int .u64 (wd (Nat.testBit (bat a k).fi) 0 : Nat)) (.int .u64 (wd (Nat.testBit (bat a k).fi) 1 : Nat)) (.int .u64 (wd (Nat.testBit (bat a k).fi) 2 : Nat)) (.int .u64 (wd (Nat.testBit (bat a k).fi) 3 : Nat)) (.int .u64 (wd (Nat.testBit (bat a1 k).la) 0 : Nat)) (.int .u64 (wd (Nat.testBit (bat a1 k).la) 1 : Nat)) (.int .u64 (wd (Nat.testBit (bat a1 k).la) 2 : Nat)) (.int .u64 (wd (Nat.testBit (bat a1 k).la) 3 : Nat))).heap[P2]? = _ := (setCells_far Y w1.heap.size nP2 [.bool false, .int .u64 (wd (Nat.testBit (bat a k).fi) 0 : Nat), .int .u64 (wd (Nat.testBit (bat a k).fi) 1 : Nat), .int .u64 (wd (Nat.testBit (bat a k).fi) 2 : Nat), .int .u64 (wd (Nat.testBit (bat a k).fi) 3 : Nat), .int .u64 (wd (Nat.testBit (bat a1 k).la) 0 : Nat), .int .u64 (wd (Nat.testBit (bat a1 k).la) 1 : Nat), .int .u64 (wd (Nat.testBit (bat a1 k).la) 2 : Nat), .int .u64 (wd (Nat.testBit (bat a1 k).la) 3 : Nat)] (k * 9)).trans b10
            have HV := hideT (And.intro hV (And.intro hVb (And.intro hVs (And.intro hV9 hV10))))
            clear hV hVb hVs hV9 hV10 b9 b10 hCY hYw hY hC a0 a1'
            go_wp2
            exact ⟨⟨k + 1, by omega, by go_num, jn_fin hlt HV.out.2.1 HV.out.1 (by rw [hJk]; simp [hn1]) (by rw [hJk]; simp [hn1]) (by rw [hJk]; simp [hn2])⟩, by simp [intOf]; omega⟩
          · rw [hn2] at Y0'
            have hV := set9_at hCY (pfx_len (joinB a a1) k) rfl (.bool false) (.int .u64 (wd (Nat.testBit (bat a k).fi) 0 : Nat)) (.int .u64 (wd (Nat.testBit (bat a k).fi) 1 : Nat)) (.int .u64 (wd (Nat.testBit (bat a k).fi) 2 : Nat)) (.int .u64 (wd (Nat.testBit (bat a k).fi) 3 : Nat)) (.int .u64 (wd (Nat.testBit (bat a1 k).la) 0 : Nat)) (.int .u64 (wd (Nat.testBit (bat a1 k).la) 1 : Nat)) (.int .u64 (wd (Nat.testBit (bat a1 k).la) 2 : Nat)) (.int .u64 (wd (Nat.testBit (bat a1 k).la) 3 : Nat))
            have hVb : Below w1.heap.size w1 (set9 Y w1.heap.size (k * 9) (.bool false) (.int .u64 (wd (Nat.testBit (bat a k).fi) 0 : Nat)) (.int .u64 (wd (Nat.testBit (bat a k).fi) 1 : Nat)) (.int .u64 (wd (Nat.testBit (bat a k).fi) 2 : Nat)) (.int .u64 (wd (Nat.testBit (bat a k).fi) 3 : Nat)) (.int .u64 (wd (Nat.testBit (bat a1 k).la) 0 : Nat)) (.int .u64 (wd (Nat.testBit (bat a1 k).la) 1 : Nat)) (.int .u64 (wd (Nat.testBit (bat a1 k).la) 2 : Nat)) (.int .u64 (wd (Nat.testBit (bat a1 k).la) 3 : Nat))) := below_setCells w1.heap.size (Nat.le_refl _) [.bool false, .int .u64 (wd (Nat.testBit (bat a k).fi) 0 : Nat), .int .u64 (wd (Nat.testBit (bat a k).fi) 1 : Nat), .int .u64 (wd (Nat.testBit (bat a k).fi) 2 : Nat), .int .u64 (wd (Nat.testBit (bat a k).fi) 3 : Nat), .int .u64 (wd (Nat.testBit (bat a1 k).la) 0 : Nat), .int .u64 (wd (Nat.testBit (bat a1 k).la) 1 : Nat), .int .u64 (wd (Nat.testBit (bat a1 k).la) 2 : Nat), .int .u64 (wd (Nat.testBit (bat a1 k).la) 3 : Nat)] Y (k * 9) hYw
            have hVs : (set9 Y w1.heap.size (k * 9) (.bool false) (.int .u64 (wd (Nat.testBit (bat a k).fi) 0 : Nat)) (.int .u64 (wd (Nat.testBit (bat a k).fi) 1 : Nat)) (.int .u64 (wd (Nat.testBit (bat a k).fi) 2 : Nat)) (.int .u64 (wd (Nat.testBit (bat a k).fi) 3 : Nat)) (.int .u64 (wd (Nat.testBit (bat a1 k).la) 0 : Nat)) (.int .u64 (wd (Nat.testBit (bat a1 k).la) 1 : Nat)) (.int .u64 (wd (Nat.testBit (bat a1 k).la) 2 : Nat)) (.int .u64 (wd (Nat.testBit (bat a1 k).la) 3 : Nat))).heap.size = Y.heap.size := setCells_size w1.heap.size [.bool false, .int .u64 (wd (Nat.testBit (bat a k).fi) 0 : Nat), .int .u64 (wd (Nat.testBit (bat a k).fi) 1 : Nat), .int .u64 (wd (Nat.testBit (bat a k).fi) 2 : Nat), .int .u64 (wd (Nat.testBit (bat a k).fi) 3 : Nat), .int .u64 (wd (Nat.testBit (bat a1 k).la) 0 : Nat), .int .u64 (wd (Nat.testBit (bat a1 k).la) 1 : Nat), .int .u64 (wd (Nat.testBit (bat a1 k).la) 2 : Nat), .int .u64 (wd (Nat.testBit (bat a1 k).la) 3 : Nat)] Y (k * 9)
            have hV9 : (set9 Y w1.heap.size (k * 9) (.bool false) (.int .u64 (wd (Nat.testBit (bat a k).fi) 0 : Nat)) (.int .u64 (wd (Nat.testBit (bat a k).fi) 1 : Nat)) (.int .u64 (wd (Nat.testBit (bat a k).fi) 2 : Nat)) (.int .u64 (wd (Nat.testBit (bat a k).fi) 3 : Nat)) (.int .u64 (wd (Nat.testBit (bat a1 k).la) 0 : Nat)) (.int .u64 (wd (Nat.testBit (bat a1 k).la) 1 : Nat)) (.int .u64 (wd (Nat.testBit (bat a1 k).la) 2 : Nat)) (.int .u64 (wd (Nat.testBit (bat a1 k).la) 3 : Nat))).heap[P1]? = _ := (setCells_far Y w1.heap.size nP1 [.bool false, .int .u64 (wd (Nat.testBit (bat a k).fi) 0 : Nat), .int .u64 (wd (Nat.testBit (bat a k).fi) 1 : Nat), .int .u64 (wd (Nat.testBit (bat a k).fi) 2 : Nat), .int .u64 (wd (Nat.testBit (bat a k).fi) 3 : Nat), .int .u64 (wd (Nat.testBit (bat a1 k).la) 0 : Nat), .int .u64 (wd (Nat.testBit (bat a1 k).la) 1 : Nat), .int .u64 (wd (Nat.testBit (bat a1 k).la) 2 : Nat), .int .u64 (wd (Nat.testBit (bat a1 k).la) 3 : Nat)] (k * 9)).trans b9
            have hV10 : (set9 Y w1.heap.size (k * 9) (.bool false) (.int .u64 (wd (Nat.testBit (bat a k).fi) 0 : Nat)) (.int .u64 (wd (Nat.testBit (bat a k).fi) 1 : Nat)) (.int .u64 (wd (Nat.testBit (bat a k).fi) 2 : Nat)) (.int .u64 (wd (Nat.testBit (bat a k).fi) 3 : Nat)) (.int .u64 (wd (Nat.testBit (bat a1 k).la) 0 : Nat)) (.int .u64 (wd (Nat.testBit (bat a1 k).la) 1 : Nat)) (.int .u64 (wd (Nat.testBit (bat a1 k).la) 2 : Nat)) (.int .u64 (wd (Nat.testBit (bat a1 k).la) 3 : Nat))).heap[P2]? = _ := (setCells_far Y w1.heap.size nP2 [.bool false, .int .u64 (wd (Nat.testBit (bat a k).fi) 0 : Nat), .int .u64 (wd (Nat.testBit (bat a k).fi) 1 : Nat), .int .u64 (wd (Nat.testBit (bat a k).fi) 2 : Nat), .int .u64 (wd (Nat.testBit (bat a k).fi) 3 : Nat), .int .u64 (wd (Nat.testBit (bat a1 k).la) 0 : Nat), .int .u64 (wd (Nat.testBit (bat a1 k).la) 1 : Nat), .int .u64 (wd (Nat.testBit (bat a1 k).la) 2 : Nat), .int .u64 (wd (Nat.testBit (bat a1 k).la) 3 : Nat)] (k * 9)).trans b10
            have HV := hideT (And.intro hV (And.intro hVb (And.intro hVs (And.intro hV9 hV10))))
            clear hV hVb hVs hV9 hV10 b9 b10 hCY hYw hY hC a0 a1'
            go_wp2_with fail
            refine (HOL.out _).mono ?_
            rintro e W2 ⟨rfl, hb2⟩
            have hC2 := (hb2.block _ (by rw [HV.out.2.2.1]; omega)).trans HV.out.1
            rw [seg_ls] at hC2
            have hp2 : (pfx (joinB a a1) k ++ [Value.bool false, .int .u64 (wd (Nat.testBit (bat a k).fi) 0 : Nat), .int .u64 (wd (Nat.testBit (bat a k).fi) 1 : Nat), .int .u64 (wd (Nat.testBit (bat a k).fi) 2 : Nat), .int .u64 (wd (Nat.testBit (bat a k).fi) 3 : Nat)]).length = k * 9 + 5 := by rw [List.length_append, pfx_len]; rfl
            have hZ := put4at_at hC2 hp2 rfl ((bat a k).la ||| (bat a1 k).la)
            have hZb : Below w1.heap.size w1 (put4at W2 w1.heap.size (k * 9 + 5) ((bat a k).la ||| (bat a1 k).la)) := below_setCells w1.heap.size (Nat.le_refl _) [.int .u64 (wd (Nat.testBit ((bat a k).la ||| (bat a1 k).la)) 0 : Nat), .int .u64 (wd (Nat.testBit ((bat a k).la ||| (bat a1 k).la)) 1 : Nat), .int .u64 (wd (Nat.testBit ((bat a k).la ||| (bat a1 k).la)) 2 : Nat), .int .u64 (wd (Nat.testBit ((bat a k).la ||| (bat a1 k).la)) 3 : Nat)] W2 (k * 9 + 5) (HV.out.2.1.trans (hb2.mono HV.out.2.1.size))
            obtain ⟨c0, f0⟩ := seg_cell hC2 hp2 0 _ rfl
            obtain ⟨c1, f1⟩ := seg_cell hC2 hp2 1 _ rfl
            obtain ⟨c2, f2⟩ := seg_cell hC2 hp2 2 _ rfl
            obtain ⟨c3, f3⟩ := seg_cell hC2 hp2 3 _ rfl
            rw [Nat.add_zero] at c0 f0
            have HZ := hideT (And.intro hZ hZb)
            clear hZ hZb hC2 hp2 hb2 HV X0 X1 X2 X3 X4 X5 X6 X7 X8 Y0' Y1' Y2' Y3' Y4' Y5' Y6' Y7' Y8' C0 C1 C2 C3 C4 C5 C6 C7 C8 F0 F1 F2 F3 F4 F5 F6 F7 F8
            go_wp2
            exact ⟨⟨k + 1, by omega, by go_num, jn_fin hlt HZ.out.2 (HZ.out.1.trans (by rw [List.append_assoc]; rfl)) (by rw [hJk]; simp [hn1]) (by rw [hJk]; simp [hn1]) (by rw [hJk]; simp [hn2])⟩, by simp [intOf]; omega⟩
        · rw [hn1] at X0
          cases hn2 : (bat a1 k).no
          · rw [hn2] at Y0'
            have hV := set9_at hCY (pfx_len (joinB a a1) k) rfl (.bool false) (.int .u64 (wd (Nat.testBit (bat a k).fi) 0 : Nat)) (.int .u64 (wd (Nat.testBit (bat a k).fi) 1 : Nat)) (.int .u64 (wd (Nat.testBit (bat a k).fi) 2 : Nat)) (.int .u64 (wd (Nat.testBit (bat a k).fi) 3 : Nat)) (.int .u64 (wd (Nat.testBit (bat a1 k).la) 0 : Nat)) (.int .u64 (wd (Nat.testBit (bat a1 k).la) 1 : Nat)) (.int .u64 (wd (Nat.testBit (bat a1 k).la) 2 : Nat)) (.int .u64 (wd (Nat.testBit (bat a1 k).la) 3 : Nat))
            have hVb : Below w1.heap.size w1 (set9 Y w1.heap.size (k * 9) (.bool false) (.int .u64 (wd (Nat.testBit (bat a k).fi) 0 : Nat)) (.int .u64 (wd (Nat.testBit (bat a k).fi) 1 : Nat)) (.int .u64 (wd (Nat.testBit (bat a k).fi) 2 : Nat)) (.int .u64 (wd (Nat.testBit (bat a k).fi) 3 : Nat)) (.int .u64 (wd (Nat.testBit (bat a1 k).la) 0 : Nat)) (.int .u64 (wd (Nat.testBit (bat a1 k).la) 1 : Nat)) (.int .u64 (wd (Nat.testBit (bat a1 k).la) 2 : Nat)) (.int .u64 (wd (Nat.testBit (bat a1 k).la) 3 : Nat))) := below_setCells w1.heap.size (Nat.le_refl _) [.bool false, .int .u64 (wd (Nat.testBit (bat a k).fi) 0 : Nat), .int .u64 (wd (Nat.testBit (bat a k).fi) 1 : Nat), .int .u64 (wd (Nat.testBit (bat a k).fi) 2 : Nat), .int .u64 (wd (Nat.testBit (bat a k).fi) 3 : Nat), .int .u64 (wd (Nat.testBit (bat a1 k).la) 0 : Nat), .int .u64 (wd (Nat.testBit (bat a1 k).la) 1 : Nat), .int .u64 (wd (Nat.testBit (bat a1 k).la) 2 : Nat), .int .u64 (wd (Nat.testBit (bat a1 k).la) 3 : Nat)] Y (k * 9) hYw
            have hVs : (set9 Y w1.heap.size (k * 9) (.bool false) (.int .u64 (wd (Nat.testBit (bat a k).fi) 0 : Nat)) (.int .u64 (wd (Nat.testBit (bat a k).fi) 1 : Nat)) (.int .u64 (wd (Nat.testBit (bat a k).fi) 2 : Nat)) (.int .u64 (wd (Nat.testBit (bat a k).fi) 3 : Nat)) (.int .u64 (wd (Nat.testBit (bat a1 k).la) 0 : Nat)) (.int .u64 (wd (Nat.testBit (bat a1 k).la) 1 : Nat)) (.int .u64 (wd (Nat.testBit (bat a1 k).la) 2 : Nat)) (.int .u64 (wd (Nat.testBit (bat a1 k).la) 3 : Nat))).heap.size = Y.heap.size := setCells_size w1.heap.size [.bool false, .int .u64 (wd (Nat.testBit (bat a k).fi) 0 : Nat), .int .u64 (wd (Nat.testBit (bat a k).fi) 1 : Nat), .int .u64 (wd (Nat.testBit (bat a k).fi) 2 : Nat), .int .u64 (wd (Nat.testBit (bat a k).fi) 3 : Nat), .int .u64 (wd (Nat.testBit (bat a1 k).la) 0 : Nat), .int .u64 (wd (Nat.testBit (bat a1 k).la) 1 : Nat), .int .u64 (wd (Nat.testBit (bat a1 k).la) 2 : Nat), .int .u64 (wd (Nat.testBit (bat a1 k).la) 3 : Nat)] Y (k * 9)
            have hV9 : (set9 Y w1.heap.size (k * 9) (.bool false) (.int .u64 (wd (Nat.testBit (bat a k).fi) 0 : Nat)) (.int .u64 (wd (Nat.testBit (bat a k).fi) 1 : Nat)) (.int .u64 (wd (Nat.testBit (bat a k).fi) 2 : Nat)) (.int .u64 (wd (Nat.testBit (bat a k).fi) 3 : Nat)) (.int .u64 (wd (Nat.testBit (bat a1 k).la) 0 : Nat)) (.int .u64 (wd (Nat.testBit (bat a1 k).la) 1 : Nat)) (.int .u64 (wd (Nat.testBit (bat a1 k).la) 2 : Nat)) (.int .u64 (wd (Nat.testBit (bat a1 k).la) 3 : Nat))).heap[P1]? = _ := (setCells_far Y w1.heap.size nP1 [.bool false, .int .u64 (wd (Nat.testBit (bat a k).fi) 0 : Nat), .int .u64 (wd (Nat.testBit (bat a k).fi) 1 : Nat), .int .u64 (wd (Nat.testBit (bat a k).fi) 2 : Nat), .int .u64 (wd (Nat.testBit (bat a k).fi) 3 : Nat), .int .u64 (wd (Nat.testBit (bat a1 k).la) 0 : Nat), .int .u64 (wd (Nat.testBit (bat a1 k).la) 1 : Nat), .int .u64 (wd (Nat.testBit (bat a1 k).la) 2 : Nat), .int .u64 (wd (Nat.testBit (bat a1 k).la) 3 : Nat)] (k * 9)).trans b9
            have hV10 : (set9 Y w1.heap.size (k * 9) (.bool false) (.int .u64 (wd (Nat.testBit (bat a k).fi) 0 : Nat)) (.int .u64 (wd (Nat.testBit (bat a k).fi) 1 : Nat)) (.int .u64 (wd (Nat.testBit (bat a k).fi) 2 : Nat)) (.int .u64 (wd (Nat.testBit (bat a k).fi) 3 : Nat)) (.int .u64 (wd (Nat.testBit (bat a1 k).la) 0 : Nat)) (.int .u64 (wd (Nat.testBit (bat a1 k).la) 1 : Nat)) (.int .u64 (wd (Nat.testBit (bat a1 k).la) 2 : Nat)) (.int .u64 (wd (Nat.testBit (bat a1 k).la) 3 : Nat))).heap[P2]? = _ := (setCells_far Y w1.heap.size nP2 [.bool false, .int .u64 (wd (Nat.testBit (bat a k).fi) 0 : Nat), .int .u64 (wd (Nat.testBit (bat a k).fi) 1 : Nat), .int .u64 (wd (Nat.testBit (bat a k).fi) 2 : Nat), .int .u64 (wd (Nat.testBit (bat a k).fi) 3 : Nat), .int .u64 (wd (Nat.testBit (bat a1 k).la) 0 : Nat), .int .u64 (wd (Nat.testBit (bat a1 k).la) 1 : Nat), .int .u64 (wd (Nat.testBit (bat a1 k).la) 2 : Nat), .int .u64 (wd (Nat.testBit (bat a1 k).la) 3 : Nat)] (k * 9)).trans b10
            have HV := hideT (And.intro hV (And.intro hVb (And.intro hVs (And.intro hV9 hV10))))
            clear hV hVb hVs hV9 hV10 b9 b10 hCY hYw hY hC a0 a1'
            go_wp2_with fail
            refine (HOF.out _).mono ?_
            rintro e W2 ⟨rfl, hb2⟩
            have hC2 := (hb2.block _ (by rw [HV.out.2.2.1]; omega)).trans HV.out.1
            rw [seg_fs] at hC2
            have hp2 : (pfx (joinB a a1) k ++ [Value.bool false]).length = k * 9 + 1 := by rw [List.length_append, pfx_len]; rfl
            have hZ := put4at_at hC2 hp2 rfl ((bat a k).fi ||| (bat a1 k).fi)
            have hZb : Below w1.heap.size w1 (put4at W2 w1.heap.size (k * 9 + 1) ((bat a k).fi ||| (bat a1 k).fi)) := below_setCells w1.heap.size (Nat.le_refl _) [.int .u64 (wd (Nat.testBit ((bat a k).fi ||| (bat a1 k).fi)) 0 : Nat), .int .u64 (wd (Nat.testBit ((bat a k).fi ||| (bat a1 k).fi)) 1 : Nat), .int .u64 (wd (Nat.testBit ((bat a k).fi ||| (bat a1 k).fi)) 2 : Nat), .int .u64 (wd (Nat.testBit ((bat a k).fi ||| (bat a1 k).fi)) 3 : Nat)] W2 (k * 9 + 1) (HV.out.2.1.trans (hb2.mono HV.out.2.1.size))
            have hZs : (put4at W2 w1.heap.size (k * 9 + 1) ((bat a k).fi ||| (bat a1 k).fi)).heap.size = W2.heap.size := put4at_size _ _ _ _
            have hZ9 := (put4at_far W2 w1.heap.size (k * 9 + 1) ((bat a k).fi ||| (bat a1 k).fi) nP1).trans ((hb2.block _ (by rw [HV.out.2.2.1]; exact hP1Y)).trans HV.out.2.2.2.1)
            have hZ10 := (put4at_far W2 w1.heap.size (k * 9 + 1) ((bat a k).fi ||| (bat a1 k).fi) nP2).trans ((hb2.block _ (by rw [HV.out.2.2.1]; exact hP2Y)).trans HV.out.2.2.2.2)
            have hs2 := hb2.size
            rw [HV.out.2.2.1] at hs2
            obtain ⟨c0, f0⟩ := seg_cell hC2 hp2 0 _ rfl
            obtain ⟨c1, f1⟩ := seg_cell hC2 hp2 1 _ rfl
            obtain ⟨c2, f2⟩ := seg_cell hC2 hp2 2 _ rfl
            obtain ⟨c3, f3⟩ := seg_cell hC2 hp2 3 _ rfl
            rw [Nat.add_zero] at c0 f0
            have g0 := (hb2.block P2 (by rw [HV.out.2.2.1]; exact hP2Y)).trans HV.out.2.2.2.2
            have g9 := (hb2.block P1 (by rw [HV.out.2.2.1]; exact hP1Y)).trans HV.out.2.2.2.1
            have r0 : W2.cell? ⟨P2, 0, none⟩ = some (.bool false) := by simp [World.cell?, g0, bdV, hn2]
            have u0 : W2.cell? ⟨P2, 5, none⟩ = some (.int .u64 (wd (Nat.testBit (bat a1 k).la) 0 : Nat)) := by simp [World.cell?, g0, bdV]
            have t0 : W2.cell? ⟨P1, 5, none⟩ = some (.int .u64 (wd (Nat.testBit (bat a k).la) 0 : Nat)) := by simp [World.cell?, g9, bdV]
            have u1 : W2.cell? ⟨P2, 6, none⟩ = some (.int .u64 (wd (Nat.testBit (bat a1 k).la) 1 : Nat)) := by simp [World.cell?, g0, bdV]
            have t1 : W2.cell? ⟨P1, 6, none⟩ = some (.int .u64 (wd (Nat.testBit (bat a k).la) 1 : Nat)) := by simp [World.cell?, g9, bdV]
            have u2 : W2.cell? ⟨P2, 7, none⟩ = some (.int .u64 (wd (Nat.testBit (bat a1 k).la) 2 : Nat)) := by simp [World.cell?, g0, bdV]
            have t2 : W2.cell? ⟨P1, 7, none⟩ = some (.int .u64 (wd (Nat.testBit (bat a k).la) 2 : Nat)) := by simp [World.cell?, g9, bdV]
            have u3 : W2.cell? ⟨P2, 8, none⟩ = some (.int .u64 (wd (Nat.testBit (bat a1 k).la) 3 : Nat)) := by simp [World.cell?, g0, bdV]
            have t3 : W2.cell? ⟨P1, 8, none⟩ = some (.int .u64 (wd (Nat.testBit (bat a k).la) 3 : Nat)) := by simp [World.cell?, g9, bdV]
            have HZ := hideT (And.intro hZ (And.intro hZb (And.intro hZs (And.intro hZ9 (And.intro hZ10 hs2)))))
            clear hZ hZb hZs hZ9 hZ10 hC2 hp2 hb2 g0 g9 HV hs2 X0 X1 X2 X3 X4 X5 X6 X7 X8 Y0' Y1' Y2' Y3' Y4' Y5' Y6' Y7' Y8' C0 C1 C2 C3 C4 C5 C6 C7 C8 F0 F1 F2 F3 F4 F5 F6 F7 F8
            go_wp2
            exact ⟨⟨k + 1, by omega, by go_num, jn_fin hlt HZ.out.2.1 (HZ.out.1.trans (by rw [List.append_assoc]; rfl)) (by rw [hJk]; simp [hn2]) (by rw [hJk]; simp [hn1]) (by rw [hJk]; simp [hn2])⟩, by simp [intOf]; omega⟩
          · rw [hn2] at Y0'
            have hV := set9_at hCY (pfx_len (joinB a a1) k) rfl (.bool true) (.int .u64 (wd (Nat.testBit (bat a k).fi) 0 : Nat)) (.int .u64 (wd (Nat.testBit (bat a k).fi) 1 : Nat)) (.int .u64 (wd (Nat.testBit (bat a k).fi) 2 : Nat)) (.int .u64 (wd (Nat.testBit (bat a k).fi) 3 : Nat)) (.int .u64 (wd (Nat.testBit (bat a1 k).la) 0 : Nat)) (.int .u64 (wd (Nat.testBit (bat a1 k).la) 1 : Nat)) (.int .u64 (wd (Nat.testBit (bat a1 k).la) 2 : Nat)) (.int .u64 (wd (Nat.testBit (bat a1 k).la) 3 : Nat))
            have hVb : Below w1.heap.size w1 (set9 Y w1.heap.size (k * 9) (.bool true) (.int .u64 (wd (Nat.testBit (bat a k).fi) 0 : Nat)) (.int .u64 (wd (Nat.testBit (bat a k).fi) 1 : Nat)) (.int .u64 (wd (Nat.testBit (bat a k).fi) 2 : Nat)) (.int .u64 (wd (Nat.testBit (bat a k).fi) 3 : Nat)) (.int .u64 (wd (Nat.testBit (bat a1 k).la) 0 : Nat)) (.int .u64 (wd (Nat.testBit (bat a1 k).la) 1 : Nat)) (.int .u64 (wd (Nat.testBit (bat a1 k).la) 2 : Nat)) (.int .u64 (wd (Nat.testBit (bat a1 k).la) 3 : Nat))) := below_setCells w1.heap.size (Nat.le_refl _) [.bool true, .int .u64 (wd (Nat.testBit (bat a k).fi) 0 : Nat), .int .u64 (wd (Nat.testBit (bat a k).fi) 1 : Nat), .int .u64 (wd (Nat.testBit (bat a k).fi) 2 : Nat), .int .u64 (wd (Nat.testBit (bat a k).fi) 3 : Nat), .int .u64 (wd (Nat.testBit (bat a1 k).la) 0 : Nat), .int .u64 (wd (Nat.testBit (bat a1 k).la) 1 : Nat), .int .u64 (wd (Nat.testBit (bat a1 k).la) 2 : Nat), .int .u64 (wd (Nat.testBit (bat a1 k).la) 3 : Nat)] Y (k * 9) hYw
            have hVs : (set9 Y w1.heap.size (k * 9) (.bool true) (.int .u64 (wd (Nat.testBit (bat a k).fi) 0 : Nat)) (.int .u64 (wd (Nat.testBit (bat a k).fi) 1 : Nat)) (.int .u64 (wd (Nat.testBit (bat a k).fi) 2 : Nat)) (.int .u64 (wd (Nat.testBit (bat a k).fi) 3 : Nat)) (.int .u64 (wd (Nat.testBit (bat a1 k).la) 0 : Nat)) (.int .u64 (wd (Nat.testBit (bat a1 k).la) 1 : Nat)) (.int .u64 (wd (Nat.testBit (bat a1 k).la) 2 : Nat)) (.int .u64 (wd (Nat.testBit (bat a1 k).la) 3 : Nat))).heap.size = Y.heap.size := setCells_size w1.heap.size [.bool true, .int .u64 (wd (Nat.testBit (bat a k).fi) 0 : Nat), .int .u64 (wd (Nat.testBit (bat a k).fi) 1 : Nat), .int .u64 (wd (Nat.testBit (bat a k).fi) 2 : Nat), .int .u64 (wd (Nat.testBit (bat a k).fi) 3 : Nat), .int .u64 (wd (Nat.testBit (bat a1 k).la) 0 : Nat), .int .u64 (wd (Nat.testBit (bat a1 k).la) 1 : Nat), .int .u64 (wd (Nat.testBit (bat a1 k).la) 2 : Nat), .int .u64 (wd (Nat.testBit (bat a1 k).la) 3 : Nat)] Y (k * 9)
            have hV9 : (set9 Y w1.heap.size (k * 9) (.bool true) (.int .u64 (wd (Nat.testBit (bat a k).fi) 0 : Nat)) (.int .u64 (wd (Nat.testBit (bat a k).fi) 1 : Nat)) (.int .u64 (wd (Nat.testBit (bat a k).fi) 2 : Nat)) (.int .u64 (wd (Nat.testBit (bat a k).fi) 3 : Nat)) (.int .u64 (wd (Nat.testBit (bat a1 k).la) 0 : Nat)) (.int .u64 (wd (Nat.testBit (bat a1 k).la) 1 : Nat)) (.int .u64 (wd (Nat.testBit (bat a1 k).la) 2 : Nat)) (.int .u64 (wd (Nat.testBit (bat a1 k).la) 3 : Nat))).heap[P1]? = _ := (setCells_far Y w1.heap.size nP1 [.bool true, .int .u64 (wd (Nat.testBit (bat a k).fi) 0 : Nat), .int .u64 (wd (Nat.testBit (bat a k).fi) 1 : Nat), .int .u64 (wd (Nat.testBit (bat a k).fi) 2 : Nat), .int .u64 (wd (Nat.testBit (bat a k).fi) 3 : Nat), .int .u64 (wd (Nat.testBit (bat a1 k).la) 0 : Nat), .int .u64 (wd (Nat.testBit (bat a1 k).la) 1 : Nat), .int .u64 (wd (Nat.testBit (bat a1 k).la) 2 : Nat), .int .u64 (wd (Nat.testBit (bat a1 k).la) 3 : Nat)] (k * 9)).trans b9
            have hV10 : (set9 Y w1.heap.size (k * 9) (.bool true) (.int .u64 (wd (Nat.testBit (bat a k).fi) 0 : Nat)) (.int .u64 (wd (Nat.testBit (bat a k).fi) 1 : Nat)) (.int .u64 (wd (Nat.testBit (bat a k).fi) 2 : Nat)) (.int .u64 (wd (Nat.testBit (bat a k).fi) 3 : Nat)) (.int .u64 (wd (Nat.testBit (bat a1 k).la) 0 : Nat)) (.int .u64 (wd (Nat.testBit (bat a1 k).la) 1 : Nat)) (.int .u64 (wd (Nat.testBit (bat a1 k).la) 2 : Nat)) (.int .u64 (wd (Nat.testBit (bat a1 k).la) 3 : Nat))).heap[P2]? = _ := (setCells_far Y w1.heap.size nP2 [.bool true, .int .u64 (wd (Nat.testBit (bat a k).fi) 0 : Nat), .int .u64 (wd (Nat.testBit (bat a k).fi) 1 : Nat), .int .u64 (wd (Nat.testBit (bat a k).fi) 2 : Nat), .int .u64 (wd (Nat.testBit (bat a k).fi) 3 : Nat), .int .u64 (wd (Nat.testBit (bat a1 k).la) 0 : Nat), .int .u64 (wd (Nat.testBit (bat a1 k).la) 1 : Nat), .int .u64 (wd (Nat.testBit (bat a1 k).la) 2 : Nat), .int .u64 (wd (Nat.testBit (bat a1 k).la) 3 : Nat)] (k * 9)).trans b10
            have HV := hideT (And.intro hV (And.intro hVb (And.intro hVs (And.intro hV9 hV10))))
            clear hV hVb hVs hV9 hV10 b9 b10 hCY hYw hY hC a0 a1'
            go_wp2_with fail
            refine (HOF.out _).mono ?_
            rintro e W2 ⟨rfl, hb2⟩
            have hC2 := (hb2.block _ (by rw [HV.out.2.2.1]; omega)).trans HV.out.1
            rw [seg_fs] at hC2
            have hp2 : (pfx (joinB a a1) k ++ [Value.bool true]).length = k * 9 + 1 := by rw [List.length_append, pfx_len]; rfl
            have hZ := put4at_at hC2 hp2 rfl ((bat a k).fi ||| (bat a1 k).fi)
            have hZb : Below w1.heap.size w1 (put4at W2 w1.heap.size (k * 9 + 1) ((bat a k).fi ||| (bat a1 k).fi)) := below_setCells w1.heap.size (Nat.le_refl _) [.int .u64 (wd (Nat.testBit ((bat a k).fi ||| (bat a1 k).fi)) 0 : Nat), .int .u64 (wd (Nat.testBit ((bat a k).fi ||| (bat a1 k).fi)) 1 : Nat), .int .u64 (wd (Nat.testBit ((bat a k).fi ||| (bat a1 k).fi)) 2 : Nat), .int .u64 (wd (Nat.testBit ((bat a k).fi ||| (bat a1 k).fi)) 3 : Nat)] W2 (k * 9 + 1) (HV.out.2.1.trans (hb2.mono HV.out.2.1.size))
            have hZs : (put4at W2 w1.heap.size (k * 9 + 1) ((bat a k).fi ||| (bat a1 k).fi)).heap.size = W2.heap.size := put4at_size _ _ _ _
            have hZ9 := (put4at_far W2 w1.heap.size (k * 9 + 1) ((bat a k).fi ||| (bat a1 k).fi) nP1).trans ((hb2.block _ (by rw [HV.out.2.2.1]; exact hP1Y)).trans HV.out.2.2.2.1)
            have hZ10 := (put4at_far W2 w1.heap.size (k * 9 + 1) ((bat a k).fi ||| (bat a1 k).fi) nP2).trans ((hb2.block _ (by rw [HV.out.2.2.1]; exact hP2Y)).trans HV.out.2.2.2.2)
            have hs2 := hb2.size
            rw [HV.out.2.2.1] at hs2
            obtain ⟨c0, f0⟩ := seg_cell hC2 hp2 0 _ rfl
            obtain ⟨c1, f1⟩ := seg_cell hC2 hp2 1 _ rfl
            obtain ⟨c2, f2⟩ := seg_cell hC2 hp2 2 _ rfl
            obtain ⟨c3, f3⟩ := seg_cell hC2 hp2 3 _ rfl
            rw [Nat.add_zero] at c0 f0
            have g0 := (hb2.block P2 (by rw [HV.out.2.2.1]; exact hP2Y)).trans HV.out.2.2.2.2
            have g9 := (hb2.block P1 (by rw [HV.out.2.2.1]; exact hP1Y)).trans HV.out.2.2.2.1
            have r0 : W2.cell? ⟨P2, 0, none⟩ = some (.bool true) := by simp [World.cell?, g0, bdV, hn2]
            have u0 : W2.cell? ⟨P2, 5, none⟩ = some (.int .u64 (wd (Nat.testBit (bat a1 k).la) 0 : Nat)) := by simp [World.cell?, g0, bdV]
            have t0 : W2.cell? ⟨P1, 5, none⟩ = some (.int .u64 (wd (Nat.testBit (bat a k).la) 0 : Nat)) := by simp [World.cell?, g9, bdV]
            have u1 : W2.cell? ⟨P2, 6, none⟩ = some (.int .u64 (wd (Nat.testBit (bat a1 k).la) 1 : Nat)) := by simp [World.cell?, g0, bdV]
            have t1 : W2.cell? ⟨P1, 6, none⟩ = some (.int .u64 (wd (Nat.testBit (bat a k).la) 1 : Nat)) := by simp [World.cell?, g9, bdV]
            have u2 : W2.cell? ⟨P2, 7, none⟩ = some (.int .u64 (wd (Nat.testBit (bat a1 k).la) 2 : Nat)) := by simp [World.cell?, g0, bdV]
            have t2 : W2.cell? ⟨P1, 7, none⟩ = some (.int .u64 (wd (Nat.testBit (bat a k).la) 2 : Nat)) := by simp [World.cell?, g9, bdV]
            have u3 : W2.cell? ⟨P2, 8, none⟩ = some (.int .u64 (wd (Nat.testBit (bat a1 k).la) 3 : Nat)) := by simp [World.cell?, g0, bdV]
            have t3 : W2.cell? ⟨P1, 8, none⟩ = some (.int .u64 (wd (Nat.testBit (bat a k).la) 3 : Nat)) := by simp [World.cell?, g9, bdV]
            have HZ := hideT (And.intro hZ (And.intro hZb (And.intro hZs (And.intro hZ9 (And.intro hZ10 hs2)))))
            clear hZ hZb hZs hZ9 hZ10 hC2 hp2 hb2 g0 g9 HV hs2 X0 X1 X2 X3 X4 X5 X6 X7 X8 Y0' Y1' Y2' Y3' Y4' Y5' Y6' Y7' Y8' C0 C1 C2 C3 C4 C5 C6 C7 C8 F0 F1 F2 F3 F4 F5 F6 F7 F8
            go_wp2_with fail
            refine (HOL.out _).mono ?_
            rintro e W3 ⟨rfl, hb3⟩
            have hC3 := (hb3.block _ (by rw [HZ.out.2.2.1]; have := HZ.out.2.2.2.2.2; omega)).trans (HZ.out.1.trans (by rw [List.append_assoc]; rfl : _ = some (Obj.cells (pfx (joinB a a1) k ++ (([.bool true, .int .u64 (wd (Nat.testBit ((bat a k).fi ||| (bat a1 k).fi)) 0 : Nat), .int .u64 (wd (Nat.testBit ((bat a k).fi ||| (bat a1 k).fi)) 1 : Nat), .int .u64 (wd (Nat.testBit ((bat a k).fi ||| (bat a1 k).fi)) 2 : Nat), .int .u64 (wd (Nat.testBit ((bat a k).fi ||| (bat a1 k).fi)) 3 : Nat), .int .u64 (wd (Nat.testBit (bat a1 k).la) 0 : Nat), .int .u64 (wd (Nat.testBit (bat a1 k).la) 1 : Nat), .int .u64 (wd (Nat.testBit (bat a1 k).la) 2 : Nat), .int .u64 (wd (Nat.testBit (bat a1 k).la) 3 : Nat)] : List Value) ++ zr (3 - k))).toArray 161 (0, 0))))
            rw [seg_ls] at hC3
            have hp3 : (pfx (joinB a a1) k ++ [Value.bool true, .int .u64 (wd (Nat.testBit ((bat a k).fi ||| (bat a1 k).fi)) 0 : Nat), .int .u64 (wd (Nat.testBit ((bat a k).fi ||| (bat a1 k).fi)) 1 : Nat), .int .u64 (wd (Nat.testBit ((bat a k).fi ||| (bat a1 k).fi)) 2 : Nat), .int .u64 (wd (Nat.testBit ((bat a k).fi ||| (bat a1 k).fi)) 3 : Nat)]).length = k * 9 + 5 := by rw [List.length_append, pfx_len]; rfl
            have hZ := put4at_at hC3 hp3 rfl ((bat a k).la ||| (bat a1 k).la)
            have hZb : Below w1.heap.size w1 (put4at W3 w1.heap.size (k * 9 + 5) ((bat a k).la ||| (bat a1 k).la)) := below_setCells w1.heap.size (Nat.le_refl _) [.int .u64 (wd (Nat.testBit ((bat a k).la ||| (bat a1 k).la)) 0 : Nat), .int .u64 (wd (Nat.testBit ((bat a k).la ||| (bat a1 k).la)) 1 : Nat), .int .u64 (wd (Nat.testBit ((bat a k).la ||| (bat a1 k).la)) 2 : Nat), .int .u64 (wd (Nat.testBit ((bat a k).la ||| (bat a1 k).la)) 3 : Nat)] W3 (k * 9 + 5) (HZ.out.2.1.trans (hb3.mono HZ.out.2.1.size))
            obtain ⟨c0', f0'⟩ := seg_cell hC3 hp3 0 _ rfl
            obtain ⟨c1', f1'⟩ := seg_cell hC3 hp3 1 _ rfl
            obtain ⟨c2', f2'⟩ := seg_cell hC3 hp3 2 _ rfl
            obtain ⟨c3', f3'⟩ := seg_cell hC3 hp3 3 _ rfl
            rw [Nat.add_zero] at c0' f0'
            have HZ2 := hideT (And.intro hZ hZb)
            clear hZ hZb hC3 hp3 hb3 HZ c0 c1 c2 c3 f0 f1 f2 f3 u0 u1 u2 u3 t0 t1 t2 t3 r0
            go_wp2
            exact ⟨⟨k + 1, by omega, by go_num, jn_fin hlt HZ2.out.2 (HZ2.out.1.trans (by rw [List.append_assoc]; rfl)) (by rw [hJk]; simp [hn1, hn2]) (by rw [hJk]; simp [hn1]) (by rw [hJk]; simp [hn2])⟩, by simp [intOf]; omega⟩
      · refine op_value (some 8) rfl rfl (by rfl) (v := .pointer (some ⟨wr.heap.size, 0, none⟩)) (w' := wr.drew.alloc (.cells #[.bool false, .int .u64 0, .int .u64 0, .int .u64 0, .int .u64 0, .int .u64 0, .int .u64 0, .int .u64 0, .int .u64 0] 159)) (by clear a0 a1' hC; go_simp; (try with_reducible rfl)) ⟨hA1, ?_⟩
        refine wpAnyH_all (rs := [6]) (by kernel_rfl) (by simp) (fun i hi => ?_)
        obtain rfl : i = 6 := List.mem_singleton.1 hi
        refine op_value (some 7) rfl rfl (by rfl) (v := .pointer (some ⟨wr.heap.size + 1, 0, none⟩)) (w' := (wr.drew.alloc (.cells #[.bool false, .int .u64 0, .int .u64 0, .int .u64 0, .int .u64 0, .int .u64 0, .int .u64 0, .int .u64 0, .int .u64 0] 159)).alloc (.cells #[.bool false, .int .u64 0, .int .u64 0, .int .u64 0, .int .u64 0, .int .u64 0, .int .u64 0, .int .u64 0, .int .u64 0] 159)) (by clear a0 a1' hC; go_simp; (try with_reducible rfl)) ⟨hA2, ?_⟩
        generalize (wr.drew.alloc (.cells #[.bool false, .int .u64 0, .int .u64 0, .int .u64 0, .int .u64 0, .int .u64 0, .int .u64 0, .int .u64 0, .int .u64 0] 159)).alloc (.cells #[.bool false, .int .u64 0, .int .u64 0, .int .u64 0, .int .u64 0, .int .u64 0, .int .u64 0, .int .u64 0, .int .u64 0] 159) = Y0 at *
        simp only [Act.put, List.setIfInBounds_toArray, List.set_cons_zero, List.set_cons_succ]
        refine wpAnyH_all (rs := [8]) (by kernel_rfl) (by simp) (fun i hi => ?_)
        obtain rfl : i = 8 := List.mem_singleton.1 hi
        refine op_store 159 7 14 (wr.heap.size + 1) (bdV (bat a k)) rfl rfl rfl rfl rfl rfl (there_block zb2 _ rfl) (by rw [info_border]; rfl) (bdV_one _) ?_
        refine And.intro (below_setCells _ (by omega) _ _ _ hA2) ?_
        refine wpAnyH_all (rs := [9]) (by kernel_rfl) (by simp) (fun i hi => ?_)
        obtain rfl : i = 9 := List.mem_singleton.1 hi
        have hA3 := below_setCells (wr.heap.size + 1) (by omega) (bdV (bat a k)) Y0 0 hA2
        have yb1 := setCells_whole (bdV (bat a k)) zb2 rfl
        have yb2 : (Y0.setCells (wr.heap.size + 1) 0 (bdV (bat a k))).heap[wr.heap.size]? = _ := (setCells_far Y0 _ (by omega) _ _).trans zb1
        refine op_store 159 8 17 (wr.heap.size) (bdV (bat a1 k)) rfl rfl rfl rfl rfl rfl (there_block yb2 _ rfl) (by rw [info_border]; rfl) (bdV_one _) ?_
        refine And.intro (below_setCells _ (by omega) _ _ _ hA3) ?_
        have hY := below_setCells (wr.heap.size) (by omega) (bdV (bat a1 k)) _ 0 hA3
        have b9 := (setCells_far (Y0.setCells (wr.heap.size + 1) 0 (bdV (bat a k))) (wr.heap.size) (j := wr.heap.size + 1) (by omega) (bdV (bat a1 k)) 0).trans yb1
        have b10 := setCells_whole (bdV (bat a1 k)) yb2 rfl
        refine wpAnyH_done (by kernel_rfl) ?_ _
        change ((Y0.setCells (wr.heap.size + 1) 0 (bdV (bat a k))).setCells (wr.heap.size) 0 (bdV (bat a1 k))).heap[wr.heap.size + 1]? = some (.cells (bdV (bat a k)).toArray 159 (0, 0)) at b9
        show K2 _ ((Y0.setCells (wr.heap.size + 1) 0 (bdV (bat a k))).setCells (wr.heap.size) 0 (bdV (bat a1 k)))
        generalize (Y0.setCells (wr.heap.size + 1) 0 (bdV (bat a k))).setCells (wr.heap.size) 0 (bdV (bat a1 k)) = Y at *
        obtain ⟨P1, hP1⟩ : ∃ P1, P1 = wr.heap.size + 1 := ⟨_, rfl⟩
        obtain ⟨P2, hP2⟩ : ∃ P2, P2 = wr.heap.size := ⟨_, rfl⟩
        rw [← hP1] at b9 ⊢
        rw [← hP2] at b10 ⊢
        have hP1l : wr.heap.size ≤ P1 := by omega
        have hP2l : wr.heap.size ≤ P2 := by omega
        clear hP1 hP2 zb1 zb2 hA1 hA2 hA3 yb1 yb2 hS0
        refine hK2 _ _ ?_
        simp only [Act.put]
        have hCY := (hY.block _ hCw).trans hC
        have hYw := hbw.trans (hY.mono hbw.size)
        have nP1 : P1 ≠ w1.heap.size := by omega
        have nP2 : P2 ≠ w1.heap.size := by omega
        have hP1Y : P1 < Y.heap.size := (Array.getElem?_eq_some_iff.1 b9).1
        have hP2Y : P2 < Y.heap.size := (Array.getElem?_eq_some_iff.1 b10).1
        have hCs : w1.heap.size < Y.heap.size := (Array.getElem?_eq_some_iff.1 hCY).1
        have HOF := hideT (fun V => or_any (bat a k).fi (bat a1 k).fi V)
        have HOL := hideT (fun V => or_any (bat a k).la (bat a1 k).la V)
        have X0 : Y.cell? ⟨P1, 0, none⟩ = some (.bool (bat a k).no) := by simp [World.cell?, b9, bdV]
        have X1 : Y.cell? ⟨P1, 1, none⟩ = some (.int .u64 (wd (Nat.testBit (bat a k).fi) 0 : Nat)) := by simp [World.cell?, b9, bdV]
        have X2 : Y.cell? ⟨P1, 2, none⟩ = some (.int .u64 (wd (Nat.testBit (bat a k).fi) 1 : Nat)) := by simp [World.cell?, b9, bdV]
        have X3 : Y.cell? ⟨P1, 3, none⟩ = some (.int .u64 (wd (Nat.testBit (bat a k).fi) 2 : Nat)) := by simp [World.cell?, b9, bdV]
        have X4 : Y.cell? ⟨P1, 4, none⟩ = some (.int .u64 (wd (Nat.testBit (bat a k).fi) 3 : Nat)) := by simp [World.cell?, b9, bdV]
        have X5 : Y.cell? ⟨P1, 5, none⟩ = some (.int .u64 (wd (Nat.testBit (bat a k).la) 0 : Nat)) := by simp [World.cell?, b9, bdV]
        have X6 : Y.cell? ⟨P1, 6, none⟩ = some (.int .u64 (wd (Nat.testBit (bat a k).la) 1 : Nat)) := by simp [World.cell?, b9, bdV]
        have X7 : Y.cell? ⟨P1, 7, none⟩ = some (.int .u64 (wd (Nat.testBit (bat a k).la) 2 : Nat)) := by simp [World.cell?, b9, bdV]
        have X8 : Y.cell? ⟨P1, 8, none⟩ = some (.int .u64 (wd (Nat.testBit (bat a k).la) 3 : Nat)) := by simp [World.cell?, b9, bdV]
        have Y0' : Y.cell? ⟨P2, 0, none⟩ = some (.bool (bat a1 k).no) := by simp [World.cell?, b10, bdV]
        have Y1' : Y.cell? ⟨P2, 1, none⟩ = some (.int .u64 (wd (Nat.testBit (bat a1 k).fi) 0 : Nat)) := by simp [World.cell?, b10, bdV]
        have Y2' : Y.cell? ⟨P2, 2, none⟩ = some (.int .u64 (wd (Nat.testBit (bat a1 k).fi) 1 : Nat)) := by simp [World.cell?, b10, bdV]
        have Y3' : Y.cell? ⟨P2, 3, none⟩ = some (.int .u64 (wd (Nat.testBit (bat a1 k).fi) 2 : Nat)) := by simp [World.cell?, b10, bdV]
        have Y4' : Y.cell? ⟨P2, 4, none⟩ = some (.int .u64 (wd (Nat.testBit (bat a1 k).fi) 3 : Nat)) := by simp [World.cell?, b10, bdV]
        have Y5' : Y.cell? ⟨P2, 5, none⟩ = some (.int .u64 (wd (Nat.testBit (bat a1 k).la) 0 : Nat)) := by simp [World.cell?, b10, bdV]
        have Y6' : Y.cell? ⟨P2, 6, none⟩ = some (.int .u64 (wd (Nat.testBit (bat a1 k).la) 1 : Nat)) := by simp [World.cell?, b10, bdV]
        have Y7' : Y.cell? ⟨P2, 7, none⟩ = some (.int .u64 (wd (Nat.testBit (bat a1 k).la) 2 : Nat)) := by simp [World.cell?, b10, bdV]
        have Y8' : Y.cell? ⟨P2, 8, none⟩ = some (.int .u64 (wd (Nat.testBit (bat a1 k).la) 3 : Nat)) := by simp [World.cell?, b10, bdV]
        obtain ⟨C0, F0⟩ := seg_cell hCY (pfx_len (joinB a a1) k) 0 _ rfl
        obtain ⟨C1, F1⟩ := seg_cell hCY (pfx_len (joinB a a1) k) 1 _ rfl
        obtain ⟨C2, F2⟩ := seg_cell hCY (pfx_len (joinB a a1) k) 2 _ rfl
        obtain ⟨C3, F3⟩ := seg_cell hCY (pfx_len (joinB a a1) k) 3 _ rfl
        obtain ⟨C4, F4⟩ := seg_cell hCY (pfx_len (joinB a a1) k) 4 _ rfl
        obtain ⟨C5, F5⟩ := seg_cell hCY (pfx_len (joinB a a1) k) 5 _ rfl
        obtain ⟨C6, F6⟩ := seg_cell hCY (pfx_len (joinB a a1) k) 6 _ rfl
        obtain ⟨C7, F7⟩ := seg_cell hCY (pfx_len (joinB a a1) k) 7 _ rfl
        obtain ⟨C8, F8⟩ := seg_cell hCY (pfx_len (joinB a a1) k) 8 _ rfl
        rw [Nat.add_zero] at C0 F0
        cases hn1 : (bat a k).no
        · rw [hn1] at X0
          cases hn2 : (bat a1 k).no
          · rw [hn2] at Y0'
            have hV := set9_at hCY (pfx_len (joinB a a1) k) rfl (.bool false) (.int .u64 (wd (Nat.testBit (bat a k).fi) 0 : Nat)) (.int .u64 (wd (Nat.testBit (bat a k).fi) 1 : Nat)) (.int .u64 (wd (Nat.testBit (bat a k).fi) 2 : Nat)) (.int .u64 (wd (Nat.testBit (bat a k).fi) 3 : Nat)) (.int .u64 (wd (Nat.testBit (bat a1 k).la) 0 : Nat)) (.int .u64 (wd (Nat.testBit (bat a1 k).la) 1 : Nat)) (.int .u64 (wd (Nat.testBit (bat a1 k).la) 2 : Nat)) (.int .u64 (wd (Nat.testBit (bat a1 k).la) 3 : Nat))
            have hVb : Below w1.heap.size w1 (set9 Y w1.heap.size (k * 9) (.bool false) (.int .u64 (wd (Nat.testBit (bat a k).fi) 0 : Nat)) (.int .u64 (wd (Nat.testBit (bat a k).fi) 1 : Nat)) (.int .u64 (wd (Nat.testBit (bat a k).fi) 2 : Nat)) (.int .u64 (wd (Nat.testBit (bat a k).fi) 3 : Nat)) (.int .u64 (wd (Nat.testBit (bat a1 k).la) 0 : Nat)) (.int .u64 (wd (Nat.testBit (bat a1 k).la) 1 : Nat)) (.int .u64 (wd (Nat.testBit (bat a1 k).la) 2 : Nat)) (.int .u64 (wd (Nat.testBit (bat a1 k).la) 3 : Nat))) := below_setCells w1.heap.size (Nat.le_refl _) [.bool false, .int .u64 (wd (Nat.testBit (bat a k).fi) 0 : Nat), .int .u64 (wd (Nat.testBit (bat a k).fi) 1 : Nat), .int .u64 (wd (Nat.testBit (bat a k).fi) 2 : Nat), .int .u64 (wd (Nat.testBit (bat a k).fi) 3 : Nat), .int .u64 (wd (Nat.testBit (bat a1 k).la) 0 : Nat), .int .u64 (wd (Nat.testBit (bat a1 k).la) 1 : Nat), .int .u64 (wd (Nat.testBit (bat a1 k).la) 2 : Nat), .int .u64 (wd (Nat.testBit (bat a1 k).la) 3 : Nat)] Y (k * 9) hYw
            have hVs : (set9 Y w1.heap.size (k * 9) (.bool false) (.int .u64 (wd (Nat.testBit (bat a k).fi) 0 : Nat)) (.int .u64 (wd (Nat.testBit (bat a k).fi) 1 : Nat)) (.int .u64 (wd (Nat.testBit (bat a k).fi) 2 : Nat)) (.int .u64 (wd (Nat.testBit (bat a k).fi) 3 : Nat)) (.int .u64 (wd (Nat.testBit (bat a1 k).la) 0 : Nat)) (.int .u64 (wd (Nat.testBit (bat a1 k).la) 1 : Nat)) (.int .u64 (wd (Nat.testBit (bat a1 k).la) 2 : Nat)) (.int .u64 (wd (Nat.testBit (bat a1 k).la) 3 : Nat))).heap.size = Y.heap.size := setCells_size w1.heap.size [.bool false, .int .u64 (wd (Nat.testBit (bat a k).fi) 0 : Nat), .int .u64 (wd (Nat.testBit (bat a k).fi) 1 : Nat), .int .u64 (wd (Nat.testBit (bat a k).fi) 2 : Nat), .int .u64 (wd (Nat.testBit (bat a k).fi) 3 : Nat), .int .u64 (wd (Nat.testBit (bat a1 k).la) 0 : Nat), .int .u64 (wd (Nat.testBit (bat a1 k).la) 1 : Nat), .int .u64 (wd (Nat.testBit (bat a1 k).la) 2 : Nat), .int .u64 (wd (Nat.testBit (bat a1 k).la) 3 : Nat)] Y (k * 9)
            have hV9 : (set9 Y w1.heap.size (k * 9) (.bool false) (.int .u64 (wd (Nat.testBit (bat a k).fi) 0 : Nat)) (.int .u64 (wd (Nat.testBit (bat a k).fi) 1 : Nat)) (.int .u64 (wd (Nat.testBit (bat a k).fi) 2 : Nat)) (.int .u64 (wd (Nat.testBit (bat a k).fi) 3 : Nat)) (.int .u64 (wd (Nat.testBit (bat a1 k).la) 0 : Nat)) (.int .u64 (wd (Nat.testBit (bat a1 k).la) 1 : Nat)) (.int .u64 (wd (Nat.testBit (bat a1 k).la) 2 : Nat)) (.int .u64 (wd (Nat.testBit (bat a1 k).la) 3 : Nat))).heap[P1]? = _ := (setCells_far Y w1.heap.size nP1 [.bool false, .int .u64 (wd (Nat.testBit (bat a k).fi) 0 : Nat), .int .u64 (wd (Nat.testBit (bat a k).fi) 1 : Nat), .int .u64 (wd (Nat.testBit (bat a k).fi) 2 : Nat), .int .u64 (wd (Nat.testBit (bat a k).fi) 3 : Nat), .int .u64 (wd (Nat.testBit (bat a1 k).la) 0 : Nat), .int .u64 (wd (Nat.testBit (bat a1 k).la) 1 : Nat), .int .u64 (wd (Nat.testBit (bat a1 k).la) 2 : Nat), .int .u64 (wd (Nat.testBit (bat a1 k).la) 3 : Nat)] (k * 9)).trans b9
            have hV10 : (set9 Y w1.heap.size (k * 9) (.bool false) (.int .u64 (wd (Nat.testBit (bat a k).fi) 0 : Nat)) (.int .u64 (wd (Nat.testBit (bat a k).fi) 1 : Nat)) (.int .u64 (wd (Nat.testBit (bat a k).fi) 2 : Nat)) (.int .u64 (wd (Nat.testBit (bat a k).fi) 3 : Nat)) (.int .u64 (wd (Nat.testBit (bat a1 k).la) 0 : Nat)) (.int .u64 (wd (Nat.testBit (bat a1 k).la) 1 : Nat)) (.int .u64 (wd (Nat.testBit (bat a1 k).la) 2 : Nat)) (.int .u64 (wd (Nat.testBit (bat a1 k).la) 3 : Nat))).heap[P2]? = _ := (setCells_far Y w1.heap.size nP2 [.bool false, .int .u64 (wd (Nat.testBit (bat a k).fi) 0 : Nat), .int .u64 (wd (Nat.testBit (bat a k).fi) 1 : Nat), .int .u64 (wd (Nat.testBit (bat a k).fi) 2 : Nat), .int .u64 (wd (Nat.testBit (bat a k).fi) 3 : Nat), .int .u64 (wd (Nat.testBit (bat a1 k).la) 0 : Nat), .int .u64 (wd (Nat.testBit (bat a1 k).la) 1 : Nat), .int .u64 (wd (Nat.testBit (bat a1 k).la) 2 : Nat), .int .u64 (wd (Nat.testBit (bat a1 k).la) 3 : Nat)] (k * 9)).trans b10
            have HV := hideT (And.intro hV (And.intro hVb (And.intro hVs (And.intro hV9 hV10))))
            clear hV hVb hVs hV9 hV10 b9 b10 hCY hYw hY hC a0 a1'
            go_wp2
            exact ⟨⟨k + 1, by omega, by go_num, jn_fin hlt HV.out.2.1 HV.out.1 (by rw [hJk]; simp [hn1]) (by rw [hJk]; simp [hn1]) (by rw [hJk]; simp [hn2])⟩, by simp [intOf]; omega⟩
          · rw [hn2] at Y0'
            have hV := set9_at hCY (pfx_len (joinB a a1) k) rfl (.bool false) (.int .u64 (wd (Nat.testBit (bat a k).fi) 0 : Nat)) (.int .u64 (wd (Nat.testBit (bat a k).fi) 1 : Nat)) (.int .u64 (wd (Nat.testBit (bat a k).fi) 2 : Nat)) (.int .u64 (wd (Nat.testBit (bat a k).fi) 3 : Nat)) (.int .u64 (wd (Nat.testBit (bat a1 k).la) 0 : Nat)) (.int .u64 (wd (Nat.testBit (bat a1 k).la) 1 : Nat)) (.int .u64 (wd (Nat.testBit (bat a1 k).la) 2 : Nat)) (.int .u64 (wd (Nat.testBit (bat a1 k).la) 3 : Nat))
            have hVb : Below w1.heap.size w1 (set9 Y w1.heap.size (k * 9) (.bool false) (.int .u64 (wd (Nat.testBit (bat a k).fi) 0 : Nat)) (.int .u64 (wd (Nat.testBit (bat a k).fi) 1 : Nat)) (.int .u64 (wd (Nat.testBit (bat a k).fi) 2 : Nat)) (.int .u64 (wd (Nat.testBit (bat a k).fi) 3 : Nat)) (.int .u64 (wd (Nat.testBit (bat a1 k).la) 0 : Nat)) (.int .u64 (wd (Nat.testBit (bat a1 k).la) 1 : Nat)) (.int .u64 (wd (Nat.testBit (bat a1 k).la) 2 : Nat)) (.int .u64 (wd (Nat.testBit (bat a1 k).la) 3 : Nat))) := below_setCells w1.heap.size (Nat.le_refl _) [.bool false, .int .u64 (wd (Nat.testBit (bat a k).fi) 0 : Nat), .int .u64 (wd (Nat.testBit (bat a k).fi) 1 : Nat), .int .u64 (wd (Nat.testBit (bat a k).fi) 2 : Nat), .int .u64 (wd (Nat.testBit (bat a k).fi) 3 : Nat), .int .u64 (wd (Nat.testBit (bat a1 k).la) 0 : Nat), .int .u64 (wd (Nat.testBit (bat a1 k).la) 1 : Nat), .int .u64 (wd (Nat.testBit (bat a1 k).la) 2 : Nat), .int .u64 (wd (Nat.testBit (bat a1 k).la) 3 : Nat)] Y (k * 9) hYw
            have hVs : (set9 Y w1.heap.size (k * 9) (.bool false) (.int .u64 (wd (Nat.testBit (bat a k).fi) 0 : Nat)) (.int .u64 (wd (Nat.testBit (bat a k).fi) 1 : Nat)) (.int .u64 (wd (Nat.testBit (bat a k).fi) 2 : Nat)) (.int .u64 (wd (Nat.testBit (bat a k).fi) 3 : Nat)) (.int .u64 (wd (Nat.testBit (bat a1 k).la) 0 : Nat)) (.int .u64 (wd (Nat.testBit (bat a1 k).la) 1 : Nat)) (.int .u64 (wd (Nat.testBit (bat a1 k).la) 2 : Nat)) (.int .u64 (wd (Nat.testBit (bat a1 k).la) 3 : Nat))).heap.size = Y.heap.size := setCells_size w1.heap.size [.bool false, .int .u64 (wd (Nat.testBit (bat a k).fi) 0 : Nat), .int .u64 (wd (Nat.testBit (bat a k).fi) 1 : Nat), .int .u64 (wd (Nat.testBit (bat a k).fi) 2 : Nat), .int .u64 (wd (Nat.testBit (bat a k).fi) 3 : Nat), .int .u64 (wd (Nat.testBit (bat a1 k).la) 0 : Nat), .int .u64 (wd (Nat.testBit (bat a1 k).la) 1 : Nat), .int .u64 (wd (Nat.testBit (bat a1 k).la) 2 : Nat), .int .u64 (wd (Nat.testBit (bat a1 k).la) 3 : Nat)] Y (k * 9)
            have hV9 : (set9 Y w1.heap.size (k * 9) (.bool false) (.int .u64 (wd (Nat.testBit (bat a k).fi) 0 : Nat)) (.int .u64 (wd (Nat.testBit (bat a k).fi) 1 : Nat)) (.int .u64 (wd (Nat.testBit (bat a k).fi) 2 : Nat)) (.int .u64 (wd (Nat.testBit (bat a k).fi) 3 : Nat)) (.int .u64 (wd (Nat.testBit (bat a1 k).la) 0 : Nat)) (.int .u64 (wd (Nat.testBit (bat a1 k).la) 1 : Nat)) (.int .u64 (wd (Nat.testBit (bat a1 k).la) 2 : Nat)) (.int .u64 (wd (Nat.testBit (bat a1 k).la) 3 : Nat))).heap[P1]? = _ := (setCells_far Y w1.heap.size nP1 [.bool false, .int .u64 (wd (Nat.testBit (bat a k).fi) 0 : Nat), .int .u64 (wd (Nat.testBit (bat a k).fi) 1 : Nat), .int .u64 (wd (Nat.testBit (bat a k).fi) 2 : Nat), .int .u64 (wd (Nat.testBit (bat a k).fi) 3 : Nat), .int .u64 (wd (Nat.testBit (bat a1 k).la) 0 : Nat), .int .u64 (wd (Nat.testBit (bat a1 k).la) 1 : Nat), .int .u64 (wd (Nat.testBit (bat a1 k).la) 2 : Nat), .int .u64 (wd (Nat.testBit (bat a1 k).la) 3 : Nat)] (k * 9)).trans b9
            have hV10 : (set9 Y w1.heap.size (k * 9) (.bool false) (.int .u64 (wd (Nat.testBit (bat a k).fi) 0 : Nat)) (.int .u64 (wd (Nat.testBit (bat a k).fi) 1 : Nat)) (.int .u64 (wd (Nat.testBit (bat a k).fi) 2 : Nat)) (.int .u64 (wd (Nat.testBit (bat a k).fi) 3 : Nat)) (.int .u64 (wd (Nat.testBit (bat a1 k).la) 0 : Nat)) (.int .u64 (wd (Nat.testBit (bat a1 k).la) 1 : Nat)) (.int .u64 (wd (Nat.testBit (bat a1 k).la) 2 : Nat)) (.int .u64 (wd (Nat.testBit (bat a1 k).la) 3 : Nat))).heap[P2]? = _ := (setCells_far Y w1.heap.size nP2 [.bool false, .int .u64 (wd (Nat.testBit (bat a k).fi) 0 : Nat), .int .u64 (wd (Nat.testBit (bat a k).fi) 1 : Nat), .int .u64 (wd (Nat.testBit (bat a k).fi) 2 : Nat), .int .u64 (wd (Nat.testBit (bat a k).fi) 3 : Nat), .int .u64 (wd (Nat.testBit (bat a1 k).la) 0 : Nat), .int .u64 (wd (Nat.testBit (bat a1 k).la) 1 : Nat), .int .u64 (wd (Nat.testBit (bat a1 k).la) 2 : Nat), .int .u64 (wd (Nat.testBit (bat a1 k).la) 3 : Nat)] (k * 9)).trans b10
            have HV := hideT (And.intro hV (And.intro hVb (And.intro hVs (And.intro hV9 hV10))))
            clear hV hVb hVs hV9 hV10 b9 b10 hCY hYw hY hC a0 a1'
            go_wp2_with fail
            refine (HOL.out _).mono ?_
            rintro e W2 ⟨rfl, hb2⟩
            have hC2 := (hb2.block _ (by rw [HV.out.2.2.1]; omega)).trans HV.out.1
            rw [seg_ls] at hC2
            have hp2 : (pfx (joinB a a1) k ++ [Value.bool false, .int .u64 (wd (Nat.testBit (bat a k).fi) 0 : Nat), .int .u64 (wd (Nat.testBit (bat a k).fi) 1 : Nat), .int .u64 (wd (Nat.testBit (bat a k).fi) 2 : Nat), .int .u64 (wd (Nat.testBit (bat a k).fi) 3 : Nat)]).length = k * 9 + 5 := by rw [List.length_append, pfx_len]; rfl
            have hZ := put4at_at hC2 hp2 rfl ((bat a k).la ||| (bat a1 k).la)
            have hZb : Below w1.heap.size w1 (put4at W2 w1.heap.size (k * 9 + 5) ((bat a k).la ||| (bat a1 k).la)) := below_setCells w1.heap.size (Nat.le_refl _) [.int .u64 (wd (Nat.testBit ((bat a k).la ||| (bat a1 k).la)) 0 : Nat), .int .u64 (wd (Nat.testBit ((bat a k).la ||| (bat a1 k).la)) 1 : Nat), .int .u64 (wd (Nat.testBit ((bat a k).la ||| (bat a1 k).la)) 2 : Nat), .int .u64 (wd (Nat.testBit ((bat a k).la ||| (bat a1 k).la)) 3 : Nat)] W2 (k * 9 + 5) (HV.out.2.1.trans (hb2.mono HV.out.2.1.size))
            obtain ⟨c0, f0⟩ := seg_cell hC2 hp2 0 _ rfl
            obtain ⟨c1, f1⟩ := seg_cell hC2 hp2 1 _ rfl
            obtain ⟨c2, f2⟩ := seg_cell hC2 hp2 2 _ rfl
            obtain ⟨c3, f3⟩ := seg_cell hC2 hp2 3 _ rfl
            rw [Nat.add_zero] at c0 f0
            have HZ := hideT (And.intro hZ hZb)
            clear hZ hZb hC2 hp2 hb2 HV X0 X1 X2 X3 X4 X5 X6 X7 X8 Y0' Y1' Y2' Y3' Y4' Y5' Y6' Y7' Y8' C0 C1 C2 C3 C4 C5 C6 C7 C8 F0 F1 F2 F3 F4 F5 F6 F7 F8
            go_wp2
            exact ⟨⟨k + 1, by omega, by go_num, jn_fin hlt HZ.out.2 (HZ.out.1.trans (by rw [List.append_assoc]; rfl)) (by rw [hJk]; simp [hn1]) (by rw [hJk]; simp [hn1]) (by rw [hJk]; simp [hn2])⟩, by simp [intOf]; omega⟩
        · rw [hn1] at X0
          cases hn2 : (bat a1 k).no
          · rw [hn2] at Y0'
            have hV := set9_at hCY (pfx_len (joinB a a1) k) rfl (.bool false) (.int .u64 (wd (Nat.testBit (bat a k).fi) 0 : Nat)) (.int .u64 (wd (Nat.testBit (bat a k).fi) 1 : Nat)) (.int .u64 (wd (Nat.testBit (bat a k).fi) 2 : Nat)) (.int .u64 (wd (Nat.testBit (bat a k).fi) 3 : Nat)) (.int .u64 (wd (Nat.testBit (bat a1 k).la) 0 : Nat)) (.int .u64 (wd (Nat.testBit (bat a1 k).la) 1 : Nat)) (.int .u64 (wd (Nat.testBit (bat a1 k).la) 2 : Nat)) (.int .u64 (wd (Nat.testBit (bat a1 k).la) 3 : Nat))
            have hVb : Below w1.heap.size w1 (set9 Y w1.heap.size (k * 9) (.bool false) (.int .u64 (wd (Nat.testBit (bat a k).fi) 0 : Nat)) (.int .u64 (wd (Nat.testBit (bat a k).fi) 1 : Nat)) (.int .u64 (wd (Nat.testBit (bat a k).fi) 2 : Nat)) (.int .u64 (wd (Nat.testBit (bat a k).fi) 3 : Nat)) (.int .u64 (wd (Nat.testBit (bat a1 k).la) 0 : Nat)) (.int .u64 (wd (Nat.testBit (bat a1 k).la) 1 : Nat)) (.int .u64 (wd (Nat.testBit (bat a1 k).la) 2 : Nat)) (.int .u64 (wd (Nat.testBit (bat a1 k).la) 3 : Nat))) := below_setCells w1.heap.size (Nat.le_refl _) [.bool false, .int .u64 (wd (Nat.testBit (bat a k).fi) 0 : Nat), .int .u64 (wd (Nat.testBit (bat a k).fi) 1 : Nat), .int .u64 (wd (Nat.testBit (bat a k).fi) 2 : Nat), .int .u64 (wd (Nat.testBit (bat a k).fi) 3 : Nat), .int .u64 (wd (Nat.testBit (bat a1 k).la) 0 : Nat), .int .u64 (wd (Nat.testBit (bat a1 k).la) 1 : Nat), .int .u64 (wd (Nat.testBit (bat a1 k).la) 2 : Nat), .int .u64 (wd (Nat.testBit (bat a1 k).la) 3 : Nat)] Y (k * 9) hYw
            have hVs : (set9 Y w1.heap.size (k * 9) (.bool false) (.int .u64 (wd (Nat.testBit (bat a k).fi) 0 : Nat)) (.int .u64 (wd (Nat.testBit (bat a k).fi) 1 : Nat)) (.int .u64 (wd (Nat.testBit (bat a k).fi) 2 : Nat)) (.int .u64 (wd (Nat.testBit (bat a k).fi) 3 : Nat)) (.int .u64 (wd (Nat.testBit (bat a1 k).la) 0 : Nat)) (.int .u64 (wd (Nat.testBit (bat a1 k).la) 1 : Nat)) (.int .u64 (wd (Nat.testBit (bat a1 k).la) 2 : Nat)) (.int .u64 (wd (Nat.testBit (bat a1 k).la) 3 : Nat))).heap.size = Y.heap.size := setCells_size w1.heap.size [.bool false, .int .u64 (wd (Nat.testBit (bat a k).fi) 0 : Nat), .int .u64 (wd (Nat.testBit (bat a k).fi) 1 : Nat), .int .u64 (wd (Nat.testBit (bat a k).fi) 2 : Nat), .int .u64 (wd (Nat.testBit (bat a k).fi) 3 : Nat), .int .u64 (wd (Nat.testBit (bat a1 k).la) 0 : Nat), .int .u64 (wd (Nat.testBit (bat a1 k).la) 1 : Nat), .int .u64 (wd (Nat.testBit (bat a1 k).la) 2 : Nat), .int .u64 (wd (Nat.testBit (bat a1 k).la) 3 : Nat)] Y (k * 9)
            have hV9 : (set9 Y w1.heap.size (k * 9) (.bool false) (.int .u64 (wd (Nat.testBit (bat a k).fi) 0 : Nat)) (.int .u64 (wd (Nat.testBit (bat a k).fi) 1 : Nat)) (.int .u64 (wd (Nat.testBit (bat a k).fi) 2 : Nat)) (.int .u64 (wd (Nat.testBit (bat a k).fi) 3 : Nat)) (.int .u64 (wd (Nat.testBit (bat a1 k).la) 0 : Nat)) (.int .u64 (wd (Nat.testBit (bat a1 k).la) 1 : Nat)) (.int .u64 (wd (Nat.testBit (bat a1 k).la) 2 : Nat)) (.int .u64 (wd (Nat.testBit (bat a1 k).la) 3 : Nat))).heap[P1]? = _ := (setCells_far Y w1.heap.size nP1 [.bool false, .int .u64 (wd (Nat.testBit (bat a k).fi) 0 : Nat), .int .u64 (wd (Nat.testBit (bat a k).fi) 1 : Nat), .int .u64 (wd (Nat.testBit (bat a k).fi) 2 : Nat), .int .u64 (wd (Nat.testBit (bat a k).fi) 3 : Nat), .int .u64 (wd (Nat.testBit (bat a1 k).la) 0 : Nat), .int .u64 (wd (Nat.testBit (bat a1 k).la) 1 : Nat), .int .u64 (wd (Nat.testBit (bat a1 k).la) 2 : Nat), .int .u64 (wd (Nat.testBit (bat a1 k).la) 3 : Nat)] (k * 9)).trans b9
            have hV10 : (set9 Y w1.heap.size (k * 9) (.bool false) (.int .u64 (wd (Nat.testBit (bat a k).fi) 0 : Nat)) (.int .u64 (wd (Nat.testBit (bat a k).fi) 1 : Nat)) (.int .u64 (wd (Nat.testBit (bat a k).fi) 2 : Nat)) (.int .u64 (wd (Nat.testBit (bat a k).fi) 3 : Nat)) (.int .u64 (wd (Nat.testBit (bat a1 k).la) 0 : Nat)) (.int .u64 (wd (Nat.testBit (bat a1 k).la) 1 : Nat)) (.int .u64 (wd (Nat.testBit (bat a1 k).la) 2 : Nat)) (.int .u64 (wd (Nat.testBit (bat a1 k).la) 3 : Nat))).heap[P2]? = _ := (setCells_far Y w1.heap.size nP2 [.bool false, .int .u64 (wd (Nat.testBit (bat a k).fi) 0 : Nat), .int .u64 (wd (Nat.testBit (bat a k).fi) 1 : Nat), .int .u64 (wd (Nat.testBit (bat a k).fi) 2 : Nat), .int .u64 (wd (Nat.testBit (bat a k).fi) 3 : Nat), .int .u64 (wd (Nat.testBit (bat a1 k).la) 0 : Nat), .int .u64 (wd (Nat.testBit (bat a1 k).la) 1 : Nat), .int .u64 (wd (Nat.testBit (bat a1 k).la) 2 : Nat), .int .u64 (wd (Nat.testBit (bat a1 k).la) 3 : Nat)] (k * 9)).trans b10
            have HV := hideT (And.intro hV (And.intro hVb (And.intro hVs (And.intro hV9 hV10))))
            clear hV hVb hVs hV9 hV10 b9 b10 hCY hYw hY hC a0 a1'
            go_wp2_with fail
            refine (HOF.out _).mono ?_
            rintro e W2 ⟨rfl, hb2⟩
            have hC2 := (hb2.block _ (by rw [HV.out.2.2.1]; omega)).trans HV.out.1
            rw [seg_fs] at hC2
            have hp2 : (pfx (joinB a a1) k ++ [Value.bool false]).length = k * 9 + 1 := by rw [List.length_append, pfx_len]; rfl
            have hZ := put4at_at hC2 hp2 rfl ((bat a k).fi ||| (bat a1 k).fi)
            have hZb : Below w1.heap.size w1 (put4at W2 w1.heap.size (k * 9 + 1) ((bat a k).fi ||| (bat a1 k).fi)) := below_setCells w1.heap.size (Nat.le_refl _) [.int .u64 (wd (Nat.testBit ((bat a k).fi ||| (bat a1 k).fi)) 0 : Nat), .int .u64 (wd (Nat.testBit ((bat a k).fi ||| (bat a1 k).fi)) 1 : Nat), .int .u64 (wd (Nat.testBit ((bat a k).fi ||| (bat a1 k).fi)) 2 : Nat), .int .u64 (wd (Nat.testBit ((bat a k).fi ||| (bat a1 k).fi)) 3 : Nat)] W2 (k * 9 + 1) (HV.out.2.1.trans (hb2.mono HV.out.2.1.size))
            have hZs : (put4at W2 w1.heap.size (k * 9 + 1) ((bat a k).fi ||| (bat a1 k).fi)).heap.size = W2.heap.size := put4at_size _ _ _ _
            have hZ9 := (put4at_far W2 w1.heap.size (k * 9 + 1) ((bat a k).fi ||| (bat a1 k).fi) nP1).trans ((hb2.block _ (by rw [HV.out.2.2.1]; exact hP1Y)).trans HV.out.2.2.2.1)
            have hZ10 := (put4at_far W2 w1.heap.size (k * 9 + 1) ((bat a k).fi ||| (bat a1 k).fi) nP2).trans ((hb2.block _ (by rw [HV.out.2.2.1]; exact hP2Y)).trans HV.out.2.2.2.2)
            have hs2 := hb2.size
            rw [HV.out.2.2.1] at hs2
            obtain ⟨c0, f0⟩ := seg_cell hC2 hp2 0 _ rfl
            obtain ⟨c1, f1⟩ := seg_cell hC2 hp2 1 _ rfl
            obtain ⟨c2, f2⟩ := seg_cell hC2 hp2 2 _ rfl
            obtain ⟨c3, f3⟩ := seg_cell hC2 hp2 3 _ rfl
            rw [Nat.add_zero] at c0 f0
            have g0 := (hb2.block P2 (by rw [HV.out.2.2.1]; exact hP2Y)).trans HV.out.2.2.2.2
            have g9 := (hb2.block P1 (by rw [HV.out.2.2.1]; exact hP1Y)).trans HV.out.2.2.2.1
            have r0 : W2.cell? ⟨P2, 0, none⟩ = some (.bool false) := by simp [World.cell?, g0, bdV, hn2]
            have u0 : W2.cell? ⟨P2, 5, none⟩ = some (.int .u64 (wd (Nat.testBit (bat a1 k).la) 0 : Nat)) := by simp [World.cell?, g0, bdV]
            have t0 : W2.cell? ⟨P1, 5, none⟩ = some (.int .u64 (wd (Nat.testBit (bat a k).la) 0 : Nat)) := by simp [World.cell?, g9, bdV]
            have u1 : W2.cell? ⟨P2, 6, none⟩ = some (.int .u64 (wd (Nat.testBit (bat a1 k).la) 1 : Nat)) := by simp [World.cell?, g0, bdV]
            have t1 : W2.cell? ⟨P1, 6, none⟩ = some (.int .u64 (wd (Nat.testBit (bat a k).la) 1 : Nat)) := by simp [World.cell?, g9, bdV]
            have u2 : W2.cell? ⟨P2, 7, none⟩ = some (.int .u64 (wd (Nat.testBit (bat a1 k).la) 2 : Nat)) := by simp [World.cell?, g0, bdV]
            have t2 : W2.cell? ⟨P1, 7, none⟩ = some (.int .u64 (wd (Nat.testBit (bat a k).la) 2 : Nat)) := by simp [World.cell?, g9, bdV]
            have u3 : W2.cell? ⟨P2, 8, none⟩ = some (.int .u64 (wd (Nat.testBit (bat a1 k).la) 3 : Nat)) := by simp [World.cell?, g0, bdV]
            have t3 : W2.cell? ⟨P1, 8, none⟩ = some (.int .u64 (wd (Nat.testBit (bat a k).la) 3 : Nat)) := by simp [World.cell?, g9, bdV]
            have HZ := hideT (And.intro hZ (And.intro hZb (And.intro hZs (And.intro hZ9 (And.intro hZ10 hs2)))))
            clear hZ hZb hZs hZ9 hZ10 hC2 hp2 hb2 g0 g9 HV hs2 X0 X1 X2 X3 X4 X5 X6 X7 X8 Y0' Y1' Y2' Y3' Y4' Y5' Y6' Y7' Y8' C0 C1 C2 C3 C4 C5 C6 C7 C8 F0 F1 F2 F3 F4 F5 F6 F7 F8
            go_wp2
            exact ⟨⟨k + 1, by omega, by go_num, jn_fin hlt HZ.out.2.1 (HZ.out.1.trans (by rw [List.append_assoc]; rfl)) (by rw [hJk]; simp [hn2]) (by rw [hJk]; simp [hn1]) (by rw [hJk]; simp [hn2])⟩, by simp [intOf]; omega⟩
          · rw [hn2] at Y0'
            have hV := set9_at hCY (pfx_len (joinB a a1) k) rfl (.bool true) (.int .u64 (wd (Nat.testBit (bat a k).fi) 0 : Nat)) (.int .u64 (wd (Nat.testBit (bat a k).fi) 1 : Nat)) (.int .u64 (wd (Nat.testBit (bat a k).fi) 2 : Nat)) (.int .u64 (wd (Nat.testBit (bat a k).fi) 3 : Nat)) (.int .u64 (wd (Nat.testBit (bat a1 k).la) 0 : Nat)) (.int .u64 (wd (Nat.testBit (bat a1 k).la) 1 : Nat)) (.int .u64 (wd (Nat.testBit (bat a1 k).la) 2 : Nat)) (.int .u64 (wd (Nat.testBit (bat a1 k).la) 3 : Nat))
            have hVb : Below w1.heap.size w1 (set9 Y w1.heap.size (k * 9) (.bool true) (.int .u64 (wd (Nat.testBit (bat a k).fi) 0 : Nat)) (.int .u64 (wd (Nat.testBit (bat a k).fi) 1 : Nat)) (.int .u64 (wd (Nat.testBit (bat a k).fi) 2 : Nat)) (.int .u64 (wd (Nat.testBit (bat a k).fi) 3 : Nat)) (.int .u64 (wd (Nat.testBit (bat a1 k).la) 0 : Nat)) (.int .u64 (wd (Nat.testBit (bat a1 k).la) 1 : Nat)) (.int .u64 (wd (Nat.testBit (bat a1 k).la) 2 : Nat)) (.int .u64 (wd (Nat.testBit (bat a1 k).la) 3 : Nat))) := below_setCells w1.heap.size (Nat.le_refl _) [.bool true, .int .u64 (wd (Nat.testBit (bat a k).fi) 0 : Nat), .int .u64 (wd (Nat.testBit (bat a k).fi) 1 : Nat), .int .u64 (wd (Nat.testBit (bat a k).fi) 2 : Nat), .int .u64 (wd (Nat.testBit (bat a k).fi) 3 : Nat), .int .u64 (wd (Nat.testBit (bat a1 k).la) 0 : Nat), .int .u64 (wd (Nat.testBit (bat a1 k).la) 1 : Nat), .int .u64 (wd (Nat.testBit (bat a1 k).la) 2 : Nat), .int .u64 (wd (Nat.testBit (bat a1 k).la) 3 : Nat)] Y (k * 9) hYw
            have hVs : (set9 Y w1.heap.size (k * 9) (.bool true) (.int .u64 (wd (Nat.testBit (bat a k).fi) 0 : Nat)) (.int .u64 (wd (Nat.testBit (bat a k).fi) 1 : Nat)) (.int .u64 (wd (Nat.testBit (bat a k).fi) 2 : Nat)) (.int .u64 (wd (Nat.testBit (bat a k).fi) 3 : Nat)) (.int .u64 (wd (Nat.testBit (bat a1 k).la) 0 : Nat)) (.int .u64 (wd (Nat.testBit (bat a1 k).la) 1 : Nat)) (.int .u64 (wd (Nat.testBit (bat a1 k).la) 2 : Nat)) (.int .u64 (wd (Nat.testBit (bat a1 k).la) 3 : Nat))).heap.size = Y.heap.size := setCells_size w1.heap.size [.bool true, .int .u64 (wd (Nat.testBit (bat a k).fi) 0 : Nat), .int .u64 (wd (Nat.testBit (bat a k).fi) 1 : Nat), .int .u64 (wd (Nat.testBit (bat a k).fi) 2 : Nat), .int .u64 (wd (Nat.testBit (bat a k).fi) 3 : Nat), .int .u64 (wd (Nat.testBit (bat a1 k).la) 0 : Nat), .int .u64 (wd (Nat.testBit (bat a1 k).la) 1 : Nat), .int .u64 (wd (Nat.testBit (bat a1 k).la) 2 : Nat), .int .u64 (wd (Nat.testBit (bat a1 k).la) 3 : Nat)] Y (k * 9)
            have hV9 : (set9 Y w1.heap.size (k * 9) (.bool true) (.int .u64 (wd (Nat.testBit (bat a k).fi) 0 : Nat)) (.int .u64 (wd (Nat.testBit (bat a k).fi) 1 : Nat)) (.int .u64 (wd (Nat.testBit (bat a k).fi) 2 : Nat)) (.int .u64 (wd (Nat.testBit (bat a k).fi) 3 : Nat)) (.int .u64 (wd (Nat.testBit (bat a1 k).la) 0 : Nat)) (.int .u64 (wd (Nat.testBit (bat a1 k).la) 1 : Nat)) (.int .u64 (wd (Nat.testBit (bat a1 k).la) 2 : Nat)) (.int .u64 (wd (Nat.testBit (bat a1 k).la) 3 : Nat))).heap[P1]? = _ := (setCells_far Y w1.heap.size nP1 [.bool true, .int .u64 (wd (Nat.testBit (bat a k).fi) 0 : Nat), .int .u64 (wd (Nat.testBit (bat a k).fi) 1 : Nat), .int .u64 (wd (Nat.testBit (bat a k).fi) 2 : Nat), .int .u64 (wd (Nat.testBit (bat a k).fi) 3 : Nat), .int .u64 (wd (Nat.testBit (bat a1 k).la) 0 : Nat), .int .u64 (wd (Nat.testBit (bat a1 k).la) 1 : Nat), .int .u64 (wd (Nat.testBit (bat a1 k).la) 2 : Nat), .int .u64 (wd (Nat.testBit (bat a1 k).la) 3 : Nat)] (k * 9)).trans b9
            have hV10 : (set9 Y w1.heap.size (k * 9) (.bool true) (.int .u64 (wd (Nat.testBit (bat a k).fi) 0 : Nat)) (.int .u64 (wd (Nat.testBit (bat a k).fi) 1 : Nat)) (.int .u64 (wd (Nat.testBit (bat a k).fi) 2 : Nat)) (.int .u64 (wd (Nat.testBit (bat a k).fi) 3 : Nat)) (.int .u64 (wd (Nat.testBit (bat a1 k).la) 0 : Nat)) (.int .u64 (wd (Nat.testBit (bat a1 k).la) 1 : Nat)) (.int .u64 (wd (Nat.testBit (bat a1 k).la) 2 : Nat)) (.int .u64 (wd (Nat.testBit (bat a1 k).la) 3 : Nat))).heap[P2]? = _ := (setCells_far Y w1.heap.size nP2 [.bool true, .int .u64 (wd (Nat.testBit (bat a k).fi) 0 : Nat), .int .u64 (wd (Nat.testBit (bat a k).fi) 1 : Nat), .int .u64 (wd (Nat.testBit (bat a k).fi) 2 : Nat), .int .u64 (wd (Nat.testBit (bat a k).fi) 3 : Nat), .int .u64 (wd (Nat.testBit (bat a1 k).la) 0 : Nat), .int .u64 (wd (Nat.testBit (bat a1 k).la) 1 : Nat), .int .u64 (wd (Nat.testBit (bat a1 k).la) 2 : Nat), .int .u64 (wd (Nat.testBit (bat a1 k).la) 3 : Nat)] (k * 9)).trans b10
            have HV := hideT (And.intro hV (And.intro hVb (And.intro hVs (And.intro hV9 hV10))))
            clear hV hVb hVs hV9 hV10 b9 b10 hCY hYw hY hC a0 a1'
            go_wp2_with fail
            refine (HOF.out _).mono ?_
            rintro e W2 ⟨rfl, hb2⟩
            have hC2 := (hb2.block _ (by rw [HV.out.2.2.1]; omega)).trans HV.out.1
            rw [seg_fs] at hC2
            have hp2 : (pfx (joinB a a1) k ++ [Value.bool true]).length = k * 9 + 1 := by rw [List.length_append, pfx_len]; rfl
            have hZ := put4at_at hC2 hp2 rfl ((bat a k).fi ||| (bat a1 k).fi)
            have hZb : Below w1.heap.size w1 (put4at W2 w1.heap.size (k * 9 + 1) ((bat a k).fi ||| (bat a1 k).fi)) := below_setCells w1.heap.size (Nat.le_refl _) [.int .u64 (wd (Nat.testBit ((bat a k).fi ||| (bat a1 k).fi)) 0 : Nat), .int .u64 (wd (Nat.testBit ((bat a k).fi ||| (bat a1 k).fi)) 1 : Nat), .int .u64 (wd (Nat.testBit ((bat a k).fi ||| (bat a1 k).fi)) 2 : Nat), .int .u64 (wd (Nat.testBit ((bat a k).fi ||| (bat a1 k).fi)) 3 : Nat)] W2 (k * 9 + 1) (HV.out.2.1.trans (hb2.mono HV.out.2.1.size))
            have hZs : (put4at W2 w1.heap.size (k * 9 + 1) ((bat a k).fi ||| (bat a1 k).fi)).heap.size = W2.heap.size := put4at_size _ _ _ _
            have hZ9 := (put4at_far W2 w1.heap.size (k * 9 + 1) ((bat a k).fi ||| (bat a1 k).fi) nP1).trans ((hb2.block _ (by rw [HV.out.2.2.1]; exact hP1Y)).trans HV.out.2.2.2.1)
            have hZ10 := (put4at_far W2 w1.heap.size (k * 9 + 1) ((bat a k).fi ||| (bat a1 k).fi) nP2).trans ((hb2.block _ (by rw [HV.out.2.2.1]; exact hP2Y)).trans HV.out.2.2.2.2)
            have hs2 := hb2.size
            rw [HV.out.2.2.1] at hs2
            obtain ⟨c0, f0⟩ := seg_cell hC2 hp2 0 _ rfl
            obtain ⟨c1, f1⟩ := seg_cell hC2 hp2 1 _ rfl
            obtain ⟨c2, f2⟩ := seg_cell hC2 hp2 2 _ rfl
            obtain ⟨c3, f3⟩ := seg_cell hC2 hp2 3 _ rfl
            rw [Nat.add_zero] at c0 f0
            have g0 := (hb2.block P2 (by rw [HV.out.2.2.1]; exact hP2Y)).trans HV.out.2.2.2.2
            have g9 := (hb2.block P1 (by rw [HV.out.2.2.1]; exact hP1Y)).trans HV.out.2.2.2.1
            have r0 : W2.cell? ⟨P2, 0, none⟩ = some (.bool true) := by simp [World.cell?, g0, bdV, hn2]
            have u0 : W2.cell? ⟨P2, 5, none⟩ = some (.int .u64 (wd (Nat.testBit (bat a1 k).la) 0 : Nat)) := by simp [World.cell?, g0, bdV]
            have t0 : W2.cell? ⟨P1, 5, none⟩ = some (.int .u64 (wd (Nat.testBit (bat a k).la) 0 : Nat)) := by simp [World.cell?, g9, bdV]
            have u1 : W2.cell? ⟨P2, 6, none⟩ = some (.int .u64 (wd (Nat.testBit (bat a1 k).la) 1 : Nat)) := by simp [World.cell?, g0, bdV]
            have t1 : W2.cell? ⟨P1, 6, none⟩ = some (.int .u64 (wd (Nat.testBit (bat a k).la) 1 : Nat)) := by simp [World.cell?, g9, bdV]
            have u2 : W2.cell? ⟨P2, 7, none⟩ = some (.int .u64 (wd (Nat.testBit (bat a1 k).la) 2 : Nat)) := by simp [World.cell?, g0, bdV]
            have t2 : W2.cell? ⟨P1, 7, none⟩ = some (.int .u64 (wd (Nat.testBit (bat a k).la) 2 : Nat)) := by simp [World.cell?, g9, bdV]
            have u3 : W2.cell? ⟨P2, 8, none⟩ = some (.int .u64 (wd (Nat.testBit (bat a1 k).la) 3 : Nat)) := by simp [World.cell?, g0, bdV]
            have t3 : W2.cell? ⟨P1, 8, none⟩ = some (.int .u64 (wd (Nat.testBit (bat a k).la) 3 : Nat)) := by simp [World.cell?, g9, bdV]
            have HZ := hideT (And.intro hZ (And.intro hZb (And.intro hZs (And.intro hZ9 (And.intro hZ10 hs2)))))
            clear hZ hZb hZs hZ9 hZ10 hC2 hp2 hb2 g0 g9 HV hs2 X0 X1 X2 X3 X4 X5 X6 X7 X8 Y0' Y1' Y2' Y3' Y4' Y5' Y6' Y7' Y8' C0 C1 C2 C3 C4 C5 C6 C7 C8 F0 F1 F2 F3 F4 F5 F6 F7 F8
            go_wp2_with fail
            refine (HOL.out _).mono ?_
            rintro e W3 ⟨rfl, hb3⟩
            have hC3 := (hb3.block _ (by rw [HZ.out.2.2.1]; have := HZ.out.2.2.2.2.2; omega)).trans (HZ.out.1.trans (by rw [List.append_assoc]; rfl : _ = some (Obj.cells (pfx (joinB a a1) k ++ (([.bool true, .int .u64 (wd (Nat.testBit ((bat a k).fi ||| (bat a1 k).fi)) 0 : Nat), .int .u64 (wd (Nat.testBit ((bat a k).fi ||| (bat a1 k).fi)) 1 : Nat), .int .u64 (wd (Nat.testBit ((bat a k).fi ||| (bat a1 k).fi)) 2 : Nat), .int .u64 (wd (Nat.testBit ((bat a k).fi ||| (bat a1 k).fi)) 3 : Nat), .int .u64 (wd (Nat.testBit (bat a1 k).la) 0 : Nat), .int .u64 (wd (Nat.testBit (bat a1 k).la) 1 : Nat), .int .u64 (wd (Nat.testBit (bat a1 k).la) 2 : Nat), .int .u64 (wd (Nat.testBit (bat a1 k).la) 3 : Nat)] : List Value) ++ zr (3 - k))).toArray 161 (0, 0))))
            rw [seg_ls] at hC3
            have hp3 : (pfx (joinB a a1) k ++ [Value.bool true, .int .u64 (wd (Nat.testBit ((bat a k).fi ||| (bat a1 k).fi)) 0 : Nat), .int .u64 (wd (Nat.testBit ((bat a k).fi ||| (bat a1 k).fi)) 1 : Nat), .int .u64 (wd (Nat.testBit ((bat a k).fi ||| (bat a1 k).fi)) 2 : Nat), .int .u64 (wd (Nat.testBit ((bat a k).fi ||| (bat a1 k).fi)) 3 : Nat)]).length = k * 9 + 5 := by rw [List.length_append, pfx_len]; rfl
            have hZ := put4at_at hC3 hp3 rfl ((bat a k).la ||| (bat a1 k).la)
            have hZb : Below w1.heap.size w1 (put4at W3 w1.heap.size (k * 9 + 5) ((bat a k).la ||| (bat a1 k).la)) := below_setCells w1.heap.size (Nat.le_refl _) [.int .u64 (wd (Nat.testBit ((bat a k).la ||| (bat a1 k).la)) 0 : Nat), .int .u64 (wd (Nat.testBit ((bat a k).la ||| (bat a1 k).la)) 1 : Nat), .int .u64 (wd (Nat.testBit ((bat a k).la ||| (bat a1 k).la)) 2 : Nat), .int .u64 (wd (Nat.testBit ((bat a k).la ||| (bat a1 k).la)) 3 : Nat)] W3 (k * 9 + 5) (HZ.out.2.1.trans (hb3.mono HZ.out.2.1.size))
            obtain ⟨c0', f0'⟩ := seg_cell hC3 hp3 0 _ rfl
            obtain ⟨c1', f1'⟩ := seg_cell hC3 hp3 1 _ rfl
            obtain ⟨c2', f2'⟩ := seg_cell hC3 hp3 2 _ rfl
            obtain ⟨c3', f3'⟩ := seg_cell hC3 hp3 3 _ rfl
            rw [Nat.add_zero] at c0' f0'
            have HZ2 := hideT (And.intro hZ hZb)
            clear hZ hZb hC3 hp3 hb3 HZ c0 c1 c2 c3 f0 f1 f2 f3 u0 u1 u2 u3 t0 t1 t2 t3 r0
            go_wp2
            exact ⟨⟨k + 1, by omega, by go_num, jn_fin hlt HZ2.out.2 (HZ2.out.1.trans (by rw [List.append_assoc]; rfl)) (by rw [hJk]; simp [hn1, hn2]) (by rw [hJk]; simp [hn1]) (by rw [hJk]; simp [hn2])⟩, by simp [intOf]; omega⟩
    · obtain rfl : k = 4 := by omega
      rw [show 4 - 4 = 0 from rfl, pfx_four] at hC
      have y2' := (hbw.block _ (by omega)).trans y2
      have HB := hideT hbw
      clear hbw y0 y1 y2
      go_upto_region 12 with fail
      refine ret_part (b := w1.heap.size) (b' := w.heap.size + 1 + 1) (cs := bsV (joinB a a1)) (zs := [.bool false, .int .u64 0, .int .u64 0, .int .u64 0, .int .u64 0, .int .u64 0, .int .u64 0, .int .u64 0, .int .u64 0, .bool false, .int .u64 0, .int .u64 0, .int .u64 0, .int .u64 0, .int .u64 0, .int .u64 0, .int .u64 0, .int .u64 0, .bool false, .int .u64 0, .int .u64 0, .int .u64 0, .int .u64 0, .int .u64 0, .int .u64 0, .int .u64 0, .int .u64 0, .bool false, .int .u64 0, .int .u64 0, .int .u64 0, .int .u64 0, .int .u64 0, .int .u64 0, .int .u64 0, .int .u64 0]) rfl (by assumption) rfl rfl (by decide) rfl hC y2' rfl rfl (bsV_one _) rfl rfl ⟨rfl, ?_⟩
      exact below_setCells _ (by omega) _ _ _ (hBX.trans (HB.out.mono (by omega)))
end Go.Proofs.YtbekghinikjjeaaGreatDoor.smt
