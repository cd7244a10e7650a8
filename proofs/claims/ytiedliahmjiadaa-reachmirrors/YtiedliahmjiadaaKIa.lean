/- reach: whole parts; the kind of a place; a part that may be left out. -/
import Derived.Test.YtiedliahmjiadaaKDet
import Derived.Test.YtiedliahmjiadaaKPa
import Derived.Test.YtiedliahmjiadaaKGa
import Derived.Deep.MidRow
import Derived.Deep.RegionHeld3
import Derived.Deep.Cut
import Derived.RangeFuncNested
set_option maxRecDepth 100000
set_option maxHeartbeats 1000000
namespace Go.Proofs.Ytiedliahmjiadaa
open Go.RowKit
def bdV (b : BdB) : List Value := [.bool b.no, .int .u64 (wd b.fs 0 : Nat), .int .u64 (wd b.fs 1 : Nat), .int .u64 (wd b.fs 2 : Nat), .int .u64 (wd b.fs 3 : Nat), .int .u64 (wd b.ls 0 : Nat), .int .u64 (wd b.ls 1 : Nat), .int .u64 (wd b.ls 2 : Nat), .int .u64 (wd b.ls 3 : Nat)]
def paV (p : PaB) : List Value := bdV (p 0) ++ (bdV (p 1) ++ (bdV (p 2) ++ bdV (p 3)))
theorem paV_len (p : PaB) : (paV p).length = 36 := rfl
theorem paV_one (p : PaB) : (paV p).toArray.all (·.oneCell') = true := by simp [paV, bdV, Value.oneCell']
def partV (p : PaB) : Value := .agg (paV p).toArray
theorem info_part : (Try.prog.info? 81).map (·.size) = some 36 := by kernel_rfl
theorem und_part : Try.prog.underlying 81 = some (.array 4 78) := by kernel_rfl
theorem range_block {W : World} {b : Nat} {cs : List Value} {t : TypeId} {fr : Nat × Nat} (h : W.heap[b]? = some (.cells cs.toArray t fr)) : W.rangeAt b 0 cs := fun j v hv => by
 simp only [World.cell?, h, Nat.zero_add]
 simpa using hv
theorem there_block {W : World} {b : Nat} {cs : List Value} {t : TypeId} (h : W.heap[b]? = some (.cells cs.toArray t (0, 0))) (n : Nat) (hn : cs.length = n) : W.there b 0 n := fun j hj => by
 have e : cs[j]? = some cs[j] := List.getElem?_eq_getElem (by omega)
 refine ⟨?_, ?_⟩
 ·simp [World.cell?, h, e]
 ·simp [World.frozen?, h]
theorem setCells_far (W : World) (b : Nat) {j : Nat} (h : j ≠ b) : ∀ (vs : List Value) (o : Nat), (W.setCells b o vs).heap[j]? = W.heap[j]? := by
 intro vs
 induction vs generalizing W with
 | nil => intro o; rfl
 | cons v vs ih =>
  intro o
  rw [World.setCells, ih]
  exact Below.heap_setCell W ⟨b, o, none⟩ v j h
theorem setCells_size (b : Nat) : ∀ (vs : List Value) (W : World) (o : Nat), (W.setCells b o vs).heap.size = W.heap.size
 | [], _, _ => rfl
 | v :: vs, W, o => by
  rw [World.setCells, setCells_size b vs]
  simp
theorem setCells_at (b : Nat) (t : TypeId) (fr : Nat × Nat) : ∀ (vs pre cs suf : List Value) (W : World) (o : Nat), W.heap[b]? = some (.cells (pre ++ (cs ++ suf)).toArray t fr) → pre.length = o → cs.length = vs.length → (W.setCells b o vs).heap[b]? = some (.cells (pre ++ (vs ++ suf)).toArray t fr)
 | [], pre, cs, suf, W, o, h, hp, hc => by
  obtain rfl : cs = [] := List.eq_nil_of_length_eq_zero hc
  exact h
 | v :: vs, pre, [], suf, W, o, h, hp, hc => by simp at hc
 | v :: vs, pre, c :: cs, suf, W, o, h, hp, hc => by
  rw [World.setCells]
  have h1 : (W.setCell ⟨b, o, none⟩ v).heap[b]? = some (.cells ((pre ++ [v]) ++ (cs ++ suf)).toArray t fr) := by
   obtain ⟨hlt, hk⟩ := Array.getElem?_eq_some_iff.1 h
   show (W.heap.modify b _)[b]? = _
   rw [Array.getElem?_eq_getElem (by rw [Array.size_modify]; exact hlt), Array.getElem_modify_self, hk]
   simp [hp.symm]
  have := setCells_at b t fr vs (pre ++ [v]) cs suf _ (o + 1) h1 (by simp [hp]) (by simpa using hc)
  simpa using this
theorem setCells_whole {W : World} {b : Nat} {t : TypeId} {fr : Nat × Nat} {cs : List Value} (vs : List Value) (h : W.heap[b]? = some (.cells cs.toArray t fr)) (hl : cs.length = vs.length) : (W.setCells b 0 vs).heap[b]? = some (.cells vs.toArray t fr) := by
 have := setCells_at b t fr vs [] cs [] W 0 (by simpa using h) rfl hl
 simpa using this
theorem below_setCells {B : Nat} {X : World} (b : Nat) (hb : B ≤ b) : ∀ (vs : List Value) (W : World) (o : Nat), Below B X W → Below B X (W.setCells b o vs)
 | [], _, _, h => h
 | v :: vs, W, o, h => by
  rw [World.setCells]
  exact below_setCells b hb vs _ _ (h.setCell (p := ⟨b, o, none⟩) hb v)
theorem part_result {fn : Func} {W : World} {r b : Nat} {tmps : Array Value} {cs : List Value} {fr : Nat × Nat} (hf : fn.results = #[.cell r 81]) (hr : tmps[r]?.getD undef = .pointer (some ⟨b, 0, none⟩)) (h : W.heap[b]? = some (.cells cs.toArray 81 fr)) (hl : cs.length = 36) : (results fn tmps).run Try.prog W = .ok (.agg cs.toArray) W := by
 have := run_loadVar_mid (P := Try.prog) W b 0 81 cs _ (range_block h) und_part rfl (by rw [info_part, hl])
 simp [results, hf, asAddr, hr, this]
theorem ret_part {fn : Func} {R : Ending → World → Prop} {id s d r b b' : Nat} {ps ps' : String} {af af' : Array Edge} {ty ty' : TypeId} {a : Act} {W : World} {cs zs : List Value} {K : Act → World → Prop} {Q : Exit → Act → World → Prop} (hQ : Q = bodyPost Try.prog fn R) (hK : ∀ a w, Code.ret.wp Try.prog Q a w → K a w) (hs : a.eval (.tmp s) = .pointer (some ⟨b, 0, none⟩)) (hr : a.eval (.tmp r) = .pointer (some ⟨b', 0, none⟩)) (hsr : r ≠ d) (hd : (a.put (some d) (.agg cs.toArray)).eval (.tmp d) = .agg cs.toArray) (h : W.heap[b]? = some (.cells cs.toArray 81 (0, 0))) (h' : W.heap[b']? = some (.cells zs.toArray 81 (0, 0))) (hl : cs.length = 36) (hz : zs.length = 36) (ho : cs.toArray.all (·.oneCell') = true) (hf : fn.results = #[.cell r 81]) (hdf : a.defers = []) (hR : R (.returned (.agg cs.toArray)) (W.setCells b' 0 cs)) :
  (Code.region id #[{ dst := some d, op := .load 81 (.tmp s), type := ty, pos := ps, after := af, guard := none }, { dst := none, op := .store 81 (.tmp r) (.tmp d), type := ty', pos := ps', after := af', guard := none }] false).wp Try.prog (Exit.then K Q) a W := by
 refine wp_region_lit (l := [_, _]) ?_
 refine wpList_load_mid rfl 81 _ rfl b 0 hs cs _ (range_block h) und_part rfl (by rw [info_part, hl]) ?_
 have hr2 : (a.put (some d) (.agg cs.toArray)).eval (.tmp r) = .pointer (some ⟨b', 0, none⟩) := by
  rw [← hr]
  exact Act.eval_put (fun e he hh => by cases he; cases hh; exact hsr rfl)
 refine wpList_store_mid rfl 81 _ _ rfl b' 0 cs.toArray hr2 hd (by rw [List.size_toArray]; exact there_block h' _ (by omega)) (by rw [info_part, List.size_toArray, hl]) ho ?_
 refine wpList_nil ?_
 refine hK _ _ (wp_ret ?_)
 rw [hQ]
 exact bodyPost_ret (part_result hf (by simpa [Act.eval, Act.put] using hr2) (setCells_whole cs h' (by omega)) hl) hdf hR
theorem store_part {ops : Array Oper} {op : Oper} {r d b : Nat} {a : Act} {W : World} {cs zs : List Value} {K : Act → World → Prop} {Q : Exit → Act → World → Prop} (hg : op.guard = none) (ho : op.op = .store 81 (.tmp r) (.tmp d)) (hr : a.eval (.tmp r) = .pointer (some ⟨b, 0, none⟩)) (hd : a.eval (.tmp d) = .agg cs.toArray) (h' : W.heap[b]? = some (.cells zs.toArray 81 (0, 0))) (hl : cs.length = 36) (hz : zs.length = 36) (h1 : cs.toArray.all (·.oneCell') = true) (h : K (a.put op.dst undef) (W.setCells b 0 cs)) : wpList Try.prog ops (Exit.then K Q) [op] a W := by
 refine wpList_store_mid hg 81 _ _ ho b 0 cs.toArray hr hd (by rw [List.size_toArray]; exact there_block h' _ (by omega)) (by rw [info_part, List.size_toArray, hl]) h1 ?_
 exact wpList_nil h
theorem ret_of {fn : Func} {R : Ending → World → Prop} {r b : Nat} {a : Act} {W : World} {cs : List Value} {fr : Nat × Nat} {K : Act → World → Prop} {Q : Exit → Act → World → Prop} (hQ : Q = bodyPost Try.prog fn R) (hK : ∀ a w, Code.ret.wp Try.prog Q a w → K a w) (hr : a.eval (.tmp r) = .pointer (some ⟨b, 0, none⟩)) (h : W.heap[b]? = some (.cells cs.toArray 81 fr)) (hl : cs.length = 36) (hf : fn.results = #[.cell r 81]) (hdf : a.defers = []) (hR : R (.returned (.agg cs.toArray)) W) : K a W := by
 refine hK _ _ (wp_ret ?_)
 rw [hQ]
 exact bodyPost_ret (part_result hf (by simpa [Act.eval] using hr) h hl) hdf hR
theorem kindOf_any (s : ByteArray) (i : Nat) (w : World) : Calls Try.prog 28 #[.int .i64 (i : Nat), .string s] w fun e w' => e = .returned (.int .i64 (kdG s.size i : Nat)) ∧ w' = w := by
 by_cases h1 : i = 0
 ·have e1 : ((i : Int) == 0) = true := by subst h1; rfl
  by_cases h2 : i = s.size
  ·have e2 : ((i : Int) == (s.size : Int)) = true := by rw [beq_iff_eq]; omega
   have hk : kdG s.size i = 3 := by simp [kdG, h1, ← h2]
   rw [hk]
   go_enter Try.func28, Try.ntmps28
   go_wp2
   go_ret
   exact ⟨rfl, rfl⟩
  ·have e2 : ((i : Int) == (s.size : Int)) = false := by rw [beq_eq_false_iff_ne]; omega
   have hk : kdG s.size i = 1 := by simp [kdG, h1]; omega
   rw [hk]
   go_enter Try.func28, Try.ntmps28
   go_wp2
   go_ret
   exact ⟨rfl, rfl⟩
 ·have e1 : ((i : Int) == 0) = false := by rw [beq_eq_false_iff_ne]; omega
  by_cases h2 : i = s.size
  ·have e2 : ((i : Int) == (s.size : Int)) = true := by rw [beq_iff_eq]; omega
   have hk : kdG s.size i = 2 := by simp [kdG, h1, ← h2]
   rw [hk]
   go_enter Try.func28, Try.ntmps28
   go_wp2
   go_ret
   exact ⟨rfl, rfl⟩
  ·have e2 : ((i : Int) == (s.size : Int)) = false := by rw [beq_eq_false_iff_ne]; omega
   have hk : kdG s.size i = 0 := by simp [kdG, h1, h2]
   rw [hk]
   go_enter Try.func28, Try.ntmps28
   go_wp2
   go_ret
   exact ⟨rfl, rfl⟩
theorem optional_cells (b0 b1 b2 b3 : Bool) (i1 i2 i3 i4 i5 i6 i7 i8 i10 i11 i12 i13 i14 i15 i16 i17 i19 i20 i21 i22 i23 i24 i25 i26 i28 i29 i30 i31 i32 i33 i34 i35 : Int) (w : World) : Calls Try.prog 69 #[.agg #[.bool b0, .int .u64 i1, .int .u64 i2, .int .u64 i3, .int .u64 i4, .int .u64 i5, .int .u64 i6, .int .u64 i7, .int .u64 i8, .bool b1, .int .u64 i10, .int .u64 i11, .int .u64 i12, .int .u64 i13, .int .u64 i14, .int .u64 i15, .int .u64 i16, .int .u64 i17, .bool b2, .int .u64 i19, .int .u64 i20, .int .u64 i21, .int .u64 i22, .int .u64 i23, .int .u64 i24, .int .u64 i25, .int .u64 i26, .bool b3, .int .u64 i28, .int .u64 i29, .int .u64 i30, .int .u64 i31, .int .u64 i32, .int .u64 i33, .int .u64 i34, .int .u64 i35]] w fun e w' => e = .returned (.agg #[.bool true, .int .u64 i1, .int .u64 i2, .int .u64 i3, .int .u64 i4, .int .u64 i5, .int .u64 i6, .int .u64 i7, .int .u64 i8, .bool true, .int .u64 i10, .int .u64 i11, .int .u64 i12, .int .u64 i13, .int .u64 i14, .int .u64 i15, .int .u64 i16, .int .u64 i17, .bool true, .int .u64 i19, .int .u64 i20, .int .u64 i21, .int .u64 i22, .int .u64 i23, .int .u64 i24, .int .u64 i25, .int .u64 i26, .bool true, .int .u64 i28, .int .u64 i29, .int .u64 i30, .int .u64 i31, .int .u64 i32, .int .u64 i33, .int .u64 i34, .int .u64 i35]) ∧ Below w.heap.size w w' := by
 go_enter Try.func69, Try.ntmps69
 go_wp2
 refine wp_loop_rounds 5 ?_
 rw [rounds_succ]; go_wp2
 rw [rounds_succ]; go_wp2
 rw [rounds_succ]; go_wp2
 rw [rounds_succ]; go_wp2
 rw [rounds_succ]; go_upto_region 6 with fail
 refine ret_part (b := w.heap.size) (b' := w.heap.size + 1) (cs := [.bool true, .int .u64 i1, .int .u64 i2, .int .u64 i3, .int .u64 i4, .int .u64 i5, .int .u64 i6, .int .u64 i7, .int .u64 i8, .bool true, .int .u64 i10, .int .u64 i11, .int .u64 i12, .int .u64 i13, .int .u64 i14, .int .u64 i15, .int .u64 i16, .int .u64 i17, .bool true, .int .u64 i19, .int .u64 i20, .int .u64 i21, .int .u64 i22, .int .u64 i23, .int .u64 i24, .int .u64 i25, .int .u64 i26, .bool true, .int .u64 i28, .int .u64 i29, .int .u64 i30, .int .u64 i31, .int .u64 i32, .int .u64 i33, .int .u64 i34, .int .u64 i35]) (zs := [.bool false, .int .u64 0, .int .u64 0, .int .u64 0, .int .u64 0, .int .u64 0, .int .u64 0, .int .u64 0, .int .u64 0, .bool false, .int .u64 0, .int .u64 0, .int .u64 0, .int .u64 0, .int .u64 0, .int .u64 0, .int .u64 0, .int .u64 0, .bool false, .int .u64 0, .int .u64 0, .int .u64 0, .int .u64 0, .int .u64 0, .int .u64 0, .int .u64 0, .int .u64 0, .bool false, .int .u64 0, .int .u64 0, .int .u64 0, .int .u64 0, .int .u64 0, .int .u64 0, .int .u64 0, .int .u64 0]) rfl (by assumption) rfl rfl (by decide) rfl ?_ ?_ rfl rfl (by simp [Value.oneCell']) rfl rfl ⟨rfl, ?_⟩
 ·exact (Below.heap_alloc _ _ _ (by simp)).trans (heap_alloc_new w _)
 ·have h := heap_alloc_new (w.alloc (.cells #[.bool true, .int .u64 i1, .int .u64 i2, .int .u64 i3, .int .u64 i4, .int .u64 i5, .int .u64 i6, .int .u64 i7, .int .u64 i8, .bool true, .int .u64 i10, .int .u64 i11, .int .u64 i12, .int .u64 i13, .int .u64 i14, .int .u64 i15, .int .u64 i16, .int .u64 i17, .bool true, .int .u64 i19, .int .u64 i20, .int .u64 i21, .int .u64 i22, .int .u64 i23, .int .u64 i24, .int .u64 i25, .int .u64 i26, .bool true, .int .u64 i28, .int .u64 i29, .int .u64 i30, .int .u64 i31, .int .u64 i32, .int .u64 i33, .int .u64 i34, .int .u64 i35] 81)) (.cells #[.bool false, .int .u64 0, .int .u64 0, .int .u64 0, .int .u64 0, .int .u64 0, .int .u64 0, .int .u64 0, .int .u64 0, .bool false, .int .u64 0, .int .u64 0, .int .u64 0, .int .u64 0, .int .u64 0, .int .u64 0, .int .u64 0, .int .u64 0, .bool false, .int .u64 0, .int .u64 0, .int .u64 0, .int .u64 0, .int .u64 0, .int .u64 0, .int .u64 0, .int .u64 0, .bool false, .int .u64 0, .int .u64 0, .int .u64 0, .int .u64 0, .int .u64 0, .int .u64 0, .int .u64 0, .int .u64 0] 81)
  rw [World.size_alloc] at h
  exact h
 ·exact below_setCells _ (by omega) _ _ _ (((Below.refl _ _).alloc (Nat.le_refl _) _).alloc (by simp) _)
theorem optional_any (p : PaB) (w : World) : Calls Try.prog 69 #[partV p] w fun e w' => e = .returned (partV (optB p)) ∧ Below w.heap.size w w' := optional_cells _ _ _ _ _ _ _ _ _ _ _ _ _ _ _ _ _ _ _ _ _ _ _ _ _ _ _ _ _ _ _ _ _ _ _ _ w
end Go.Proofs.Ytiedliahmjiadaa
namespace Go.Proofs.Ytiedliahmjiadaa
open Go.RowKit
def poV (x : PosB) : List Value := [.int .u64 (wd x.tk 0 : Nat), .int .u64 (wd x.tk 1 : Nat), .int .u64 (wd x.tk 2 : Nat), .int .u64 (wd x.tk 3 : Nat), .int .u64 (wd x.nx 0 : Nat), .int .u64 (wd x.nx 1 : Nat), .int .u64 (wd x.nx 2 : Nat), .int .u64 (wd x.nx 3 : Nat), .int .u64 (wd x.pr 0 : Nat), .int .u64 (wd x.pr 1 : Nat), .int .u64 (wd x.pr 2 : Nat), .int .u64 (wd x.pr 3 : Nat)]
def posV : List PosB → List Value
 | [] => []
 | x :: xs => poV x ++ posV xs
theorem poV_len (x : PosB) : (poV x).length = 12 := rfl
theorem posV_app (x : PosB) : ∀ ps : List PosB, posV (ps ++ [x]) = posV ps ++ poV x
 | [] => by simp [posV]
 | y :: ys => by simp only [List.cons_append, posV, posV_app x ys, List.append_assoc]
theorem posV_get (x : PosB) (k : Nat) (hk : k < 12) : ∀ (ps : List PosB) (p : Nat), ps[p]? = some x → (posV ps)[p * 12 + k]? = (poV x)[k]?
 | [], _, h => by simp at h
 | y :: ys, 0, h => by
  simp only [List.getElem?_cons_zero, Option.some.injEq] at h
  subst h
  simp only [posV, Nat.zero_mul, Nat.zero_add]
  rw [List.getElem?_append_left (by rw [poV_len]; exact hk)]
 | y :: ys, p + 1, h => by
  have := posV_get x k hk ys p (by simpa using h)
  simp only [posV]
  rw [List.getElem?_append_right (by rw [poV_len]; omega), poV_len, show (p + 1) * 12 + k - 12 = p * 12 + k by omega]
  exact this
theorem set12 (y : PosB) (l : List Value) (k : Nat) (v : Value) : (poV y ++ l).set (12 + k) v = poV y ++ l.set k v := by
 rw [List.set_append, poV_len, if_neg (by omega), Nat.add_sub_cancel_left]
def set4L (l : List Value) (k : Nat) (q : Nat → Bool) : List Value := (((l.set k (.int .u64 (wd q 0 : Nat))).set (k + 1) (.int .u64 (wd q 1 : Nat))).set (k + 2) (.int .u64 (wd q 2 : Nat))).set (k + 3) (.int .u64 (wd q 3 : Nat))
theorem posV_next (x : PosB) (q : Nat → Bool) : ∀ (ps : List PosB) (p : Nat), ps[p]? = some x → set4L (posV ps) (p * 12 + 4) q = posV (ps.set p ⟨x.tk, q, x.pr⟩)
 | [], _, h => by simp at h
 | y :: ys, 0, h => by
  simp only [List.getElem?_cons_zero, Option.some.injEq] at h
  subst h
  simp [set4L, posV, poV]
 | y :: ys, p + 1, h => by
  have := posV_next x q ys p (by simpa using h)
  simp only [posV, List.set_cons_succ]
  rw [← this]
  have e : ∀ j, (12 + (p * 12 + 4)) + j = 12 + (p * 12 + 4 + j) := fun j => by omega
  rw [show (p + 1) * 12 + 4 = 12 + (p * 12 + 4) by omega]
  simp only [set4L, e, set12]
theorem posV_prior (x : PosB) (q : Nat → Bool) : ∀ (ps : List PosB) (p : Nat), ps[p]? = some x → set4L (posV ps) (p * 12 + 8) q = posV (ps.set p ⟨x.tk, x.nx, q⟩)
 | [], _, h => by simp at h
 | y :: ys, 0, h => by
  simp only [List.getElem?_cons_zero, Option.some.injEq] at h
  subst h
  simp [set4L, posV, poV]
 | y :: ys, p + 1, h => by
  have := posV_prior x q ys p (by simpa using h)
  simp only [posV, List.set_cons_succ]
  rw [← this]
  have e : ∀ j, (12 + (p * 12 + 8)) + j = 12 + (p * 12 + 8 + j) := fun j => by omega
  rw [show (p + 1) * 12 + 8 = 12 + (p * 12 + 8) by omega]
  simp only [set4L, e, set12]
def webs : Obj → Bool
 | .cells _ e _ => e == 105 || e == 83
 | _ => false
structure WFr (B : Nat) (W W' : World) : Prop where
 below : Below B W W'
 same : ∀ (k : Nat) (o : Obj), W.heap[k]? = some o → webs o = false → W'.heap[k]? = some o
theorem WFr.refl (B : Nat) (W : World) : WFr B W W := ⟨Below.refl _ _, fun _ _ h _ => h⟩
theorem WFr.trans {B : Nat} {X Y Z : World} (h : WFr B X Y) (k : WFr B Y Z) : WFr B X Z := ⟨h.below.trans k.below, fun i o hi ho => k.same i o (h.same i o hi ho) ho⟩
theorem WFr.alloc {B : Nat} {X Y : World} (h : WFr B X Y) (hB : B ≤ Y.heap.size) (o : Obj) : WFr B X (Y.alloc o) :=
 ⟨h.below.alloc hB o, fun i o' hi ho => (Below.heap_alloc _ _ _ (Array.getElem?_eq_some_iff.1 (h.same i o' hi ho)).1).trans (h.same i o' hi ho)⟩
theorem WFr.put {B : Nat} {X Y : World} (h : WFr B X Y) {b : Nat} (hb : B ≤ b) {o : Obj} (ho : Y.heap[b]? = some o) (hm : webs o = true) (k : Nat) (u : Value) : WFr B X (Y.setCell ⟨b, k, none⟩ u) :=
 ⟨h.below.setCell (p := ⟨b, k, none⟩) hb u, fun i o' hi ho' => by
  have h1 := h.same i o' hi ho'
  refine (Below.heap_setCell Y ⟨b, k, none⟩ u i (fun e => ?_)).trans h1
  have e' : i = b := e
  rw [e', ho] at h1
  cases h1
  rw [hm] at ho'
  cases ho'⟩
theorem WFr.grown {B : Nat} {X Y Z : World} {row : Option Nat} (h : WFr B X Y) (g : Y.grownBy Z row) (hB : B ≤ Y.heap.size) (hr : ∀ r, row = some r → B ≤ r ∧ ∃ o, Y.heap[r]? = some o ∧ webs o = true) : WFr B X Z :=
 ⟨h.below.grown g hB (fun r e => (hr r e).1), fun i o' hi ho' => by
  have h1 := h.same i o' hi ho'
  refine (g.block i (Array.getElem?_eq_some_iff.1 h1).1 (fun e => ?_)).trans h1
  obtain ⟨_, o, ho, hm⟩ := hr i e.symm
  rw [ho] at h1
  cases h1
  rw [hm] at ho'
  cases ho'⟩
theorem WFr.of_below {B : Nat} {W W' : World} (h : Below W.heap.size W W') (hB : B ≤ W.heap.size) : WFr B W W' := ⟨h.mono hB, fun k _ hk _ => (h.block k (Array.getElem?_eq_some_iff.1 hk).1).trans hk⟩
structure WebAt (W : World) (B b : Nat) (ps : List PosB) (cs : List Value) : Prop where
 base : B ≤ b
 lay : ∃ v, W.heap[b]? = some (.cells (v :: cs).toArray 83 (0, 0)) ∧ W.ownsRow B 105 12 v ps.length (posV ps)
 len : ps.length ≤ 256
theorem WebAt.lt {W : World} {B b : Nat} {ps : List PosB} {cs : List Value} (h : WebAt W B b ps cs) : b < W.heap.size := by
 obtain ⟨v, hv, _⟩ := h.lay
 exact (Array.getElem?_eq_some_iff.1 hv).1
theorem WebAt.keep {W W' : World} {B b : Nat} {ps : List PosB} {cs : List Value} (h : WebAt W B b ps cs) (hh : ∀ (k : Nat) (o : Obj), W.heap[k]? = some o → o.isCells = true → W'.heap[k]? = some o) : WebAt W' B b ps cs := by
 obtain ⟨hb, ⟨v, hv, ho⟩, hl⟩ := h
 refine ⟨hb, ⟨v, hh _ _ hv rfl, owns_keep ho fun g hg => ?_⟩, hl⟩
 obtain ⟨_, _, cur, hc⟩ := owns_blk ho hg
 rw [hc]
 exact hh _ _ hc rfl
theorem WebAt.below {W W' : World} {B b : Nat} {ps : List PosB} {cs : List Value} (h : WebAt W B b ps cs) (hb : Below W.heap.size W W') : WebAt W' B b ps cs :=
 h.keep fun k _ hk _ => (hb.block k (Array.getElem?_eq_some_iff.1 hk).1).trans hk
theorem WebAt.row {W : World} {B b : Nat} {ps : List PosB} {cs : List Value} (h : WebAt W B b ps cs) : ∃ v, W.heap[b]? = some (.cells (v :: cs).toArray 83 (0, 0)) ∧ W.ownsRow B 105 12 v ps.length (posV ps) ∧ v.ownBlock ≠ some b := by
 obtain ⟨_, ⟨v, hv, ho⟩, _⟩ := h
 refine ⟨v, hv, ho, fun e => ?_⟩
 obtain ⟨_, _, cur, hc⟩ := owns_blk ho e
 rw [hv] at hc
 cases hc
theorem WebAt.at {W : World} {B b : Nat} {ps : List PosB} {cs : List Value} (h : WebAt W B b ps cs) {p : Nat} (hp : p < ps.length) : ∃ g cap, B ≤ g ∧ g ≠ b ∧ g < W.heap.size ∧ W.cell? ⟨b, 0, none⟩ = some (.slice (some ⟨g, 0, none⟩) ps.length cap) ∧ W.ownsRow B 105 12 (.slice (some ⟨g, 0, none⟩) ps.length cap) ps.length (posV ps) := by
 obtain ⟨v, hv, ho, hne⟩ := h.row
 have ho2 := ho
 rcases ho.2 with ⟨rfl, h0⟩ | ⟨g, cap, cur, rfl, hb, hh, _⟩
 ·omega
 ·refine ⟨g, cap, hb, fun e => hne (by rw [← e]; rfl), (Array.getElem?_eq_some_iff.1 hh).1, ?_, ho2⟩
  simp [World.cell?, hv]
theorem WebAt.cell0 {W : World} {B b : Nat} {ps : List PosB} {cs : List Value} (h : WebAt W B b ps cs) : ∃ a cap, W.cell? ⟨b, 0, none⟩ = some (.slice a ps.length cap) ∧ W.frozen? ⟨b, 0, none⟩ = false ∧ W.ownsRow B 105 12 (.slice a ps.length cap) ps.length (posV ps) := by
 obtain ⟨v, hv, ho, _⟩ := h.row
 have ho2 := ho
 rcases ho.2 with ⟨rfl, h0⟩ | ⟨g, cap, cur, rfl, hb, hh, _⟩
 ·have e : ps.length = 0 := h0
  rw [e] at ho2 ⊢
  exact ⟨none, 0, by simp [World.cell?, hv], by simp [World.frozen?, hv], ho2⟩
 ·exact ⟨_, cap, by simp [World.cell?, hv], by simp [World.frozen?, hv], ho2⟩
end Go.Proofs.Ytiedliahmjiadaa
