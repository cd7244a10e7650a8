/- emit: helpers; slices.Contains of strings. -/
import Derived.Test.YtcpokkpjeeblnaaGreatDoorKBa
import Derived.Test.YtcpokkpjeeblnaaGreatDoorKUk
import Derived.Test.YtcpokkpjeeblnaaGreatDoorKXw1
import Derived.Deep.MidRow
import Derived.Maps.OwnSet
set_option maxRecDepth 100000
set_option maxHeartbeats 4000000
namespace Go.Proofs.YtcpokkpjeeblnaaGreatDoor
open Go.RowKit
variable {P : Prop}
theorem bec0 (h : P := by
 go_wp2_with (first | (at_builtin; refine xgm (V := V) rfl _ _ 144 1 8 .nilFunc rfl Tryz.underlying144 xlm rfl B u5 (.func (.func 67) #[] #[ptr n1, ptr (bi + 1)]) (T.map (·.2)) rfl rfl HJV.out.ol _ rfl rfl HTL.out (by decide) HBV.out ?_; intro v7 w7 L7 G7 K7 B7; have H7 := hideT (And.intro L7 (And.intro G7 (And.intro K7 B7))); clear L7 G7 K7 B7))
 refine ⟨⟨k + 1, T ++ [(k, .func (.func 67) #[] #[ptr n1, ptr (bi + 1)])], by omega, by go_num, hideT ?_, hideT ?_, hideT ?_⟩, by simp [intOf]; omega⟩
 ·rw [HS2.out];exact (HJV.out.pushL k _ HLA.out H7.out.1 H7.out.2.2.1).bump
 ·rw [List.map_append, HTG.out, HT2.out]; rfl
 ·exact HWV.out.trans (by rw [<- HBB.out]; exact H7.out.2.2.2)) : P := h
theorem bec1 (h : P := by
 refine op_skip (w' := w2) rfl rfl (wanted_none rfl _) (ckp.update_skip rfl rfl rfl rfl HRUN.out) ?_;refine And.intro s1 ?_;refine wpAnyH_done (by kernel_rfl) ?_ _;simp only [Act.put];clear s0 s1 HRUN;go_wp2;refine ⟨⟨k + 1, T, by omega, by go_num, hideT ?_, hideT ?_, HW2⟩, by simp [intOf]; omega⟩
 ·rw [HS2.out]; exact HJ2.out
 ·rw [HTG.out, HT2.out]) : P := h
namespace em
theorem xd6 (b : Nat) : ∀ (vs : List Value) (W : World) (o : Nat), (W.setCells b o vs).heap.size = W.heap.size
 | [], _, _ => rfl
 | v :: vs, W, o => by
  rw [World.setCells, xd6 b vs];exact Array.size_modify ..
theorem xdj (b : Nat) : ∀ (vs : List Value) (W : World) (o : Nat), Below b W (W.setCells b o vs)
 | [], W, _ => Below.refl _ _
 | v :: vs, W, o => by
  rw [World.setCells];exact ((Below.refl b W).setCell (p := ⟨b, o, none⟩) qr v).trans (xdj b vs _ _)
theorem xb5 (s : List UInt8) : (bst s).toList = s := by rw [ByteArray.toList_eq]; exact xbu s
variable {s t : List UInt8}
theorem str_yes (h : s = t) : ((bst s).toList == (bst t).toList) = true /\ ((bst s).toList = (bst t).toList) = True := by
 rw [xb5, xb5, h]; simp
theorem str_not (h : s ≠ t) : ((bst s).toList == (bst t).toList) = false /\ ((bst s).toList = (bst t).toList) = False := by
 rw [xb5, xb5]; simp [h]
def TRow (W : World) (v : Value) (l : List (List UInt8)) : Prop := ∃ a cp, v = .slice a l.length cp /\ ∀ (k : Nat) (s : List UInt8), l[k]? = some s -> ∃ g o, a = some ⟨g, o, none⟩ /\ W.cell? ⟨g, o + k, none⟩ = some (.string (bst s))
theorem TRow.stay {W W' : World} {v : Value} {l : List (List UInt8)} (h : TRow W v l) (hb : Below W.heap.size W W') : TRow W' v l := by
 obtain ⟨a, cp, e, h⟩ := h;exact ⟨a, cp, e, fun k s hs => (let ⟨g, o, h1, h2⟩ := h k s hs; ⟨g, o, h1, keep_cell hb h2⟩)⟩
theorem xq1 (v : Value) (l : List (List UInt8)) (t : List UInt8) (W : World) (h : TRow W v l) (hl : l.length <= 1000000) : Calls Tryz.prog 101 #[v, .string (bst t)] W fun e w' => ∃ z : Int, e = .returned (.int .i64 z) /\ (0 <= z ↔ t ∈ l) /\ Below W.heap.size W w' := by
 obtain ⟨a, cp, rfl, h⟩ := h;have HH := hideT h;clear h;go_enter Tryz.func101, Tryz.ntmps101
 go_wp2_with fail
 go_loopw [8] (fun i wr => ∃ k : Nat, k <= l.length /\ i = .int .i64 k /\ Hid (t ∉ l.take k) /\ Hid (Below W.heap.size W wr)) (fun i _ => l.length - (intOf i).toNat)
 case atStart => exact ⟨0, by omega, rfl, hideT (by simp), hideT (Below.refl _ _)⟩
 case round =>
  obtain ⟨k, hk, rfl, HN, HW⟩ := hrel;by_cases hlt : k < l.length
  ·obtain ⟨g, o, rfl, hc⟩ := HH.out k _ (List.getElem?_eq_getElem hlt);have i1 : (k : Int) < (l.length : Int) := by omega
   have i2 : (0 : Int) <= (k : Int) := by omega
   have c1 := keep_cell HW.out hc;by_cases he : t = l[k]'hlt
   ·obtain ⟨e2, e3⟩ := str_yes he;have HM := hideT (show ((0 : Int) <= (k : Int)) ↔ t ∈ l from ⟨fun _ => he ▸ List.getElem_mem hlt, fun _ => i2⟩);rw [<- he] at c1 e2 e3;clear hc he;go_wp2;go_ret;exact ⟨_, rfl, HM.out, HW.out⟩
   ·obtain ⟨e2, e3⟩ := str_not he;have HM := hideT (show t ∉ l.take (k + 1) by
     rw [List.take_succ_eq_append_getElem hlt];intro hm;rcases List.mem_append.1 hm with hm | hm
     ·exact HN.out hm
     ·exact he (List.mem_singleton.1 hm))
    clear hc he;generalize (l[k]'hlt) = s at *;go_wp2;exact ⟨⟨k + 1, by omega, by go_num, HM, HW⟩, by simp [intOf]; omega⟩
  ·obtain rfl : k = l.length := by omega
   have i1 : ((l.length : Int) < (l.length : Int)) = False := qg;have HN2 := hideT (show ((0 : Int) <= -1) ↔ t ∈ l by
    have := HN.out;rw [List.take_length] at this;exact ⟨fun h => absurd h (by decide), fun h => absurd h this⟩)
   go_wp2;go_ret;exact ⟨_, rfl, HN2.out, HW.out⟩
theorem xj0 (v : Value) (l : List (List UInt8)) (t : List UInt8) (W : World) (h : TRow W v l) (hl : l.length <= 1000000) : Calls Tryz.prog 65 #[v, .string (bst t)] W fun e w' => e = .returned (.bool (decide (t ∈ l))) /\ Below W.heap.size W w' := by
 have HI := hideT (xq1 v l t W h hl);clear h;go_enter Tryz.func65, Tryz.ntmps65
 go_wp2_with fail
 refine HI.out.mono ?_;rintro e w1 ⟨z, rfl, hz, hb⟩;have HZ := hideT hz;have HB := hideT hb;clear hz hb HI;go_wp2;go_ret;exact ⟨by rw [<- decide_eq_decide.2 HZ.out]; rfl, HB.out⟩
end em
end Go.Proofs.YtcpokkpjeeblnaaGreatDoor
namespace Go.Proofs.YtcpokkpjeeblnaaGreatDoor
open Go.RowKit
open scanP scrP tpl ytb
namespace em
open emP
variable {w V W W' : World} {ops : Array Oper} {op : Oper} {a : Act} {Q : Exit -> Act -> World -> Prop} {l : List Co} {B k b g i bl be n ml me : Nat} {t : TypeId} {xs : List Value} {vo vo' vl : Value} {D : DataW Unit} {s : Js}
theorem xgm {rest : List Oper} (hgd : op.guard = none) (s x : Operand) (t e bytes : Nat) (z : Value)
  (ho : op.op = .call { callee := .builtin .append, args := #[s, x], argTypes := #[t, t] }) (ht : Tryz.prog.underlying t = some (.slice e)) (hi : (Tryz.prog.info? e).map (fun i => (i.zero, i.size, i.bytes)) = some (some z, 1, bytes)) (hz : z.cells.size = 1)
  (B : Nat) (v u : Value) (xs : List Value) (hw : w = V.alloc (.cells #[u] e)) (hs : a.eval s = v) (hL : V.ownsRow B e 1 v xs.length xs) (cp : Nat) (hx : a.eval x = .slice (some ⟨V.heap.size, 0, none⟩) 1 cp) (hu : u.oneCell' = true) (hl : xs.length <= 100000) (hb : bytes <= 100) (hB : B <= V.heap.size)
  (h : ∀ v' w', w'.ownsRow B e 1 v' (xs ++ [u]).length (xs ++ [u]) -> (∀ g, v'.ownBlock = some g -> v.ownBlock = some g \/ V.heap.size <= g) -> (∀ k, k < V.heap.size -> v.ownBlock ≠ some k -> w'.heap[k]? = V.heap[k]?) -> Below B V w' -> wpList Tryz.prog ops Q rest (a.put op.dst v') w') : wpList Tryz.prog ops Q (op :: rest) a w := by
 obtain ⟨i0, hi, hz0, hz1, hz2⟩ := info_parts hi;have hA := Bal V (.cells #[u] e);rw [<- hw] at hA;have hN : w.heap[V.heap.size]? = some (.cells #[u] e (0, 0)) := by rw [hw]; exact heap_alloc_new V _
 have hLw : w.ownsRow B e 1 v xs.length xs := owns_keep hL (fun g hg => hA.block g (owns_blk hL hg).2.1);have hsz : w.heap.size = V.heap.size + 1 := by rw [hw]; exact xcl V _
 refine wpList_append_lies w hgd s x t ho B e i0 _ 1 bytes ht hi hz0 hz1 hz2 hz (by decide) v xs.length xs hs hLw ⟨V.heap.size, 0, none⟩ 1 cp [u] hx rfl (fun j y hy => ?_) (fun y hy => by rw [List.mem_singleton.1 hy]; exact hu) (by decide) (by unfold maxLen; omega) (Nat.le_trans (Nat.mul_le_mul (show xs.length + 1 <= 100001 by omega) hb) (by decide)) (by omega) _ rfl ?_
 ·have hadd : (⟨V.heap.size, 0, none⟩ : Addr).add j = ⟨V.heap.size, j, none⟩ := by unfold Addr.add; split <;> simp_all
  rw [hadd];simp only [World.cell?, hN];simpa using hy
 ·intro g2 cap w' h1 h2 h3 _;have hbk : ∀ k, k < V.heap.size -> v.ownBlock ≠ some k -> w'.heap[k]? = V.heap[k]? := fun k hk hn => (h2.block k (by omega) (fun e => hn e.symm)).trans (hA.block k hk);refine h _ w' (by rw [List.length_append]; exact h1) (fun g hg => ?_) hbk ?_
  ·have : g2 = g := by simpa [Value.ownBlock] using hg
   subst this;rcases h3 with h3 | h3
   ·exact .inl h3
   ·exact .inr (by omega)
  ·refine ⟨h2.os.trans hA.os, h2.tape.trans hA.tape, h2.output.trans hA.output, Nat.le_trans hA.size h2.size, fun k hk => hbk k (by omega) (fun e => ?_)⟩;exact absurd (owns_blk hL e).1 (by omega)
def QRow (W : World) (v : Value) (l : List (Co × Value)) : Prop := ∃ a cp, v = .slice a l.length cp /\ (∀ x ∈ l, x.2.oneCell' = true) /\ ∀ (k : Nat) (x : Co × Value), l[k]? = some x -> ∃ g o, a = some ⟨g, o, none⟩ /\ W.rangeAt g (o + k * 19) (coV x.1 x.2)
theorem QRow.stay {v : Value} {l : List (Co × Value)} (h : QRow W v l) (hb : Below W.heap.size W W') : QRow W' v l := by
 obtain ⟨a, cp, e, h1, h⟩ := h;exact ⟨a, cp, e, h1, fun k s hs => (let ⟨g, o, h1, h2⟩ := h k s hs; ⟨g, o, h1, xdr h2 (hb.block g (xic h2))⟩)⟩
theorem xn4 (c : Co) (pv : Value) (W : World) : Calls Tryz.prog 64 #[.agg (coV c pv).toArray] W fun e w' => e = .returned (.bool (wrB c)) /\ Below W.heap.size W w' := by
 go_enter Tryz.func64, Tryz.ntmps64;go_upto_region 1 with fail
 have hb : Below W.heap.size W (W.alloc (.cells (coV c pv).toArray 71)) := (Below.refl _ _).alloc qr _;have hk : (W.alloc (.cells (coV c pv).toArray 71)).heap[W.heap.size]? = some (.cells (coV c pv).toArray 71) := heap_alloc_new W _;obtain ⟨X, hX⟩ : ∃ X, X = (W.alloc (.cells (coV c pv).toArray 71)) := ⟨_, rfl⟩;rw [<- hX] at hb hk ⊢;obtain ⟨N, hN⟩ : ∃ N, N = W.heap.size := ⟨_, rfl⟩;rw [<- hN] at hk ⊢;have HB := hideT hb;have p8 : X.cell? ⟨N, 8, none⟩ = some (.int .u8 c.nm.toNat) := by have h := range_block hk 8 _ rfl; simpa using h
 have p11 : X.cell? ⟨N, 11, none⟩ = some (.string (bst c.fl)) := by have h := range_block hk 11 _ rfl; simpa using h
 clear hX hb hk hN;by_cases k1 : c.nm = 119
 ·have m1 : ((c.nm.toNat : Int) == 119) = true := by rw [k1]; rfl
  have HV := hideT (show wrB c = true by unfold wrB; rw [k1]; rfl);clear k1;go_wp2;go_ret;rw [HV.out];exact ⟨rfl, HB.out⟩
 have m1 : ((c.nm.toNat : Int) == 119) = false := ckp.ne_byte c.nm 119 (by decide) k1;by_cases k2 : c.nm = 115
 ·have m2 : ((c.nm.toNat : Int) == 115) = true := by rw [k2]; rfl
  cases hf : c.fl with
  | nil =>
   have HV := hideT (show wrB c = false by unfold wrB; rw [k2, hf]; rfl);rw [hf] at p11;have e1 : ((bst []).toList = []) = True := by rw [xb5]; simp
   have e2 : (bst []).toList.isEmpty = true := by rw [xb5]; rfl
   clear k1 k2 hf;go_wp2;go_ret;rw [HV.out];exact ⟨rfl, HB.out⟩
  | cons b r =>
   have HV := hideT (show wrB c = true by unfold wrB; rw [k2, hf]; rfl);rw [hf] at p11;have e1 : ((bst (b :: r)).toList = []) = False := by rw [xb5]; simp
   have e2 : (bst (b :: r)).toList.isEmpty = false := by rw [xb5]; rfl
   have e3 : ((bst (b :: r)).toList == []) = false := by rw [xb5]; rfl
   clear k1 k2 hf;go_wp2;go_ret;rw [HV.out];exact ⟨rfl, HB.out⟩
 ·have m2 : ((c.nm.toNat : Int) == 115) = false := ckp.ne_byte c.nm 115 (by decide) k2;have HV := hideT (show wrB c = false by
   unfold wrB;rw [show (c.nm == 119) = false by rw [beq_eq_false_iff_ne]; exact k1, show (c.nm == 115) = false by rw [beq_eq_false_iff_ne]; exact k2]; rfl)
  clear k1 k2;go_wp2;go_ret;rw [HV.out];exact ⟨rfl, HB.out⟩
def zC : List Value := [.int .i64 0, .int .i64 0, .int .i64 0, .string ⟨#[]⟩, .int .i64 0, .int .i64 0, .string ⟨#[]⟩, .bool false, .int .u8 0, .string ⟨#[]⟩, .string ⟨#[]⟩, .string ⟨#[]⟩, .string ⟨#[]⟩, .slice none 0 0, .int .i64 0, .bool false, .bool false, .string ⟨#[]⟩, .string ⟨#[]⟩]
theorem run_zC {ev : Operand -> Value} (ho : op.op = .alloc 71) : (execOp ev op).run Tryz.prog w = .ok (.value (.pointer (some ⟨w.heap.size, 0, none⟩))) (w.alloc (.cells zC.toArray 71)) := by
 go_simp
 rfl
structure New (w w' : World) (T : TypeId) (xs : List Value) : Prop where
 blk : w'.heap[w.heap.size]? = some (.cells xs.toArray T (0, 0))
 bel : Below w.heap.size w w'
 sz : w'.heap.size = w.heap.size + 1
theorem xq2 {rest : List Oper} (hgd : op.guard = none) (ho : op.op = .alloc 71)
  (h : ∀ w', Hid (New w w' 71 zC) -> wpList Tryz.prog ops Q rest (a.put op.dst (.pointer (some ⟨w.heap.size, 0, none⟩))) w') : wpList Tryz.prog ops Q (op :: rest) a w :=
 xid hgd (run_zC ho) (h _ (hideT ⟨heap_alloc_new w _, (Below.refl _ _).alloc qr _, xcl w _⟩))
theorem xj1 {w0 : World} {rest : List Oper} (hgd : op.guard = none) (T : TypeId) (x y : Operand) (ho : op.op = .store T x y) (xs zs : List Value) (hx : a.eval x = .pointer (some ⟨w0.heap.size, 0, none⟩)) (hy : a.eval y = .agg xs.toArray) (hn : New w0 w T zs)
  (hl : zs.length = xs.length) (hi : (Tryz.prog.info? T).map (·.size) = some xs.length) (h1 : xs.toArray.all (·.oneCell') = true) (h : ∀ w', Hid (New w0 w' T xs) -> wpList Tryz.prog ops Q rest (a.put op.dst undef) w') : wpList Tryz.prog ops Q (op :: rest) a w := by
 have e : xs.toArray.size = xs.length := List.size_toArray;refine wpList_store_mid hgd T x y ho w0.heap.size 0 xs.toArray hx hy (xcd hn.blk _ (by rw [e]; exact hl)) (by rw [e]; exact hi) h1 (h _ (hideT ⟨xcs _ hn.blk hl, ?_, ?_⟩))
 ·exact hn.bel.trans (xdj _ _ _ _)
 ·rw [xd6]; exact hn.sz
def strV (fs : List (List UInt8)) : List Value := fs.map fun s => .string (bst s)
theorem xfv (fs : List (List UInt8)) : (strV fs).length = fs.length := List.length_map _
theorem TRow.of_owns {v : Value} {fs : List (List UInt8)} (h : W.ownsRow B 9 1 v fs.length (strV fs)) : TRow W v fs := by
 rcases h.2 with ⟨rfl, h0⟩ | ⟨g, cap, cur, rfl, hg, hh, hrest⟩
 ·have : fs = [] := List.eq_nil_of_length_eq_zero h0;subst this;exact ⟨none, 0, rfl, fun k s hs => by simp at hs⟩
 ·refine ⟨some ⟨g, 0, none⟩, cap, rfl, fun k s hs => ⟨g, 0, rfl, ?_⟩⟩;have h1 := h.cells (g := g) rfl k (.string (bst s)) (by unfold strV; rw [List.getElem?_map, hs]; rfl);have hplain : (⟨g, 0, none⟩ : Addr).add k = ⟨g, 0 + k, none⟩ := by unfold Addr.add; split <;> simp_all
  rw [hplain] at h1;exact h1
theorem infoStr : (Tryz.prog.info? 9).map (fun i => (i.zero, i.size, i.bytes)) = some (some (.string ⟨#[]⟩), 1, 16) := by kernel_rfl
theorem strV_app (fs : List (List UInt8)) (s : List UInt8) : strV (fs ++ [s]) = strV fs ++ [.string (bst s)] := by unfold strV; rw [List.map_append]; rfl
def WtPost (W : World) (R : Nat ⊕ List (List UInt8)) (e : Ending) (w' : World) : Prop := Below W.heap.size W w' /\ match R with
 | .inl p => e = .returned (.tuple #[.slice none 0 0, .agg #[.int .i64 4, .int .i64 p]])
 | .inr fs => ∃ fv, e = .returned (.tuple #[fv, .agg #[.int .i64 0, .int .i64 0]]) /\ w'.ownsRow W.heap.size 9 1 fv fs.length (strV fs)
theorem wt_step {c : Co} (h : l[k]? = some c) (fs : List (List UInt8)) : wtR (l.drop k) fs = if wrB c = false \/ c.fl ∈ fs then wtR (l.drop (k + 1)) fs else if fs.length = 16 then .inl c.pl else wtR (l.drop (k + 1)) (fs ++ [c.fl]) := by
 obtain ⟨hk, e⟩ := List.getElem?_eq_some_iff.1 h;rw [List.drop_eq_getElem_cons hk, e, wtR]
theorem xli (v : Value) (l : List (Co × Value)) (W : World) (h : QRow W v l) (hl : l.length <= 10000) : Calls Tryz.prog 42 #[v] W (WtPost W (wtR (l.map (·.1)) [])) := by
 obtain ⟨a, cp, rfl, h1, h⟩ := h;obtain ⟨R, hR⟩ : ∃ R, R = wtR (l.map (·.1)) [] := ⟨_, rfl⟩;rw [<- hR];have HR := hideT hR;have HH := hideT h;have HO := hideT h1;clear hR h h1;go_enter Tryz.func42, Tryz.ntmps42
 go_wp2_with fail
 have hA := Bal W (.cells #[.int .i64 0, .int .i64 0] 45);have hN := heap_alloc_new W (.cells #[.int .i64 0, .int .i64 0] 45);obtain ⟨Y, hY⟩ : ∃ Y, Y = W.alloc (.cells #[.int .i64 0, .int .i64 0] 45) := ⟨_, rfl⟩;rw [<- hY] at hA hN ⊢;obtain ⟨N, hNN⟩ : ∃ N, N = W.heap.size := ⟨_, rfl⟩;rw [<- hNN] at hN ⊢;have HN := hideT hN;have HA := hideT hA;have HNN := hideT hNN;clear hN hA hY hNN
 go_loopw [4, 9] (fun r i wr => ∃ (k : Nat) (fs : List (List UInt8)), k <= l.length /\ i = .int .i64 k /\ Hid (fs.length <= 16) /\ Hid (wtR ((l.map (·.1)).drop k) fs = R) /\ Hid (wr.ownsRow N 9 1 r (strV fs).length (strV fs)) /\ Hid (Below W.heap.size W wr /\ wr.heap[N]? = some (.cells #[.int .i64 0, .int .i64 0] 45))) (fun _ i _ => l.length - (intOf i).toNat)
 case atStart => exact ⟨0, [], by omega, rfl, hideT (by simp), hideT HR.out.symm, hideT (World.ownsRow_nil _ _ _ _), hideT ⟨HA.out, HN.out⟩⟩
 case round =>
  obtain ⟨k, fs, hk, rfl, HF, HT, HS, HW⟩ := hrel;by_cases hlt : k < l.length
  ·have hx := List.getElem?_eq_getElem hlt;obtain ⟨g, o, rfl, q1⟩ := HH.out k _ hx;have ho := HO.out _ (List.getElem_mem hlt);have hst := wt_step (l := l.map (·.1)) (k := k) (c := (l[k]'hlt).1) (by rw [List.getElem?_map, hx]; rfl) fs;rw [HT.out] at hst;generalize (l[k]'hlt) = x at *;obtain ⟨c, pv⟩ := x;simp only at q1 ho hst;have i1 : (k : Int) < (l.length : Int) := by omega
   have i2 : (0 : Int) <= (k : Int) := by omega
   have q2 := xdr q1 (HW.out.1.block g (xic q1));obtain ⟨xs, hxs⟩ : ∃ xs, xs = coV c pv := ⟨_, rfl⟩;have hlx : xs.length = 19 := by rw [hxs]; rfl
   rw [<- hxs] at q2;have HQ := hideT q2;have IM := hideT (show (Tryz.prog.info? 71).map (·.size) = some xs.length by rw [hlx]; exact xcm);have O9 := hideT (show xs.toArray.all (·.oneCell') = true by rw [hxs]; exact xd0 _ _ ho);have ZL := hideT (show zC.length = xs.length by rw [hlx]; rfl);have HX := hideT hxs;have HWr := hideT (fun V => show Calls Tryz.prog 64 #[.agg xs.toArray] V fun e w' => e = .returned (.bool (wrB c)) /\ Below V.heap.size V w' by rw [hxs]; exact xn4 c pv V);have HST := hideT hst;clear q1 q2 hxs hlx hst hx ho;obtain ⟨q, hq⟩ : ∃ q, q = wrB c := ⟨_, rfl⟩;rw [<- hq] at HWr HST;clear hq
   go_wp2_with (first | (refine wpList_load_mid rfl 71 _ rfl g (o + k * 19) rfl xs _ HQ.out xc9 rfl IM.out ?_) | (refine xq2 rfl rfl ?_; intro w1 H1) | (refine xj1 rfl 71 _ _ rfl xs zC rfl rfl H1.out ZL.out IM.out O9.out ?_; intro w2 H2) | (refine wpList_load_mid rfl 71 _ rfl wr.heap.size 0 rfl xs _ (range_block H2.out.blk) xc9 rfl IM.out ?_))
   refine (HWr.out w2).mono ?_;rintro e w3 ⟨rfl, hb3⟩;have hb23 := H2.out.bel.trans (hb3.mono (by rw [H2.out.sz]; omega));have hk3 := (hb3.block wr.heap.size (by rw [H2.out.sz]; omega)).trans H2.out.blk;have HB3 := hideT (And.intro (HW.out.1.trans (hb23.mono HW.out.1.size)) ((hb23.block N (xah HW.out.2)).trans HW.out.2));have HS3 := hideT (owns_below HS.out hb23);have HK3 := hideT hk3;have HN3 := hideT (Nat.le_of_lt (Nat.lt_of_lt_of_le (xah HW.out.2) hb23.size));clear hb3 hb23 hk3 H1 H2 HQ HWr HS HW;cases q with
   | false =>
    have HT2 := hideT (show wtR ((l.map (·.1)).drop (k + 1)) fs = R by rw [HST.out, if_pos (.inl rfl)]);go_wp2;exact ⟨⟨k + 1, fs, by omega, by go_num, HF, HT2, HS3, HB3⟩, by simp [intOf]; omega⟩
   | true =>
    have p11 : w3.cell? ⟨wr.heap.size, 11, none⟩ = some (.string (bst c.fl)) := CmAt.cell HK3.out 11 (by rw [HX.out]; rfl);have p0 : w3.cell? ⟨wr.heap.size, 0, none⟩ = some (.int .i64 c.pl) := CmAt.cell HK3.out 0 (by rw [HX.out]; rfl);have HCo := hideT (xj0 u4 fs c.fl w3 (TRow.of_owns (B := N) (by have := HS3.out; rw [xfv] at this; exact this)) (by have := HF.out; omega));obtain ⟨q, hq⟩ : ∃ q, q = decide (c.fl ∈ fs) := ⟨_, rfl⟩;rw [<- hq] at HCo;have HQ := hideT hq;clear hq
    go_wp2_with fail
    refine HCo.out.mono ?_;rintro e w4 ⟨rfl, hb4⟩;have HB4 := hideT (And.intro (HB3.out.1.trans (hb4.mono HB3.out.1.size)) ((hb4.block N (xah HB3.out.2)).trans HB3.out.2));have HS4 := hideT (owns_below HS3.out hb4);have c11 := keep_cell hb4 p11;have c0 := keep_cell hb4 p0;have HN4 := hideT (Nat.le_trans HN3.out hb4.size);clear hb4 HCo p11 p0 HS3 HB3 HK3 HX;cases q with
    | true =>
     have HT2 := hideT (show wtR ((l.map (·.1)).drop (k + 1)) fs = R by rw [HST.out, if_pos (.inr (of_decide_eq_true HQ.out.symm))]);clear c11 c0;go_wp2;exact ⟨⟨k + 1, fs, by omega, by go_num, HF, HT2, HS4, HB4⟩, by simp [intOf]; omega⟩
    | false =>
     have HST2 := hideT (show R = if fs.length = 16 then .inl c.pl else wtR ((l.map (·.1)).drop (k + 1)) (fs ++ [c.fl]) by rw [HST.out, if_neg (by rintro (h | h); cases h; exact absurd h (of_decide_eq_false HQ.out.symm))]);obtain ⟨a5, c5, hv5⟩ := owns_shape HS4.out;rw [xfv] at hv5;subst hv5;by_cases h16 : fs.length = 16
     ·have e16 : ((fs.length : Int) == 16) = true := by rw [h16]; rfl
      have HV := hideT (show R = .inl c.pl by rw [HST2.out, if_pos h16]);have r0 := clq 0 HB4.out.2 rfl;have r1 := clq 1 HB4.out.2 rfl;have f0 := fzq 0 HB4.out.2;have f1 := fzq 1 HB4.out.2;clear h16 HST HST2 c11;go_wp2;go_region
      all_goals go_wp2
      rw [HV.out];exact bodyPost_ret (v := .tuple #[.slice none 0 0, .agg #[.int .i64 4, .int .i64 c.pl]]) (by simp [results, Tryz.results42, go_sem, r0, r1]) rfl ⟨((HB4.out.1.setCell (p := ⟨N, 0, none⟩) (by rw [HNN.out]; exact Nat.le_refl _) _).setCell (p := ⟨N, 1, none⟩) (by rw [HNN.out]; exact Nat.le_refl _) _).drew, rfl⟩
     ·have e16 : ((fs.length : Int) == 16) = false := qn;have HV := hideT (show wtR ((l.map (·.1)).drop (k + 1)) (fs ++ [c.fl]) = R by rw [HST2.out, if_neg h16]);have H16 := hideT h16;clear c0 h16
      go_wp2_with (first | (at_builtin; refine xgm rfl _ _ 50 9 16 (.string ⟨#[]⟩) rfl Tryz.underlying50 infoStr rfl N _ (.string (bst c.fl)) (strV fs) rfl rfl HS4.out _ rfl rfl (by rw [xfv]; have := HF.out; omega) (by decide) HN4.out ?_; intro v6 w6 L6 G6 K6 B6; have H6 := hideT (And.intro L6 (And.intro G6 (And.intro K6 B6))); clear L6 G6 K6 B6))
      refine ⟨⟨k + 1, fs ++ [c.fl], by omega, by go_num, hideT (by rw [List.length_append, List.length_singleton]; have := HF.out; have := H16.out; omega), HV, hideT (by rw [strV_app]; exact H6.out.1), hideT ⟨?_, ?_⟩⟩, by simp [intOf]; omega⟩
      ·refine HB4.out.1.trans ?_;rw [<- HNN.out];exact H6.out.2.2.2
      ·refine (H6.out.2.2.1 N (xah HB4.out.2) (fun e => ?_)).trans HB4.out.2;obtain ⟨_, _, cur, hc⟩ := owns_blk HS4.out e;rw [HB4.out.2] at hc;simp at hc
  ·obtain rfl : k = l.length := by omega
   have i1 : ((l.length : Int) < (l.length : Int)) = False := qg;have HV := hideT (show R = .inr fs by
    have h1 := HT.out;rw [List.drop_of_length_le (by rw [List.length_map]; omega)] at h1;exact h1.symm)
   have r0 := clq 0 HW.out.2 rfl;have r1 := clq 1 HW.out.2 rfl;have f0 := fzq 0 HW.out.2;have f1 := fzq 1 HW.out.2;go_wp2;rw [HV.out];refine bodyPost_ret (v := .tuple #[u4, .agg #[.int .i64 0, .int .i64 0]]) (by simp [results, Tryz.results42, go_sem, r0, r1]) rfl ⟨(HW.out.1.setCell (p := ⟨N, 0, none⟩) (by rw [HNN.out]; exact Nat.le_refl _) _).setCell (p := ⟨N, 1, none⟩) (by rw [HNN.out]; exact Nat.le_refl _) _, u4, rfl, ?_⟩;have h1 := HS.out;rw [xfv] at h1;rw [<- HNN.out];refine owns_keep h1 (fun g hg => ?_);have hne : g ≠ N := fun e => by
    obtain ⟨_, _, cur, hc⟩ := owns_blk h1 hg;rw [e, HW.out.2] at hc;simp at hc
   rw [put_far _ _ _ _ hne, put_far _ _ _ _ hne]
def opV (c : Co) (pv : Value) (j s : Int) : List Value := coV c pv ++ [.int .i64 j, .int .i64 s]
theorem xij (c : Co) (pv : Value) (j s : Int) : (opV c pv j s).length = 21 := rfl
def opF (J S : Nat -> Int) : Nat -> List (Co × Value) -> List Value
 | _, [] => []
 | i, x :: r => opV x.1 x.2 (J i) (S i) ++ opF J S (i + 1) r
theorem xik (J S : Nat -> Int) : ∀ (l : List (Co × Value)) (i : Nat), (opF J S i l).length = l.length * 21
 | [], i => by simp [opF]
 | x :: r, i => by rw [opF, List.length_append, xij, xik J S r, List.length_cons]; omega
theorem xlj (J S : Nat -> Int) : ∀ (l m : List (Co × Value)) (i : Nat), opF J S i (l ++ m) = opF J S i l ++ opF J S (i + l.length) m
 | [], m, i => by simp [opF]
 | x :: r, m, i => by rw [List.cons_append, opF, opF, xlj J S r m, List.append_assoc, List.length_cons, show i + 1 + r.length = i + (r.length + 1) by omega]
theorem xep {J S J' S' : Nat -> Int} : ∀ (l : List (Co × Value)) (i : Nat), (∀ k, k < l.length -> J (i + k) = J' (i + k) /\ S (i + k) = S' (i + k)) -> opF J S i l = opF J' S' i l
 | [], i, h => rfl
 | x :: r, i, h => by
  have h0 := h 0 (by simp);rw [Nat.add_zero] at h0;rw [opF, opF, h0.1, h0.2, xep r (i + 1) (fun k hk => by have := h (k + 1) (by simp; omega); rw [show i + 1 + k = i + (k + 1) by omega]; exact this)]
theorem xgn (J S : Nat -> Int) {l : List (Co × Value)} {x : Co × Value} (h : l[k]? = some x) : opF J S 0 l = opF J S 0 (l.take k) ++ (opV x.1 x.2 (J k) (S k) ++ opF J S (k + 1) (l.drop (k + 1))) := by
 obtain ⟨hk, e⟩ := List.getElem?_eq_some_iff.1 h;have hl : l = l.take k ++ x :: l.drop (k + 1) := by rw [<- e, <- List.drop_eq_getElem_cons hk, List.take_append_drop]
 have ht : (l.take k).length = k := by rw [List.length_take]; omega
 conv => lhs; rw [hl]
 rw [xlj, opF, ht, Nat.zero_add]
theorem xhd (J S : Nat -> Int) {l : List (Co × Value)} {x : Co × Value} (h : l[k]? = some x) {m : Nat} {u : Value} (hu : (opV x.1 x.2 (J k) (S k))[m]? = some u) : (opF J S 0 l)[k * 21 + m]? = some u := by
 have hm := (List.getElem?_eq_some_iff.1 hu).1;have hk := (List.getElem?_eq_some_iff.1 h).1;have ht : (opF J S 0 (l.take k)).length = k * 21 := by rw [xik, List.length_take, Nat.min_eq_left (by omega)]
 rw [xgn J S h, List.getElem?_append_right (by omega), ht, Nat.add_sub_cancel_left, List.getElem?_append_left hm];exact hu
def slF (l : List Co) (i : Nat) : Int := match l[i]? with
 | none => -1
 | some c => if c.b.k = 0 then -1 else (slN (l.take i) : Nat)
theorem infoOp : (Tryz.prog.info? 98).map (fun i => (i.zero, i.size, i.bytes)) = some (some (.agg #[.int .i64 0, .int .i64 0, .int .i64 0, .string ⟨#[]⟩, .int .i64 0, .int .i64 0, .string ⟨#[]⟩, .bool false, .int .u8 0, .string ⟨#[]⟩, .string ⟨#[]⟩, .string ⟨#[]⟩, .string ⟨#[]⟩, .slice none 0 0, .int .i64 0, .bool false, .bool false, .string ⟨#[]⟩, .string ⟨#[]⟩, .int .i64 0, .int .i64 0]), 21, 232) := by kernel_rfl
theorem xlk : (Tryz.prog.info? 98).map (·.size) = some 21 := by kernel_rfl
theorem und_op : Tryz.prog.underlying 98 = some (.struct (Tryz.prog.fieldsOf 98)) := by kernel_rfl
theorem xll (c : Co) (pv : Value) (j s : Int) (hp : pv.oneCell' = true) : (opV c pv j s).toArray.all (·.oneCell') = true := by
 have h := xd0 c pv hp;rw [Array.all_eq_true_iff_forall_mem] at h ⊢;intro u hu;rw [List.mem_toArray, opV, List.mem_append] at hu;rcases hu with hu | hu
 ·exact h u (by simpa using hu)
 ·simp only [List.mem_cons, List.not_mem_nil, or_false] at hu;rcases hu with rfl | rfl <;> rfl
theorem bld_op {ev : Operand -> Value} (x : Operand) (c : Co) (bs : Option Addr) (n m : Nat) (hc : ∀ v, ev (.const v) = v) (ho : op.op = .build 98 #[(0, x), (2, .const (.int .i64 (-1)))]) (hx : ev x = .agg (coV c (.slice bs n m)).toArray) : (execOp ev op).run Tryz.prog w = .ok (.value (.agg (opV c (.slice bs n m) 0 (-1)).toArray)) w := by
 obtain ⟨i0, hi, hz0, hz1, hz2⟩ := info_parts infoOp;unfold coV at hx;unfold opV coV
 go_simp
 try rfl
theorem xq3 {pre cs suf : List Value} (h : W.heap[b]? = some (.cells (pre ++ (cs ++ suf)).toArray t (0, 0))) (o n : Nat) (ho : pre.length = o) (hn : cs.length = n) : W.there b o n := fun j hj => by
 have e : (pre ++ (cs ++ suf))[o + j]? = some cs[j] := by
  rw [List.getElem?_append_right (by omega), ho, Nat.add_sub_cancel_left, List.getElem?_append_left (by omega)];exact List.getElem?_eq_getElem (by omega)
 refine ⟨?_, ?_⟩
 ·simp [World.cell?, h, e]
 ·simp [World.frozen?, h]
structure Only (b : Nat) (w w' : World) : Prop where
 far : ∀ k, k ≠ b -> w'.heap[k]? = w.heap[k]?
 bel : Below b w w'
 sz : w'.heap.size = w.heap.size
theorem st_mid {rest : List Oper} (hgd : op.guard = none) (T : TypeId) (x y : Operand) (ho : op.op = .store T x y) (b o : Nat) (xs pre cs suf : List Value) (T2 : TypeId) (hx : a.eval x = .pointer (some ⟨b, o, none⟩)) (hy : a.eval y = .agg xs.toArray) (hb : w.heap[b]? = some (.cells (pre ++ (cs ++ suf)).toArray T2 (0, 0)))
  (hp : pre.length = o) (hl : cs.length = xs.length) (hi : (Tryz.prog.info? T).map (·.size) = some xs.length) (h1 : xs.toArray.all (·.oneCell') = true) (h : ∀ w', Hid (w'.heap[b]? = some (.cells (pre ++ (xs ++ suf)).toArray T2 (0, 0)) /\ Only b w w') -> wpList Tryz.prog ops Q rest (a.put op.dst undef) w') : wpList Tryz.prog ops Q (op :: rest) a w := by
 have e : xs.toArray.size = xs.length := List.size_toArray;refine wpList_store_mid hgd T x y ho b o xs.toArray hx hy (xq3 hb _ _ hp (by rw [e]; exact hl)) (by rw [e]; exact hi) h1 (h _ (hideT ⟨xdz b T2 _ xs pre cs suf w o hb hp hl, ?_, ?_, ?_⟩))
 ·exact fun k hk => xbg w b hk xs o
 ·exact xdj _ _ _ _
 ·exact xd6 ..
theorem xq4 (pre xs suf : List Value) (k : Nat) (u : Value) (hk : k < xs.length) : (pre ++ (xs ++ suf)).set (pre.length + k) u = pre ++ (xs.set k u ++ suf) := by
 rw [List.set_append_right _ _ (by omega), Nat.add_sub_cancel_left, List.set_append_left _ _ hk]
theorem xq5 (h : W.heap[g]? = some (.cells xs.toArray t (0, 0))) (u : Value) : (W.setCell ⟨g, k, none⟩ u).heap[g]? = some (.cells (xs.set k u).toArray t (0, 0)) := by
 obtain ⟨hlt, e⟩ := Array.getElem?_eq_some_iff.1 h;show (W.heap.modify g _)[g]? = _
 rw [Array.getElem?_eq_getElem (by rw [Array.size_modify]; exact hlt), Array.getElem_modify_self, e];simp
theorem CmAt2.cell (h : W.heap[g]? = some (.cells xs.toArray t (0, 0))) (j : Nat) {v : Value} (hj : xs[j]? = some v) : W.cell? ⟨g, j, none⟩ = some v := by simp [World.cell?, h, hj]
def FlPost (W : World) (l : List (Co × Value)) (e : Ending) (w' : World) : Prop := ∃ g, e = .returned (.tuple #[.slice (some ⟨g, 0, none⟩) l.length l.length, .int .i64 (slN (l.map (·.1)) : Nat)]) /\ W.heap.size <= g /\ w'.heap[g]? = some (.cells (opF (fun _ => 0) (slF (l.map (·.1))) 0 l).toArray 98) /\ Below W.heap.size W w'
theorem flat_any (v : Value) (l : List (Co × Value)) (W : World) (h : QRow W v l) (hsl : ∀ x ∈ l, ∃ b n m, x.2 = .slice b n m) (hl : l.length <= 10000) : Calls Tryz.prog 43 #[v] W (FlPost W l) := by
 obtain ⟨a, cp, rfl, h1, h⟩ := h;have HH := hideT h;have HO := hideT h1;have HSL := hideT hsl;clear h h1 hsl;obtain ⟨arr, harr, hmk⟩ : ∃ arr : List Value, arr.length = l.length * 21 /\ ∀ V : World, (Instr.makeSlice 49 (.int .i64 l.length) (.int .i64 l.length)).run Tryz.prog V = .ok (.slice (some ⟨V.heap.size, 0, none⟩) l.length l.length) (V.alloc (.cells arr.toArray 98)) := by
  obtain ⟨i0, hi, hz0, hz1, hz2⟩ := info_parts infoOp;refine ⟨(madeCells (Value.agg #[.int .i64 0, .int .i64 0, .int .i64 0, .string ⟨#[]⟩, .int .i64 0, .int .i64 0, .string ⟨#[]⟩, .bool false, .int .u8 0, .string ⟨#[]⟩, .string ⟨#[]⟩, .string ⟨#[]⟩, .string ⟨#[]⟩, .slice none 0 0, .int .i64 0, .bool false, .bool false, .string ⟨#[]⟩, .string ⟨#[]⟩, .int .i64 0, .int .i64 0]).cells (l.length * 21)).toList, ?_, fun V => ?_⟩
  ·rw [Array.length_toList]; exact size_madeCells _ _
  ·have := run_makeSlice (P := Tryz.prog) (w := V) 49 98 i0 _ Tryz.underlying49 hi hz0 .i64 .i64 l.length l.length (by omega) (Int.le_refl _) (by rw [hz1, Int.toNat_natCast]; omega) (by rw [hz2]; omega) (by omega);rw [hz1, Int.toNat_natCast] at this;rw [this, Array.toArray_toList]
 have HAR := hideT harr;clear harr;go_enter Tryz.func43, Tryz.ntmps43
 go_wp2_with fail
 have hA := Bal W (.cells arr.toArray 98);have hN := heap_alloc_new W (.cells arr.toArray 98);obtain ⟨Y, hY⟩ : ∃ Y, Y = W.alloc (.cells arr.toArray 98) := ⟨_, rfl⟩;rw [<- hY] at hA hN ⊢;obtain ⟨N, hNN⟩ : ∃ N, N = W.heap.size := ⟨_, rfl⟩;rw [<- hNN] at hN ⊢;have HN := hideT hN;have HA := hideT hA;have HNN := hideT hNN;clear hN hA hY hNN hmk;obtain ⟨S, hS⟩ : ∃ S, S = slF (l.map (·.1)) := ⟨_, rfl⟩;have HSF := hideT hS;clear hS
 go_loopw [5, 13] (fun s i wr => ∃ (k : Nat) (suf : List Value), k <= l.length /\ i = .int .i64 k /\ s = .int .i64 (slN ((l.map (·.1)).take k) : Nat) /\ Hid (wr.heap[N]? = some (.cells (opF (fun _ => 0) S 0 (l.take k) ++ suf).toArray 98) /\ suf.length = (l.length - k) * 21) /\ Hid (Below W.heap.size W wr)) (fun _ i _ => l.length - (intOf i).toNat)
 case atStart => exact ⟨0, arr, by omega, rfl, rfl, hideT ⟨by simpa [opF] using HN.out, by rw [HAR.out]; rfl⟩, HA⟩
 case round =>
  obtain ⟨k, suf, hk, rfl, rfl, HB, HW⟩ := hrel;by_cases hlt : k < l.length
  ·have hx := List.getElem?_eq_getElem hlt;obtain ⟨g, o, rfl, q1⟩ := HH.out k _ hx;have ho := HO.out _ (List.getElem_mem hlt);obtain ⟨pb, pn, pm, hpv⟩ := HSL.out _ (List.getElem_mem hlt);have hmx : (l.map (·.1))[k]? = some (l[k]'hlt).1 := by rw [List.getElem?_map, hx]; rfl
   have htk : l.take (k + 1) = l.take k ++ [l[k]'hlt] := List.take_succ_eq_append_getElem hlt;have hsn : slN ((l.map (·.1)).take (k + 1)) = slN ((l.map (·.1)).take k) + (if (l[k]'hlt).1.b.k = 0 then 0 else 1) := by
    have : (l.map (·.1)).take (k + 1) = (l.map (·.1)).take k ++ [(l[k]'hlt).1] := by rw [<- List.map_take, htk, List.map_append, List.map_take]; rfl
    rw [this, slN_app];simp [slN]
   have hsk : S k = if (l[k]'hlt).1.b.k = 0 then (-1 : Int) else ((slN ((l.map (·.1)).take k) : Nat) : Int) := by rw [HSF.out, slF, hmx]
   have hfl : ∀ j s, opF (fun _ => 0) S 0 (l.take k) ++ opV (l[k]'hlt).1 (l[k]'hlt).2 j s = opF (fun _ => 0) S 0 (l.take (k + 1)) \/ ¬ (j = 0 /\ s = S k) := fun j s => by
    by_cases e : j = 0 /\ s = S k
    ·left;rw [htk, xlj, opF, opF, List.append_nil, List.length_take, Nat.min_eq_left (by omega), Nat.zero_add, e.1, e.2]
    ·exact .inr e
   generalize (l[k]'hlt) = x at *;obtain ⟨c, pv⟩ := x;simp only at q1 ho hpv hsn hsk hfl;subst hpv;have i1 : (k : Int) < (l.length : Int) := by omega
   have i2 : (0 : Int) <= (k : Int) := by omega
   have q2 := xdr q1 (HW.out.block g (xic q1));obtain ⟨xs, hxs⟩ : ∃ xs, xs = coV c (.slice pb pn pm) := ⟨_, rfl⟩;have hlx : xs.length = 19 := by rw [hxs]; rfl
   rw [<- hxs] at q2;have HQ := hideT q2;have IM := hideT (show (Tryz.prog.info? 71).map (·.size) = some xs.length by rw [hlx]; exact xcm);have O9 := hideT (show xs.toArray.all (·.oneCell') = true by rw [hxs]; exact xd0 _ _ ho);have ZL := hideT (show zC.length = xs.length by rw [hlx]; rfl);obtain ⟨ys, hys⟩ : ∃ ys, ys = opV c (.slice pb pn pm) 0 (-1) := ⟨_, rfl⟩;have HBL := hideT (fun (ev : Operand -> Value) (op : Oper) (w : World) (x : Operand) (hc : ∀ v, ev (.const v) = v) (ho : op.op = .build 98 #[(0, x), (2, .const (.int .i64 (-1)))]) (hx : ev x = .agg xs.toArray) => show (execOp ev op).run Tryz.prog w = .ok (.value (.agg ys.toArray)) w by rw [hys]; exact bld_op x c pb pn pm hc ho (by rw [hx, hxs]));have IO := hideT (show (Tryz.prog.info? 98).map (·.size) = some ys.length by rw [hys]; exact xlk);have OO := hideT (show ys.toArray.all (·.oneCell') = true by rw [hys]; exact xll _ _ _ _ ho);have HX := hideT hxs;have HY := hideT hys;have hpl : (opF (fun _ => 0) S 0 (l.take k)).length = k * 21 := by rw [xik, List.length_take, Nat.min_eq_left (by omega)]
   have HPL := hideT hpl;obtain ⟨c0, suf2, hsu, hc0⟩ : ∃ c0 suf2, suf = c0 ++ suf2 /\ c0.length = 21 := ⟨suf.take 21, suf.drop 21, (List.take_append_drop 21 suf).symm, by rw [List.length_take, HB.out.2]; omega⟩;have hs2 : suf2.length = (l.length - (k + 1)) * 21 := by
    have := HB.out.2;rw [hsu, List.length_append, hc0] at this;omega
   have hNW : N < wr.heap.size := xah HB.out.1;have HBK := hideT (show wr.heap[N]? = some (.cells (opF (fun _ => 0) S 0 (l.take k) ++ (c0 ++ suf2)).toArray 98) by rw [<- hsu]; exact HB.out.1);have HCL := hideT (show c0.length = ys.length by rw [hc0, hys]; rfl);have HS2 := hideT hs2;have HFL := hideT hfl;have HSN := hideT hsn;have HSK := hideT hsk;have HNW := hideT hNW;clear q1 q2 hxs hys hlx hx ho hmx htk hsu hc0 hs2 hpl hfl hsn hsk hNW;go_upto_region 7 with (first | (refine wpList_load_mid rfl 71 _ rfl g (o + k * 19) rfl xs _ HQ.out xc9 rfl IM.out ?_) | (refine xq2 rfl rfl ?_; intro w1 H1) | (refine xj1 rfl 71 _ _ rfl xs zC rfl rfl H1.out ZL.out IM.out O9.out ?_; intro w2 H2) | (refine wpList_load_mid rfl 71 _ rfl wr.heap.size 0 rfl xs _ (range_block H2.out.blk) xc9 rfl IM.out ?_) | (refine xid rfl (HBL.out _ _ _ _ (fun _ => rfl) rfl rfl) ?_) | (refine st_mid rfl 98 _ _ rfl N (k * 21) ys _ c0 suf2 98 rfl rfl ((H2.out.bel.block N HNW.out).trans HBK.out) HPL.out HCL.out IO.out OO.out ?_; intro w3 H3))
   have p4 : w3.cell? ⟨wr.heap.size, 4, none⟩ = some (.int .i64 c.b.k) := CmAt.cell (xs := xs) ((H3.out.2.far _ (by have := HNW.out; omega)).trans H2.out.blk) 4 (by rw [HX.out]; rfl);have HW3 := hideT (show Below W.heap.size W w3 from (HW.out.trans (H2.out.bel.mono HW.out.size)).trans (by rw [<- HNN.out]; exact H3.out.2.bel));have HB3 := hideT H3.out.1;clear H1 H2 H3 HQ HBL HBK HB HW;by_cases hb : c.b.k = 0
   ·have z1 : ((c.b.k : Int) != 0) = false := by rw [hb]; rfl
    have HR := hideT (show w3.heap[N]? = some (.cells (opF (fun _ => 0) S 0 (l.take (k + 1)) ++ suf2).toArray 98) by
     have h1 := HB3.out;rw [HY.out, <- List.append_assoc] at h1;rcases HFL.out 0 (-1) with h2 | h2
     ·rw [h2] at h1; exact h1
     ·exact absurd ⟨rfl, by rw [HSK.out, if_pos hb]⟩ h2)
    have HSN2 := hideT (show slN ((l.map (·.1)).take (k + 1)) = slN ((l.map (·.1)).take k) by rw [HSN.out, if_pos hb]; rfl);clear hb;go_wp2;exact ⟨⟨k + 1, suf2, by omega, by go_num, by rw [HSN2.out], hideT ⟨HR.out, HS2.out⟩, HW3⟩, by simp [intOf]; omega⟩
   ·have z1 : ((c.b.k : Int) != 0) = true := qb;obtain ⟨sn, hsn⟩ : ∃ sn, sn = slN ((l.map (·.1)).take k) := ⟨_, rfl⟩;have HR := hideT (show (w3.setCell ⟨N, k * 21 + 20, none⟩ (.int .i64 sn)).heap[N]? = some (.cells (opF (fun _ => 0) S 0 (l.take (k + 1)) ++ suf2).toArray 98) by
     have h1 := xq5 (k := k * 21 + 20) HB3.out (.int .i64 sn);rw [<- HPL.out, xq4 _ _ _ _ _ (by rw [HY.out, xij]; decide), HPL.out, HY.out] at h1;rcases HFL.out 0 (sn : Nat) with h2 | h2
     ·rw [<- h2, List.append_assoc]; exact h1
     ·exact absurd ⟨rfl, by rw [HSK.out, if_neg hb, hsn]⟩ h2)
    have HSN2 := hideT (show slN ((l.map (·.1)).take (k + 1)) = sn + 1 by rw [HSN.out, if_neg hb, hsn]);have hb3 := HB3.out;have e20 : (opF (fun _ => 0) S 0 (l.take k) ++ (ys ++ suf2))[k * 21 + 20]? = some (.int .i64 (-1)) := by
     rw [List.getElem?_append_right (by rw [HPL.out]; omega), HPL.out, Nat.add_sub_cancel_left, List.getElem?_append_left (by rw [HY.out, xij]; decide), HY.out]; rfl
    have c20 : w3.cell? ⟨N, k * 21 + 20, none⟩ = some (.int .i64 (-1)) := CmAt2.cell hb3 _ e20;have f20 := fzq (k * 21 + 20) hb3;have HBE := hideT (show Below W.heap.size W (w3.setCell ⟨N, k * 21 + 20, none⟩ (.int .i64 sn)) from HW3.out.setCell (p := ⟨N, k * 21 + 20, none⟩) (by rw [HNN.out]; exact Nat.le_refl _) _);have HSL2 := hideT (show (sn : Int) <= 10000 by
     have : ∀ m : List Co, slN m <= m.length := fun m => by
      induction m with
      | nil => simp [slN]
      | cons y r ih => simp only [slN, List.length_cons]; split <;> omega
     have h1 := this ((l.map (·.1)).take k);rw [List.length_take, List.length_map] at h1;rw [hsn]; omega)
    have wsn : IntKind.i64.wrap ((sn : Int) + 1) = (sn : Int) + 1 := by have := HSL2.out; rw [IntKind.wrap_i64]; omega
    rw [<- hsn];clear hb hsn hb3 e20 HB3;go_wp2;exact ⟨⟨k + 1, suf2, by omega, by go_num, by rw [HSN2.out]; go_num, hideT ⟨HR.out, HS2.out⟩, HBE⟩, by simp [intOf]; omega⟩
  ·obtain rfl : k = l.length := by omega
   have i1 : ((l.length : Int) < (l.length : Int)) = False := qg;have HR := hideT (show wr.heap[N]? = some (.cells (opF (fun _ => 0) (slF (l.map (·.1))) 0 l).toArray 98) by
    have h1 := HB.out.1;have h2 : suf = [] := List.eq_nil_of_length_eq_zero (by rw [HB.out.2]; omega);rw [List.take_length, h2, List.append_nil, HSF.out] at h1;exact h1)
   have e1 : (l.map (·.1)).take l.length = l.map (·.1) := List.take_of_length_le (by rw [List.length_map]; omega);rw [e1];clear HB e1;go_wp2
   go_ret2
   exact ⟨N, rfl, by rw [HNN.out]; exact Nat.le_refl _, HR.out, HW.out⟩
abbrev ptr (b : Nat) : Value := .pointer (some ⟨b, 0, none⟩)
theorem cell0 {v : Value} (h : W.heap[b]? = some (.cells #[v] t (0, 0))) : W.cell? ⟨b, 0, none⟩ = some v := by simp [World.cell?, h]
theorem look_yf {P : Program} {o : Oper} {m x : Operand} {ev : Operand -> Value} {mv kv r : Value} (ho : o.op = .lookup t m x false) (hm : ev m = mv) (hx : ev x = kv) (h : (Instr.lookup t mv kv false).run P V = .ok r V) : (execOp ev o).run P V = .ok (.value r) V := by
 simp [execOp, ho, hm, hx, h, Result.andThen]
theorem lay1 (W : World) (g i be bi bo me : Nat) (E : Int) (h1 : W.heap[bo]? = some (.cells #[.pointer (some ⟨g, i * 21, none⟩)] 145)) (h2 : W.heap[bi]? = some (.cells #[.int .i64 i] 3)) (h3 : W.heap[be]? = some (.cells #[.map (some me)] 143))
  (hlk : (Instr.lookup 143 (.map (some me)) (.int .i64 i) false).run Tryz.prog W = .ok (.int .i64 E) W) (v : Value) (hc : W.cell? ⟨g, i * 21 + 19, none⟩ = some v) (hf : W.frozen? ⟨g, i * 21 + 19, none⟩ = false) : Calls Tryz.prog 66 #[ptr be, ptr bi, ptr bo] W fun e w' => e = .returned (.tuple #[]) /\ w' = W.setCell ⟨g, i * 21 + 19, none⟩ (.int .i64 E) := by
 have c1 := cell0 h1;have c2 := cell0 h2;have c3 := cell0 h3;clear h1 h2 h3;go_enter Tryz.func66, Tryz.ntmps66;go_wp2
 go_end0
 exact ⟨rfl, rfl⟩
def Lay2S (W : World) (g i bl bo ml : Nat) (s : List UInt8) (V : World) : Prop := V.cell? ⟨bo, 0, none⟩ = some (.pointer (some ⟨g, i * 21, none⟩)) /\ V.cell? ⟨bl, 0, none⟩ = some (.map (some ml)) /\ V.cell? ⟨g, i * 21 + 9, none⟩ = some (.string (bst s)) /\ V.heap[ml]? = W.heap[ml]?
theorem lay2 (W : World) (g i bl bo ml : Nat) (E : Int) (s : List UInt8) (h1 : W.heap[bo]? = some (.cells #[.pointer (some ⟨g, i * 21, none⟩)] 145)) (h3 : W.heap[bl]? = some (.cells #[.map (some ml)] 142)) (h4 : W.cell? ⟨g, i * 21 + 9, none⟩ = some (.string (bst s)))
  (hlk : ∀ V : World, V.heap[ml]? = W.heap[ml]? -> (Instr.lookup 142 (.map (some ml)) (.string (bst s)) false).run Tryz.prog V = .ok (.int .i64 E) V) (v : Value) (hc : W.cell? ⟨g, i * 21 + 19, none⟩ = some v) (hf : W.frozen? ⟨g, i * 21 + 19, none⟩ = false) (n3 : ml ≠ g) : Calls Tryz.prog 67 #[ptr bl, ptr bo] W fun e w' => e = .returned (.tuple #[]) /\ w' = (W.setCell ⟨g, i * 21 + 19, none⟩ (.int .i64 E)).drew := by
 have HL := hideT hlk;have s0 : Lay2S W g i bl bo ml s W.drew := ⟨cell0 h1, cell0 h3, h4, rfl⟩;have s1 : Lay2S W g i bl bo ml s (W.drew.setCell ⟨g, i * 21 + 19, none⟩ (.int .i64 E)) := ⟨(World.cell?_setCell_other _ _ _ _ (by simp)).trans (cell0 h1), (World.cell?_setCell_other _ _ _ _ (by simp)).trans (cell0 h3), (World.cell?_setCell_other _ _ _ _ (by simp)).trans h4, put_far _ _ _ _ n3⟩;clear h1 h3 hlk h4 n3;go_enter Tryz.func67, Tryz.ntmps67
 go_wp2_with fail
 refine wp_region_held (S := Lay2S W g i bl bo ml s) (by kernel_rfl) ?_
 refine' take_d 0 (some 2) rfl rfl (by kernel_rfl) (by kernel_rfl) (by kernel_rfl) (fun _ _ _ h => h) (wanted_none rfl _) s0 ?tk1 ?rs1
 case tk1 => intro V hV; have hc := hV.1; go_simp; (try with_reducible rfl)
 refine' take_d 1 (some 3) rfl rfl (by kernel_rfl) (by kernel_rfl) (by kernel_rfl) (fun _ _ _ h => h) (wanted_none rfl _) s0 ?tk2 ?rs2
 case tk2 => intro V hV; have hc := hV.2.1; go_simp; (try with_reducible rfl)
 refine' take_d 2 (some 4) rfl rfl (by kernel_rfl) (by kernel_rfl) (by kernel_rfl) (fun _ _ _ h => h) (wanted_none rfl _) s0 ?tk3 ?rs3
 case tk3 => intro V hV; have hc := hV.1; go_simp; (try with_reducible rfl)
 refine' take_d 3 (some 5) rfl rfl (by kernel_rfl) (by kernel_rfl) (by kernel_rfl) (fun _ _ _ h => h) (wanted_none rfl _) s0 ?tk4 ?rs4
 case tk4 => intro V hV; go_simp; (try with_reducible rfl)
 refine' take_d 4 (some 6) rfl rfl (by kernel_rfl) (by kernel_rfl) (by kernel_rfl) (fun _ _ _ h => h) (wanted_none rfl _) s0 ?tk5 ?rs5
 case tk5 => intro V hV; go_simp; (try with_reducible rfl)
 refine' take_d 5 (some 7) rfl rfl (by kernel_rfl) (by kernel_rfl) (by kernel_rfl) (fun _ _ _ h => h) (wanted_none rfl _) s0 ?tk6 ?rs6
 case tk6 => intro V hV; go_simp; (try with_reducible rfl)
 refine' take_d 6 (some 8) rfl rfl (by kernel_rfl) (by kernel_rfl) (by kernel_rfl) (fun _ _ _ h => h) (wanted_none rfl _) s0 ?tk7 ?rs7
 case tk7 => intro V hV; have hc := hV.2.2.1; go_simp; (try with_reducible rfl)
 simp only [Act.put, List.setIfInBounds_toArray, List.set_cons_zero, List.set_cons_succ]
 refine' take_d 7 (some 9) rfl rfl (by kernel_rfl) (by kernel_rfl) (by kernel_rfl) (fun _ _ _ h => h) (wanted_none rfl _) s0 ?tk8 ?rs8
 case tk8 => intro V hV; exact look_yf rfl rfl rfl (HL.out V hV.2.2.2)
 refine' take_d 8 (some 10) rfl rfl (by kernel_rfl) (by kernel_rfl) (by kernel_rfl) (fun _ _ _ h => h) (wanted_none rfl _) s0 ?tk9 ?rs9
 case tk9 => intro V hV; go_simp; (try with_reducible rfl)
 refine' take_d 9 (some 11) rfl rfl (by kernel_rfl) (by kernel_rfl) (by kernel_rfl) (fun _ _ _ h => h) (wanted_none rfl _) s0 ?tk10 ?rs10
 case tk10 => intro V hV; go_simp; (try with_reducible rfl)
 simp only [Act.put, List.setIfInBounds_toArray, List.set_cons_zero, List.set_cons_succ];refine wpAnyH_all (rs := [10]) (by kernel_rfl) (by simp) (fun j hj => ?_);obtain rfl : j = 10 := List.mem_singleton.1 hj;refine op_skip (w' := W.drew.setCell ⟨g, i * 21 + 19, none⟩ (.int .i64 E)) rfl rfl (wanted_none rfl _) (by go_simp; (try with_reducible rfl)) ?_;refine And.intro s1 ?_;refine wpAnyH_done (by kernel_rfl) ?_ _;simp only [Act.put];clear s0 s1;go_wp2
 go_end0
 exact ⟨rfl, rfl⟩
def inV (l : List Nat) : List Value := l.map fun i => .int .i64 (i : Nat)
theorem xq6 (l : List Nat) (i : Nat) : inV (l ++ [i]) = inV l ++ [.int .i64 i] := by unfold inV; rw [List.map_append]; rfl
theorem xq7 (l : List Nat) : (inV l).length = l.length := List.length_map _
def isJ (c : Co) : Bool := c.nm == 123 || c.nm == 98 || c.nm == 116
def tgR (l : List Co) : Nat -> List Nat
 | 0 => []
 | k + 1 => match l[k]? with
  | none => tgR l k
  | some c => if isJ c then tgR l k ++ [k] else tgR l k
theorem xmy (l : List Co) : ∀ (k i : Nat), i ∈ tgR l k ↔ i < k /\ ∃ c, l[i]? = some c /\ isJ c = true
 | 0, i => by simp [tgR]
 | k + 1, i => by
  rw [tgR];cases hc : l[k]? with
  | none =>
   simp only;rw [xmy l k i];constructor
   ·rintro ⟨h1, h2⟩; exact ⟨by omega, h2⟩
   ·rintro ⟨h1, c, h2, h3⟩;refine ⟨?_, c, h2, h3⟩;rcases Nat.lt_or_ge i k with h | h
    ·exact h
    ·obtain rfl : i = k := by omega
     rw [hc] at h2; cases h2
  | some c =>
   simp only;split
   ·rename_i hj;rw [List.mem_append, xmy l k i, List.mem_singleton];constructor
    ·rintro (⟨h1, h2⟩ | rfl)
     ·exact ⟨by omega, h2⟩
     ·exact ⟨by omega, c, hc, hj⟩
    ·rintro ⟨h1, h2⟩;rcases Nat.lt_or_ge i k with h | h
     ·exact .inl ⟨h, h2⟩
     ·exact .inr (by omega)
   ·rename_i hj;rw [xmy l k i];constructor
    ·rintro ⟨h1, h2⟩; exact ⟨by omega, h2⟩
    ·rintro ⟨h1, d, h2, h3⟩;refine ⟨?_, d, h2, h3⟩;rcases Nat.lt_or_ge i k with h | h
     ·exact h
     ·obtain rfl : i = k := by omega
      rw [hc] at h2; cases h2; exact absurd h3 hj
def jmF (l : List Co) (i : Nat) : Int := match l[i]? with
 | none => 0
 | some c => (jmN l i c : Nat)
theorem jm_not (h : i ∉ tgR l l.length) : jmF l i = 0 := by
 unfold jmF;cases hc : l[i]? with
 | none => rfl
 | some c =>
  have hj : isJ c = false := by
   cases hj : isJ c with
   | false => rfl
   | true => exact absurd ((xmy l _ i).2 ⟨(List.getElem?_eq_some_iff.1 hc).1, c, hc, hj⟩) h
  unfold isJ at hj;simp only [Bool.or_eq_false_iff, beq_eq_false_iff_ne] at hj;simp only;rw [jmp_else hj.1.1 hj.1.2 hj.2];rfl
def LaAt (W : World) (g bl be : Nat) (vo : Value) (l : List Co) (i : Nat) (v : Value) : Prop := ∃ c bo, l[i]? = some c /\ W.heap[bo]? = some (.cells #[.pointer (some ⟨g, i * 21, none⟩)] 145) /\
 (c.nm = 123 /\ (∃ bi, v = .func (.func 66) #[] #[ptr be, ptr bi, ptr bo] /\ W.heap[bi]? = some (.cells #[.int .i64 i] 3) /\ vo.ownBlock ≠ some bi) \/ (c.nm = 98 \/ c.nm = 116) /\ v = .func (.func 67) #[] #[ptr bl, ptr bo])
theorem LaAt.keep {v : Value} (h : LaAt W g bl be vo l i v) (hp : ∀ (b : Nat) (x : Value), W.heap[b]? = some (.cells #[x] 145) -> W'.heap[b]? = W.heap[b]?) (hi : ∀ (b : Nat) (x : Value), W.heap[b]? = some (.cells #[x] 3) -> vo.ownBlock ≠ some b -> W'.heap[b]? = W.heap[b]? /\ vo'.ownBlock ≠ some b) : LaAt W' g bl be vo' l i v := by
 obtain ⟨c, bo, h1, h2, h3⟩ := h;refine ⟨c, bo, h1, (hp _ _ h2).trans h2, ?_⟩;rcases h3 with ⟨hn, bi, e1, e2, e3⟩ | h3
 ·exact .inl ⟨hn, bi, e1, (hi _ _ e2 e3).1.trans e2, (hi _ _ e2 e3).2⟩
 ·exact .inr h3
structure JW (l : List Co) (g B bl ml be me : Nat) (W : World) (k : Nat) (vo vl : Value) (s : Js) (T : List (Nat × Value)) : Prop where
 lb : W.heap[bl]? = some (.cells #[.map (some ml)] 142)
 eb : W.heap[be]? = some (.cells #[.map (some me)] 143)
 lm : ∃ D : DataW Unit, W.ownsMap Tryz.prog 9 (plainElem Tryz.prog 3) ml (k + 1) D /\ ∀ t : List UInt8, D.atKey (.string t) (.lit (.int .i64 0)) = .lit (.int .i64 (s.labs t : Nat))
 em : ∃ D : DataW Unit, W.ownsMap Tryz.prog 3 (plainElem Tryz.prog 3) me k D /\ ∀ i : Nat, D.atKey (.int .i64 i) (.lit (.int .i64 0)) = .lit (.int .i64 (s.ends i : Nat))
 oo : W.ownsRow B 3 1 vo (inV s.op).length (inV s.op)
 ol : W.ownsRow B 1 1 vl (T.map (·.2)).length (T.map (·.2))
 en : ∀ x ∈ T, LaAt W g bl be vo l x.1 x.2
 ne : ml ≠ me
 bB : B <= bl /\ B <= ml /\ B <= be /\ B <= me
theorem xdk {k : TypeId} {R : Value -> Option (DataW Unit × List MemPlace)} (h : W.ownsMap Tryz.prog k R b n D) : ∃ es clock, W.heap[b]? = some (.map es clock) := by
 obtain ⟨es, clock, hb, _⟩ := h;exact ⟨es, clock, hb⟩
theorem xbb {k : TypeId} {R : Value -> Option (DataW Unit × List MemPlace)} (h : W.ownsMap Tryz.prog k R b n D) (e : W'.heap[b]? = W.heap[b]?) : W'.ownsMap Tryz.prog k R b n D := by
 obtain ⟨es, clock, hb, r⟩ := h;exact ⟨es, clock, e.trans hb, r⟩
theorem xq8 {e size : Nat} {v : Value} (h : W.ownsRow B e size v n xs) {o : Obj} (hb : W.heap[b]? = some o) (ho : ∀ cur, o ≠ .cells cur e (0, 0)) : v.ownBlock ≠ some b := fun hv => by
 obtain ⟨_, _, cur, hc⟩ := owns_blk h hv;rw [hb] at hc;exact ho cur (Option.some.inj hc)
theorem JW.new {T : List (Nat × Value)} (h : JW l g B bl ml be me W k vo vl s T) (hb : Below W.heap.size W W') : JW l g B bl ml be me W' k vo vl s T := by
 have kp : ∀ (b : Nat) (o : Obj), W.heap[b]? = some o -> W'.heap[b]? = W.heap[b]? := fun b o e => hb.block b (xah e);obtain ⟨DL, l1, l2⟩ := h.lm;obtain ⟨DE, e1, e2⟩ := h.em;exact ⟨(kp _ _ h.lb).trans h.lb, (kp _ _ h.eb).trans h.eb, ⟨DL, xbb l1 (hb.block _ l1.lt), l2⟩, ⟨DE, xbb e1 (hb.block _ e1.lt), e2⟩, owns_below h.oo hb, owns_below h.ol hb, fun x hx => (h.en x hx).keep (fun b x e => kp _ _ e) (fun b x e h2 => ⟨kp _ _ e, h2⟩), h.ne, h.bB⟩
theorem JW.pushO {T : List (Nat × Value)} (h : JW l g B bl ml be me W k vo vl s T) (i : Nat) (h1 : W'.ownsRow B 3 1 vo' (inV s.op ++ [Value.int .i64 i]).length (inV s.op ++ [Value.int .i64 i])) (h2 : ∀ g, vo'.ownBlock = some g -> vo.ownBlock = some g \/ W.heap.size <= g) (h3 : ∀ k, k < W.heap.size -> vo.ownBlock ≠ some k -> W'.heap[k]? = W.heap[k]?) : JW l g B bl ml be me W' k vo' vl { s with op := s.op ++ [i] } T := by
 have kp : ∀ (b : Nat) (o : Obj), W.heap[b]? = some o -> (∀ cur, o ≠ .cells cur 3 (0, 0)) -> W'.heap[b]? = W.heap[b]? := fun b o e ho => h3 b (xah e) (xq8 h.oo e ho);obtain ⟨DL, l1, l2⟩ := h.lm;obtain ⟨DE, e1, e2⟩ := h.em;obtain ⟨ea, ca, la⟩ := xdk l1;obtain ⟨eb, cb, lb⟩ := xdk e1;refine ⟨(kp _ _ h.lb (fun _ e => by simp at e)).trans h.lb, (kp _ _ h.eb (fun _ e => by simp at e)).trans h.eb, ⟨DL, xbb l1 (kp _ _ la (fun _ e => by cases e)), l2⟩, ⟨DE, xbb e1 (kp _ _ lb (fun _ e => by cases e)), e2⟩, by rw [xq6]; exact h1, owns_keep h.ol (fun b hb => ?_), fun x hx => (h.en x hx).keep (fun b x e => kp _ _ e (fun _ e => by simp at e)) (fun b x e hn => ⟨h3 b (xah e) hn, fun e2 => ?_⟩), h.ne, h.bB⟩
 ·obtain ⟨_, hl, cur, hc⟩ := owns_blk h.ol hb;exact kp _ _ hc (fun _ e => by simp at e)
 ·rcases h2 _ e2 with e3 | e3
  ·exact hn e3
  ·have := xah e; omega
theorem JW.pushL {vl' : Value} {T : List (Nat × Value)} (h : JW l g B bl ml be me W k vo vl s T) (i : Nat) (u : Value) (hu : LaAt W g bl be vo l i u) (h1 : W'.ownsRow B 1 1 vl' (T.map (·.2) ++ [u]).length (T.map (·.2) ++ [u])) (h3 : ∀ k, k < W.heap.size -> vl.ownBlock ≠ some k -> W'.heap[k]? = W.heap[k]?) : JW l g B bl ml be me W' k vo vl' s (T ++ [(i, u)]) := by
 have kp : ∀ (b : Nat) (o : Obj), W.heap[b]? = some o -> (∀ cur, o ≠ .cells cur 1 (0, 0)) -> W'.heap[b]? = W.heap[b]? := fun b o e ho => h3 b (xah e) (xq8 h.ol e ho);obtain ⟨DL, l1, l2⟩ := h.lm;obtain ⟨DE, e1, e2⟩ := h.em;obtain ⟨ea, ca, la⟩ := xdk l1;obtain ⟨eb, cb, lb⟩ := xdk e1;have la2 : ∀ j v, LaAt W g bl be vo l j v -> LaAt W' g bl be vo l j v := fun j v hx => hx.keep (fun b x e => kp _ _ e (fun _ e => by simp at e)) (fun b x e hn => ⟨kp _ _ e (fun _ e => by simp at e), hn⟩);refine ⟨(kp _ _ h.lb (fun _ e => by simp at e)).trans h.lb, (kp _ _ h.eb (fun _ e => by simp at e)).trans h.eb, ⟨DL, xbb l1 (kp _ _ la (fun _ e => by cases e)), l2⟩, ⟨DE, xbb e1 (kp _ _ lb (fun _ e => by cases e)), e2⟩, owns_keep h.oo (fun b hb => ?_), by rw [List.map_append]; exact h1, fun x hx => ?_, h.ne, h.bB⟩
 ·obtain ⟨_, hl, cur, hc⟩ := owns_blk h.oo hb;exact kp _ _ hc (fun _ e => by simp at e)
 ·rcases List.mem_append.1 hx with hx | hx
  ·exact la2 _ _ (h.en x hx)
  ·obtain rfl := List.mem_singleton.1 hx;exact la2 _ _ hu
theorem JW.bump {T : List (Nat × Value)} (h : JW l g B bl ml be me W k vo vl s T) : JW l g B bl ml be me W (k + 1) vo vl s T := by
 obtain ⟨DL, l1, l2⟩ := h.lm;obtain ⟨DE, e1, e2⟩ := h.em;exact ⟨h.lb, h.eb, ⟨DL, l1.mono (by omega), l2⟩, ⟨DE, e1.mono (by omega), e2⟩, h.oo, h.ol, h.en, h.ne, h.bB⟩
theorem JW.putM {T : List (Nat × Value)} (h : JW l g B bl ml be me W k vo vl s T) (m : Nat) (hm : ∃ es clock, W.heap[m]? = some (.map es clock)) (hg : W.grownBy W' (some m)) (k' : Nat) (ends : Nat -> Nat) (labs : List UInt8 -> Nat)
  (hl : ∃ D : DataW Unit, W'.ownsMap Tryz.prog 9 (plainElem Tryz.prog 3) ml (k' + 1) D /\ ∀ t : List UInt8, D.atKey (.string t) (.lit (.int .i64 0)) = .lit (.int .i64 (labs t : Nat)))
  (he : ∃ D : DataW Unit, W'.ownsMap Tryz.prog 3 (plainElem Tryz.prog 3) me k' D /\ ∀ i : Nat, D.atKey (.int .i64 i) (.lit (.int .i64 0)) = .lit (.int .i64 (ends i : Nat))) : JW l g B bl ml be me W' k' vo vl ⟨ends, labs, s.op⟩ T := by
 obtain ⟨es, clock, hm⟩ := hm;have kp : ∀ (b : Nat) (o : Obj), W.heap[b]? = some o -> (∀ x y, o ≠ .map x y) -> W'.heap[b]? = W.heap[b]? := fun b o e ho => hg.block b (xah e) (fun e2 => by
  cases e2;rw [e] at hm;exact ho _ _ (Option.some.inj hm))
 refine ⟨(kp _ _ h.lb (fun _ _ e => by cases e)).trans h.lb, (kp _ _ h.eb (fun _ _ e => by cases e)).trans h.eb, hl, he, owns_keep h.oo (fun b hb => ?_), owns_keep h.ol (fun b hb => ?_), fun x hx => (h.en x hx).keep (fun b x e => kp _ _ e (fun _ _ e => by cases e)) (fun b x e hn => ⟨kp _ _ e (fun _ _ e => by cases e), hn⟩), h.ne, h.bB⟩
 ·obtain ⟨_, hl, cur, hc⟩ := owns_blk h.oo hb;exact kp _ _ hc (fun _ _ e => by cases e)
 ·obtain ⟨_, hl, cur, hc⟩ := owns_blk h.ol hb;exact kp _ _ hc (fun _ _ e => by cases e)
theorem JW.pop {T : List (Nat × Value)} (h : JW l g B bl ml be me W k vo vl s T) (q : List Nat) (h1 : W.ownsRow B 3 1 vo' (inV q).length (inV q)) (h2 : vo'.ownBlock = vo.ownBlock) : JW l g B bl ml be me W k vo' vl { s with op := q } T :=
 ⟨h.lb, h.eb, h.lm, h.em, h1, h.ol, fun x hx => (h.en x hx).keep (fun _ _ _ => rfl) (fun b x e hn => ⟨rfl, by rw [h2]; exact hn⟩), h.ne, h.bB⟩
theorem xj2 {n : Int} (h0 : 0 <= n) (h : n <= 1000000) : (Lit.int .i64 n).wf = true := by
 have h1 : IntKind.i64.min <= n := Int.le_trans (by decide) h0;simp [Lit.wf, h1]; omega
theorem wl_ins {rest : List Oper} (hgd : op.guard = none) (m x v : Operand) (ho : op.op = .insert 142 m x v) (b : Nat) (key : List UInt8) (n : Int) (D : DataW Unit) (n0 : Nat) (hm : a.eval m = .map (some b)) (hx : a.eval x = .string (bst key)) (hv : a.eval v = .int .i64 n) (hown : w.ownsMap Tryz.prog 9 (plainElem Tryz.prog 3) b n0 D) (hn : n0 <= 1000000) (hk : key.length <= 1000000) (h0 : 0 <= n) (h1 : n <= 1000000)
  (h : ∀ w', Hid (w'.ownsMap Tryz.prog 9 (plainElem Tryz.prog 3) b (n0 + 1) (D.put (.string key) (.lit (.int .i64 n))) /\ w.grownBy w' (some b)) -> wpList Tryz.prog ops Q rest (a.put op.dst undef) w') : wpList Tryz.prog ops Q (op :: rest) a w := by
 have hkey := WideMaps.keyOf_string_mk (P := Tryz.prog) (k := 9) Tryz.underlying9 (s := bst key) (by rw [xbt]; unfold maxLen; omega);rw [xbu] at hkey;obtain ⟨w', hrun, r1, r2⟩ := hown.update (Maps.string_keyed Tryz.underlying9) Tryz.underlying142 (by unfold maxLen; omega) hkey (plainElem_int (P := Tryz.prog) Tryz.underlying3 (xj2 h0 h1));refine wpList_plain hgd fun K' hK' => ?_;unfold Oper.wp;simp [execOp, ho, hm, hx, hv, hrun, Result.andThen];exact hK' _ _ (h w' (hideT ⟨r1, r2⟩))
theorem infoInt : (Tryz.prog.info? 3).map (fun i => (i.zero, i.size, i.bytes)) = some (some (.int .i64 0), 1, 8) := by kernel_rfl
theorem xlm : (Tryz.prog.info? 1).map (fun i => (i.zero, i.size, i.bytes)) = some (some .nilFunc, 1, 8) := by kernel_rfl
theorem opF_set (J S : Nat -> Int) {l : List (Co × Value)} {x : Co × Value} (h : l[i]? = some x) (E : Int) : (opF J S 0 l).set (i * 21 + 19) (.int .i64 E) = opF (fun j => if j = i then E else J j) S 0 l := by
 have hi := (List.getElem?_eq_some_iff.1 h).1;have ht : (opF J S 0 (l.take i)).length = i * 21 := by rw [xik, List.length_take, Nat.min_eq_left (by omega)]
 rw [xgn J S h, xgn (fun j => if j = i then E else J j) S h];have e := xq4 (opF J S 0 (l.take i)) (opV x.1 x.2 (J i) (S i)) (opF J S (i + 1) (l.drop (i + 1))) 19 (.int .i64 E) (by rw [xij]; decide);rw [ht] at e;rw [e];rw [xep (J := J) (S := S) (J' := fun j => if j = i then E else J j) (S' := S) (l.take i) 0 (fun k hk => ⟨by rw [List.length_take] at hk; rw [if_neg (by omega)], rfl⟩)];rw [xep (J := J) (S := S) (J' := fun j => if j = i then E else J j) (S' := S) (l.drop (i + 1)) (i + 1) (fun k hk => ⟨by rw [if_neg (by omega)], rfl⟩)];rw [if_pos rfl];rfl
def LayS (be me ob N z bi k : Nat) (V : World) : Prop := V.cell? ⟨be, 0, none⟩ = some (.map (some me)) /\ V.cell? ⟨ob, N, none⟩ = some (.int .i64 z) /\ V.cell? ⟨bi, 0, none⟩ = some (.int .i64 k)
def LayT (bl ml bo g bi k : Nat) (s : List UInt8) (V : World) : Prop := V.cell? ⟨bl, 0, none⟩ = some (.map (some ml)) /\ V.cell? ⟨bo, 0, none⟩ = some (.pointer (some ⟨g, k * 21, none⟩)) /\ V.cell? ⟨g, k * 21 + 9, none⟩ = some (.string (bst s)) /\ V.cell? ⟨bi, 0, none⟩ = some (.int .i64 k)
theorem xj3 (l : List Co) : ∀ n, (tgR l n).length <= n
 | 0 => by simp [tgR]
 | n + 1 => by
  have ih := xj3 l n;rw [tgR];split
  ·omega
  ·split
   ·simp; omega
   ·omega
theorem xq9 {T : List (Nat × Value)} (h : JW l g B bl ml be me W k vo vl s T) : B <= ml /\ B <= me := ⟨h.bB.2.1, h.bB.2.2.2⟩
def sndS : Code -> Code
 | .seq _ b => b
 | c => c
noncomputable def tail20 : Code := sndS (sndS (sndS (sndS (sndS (Tryz.f44.body.getD .skip)))))
theorem tail_any (W w0 : World) (g B n1 : Nat) (L : List (Co × Value)) (l : List Co) (S : Nat -> Int) (u4 : Value) (T : List (Nat × Value)) (M : Nat) (la : Option Addr) (lc : Nat) (P : Ending -> World -> Prop) (HLL : Hid (L.map (·.1) = l)) (HLEN : Hid (l.length = L.length)) (HG : Hid (W.heap[g]? = some (.cells (opF (fun _ => 0) S 0 L).toArray 98))) (hl : L.length <= 10000) (HLB : Hid (∀ c ∈ l, c.lb.length <= 100000)) (HJW : Hid (JW l g B n1 B (n1 + 1 + 1) (n1 + 1) w0 L.length u4 (.slice la M lc) (jsR l L.length) T)) (HTG : Hid (T.map (·.1) = tgR l L.length)) (HW : Hid (Below W.heap.size W w0)) (HM : Hid (M = T.length)) (HML : Hid (M <= 10000)) (HP : Hid (∀ w', w'.heap[g]? = some (.cells (opF (jmF l) S 0 L).toArray 98) -> (∀ b, b < W.heap.size -> b ≠ g -> w'.heap[b]? = W.heap[b]?) -> Below g W w' -> P (.returned (.tuple #[])) w')) (a0 a1 a2 a3 a4 a6 a7 a8 a9 a10 a11 a12 a13 a14 a15 a16 a17 a18 a19 a20 a21 a22 a23 a24 a25 a26 a27 a28 a29 a30 a31 a32 a33 a34 a35 a36 a37 a38 a39 a40 a41 a42 a43 a44 a45 a46 a47 a48 a49 a50 a51 a52 a53 a54 a55 a56 a57 a58 a59 a60 a61 a62 a63 a64 a65 a66 a67 a68 a69 a70 a71 a72 a73 a74 a75 a76 a77 a78 : Value) : Code.wp Tryz.prog tail20 (bodyPost Tryz.prog Tryz.f44 P) ⟨#[a0, a1, a2, a3, a4, .slice la M lc, a6, a7, a8, a9, a10, a11, a12, a13, a14, a15, a16, a17, a18, a19, a20, a21, a22, a23, a24, a25, a26, a27, a28, a29, a30, a31, a32, a33, a34, a35, a36, a37, a38, a39, a40, a41, a42, a43, a44, a45, a46, a47, a48, a49, a50, a51, a52, a53, a54, a55, a56, a57, a58, a59, a60, a61, a62, a63, a64, a65, a66, a67, a68, a69, a70, a71, a72, a73, a74, a75, a76, a77, a78], []⟩ w0 := by
 conv => arg 2; whnf
 go_wp2_with fail
 go_loopw [72] (fun i wr => ∃ (t : Nat) (J : Nat -> Int), t <= M /\ i = .int .i64 t /\ Hid (wr.heap[g]? = some (.cells (opF J S 0 L).toArray 98)) /\ Hid (∀ i, J i = if i ∈ (tgR l L.length).take t then jmF l i else 0) /\ Hid (Only g w0 wr)) (fun i _ => M - (intOf i).toNat)
 case atStart => exact ⟨0, fun _ => 0, by omega, rfl, hideT ((HW.out.block g (xah HG.out)).trans HG.out), hideT (fun i => by simp), hideT ⟨fun _ _ => rfl, Below.refl _ _, rfl⟩⟩
 case round =>
  obtain ⟨t, J, ht, rfl, HBG, HJJ, HON⟩ := hrel;by_cases hlt : t < M
  ·have hx := List.getElem?_eq_getElem (show t < T.length by rw [<- HM.out]; exact hlt);have hmem := List.getElem_mem (show t < T.length by rw [<- HM.out]; exact hlt);have hen := HJW.out.en _ hmem;have htk : (tgR l L.length)[t]? = some (T[t]'(by rw [<- HM.out]; exact hlt)).1 := by rw [<- HTG.out, List.getElem?_map, hx]; rfl
   have hcl : ∃ gg, la = some ⟨gg, 0, none⟩ /\ gg ≠ g /\ w0.cell? ⟨gg, t, none⟩ = some (T[t]'(by rw [<- HM.out]; exact hlt)).2 := by
    rcases HJW.out.ol.2 with ⟨e, h0⟩ | ⟨gg, cap, cur, e, hb, hh, hrest⟩
    ·rw [List.length_map, <- HM.out] at h0; omega
    ·have ea : la = some ⟨gg, 0, none⟩ := by cases e; rfl
     refine ⟨gg, ea, fun e2 => ?_, ?_⟩
     ·have h1 := (HW.out.block g (xah HG.out)).trans HG.out;rw [<- e2, hh] at h1;simp at h1
     ·subst ea;have h1 := HJW.out.ol.cells (g := gg) rfl t (T[t]'(by rw [<- HM.out]; exact hlt)).2 (by rw [List.getElem?_map, hx]; rfl);have hplain : (⟨gg, 0, none⟩ : Addr).add t = ⟨gg, t, none⟩ := by unfold Addr.add; split <;> simp_all
      rw [hplain] at h1;exact h1
   generalize (T[t]'(by rw [<- HM.out]; exact hlt)) = x at *;obtain ⟨i, v⟩ := x;simp only at hen htk hcl;obtain ⟨gg, rfl, hgg, hcv⟩ := hcl;have cv := (World.cell?_of_block (a := ⟨gg, t, none⟩) (HON.out.far gg hgg)).trans hcv;obtain ⟨c, bo, hc, hbo, hkind⟩ := hen;have hil : i < L.length := by have := (List.getElem?_eq_some_iff.1 hc).1; rw [HLEN.out] at this; exact this
   obtain ⟨xx, hxx, hxc⟩ : ∃ xx : Co × Value, L[i]? = some xx /\ xx.1 = c := by
    refine ⟨L[i]'hil, List.getElem?_eq_getElem hil, ?_⟩;rw [<- HLL.out, List.getElem?_map, List.getElem?_eq_getElem hil] at hc;simpa using hc
   have hGw := (HW.out.block g (xah HG.out)).trans HG.out;have nbo : bo ≠ g := fun e => by rw [e, hGw] at hbo; simp at hbo
   have c19 : wr.cell? ⟨g, i * 21 + 19, none⟩ = some (.int .i64 (J i)) := CmAt2.cell HBG.out _ (xhd _ _ hxx (m := 19) rfl);have c9 : wr.cell? ⟨g, i * 21 + 9, none⟩ = some (.string (bst c.lb)) := CmAt2.cell HBG.out _ (xhd _ _ hxx (m := 9) (by rw [hxc]; rfl));have f19 : wr.frozen? ⟨g, i * 21 + 19, none⟩ = false := by simp [World.frozen?, HBG.out]
   have i1 : (t : Int) < (M : Int) := by omega
   have i2 : (0 : Int) <= (t : Int) := by omega
   have wt : IntKind.i64.wrap ((t : Int) + 1) = (t : Int) + 1 := by have := HML.out; rw [IntKind.wrap_i64]; omega
   have HSET := hideT (fun (E : Int) => show (wr.setCell ⟨g, i * 21 + 19, none⟩ (.int .i64 E)).heap[g]? = some (.cells (opF (fun j => if j = i then E else J j) S 0 L).toArray 98) by rw [<- opF_set J S hxx E]; exact xq5 HBG.out _);have HONL := hideT (fun (E : Int) => show Only g w0 (wr.setCell ⟨g, i * 21 + 19, none⟩ (.int .i64 E)) from ⟨fun b hb => (put_far _ _ _ _ hb).trans (HON.out.far b hb), HON.out.bel.setCell (p := ⟨g, i * 21 + 19, none⟩) qr _, by rw [<- HON.out.sz]; exact Array.size_modify ..⟩);have HJ2 := hideT (fun (E : Int) (hE : E = jmF l i) => show ∀ j, (fun j => if j = i then E else J j) j = if j ∈ (tgR l L.length).take (t + 1) then jmF l j else 0 from fun j => by
    have h1 : (tgR l L.length).take (t + 1) = (tgR l L.length).take t ++ [i] := by
     obtain ⟨h1, h2⟩ := List.getElem?_eq_some_iff.1 htk;rw [List.take_succ_eq_append_getElem h1, h2]
    rw [h1];by_cases hj : j = i
    ·simp only [hj, if_true];rw [if_pos (by simp), hE]
    ·simp only [if_neg hj];rw [HJJ.out j];simp [hj])
   rcases hkind with ⟨hn, bi, rfl, hbi, _⟩ | ⟨hn, rfl⟩
   ·have nbi : bi ≠ g := fun e => by rw [e, hGw] at hbi; simp at hbi
    have nbe : n1 + 1 + 1 ≠ g := fun e => by have := HJW.out.eb; rw [e, hGw] at this; simp at this
    obtain ⟨DE, d1, d2⟩ := HJW.out.em;obtain ⟨es, ck, hme⟩ := xdk d1;have nme : n1 + 1 ≠ g := fun e => by rw [e, hGw] at hme; simp at hme
    obtain ⟨E, hrun, hat, _⟩ := (xbb d1 (HON.out.far _ nme)).lookup_int (Maps.int_keyed Tryz.underlying3) Tryz.underlying143 Tryz.underlying3 (Tryz.zeroValue3 wr) (Maps.keyOf_int_mk (P := Tryz.prog) (q := .i64) (a := (i : Nat)) Tryz.underlying3 (xj2 (by omega) (by omega)));rw [d2 i] at hat;have hE : E = jmF l i := by
     have h1 : ((jsR l L.length).ends i : Int) = E := by simpa using hat
     rw [<- h1, jmF, hc];simp only;rw [jmN, if_pos hn, HLEN.out]
    have HCALL := hideT (lay1 wr g i (n1 + 1 + 1) bi bo (n1 + 1) E ((HON.out.far _ nbo).trans hbo) ((HON.out.far _ nbi).trans hbi) ((HON.out.far _ nbe).trans HJW.out.eb) hrun _ c19 f19);have HE := hideT hE;clear hrun hat hE hx hmem htk hcv hc hbo hxx hxc hGw nbo c19 c9 f19 nbi nbe d1 d2 hme nme hn hbi
    go_wp2_with fail
    refine HCALL.out.mono ?_;rintro e w2 ⟨rfl, rfl⟩;clear HCALL;go_wp2;exact ⟨⟨t + 1, _, by omega, by go_num, hideT (HSET.out E), hideT (HJ2.out E HE.out), hideT (HONL.out E)⟩, by simp [intOf]; omega⟩
   ·obtain ⟨DL, d1, d2⟩ := HJW.out.lm;obtain ⟨es, ck, hme⟩ := xdk d1;have nml : B ≠ g := fun e => by rw [e, hGw] at hme; simp at hme
    have nbl : n1 ≠ g := fun e => by have := HJW.out.lb; rw [e, hGw] at this; simp at this
    have hkey := WideMaps.keyOf_string_mk (P := Tryz.prog) (k := 9) Tryz.underlying9 (s := bst c.lb) (by rw [xbt]; have := HLB.out c (List.mem_of_getElem? hc); unfold maxLen; omega);rw [xbu] at hkey;have hlk : ∀ V : World, V.heap[B]? = wr.heap[B]? -> (Instr.lookup 142 (.map (some B)) (.string (bst c.lb)) false).run Tryz.prog V = .ok (.int .i64 (jmF l i)) V := fun V hV => by
     obtain ⟨E, hrun, hat, _⟩ := (xbb d1 (hV.trans (HON.out.far _ nml))).lookup_int (Maps.string_keyed Tryz.underlying9) Tryz.underlying142 Tryz.underlying3 (Tryz.zeroValue3 V) hkey;rw [d2 c.lb] at hat;have hE : E = jmF l i := by
      have h1 : ((jsR l L.length).labs c.lb : Int) = E := by simpa using hat
      rw [<- h1, jmF, hc];simp only;rw [jmN, if_neg (by rcases hn with e | e <;> rw [e] <;> decide), if_pos hn, HLEN.out]
     rw [<- hE];exact hrun
    have HCALL := hideT (lay2 wr g i n1 bo B (jmF l i) c.lb ((HON.out.far _ nbo).trans hbo) ((HON.out.far _ nbl).trans HJW.out.lb) c9 hlk _ c19 f19 nml);clear hlk hkey hx hmem htk hcv hc hbo hxx hxc hGw nbo c19 c9 f19 nbl d1 d2 hme nml hn
    go_wp2_with fail
    refine HCALL.out.mono ?_;rintro e w2 ⟨rfl, rfl⟩;clear HCALL;go_wp2;exact ⟨⟨t + 1, _, by omega, by go_num, hideT (HSET.out _), hideT (HJ2.out _ rfl), hideT ⟨(HONL.out _).far, (HONL.out _).bel.drew, (HONL.out _).sz⟩⟩, by simp [intOf]; omega⟩
  ·obtain rfl : t = M := by omega
   have i1 : ((t : Int) < (t : Int)) = False := qg;have HFIN := hideT (show wr.heap[g]? = some (.cells (opF (jmF l) S 0 L).toArray 98) by
    rw [<- xep (J := J) (S := S) L 0 (fun j hj => ⟨?_, rfl⟩)]
    ·exact HBG.out
    ·rw [Nat.zero_add, HJJ.out j, List.take_of_length_le (by rw [<- HTG.out, List.length_map, HM.out]; exact Nat.le_refl _)];split
     ·rfl
     ·rename_i hn;exact (jm_not (by rw [HLEN.out]; exact hn)).symm)
   have HFAR := hideT (show ∀ b, b < W.heap.size -> b ≠ g -> wr.heap[b]? = W.heap[b]? from fun b hb hn => (HON.out.far b hn).trans (HW.out.block b hb));have HBEL := hideT (show Below g W wr from ⟨HON.out.bel.os.trans HW.out.os, HON.out.bel.tape.trans HW.out.tape, HON.out.bel.output.trans HW.out.output, by rw [HON.out.sz]; exact HW.out.size, fun b hb => HFAR.out b (Nat.lt_trans hb (xah HG.out)) (by omega)⟩);go_wp2
   go_end0
   exact HP.out _ HFIN.out HFAR.out HBEL.out
theorem xj4 (W : World) (g : Nat) (L : List (Co × Value)) (l : List Co) (S : Nat -> Int) (hLl : L.map (·.1) = l) (hg : W.heap[g]? = some (.cells (opF (fun _ => 0) S 0 L).toArray 98)) (hok : (ckp.chkP.chkR (l.map toCm)).1 = 0) (hl : L.length <= 10000) (hlb : ∀ c ∈ l, c.lb.length <= 100000) :
  Calls Tryz.prog 44 #[.slice (some ⟨g, 0, none⟩) L.length L.length] W fun e w' => e = .returned (.tuple #[]) /\ w'.heap[g]? = some (.cells (opF (jmF l) S 0 L).toArray 98) /\ (∀ b, b < W.heap.size -> b ≠ g -> w'.heap[b]? = W.heap[b]?) /\ Below g W w' := by
 have HG := hideT hg;have HOK := hideT hok;have HLB := hideT hlb;have HLL := hideT hLl;have hmk : ∀ V : World, (Instr.makeMap 142 none).run Tryz.prog V = .ok (.map (some V.heap.size)) (V.alloc (.map #[] 0)) := fun V => run_makeMap _ V;have hmk2 : ∀ V : World, (Instr.makeMap 143 none).run Tryz.prog V = .ok (.map (some V.heap.size)) (V.alloc (.map #[] 0)) := fun V => run_makeMap _ V;have HM0 := hideT (World.ownsMap_made W Tryz.prog 9 (plainElem (H := Unit) Tryz.prog 3));clear hg hok hlb hLl;go_enter Tryz.func44, Tryz.ntmps44
 go_wp2_with (first | (refine wl_ins rfl _ _ _ rfl W.heap.size [] (L.length : Nat) _ 0 rfl rfl rfl HM0.out (by omega) (by simp) (by omega) (by omega) ?_; intro w1 H1))
 have hA1 := Bal w1 (.cells #[.map (some W.heap.size)] 142);have hN1 := heap_alloc_new w1 (.cells #[.map (some W.heap.size)] 142);have e1 := xcl w1 (.cells #[.map (some W.heap.size)] 142);obtain ⟨X1, hX1⟩ : ∃ X, X = w1.alloc (.cells #[.map (some W.heap.size)] 142) := ⟨_, rfl⟩;rw [<- hX1] at hA1 hN1 e1 ⊢;have hA2 := Bal X1 (.map #[] 0);have hM2 := World.ownsMap_made X1 Tryz.prog 3 (plainElem (H := Unit) Tryz.prog 3);have e2 := xcl X1 (.map #[] 0);obtain ⟨X2, hX2⟩ : ∃ X, X = X1.alloc (.map #[] 0) := ⟨_, rfl⟩;rw [<- hX2] at hA2 hM2 e2 ⊢;rw [e1] at hM2 e2;have hA3 := Bal X2 (.cells #[.map (some (w1.heap.size + 1))] 143);have hN3 := heap_alloc_new X2 (.cells #[.map (some (w1.heap.size + 1))] 143);rw [e2] at hN3;obtain ⟨X3, hX3⟩ : ∃ X, X = X2.alloc (.cells #[.map (some (w1.heap.size + 1))] 143) := ⟨_, rfl⟩;rw [<- hX3] at hA3 hN3 ⊢;have hgr := H1.out.2;have hs1 : W.heap.size + 1 <= w1.heap.size := by have := hgr.size; rw [xcl] at this; exact this
 have hB1 : Below W.heap.size W w1 := ⟨hgr.os, hgr.tape, hgr.output, by omega, fun k hk => (hgr.block k (by rw [xcl]; omega) (fun e => by cases e; omega)).trans (Below.heap_alloc W _ k hk)⟩;have hB3 : Below w1.heap.size w1 X3 := (hA1.trans (hA2.mono (by omega))).trans (hA3.mono (by omega));obtain ⟨B, hB⟩ : ∃ B, B = W.heap.size := ⟨_, rfl⟩;obtain ⟨n1, hn1⟩ : ∃ n, n = w1.heap.size := ⟨_, rfl⟩;have HJ := hideT (show JW l g B n1 B (n1 + 1 + 1) (n1 + 1) X3 0 (.slice none 0 0) (.slice none 0 0) (jsR l 0) [] from by
  subst hB; subst hn1;have hblk1 : X3.heap[w1.heap.size]? = some (.cells #[.map (some W.heap.size)] 142) := (hA3.block _ (by omega)).trans ((hA2.block _ (by omega)).trans hN1);refine ⟨hblk1, hN3, ⟨_, xbb H1.out.1 (hB3.block _ (by omega)), fun t => ?_⟩, ⟨_, xbb hM2 (hA3.block _ (by omega)), fun i => rfl⟩, World.ownsRow_nil _ _ _ _, World.ownsRow_nil _ _ _ _, fun x hx => (by cases hx), by omega, by omega⟩;by_cases ht : t = []
  ·subst ht;rw [Maps.atKey_put_same ⟨_, rfl⟩ (by simp [WideAt.IsKeyLit])];rw [show (jsR l 0).labs [] = l.length by simp [jsR], <- HLL.out, List.length_map]
  ·rw [Maps.atKey_put_other (by simpa using ht)];have : (jsR l 0).labs t = 0 := by simp [jsR, ht]
   rw [this];rfl)
 have HB3 := hideT (hB1.trans (hB3.mono hB1.size));rw [<- hB, <- hn1];clear hmk hmk2 HM0 H1 hA1 hN1 e1 hX1 hA2 hM2 e2 hX2 hA3 hN3 hX3 hgr hs1 hB1 hB3 hn1;have HBB := hideT hB;clear hB;have hlen : l.length = L.length := by rw [<- HLL.out, List.length_map]
 have HLEN := hideT hlen;clear hlen;have HGI := hideT (GI.all (xhb HOK.out).1);rename_i K hK;replace hK := fun (a : Act) (w : World) (h : Code.wp Tryz.prog tail20 _ a w) => hK a w h
 go_loopw [4, 5, 17] (fun vo vl i wr => ∃ (k : Nat) (T : List (Nat × Value)), k <= L.length /\ i = .int .i64 k /\ Hid (JW l g B n1 B (n1 + 1 + 1) (n1 + 1) wr k vo vl (jsR l k) T) /\ Hid (T.map (·.1) = tgR l k) /\ Hid (Below W.heap.size W wr)) (fun _ _ i _ => L.length - (intOf i).toNat)
 case atStart => exact ⟨0, [], by omega, rfl, HJ, hideT rfl, HB3⟩
 case round =>
  obtain ⟨k, T, hk, rfl, HJW, HTG, HW⟩ := hrel;by_cases hlt : k < L.length
  ·have hx := List.getElem?_eq_getElem hlt;have hc : l[k]? = some (L[k]'hlt).1 := by rw [<- HLL.out, List.getElem?_map, hx]; rfl
   have c8 : W.cell? ⟨g, k * 21 + 8, none⟩ = some (.int .u8 ((L[k]'hlt).1.nm.toNat : Nat)) := CmAt2.cell HG.out _ (xhd _ _ hx (m := 8) rfl);have c9 : W.cell? ⟨g, k * 21 + 9, none⟩ = some (.string (bst (L[k]'hlt).1.lb)) := CmAt2.cell HG.out _ (xhd _ _ hx (m := 9) rfl);generalize (L[k]'hlt).1 = c at *;clear hx;have HC := hideT hc;obtain ⟨f1, f2, f3, f4⟩ := (HGI.out k (by rw [HLEN.out]; omega)).facts hc;have HF := hideT (And.intro f1 (And.intro f2 f3));have HOL := hideT (HGI.out k (by rw [HLEN.out]; omega)).le;have HLC := hideT (HLB.out c (List.mem_of_getElem? hc));have HST := hideT (xie l k c hc);have i1 : (k : Int) < (L.length : Int) := by omega
   have i2 : (0 : Int) <= (k : Int) := by omega
   have q8 := keep_cell HW.out c8;have q9 := keep_cell HW.out c9;clear hc f1 f2 f3 f4 c8 c9;go_upto_region 8 with fail
   have hA1 := Bal wr (.cells #[.int .i64 k] 3);have hN1 := heap_alloc_new wr (.cells #[.int .i64 k] 3);have e1 := xcl wr (.cells #[.int .i64 k] 3);have hA2 := (Below.refl _ (wr.alloc (.cells #[.int .i64 k] 3))).alloc qr (.cells #[.pointer (some ⟨g, k * 21, none⟩)] 145);have hN2 := heap_alloc_new (wr.alloc (.cells #[.int .i64 k] 3)) (.cells #[.pointer (some ⟨g, k * 21, none⟩)] 145);have e2 := xcl (wr.alloc (.cells #[.int .i64 k] 3)) (.cells #[.pointer (some ⟨g, k * 21, none⟩)] 145);rw [e1] at hA2 hN2 e2;obtain ⟨V, hV⟩ : ∃ V, V = (wr.alloc (.cells #[.int .i64 k] 3)).alloc (.cells #[.pointer (some ⟨g, k * 21, none⟩)] 145) := ⟨_, rfl⟩;rw [<- hV] at hA2 hN2 e2 ⊢;have hN1' := (hA2.block wr.heap.size (by omega)).trans hN1;have hVB : Below wr.heap.size wr V := hA1.trans (hA2.mono (by omega));have p8 := keep_cell hVB q8;have p9 := keep_cell hVB q9;have pi := cell0 hN1';have po := cell0 hN2;have HJV := hideT (HJW.out.new hVB);have HWV := hideT (HW.out.trans (hVB.mono HW.out.size));have HNI := hideT hN1';have HNO := hideT hN2;have HBV := hideT (show B <= V.heap.size by rw [HBB.out]; exact HWV.out.size);have HOI := hideT (show u4.ownBlock ≠ some wr.heap.size from fun e => by have := (owns_blk HJW.out.oo e).2.1; omega);clear hA1 hN1 e1 e2 hA2 hN2 hV hN1' hVB q8 q9 HJW HW;generalize wr.heap.size = bi at *;have HP8 := hideT p8;by_cases k1 : c.nm = 123
   ·have m1 : ((c.nm.toNat : Int) == 123) = true := by rw [k1]; rfl
    have HK := hideT k1;have HS2 := hideT (show jsR l (k + 1) = { jsR l k with op := (jsR l k).op ++ [k] } by rw [HST.out, Js.step, if_pos k1]);have HT2 := hideT (show tgR l (k + 1) = tgR l k ++ [k] by rw [tgR, HC.out]; simp only; rw [if_pos (by unfold isJ; rw [k1]; rfl)]);clear k1 HST;go_upto_region 11 with (first | (at_builtin; refine xgm rfl _ _ 135 3 8 (.int .i64 0) rfl Tryz.underlying135 infoInt rfl B _ (.int .i64 k) (inV (jsR l k).op) rfl rfl HJV.out.oo _ rfl rfl (by rw [xq7]; have := HOL.out; omega) (by decide) HBV.out ?_; intro v6 w6 L6 G6 K6 B6; have H6 := hideT (And.intro L6 (And.intro G6 (And.intro K6 B6))); clear L6 G6 K6 B6))
    have HJ6 := hideT (HJV.out.pushO k H6.out.1 H6.out.2.1 H6.out.2.2.1);have HW6 := hideT (show Below W.heap.size W w6 from HWV.out.trans (by rw [<- HBB.out]; exact H6.out.2.2.2));have HLA := hideT (show LaAt w6 g n1 (n1 + 1 + 1) v6 l k (.func (.func 66) #[] #[ptr (n1 + 1 + 1), ptr bi, ptr (bi + 1)]) from
     ⟨c, bi + 1, HC.out, (H6.out.2.2.1 _ (xah HNO.out) (xq8 HJV.out.oo HNO.out (fun _ e => by simp at e))).trans HNO.out, .inl ⟨HK.out, bi, rfl, (H6.out.2.2.1 _ (xah HNI.out) HOI.out).trans HNI.out, fun e => (H6.out.2.1 _ e).elim HOI.out (fun h => by have := xah HNI.out; omega)⟩⟩)
    have HB6 := hideT (Nat.le_trans HBV.out H6.out.2.2.2.size);have HTL := hideT (show (T.map (·.2)).length <= 100000 by
     have h1 := congrArg List.length HTG.out;rw [List.length_map] at h1 ⊢;have := xj3 l k;omega)
    clear H6 HJV HWV HNI HNO HOI HBV p8 p9 pi po HP8
    go_wp2_with (first | (at_builtin; refine xgm (V := w6) rfl _ _ 144 1 8 .nilFunc rfl Tryz.underlying144 xlm rfl B u5 (.func (.func 66) #[] #[ptr (n1 + 1 + 1), ptr bi, ptr (bi + 1)]) (T.map (·.2)) rfl rfl HJ6.out.ol _ rfl rfl HTL.out (by decide) HB6.out ?_; intro v7 w7 L7 G7 K7 B7; have H7 := hideT (And.intro L7 (And.intro G7 (And.intro K7 B7))); clear L7 G7 K7 B7))
    refine ⟨⟨k + 1, T ++ [(k, .func (.func 66) #[] #[ptr (n1 + 1 + 1), ptr bi, ptr (bi + 1)])], by omega, by go_num, hideT ?_, hideT ?_, hideT ?_⟩, by simp [intOf]; omega⟩
    ·rw [HS2.out];exact (HJ6.out.pushL k _ HLA.out H7.out.1 H7.out.2.2.1).bump
    ·rw [List.map_append, HTG.out, HT2.out]; rfl
    ·exact HW6.out.trans (by rw [<- HBB.out]; exact H7.out.2.2.2)
   have m1 : ((c.nm.toNat : Int) == 123) = false := ckp.ne_byte c.nm 123 (by decide) k1;by_cases k2 : c.nm = 125
   ·have m2 : ((c.nm.toNat : Int) == 125) = true := by rw [k2]; rfl
    obtain ⟨q, z, hqz⟩ : ∃ q z, (jsR l k).op = q ++ [z] := by
     rcases List.eq_nil_or_concat (jsR l k).op with e | ⟨q, z, e⟩
     ·exact absurd e (HF.out.1 k2)
     ·exact ⟨q, z, by rw [e, List.concat_eq_append]⟩
    have HS2 := hideT (show jsR l (k + 1) = ⟨fun j => if j = z then k else (jsR l k).ends j, (jsR l k).labs, q⟩ by rw [HST.out, Js.step, if_neg k1, if_pos k2, hqz]; simp);have HT2 := hideT (show tgR l (k + 1) = tgR l k by rw [tgR, HC.out]; simp only; rw [if_neg (by unfold isJ; rw [k2]; decide)]);have own := HJV.out.oo;rw [hqz, xq6, List.length_append, List.length_singleton] at own;obtain ⟨N, hN⟩ : ∃ N : Nat, N = (inV q).length := ⟨_, rfl⟩;have hNq : N <= 16 := by have := HOL.out; rw [hqz, List.length_append] at this; rw [hN, xq7]; simp at this; omega
    rw [<- hN] at own;rcases own.2 with ⟨rfl, h0⟩ | ⟨ob, cap, cur, rfl, _, _, hcap, hmx, _⟩
    ·omega
    have own2 := ckp.owns_init own;have co := own.cells (g := ob) rfl N (.int .i64 z) (by rw [List.getElem?_append_right (by omega), hN, Nat.sub_self]; rfl);have hplain : (⟨ob, 0, none⟩ : Addr).add N = ⟨ob, N, none⟩ := by unfold Addr.add; split <;> simp_all
    rw [hplain] at co;obtain ⟨DL, l1, l2⟩ := HJV.out.lm;obtain ⟨DE, d1, d2⟩ := HJV.out.em;obtain ⟨w2, hrun, hown, hgr⟩ := (d1.drew).update (Maps.int_keyed Tryz.underlying3) Tryz.underlying143 (by unfold maxLen; omega) (Maps.keyOf_int_mk (P := Tryz.prog) (q := .i64) (a := (z : Nat)) Tryz.underlying3 (xj2 (by omega) (by
     have hz := (HGI.out k (by rw [HLEN.out]; omega)).ji.st q.length z (by rw [hqz]; simp);omega))) (plainElem_int (P := Tryz.prog) Tryz.underlying3 (xj2 (n := (k : Nat)) (by omega) (by omega)))
    replace hgr : V.grownBy w2 (some (n1 + 1)) := ⟨hgr.os, hgr.tape, hgr.output, hgr.size, hgr.block⟩;obtain ⟨me, mc, hme⟩ := xdk d1;have kp : ∀ (b : Nat) (o : Obj), V.heap[b]? = some o -> (∀ x y, o ≠ .map x y) -> w2.heap[b]? = V.heap[b]? := fun b o e ho => hgr.block b (xah e) (fun e2 => by
     cases e2;rw [e] at hme;exact ho _ _ (Option.some.inj hme))
    have pe := cell0 HJV.out.eb;obtain ⟨_, hol, ocur, hob⟩ := owns_blk HJV.out.oo (g := ob) rfl;have s0 : LayS (n1 + 1 + 1) (n1 + 1) ob N z bi k V.drew := ⟨pe, co, pi⟩;have s1 : LayS (n1 + 1 + 1) (n1 + 1) ob N z bi k w2 := ⟨(World.cell?_of_block (kp _ _ HJV.out.eb (fun _ _ e => by cases e))).trans pe, (World.cell?_of_block (kp _ _ hob (fun _ _ e => by cases e))).trans co, (World.cell?_of_block (kp _ _ HNI.out (fun _ _ e => by cases e))).trans pi⟩;have HJ2 := hideT (show JW l g B n1 B (n1 + 1 + 1) (n1 + 1) w2 (k + 1) (.slice (some ⟨ob, 0, none⟩) N cap) u5 ⟨fun j => if j = z then k else (jsR l k).ends j, (jsR l k).labs, q⟩ T from by
     have h1 := HJV.out.putM (n1 + 1) ⟨me, mc, hme⟩ hgr (k + 1) (fun j => if j = z then k else (jsR l k).ends j) (jsR l k).labs ⟨DL, (xbb l1 (hgr.block _ l1.lt (fun e => HJV.out.ne (by cases e; rfl)))).mono (by omega), l2⟩ ⟨_, hown, fun i => ?_⟩
     ·refine h1.pop q ?_ rfl;rw [<- hN];refine owns_keep own2 (fun b hb => ?_);obtain ⟨_, hl, cur, hc⟩ := owns_blk own2 hb;exact kp _ _ hc (fun _ _ e => by cases e)
     ·by_cases hi : i = z
      ·rw [hi, Maps.atKey_put_same d1.isMap (by simp [WideAt.IsKeyLit]), if_pos rfl]
      ·rw [Maps.atKey_put_other (fun e => hi (by simp at e; omega)), if_neg hi]; exact d2 i)
    have HW2 := hideT (show Below W.heap.size W w2 from ⟨hgr.os.trans HWV.out.os, hgr.tape.trans HWV.out.tape, hgr.output.trans HWV.out.output, Nat.le_trans HWV.out.size hgr.size, fun b hb => (hgr.block b (Nat.lt_of_lt_of_le hb HWV.out.size) (fun e => by
     have := (xq9 HJV.out).2;cases e;rw [HBB.out] at this;omega)).trans (HWV.out.block b hb)⟩)
    have HRUN := hideT hrun;have q1 : IntKind.i64.wrap ((N : Int) + 1 - 1) = (N : Int) := by rw [IntKind.wrap_i64]; omega
    have q1' : IntKind.i64.wrap (N : Int) = (N : Int) := by rw [IntKind.wrap_i64]; omega
    have q2 : (0 : Int) <= (N : Int) := by omega
    have q3 : (N : Int) <= (cap : Int) := by omega
    have q4 : ((cap : Int) < (N : Int)) = False := qg;have q5 : ((N : Int) < 0) = False := qg;have q6 : (N : Int) < (N : Int) + 1 := by omega
    clear hrun hown hgr kp l1 l2 d1 d2 hme own own2 hcap hmx hob hol pe co HJV HWV hqz hN hNq k1 k2 HST;go_upto_region 13 with fail
    refine wp_region_held (S := LayS (n1 + 1 + 1) (n1 + 1) ob N z bi k) (by kernel_rfl) ?_
    refine' take_d 0 (some 40) rfl rfl (by kernel_rfl) (by kernel_rfl) (by kernel_rfl) (fun _ _ _ h => h) (wanted_none rfl _) s0 ?tk1 ?rs1
    case tk1 => intro V hV; have hc := hV.1; go_simp; (try with_reducible rfl)
    refine' take_d 1 (some 41) rfl rfl (by kernel_rfl) (by kernel_rfl) (by kernel_rfl) (fun _ _ _ h => h) (wanted_none rfl _) s0 ?tk2 ?rs2
    case tk2 => intro V hV; go_simp; (try with_reducible rfl)
    refine' take_d 2 (some 42) rfl rfl (by kernel_rfl) (by kernel_rfl) (by kernel_rfl) (fun _ _ _ h => h) (wanted_none rfl _) s0 ?tk3 ?rs3
    case tk3 => intro V hV; go_simp; (try with_reducible rfl)
    refine' take_d 3 (some 43) rfl rfl (by kernel_rfl) (by kernel_rfl) (by kernel_rfl) (fun _ _ _ h => h) (wanted_none rfl _) s0 ?tk4 ?rs4
    case tk4 => intro V hV; go_simp; (try with_reducible rfl)
    refine' take_d 4 (some 44) rfl rfl (by kernel_rfl) (by kernel_rfl) (by kernel_rfl) (fun _ _ _ h => h) (wanted_none rfl _) s0 ?tk5 ?rs5
    case tk5 => intro V hV; go_simp; (try with_reducible rfl)
    refine' take_d 5 (some 45) rfl rfl (by kernel_rfl) (by kernel_rfl) (by kernel_rfl) (fun _ _ _ h => h) (wanted_none rfl _) s0 ?tk6 ?rs6
    case tk6 => intro V hV; go_simp; (try with_reducible rfl)
    refine' take_d 6 (some 46) rfl rfl (by kernel_rfl) (by kernel_rfl) (by kernel_rfl) (fun _ _ _ h => h) (wanted_none rfl _) s0 ?tk7 ?rs7
    case tk7 => intro V hV; have hc := hV.2.1; go_simp; (try with_reducible rfl)
    refine' take_d 7 (some 47) rfl rfl (by kernel_rfl) (by kernel_rfl) (by kernel_rfl) (fun _ _ _ h => h) (wanted_none rfl _) s0 ?tk8 ?rs8
    case tk8 => intro V hV; have hc := hV.2.2; go_simp; (try with_reducible rfl)
    simp only [Act.put, List.setIfInBounds_toArray, List.set_cons_zero, List.set_cons_succ];refine wpAnyH_all (rs := [8]) (by kernel_rfl) (by simp) (fun j hj => ?_);obtain rfl : j = 8 := List.mem_singleton.1 hj;exact bec1
   have m2 : ((c.nm.toNat : Int) == 125) = false := ckp.ne_byte c.nm 125 (by decide) k2;by_cases k3 : c.nm = 58
   ·have m3 : ((c.nm.toNat : Int) == 58) = true := by rw [k3]; rfl
    have HS2 := hideT (show jsR l (k + 1) = ⟨(jsR l k).ends, fun t => if t = c.lb then k else (jsR l k).labs t, (jsR l k).op⟩ by rw [HST.out, Js.step, if_neg k1, if_neg k2, if_pos k3]);have HT2 := hideT (show tgR l (k + 1) = tgR l k by rw [tgR, HC.out]; simp only; rw [if_neg (by unfold isJ; rw [k3]; decide)]);obtain ⟨DL, l1, l2⟩ := HJV.out.lm;obtain ⟨DE, d1, d2⟩ := HJV.out.em;have hkey := WideMaps.keyOf_string_mk (P := Tryz.prog) (k := 9) Tryz.underlying9 (s := bst c.lb) (by rw [xbt]; have := HLC.out; unfold maxLen; omega);rw [xbu] at hkey;obtain ⟨w2, hrun, hown, hgr⟩ := (l1.drew).update (Maps.string_keyed Tryz.underlying9) Tryz.underlying142 (by unfold maxLen; omega) hkey (plainElem_int (P := Tryz.prog) Tryz.underlying3 (xj2 (n := (k : Nat)) (by omega) (by omega)));replace hgr : V.grownBy w2 (some B) := ⟨hgr.os, hgr.tape, hgr.output, hgr.size, hgr.block⟩;obtain ⟨me, mc, hme⟩ := xdk l1;have kp : ∀ (b : Nat) (o : Obj), V.heap[b]? = some o -> (∀ x y, o ≠ .map x y) -> w2.heap[b]? = V.heap[b]? := fun b o e ho => hgr.block b (xah e) (fun e2 => by
     cases e2;rw [e] at hme;exact ho _ _ (Option.some.inj hme))
    have pe := cell0 HJV.out.lb;have hgb : V.heap[g]? = W.heap[g]? := HWV.out.block g (xah HG.out);have s0 : LayT n1 B (bi + 1) g bi k c.lb V.drew := ⟨pe, po, p9, pi⟩;have s1 : LayT n1 B (bi + 1) g bi k c.lb w2 := ⟨(World.cell?_of_block (kp _ _ HJV.out.lb (fun _ _ e => by cases e))).trans pe, (World.cell?_of_block (kp _ _ HNO.out (fun _ _ e => by cases e))).trans po, (World.cell?_of_block (kp _ _ (hgb.trans HG.out) (fun _ _ e => by cases e))).trans p9, (World.cell?_of_block (kp _ _ HNI.out (fun _ _ e => by cases e))).trans pi⟩;have HJ2 := hideT (show JW l g B n1 B (n1 + 1 + 1) (n1 + 1) w2 (k + 1) u4 u5 ⟨(jsR l k).ends, fun t => if t = c.lb then k else (jsR l k).labs t, (jsR l k).op⟩ T from by
     refine HJV.out.putM B ⟨me, mc, hme⟩ hgr (k + 1) (jsR l k).ends _ ⟨_, hown, fun t => ?_⟩ ⟨DE, (xbb d1 (hgr.block _ d1.lt (fun e => HJV.out.ne (by cases e; rfl)))).mono (by omega), d2⟩;by_cases hi : t = c.lb
     ·rw [hi, Maps.atKey_put_same l1.isMap (by simp [WideAt.IsKeyLit]), if_pos rfl]
     ·rw [Maps.atKey_put_other (fun e => hi (by simpa using e)), if_neg hi]; exact l2 t)
    have HW2 := hideT (show Below W.heap.size W w2 from ⟨hgr.os.trans HWV.out.os, hgr.tape.trans HWV.out.tape, hgr.output.trans HWV.out.output, Nat.le_trans HWV.out.size hgr.size, fun b hb => (hgr.block b (Nat.lt_of_lt_of_le hb HWV.out.size) (fun e => by
     cases e;rw [HBB.out] at hb;omega)).trans (HWV.out.block b hb)⟩)
    have HRUN := hideT hrun;clear hrun hown hgr kp l1 l2 d1 d2 hme pe hkey hgb HJV HWV k1 k2 k3 HST;go_upto_region 16 with fail
    refine wp_region_held (S := LayT n1 B (bi + 1) g bi k c.lb) (by kernel_rfl) ?_
    refine' take_d 0 (some 55) rfl rfl (by kernel_rfl) (by kernel_rfl) (by kernel_rfl) (fun _ _ _ h => h) (wanted_none rfl _) s0 ?tk9 ?rs9
    case tk9 => intro V hV; have hc := hV.1; go_simp; (try with_reducible rfl)
    refine' take_d 1 (some 56) rfl rfl (by kernel_rfl) (by kernel_rfl) (by kernel_rfl) (fun _ _ _ h => h) (wanted_none rfl _) s0 ?tk10 ?rs10
    case tk10 => intro V hV; have hc := hV.2.1; go_simp; (try with_reducible rfl)
    refine' take_d 2 (some 57) rfl rfl (by kernel_rfl) (by kernel_rfl) (by kernel_rfl) (fun _ _ _ h => h) (wanted_none rfl _) s0 ?tk11 ?rs11
    case tk11 => intro V hV; go_simp; (try with_reducible rfl)
    refine' take_d 3 (some 58) rfl rfl (by kernel_rfl) (by kernel_rfl) (by kernel_rfl) (fun _ _ _ h => h) (wanted_none rfl _) s0 ?tk12 ?rs12
    case tk12 => intro V hV; go_simp; (try with_reducible rfl)
    refine' take_d 4 (some 59) rfl rfl (by kernel_rfl) (by kernel_rfl) (by kernel_rfl) (fun _ _ _ h => h) (wanted_none rfl _) s0 ?tk13 ?rs13
    case tk13 => intro V hV; go_simp; (try with_reducible rfl)
    refine' take_d 5 (some 60) rfl rfl (by kernel_rfl) (by kernel_rfl) (by kernel_rfl) (fun _ _ _ h => h) (wanted_none rfl _) s0 ?tk14 ?rs14
    case tk14 => intro V hV; have hc := hV.2.2.1; go_simp; (try with_reducible rfl)
    refine' take_d 6 (some 61) rfl rfl (by kernel_rfl) (by kernel_rfl) (by kernel_rfl) (fun _ _ _ h => h) (wanted_none rfl _) s0 ?tk15 ?rs15
    case tk15 => intro V hV; have hc := hV.2.2.2; go_simp; (try with_reducible rfl)
    simp only [Act.put, List.setIfInBounds_toArray, List.set_cons_zero, List.set_cons_succ];refine wpAnyH_all (rs := [7]) (by kernel_rfl) (by simp) (fun j hj => ?_);obtain rfl : j = 7 := List.mem_singleton.1 hj;exact bec1
   have m3 : ((c.nm.toNat : Int) == 58) = false := ckp.ne_byte c.nm 58 (by decide) k3;by_cases k4 : c.nm = 98
   ·have m4 : ((c.nm.toNat : Int) == 98) = true := by rw [k4]; rfl
    have HK := hideT k4;have HS2 := hideT (show jsR l (k + 1) = jsR l k by rw [HST.out, Js.step, if_neg k1, if_neg k2, if_neg k3]);have HT2 := hideT (show tgR l (k + 1) = tgR l k ++ [k] by rw [tgR, HC.out]; simp only; rw [if_pos (by unfold isJ; rw [k4]; rfl)]);have HLA := hideT (show LaAt V g n1 (n1 + 1 + 1) u4 l k (.func (.func 67) #[] #[ptr n1, ptr (bi + 1)]) from ⟨c, bi + 1, HC.out, HNO.out, .inr ⟨.inl k4, rfl⟩⟩);have HTL := hideT (show (T.map (·.2)).length <= 100000 by
     have h1 := congrArg List.length HTG.out;have := xj3 l k;rw [List.length_map] at h1 ⊢;omega)
    clear k1 k2 k3 k4 HST HNI HNO HOI;exact bec0
   have m4 : ((c.nm.toNat : Int) == 98) = false := ckp.ne_byte c.nm 98 (by decide) k4;have k5 := k4;clear k4;by_cases k4 : c.nm = 116
   ·have m5 : ((c.nm.toNat : Int) == 116) = true := by rw [k4]; rfl
    have HK := hideT k4;have HS2 := hideT (show jsR l (k + 1) = jsR l k by rw [HST.out, Js.step, if_neg k1, if_neg k2, if_neg k3]);have HT2 := hideT (show tgR l (k + 1) = tgR l k ++ [k] by rw [tgR, HC.out]; simp only; rw [if_pos (by unfold isJ; rw [k4]; rfl)]);have HLA := hideT (show LaAt V g n1 (n1 + 1 + 1) u4 l k (.func (.func 67) #[] #[ptr n1, ptr (bi + 1)]) from ⟨c, bi + 1, HC.out, HNO.out, .inr ⟨.inr k4, rfl⟩⟩);have HTL := hideT (show (T.map (·.2)).length <= 100000 by
     have h1 := congrArg List.length HTG.out;have := xj3 l k;rw [List.length_map] at h1 ⊢;omega)
    clear k1 k2 k3 k4 k5 HST HNI HNO HOI;exact bec0
   have m5 : ((c.nm.toNat : Int) == 116) = false := ckp.ne_byte c.nm 116 (by decide) k4;have HS2 := hideT (show jsR l (k + 1) = jsR l k by rw [HST.out, Js.step, if_neg k1, if_neg k2, if_neg k3]);have HT2 := hideT (show tgR l (k + 1) = tgR l k by
    rw [tgR, HC.out]; simp only;rw [if_neg (by unfold isJ; simp [k1, k5, k4])])
   clear k1 k2 k3 k4 k5 HST;go_wp2;refine ⟨⟨k + 1, T, by omega, by go_num, hideT ?_, hideT ?_, HWV⟩, by simp [intOf]; omega⟩
   ·rw [HS2.out]; exact HJV.out.bump
   ·rw [HTG.out, HT2.out]
  ·obtain rfl : k = L.length := by omega
   have i1 : ((L.length : Int) < (L.length : Int)) = False := qg;obtain ⟨la, lc, hu5⟩ := owns_shape HJW.out.ol;obtain ⟨M, hM⟩ : ∃ M : Nat, M = T.length := ⟨_, rfl⟩;rw [List.length_map, <- hM] at hu5;subst hu5;have HM := hideT hM;have HML := hideT (show M <= 10000 by
    have h1 := congrArg List.length HTG.out;have := xj3 l L.length;rw [List.length_map] at h1;omega)
   clear hM
   go_wp2_with fail
   exact tail_any W wr g B n1 L l S u4 T M la lc _ HLL HLEN HG hl HLB HJW HTG HW HM HML (hideT (fun w' h1 h2 h3 => ⟨rfl, h1, h2, h3⟩)) _ _ _ _ _ _ _ _ _ _ _ _ _ _ _ _ _ _ _ _ _ _ _ _ _ _ _ _ _ _ _ _ _ _ _ _ _ _ _ _ _ _ _ _ _ _ _ _ _ _ _ _ _ _ _ _ _ _ _ _ _ _ _ _ _ _ _ _ _ _ _ _ _ _ _ _ _ _
end em
end Go.Proofs.YtcpokkpjeeblnaaGreatDoor
