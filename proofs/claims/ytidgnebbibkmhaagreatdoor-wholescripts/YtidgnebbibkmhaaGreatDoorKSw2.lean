/- The writer of package show in memory; texts exchanged, delimiters, words. -/
import Derived.Test.YtidgnebbibkmhaaGreatDoorKBa
import Derived.Test.YtidgnebbibkmhaaGreatDoorKUk
import Derived.Lib.AppendStr
import Derived.Lib.UnsafeStr
import Derived.Lib.FrozenHead
import Derived.Laws.Externs
import Derived.Test.YtidgnebbibkmhaaGreatDoorKSw1
import Derived.Test.YtidgnebbibkmhaaGreatDoorKShw
import Derived.Test.YtidgnebbibkmhaaGreatDoorKXw1
import Derived.Lib.SplitLaws
set_option maxRecDepth 100000
set_option maxHeartbeats 4000000
namespace Go.Proofs.YtidgnebbibkmhaaGreatDoor
open Go.RowKit
namespace sho
structure WrA (W : World) (B b : Nat) (p v : Value) (l : List UInt8) (st : Bool) : Prop where
 base : B <= b
 blk : W.heap[b]? = some (.cells #[p, v, .bool st] 70 (0, 0))
 hp : p = .pointer none \/ p = .pointer (some ⟨b, 0, none⟩)
 own : W.ownsRow B 5 1 v l.length (Lib.byteCells l)
 ne : v.ownBlock ≠ some b
def Wr (W : World) (B b : Nat) (l : List UInt8) (st : Bool) : Prop := ∃ p v, WrA W B b p v l st
def NotW (W : World) (b r : Nat) : Prop := r < W.heap.size /\ r ≠ b /\ ∀ p v s, W.heap[b]? = some (.cells #[p, v, s] 70 (0, 0)) -> v.ownBlock ≠ some r
def KeepW (W W' : World) (b : Nat) : Prop := ∀ r, NotW W b r -> NotW W' b r /\ W'.heap[r]? = W.heap[r]?
theorem KeepW.refl (W : World) (b : Nat) : KeepW W W b := fun _ h => ⟨h, rfl⟩
variable {W W' W1 W2 w : World} {b B : Nat} {p : Value} {l m : List UInt8} {st su : Bool}
theorem KeepW.trans {W'' : World} (h : KeepW W W' b) (h' : KeepW W' W'' b) : KeepW W W'' b := fun r hr =>
 ⟨(h' r (h r hr).1).1, (h' r (h r hr).1).2.trans (h r hr).2⟩
theorem WrA.lt {v : Value} (h : WrA W B b p v l st) : b < W.heap.size := (Array.getElem?_eq_some_iff.1 h.blk).1
theorem WrA.stay {v : Value} (h : WrA W B b p v l st) (hb : Below W.heap.size W W') : WrA W' B b p v l st :=
 ⟨h.base, (hb.block b h.lt).trans h.blk, h.hp, owns_below h.own hb, h.ne⟩
theorem keep_stay {v : Value} (h : WrA W B b p v l st) (hb : Below W.heap.size W W') : KeepW W W' b := fun r hr =>
 ⟨⟨Nat.lt_of_lt_of_le hr.1 hb.size, hr.2.1, fun p v s hv => hr.2.2 p v s ((hb.block b h.lt).symm.trans hv)⟩, hb.block r hr.1⟩
def WP (W : World) (B b : Nat) (l : List UInt8) (st : Bool) (W' : World) : Prop := Wr W' B b l st /\ Below B W W' /\ KeepW W W' b /\ W.heap.size <= W'.heap.size
theorem WP.trans (h : WP W B b l st W1) (k : WP W1 B b m su W2) : WP W B b m su W2 :=
 ⟨k.1, h.2.1.trans k.2.1, h.2.2.1.trans k.2.2.1, Nat.le_trans h.2.2.2 k.2.2.2⟩
theorem WP.stay (h : WP W B b l st W1) (hB : B <= W.heap.size) (hb : Below W1.heap.size W1 W2) : WP W B b l st W2 := by
 obtain ⟨⟨p, v, ha⟩, h2, h3, h4⟩ := h;exact ⟨⟨p, v, ha.stay hb⟩, h2.trans (hb.mono (Nat.le_trans hB h4)), h3.trans (keep_stay ha hb), Nat.le_trans h4 hb.size⟩
theorem WP.refl (h : Wr W B b l st) : WP W B b l st W := ⟨h, Below.refl _ _, KeepW.refl _ _, Nat.le_refl _⟩
theorem lies_wr : liesAt Tryz.prog Tryz.prog.depth 70 (3 / Tryz.prog.cellsOf 70) 0 68 1 = true := by kernel_rfl
theorem check_fresh (b : Nat) (w : World) (h0 : w.cell? ⟨b, 0, none⟩ = some (.pointer none)) (hsh : w.shape? b = some (70, 3)) (hfz : w.frozen? ⟨b, 0, none⟩ = false) :
  Calls Tryz.prog 42 #[.pointer (some ⟨b, 0, none⟩)] w fun e w' => e = .returned (.tuple #[]) /\ w' = w.setCell ⟨b, 0, none⟩ (.pointer (some ⟨b, 0, none⟩)) := by
 obtain ⟨j, hj, hjs⟩ := Option.map_eq_some_iff.1 xe5;go_enter Tryz.func42, Tryz.ntmps42;go_wp2;rw [Lib.run_to_unsafe w ⟨b, 0, none⟩ Tryz.underlying66 Tryz.underlying88 hj (by rw [hjs]; decide) hsh (Nat.zero_lt_succ 2)];simp only [Result.andThen];rw [Oper.upon_value];go_wp2;rw [run_callFunc_extern Tryz.func63 (by kernel_rfl) (by kernel_rfl) (by kernel_rfl) (e := Extern.AbiNoEscape.same) (by kernel_rfl)];rw [Lib.run_noEscape];simp only [Result.andThen];rw [Oper.upon_value];go_wp2;rw [Lib.run_from_unsafe w ⟨b, 0, none⟩ Tryz.underlying88 Tryz.underlying66 hj hsh lies_wr];simp only [Result.andThen];rw [Oper.upon_value];go_wp2
 go_end0
 exact ⟨rfl, rfl⟩
theorem WrA.put {k n : Nat} {v p' v' : Value} {u : Value} (h : WrA W B b p v l st) (hg : W.grownBy W2 v.ownBlock) (hown : W2.ownsRow B 5 1 v' n (Lib.byteCells m)) (hn : n = m.length) (hv : ∀ g, v'.ownBlock = some g -> v.ownBlock = some g \/ W.heap.size <= g) (hc : (#[p, v, .bool st] : Array Value).setIfInBounds k u = #[p', v', .bool su]) (hp : p' = .pointer none \/ p' = .pointer (some ⟨b, 0, none⟩)) (hB : B <= W.heap.size) : WrA (W2.setCell ⟨b, k, none⟩ u) B b p' v' m su /\ Below B W (W2.setCell ⟨b, k, none⟩ u) /\ KeepW W (W2.setCell ⟨b, k, none⟩ u) b /\ W.heap.size <= (W2.setCell ⟨b, k, none⟩ u).heap.size := by
 subst hn;have hb2 : W2.heap[b]? = some (.cells #[p, v, .bool st] 70 (0, 0)) := (hg.block b h.lt (fun e => h.ne e.symm)).trans h.blk;have hb3 : (W2.setCell ⟨b, k, none⟩ u).heap[b]? = some (.cells #[p', v', .bool su] 70 (0, 0)) := by
  simp only [World.setCell, Array.getElem?_modify, if_true, hb2, Option.map_some, Option.isSome_none, Bool.false_eq_true, if_false, hc]
 have hne : v'.ownBlock ≠ some b := fun e => by
  rcases hv b e with e | e
  ·exact h.ne e
  ·have := h.lt; omega
 have hsz : (W2.setCell ⟨b, k, none⟩ u).heap.size = W2.heap.size := by simp [World.setCell]
 refine ⟨⟨h.base, hb3, hp, owns_keep hown (fun g hg => put_far _ _ _ _ (fun e => hne (by rw [hg, e]))), hne⟩, ((Below.refl B W).grown hg hB (fun k hk => (h.own.lt k hk).1)).setCell (p := ⟨b, k, none⟩) h.base _, fun r hr => ?_, by rw [hsz]; exact hg.size⟩;have e := hr.2.2 _ _ _ h.blk;refine ⟨⟨by rw [hsz]; exact Nat.lt_of_lt_of_le hr.1 hg.size, hr.2.1, fun p1 v1 s1 h1 => ?_⟩, (put_far _ _ _ _ hr.2.1).trans (hg.block r hr.1 (fun e2 => e e2.symm))⟩;rw [hb3] at h1;injection h1 with h1
 injection h1 with h1
 injection h1 with h1
 injection h1 with _ h1
 injection h1 with h1
 subst h1;intro e3;rcases hv r e3 with e4 | e4
 ·exact e e4
 ·have := hr.1; omega
theorem grown_refl (W : World) (o : Option Nat) : W.grownBy W o := ⟨rfl, rfl, rfl, Nat.le_refl _, fun _ _ _ => rfl⟩
theorem check_any {v : Value} (h : WrA W B b p v l st) (hB : B <= W.heap.size) :
  Calls Tryz.prog 42 #[.pointer (some ⟨b, 0, none⟩)] W fun e w' => e = .returned (.tuple #[]) /\ WrA w' B b (.pointer (some ⟨b, 0, none⟩)) v l st /\ Below B W w' /\ KeepW W w' b /\ W.heap.size <= w'.heap.size := by
 have c0 : W.cell? ⟨b, 0, none⟩ = some p := by rw [Lib.cell_of_heap h.blk]; rfl
 rcases h.hp with rfl | rfl
 ·refine (check_fresh b W c0 (by simp [World.shape?, h.blk]) (Lib.frozen_of_heap h.blk 0)).mono ?_;rintro e w' ⟨rfl, rfl⟩;exact ⟨rfl, h.put (grown_refl W _) h.own rfl (fun g hg => .inl hg) rfl (.inr rfl) hB⟩
 ·refine (xgo b W c0).mono ?_;rintro e w' ⟨rfl, rfl⟩;exact ⟨rfl, h, Below.refl _ _, KeepW.refl _ _, Nat.le_refl _⟩
theorem wpList_run {P : Program} {w' : World} {ops : Array Oper} {rest : List Oper} {op : Oper} {a : Act} {Q : Exit -> Act -> World -> Prop} {v : Value} (hgd : op.guard = none) (sl x : Operand) (t u : TypeId) (ho : op.op = .call { callee := .builtin .append, args := #[sl, x], argTypes := #[t, u] }) (hx : (Builtin.append_ #[t, u] op.type #[a.eval sl, a.eval x]).run P w = .ok v w') (h : wpList P ops Q rest (a.put op.dst v) w') : wpList P ops Q (op :: rest) a w := by
 refine wpList_plain hgd fun K hK => ?_;unfold Oper.wp;simp [execOp, ho, resolve, invoke, builtin, hx, Result.andThen];exact hK _ _ h
theorem app_str {v : Value} (hown : w.ownsRow B 5 1 v l.length (Lib.byteCells l)) (hB : B <= w.heap.size) (s : ByteArray) (hb : l.length + s.size <= 140737488355328) (ty : TypeId) :
  ∃ v' w', (Builtin.append_ #[44, 9] ty #[v, .string s]).run Tryz.prog w = .ok v' w' /\ w'.ownsRow B 5 1 v' (l.length + s.size) (Lib.byteCells (l ++ s.data.toList)) /\ w.grownBy w' v.ownBlock /\ ∀ g, v'.ownBlock = some g -> v.ownBlock = some g \/ w.heap.size <= g := by
 obtain ⟨i0, hi, hz0, hz1, hz2⟩ := info_parts info5;have hm : l.length + s.size <= maxLen := by unfold maxLen; omega
 rw [cells_app];rcases hown.2 with ⟨rfl, h0⟩ | ⟨g, cap, cur, rfl, hbg, hg, hnc, hcm, hcs, htake⟩
 ·have hl0 : l = [] := List.eq_nil_of_length_eq_zero h0;subst hl0;obtain ⟨v', w', h1, h2, h3, -⟩ := Lib.run_append_own_string (P := Tryz.prog) w w.heap.size 44 9 ty 5 i0 Tryz.underlying44 Tryz.underlying9 hi hz0 hz1 hz2 (.slice none 0 0) 0 [] (World.ownsRow_nil w _ _ _) s (by simpa using hm) (by simpa using hb) qr;exact ⟨v', w', h1, owns_mono h2 hB, h3, fun g hg => .inr (h2.lt g hg).1⟩
 ·obtain ⟨v', w', h1, h2, h3, -⟩ := Lib.run_append_own_string (P := Tryz.prog) w B 44 9 ty 5 i0 Tryz.underlying44 Tryz.underlying9 hi hz0 hz1 hz2 _ _ _ hown s hm hb hB;refine ⟨v', w', h1, h2, h3, fun g' hg' => ?_⟩;by_cases hroom : l.length + s.size <= cap
  ·have hr := Lib.run_append_room_stringF (P := Tryz.prog) w 44 9 ty 5 i0 Tryz.underlying44 Tryz.underlying9 hi hz1 g l.length cap cur (0, 0) hg (Nat.zero_le _) s hroom (by omega);rw [hr] at h1;cases h1;exact .inl hg'
  ·have hr := Lib.run_append_grow_string (P := Tryz.prog) w 44 9 ty 5 i0 (.int .u8 0) Tryz.underlying44 Tryz.underlying9 hi hz0 ⟨g, 0, none⟩ l.length cap (Lib.byteCells l) (by rw [hz1, Lib.byteCells_length, Nat.mul_one]) (hown.cells (g := g) rfl) s (by omega) (by omega) (by rw [hz2]; exact growslice_fits (by omega) (by omega));rw [hr] at h1;cases h1;cases hg';exact .inr qr
theorem wrS (h : Wr W B b l st) (hB : B <= W.heap.size) (s : ByteArray) (hlen : l.length + s.size <= 140737488355328) :
  Calls Tryz.prog 25 #[.pointer (some ⟨b, 0, none⟩), .string s] W fun e w' => e = .returned (.tuple #[.int .i64 s.size, .nilIface]) /\ WP W B b (l ++ s.data.toList) st w' := by
 obtain ⟨p, v, h⟩ := h;go_enter Tryz.func25, Tryz.ntmps25
 go_wp2_with (go_at_call 42; refine (check_any h hB).mono ?_)
 rintro e w1 ⟨rfl, h1, hb1, hk1, hs1⟩;have c0 : w1.cell? ⟨b, 0, none⟩ = some (.pointer (some ⟨b, 0, none⟩)) := by rw [Lib.cell_of_heap h1.blk]; rfl
 have c1 : w1.cell? ⟨b, 1, none⟩ = some v := by rw [Lib.cell_of_heap h1.blk]; rfl
 have H1 := hideT (And.intro h1 (And.intro hb1 (And.intro hk1 hs1)));clear h hb1 hk1;obtain ⟨v', w2, hrun, hown', hgrow, hv'⟩ := app_str h1.own (by omega) s hlen 44;obtain ⟨ao, n', cap, rfl⟩ : ∃ ao n' cap, v' = .slice ao n' cap := by
  rcases hown'.2 with ⟨hv, _⟩ | ⟨g, cap, cur, hv, _⟩
  ·exact ⟨_, _, _, hv⟩
  ·exact ⟨_, _, _, hv⟩
 have HR := hideT hrun;clear hrun;have hb2 : w2.heap[b]? = some (.cells #[.pointer (some ⟨b, 0, none⟩), v, .bool st] 70 (0, 0)) := (hgrow.block b h1.lt (fun e => h1.ne e.symm)).trans h1.blk;have d0 : w2.cell? ⟨b, 0, none⟩ = some (.pointer (some ⟨b, 0, none⟩)) := by rw [Lib.cell_of_heap hb2]; rfl
 have d1 : w2.cell? ⟨b, 1, none⟩ = some v := by rw [Lib.cell_of_heap hb2]; rfl
 have f1 : w2.frozen? ⟨b, 1, none⟩ = false := Lib.frozen_of_heap hb2 1;have HF := hideT (H1.out.1.put (k := 1) (u := .slice ao n' cap) (m := l ++ s.data.toList) hgrow hown' (by rw [List.length_append]; rfl) hv' rfl (.inr rfl) (by omega));clear hown' hgrow hv' hb2 h1
 go_wp2_with (at_builtin; refine wpList_run rfl _ _ _ _ rfl HR.out ?_)
 go_wp2
 go_ret2
 exact ⟨rfl, ⟨_, _, HF.out.1⟩, H1.out.2.1.trans HF.out.2.1, H1.out.2.2.1.trans HF.out.2.2.1, Nat.le_trans H1.out.2.2.2 HF.out.2.2.2⟩
theorem wrB (h : Wr W B b l st) (hB : B <= W.heap.size) (c : UInt8) (hlen : l.length + 1 <= 140737488355328) :
  Calls Tryz.prog 44 #[.pointer (some ⟨b, 0, none⟩), .int .u8 (c.toNat : Int)] W fun e w' => e = .returned .nilIface /\ WP W B b (l ++ [c]) st w' := by
 obtain ⟨i0, hi, hz0, hz1, hz2⟩ := info_parts info5;obtain ⟨p, v, h⟩ := h;generalize hx : (c.toNat : Int) = x;have HX := hideT hx;clear hx;go_enter Tryz.func44, Tryz.ntmps44
 go_wp2_with (go_at_call 42; refine (check_any h hB).mono ?_)
 rintro e w1 ⟨rfl, h1, hb1, hk1, hs1⟩;have c0 : w1.cell? ⟨b, 0, none⟩ = some (.pointer (some ⟨b, 0, none⟩)) := by rw [Lib.cell_of_heap h1.blk]; rfl
 have c1 : w1.cell? ⟨b, 1, none⟩ = some v := by rw [Lib.cell_of_heap h1.blk]; rfl
 have hA := Bal w1 (.cells #[.int .u8 x] 5);have HN := hideT (new_cells w1 [.int .u8 x] 5);have hlt := h1.lt;have H1 := hideT (And.intro h1 (And.intro hb1 (And.intro hk1 hs1)));have HS := hideT (And.intro hlt hA);clear h hb1 hk1 hlt hA
 go_wp2_with (at_builtin; refine wpList_append_lies _ rfl _ _ 44 rfl B 5 i0 _ 1 1 undB hi hz0 hz1 hz2 rfl (by omega) v l.length (Lib.byteCells l) rfl (owns_below H1.out.1.own HS.out.2) ⟨w1.heap.size, 0, none⟩ 1 1 [.int .u8 x] rfl rfl (fun j u hj => HN.out j u hj) (by simp [Value.oneCell']) (by omega) (by unfold maxLen; omega) (by omega) (by simp; omega) _ rfl ?_)
 intro g gc w2 hown' hgrow hat hglt;have h2 := H1.out.1.stay HS.out.2;have hb2 : w2.heap[b]? = some (.cells #[.pointer (some ⟨b, 0, none⟩), v, .bool st] 70 (0, 0)) := (hgrow.block b h2.lt (fun e => h2.ne e.symm)).trans h2.blk;have d0 : w2.cell? ⟨b, 0, none⟩ = some (.pointer (some ⟨b, 0, none⟩)) := by rw [Lib.cell_of_heap hb2]; rfl
 have d1 : w2.cell? ⟨b, 1, none⟩ = some v := by rw [Lib.cell_of_heap hb2]; rfl
 have f1 : w2.frozen? ⟨b, 1, none⟩ = false := Lib.frozen_of_heap hb2 1;have HF := hideT (h2.put (k := 1) (u := .slice (some ⟨g, 0, none⟩) (l.length + 1) gc) (m := l ++ [c]) hgrow (by rw [cells_app]; show w2.ownsRow B 5 1 _ _ (Lib.byteCells l ++ [.int .u8 (c.toNat : Int)]); rw [HX.out]; exact hown') (by simp) (fun g' hg' => by cases hg'; exact hat.imp id (fun e => by rw [e]; simp)) rfl (.inr rfl) (by have := HS.out.2.size; omega));have HB := hideT (HS.out.2.mono (show B <= w1.heap.size by omega));have HK := hideT (keep_stay H1.out.1 HS.out.2);have HZ := hideT HS.out.2.size;clear hown' hgrow hat hb2 h1 h2 hglt c0 c1;go_wp2;go_ret;exact ⟨rfl, ⟨_, _, HF.out.1⟩, (H1.out.2.1.trans HB.out).trans HF.out.2.1, (H1.out.2.2.1.trans HK.out).trans HF.out.2.2.1, Nat.le_trans (Nat.le_trans H1.out.2.2.2 HZ.out) HF.out.2.2.2⟩
end sho
end Go.Proofs.YtidgnebbibkmhaaGreatDoor
namespace Go.Proofs.YtidgnebbibkmhaaGreatDoor
open Go.RowKit
open scanP scrP tpl ytb
namespace sho
def Tab (w : World) : Prop := Lib.TabIs Tryz.prog w "internal/strconv.uint64pow10" .u64 Lib.pow10Tab
theorem tab_num : Tryz.prog.globalNamed "internal/strconv.uint64pow10" = some 2 := by kernel_rfl
structure Gs (w : World) : Prop where
 m : ∃ m : Int, w.cell? ⟨1, 0, none⟩ = some (.int .i64 m)
 t : Tab w
variable {w w' : World} {b c : UInt8}
theorem Gs.keep (h : Gs w) (h1 : w'.heap[1]? = w.heap[1]?) (h2 : w'.heap[2]? = w.heap[2]?) : Gs w' := by
 obtain ⟨⟨m, h3⟩, h4⟩ := h;refine ⟨⟨m, (World.cell?_of_block (a := ⟨1, 0, none⟩) h1).trans h3⟩, ?_⟩;unfold Tab Lib.TabIs World.var? at *;rw [tab_num] at h4 ⊢;simp only [Option.bind_some] at h4 ⊢;rw [h2];exact h4
theorem Gs.below {B : Nat} (h : Gs w) (hb : Below B w w') (hB : 2 < B) : Gs w' := h.keep (hb.block 1 (by omega)) (hb.block 2 hB)
theorem below_growN (w : World) (k : Nat) (os : Array Obj) : Below w.heap.size w (Go.Sort.grow (w.drewN k) os) :=
 ⟨rfl, rfl, rfl, by show w.heap.size <= (w.heap ++ os).size; rw [Array.size_append]; omega, fun j hj => by show (w.heap ++ os)[j]? = w.heap[j]?; exact Array.getElem?_append_left hj⟩
def rpB (c : UInt8) (new : List UInt8) : List UInt8 -> List UInt8
 | [] => []
 | b :: r => (if b = c then new else [b]) ++ rpB c new r
theorem index_ne (h : b ≠ c) (l : List UInt8) : Lib.index (b :: l) [c] = if Lib.index l [c] == -1 then -1 else Lib.index l [c] + 1 := by
 rw [Lib.index, if_neg (by simp [Ne.symm h])]
theorem repK_ne (h : b ≠ c) (new : List UInt8) (k : Nat) (l : List UInt8) : Lib.replaceK [c] new k (b :: l) = b :: Lib.replaceK [c] new k l := by
 cases k with
 | zero => rfl
 | succ k =>
  rw [Lib.replaceK, Lib.replaceK, index_ne h];have hg := Lib.index_ge l [c];by_cases h1 : Lib.index l [c] = -1
  ·rw [h1]; rfl
  ·have h2 : (Lib.index l [c] == -1) = false := by simpa using h1
   obtain ⟨n, hn⟩ : ∃ n : Nat, Lib.index l [c] = n := ⟨(Lib.index l [c]).toNat, by omega⟩;rw [h2, hn];have h3 : (((n : Int) + 1) == -1) = false := qn;have e : ((n : Int) + 1).toNat = n + 1 := by omega
   simp only [Bool.false_eq_true, if_false, h3, e, Int.toNat_natCast, List.length_singleton];rfl
theorem repK_eq (c : UInt8) (new : List UInt8) (k : Nat) (l : List UInt8) : Lib.replaceK [c] new (k + 1) (c :: l) = new ++ Lib.replaceK [c] new k l := by
 have e : Lib.index (c :: l) [c] = 0 := by rw [Lib.index, if_pos (by simp)]
 rw [Lib.replaceK, e];rfl
theorem rep_one {new : List UInt8} (hn : [c] ≠ new) (l : List UInt8) : Lib.replaceAll l [c] new = rpB c new l := by
 unfold Lib.replaceAll Lib.replace Lib.replaceNum;rw [if_neg (by simpa using hn), if_pos (.inl (by decide))];induction l with
 | nil => rfl
 | cons b l ih =>
  unfold rpB;by_cases h : b = c
  ·subst h;rw [if_pos rfl, Lib.count_cons_eq, Nat.add_comm, repK_eq, ih]
  ·rw [if_neg h, Lib.count_cons_ne b c l h, repK_ne h, ih];rfl
theorem rp_two (nl : List UInt8) : ∀ l : List UInt8, rpB 10 nl (rpB 92 [92, 92] l) = eN nl l
 | [] => rfl
 | b :: r => by
  have ih := rp_two nl r;have app : ∀ x y : List UInt8, rpB 10 nl (x ++ y) = rpB 10 nl x ++ rpB 10 nl y := by
   intro x y;induction x with
   | nil => rfl
   | cons c x ihx => simp only [List.cons_append, rpB, ihx, List.append_assoc]
  rw [rpB, eN, app, ih];by_cases h : b = 92
  ·rw [if_pos h, if_pos h]; rfl
  ·rw [if_neg h, if_neg h];by_cases h2 : b = 10
   ·rw [if_pos h2, h2]; simp [rpB]
   ·rw [if_neg h2]; simp [rpB, h2]
theorem rpB_len (c : UInt8) (new : List UInt8) (h : new.length <= 2) : ∀ l : List UInt8, (rpB c new l).length <= 2 * l.length
 | [] => Nat.le_refl _
 | b :: r => by
  have ih := rpB_len c new h r;rw [rpB, List.length_append, List.length_cons];split
  ·omega
  ·simp only [List.length_singleton]; omega
theorem xkb (s nl : ByteArray) (w : World) (hs : s.size <= 1000000) (hn : nl.size = 2) (hg : Gs w) (hw : 2 < w.heap.size) :
  Calls Tryz.prog 67 #[.string s, .string nl] w fun e w' => e = .returned (.string (bst (eN nl.data.toList s.data.toList))) /\ Below w.heap.size w w' := by
 obtain ⟨⟨m, hm⟩, -⟩ := id hg;have c1 := Tryz.strings_ReplaceAll s ⟨#[92]⟩ ⟨#[92, 92]⟩ m w (by omega) hm (by decide) (by have := Lib.countB_le ⟨#[92]⟩ (by decide) s.size s qr; have e : (⟨#[92, 92]⟩ : ByteArray).size = 2 := rfl; rw [e]; omega);rw [show (⟨#[92]⟩ : ByteArray).data.toList = [92] from rfl, show (⟨#[92, 92]⟩ : ByteArray).data.toList = [92, 92] from rfl, rep_one (by decide)] at c1;have hl := rpB_len 92 [92, 92] (by decide) s.data.toList;have hsl : s.data.toList.length = s.size := Array.length_toList;rw [hsl] at hl;have c2 : ∀ w', Below w.heap.size w w' -> Calls Tryz.prog 85 #[.string ⟨(rpB 92 [92, 92] s.data.toList).toArray⟩, .string ⟨#[10]⟩, .string nl] w' fun e w'' => e = .returned (.string (bst (eN nl.data.toList s.data.toList))) /\ Below w'.heap.size w' w'' := fun w' hb => by
  obtain ⟨⟨m, hm⟩, -⟩ := hg.below hb hw;have hz : (⟨(rpB 92 [92, 92] s.data.toList).toArray⟩ : ByteArray).size = (rpB 92 [92, 92] s.data.toList).length := by simp [ByteArray.size]
  have c := Tryz.strings_ReplaceAll ⟨(rpB 92 [92, 92] s.data.toList).toArray⟩ ⟨#[10]⟩ nl m w' (by omega) hm (by decide) (by have := Lib.countB_le ⟨#[10]⟩ (by decide) _ ⟨(rpB 92 [92, 92] s.data.toList).toArray⟩ qr; rw [hn]; omega);rw [show (⟨#[10]⟩ : ByteArray).data.toList = [10] from rfl, rep_one (by intro e; have h2 := congrArg List.length e; rw [show nl.data.toList.length = nl.size from Array.length_toList, hn] at h2; cases h2), show (⟨(rpB 92 [92, 92] s.data.toList).toArray⟩ : ByteArray).data.toList = rpB 92 [92, 92] s.data.toList by simp, rp_two] at c;exact c
 have C1 := hideT c1;have C2 := hideT c2;clear c1 c2 hl hsl hm hg;go_enter Tryz.func67, Tryz.ntmps67
 go_wp2_with fail
 refine C1.out.mono ?_;rintro e w1 ⟨rfl, hb1⟩;have H1 := hideT hb1;clear hb1
 go_wp2_with fail
 refine (C2.out w1 H1.out).mono ?_;rintro e w2 ⟨rfl, hb2⟩;go_wp2;go_ret;exact ⟨rfl, H1.out.trans (hb2.mono H1.out.size)⟩
end sho
end Go.Proofs.YtidgnebbibkmhaaGreatDoor
namespace Go.Proofs.YtidgnebbibkmhaaGreatDoor
open Go.RowKit
open scanP scrP tpl ytb
namespace sho
def TsR (W : World) (g : Nat) (ts : List (List UInt8)) : Prop := ∀ k t, ts[k]? = some t -> W.cell? ⟨g, k, none⟩ = some (.string (bst t))
theorem TsR.keep {W W' : World} {g : Nat} {ts : List (List UInt8)} (h : TsR W g ts) (hk : W'.heap[g]? = W.heap[g]?) : TsR W' g ts := fun k t ht => (World.cell?_of_block (a := ⟨g, k, none⟩) hk).trans (h k t ht)
theorem idx_mem (c : UInt8) : ∀ l : List UInt8, (0 <= Lib.indexByte l c) ↔ l.contains c = true
 | [] => by simp [Lib.indexByte]
 | b :: l => by
  have ih := idx_mem c l;have hg := Lib.indexByte_ge l c;rw [Lib.indexByte, List.contains_cons];by_cases h : b = c
  ·simp [h]
  ·have h1 : (b == c) = false := by simpa using h
   have h2 : (c == b) = false := by simpa using Ne.symm h
   rw [h1, h2, Bool.false_or, <- ih];simp only [Bool.false_eq_true, if_false];split
   ·rename_i h3;have h3 : Lib.indexByte l c = -1 := by simpa using h3
    rw [h3]
   ·rename_i h3;have h3 : Lib.indexByte l c ≠ -1 := by simpa using h3
    omega
theorem isFree_any (d : UInt8) (x : Int) (hx : (d.toNat : Int) = x) (ts : List (List UInt8)) (g : Nat) (W : World) (h : TsR W g ts) (hl : ts.length <= 1000) :
  Calls Tryz.prog 65 #[.int .u8 x, .slice (some ⟨g, 0, none⟩) ts.length ts.length] W fun e w' => e = .returned (.bool (frB d ts)) /\ w' = W := by
 have HH := hideT h;have HX := hideT hx;clear h hx;go_enter Tryz.func65, Tryz.ntmps65
 go_wp2_with fail
 go_loopw [9] (fun i wr => ∃ k : Nat, k <= ts.length /\ i = .int .i64 k /\ Hid (frB d (ts.take k) = true) /\ wr = W) (fun i _ => ts.length - (intOf i).toNat)
 case atStart => exact ⟨0, by omega, rfl, hideT (by simp [frB]), rfl⟩
 case round =>
  obtain ⟨k, hk, rfl, HN, rfl⟩ := hrel;by_cases hlt : k < ts.length
  ·have c1 := HH.out k _ (List.getElem?_eq_getElem hlt);have i1 : (k : Int) < (ts.length : Int) := by omega
   have i2 : (0 : Int) <= (k : Int) := by omega
   have hI := Tryz.strings_IndexByte (bst ts[k]) x wr;have e1 : x.toNat.toUInt8 = d := by rw [<- HX.out]; simp
   rw [e1, xbu] at hI;have hm := idx_mem d ts[k];have HT := hideT (show ts.take (k + 1) = ts.take k ++ [ts[k]] from List.take_succ_eq_append_getElem hlt);have HD := hideT (show ts = ts.take k ++ ts[k] :: ts.drop (k + 1) by rw [<- List.drop_eq_getElem_cons hlt, List.take_append_drop]);generalize ts[k] = t at *;generalize Lib.indexByte t d = z at *;have HI := hideT hI;clear hI e1;cases hc : t.contains d with
   | true =>
    have hz : (0 : Int) <= z := hm.2 hc;have HF := hideT (show frB d ts = false by rw [HD.out]; unfold frB; rw [List.all_append, List.all_cons, hc]; simp);clear hm hc
    go_wp2_with fail
    refine HI.out.mono ?_;rintro e w1 ⟨rfl, rfl⟩;go_wp2;go_ret;rw [HF.out];exact ⟨rfl, rfl⟩
   | false =>
    have hz : ((0 : Int) <= z) = False := by rw [eq_iff_iff, iff_false]; intro e; rw [hm.1 e] at hc; cases hc
    have HF := hideT (show frB d (ts.take (k + 1)) = true by rw [HT.out]; have := HN.out; unfold frB at this ⊢; rw [List.all_append, this, List.all_cons, hc]; rfl);clear hm hc
    go_wp2_with fail
    refine HI.out.mono ?_;rintro e w1 ⟨rfl, rfl⟩;go_wp2;exact ⟨⟨k + 1, by omega, by go_num, HF, trivial⟩, by simp [intOf]; omega⟩
  ·obtain rfl : k = ts.length := by omega
   have i1 : ((ts.length : Int) < (ts.length : Int)) = False := qg;have HF := HN;rw [List.take_length] at HF;go_wp2;go_ret;rw [HF.out];exact ⟨rfl, rfl⟩
def dlV : Option UInt8 -> Value
 | none => .tuple #[.int .u8 0, .bool false]
 | some d => .tuple #[.int .u8 (d.toNat : Int), .bool true]
theorem delimiter_any (ts : List (List UInt8)) (g : Nat) (W : World) (h : TsR W g ts) (hl : ts.length <= 1000) :
  Calls Tryz.prog 84 #[.slice (some ⟨g, 0, none⟩) ts.length ts.length] W fun e w' => e = .returned (dlV (dlm ts)) /\ w' = W := by
 have HI := hideT (fun d x hx => isFree_any d x hx ts g W h hl);clear h;go_enter Tryz.func84, Tryz.ntmps84
 go_wp2_with fail
 refine (HI.out 47 47 rfl).mono ?_;rintro e w1 ⟨rfl, rfl⟩;cases hf : frB 47 ts with
 | true =>
  have HF := hideT (show dlV (dlm ts) = .tuple #[.int .u8 47, .bool true] by unfold dlm; rw [hf]; rfl);clear hf;go_wp2
  go_ret2
  rw [HF.out];exact ⟨rfl, rfl⟩
 | false =>
  have HF := hideT (show dlm ts = dlF ts 94 33 by unfold dlm; rw [hf]; rfl);clear hf
  go_wp2_with fail
  go_loopw [4] (fun v wr => ∃ k : Nat, 33 <= k /\ k <= 127 /\ v = .int .u8 k /\ Hid (dlF ts (127 - k) k = dlF ts 94 33) /\ wr = w1) (fun v _ => 127 - (intOf v).toNat)
  case atStart => exact ⟨33, by omega, by omega, rfl, hideT rfl, rfl⟩
  case round =>
   obtain ⟨k, hk1, hk2, rfl, HN, rfl⟩ := hrel;by_cases hlt : k <= 126
   ·have i1 : (k : Int) <= 126 := by omega
    obtain ⟨m, hm⟩ : ∃ m, 127 - k = m + 1 := ⟨126 - k, by omega⟩;have hm2 : 127 - (k + 1) = m := by omega
    have hu : ((UInt8.ofNat k).toNat : Int) = (k : Int) := by
     have : (UInt8.ofNat k).toNat = k % 256 := rfl;omega
    have HS := hideT (show dlF ts (127 - k) k = if k ≠ 92 /\ frB (UInt8.ofNat k) ts = true then some (UInt8.ofNat k) else dlF ts (127 - (k + 1)) (k + 1) by rw [hm, hm2]; rfl);have HU := hideT (HI.out (UInt8.ofNat k) k hu);have HV := hideT hu;have i3 : IntKind.u8.wrap ((k : Int) + 1) = (k : Int) + 1 := by rw [IntKind.wrap_u8]; omega
    clear hu hm hm2;by_cases h92 : k = 92
    ·subst h92;have HN2 := hideT (show dlF ts (127 - (92 + 1)) (92 + 1) = dlF ts 94 33 by rw [<- HN.out, HS.out, if_neg (by simp)]);clear HS HU HV i3;go_wp2;exact ⟨⟨93, by omega, by omega, rfl, HN2, trivial⟩, by simp [intOf]⟩
    ·have i2 : ((k : Int) != 92) = true := by simp; omega
     have i4 : ((k : Int) == 92) = false := by simp; omega
     cases hf : frB (UInt8.ofNat k) ts with
     | true =>
      have HR := hideT (show dlV (dlm ts) = .tuple #[.int .u8 (k : Int), .bool true] by rw [HF.out, <- HN.out, HS.out, if_pos ⟨h92, hf⟩]; show Value.tuple #[.int .u8 ((UInt8.ofNat k).toNat : Int), .bool true] = _; rw [HV.out]);rw [hf] at HU;clear hf HS HV i3 h92
      go_wp2_with fail
      refine HU.out.mono ?_;rintro e w2 ⟨rfl, rfl⟩;go_wp2
      go_ret2
      rw [HR.out];exact ⟨rfl, rfl⟩
     | false =>
      have HN2 := hideT (show dlF ts (127 - (k + 1)) (k + 1) = dlF ts 94 33 by rw [<- HN.out, HS.out, if_neg (by rw [hf]; simp)]);rw [hf] at HU;clear hf HS HV h92
      go_wp2_with fail
      refine HU.out.mono ?_;rintro e w2 ⟨rfl, rfl⟩;go_wp2;exact ⟨⟨k + 1, by omega, by omega, by simp, HN2, trivial⟩, by simp [intOf]; omega⟩
   ·obtain rfl : k = 127 := by omega
    have HR := hideT (show dlV (dlm ts) = .tuple #[.int .u8 0, .bool false] by rw [HF.out, <- HN.out]; rfl);go_wp2
    go_ret2
    rw [HR.out];exact ⟨rfl, rfl⟩
end sho
end Go.Proofs.YtidgnebbibkmhaaGreatDoor
namespace Go.Proofs.YtidgnebbibkmhaaGreatDoor
open Go.RowKit
open scanP scrP tpl ytb
namespace sho
theorem bws_app (d : UInt8) (x y : List (List UInt8)) : bws d (x ++ y) = bws d x ++ bws d y := by
 induction x with
 | nil => rfl
 | cons t x ih => simp only [List.cons_append, bws, ih, List.append_assoc]
def btS (ts : List (List UInt8)) (x : List UInt8 × Bool) : List UInt8 × Bool := match btw ts with
 | none => (x.1, true)
 | some t => (x.1 ++ t, x.2)
def tsN (ts : List (List UInt8)) : Nat := (ts.map List.length).sum
theorem bws_len (d : UInt8) (ts : List (List UInt8)) : (bws d ts).length = tsN ts + ts.length := by
 induction ts with
 | nil => rfl
 | cons t r ih => simp only [bws, List.length_append, List.length_cons, ih, tsN, List.map_cons, List.sum_cons]; omega
variable {W : World} {B b : Nat} {l : List UInt8} {st : Bool}
theorem wr_st (h : Wr W B b l st) (hB : B <= W.heap.size) : W.cell? ⟨b, 2, none⟩ = some (.bool st) /\ W.frozen? ⟨b, 2, none⟩ = false /\ WP W B b l true (W.setCell ⟨b, 2, none⟩ (.bool true)) := by
 obtain ⟨p, v, h⟩ := h;refine ⟨by rw [Lib.cell_of_heap h.blk]; rfl, Lib.frozen_of_heap h.blk 2, ?_⟩;have := h.put (k := 2) (u := .bool true) (grown_refl W _) h.own rfl (fun g hg => .inl hg) rfl h.hp hB;exact ⟨⟨_, _, this.1⟩, this.2.1, this.2.2.1, this.2.2.2⟩
theorem between_any {g : Nat} (h : Wr W B b l st) (hB : B <= W.heap.size) (ts : List (List UInt8)) (hT : TsR W g ts) (hN : NotW W b g) (hl : ts.length <= 2) (hb : l.length + tsN ts <= 1000000000) :
  Calls Tryz.prog 66 #[.pointer (some ⟨b, 0, none⟩), .slice (some ⟨g, 0, none⟩) ts.length ts.length] W fun e w' => e = .returned (.tuple #[]) /\ WP W B b (btS ts (l, st)).1 (btS ts (l, st)).2 w' := by
 have HD := hideT (delimiter_any ts g W hT (by omega));have HW := hideT h;have HT := hideT hT;have HN := hideT hN;obtain ⟨c2, f2, hs⟩ := wr_st h hB;have HS := hideT hs;clear h hT hN hs;go_enter Tryz.func66, Tryz.ntmps66;cases hd : dlm ts with
 | none =>
  have HR := hideT (show btS ts (l, st) = (l, true) by unfold btS btw; rw [hd]);rw [hd] at HD;clear hd;unfold dlV at HD
  go_wp2_with fail
  refine HD.out.mono ?_;rintro e w1 ⟨rfl, rfl⟩;go_wp2;refine bodyPost_ret (results_none rfl _ _ _) rfl ?_;rw [HR.out];exact ⟨rfl, HS.out⟩
 | some d =>
  have HR := hideT (show btS ts (l, st) = (l ++ d :: bws d ts, st) by unfold btS btw; rw [hd]);rw [hd] at HD;clear hd HS c2 f2;unfold dlV at HD;have HX := hideT (rfl : (d.toNat : Int) = (d.toNat : Int))
  go_wp2_with fail
  refine HD.out.mono ?_;rintro e w1 ⟨rfl, rfl⟩
  go_wp2_with fail
  refine (wrB HW.out hB d (by omega)).mono ?_;rintro e w2 ⟨rfl, hp⟩;have HP := hideT hp;clear hp
  go_wp2_with fail
  go_loopw [25] (fun i wr => ∃ k : Nat, k <= ts.length /\ i = .int .i64 k /\ Hid (WP w1 B b (l ++ d :: bws d (ts.take k)) st wr)) (fun i _ => ts.length - (intOf i).toNat)
  case atStart => exact ⟨0, by omega, rfl, HP⟩
  case round =>
   obtain ⟨k, hk, rfl, HK⟩ := hrel;by_cases hlt : k < ts.length
   ·have c1 := (HT.out.keep (HK.out.2.2.1 g HN.out).2) k _ (List.getElem?_eq_getElem hlt);have i1 : (k : Int) < (ts.length : Int) := by omega
    have i2 : (0 : Int) <= (k : Int) := by omega
    have HT2 := hideT (show l ++ d :: bws d (ts.take (k + 1)) = (l ++ d :: bws d (ts.take k)) ++ ts[k] ++ [d] by rw [List.take_succ_eq_append_getElem hlt, bws_app]; simp [bws]);have hL : (l ++ d :: bws d (ts.take (k + 1))).length <= 1000000005 := by
     have h1 := bws_len d (ts.take (k + 1));have h2 : tsN (ts.take (k + 1)) <= tsN ts := by
      have : tsN ts = tsN (ts.take (k + 1)) + tsN (ts.drop (k + 1)) := by unfold tsN; rw [<- List.sum_append, <- List.map_append, List.take_append_drop]
      omega
     have h3 : (ts.take (k + 1)).length <= ts.length := by rw [List.length_take]; omega
     rw [List.length_append, List.length_cons, h1]; omega
    rw [HT2.out] at hL;have HL := hideT hL;clear hL;generalize ts[k] = t at *;generalize l ++ d :: bws d (ts.take k) = m at *;have HB : Hid (B <= wr.heap.size) := hideT (Nat.le_trans hB HK.out.2.2.2);have hL2 : m.length + (bst t).size + 1 <= 1000000005 := by have := HL.out; rw [List.length_append, List.length_append] at this; rw [xbt]; simpa using this
    go_wp2_with fail
    refine (wrS HK.out.1 HB.out (bst t) (by omega)).mono ?_;rintro e w3 ⟨rfl, hp3⟩;rw [xbu] at hp3;have H3 := hideT (HK.out.trans hp3);clear hp3
    go_wp2_with fail
    refine (wrB H3.out.1 (Nat.le_trans hB H3.out.2.2.2) d (by rw [List.length_append]; rw [xbt] at hL2; omega)).mono ?_;rintro e w4 ⟨rfl, hp4⟩;have H4 := hideT (H3.out.trans hp4);rw [<- HT2.out] at H4;clear hp4;go_wp2;exact ⟨⟨k + 1, by omega, by go_num, H4⟩, by simp [intOf]; omega⟩
   ·obtain rfl : k = ts.length := by omega
    have i1 : ((ts.length : Int) < (ts.length : Int)) = False := qg;have HF := HK;rw [List.take_length] at HF;go_wp2
    go_end0
    rw [HR.out];exact ⟨rfl, HF.out⟩
theorem word_any (h : Wr W B b l st) (hB : B <= W.heap.size) (t : List UInt8) (hb : l.length + t.length <= 1000000000) :
  Calls Tryz.prog 69 #[.pointer (some ⟨b, 0, none⟩), .string (bst t)] W fun e w' => e = .returned (.tuple #[]) /\ WP W B b (l ++ woW t) st w' := by
 have HW := hideT h;clear h;go_enter Tryz.func69, Tryz.ntmps69;by_cases ht : t = []
 ·have HR := hideT (show l ++ woW t = l by unfold woW; rw [if_pos ht, List.append_nil]);have e2 : (bst t).toList = [] := by rw [ByteArray.toList_eq]; exact (xbu t).trans ht
  have e1 : ((bst t).toList == []) = true := by rw [e2]; rfl
  have e3 : (bst t).toList.isEmpty = true := by rw [e2]; rfl
  clear ht;go_wp2
  go_end0
  rw [HR.out];exact ⟨rfl, .refl HW.out⟩
 ·have HR := hideT (show l ++ woW t = l ++ [32] ++ t by unfold woW; rw [if_neg ht]; simp);have e0 : (bst t).toList = t := by rw [ByteArray.toList_eq]; exact xbu t
  have e1 : ((bst t).toList == []) = false := by rw [e0]; simpa using ht
  have e2 : ((bst t).toList = []) = False := by rw [e0]; simpa using ht
  have e3 : (bst t).toList.isEmpty = false := by rw [e0]; simpa using ht
  clear ht e0
  go_wp2_with fail
  refine (wrB HW.out hB 32 (by omega)).mono ?_;rintro e w1 ⟨rfl, hp⟩;have H1 := hideT hp;clear hp
  go_wp2_with fail
  refine (wrS H1.out.1 (Nat.le_trans hB H1.out.2.2.2) (bst t) (by rw [xbt, List.length_append]; simp; omega)).mono ?_;rintro e w2 ⟨rfl, hp⟩;rw [xbu] at hp;have H2 := hideT (H1.out.trans hp);clear hp;go_wp2
  go_end0
  rw [HR.out];exact ⟨rfl, H2.out⟩
end sho
end Go.Proofs.YtidgnebbibkmhaaGreatDoor
