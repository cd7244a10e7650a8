/- show: the writer: what is written. -/
import Derived.Test.YtidgnebbibkmhaaGreatDoorKUk
import Derived.Lib.AppendStr
import Derived.Lib.UnsafeStr
import Derived.Lib.FrozenHead
import Derived.Laws.Externs
set_option maxRecDepth 100000
set_option maxHeartbeats 4000000
namespace Go.Proofs.YtidgnebbibkmhaaGreatDoor
open Go.RowKit
namespace sho

/-- A writer at block b: its cells, its row; nothing of it below B. -/
structure WrA (W : World) (B b : Nat) (p v : Value) (l : List UInt8) (st : Bool) : Prop where
  base : B ≤ b
  blk : W.heap[b]? = some (.cells #[p, v, .bool st] 70 (0, 0))
  hp : p = .pointer none ∨ p = .pointer (some ⟨b, 0, none⟩)
  own : W.ownsRow B 5 1 v l.length (Lib.byteCells l)
  ne : v.ownBlock ≠ some b
def Wr (W : World) (B b : Nat) (l : List UInt8) (st : Bool) : Prop := ∃ p v, WrA W B b p v l st
/-- Block r is there, and none of the writer's. -/
def NotW (W : World) (b r : Nat) : Prop := r < W.heap.size ∧ r ≠ b ∧ ∀ p v s, W.heap[b]? = some (.cells #[p, v, s] 70 (0, 0)) → v.ownBlock ≠ some r
def KeepW (W W' : World) (b : Nat) : Prop := ∀ r, NotW W b r → NotW W' b r ∧ W'.heap[r]? = W.heap[r]?
theorem KeepW.refl (W : World) (b : Nat) : KeepW W W b := fun _ h => ⟨h, rfl⟩
theorem KeepW.trans {W W' W'' : World} {b : Nat} (h : KeepW W W' b) (h' : KeepW W' W'' b) : KeepW W W'' b := fun r hr =>
  ⟨(h' r (h r hr).1).1, (h' r (h r hr).1).2.trans (h r hr).2⟩
theorem WrA.lt {W : World} {B b : Nat} {p v : Value} {l : List UInt8} {st : Bool} (h : WrA W B b p v l st) : b < W.heap.size := (Array.getElem?_eq_some_iff.1 h.blk).1
theorem WrA.stay {W W' : World} {B b : Nat} {p v : Value} {l : List UInt8} {st : Bool} (h : WrA W B b p v l st) (hb : Below W.heap.size W W') : WrA W' B b p v l st :=
  ⟨h.base, (hb.block b h.lt).trans h.blk, h.hp, owns_below h.own hb, h.ne⟩
theorem keep_stay {W W' : World} {B b : Nat} {p v : Value} {l : List UInt8} {st : Bool} (h : WrA W B b p v l st) (hb : Below W.heap.size W W') : KeepW W W' b := fun r hr =>
  ⟨⟨Nat.lt_of_lt_of_le hr.1 hb.size, hr.2.1, fun p v s hv => hr.2.2 p v s ((hb.block b h.lt).symm.trans hv)⟩, hb.block r hr.1⟩
/-- What a call leaves of the writer. -/
def WP (W : World) (B b : Nat) (l : List UInt8) (st : Bool) (W' : World) : Prop := Wr W' B b l st ∧ Below B W W' ∧ KeepW W W' b ∧ W.heap.size ≤ W'.heap.size
theorem WP.trans {W W1 W2 : World} {B b : Nat} {l m : List UInt8} {st su : Bool} (h : WP W B b l st W1) (k : WP W1 B b m su W2) : WP W B b m su W2 :=
  ⟨k.1, h.2.1.trans k.2.1, h.2.2.1.trans k.2.2.1, Nat.le_trans h.2.2.2 k.2.2.2⟩
theorem WP.stay {W W1 W2 : World} {B b : Nat} {l : List UInt8} {st : Bool} (h : WP W B b l st W1) (hB : B ≤ W.heap.size) (hb : Below W1.heap.size W1 W2) : WP W B b l st W2 := by
  obtain ⟨⟨p, v, ha⟩, h2, h3, h4⟩ := h
  exact ⟨⟨p, v, ha.stay hb⟩, h2.trans (hb.mono (Nat.le_trans hB h4)), h3.trans (keep_stay ha hb), Nat.le_trans h4 hb.size⟩
theorem WP.refl {W : World} {B b : Nat} {l : List UInt8} {st : Bool} (h : Wr W B b l st) : WP W B b l st W := ⟨h, Below.refl _ _, KeepW.refl _ _, Nat.le_refl _⟩
theorem lies_wr : liesAt Tryz.prog Tryz.prog.depth 70 (3 / Tryz.prog.cellsOf 70) 0 68 1 = true := by kernel_rfl

theorem check_fresh (b : Nat) (w : World) (h0 : w.cell? ⟨b, 0, none⟩ = some (.pointer none)) (hsh : w.shape? b = some (70, 3)) (hfz : w.frozen? ⟨b, 0, none⟩ = false) :
    Calls Tryz.prog 42 #[.pointer (some ⟨b, 0, none⟩)] w fun e w' => e = .returned (.tuple #[]) ∧ w' = w.setCell ⟨b, 0, none⟩ (.pointer (some ⟨b, 0, none⟩)) := by
  obtain ⟨j, hj, hjs⟩ := Option.map_eq_some_iff.1 xe5
  go_enter Tryz.func42, Tryz.ntmps42
  go_wp2
  rw [Lib.run_to_unsafe w ⟨b, 0, none⟩ Tryz.underlying66 Tryz.underlying88 hj (by rw [hjs]; decide) hsh (Nat.zero_lt_succ 2)]
  simp only [Result.andThen]
  rw [Oper.upon_value]
  go_wp2
  rw [run_callFunc_extern Tryz.func63 (by kernel_rfl) (by kernel_rfl) (by kernel_rfl) (e := Extern.AbiNoEscape.same) (by kernel_rfl)]
  rw [Lib.run_noEscape]
  simp only [Result.andThen]
  rw [Oper.upon_value]
  go_wp2
  rw [Lib.run_from_unsafe w ⟨b, 0, none⟩ Tryz.underlying88 Tryz.underlying66 hj hsh lies_wr]
  simp only [Result.andThen]
  rw [Oper.upon_value]
  go_wp2
  go_end0
  exact ⟨rfl, rfl⟩
/-- A cell of the writer is written. -/
theorem WrA.put {W W2 : World} {B b k n : Nat} {p v p' v' : Value} {l m : List UInt8} {st su : Bool} {u : Value} (h : WrA W B b p v l st) (hg : W.grownBy W2 v.ownBlock) (hown : W2.ownsRow B 5 1 v' n (Lib.byteCells m)) (hn : n = m.length) (hv : ∀ g, v'.ownBlock = some g → v.ownBlock = some g ∨ W.heap.size ≤ g) (hc : (#[p, v, .bool st] : Array Value).setIfInBounds k u = #[p', v', .bool su]) (hp : p' = .pointer none ∨ p' = .pointer (some ⟨b, 0, none⟩)) (hB : B ≤ W.heap.size) : WrA (W2.setCell ⟨b, k, none⟩ u) B b p' v' m su ∧ Below B W (W2.setCell ⟨b, k, none⟩ u) ∧ KeepW W (W2.setCell ⟨b, k, none⟩ u) b ∧ W.heap.size ≤ (W2.setCell ⟨b, k, none⟩ u).heap.size := by
  subst hn
  have hb2 : W2.heap[b]? = some (.cells #[p, v, .bool st] 70 (0, 0)) := (hg.block b h.lt (fun e => h.ne e.symm)).trans h.blk
  have hb3 : (W2.setCell ⟨b, k, none⟩ u).heap[b]? = some (.cells #[p', v', .bool su] 70 (0, 0)) := by
    simp only [World.setCell, Array.getElem?_modify, if_true, hb2, Option.map_some, Option.isSome_none, Bool.false_eq_true, if_false, hc]
  have hne : v'.ownBlock ≠ some b := fun e => by
    rcases hv b e with e | e
    · exact h.ne e
    · have := h.lt; omega
  have hsz : (W2.setCell ⟨b, k, none⟩ u).heap.size = W2.heap.size := by simp [World.setCell]
  refine ⟨⟨h.base, hb3, hp, owns_keep hown (fun g hg => put_far _ _ _ _ (fun e => hne (by rw [hg, e]))), hne⟩, ((Below.refl B W).grown hg hB (fun k hk => (h.own.lt k hk).1)).setCell (p := ⟨b, k, none⟩) h.base _, fun r hr => ?_, by rw [hsz]; exact hg.size⟩
  have e := hr.2.2 _ _ _ h.blk
  refine ⟨⟨by rw [hsz]; exact Nat.lt_of_lt_of_le hr.1 hg.size, hr.2.1, fun p1 v1 s1 h1 => ?_⟩, (put_far _ _ _ _ hr.2.1).trans (hg.block r hr.1 (fun e2 => e e2.symm))⟩
  rw [hb3] at h1
  injection h1 with h1
  injection h1 with h1
  injection h1 with h1
  injection h1 with _ h1
  injection h1 with h1
  subst h1
  intro e3
  rcases hv r e3 with e4 | e4
  · exact e e4
  · have := hr.1; omega
theorem grown_refl (W : World) (o : Option Nat) : W.grownBy W o := ⟨rfl, rfl, rfl, Nat.le_refl _, fun _ _ _ => rfl⟩
theorem check_any {W : World} {B b : Nat} {p v : Value} {l : List UInt8} {st : Bool} (h : WrA W B b p v l st) (hB : B ≤ W.heap.size) :
    Calls Tryz.prog 42 #[.pointer (some ⟨b, 0, none⟩)] W fun e w' => e = .returned (.tuple #[]) ∧ WrA w' B b (.pointer (some ⟨b, 0, none⟩)) v l st ∧ Below B W w' ∧ KeepW W w' b ∧ W.heap.size ≤ w'.heap.size := by
  have c0 : W.cell? ⟨b, 0, none⟩ = some p := by rw [Lib.cell_of_heap h.blk]; rfl
  rcases h.hp with rfl | rfl
  · refine (check_fresh b W c0 (by simp [World.shape?, h.blk]) (Lib.frozen_of_heap h.blk 0)).mono ?_
    rintro e w' ⟨rfl, rfl⟩
    exact ⟨rfl, h.put (grown_refl W _) h.own rfl (fun g hg => .inl hg) rfl (.inr rfl) hB⟩
  · refine (xgo b W c0).mono ?_
    rintro e w' ⟨rfl, rfl⟩
    exact ⟨rfl, h, Below.refl _ _, KeepW.refl _ _, Nat.le_refl _⟩

theorem wpList_run {P : Program} {w w' : World} {ops : Array Oper} {rest : List Oper} {op : Oper} {a : Act} {Q : Exit → Act → World → Prop} {v : Value} (hgd : op.guard = none) (sl x : Operand) (t u : TypeId) (ho : op.op = .call { callee := .builtin .append, args := #[sl, x], argTypes := #[t, u] }) (hx : (Builtin.append_ #[t, u] op.type #[a.eval sl, a.eval x]).run P w = .ok v w') (h : wpList P ops Q rest (a.put op.dst v) w') : wpList P ops Q (op :: rest) a w := by
  refine wpList_plain hgd fun K hK => ?_
  unfold Oper.wp
  simp [execOp, ho, resolve, invoke, builtin, hx, Result.andThen]
  exact hK _ _ h
/-- append of a string: where the new row lies. -/
theorem app_str {w : World} {B : Nat} {v : Value} {l : List UInt8} (hown : w.ownsRow B 5 1 v l.length (Lib.byteCells l)) (hB : B ≤ w.heap.size) (s : ByteArray) (hb : l.length + s.size ≤ 140737488355328) (ty : TypeId) :
    ∃ v' w', (Builtin.append_ #[44, 9] ty #[v, .string s]).run Tryz.prog w = .ok v' w' ∧ w'.ownsRow B 5 1 v' (l.length + s.size) (Lib.byteCells (l ++ s.data.toList)) ∧ w.grownBy w' v.ownBlock ∧ ∀ g, v'.ownBlock = some g → v.ownBlock = some g ∨ w.heap.size ≤ g := by
  obtain ⟨i0, hi, hz0, hz1, hz2⟩ := info_parts info5
  have hm : l.length + s.size ≤ maxLen := by unfold maxLen; omega
  rw [cells_app]
  rcases hown.2 with ⟨rfl, h0⟩ | ⟨g, cap, cur, rfl, hbg, hg, hnc, hcm, hcs, htake⟩
  · have hl0 : l = [] := List.eq_nil_of_length_eq_zero h0
    subst hl0
    obtain ⟨v', w', h1, h2, h3, -⟩ := Lib.run_append_own_string (P := Tryz.prog) w w.heap.size 44 9 ty 5 i0 Tryz.underlying44 Tryz.underlying9 hi hz0 hz1 hz2 (.slice none 0 0) 0 [] (World.ownsRow_nil w _ _ _) s (by simpa using hm) (by simpa using hb) (Nat.le_refl _)
    exact ⟨v', w', h1, owns_mono h2 hB, h3, fun g hg => .inr (h2.lt g hg).1⟩
  · obtain ⟨v', w', h1, h2, h3, -⟩ := Lib.run_append_own_string (P := Tryz.prog) w B 44 9 ty 5 i0 Tryz.underlying44 Tryz.underlying9 hi hz0 hz1 hz2 _ _ _ hown s hm hb hB
    refine ⟨v', w', h1, h2, h3, fun g' hg' => ?_⟩
    by_cases hroom : l.length + s.size ≤ cap
    · have hr := Lib.run_append_room_stringF (P := Tryz.prog) w 44 9 ty 5 i0 Tryz.underlying44 Tryz.underlying9 hi hz1 g l.length cap cur (0, 0) hg (Nat.zero_le _) s hroom (by omega)
      rw [hr] at h1
      cases h1
      exact .inl hg'
    · have hr := Lib.run_append_grow_string (P := Tryz.prog) w 44 9 ty 5 i0 (.int .u8 0) Tryz.underlying44 Tryz.underlying9 hi hz0 ⟨g, 0, none⟩ l.length cap (Lib.byteCells l) (by rw [hz1, Lib.byteCells_length, Nat.mul_one]) (hown.cells (g := g) rfl) s (by omega) (by omega) (by rw [hz2]; exact growslice_fits (by omega) (by omega))
      rw [hr] at h1
      cases h1
      cases hg'
      exact .inr (Nat.le_refl _)
theorem wrS {W : World} {B b : Nat} {l : List UInt8} {st : Bool} (h : Wr W B b l st) (hB : B ≤ W.heap.size) (s : ByteArray) (hlen : l.length + s.size ≤ 140737488355328) :
    Calls Tryz.prog 25 #[.pointer (some ⟨b, 0, none⟩), .string s] W fun e w' => e = .returned (.tuple #[.int .i64 s.size, .nilIface]) ∧ WP W B b (l ++ s.data.toList) st w' := by
  obtain ⟨p, v, h⟩ := h
  go_enter Tryz.func25, Tryz.ntmps25
  go_wp2_with (go_at_call 42; refine (check_any h hB).mono ?_)
  rintro e w1 ⟨rfl, h1, hb1, hk1, hs1⟩
  have c0 : w1.cell? ⟨b, 0, none⟩ = some (.pointer (some ⟨b, 0, none⟩)) := by rw [Lib.cell_of_heap h1.blk]; rfl
  have c1 : w1.cell? ⟨b, 1, none⟩ = some v := by rw [Lib.cell_of_heap h1.blk]; rfl
  have H1 := hideT (And.intro h1 (And.intro hb1 (And.intro hk1 hs1)))
  clear h hb1 hk1
  obtain ⟨v', w2, hrun, hown', hgrow, hv'⟩ := app_str h1.own (by omega) s hlen 44
  obtain ⟨ao, n', cap, rfl⟩ : ∃ ao n' cap, v' = .slice ao n' cap := by
    rcases hown'.2 with ⟨hv, _⟩ | ⟨g, cap, cur, hv, _⟩
    · exact ⟨_, _, _, hv⟩
    · exact ⟨_, _, _, hv⟩
  have HR := hideT hrun
  clear hrun
  have hb2 : w2.heap[b]? = some (.cells #[.pointer (some ⟨b, 0, none⟩), v, .bool st] 70 (0, 0)) := (hgrow.block b h1.lt (fun e => h1.ne e.symm)).trans h1.blk
  have d0 : w2.cell? ⟨b, 0, none⟩ = some (.pointer (some ⟨b, 0, none⟩)) := by rw [Lib.cell_of_heap hb2]; rfl
  have d1 : w2.cell? ⟨b, 1, none⟩ = some v := by rw [Lib.cell_of_heap hb2]; rfl
  have f1 : w2.frozen? ⟨b, 1, none⟩ = false := Lib.frozen_of_heap hb2 1
  have HF := hideT (H1.out.1.put (k := 1) (u := .slice ao n' cap) (m := l ++ s.data.toList) hgrow hown' (by rw [List.length_append]; rfl) hv' rfl (.inr rfl) (by omega))
  clear hown' hgrow hv' hb2 h1
  go_wp2_with (at_builtin; refine wpList_run rfl _ _ _ _ rfl HR.out ?_)
  go_wp2
  go_ret2
  exact ⟨rfl, ⟨_, _, HF.out.1⟩, H1.out.2.1.trans HF.out.2.1, H1.out.2.2.1.trans HF.out.2.2.1, Nat.le_trans H1.out.2.2.2 HF.out.2.2.2⟩
theorem wrB {W : World} {B b : Nat} {l : List UInt8} {st : Bool} (h : Wr W B b l st) (hB : B ≤ W.heap.size) (c : UInt8) (hlen : l.length + 1 ≤ 140737488355328) :
    Calls Tryz.prog 44 #[.pointer (some ⟨b, 0, none⟩), .int .u8 (c.toNat : Int)] W fun e w' => e = .returned .nilIface ∧ WP W B b (l ++ [c]) st w' := by
  obtain ⟨i0, hi, hz0, hz1, hz2⟩ := info_parts info5
  obtain ⟨p, v, h⟩ := h
  generalize hx : (c.toNat : Int) = x
  have HX := hideT hx
  clear hx
  go_enter Tryz.func44, Tryz.ntmps44
  go_wp2_with (go_at_call 42; refine (check_any h hB).mono ?_)
  rintro e w1 ⟨rfl, h1, hb1, hk1, hs1⟩
  have c0 : w1.cell? ⟨b, 0, none⟩ = some (.pointer (some ⟨b, 0, none⟩)) := by rw [Lib.cell_of_heap h1.blk]; rfl
  have c1 : w1.cell? ⟨b, 1, none⟩ = some v := by rw [Lib.cell_of_heap h1.blk]; rfl
  have hA := (Below.refl w1.heap.size w1).alloc (Nat.le_refl _) (.cells #[.int .u8 x] 5)
  have HN := hideT (new_cells w1 [.int .u8 x] 5)
  have hlt := h1.lt
  have H1 := hideT (And.intro h1 (And.intro hb1 (And.intro hk1 hs1)))
  have HS := hideT (And.intro hlt hA)
  clear h hb1 hk1 hlt hA
  go_wp2_with (at_builtin; refine wpList_append_lies _ rfl _ _ 44 rfl B 5 i0 _ 1 1 undB hi hz0 hz1 hz2 rfl (by omega) v l.length (Lib.byteCells l) rfl (owns_below H1.out.1.own HS.out.2) ⟨w1.heap.size, 0, none⟩ 1 1 [.int .u8 x] rfl rfl (fun j u hj => HN.out j u hj) (by simp [Value.oneCell']) (by omega) (by unfold maxLen; omega) (by omega) (by simp; omega) _ rfl ?_)
  intro g gc w2 hown' hgrow hat hglt
  have h2 := H1.out.1.stay HS.out.2
  have hb2 : w2.heap[b]? = some (.cells #[.pointer (some ⟨b, 0, none⟩), v, .bool st] 70 (0, 0)) := (hgrow.block b h2.lt (fun e => h2.ne e.symm)).trans h2.blk
  have d0 : w2.cell? ⟨b, 0, none⟩ = some (.pointer (some ⟨b, 0, none⟩)) := by rw [Lib.cell_of_heap hb2]; rfl
  have d1 : w2.cell? ⟨b, 1, none⟩ = some v := by rw [Lib.cell_of_heap hb2]; rfl
  have f1 : w2.frozen? ⟨b, 1, none⟩ = false := Lib.frozen_of_heap hb2 1
  have HF := hideT (h2.put (k := 1) (u := .slice (some ⟨g, 0, none⟩) (l.length + 1) gc) (m := l ++ [c]) hgrow (by rw [cells_app]; show w2.ownsRow B 5 1 _ _ (Lib.byteCells l ++ [.int .u8 (c.toNat : Int)]); rw [HX.out]; exact hown') (by simp) (fun g' hg' => by cases hg'; exact hat.imp id (fun e => by rw [e]; simp)) rfl (.inr rfl) (by have := HS.out.2.size; omega))
  have HB := hideT (HS.out.2.mono (show B ≤ w1.heap.size by omega))
  have HK := hideT (keep_stay H1.out.1 HS.out.2)
  have HZ := hideT HS.out.2.size
  clear hown' hgrow hat hb2 h1 h2 hglt c0 c1
  go_wp2
  go_ret
  exact ⟨rfl, ⟨_, _, HF.out.1⟩, (H1.out.2.1.trans HB.out).trans HF.out.2.1, (H1.out.2.2.1.trans HK.out).trans HF.out.2.2.1, Nat.le_trans (Nat.le_trans H1.out.2.2.2 HZ.out) HF.out.2.2.2⟩

end sho
end Go.Proofs.YtidgnebbibkmhaaGreatDoor
