/- KSt -/
import Derived.Test.YtcpokkpjeeblnaaGreatDoorProg
import Derived.WalkKit
import Derived.WalkSpells
import Derived.WalkLawsBesides
import Derived.BigQuiet
import Derived.Deep.Cut
import Derived.Laws.StructEq
import Derived.Lib.Strings
import Derived.OwnWalk
import Derived.Deep.RegionWith
import Derived.Deep.QuietTactic
import Derived.Deep.AppendLies
import Derived.Lib.FrozenHead
import Derived.Lib.UnsafeStr
import Derived.Lib.Builder
import Derived.Laws.Externs
import Derived.Lib.IndexAny
import Derived.Lib.Bytealg
import Derived.Maps.OwnSet
import Derived.Shelf.Strconv.Clone
import Derived.OrdersHeld
set_option maxRecDepth 100000
set_option maxHeartbeats 4000000
set_option linter.unusedSimpArgs false
set_option linter.unusedVariables false
namespace Go.Proofs.YtcpokkpjeeblnaaGreatDoor
open Go.RowKit
namespace sto
theorem hideT {p : Prop} (h : p) : Hid p := h
theorem below_drewN (B : Nat) (W : World) (n : Nat) : Below B W (W.drewN n) := { os := rfl, tape := rfl, output := rfl, size := Nat.le_refl _, block := fun _ _ => rfl }
theorem keep_cell {W w1 : World} {a : Addr} {v : Value} (hb : Below W.heap.size W w1) (h : W.cell? a = some v) : w1.cell? a = some v := (World.cell?_of_block (hb.block _ (World.block_lt_of_cell? W a h))).trans h
theorem put_far (W : World) (b k : Nat) (u : Value) {j : Nat} (h : j ≠ b) : (W.setCell ⟨b, k, none⟩ u).heap[j]? = W.heap[j]? := Below.heap_setCell W ⟨b, k, none⟩ u j h
theorem put_size (W : World) (b k : Nat) (u : Value) : (W.setCell ⟨b, k, none⟩ u).heap.size = W.heap.size := by simp [World.setCell]
theorem put_same (W : World) (b k : Nat) (u : Value) {cs : Array Value} {e : TypeId} {fr : Nat × Nat} (h : W.heap[b]? = some (.cells cs e fr)) : (W.setCell ⟨b, k, none⟩ u).heap[b]? = some (.cells (cs.setIfInBounds k u) e fr) := by
  obtain ⟨hlt, hk2⟩ := Array.getElem?_eq_some_iff.1 h
  show (W.heap.modify b _)[b]? = _
  rw [Array.getElem?_eq_getElem (by rw [Array.size_modify]; exact hlt), Array.getElem_modify_self, hk2]
  simp only [Option.isSome_none, Bool.false_eq_true, if_false]
theorem below_put {B : Nat} {W W' : World} (h : Below B W W') {b : Nat} (hb : B ≤ b) (k : Nat) (u : Value) : Below B W (W'.setCell ⟨b, k, none⟩ u) :=
  ⟨h.os, h.tape, h.output, by rw [put_size]; exact h.size, fun j hj => by rw [put_far _ _ _ _ (by omega)]; exact h.block j hj⟩
theorem below_grown {B : Nat} {W W' : World} {r : Option Nat} (h : W.grownBy W' r) (hr : ∀ g, r = some g → B ≤ g) (hB : B ≤ W.heap.size) : Below B W W' :=
  ⟨h.os, h.tape, h.output, h.size, fun j hj => h.block j (by omega) (fun e => by have := hr j e.symm; omega)⟩
theorem owns_keep {W W' : World} {B e size n : Nat} {v : Value} {xs : List Value} (h : W.ownsRow B e size v n xs) (hk : ∀ g, v.ownBlock = some g → W'.heap[g]? = W.heap[g]?) : W'.ownsRow B e size v n xs := by
  obtain ⟨hl, h2⟩ := h
  refine ⟨hl, ?_⟩
  rcases h2 with h2 | ⟨g, cap, cur, rfl, hb, hh, r⟩
  · exact .inl h2
  · exact .inr ⟨g, cap, cur, rfl, hb, (hk g rfl).trans hh, r⟩
/-- Only blocks of F, and new ones, were written. -/
structure Tch (F : Nat → Prop) (W W' : World) : Prop where
  os : W'.os = W.os
  tape : W'.tape = W.tape
  output : W'.output = W.output
  size : W.heap.size ≤ W'.heap.size
  block : ∀ k, k < W.heap.size → ¬ F k → W'.heap[k]? = W.heap[k]?
theorem Tch.refl (F : Nat → Prop) (W : World) : Tch F W W := ⟨rfl, rfl, rfl, Nat.le_refl _, fun _ _ _ => rfl⟩
theorem Tch.of {F : Nat → Prop} {W W' : World} (h : Below W.heap.size W W') : Tch F W W' := ⟨h.os, h.tape, h.output, h.size, fun k hk _ => h.block k hk⟩
theorem Tch.trans {F G : Nat → Prop} {W W1 W2 : World} (h : Tch F W W1) (k : Tch G W1 W2) (hs : ∀ j, G j → F j ∨ W.heap.size ≤ j) : Tch F W W2 :=
  ⟨k.os.trans h.os, k.tape.trans h.tape, k.output.trans h.output, Nat.le_trans h.size k.size, fun j hj hn => (k.block j (Nat.lt_of_lt_of_le hj h.size) (fun hg => (hs j hg).elim hn (fun e => absurd hj (Nat.not_lt.2 e)))).trans (h.block j hj hn)⟩
theorem Tch.mono {F G : Nat → Prop} {W W' : World} (h : Tch F W W') (hs : ∀ j, F j → G j) : Tch G W W' := ⟨h.os, h.tape, h.output, h.size, fun k hk hn => h.block k hk (fun hf => hn (hs k hf))⟩
theorem Tch.put {F : Nat → Prop} {W W' : World} (h : Tch F W W') {b : Nat} (hb : F b) (k : Nat) (u : Value) : Tch F W (W'.setCell ⟨b, k, none⟩ u) :=
  ⟨h.os, h.tape, h.output, by rw [put_size]; exact h.size, fun j hj hn => (put_far W' b k u (j := j) (fun e => hn (by rw [e]; exact hb))).trans (h.block j hj hn)⟩
theorem Tch.grown {F : Nat → Prop} {W W' : World} {r : Option Nat} (h : W.grownBy W' r) (hr : ∀ g, r = some g → F g) : Tch F W W' := ⟨h.os, h.tape, h.output, h.size, fun k hk hn => h.block k hk (fun e => hn (hr k e.symm))⟩
theorem Tch.below {F : Nat → Prop} {B : Nat} {W W' : World} (h : Tch F W W') (hF : ∀ k, F k → B ≤ k) (hB : B ≤ W.heap.size) : Below B W W' := ⟨h.os, h.tape, h.output, h.size, fun k hk => h.block k (Nat.lt_of_lt_of_le hk hB) (fun hf => absurd hk (Nat.not_lt.2 (hF k hf)))⟩
theorem below_of_tch {F : Nat → Prop} {W0 W W' : World} (hb : Below W0.heap.size W0 W) (h : Tch F W W') (hF : ∀ k, F k → W0.heap.size ≤ k) : Below W0.heap.size W0 W' := hb.trans (h.below hF hb.size)
theorem ownF_keep {W W' : World} {B e size n : Nat} {v : Value} {xs : List Value} (h : W.ownsRowF B e size v n xs) (hk : ∀ g, v.ownBlock = some g → W'.heap[g]? = W.heap[g]?) : W'.ownsRowF B e size v n xs := by
  obtain ⟨hl, h2⟩ := h
  refine ⟨hl, ?_⟩
  rcases h2 with h2 | ⟨g, cap, cur, fz, rfl, hb, hh, r⟩
  · exact .inl h2
  · exact .inr ⟨g, cap, cur, fz, rfl, hb, (hk g rfl).trans hh, r⟩
theorem ownF_ne {W : World} {B e size n b : Nat} {v : Value} {xs : List Value} {cs : Array Value} {T : TypeId} {fr : Nat × Nat} (h : W.ownsRowF B e size v n xs) (hb : W.heap[b]? = some (.cells cs T fr)) (hT : T ≠ e) {g : Nat} (hg : v.ownBlock = some g) : g ≠ b := by
  rcases h.2 with ⟨rfl, _⟩ | ⟨g', cap, cur, fz, rfl, _, hh, _⟩
  · cases hg
  · cases hg
    intro (e : g' = b)
    rw [← e, hh] at hb
    injection hb with hb
    injection hb with _ hb _
    exact hT hb.symm
theorem infoByte : (Tryz.prog.info? 5).map (fun i => (i.zero, i.size, i.bytes)) = some (some (.int .u8 0), 1, 1) := by kernel_rfl
theorem strCells_bytes (s : ByteArray) : Lib.strCells s = Lib.byteCells s.data.toList := rfl
theorem byteCells_app (a b : List UInt8) : Lib.byteCells (a ++ b) = Lib.byteCells a ++ Lib.byteCells b := by simp [Lib.byteCells]
/-- append of a string onto a row of one's own, whose head may be frozen: where the new one lies. -/
theorem append_str {w : World} (v : Value) (l : List UInt8) (hown : w.ownsRowF 0 5 1 v l.length (Lib.byteCells l)) (hnil : l = [] → v = .slice none 0 0) (s : ByteArray) (hb : l.length + s.size ≤ 140737488355328) (ty : TypeId) :
    ∃ ao n cap w', (Builtin.append_ #[77, 9] ty #[v, .string s]).run Tryz.prog w = .ok (.slice ao n cap) w' ∧ w'.ownsRowF 0 5 1 (.slice ao n cap) (l ++ s.data.toList).length (Lib.byteCells (l ++ s.data.toList)) ∧ (l ++ s.data.toList = [] → Value.slice ao n cap = .slice none 0 0) ∧ w.grownBy w' v.ownBlock ∧ ∀ g, (Value.slice ao n cap).ownBlock = some g → v.ownBlock = some g ∨ w.heap.size ≤ g := by
  obtain ⟨i0, hi, hz0, hz1, hz2⟩ := info_parts infoByte
  have hls : (l ++ s.data.toList).length = l.length + s.size := by rw [List.length_append]; rfl
  have hm : l.length + s.size ≤ maxLen := by unfold maxLen; omega
  rw [byteCells_app, hls]
  have fin : ∀ v' w', (Builtin.append_ #[77, 9] ty #[v, .string s]).run Tryz.prog w = .ok v' w' → w'.ownsRowF 0 5 1 v' (l.length + s.size) (Lib.byteCells l ++ Lib.byteCells s.data.toList) → w.grownBy w' v.ownBlock → (l ++ s.data.toList = [] → v' = .slice none 0 0) → (∀ g, v'.ownBlock = some g → v.ownBlock = some g ∨ w.heap.size ≤ g) → ∃ ao n cap w', (Builtin.append_ #[77, 9] ty #[v, .string s]).run Tryz.prog w = .ok (.slice ao n cap) w' ∧ w'.ownsRowF 0 5 1 (.slice ao n cap) (l.length + s.size) (Lib.byteCells l ++ Lib.byteCells s.data.toList) ∧ (l ++ s.data.toList = [] → Value.slice ao n cap = .slice none 0 0) ∧ w.grownBy w' v.ownBlock ∧ ∀ g, (Value.slice ao n cap).ownBlock = some g → v.ownBlock = some g ∨ w.heap.size ≤ g := by
    intro v' w' h1 h2 h3 h4 h5
    rcases h2.2 with ⟨rfl, _⟩ | ⟨g, cap, cur, fz, rfl, _⟩
    · exact ⟨_, _, _, w', h1, h2, h4, h3, h5⟩
    · exact ⟨_, _, _, w', h1, h2, h4, h3, h5⟩
  rcases hown.2 with ⟨rfl, h0⟩ | ⟨g, cap, cur, fz, rfl, hbg, hg, hfz, hnc, hcm, hcs, htake⟩
  · have hl0 : l = [] := List.eq_nil_of_length_eq_zero h0
    subst hl0
    obtain ⟨v', w', h1, h2, h3, h4⟩ := Lib.run_append_own_string (P := Tryz.prog) w w.heap.size 77 9 ty 5 i0 Tryz.underlying77 Tryz.underlying9 hi hz0 hz1 hz2 (.slice none 0 0) 0 [] (World.ownsRow_nil w _ _ _) s (by simpa using hm) (by simpa using hb) (Nat.le_refl _)
    have h2' := World.ownsRowF_of h2
    refine fin v' w' h1 ⟨h2'.1, ?_⟩ h3 (fun e => h4.2 ⟨rfl, by have := congrArg List.length e; simpa using this⟩) (fun g hg => .inr (h2.lt g hg).1)
    rcases h2'.2 with h | ⟨g, cap, cur, fz, hv, _, r⟩
    · exact .inl (by simpa using h)
    · exact .inr ⟨g, cap, cur, fz, by simpa using hv, Nat.zero_le _, by simpa [strCells_bytes, show Lib.byteCells [] = [] from rfl] using r⟩
  · have hcs' : cur.size = cap := by simpa using hcs
    have hfz' : fz.2 ≤ l.length := by simpa using hfz
    have htk : cur.toList.take l.length = Lib.byteCells l := by simpa using htake
    have hll : (Lib.byteCells l).length = l.length := Lib.byteCells_length l
    have hne : l ++ s.data.toList = [] → False := fun e => by
      have e1 : l = [] := (List.append_eq_nil_iff.1 e).1
      cases hnil e1
    have hlen : (Lib.byteCells l ++ Lib.byteCells s.data.toList).length = (l.length + s.size) * 1 := by rw [List.length_append, hll, Lib.byteCells_length, Nat.mul_one]; rfl
    by_cases hroom : l.length + s.size ≤ cap
    · have hr := Lib.run_append_room_stringF (P := Tryz.prog) w 77 9 ty 5 i0 Tryz.underlying77 Tryz.underlying9 hi hz1 g l.length cap cur fz hg hfz' s hroom (by omega)
      refine fin _ _ hr ⟨hlen, .inr ⟨g, cap, _, fz, rfl, hbg, setRow_heap w g cur _ 5 _ hg, by omega, hroom, hcm, ?_, ?_⟩⟩ ⟨rfl, rfl, rfl, by simp, fun k _ hk => setRow_other w g k _ (fun e => hk (by simp [Value.ownBlock, e]))⟩ (fun e => (hne e).elim) (fun g' hg' => .inl hg')
      · simp only [List.size_toArray, List.length_append, List.length_take, List.length_drop, Array.length_toList, Lib.strCells_length]
        omega
      · rw [htk, ← hlen, strCells_bytes]
        exact List.take_left
    · have holds : ∀ j u, (Lib.byteCells l)[j]? = some u → w.cell? ((⟨g, 0, none⟩ : Addr).add j) = some u := hown.cells (g := g) rfl
      have hr := Lib.run_append_grow_string (P := Tryz.prog) w 77 9 ty 5 i0 (.int .u8 0) Tryz.underlying77 Tryz.underlying9 hi hz0 ⟨g, 0, none⟩ l.length cap (Lib.byteCells l) (by rw [hz1, hll, Nat.mul_one]) holds s (by omega) (by omega) (by rw [hz2]; exact growslice_fits (by omega) (by omega))
      have hge := grownCap_ge w (l.length + s.size) cap 5
      have hcm2 : grownCap w (l.length + s.size) cap 5 ≤ maxLen := grownCap_le_maxLen w (l.length + s.size) cap 5 hm
      refine fin _ _ hr ⟨hlen, .inr ⟨w.heap.size, _, _, (0, 0), rfl, Nat.zero_le _, heap_alloc_new w.drew _, Nat.zero_le _, hge, hcm2, ?_, ?_⟩⟩ ⟨rfl, rfl, rfl, by simp, fun k hk _ => Below.heap_alloc w.drew _ k hk⟩ (fun e => (hne e).elim) (fun g' hg' => by cases hg'; exact .inr (Nat.le_refl _))
      · have hz1 : (Value.int IntKind.u8 0).cells.size = 1 := rfl
        simp only [Array.size_append, List.size_toArray, size_zeroCells, hz1, hll, Lib.strCells_length]
        omega
      · simp only [Array.toList_append, List.append_assoc]
        rw [← List.append_assoc, ← hlen, strCells_bytes]
        exact List.take_left
/-- A builder within a block: its cells are k and k + 1. -/
structure BuA (W : World) (b k : Nat) (T : TypeId) (cs : Array Value) (p v : Value) (l : List UInt8) : Prop where
  blk : W.heap[b]? = some (.cells cs T (0, 0))
  i0 : cs[k]? = some p
  i1 : cs[k + 1]? = some v
  hp : p = .pointer none ∨ p = .pointer (some ⟨b, k, none⟩)
  own : W.ownsRowF 0 5 1 v l.length (Lib.byteCells l)
  nil : l = [] → v = .slice none 0 0
abbrev Ly (T : TypeId) (n k : Nat) : Prop := liesAt Tryz.prog Tryz.prog.depth T (n / Tryz.prog.cellsOf T) k 79 1 = true
theorem BuA.blt {W : World} {b k : Nat} {T : TypeId} {cs : Array Value} {p v : Value} {l : List UInt8} (h : BuA W b k T cs p v l) : b < W.heap.size := (Array.getElem?_eq_some_iff.1 h.blk).1
theorem BuA.c0 {W : World} {b k : Nat} {T : TypeId} {cs : Array Value} {p v : Value} {l : List UInt8} (h : BuA W b k T cs p v l) : W.cell? ⟨b, k, none⟩ = some p ∧ W.frozen? ⟨b, k, none⟩ = false := by simp [World.cell?, World.frozen?, h.blk, h.i0]
theorem BuA.c1 {W : World} {b k : Nat} {T : TypeId} {cs : Array Value} {p v : Value} {l : List UInt8} (h : BuA W b k T cs p v l) : W.cell? ⟨b, k + 1, none⟩ = some v ∧ W.frozen? ⟨b, k + 1, none⟩ = false := by simp [World.cell?, World.frozen?, h.blk, h.i1]
theorem builder_size : (Tryz.prog.info? 79).map (·.size) = some 2 := by kernel_rfl
set_option maxHeartbeats 1000000 in
set_option maxRecDepth 100000 in
theorem check_used (b k : Nat) (w : World) (h0 : w.cell? ⟨b, k, none⟩ = some (.pointer (some ⟨b, k, none⟩))) :
    Calls Tryz.prog 102 #[.pointer (some ⟨b, k, none⟩)] w fun e w' => e = .returned (.tuple #[]) ∧ w' = w := by
  obtain ⟨j, hj, _⟩ := Option.map_eq_some_iff.1 builder_size
  go_enter Tryz.func102, Tryz.ntmps102
  go_wp2
  rw [Lib.run_neq_ptr_same w _ Tryz.underlying76 hj]
  go_wp2
  go_end0
  exact ⟨rfl, rfl⟩
set_option maxHeartbeats 1000000 in
set_option maxRecDepth 100000 in
theorem check_fresh (b k : Nat) (T : TypeId) (n : Nat) (w : World) (h0 : w.cell? ⟨b, k, none⟩ = some (.pointer none)) (hsh : w.shape? b = some (T, n)) (hk : k < n) (hly : Ly T n k) (hfz : w.frozen? ⟨b, k, none⟩ = false) :
    Calls Tryz.prog 102 #[.pointer (some ⟨b, k, none⟩)] w fun e w' => e = .returned (.tuple #[]) ∧ w' = w.setCell ⟨b, k, none⟩ (.pointer (some ⟨b, k, none⟩)) := by
  obtain ⟨j, hj, hjs⟩ := Option.map_eq_some_iff.1 builder_size
  go_enter Tryz.func102, Tryz.ntmps102
  go_wp2
  rw [Lib.run_to_unsafe w ⟨b, k, none⟩ Tryz.underlying76 Tryz.underlying163 hj (by rw [hjs]; decide) hsh hk]
  simp only [Result.andThen]
  rw [Oper.upon_value]
  go_wp2
  rw [run_callFunc_extern Tryz.func141 (by kernel_rfl) (by kernel_rfl) (by kernel_rfl) (e := Extern.AbiNoEscape.same) (by kernel_rfl)]
  rw [Lib.run_noEscape]
  simp only [Result.andThen]
  rw [Oper.upon_value]
  go_wp2
  rw [Lib.run_from_unsafe w ⟨b, k, none⟩ Tryz.underlying163 Tryz.underlying76 hj hsh hly]
  simp only [Result.andThen]
  rw [Oper.upon_value]
  go_wp2
  go_end0
  exact ⟨rfl, rfl⟩
theorem BuA.keep {W W' : World} {b k : Nat} {T : TypeId} {cs : Array Value} {p v : Value} {l : List UInt8} (h : BuA W b k T cs p v l) (h1 : W'.heap[b]? = W.heap[b]?) (h2 : ∀ g, v.ownBlock = some g → W'.heap[g]? = W.heap[g]?) : BuA W' b k T cs p v l :=
  ⟨h1.trans h.blk, h.i0, h.i1, h.hp, ownF_keep h.own h2, h.nil⟩
theorem wpList_run {P : Program} {w w' : World} {ops : Array Oper} {rest : List Oper} {op : Oper} {a : Act} {Q : Exit → Act → World → Prop} {v : Value} (hgd : op.guard = none) (sl x : Operand) (t u : TypeId) (ho : op.op = .call { callee := .builtin .append, args := #[sl, x], argTypes := #[t, u] }) (hx : (Builtin.append_ #[t, u] op.type #[a.eval sl, a.eval x]).run P w = .ok v w') (h : wpList P ops Q rest (a.put op.dst v) w') : wpList P ops Q (op :: rest) a w := by
  refine wpList_plain hgd fun K hK => ?_
  unfold Oper.wp
  simp [execOp, ho, resolve, invoke, builtin, hx, Result.andThen]
  exact hK _ _ h
/-- Its block, and its row. -/
def bft (b : Nat) (v : Value) (k : Nat) : Prop := k = b ∨ v.ownBlock = some k
theorem check_any {W : World} {b k : Nat} {T : TypeId} {cs : Array Value} {p v : Value} {l : List UInt8} (h : BuA W b k T cs p v l) (hT : T ≠ 5) (hly : Ly T cs.size k) :
    Calls Tryz.prog 102 #[.pointer (some ⟨b, k, none⟩)] W fun e w' => e = .returned (.tuple #[]) ∧ BuA w' b k T (cs.setIfInBounds k (.pointer (some ⟨b, k, none⟩))) (.pointer (some ⟨b, k, none⟩)) v l ∧ Tch (fun j => j = b) W w' ∧ w'.heap.size = W.heap.size := by
  have hk : k < cs.size := (Array.getElem?_eq_some_iff.1 h.i0).1
  have hne := fun g (hg : v.ownBlock = some g) => ownF_ne h.own h.blk hT hg
  have hi1 : (cs.setIfInBounds k (.pointer (some ⟨b, k, none⟩)))[k + 1]? = some v := by rw [Array.getElem?_setIfInBounds, if_neg (by omega)]; exact h.i1
  have hi0 : (cs.setIfInBounds k (.pointer (some ⟨b, k, none⟩)))[k]? = some (.pointer (some ⟨b, k, none⟩)) := by rw [Array.getElem?_setIfInBounds, if_pos rfl, if_pos hk]
  obtain ⟨c0, f0⟩ := h.c0
  rcases h.hp with rfl | rfl
  · refine (check_fresh b k T cs.size W c0 (by simp [World.shape?, h.blk]) hk hly f0).mono ?_
    rintro e w' ⟨rfl, rfl⟩
    exact ⟨rfl, ⟨put_same _ _ _ _ h.blk, hi0, hi1, .inr rfl, ownF_keep h.own (fun g hg => put_far _ _ _ _ (hne g hg)), h.nil⟩, (Tch.refl (fun j => j = b) W).put (b := b) rfl _ _, put_size _ _ _ _⟩
  · refine (check_used b k W c0).mono ?_
    rintro e w' ⟨rfl, rfl⟩
    have hs : cs.setIfInBounds k (.pointer (some ⟨b, k, none⟩)) = cs := by
      apply Array.ext_getElem?
      intro j
      rw [Array.getElem?_setIfInBounds]
      by_cases e : k = j
      · subst e
        rw [if_pos rfl, if_pos hk, h.i0]
      · rw [if_neg e]
    rw [hs]
    exact ⟨rfl, h, Tch.refl _ _, rfl⟩
set_option maxHeartbeats 2000000 in
set_option maxRecDepth 100000 in
theorem write_any {W : World} {b k : Nat} {T : TypeId} {cs : Array Value} {p v : Value} {l : List UInt8} (h : BuA W b k T cs p v l) (hT : T ≠ 5) (hly : Ly T cs.size k) (s : ByteArray) (hlen : l.length + s.size ≤ 140737488355328) :
    Calls Tryz.prog 70 #[.pointer (some ⟨b, k, none⟩), .string s] W fun e w' => e = .returned (.tuple #[.int .i64 s.size, .nilIface]) ∧ ∃ v', BuA w' b k T ((cs.setIfInBounds k (.pointer (some ⟨b, k, none⟩))).setIfInBounds (k + 1) v') (.pointer (some ⟨b, k, none⟩)) v' (l ++ s.data.toList) ∧ Tch (bft b v) W w' ∧ ∀ g, v'.ownBlock = some g → v.ownBlock = some g ∨ W.heap.size ≤ g := by
  have HC := hideT (check_any h hT hly)
  have HT := hideT hT
  clear h hT hly
  go_enter Tryz.func70, Tryz.ntmps70
  go_wp2_with fail
  refine HC.out.mono ?_
  rintro e w1 ⟨rfl, h1, ht1, hs1⟩
  have H1 := hideT (And.intro h1 (And.intro ht1 hs1))
  obtain ⟨c1, f1⟩ := h1.c1
  obtain ⟨ao, n, cap, w2, hrun, ho2, hn2, hg2, hw2⟩ := append_str v l h1.own h1.nil s hlen 77
  have hne : v.ownBlock ≠ some b := fun e => ownF_ne h1.own h1.blk HT.out e rfl
  have hb2 : w2.heap[b]? = w1.heap[b]? := hg2.block b h1.blt (fun e => hne e.symm)
  have d1 : w2.cell? ⟨b, k + 1, none⟩ = some v := (World.cell?_of_block (a := ⟨b, k + 1, none⟩) hb2).trans c1
  have e1 : w2.frozen? ⟨b, k + 1, none⟩ = false := (World.frozen?_of_block (a := ⟨b, k + 1, none⟩) hb2).trans f1
  have HF := hideT (show BuA (w2.setCell ⟨b, k + 1, none⟩ (.slice ao n cap)) b k T ((cs.setIfInBounds k (.pointer (some ⟨b, k, none⟩))).setIfInBounds (k + 1) (.slice ao n cap)) (.pointer (some ⟨b, k, none⟩)) (.slice ao n cap) (l ++ s.data.toList) ∧ Tch (bft b v) W (w2.setCell ⟨b, k + 1, none⟩ (.slice ao n cap)) ∧ ∀ g, (Value.slice ao n cap).ownBlock = some g → v.ownBlock = some g ∨ W.heap.size ≤ g from by
    have hk : k + 1 < (cs.setIfInBounds k (.pointer (some ⟨b, k, none⟩))).size := (Array.getElem?_eq_some_iff.1 h1.i1).1
    refine ⟨⟨put_same _ _ _ _ (hb2.trans h1.blk), ?_, ?_, .inr rfl, ownF_keep ho2 (fun g hg => put_far _ _ _ _ (fun e => ?_)), hn2⟩, ((ht1.mono (fun j hj => .inl hj)).trans (Tch.grown (F := bft b v) hg2 (fun g hg => .inr hg)) (fun _ hj => .inl hj)).put (.inl rfl) _ _, fun g hg => ?_⟩
    · rw [Array.getElem?_setIfInBounds, if_neg (by omega)]
      exact h1.i0
    · rw [Array.getElem?_setIfInBounds, if_pos rfl, if_pos hk]
    · rcases hw2 g hg with h | h
      · exact hne (by rw [h, e])
      · have := h1.blt
        omega
    · rcases hw2 g hg with h | h
      · exact .inl h
      · exact .inr (by omega))
  have HR := hideT hrun
  clear h1 ht1 hs1 ho2 hn2 hg2 hw2 hne hb2 H1 HC f1 hrun
  go_wp2_with (at_builtin; refine wpList_run rfl _ _ _ _ rfl HR.out ?_)
  go_wp2
  go_ret2
  exact ⟨rfl, _, HF.out⟩
set_option maxHeartbeats 1000000 in
set_option maxRecDepth 100000 in
theorem reset_any {W : World} {b k : Nat} {T : TypeId} {cs : Array Value} {p v : Value} {l : List UInt8} (h : BuA W b k T cs p v l) :
    Calls Tryz.prog 71 #[.pointer (some ⟨b, k, none⟩)] W fun e w' => e = .returned (.tuple #[]) ∧ BuA w' b k T ((cs.setIfInBounds k (.pointer none)).setIfInBounds (k + 1) (.slice none 0 0)) (.pointer none) (.slice none 0 0) [] ∧ Tch (fun j => j = b) W w' ∧ w'.heap.size = W.heap.size := by
  obtain ⟨c0, f0⟩ := h.c0
  obtain ⟨c1, f1⟩ := h.c1
  have hk0 : k < cs.size := (Array.getElem?_eq_some_iff.1 h.i0).1
  have hk1 : k + 1 < cs.size := (Array.getElem?_eq_some_iff.1 h.i1).1
  have HF := hideT (show BuA ((W.setCell ⟨b, k, none⟩ (.pointer none)).setCell ⟨b, k + 1, none⟩ (.slice none 0 0)) b k T ((cs.setIfInBounds k (.pointer none)).setIfInBounds (k + 1) (.slice none 0 0)) (.pointer none) (.slice none 0 0) [] from
    ⟨put_same _ _ _ _ (put_same _ _ _ _ h.blk), by rw [Array.getElem?_setIfInBounds, if_neg (by omega), Array.getElem?_setIfInBounds, if_pos rfl, if_pos hk0], by rw [Array.getElem?_setIfInBounds, if_pos rfl, if_pos (by rw [Array.size_setIfInBounds]; exact hk1)], .inl rfl, World.ownsRowF_nil _ _ _ _, fun _ => rfl⟩)
  have HT := hideT (show Tch (fun j => j = b) W ((W.setCell ⟨b, k, none⟩ (.pointer none)).setCell ⟨b, k + 1, none⟩ (.slice none 0 0)) from ((Tch.refl (fun j => j = b) W).put (b := b) rfl _ _).put (b := b) rfl _ _)
  have HZ := hideT (show ((W.setCell ⟨b, k, none⟩ (.pointer none)).setCell ⟨b, k + 1, none⟩ (.slice none 0 0)).heap.size = W.heap.size from (put_size _ _ _ _).trans (put_size _ _ _ _))
  clear h hk0 hk1
  go_enter Tryz.func71, Tryz.ntmps71
  go_wp2
  go_end0
  exact ⟨rfl, HF.out, HT.out, HZ.out⟩
theorem froze_block {W : World} {g n cap : Nat} {l : List UInt8} (hn : n = l.length) (h : W.ownsRowF 0 5 1 (.slice (some ⟨g, 0, none⟩) n cap) l.length (Lib.byteCells l)) : (W.freeze ⟨g, 0, none⟩ n).ownsRowF 0 5 1 (.slice (some ⟨g, 0, none⟩) n cap) l.length (Lib.byteCells l) := by
  refine ⟨h.1, ?_⟩
  rcases h.2 with ⟨h1, _⟩ | ⟨g', cap', cur, fz, hv, hb, hh, hf, r⟩
  · cases h1
  · cases hv
    obtain ⟨lo, hi⟩ := fz
    unfold World.freeze
    split
    · exact .inr ⟨g, cap, cur, (lo, hi), rfl, hb, hh, hf, r⟩
    · refine .inr ⟨g, cap, cur, _, rfl, hb, by simp only [Array.getElem?_modify, if_true, hh, Option.map_some]; rfl, ?_, r⟩
      simp only at hf
      split
      · simp only
        omega
      · simp only
        omega
theorem freeze_far (W : World) (g n : Nat) {j : Nat} (h : j ≠ g) : (W.freeze ⟨g, 0, none⟩ n).heap[j]? = W.heap[j]? := by
  unfold World.freeze
  split
  · rfl
  · simp only [Array.getElem?_modify]
    rw [if_neg (fun e => h e.symm)]
theorem freeze_tch (W : World) (g n : Nat) {F : Nat → Prop} (hF : F g) : Tch F W (W.freeze ⟨g, 0, none⟩ n) := by
  refine ⟨?_, ?_, ?_, ?_, fun j _ hj => freeze_far W g n (fun e => hj (by rw [e]; exact hF))⟩
  all_goals (unfold World.freeze; split <;> simp)
theorem infoB1 : Tryz.prog.cellsOf 5 = 1 := by kernel_rfl
set_option maxHeartbeats 2000000 in
set_option maxRecDepth 100000 in
theorem str_any {W : World} {b k : Nat} {T : TypeId} {cs : Array Value} {p v : Value} {l : List UInt8} (h : BuA W b k T cs p v l) (hT : T ≠ 5) :
    Calls Tryz.prog 38 #[.pointer (some ⟨b, k, none⟩)] W fun e w' => e = .returned (.string ⟨l.toArray⟩) ∧ BuA w' b k T cs p v l ∧ Tch (fun j => v.ownBlock = some j) W w' ∧ w'.heap.size = W.heap.size := by
  have c1 : W.drew.cell? ⟨b, k + 1, none⟩ = some v := h.c1.1
  by_cases h0 : l = []
  · subst h0
    have hv := h.nil rfl
    subst hv
    have HF := hideT (show BuA W.drew b k T cs p (.slice none 0 0) [] from h.keep rfl (fun _ _ => rfl))
    have hSD : (Builtin.unsafeSliceData_ #[77] 119 #[.slice none 0 0]).run Tryz.prog W.drew = .ok (.pointer none) W.drew := rfl
    have hUS := Lib.run_unsafeString_none (P := Tryz.prog) W.drew 119 3 9 none
    have HTC := hideT (show Tch (fun j => (Value.slice none 0 0).ownBlock = some j) W W.drew from Tch.of ((Below.refl _ W).drew))
    clear h
    go_enter Tryz.func38, Tryz.ntmps38
    go_wp2
    go_region
    all_goals (go_wp2; go_ret; exact ⟨rfl, HF.out, HTC.out, rfl⟩)
  · have hl0 : l.length ≠ 0 := by simpa using h0
    obtain ⟨g, cap, cur, fz, rfl, hbg, hg, hfz, hnc, hcm, hcs, htake⟩ : ∃ g cap cur fz, v = .slice (some ⟨g, 0, none⟩) l.length cap ∧ 0 ≤ g ∧ W.heap[g]? = some (.cells cur 5 fz) ∧ fz.2 ≤ l.length * 1 ∧ l.length ≤ cap ∧ cap ≤ maxLen ∧ cur.size = cap * 1 ∧ cur.toList.take (l.length * 1) = Lib.byteCells l := by
      rcases h.own.2 with ⟨_, hz⟩ | ⟨g, cap, cur, fz, hv, r⟩
      · exact absurd hz hl0
      · exact ⟨g, cap, cur, fz, hv, r⟩
    have hSD : (Builtin.unsafeSliceData_ #[77] 119 #[.slice (some ⟨g, 0, none⟩) l.length cap]).run Tryz.prog W.drew = .ok (.pointer (some ⟨g, 0, none⟩)) W.drew := Lib.run_unsafeSliceData_row _ _ _ _ _ _ (by omega)
    have hUS : (Builtin.unsafeString_ #[119, 3] 9 #[.pointer (some ⟨g, 0, none⟩), .int .i64 l.length]).run Tryz.prog W.drew = .ok (.string ⟨l.toArray⟩) (W.drew.freeze ⟨g, 0, none⟩ l.length) := by
      refine Lib.run_unsafeString_row W.drew 119 3 9 5 Tryz.underlying119 infoB1 g cur.size (by have hg' : W.drew.heap[g]? = some (.cells cur 5 fz) := hg; simp [World.shape?, hg']) l h0 (by omega) (by unfold maxLen at hcm; omega) ?_
      intro j x hx
      exact h.own.cells (g := g) rfl j (.int .u8 x.toNat) (by simp [Lib.byteCells, hx])
    have hne : b ≠ g := fun e => ownF_ne h.own h.blk hT rfl e.symm
    have HF := hideT (show BuA (W.drew.freeze ⟨g, 0, none⟩ l.length) b k T cs p (.slice (some ⟨g, 0, none⟩) l.length cap) l ∧ Tch (fun j => (Value.slice (some ⟨g, 0, none⟩) l.length cap).ownBlock = some j) W (W.drew.freeze ⟨g, 0, none⟩ l.length) ∧ (W.drew.freeze ⟨g, 0, none⟩ l.length).heap.size = W.heap.size from
      ⟨⟨(freeze_far W.drew g _ hne).trans h.blk, h.i0, h.i1, h.hp, froze_block rfl (show W.drew.ownsRowF 0 5 1 _ _ _ from h.own), h.nil⟩, (Tch.of ((Below.refl _ W).drew)).trans (freeze_tch W.drew g l.length (F := fun j => (Value.slice (some ⟨g, 0, none⟩) l.length cap).ownBlock = some j) rfl) (fun _ hj => .inl hj), by unfold World.freeze; split <;> simp⟩)
    clear h htake hcs hnc hfz hg hcm
    go_enter Tryz.func38, Tryz.ntmps38
    go_wp2
    go_region
    all_goals (go_wp2; go_ret; exact ⟨rfl, HF.out⟩)
def nameB (l : List UInt8) : Bool := decide (1 ≤ l.length) && decide (l.length ≤ 64) && l.all fun b => decide (b ≠ 10) && decide (b ≠ 0)
theorem dat_at (s : ByteArray) (k : Nat) (h : k < s.size) : s.data.toList[k]'h = s[k]'h := rfl
theorem all_from {l : List UInt8} {p : UInt8 → Bool} {k : Nat} (h : k < l.length) : (l.drop k).all p = (p (l[k]'h) && (l.drop (k + 1)).all p) := by
  rw [List.drop_eq_getElem_cons h, List.all_cons]
set_option maxRecDepth 100000 in
set_option maxHeartbeats 1000000 in
theorem index_any (s : ByteArray) (c : Int) (w : World) : Calls Tryz.prog 96 #[.string s, .int .u8 c] w fun e w' => e = .returned (.int .i64 (Lib.indexByte s.data.toList c.toNat.toUInt8)) ∧ w' = w := by
  have h : (callFunc 146 #[.string s, .int .u8 c]).run Tryz.prog w = .ok (.value (.int .i64 (Lib.indexByte s.data.toList c.toNat.toUInt8))) w := by
    rw [run_callFunc_extern Tryz.func146 (by kernel_rfl) (by kernel_rfl) (by kernel_rfl) (e := Extern.BytealgIndexByte.indexByte) (by kernel_rfl), Lib.run_indexByteString]
    rfl
  go_enter Tryz.func96, Tryz.ntmps96
  go_wp2
  go_ret
  exact ⟨rfl, rfl⟩
theorem idx_neg (l : List UInt8) (c : UInt8) (h : l.contains c = false) : Lib.indexByte l c < 0 := by
  rw [Lib.contains_iff_indexByte, decide_eq_false_iff_not] at h
  omega
theorem idx_pos (l : List UInt8) (c : UInt8) (h : l.contains c = true) : 0 ≤ Lib.indexByte l c := by
  rw [Lib.contains_iff_indexByte, decide_eq_true_iff] at h
  exact h
theorem all_two (l : List UInt8) : (l.all fun b => decide (b ≠ 10) && decide (b ≠ 0)) = (!l.contains 10 && !l.contains 0) := by
  induction l with
  | nil => rfl
  | cons b r ih =>
    rw [List.all_cons, ih, List.contains_cons, List.contains_cons]
    by_cases h1 : b = 10
    · simp [h1]
    · by_cases h2 : b = 0
      · simp [h2]
      · have h3 : ((10 : UInt8) == b) = false := by rw [beq_eq_false_iff_ne]; exact fun h => h1 h.symm
        have h4 : ((0 : UInt8) == b) = false := by rw [beq_eq_false_iff_ne]; exact fun h => h2 h.symm
        simp [h1, h2, h3, h4]
set_option maxRecDepth 100000 in
set_option maxHeartbeats 1000000 in
theorem name_any (s : ByteArray) (w : World) : Calls Tryz.prog 68 #[.string s] w fun e w' => e = .returned (.bool (nameB s.data.toList)) ∧ w' = w := by
  have hsz : s.data.toList.length = s.size := rfl
  by_cases h1 : s.size < 1
  · have e : nameB s.data.toList = false := by unfold nameB; rw [hsz, decide_eq_false (by omega)]; rfl
    have x0 : s.toList = [] := by rw [ByteArray.toList_eq]; exact List.eq_nil_of_length_eq_zero (by omega)
    have x1 : s.toList.isEmpty = true := by rw [x0]; rfl
    rw [e]
    clear e
    go_enter Tryz.func68, Tryz.ntmps68
    go_wp2
    go_ret
    exact ⟨rfl, rfl⟩
  · have x0 : (s.toList = []) = False := by
      rw [eq_iff_iff, iff_false, ByteArray.toList_eq]
      intro h
      have e := congrArg List.length h
      rw [hsz] at e
      have : s.size = 0 := e
      omega
    have x1 : s.toList.isEmpty = false := by
      rw [List.isEmpty_eq_false_iff]
      exact fun h => (x0 ▸ h : False)
    by_cases h2 : 64 < s.size
    · have e : nameB s.data.toList = false := by unfold nameB; rw [hsz, decide_eq_false (show ¬ s.size ≤ 64 by omega)]; simp
      have x2 : (64 : Int) < (s.size : Int) := by omega
      rw [e]
      clear e
      go_enter Tryz.func68, Tryz.ntmps68
      go_wp2
      go_ret
      exact ⟨rfl, rfl⟩
    · have x2 : ((64 : Int) < (s.size : Int)) = False := by rw [eq_iff_iff, iff_false]; omega
      have e : nameB s.data.toList = (!s.data.toList.contains 10 && !s.data.toList.contains 0) := by
        unfold nameB
        rw [hsz, decide_eq_true (by omega), decide_eq_true (by omega), all_two]
        rfl
      have E := hideT e
      clear e
      generalize nameB s.data.toList = nb at *
      have H := hideT (fun c => index_any s c)
      have P := hideT (idx_pos s.data.toList)
      have N := hideT (idx_neg s.data.toList)
      go_enter Tryz.func68, Tryz.ntmps68
      go_wp2_with fail
      refine (H.out _ _).mono ?_
      rintro e w1 ⟨rfl, rfl⟩
      cases h10 : s.data.toList.contains 10 with
      | true =>
        have E2 := hideT (show nb = false by rw [E.out, h10]; rfl)
        have q := P.out 10 h10
        clear h10 E
        go_wp2_with fail
        go_ret
        exact ⟨by rw [E2.out]; rfl, rfl⟩
      | false =>
        have E2 := hideT (show nb = !s.data.toList.contains 0 by rw [E.out, h10]; rfl)
        have q := N.out 10 h10
        clear h10 E
        go_wp2_with fail
        refine (H.out _ _).mono ?_
        rintro e w2 ⟨rfl, rfl⟩
        cases h0 : s.data.toList.contains 0 with
        | true =>
          have E3 := hideT (show nb = false by rw [E2.out, h0]; rfl)
          have q2 := P.out 0 h0
          clear h0 E2
          go_wp2_with fail
          go_ret
          exact ⟨by rw [E3.out]; exact congrArg (fun b => Ending.returned (Value.bool b)) (decide_eq_false (by omega)), rfl⟩
        | false =>
          have E3 := hideT (show nb = true by rw [E2.out, h0]; rfl)
          have q2 := N.out 0 h0
          clear h0 E2
          go_wp2_with fail
          go_ret
          exact ⟨by rw [E3.out]; rfl, rfl⟩
structure Fl where
  data : List UInt8
  op : Bool
abbrev Fs := List (List UInt8 × Fl)
structure Sr where
  fs : Fs
  out : List UInt8
  wr : Nat
def look : Fs → List UInt8 → Option Fl
  | [], _ => none
  | x :: r, n => if x.1 = n then some x.2 else look r n
def setF : Fs → List UInt8 → Fl → Fs
  | [], _, _ => []
  | x :: r, n, f => if x.1 = n then (n, f) :: r else x :: setF r n f
def insF : Fs → List UInt8 → Fl → Fs
  | [], n, f => [(n, f)]
  | x :: r, n, f => if n < x.1 then (n, f) :: x :: r else x :: insF r n f
def Ris (l : Fs) : Prop := (l.map (·.1)).Pairwise (· < ·)
theorem look_set (n : List UInt8) (f : Fl) (m : List UInt8) : ∀ l : Fs, look (setF l n f) m = if m = n then (look l n).map (fun _ => f) else look l m
  | [] => by unfold setF look; split <;> rfl
  | x :: r => by
    have ih := look_set n f m r
    unfold setF
    by_cases h : x.1 = n
    · rw [if_pos h]
      by_cases e : m = n
      · subst e
        simp [look, h]
      · have e' : ¬ n = m := fun h => e h.symm
        rw [if_neg e]
        simp [look, h, e']
    · rw [if_neg h]
      by_cases e : m = n
      · subst e
        rw [if_pos rfl] at ih ⊢
        simp [look, h, ih]
      · rw [if_neg e] at ih ⊢
        simp only [look]
        rw [ih]
theorem look_ins (n : List UInt8) (f : Fl) (m : List UInt8) : ∀ l : Fs, look l n = none → look (insF l n f) m = if m = n then some f else look l m
  | [], _ => by
    unfold insF
    by_cases e : m = n
    · simp [look, e]
    · have e' : ¬ n = m := fun h => e h.symm
      simp [look, e, e']
  | x :: r, h => by
    have hx : ¬ x.1 = n := fun e => by simp [look, e] at h
    have hr : look r n = none := by simpa [look, hx] using h
    have ih := look_ins n f m r hr
    unfold insF
    split
    · by_cases e : m = n
      · simp [look, e]
      · have e' : ¬ n = m := fun h => e h.symm
        rw [if_neg e]
        simp [look, e']
    · by_cases e : m = n
      · subst e
        rw [if_pos rfl] at ih ⊢
        simp [look, hx, ih]
      · rw [if_neg e] at ih ⊢
        simp only [look]
        rw [ih]
theorem set_same {n : List UInt8} {f : Fl} : ∀ {l : Fs}, look l n = some f → setF l n f = l
  | [], h => by cases h
  | x :: r, h => by
    unfold setF
    by_cases e : x.1 = n
    · rw [if_pos e]
      have : x.2 = f := by simpa [look, e] using h
      rw [← e, ← this]
    · rw [if_neg e, set_same (l := r) (by simpa [look, e] using h)]
theorem len_set (n : List UInt8) (f : Fl) : ∀ l : Fs, (setF l n f).length = l.length
  | [] => rfl
  | x :: r => by
    unfold setF
    split
    · simp
    · simp [len_set n f r]
theorem len_ins (n : List UInt8) (f : Fl) : ∀ l : Fs, (insF l n f).length = l.length + 1
  | [] => rfl
  | x :: r => by
    unfold insF
    split
    · simp
    · simp [len_ins n f r]
theorem names_set (n : List UInt8) (f : Fl) : ∀ l : Fs, (setF l n f).map (·.1) = l.map (·.1)
  | [] => rfl
  | x :: r => by
    unfold setF
    split
    · rename_i h
      simp [h]
    · simp [names_set n f r]
theorem ris_set {l : Fs} (h : Ris l) (n : List UInt8) (f : Fl) : Ris (setF l n f) := by
  unfold Ris
  rw [names_set]
  exact h
theorem mem_ins (n : List UInt8) (f : Fl) (m : List UInt8) : ∀ l : Fs, m ∈ (insF l n f).map (·.1) → m = n ∨ m ∈ l.map (·.1)
  | [], h => by simpa [insF] using h
  | x :: r, h => by
    unfold insF at h
    split at h
    · simpa using h
    · simp only [List.map_cons, List.mem_cons] at h ⊢
      rcases h with h | h
      · exact .inr (.inl h)
      · rcases mem_ins n f m r h with h | h
        · exact .inl h
        · exact .inr (.inr h)
theorem lt_tri {a b : List UInt8} (h : ¬ a < b) (hne : ¬ b = a) : b < a := by
  rcases List.le_total a b with h1 | h1
  · rcases List.le_iff_lt_or_eq.1 h1 with h2 | h2
    · exact absurd h2 h
    · exact absurd h2.symm hne
  · rcases List.le_iff_lt_or_eq.1 h1 with h2 | h2
    · exact h2
    · exact absurd h2 hne
theorem ris_ins (n : List UInt8) (f : Fl) : ∀ l : Fs, Ris l → look l n = none → Ris (insF l n f)
  | [], _, _ => by simp [insF, Ris]
  | x :: r, h, hl => by
    have hx : ¬ x.1 = n := fun e => by simp [look, e] at hl
    have hr : look r n = none := by simpa [look, hx] using hl
    unfold Ris at h ⊢
    simp only [List.map_cons, List.pairwise_cons] at h
    unfold insF
    split
    · rename_i hlt
      simp only [List.map_cons, List.pairwise_cons]
      refine ⟨fun m hm => ?_, h⟩
      rcases List.mem_cons.1 hm with rfl | hm
      · exact hlt
      · exact List.lt_trans hlt (h.1 m hm)
    · rename_i hlt
      simp only [List.map_cons, List.pairwise_cons]
      refine ⟨fun m hm => ?_, ris_ins n f r h.2 hr⟩
      rcases mem_ins n f m r hm with rfl | hm
      · exact lt_tri hlt hx
      · exact h.1 m hm
theorem look_mem {n : List UInt8} : ∀ {l : Fs}, (look l n).isSome = true ↔ n ∈ l.map (·.1)
  | [] => by simp [look]
  | x :: r => by
    by_cases h : x.1 = n
    · simp [look, h]
    · have h' : ¬ n = x.1 := fun e => h e.symm
      have ih := look_mem (n := n) (l := r)
      simp [look, h, h', ih]
def openE (S : Sr) (n : List UInt8) : Nat := if nameB n = false then 3 else if (look S.fs n).isSome then 0 else if 16 ≤ S.fs.length then 4 else 0
def Sr.openS (S : Sr) (n : List UInt8) : Sr := if openE S n = 0 then ⟨if (look S.fs n).isSome then setF S.fs n ⟨[], true⟩ else insF S.fs n ⟨[], true⟩, S.out, S.wr⟩ else S
def printE (S : Sr) (t : List UInt8) : Nat := if 32768 < S.wr + t.length then 16 else 0
def Sr.print (S : Sr) (t : List UInt8) : Sr := if printE S t = 0 then ⟨S.fs, S.out ++ t, S.wr + t.length⟩ else S
def writeE (S : Sr) (n t : List UInt8) : Nat := match look S.fs n with | none => 5 | some f => if f.op = false then 5 else printE S t
def Sr.write (S : Sr) (n t : List UInt8) : Sr := match look S.fs n with | none => S | some f => if writeE S n t = 0 then ⟨setF S.fs n ⟨f.data ++ t, f.op⟩, S.out, S.wr + t.length⟩ else S
def readD (S : Sr) (n : List UInt8) : List UInt8 := match look S.fs n with | none => [] | some f => f.data
theorem nameB_len {n : List UInt8} (h : nameB n = true) : n.length ≤ 64 := by
  unfold nameB at h
  simp only [Bool.and_eq_true, decide_eq_true_eq] at h
  exact h.1.2
/-- What holds of every store that is reached. -/
structure SOk (S : Sr) : Prop where
  wr : S.wr ≤ 32768
  out : S.out.length ≤ S.wr
  len : S.fs.length ≤ 16
  dat : ∀ n f, look S.fs n = some f → f.data.length ≤ 32768 + S.wr
  nam : ∀ n, n ∈ S.fs.map (·.1) → n.length ≤ 64
theorem SOk.openS {S : Sr} (h : SOk S) (n : List UInt8) : SOk (S.openS n) := by
  unfold Sr.openS
  split
  · rename_i h0
    refine ⟨h.wr, h.out, ?_, ?_, ?_⟩
    · show (if (look S.fs n).isSome then setF S.fs n ⟨[], true⟩ else insF S.fs n ⟨[], true⟩).length ≤ 16
      split
      · rw [len_set]
        exact h.len
      · rename_i h1
        rw [len_ins]
        unfold openE at h0
        rw [if_neg h1] at h0
        split at h0
        · cases h0
        · split at h0
          · cases h0
          · omega
    · intro m f hm
      have hm' : look (if (look S.fs n).isSome then setF S.fs n ⟨[], true⟩ else insF S.fs n ⟨[], true⟩) m = some f := hm
      show f.data.length ≤ 32768 + S.wr
      split at hm'
      · rw [look_set] at hm'
        split at hm'
        · obtain ⟨_, _, rfl⟩ := Option.map_eq_some_iff.1 hm'
          exact Nat.zero_le _
        · exact h.dat m f hm'
      · rename_i h1
        rw [look_ins _ _ _ _ (by simpa using h1)] at hm'
        split at hm'
        · cases hm'
          exact Nat.zero_le _
        · exact h.dat m f hm'
    · intro m hm
      have hm' : m ∈ (if (look S.fs n).isSome then setF S.fs n ⟨[], true⟩ else insF S.fs n ⟨[], true⟩).map (·.1) := hm
      split at hm'
      · rw [names_set] at hm'
        exact h.nam m hm'
      · rcases mem_ins n _ m S.fs hm' with rfl | hm'
        · unfold openE at h0
          split at h0
          · cases h0
          · rename_i h2
            exact nameB_len (by simpa using h2)
        · exact h.nam m hm'
  · exact h
theorem printE_le {S : Sr} {t : List UInt8} (h : printE S t = 0) : S.wr + t.length ≤ 32768 := by
  unfold printE at h
  split at h
  · cases h
  · omega
theorem SOk.print {S : Sr} (h : SOk S) (t : List UInt8) : SOk (S.print t) := by
  unfold Sr.print
  split
  · rename_i h0
    have := printE_le h0
    exact ⟨this, by show (S.out ++ t).length ≤ S.wr + t.length; rw [List.length_append]; have := h.out; omega, h.len, fun n f hf => by have := h.dat n f hf; show _ ≤ 32768 + (S.wr + t.length); omega, h.nam⟩
  · exact h
theorem SOk.write {S : Sr} (h : SOk S) (n t : List UInt8) : SOk (S.write n t) := by
  unfold Sr.write
  cases hl : look S.fs n with
  | none => exact h
  | some f =>
    dsimp only
    split
    · rename_i h0
      have hp : printE S t = 0 := by
        unfold writeE at h0
        rw [hl] at h0
        dsimp only at h0
        split at h0
        · cases h0
        · exact h0
      have := printE_le hp
      refine ⟨this, Nat.le_trans h.out (Nat.le_add_right _ _), by show (setF S.fs n _).length ≤ _; rw [len_set]; exact h.len, fun m g hm => ?_, fun m hm => h.nam m (by rw [← names_set n ⟨f.data ++ t, f.op⟩ S.fs]; exact hm)⟩
      have hm' : look (setF S.fs n ⟨f.data ++ t, f.op⟩) m = some g := hm
      show g.data.length ≤ 32768 + (S.wr + t.length)
      rw [look_set] at hm'
      split at hm'
      · obtain ⟨_, _, rfl⟩ := Option.map_eq_some_iff.1 hm'
        have := h.dat n f hl
        show (f.data ++ t).length ≤ _
        rw [List.length_append]
        omega
      · have := h.dat m g hm'
        omega
    · exact h
/-- How a pointer to a whole block reads. -/
def ptrR : Value → Option (DataW Unit × List MemPlace)
  | .pointer none => some (.lit (.int .i64 (-1)), [])
  | .pointer (some ⟨b, 0, none⟩) => some (.lit (.int .i64 (b : Nat)), [])
  | _ => none
def ptrD : Option Nat → DataW Unit
  | none => .lit (.int .i64 (-1))
  | some b => .lit (.int .i64 (b : Nat))
def ptrO : Option Nat → Value
  | none => .pointer none
  | some b => .pointer (some ⟨b, 0, none⟩)
theorem ptrR_mk (b : Nat) : ptrR (.pointer (some ⟨b, 0, none⟩)) = some (ptrD (some b), []) := rfl
theorem ptrR_inv {v : Value} {o : Option Nat} {ps : List MemPlace} (h : ptrR v = some (ptrD o, ps)) : v = ptrO o := by
  unfold ptrR at h
  split at h
  · cases o with
    | none => rfl
    | some b =>
      unfold ptrD at h
      simp only [Option.some.injEq, Prod.mk.injEq] at h
      have h1 := h.1
      injection h1 with h1
      injection h1 with _ h1
      omega
  · rename_i b
    cases o with
    | none =>
      unfold ptrD at h
      simp only [Option.some.injEq, Prod.mk.injEq] at h
      have h1 := h.1
      injection h1 with h1
      injection h1 with _ h1
      omega
    | some c =>
      unfold ptrD at h
      simp only [Option.some.injEq, Prod.mk.injEq] at h
      have h1 := h.1
      injection h1 with h1
      injection h1 with _ h1
      have : b = c := by omega
      rw [this]
      rfl
  · cases h
/-- A file: its block, its builder's two cells, what it holds. -/
structure Fb where
  b : Nat
  p : Value
  v : Value
  f : Fl
def cellsF (x : Fb) : Array Value := #[x.p, x.v, .bool x.f.op]
abbrev FA (W : World) (x : Fb) : Prop := BuA W x.b 0 122 (cellsF x) x.p x.v x.f.data
def cellsS (mb : Nat) (p v : Value) (n : Nat) : Array Value := #[.map (some mb), p, v, .int .i64 (n : Nat)]
def ft (b mb : Nat) (v : Value) (fm : List UInt8 → Option Fb) (k : Nat) : Prop := k = b ∨ k = mb ∨ v.ownBlock = some k ∨ ∃ m x, fm m = some x ∧ (k = x.b ∨ x.v.ownBlock = some k)
/-- The program's store at block b. -/
structure SA (W : World) (b mb : Nat) (p v : Value) (fm : List UInt8 → Option Fb) (D : DataW Unit) (S : Sr) : Prop where
  prt : BuA W b 1 81 (cellsS mb p v S.wr) p v S.out
  map : W.ownsMap Tryz.prog 9 ptrR mb S.fs.length D
  key : ∀ m, D.atKey (.string m) (ptrD none) = ptrD ((fm m).map (·.b))
  has : ∀ m, Maps.has D (.string m) = (fm m).isSome
  siz : Maps.size D = S.fs.length
  lk : ∀ m, look S.fs m = (fm m).map (·.f)
  fil : ∀ m x, fm m = some x → FA W x
  apb : ∀ m m' x y, fm m = some x → fm m' = some y → m ≠ m' → x.b ≠ y.b ∧ ∀ g, x.v.ownBlock = some g → y.v.ownBlock ≠ some g
  apo : ∀ m x, fm m = some x → ∀ g, x.v.ownBlock = some g → v.ownBlock ≠ some g
  ris : Ris S.fs
theorem ownF_lt {W : World} {B e size n : Nat} {v : Value} {xs : List Value} (h : W.ownsRowF B e size v n xs) {g : Nat} (hg : v.ownBlock = some g) : g < W.heap.size := (h.lt g hg).2
section
variable {W : World} {b mb : Nat} {p v : Value} {fm : List UInt8 → Option Fb} {D : DataW Unit} {S : Sr}
theorem map_blk (h : SA W b mb p v fm D S) : ∃ es cl, W.heap[mb]? = some (.map es cl) := by
  obtain ⟨es, cl, h1, _⟩ := h.map
  exact ⟨es, cl, h1⟩
theorem SA.mbne (h : SA W b mb p v fm D S) : mb ≠ b := by
  obtain ⟨es, cl, h1⟩ := map_blk h
  intro e
  have := h.prt.blk
  rw [← e, h1] at this
  cases this
theorem SA.mbrow (h : SA W b mb p v fm D S) {u : Value} {n : Nat} {xs : List Value} (hu : W.ownsRowF 0 5 1 u n xs) : u.ownBlock ≠ some mb := by
  obtain ⟨es, cl, h1⟩ := map_blk h
  rcases hu.2 with ⟨rfl, _⟩ | ⟨g, cap, cur, fz, rfl, _, hh, _⟩
  · simp [Value.ownBlock]
  · intro e
    cases e
    rw [h1] at hh
    cases hh
theorem SA.mbfile (h : SA W b mb p v fm D S) {m : List UInt8} {x : Fb} (hx : fm m = some x) : x.b ≠ mb := by
  obtain ⟨es, cl, h1⟩ := map_blk h
  intro e
  have := (h.fil m x hx).blk
  rw [e, h1] at this
  cases this
theorem SA.bfile (h : SA W b mb p v fm D S) {m : List UInt8} {x : Fb} (hx : fm m = some x) : x.b ≠ b := by
  intro e
  have h1 := (h.fil m x hx).blk
  have h2 := h.prt.blk
  rw [e, h2] at h1
  injection h1 with h1
  injection h1 with _ h1 _
  exact absurd h1 (by decide)
theorem SA.rowb (h : SA W b mb p v fm D S) {u : Value} {n : Nat} {xs : List Value} (hu : W.ownsRowF 0 5 1 u n xs) : u.ownBlock ≠ some b := fun e => ownF_ne hu h.prt.blk (by decide) e rfl
theorem SA.rowf (h : SA W b mb p v fm D S) {u : Value} {n : Nat} {xs : List Value} (hu : W.ownsRowF 0 5 1 u n xs) {m : List UInt8} {x : Fb} (hx : fm m = some x) : u.ownBlock ≠ some x.b := fun e => ownF_ne hu (h.fil m x hx).blk (by decide) e rfl
theorem SA.lt (h : SA W b mb p v fm D S) : ∀ k, ft b mb v fm k → k < W.heap.size := by
  rintro k (rfl | rfl | hk | ⟨m, x, hx, rfl | hk⟩)
  · exact h.prt.blt
  · exact h.map.lt
  · exact ownF_lt h.prt.own hk
  · exact (h.fil m x hx).blt
  · exact ownF_lt (h.fil m x hx).own hk
theorem SA.keep {W' : World} (h : SA W b mb p v fm D S) (hk : ∀ k, ft b mb v fm k → W'.heap[k]? = W.heap[k]?) : SA W' b mb p v fm D S where
  prt := h.prt.keep (hk b (.inl rfl)) (fun g hg => hk g (.inr (.inr (.inl hg))))
  map := by
    obtain ⟨es, cl, h1, h2⟩ := h.map
    exact ⟨es, cl, (hk mb (.inr (.inl rfl))).trans h1, h2⟩
  key := h.key
  has := h.has
  siz := h.siz
  lk := h.lk
  fil := fun m x hx => (h.fil m x hx).keep (hk x.b (.inr (.inr (.inr ⟨m, x, hx, .inl rfl⟩)))) (fun g hg => hk g (.inr (.inr (.inr ⟨m, x, hx, .inr hg⟩))))
  apb := h.apb
  apo := h.apo
  ris := h.ris
theorem SA.step {W' : World} (h : SA W b mb p v fm D S) (hb : Below W.heap.size W W') : SA W' b mb p v fm D S := h.keep (fun k hk => hb.block k (h.lt k hk))
theorem SA.cm (h : SA W b mb p v fm D S) : W.cell? ⟨b, 0, none⟩ = some (.map (some mb)) ∧ W.frozen? ⟨b, 0, none⟩ = false := by simp [World.cell?, World.frozen?, h.prt.blk, cellsS]
theorem SA.cw (h : SA W b mb p v fm D S) : W.cell? ⟨b, 3, none⟩ = some (.int .i64 (S.wr : Nat)) ∧ W.frozen? ⟨b, 3, none⟩ = false := by simp [World.cell?, World.frozen?, h.prt.blk, cellsS]
theorem FA.c2 {x : Fb} (h : FA W x) : W.cell? ⟨x.b, 2, none⟩ = some (.bool x.f.op) ∧ W.frozen? ⟨x.b, 2, none⟩ = false := by simp [World.cell?, World.frozen?, h.blk, cellsF]
theorem SA.find (h : SA W b mb p v fm D S) (m : ByteArray) (hm : m.size ≤ 140737488355328) : (Instr.lookup 75 (.map (some mb)) (.string m) false).run Tryz.prog W = .ok (ptrO ((fm m.data.toList).map (·.b))) W := by
  obtain ⟨u, ps, hrun, hR⟩ := h.map.lookup (Maps.string_keyed Tryz.underlying9) Tryz.underlying75 (z := .pointer none) (by kernel_rfl) (zd := ptrD none) (zp := []) rfl (WideMaps.keyOf_string_mk Tryz.underlying9 (s := m) (by unfold maxLen; omega))
  rw [h.key] at hR
  rw [hrun, ptrR_inv hR]
theorem SA.len (h : SA W b mb p v fm D S) (ty : TypeId) : (Builtin.len_ #[75] ty #[.map (some mb)]).run Tryz.prog W = .ok (.int .i64 (S.fs.length : Nat)) W := by
  rw [h.map.len Tryz.underlying75 ty, h.siz]
/-- The count was written. -/
theorem SA.setWr (h : SA W b mb p v fm D S) (n : Nat) : SA (W.setCell ⟨b, 3, none⟩ (.int .i64 (n : Nat))) b mb p v fm D ⟨S.fs, S.out, n⟩ where
  prt := ⟨put_same _ _ 3 _ h.prt.blk, h.prt.i0, h.prt.i1, h.prt.hp, ownF_keep h.prt.own (fun g hg => put_far _ _ _ _ (fun e => h.rowb h.prt.own (by rw [hg, e]))), h.prt.nil⟩
  map := by
    obtain ⟨es, cl, h1, h2⟩ := h.map
    exact ⟨es, cl, (put_far _ _ _ _ h.mbne).trans h1, h2⟩
  key := h.key
  has := h.has
  siz := h.siz
  lk := h.lk
  fil := fun m x hx => (h.fil m x hx).keep (put_far _ _ _ _ (h.bfile hx)) (fun g hg => put_far _ _ _ _ (fun e => h.rowb (h.fil m x hx).own (by rw [hg, e])))
  apb := h.apb
  apo := h.apo
  ris := h.ris
/-- Something was printed. -/
theorem SA.printed {W' : World} {p' v' : Value} {o : List UInt8} (h : SA W b mb p v fm D S) (hb : BuA W' b 1 81 (cellsS mb p' v' S.wr) p' v' o) (ht : Tch (bft b v) W W') (hg : ∀ g, v'.ownBlock = some g → v.ownBlock = some g ∨ W.heap.size ≤ g) : SA W' b mb p' v' fm D ⟨S.fs, o, S.wr⟩ where
  prt := hb
  map := by
    have hl := h.map.lt
    obtain ⟨es, cl, h1, h2⟩ := h.map
    exact ⟨es, cl, (ht.block mb hl (fun e => e.elim h.mbne (h.mbrow h.prt.own))).trans h1, h2⟩
  key := h.key
  has := h.has
  siz := h.siz
  lk := h.lk
  fil := fun m x hx => (h.fil m x hx).keep (ht.block _ (h.fil m x hx).blt (fun e => e.elim (h.bfile hx) (h.rowf h.prt.own hx))) (fun g hg2 => ht.block g (ownF_lt (h.fil m x hx).own hg2) (fun e => e.elim (fun e => h.rowb (h.fil m x hx).own (by rw [hg2, e])) (fun e => h.apo m x hx g hg2 e)))
  apb := h.apb
  apo := fun m x hx g hg2 e => by
    rcases hg g e with h1 | h1
    · exact h.apo m x hx g hg2 h1
    · have := ownF_lt (h.fil m x hx).own hg2
      omega
  ris := h.ris
def updF (fm : List UInt8 → Option Fb) (n : List UInt8) (x : Fb) (m : List UInt8) : Option Fb := if m = n then some x else fm m
/-- A file was changed. -/
theorem SA.changed {W' : World} {n : List UInt8} {x y : Fb} (h : SA W b mb p v fm D S) (hx : fm n = some x) (hb : y.b = x.b) (hy : FA W' y) (ht : Tch (bft x.b x.v) W W') (hg : ∀ g, y.v.ownBlock = some g → x.v.ownBlock = some g ∨ W.heap.size ≤ g) : SA W' b mb p v (updF fm n y) D ⟨setF S.fs n y.f, S.out, S.wr⟩ where
  prt := h.prt.keep (ht.block b h.prt.blt (fun e => e.elim (fun e => h.bfile hx e.symm) (h.rowb (h.fil n x hx).own))) (fun g hg2 => ht.block g (ownF_lt h.prt.own hg2) (fun e => e.elim (fun e => h.rowf h.prt.own hx (by rw [hg2, e])) (fun e => h.apo n x hx g e hg2)))
  map := by
    have hl := h.map.lt
    obtain ⟨es, cl, h1, h2, h3⟩ := h.map
    refine ⟨es, cl, (ht.block mb hl (fun e => e.elim (fun e => h.mbfile hx e.symm) (h.mbrow (h.fil n x hx).own))).trans h1, h2, ?_⟩
    show es.size ≤ (setF S.fs n y.f).length ∧ _
    rw [len_set]
    exact h3
  key := fun m => by
    rw [h.key]
    unfold updF
    split
    · rename_i e
      rw [e, hx]
      show ptrD (some x.b) = ptrD (some y.b)
      rw [hb]
    · rfl
  has := fun m => by
    rw [h.has]
    unfold updF
    split
    · rename_i e
      rw [e, hx]
      rfl
    · rfl
  siz := by
    show _ = (setF S.fs n y.f).length
    rw [len_set]
    exact h.siz
  lk := fun m => by
    show look (setF S.fs n y.f) m = _
    rw [look_set, h.lk, h.lk, hx]
    unfold updF
    split <;> rfl
  fil := fun m z hz => by
    unfold updF at hz
    split at hz
    · cases hz
      exact hy
    · rename_i hne
      have hd := h.apb m n z x hz hx hne
      exact (h.fil m z hz).keep (ht.block _ (h.fil m z hz).blt (fun e => e.elim hd.1 (h.rowf (h.fil n x hx).own hz))) (fun g hg2 => ht.block g (ownF_lt (h.fil m z hz).own hg2) (fun e => e.elim (fun e => h.rowf (h.fil m z hz).own hx (by rw [hg2, e])) (fun e => hd.2 g hg2 e)))
  apb := fun m m' z z' hz hz' hne => by
    unfold updF at hz hz'
    split at hz
    · rename_i e1
      cases hz
      split at hz'
      · rename_i e2
        exact absurd (e1.trans e2.symm) hne
      · rename_i e2
        have hd := h.apb m' n z' x hz' hx e2
        refine ⟨by rw [hb]; exact fun e => hd.1 e.symm, fun g hg2 hg3 => ?_⟩
        rcases hg g hg2 with h1 | h1
        · exact hd.2 g hg3 h1
        · have := ownF_lt (h.fil m' z' hz').own hg3
          omega
    · rename_i e1
      split at hz'
      · cases hz'
        have hd := h.apb m n z x hz hx e1
        refine ⟨by rw [hb]; exact hd.1, fun g hg2 hg3 => ?_⟩
        rcases hg g hg3 with h1 | h1
        · exact hd.2 g hg2 h1
        · have := ownF_lt (h.fil m z hz).own hg2
          omega
      · exact h.apb m m' z z' hz hz' hne
  apo := fun m z hz g hg2 e => by
    unfold updF at hz
    split at hz
    · cases hz
      rcases hg g hg2 with h1 | h1
      · exact h.apo n x hx g h1 e
      · have := ownF_lt h.prt.own e
        omega
    · exact h.apo m z hz g hg2 e
  ris := ris_set h.ris n y.f
/-- A new file, empty and not opened, was laid in. -/
theorem SA.added {W' : World} {n : List UInt8} {fb : Nat} {D' : DataW Unit} (h : SA W b mb p v fm D S) (hn : fm n = none) (hf : W.heap.size ≤ fb) (hfb : W'.heap[fb]? = some (.cells #[.pointer none, .slice none 0 0, .bool false] 122 (0, 0))) (ht : Tch (fun k => k = mb) W W') (hm : W'.ownsMap Tryz.prog 9 ptrR mb (S.fs.length + 1) (D.put (.string n) (ptrD (some fb)))) (hD : D' = D.put (.string n) (ptrD (some fb))) : SA W' b mb p v (updF fm n ⟨fb, .pointer none, .slice none 0 0, ⟨[], false⟩⟩) D' ⟨insF S.fs n ⟨[], false⟩, S.out, S.wr⟩ where
  prt := h.prt.keep (ht.block b h.prt.blt (fun e => h.mbne e.symm)) (fun g hg2 => ht.block g (ownF_lt h.prt.own hg2) (fun e => h.mbrow h.prt.own (by rw [hg2, e])))
  map := by
    rw [hD]
    show W'.ownsMap Tryz.prog 9 ptrR mb (insF S.fs n ⟨[], false⟩).length _
    rw [len_ins]
    exact hm
  key := fun m => by
    rw [hD]
    unfold updF
    split
    · rename_i e
      subst e
      rw [Maps.atKey_put_same h.map.isMap (by trivial)]
      rfl
    · rename_i e
      rw [Maps.atKey_put_other (fun h => e (by injection h))]
      exact h.key m
  has := fun m => by
    rw [hD]
    unfold updF
    split
    · rename_i e
      subst e
      rw [Maps.has_put_same h.map.isMap (by trivial)]
      rfl
    · rename_i e
      rw [Maps.has_put_other (fun h => e (by injection h))]
      exact h.has m
  siz := by
    rw [hD]
    show _ = (insF S.fs n ⟨[], false⟩).length
    rw [len_ins, Maps.size_put (h.map.tidy (Maps.string_keyed Tryz.underlying9)), h.siz]
    have hh : Maps.has D (.string n) = false := by rw [h.has, hn]; rfl
    rw [hh]
    rfl
  lk := fun m => by
    have hl : look S.fs n = none := by rw [h.lk, hn]; rfl
    show look (insF S.fs n ⟨[], false⟩) m = _
    rw [look_ins _ _ _ _ hl, h.lk]
    unfold updF
    split <;> rfl
  fil := fun m z hz => by
    unfold updF at hz
    split at hz
    · cases hz
      exact ⟨hfb, rfl, rfl, .inl rfl, World.ownsRowF_nil _ _ _ _, fun _ => rfl⟩
    · exact (h.fil m z hz).keep (ht.block _ (h.fil m z hz).blt (fun e => h.mbfile hz e)) (fun g hg2 => ht.block g (ownF_lt (h.fil m z hz).own hg2) (fun e => h.mbrow (h.fil m z hz).own (by rw [hg2, e])))
  apb := fun m m' z z' hz hz' hne => by
    unfold updF at hz hz'
    split at hz
    · rename_i e1
      cases hz
      split at hz'
      · rename_i e2
        exact absurd (e1.trans e2.symm) hne
      · have := (h.fil m' z' hz').blt
        exact ⟨by show fb ≠ _; omega, fun g hg2 => by cases hg2⟩
    · split at hz'
      · cases hz'
        have := (h.fil m z hz).blt
        exact ⟨by show _ ≠ fb; omega, fun g _ hg3 => by cases hg3⟩
      · exact h.apb m m' z z' hz hz' hne
  apo := fun m z hz g hg2 e => by
    unfold updF at hz
    split at hz
    · cases hz
      cases hg2
    · exact h.apo m z hz g hg2 e
  ris := ris_ins n _ S.fs h.ris (by rw [h.lk, hn]; rfl)
end
abbrev ptrV (b : Nat) : Value := .pointer (some ⟨b, 0, none⟩)
/-- The program's store; F are its blocks. -/
def I0 (W : World) (F : Nat → Prop) (b : Nat) (S : Sr) : Prop := ∃ mb p v fm D, SA W b mb p v fm D S ∧ F = ft b mb v fm
/-- What a call leaves: only blocks of the store, and new ones, were written. -/
def Pst (F : Nat → Prop) (W : World) (b : Nat) (S : Sr) (R : Value) (e : Ending) (w' : World) : Prop := e = .returned R ∧ Tch F W w' ∧ ∃ F', I0 w' F' b S ∧ ∀ k, F' k → F k ∨ W.heap.size ≤ k
theorem I0.keep {W W' : World} {F : Nat → Prop} {b : Nat} {S : Sr} (h : I0 W F b S) (hk : ∀ k, F k → W'.heap[k]? = W.heap[k]?) : I0 W' F b S := by
  obtain ⟨mb, p, v, fm, D, h, rfl⟩ := h
  exact ⟨mb, p, v, fm, D, h.keep hk, rfl⟩
theorem I0.lt {W : World} {F : Nat → Prop} {b : Nat} {S : Sr} (h : I0 W F b S) : ∀ k, F k → k < W.heap.size := by
  obtain ⟨mb, p, v, fm, D, h, rfl⟩ := h
  exact h.lt
theorem lyS : Ly 81 4 1 := by unfold Ly; kernel_rfl
theorem lyF : Ly 122 3 0 := by unfold Ly; kernel_rfl
theorem ft_file {b mb : Nat} {v : Value} {fm : List UInt8 → Option Fb} {n : List UInt8} {x : Fb} (hx : fm n = some x) {k : Nat} (hk : bft x.b x.v k) : ft b mb v fm k := .inr (.inr (.inr ⟨n, x, hx, hk⟩))
theorem ft_upd {W : World} {b mb : Nat} {v : Value} {fm : List UInt8 → Option Fb} {n : List UInt8} {x y : Fb} (hx : fm n = some x) (hb : y.b = x.b) (hg : ∀ g, y.v.ownBlock = some g → x.v.ownBlock = some g ∨ W.heap.size ≤ g) {k : Nat} (hk : ft b mb v (updF fm n y) k) : ft b mb v fm k ∨ W.heap.size ≤ k := by
  rcases hk with h | h | h | ⟨m, z, hz, h⟩
  · exact .inl (.inl h)
  · exact .inl (.inr (.inl h))
  · exact .inl (.inr (.inr (.inl h)))
  · unfold updF at hz
    split at hz
    · cases hz
      rcases h with h | h
      · exact .inl (.inr (.inr (.inr ⟨n, x, hx, .inl (h.trans hb)⟩)))
      · rcases hg k h with h1 | h1
        · exact .inl (.inr (.inr (.inr ⟨n, x, hx, .inr h1⟩)))
        · exact .inr h1
    · exact .inl (.inr (.inr (.inr ⟨m, z, hz, h⟩)))
theorem ft_row {W : World} {b mb : Nat} {v v' : Value} {fm : List UInt8 → Option Fb} (hg : ∀ g, v'.ownBlock = some g → v.ownBlock = some g ∨ W.heap.size ≤ g) {k : Nat} (hk : ft b mb v' fm k) : ft b mb v fm k ∨ W.heap.size ≤ k := by
  rcases hk with h | h | h | h
  · exact .inl (.inl h)
  · exact .inl (.inr (.inl h))
  · rcases hg k h with h1 | h1
    · exact .inl (.inr (.inr (.inl h1)))
    · exact .inr h1
  · exact .inl (.inr (.inr (.inr h)))
set_option maxRecDepth 100000 in
set_option maxHeartbeats 1000000 in
theorem out_any {W : World} {F : Nat → Prop} {b : Nat} {S : Sr} (h : I0 W F b S) : Calls Tryz.prog 24 #[ptrV b] W (Pst F W b S (.string ⟨S.out.toArray⟩)) := by
  obtain ⟨mb, p, v, fm, D, h, rfl⟩ := h
  have HS := hideT (str_any h.prt (by decide))
  have HH := hideT h
  clear h
  go_enter Tryz.func24, Tryz.ntmps24
  go_wp2_with fail
  refine HS.out.mono ?_
  rintro e w1 ⟨rfl, h1, ht, hs⟩
  have HP := hideT (show Tch (ft b mb v fm) W w1 ∧ SA w1 b mb p v fm D S from ⟨ht.mono (fun j hj => .inr (.inr (.inl hj))), HH.out.printed h1 (ht.mono (fun j hj => .inr hj)) (fun g hg => .inl hg)⟩)
  clear h1 ht hs HS HH
  go_wp2
  go_ret
  exact ⟨rfl, HP.out.1, _, ⟨mb, p, v, fm, D, HP.out.2, rfl⟩, fun k hk => .inl hk⟩
set_option maxRecDepth 100000 in
set_option maxHeartbeats 1000000 in
theorem read_any {W : World} {F : Nat → Prop} {b : Nat} {S : Sr} (h : I0 W F b S) (n : ByteArray) (hn : n.size ≤ 140737488355328) : Calls Tryz.prog 76 #[ptrV b, .string n] W (Pst F W b S (.tuple #[.string ⟨(readD S n.data.toList).toArray⟩, .bool (look S.fs n.data.toList).isSome])) := by
  obtain ⟨mb, p, v, fm, D, h, rfl⟩ := h
  obtain ⟨cm, fm0⟩ := h.cm
  have hf := h.find n hn
  have hl := h.lk n.data.toList
  cases hx : fm n.data.toList with
  | none =>
    rw [hx] at hf hl
    have hR : readD S n.data.toList = [] := by unfold readD; rw [hl]; rfl
    have hI : (look S.fs n.data.toList).isSome = false := by rw [hl]; rfl
    rw [hR, hI]
    have hf' : (Instr.lookup 75 (.map (some mb)) (.string n) false).run Tryz.prog W = .ok (.pointer none) W := hf
    have HH := hideT h
    clear hf h hl hx hR hI
    go_enter Tryz.func76, Tryz.ntmps76
    go_wp2
    go_ret2
    exact ⟨rfl, Tch.refl _ _, _, ⟨mb, p, v, fm, D, HH.out, rfl⟩, fun k hk => .inl hk⟩
  | some x =>
    rw [hx] at hf hl
    have hR : readD S n.data.toList = x.f.data := by unfold readD; rw [hl]; rfl
    have hI : (look S.fs n.data.toList).isSome = true := by rw [hl]; rfl
    rw [hR, hI]
    clear hR hI
    have hf' : (Instr.lookup 75 (.map (some mb)) (.string n) false).run Tryz.prog W = .ok (.pointer (some ⟨x.b, 0, none⟩)) W := hf
    have HS := hideT (str_any (h.fil _ x hx) (by decide))
    have HX := hideT hx
    have HH := hideT h
    clear hf h hl hx
    go_enter Tryz.func76, Tryz.ntmps76
    go_wp2_with fail
    refine HS.out.mono ?_
    rintro e w1 ⟨rfl, h1, ht, hs⟩
    have HP := hideT (show Tch (ft b mb v fm) W w1 ∧ I0 w1 (ft b mb v fm) b S from by
      refine ⟨ht.mono (fun j hj => ft_file HX.out (.inr hj)), ?_⟩
      have h2 := HH.out.changed HX.out (y := x) rfl h1 (ht.mono (fun j hj => .inr hj)) (fun g hg => .inl hg)
      have e1 : updF fm n.data.toList x = fm := by
        funext m
        unfold updF
        split
        · rename_i e
          rw [e, HX.out]
        · rfl
      have e2 : setF S.fs n.data.toList x.f = S.fs := set_same (by rw [HH.out.lk, HX.out]; rfl)
      rw [e1, e2] at h2
      exact ⟨mb, p, v, fm, D, h2, rfl⟩)
    clear h1 ht hs HS HH HX
    go_wp2
    go_ret2
    exact ⟨rfl, HP.out.1, _, HP.out.2, fun k hk => .inl hk⟩
set_option maxRecDepth 100000 in
set_option maxHeartbeats 1000000 in
theorem lay_print {W : World} {F : Nat → Prop} {b : Nat} {S : Sr} (h : I0 W F b S) (ho : SOk S) (t : ByteArray) (ht : t.size ≤ 140737488300000) : Calls Tryz.prog 111 #[ptrV b, .pointer (some ⟨b, 1, none⟩), .string t] W (Pst F W b (S.print t.data.toList) (.int .i64 (printE S t.data.toList : Nat))) := by
  obtain ⟨mb, p, v, fm, D, h, rfl⟩ := h
  obtain ⟨c3, f3⟩ := h.cw
  have hw := ho.wr
  have hou := ho.out
  have w0 : IntKind.i64.wrap ((32768 : Int) - (S.wr : Int)) = (32768 : Int) - (S.wr : Int) := by rw [IntKind.wrap_i64]; omega
  have hlt : t.data.toList.length = t.size := rfl
  by_cases hbig : 32768 < S.wr + t.size
  · have k1 : (32768 : Int) - (S.wr : Int) < (t.size : Int) := by omega
    have hE : printE S t.data.toList = 16 := by unfold printE; rw [if_pos (by rw [hlt]; exact hbig)]
    have hS : S.print t.data.toList = S := by unfold Sr.print; rw [hE, if_neg (by decide)]
    rw [hE, hS]
    have HH := hideT h
    clear h hbig hE hS
    go_enter Tryz.func111, Tryz.ntmps111
    go_wp2
    go_ret
    exact ⟨rfl, Tch.refl _ _, _, ⟨mb, p, v, fm, D, HH.out, rfl⟩, fun k hk => .inl hk⟩
  · have k1 : ((32768 : Int) - (S.wr : Int) < (t.size : Int)) = False := by rw [eq_iff_iff, iff_false]; omega
    have hE : printE S t.data.toList = 0 := by unfold printE; rw [if_neg (by rw [hlt]; exact hbig)]
    have hS : S.print t.data.toList = ⟨S.fs, S.out ++ t.data.toList, S.wr + t.size⟩ := by unfold Sr.print; rw [hE, if_pos rfl]; rfl
    rw [hE, hS]
    have HW := hideT (write_any h.prt (by decide) lyS t (by omega))
    have HH := hideT h
    have w1' : IntKind.i64.wrap ((S.wr : Int) + (t.size : Int)) = ((S.wr + t.size : Nat) : Int) := by rw [IntKind.wrap_i64]; omega
    clear h hE hS f3
    go_enter Tryz.func111, Tryz.ntmps111
    go_wp2_with fail
    refine HW.out.mono ?_
    rintro e w1 ⟨rfl, v', h1, ht1, hg1⟩
    have h2 : SA w1 b mb (.pointer (some ⟨b, 1, none⟩)) v' fm D ⟨S.fs, S.out ++ t.data.toList, S.wr⟩ := HH.out.printed h1 ht1 hg1
    obtain ⟨d3, e3⟩ := h2.cw
    have HP := hideT (show ∀ x : Int, x = ((S.wr + t.size : Nat) : Int) → Tch (ft b mb v fm) W (w1.setCell ⟨b, 3, none⟩ (.int .i64 x)) ∧ SA (w1.setCell ⟨b, 3, none⟩ (.int .i64 x)) b mb (.pointer (some ⟨b, 1, none⟩)) v' fm D ⟨S.fs, S.out ++ t.data.toList, S.wr + t.size⟩ ∧ ∀ k, ft b mb v' fm k → ft b mb v fm k ∨ W.heap.size ≤ k from by
      rintro x rfl
      exact ⟨(ht1.mono (fun j hj => by rcases hj with h | h; exact .inl h; exact .inr (.inr (.inl h)))).put (.inl rfl) _ _, h2.setWr _, fun k hk => ft_row hg1 hk⟩)
    clear h1 ht1 hg1 h2 HW HH
    go_wp2
    go_ret
    have hx := HP.out _ (by first | rfl | omega)
    exact ⟨rfl, hx.1, _, ⟨mb, _, v', fm, D, hx.2.1, rfl⟩, hx.2.2⟩
set_option maxRecDepth 100000 in
set_option maxHeartbeats 1000000 in
theorem print_any {W : World} {F : Nat → Prop} {b : Nat} {S : Sr} (h : I0 W F b S) (ho : SOk S) (t : ByteArray) (ht : t.size ≤ 140737488300000) : Calls Tryz.prog 75 #[ptrV b, .string t] W (Pst F W b (S.print t.data.toList) (.int .i64 (printE S t.data.toList : Nat))) := by
  have HL := hideT (lay_print h ho t ht)
  clear h ho
  go_enter Tryz.func75, Tryz.ntmps75
  go_wp2_with fail
  refine HL.out.mono ?_
  rintro e w1 ⟨rfl, h1, h2⟩
  have HP := hideT (And.intro h1 h2)
  clear h1 h2 HL
  go_wp2
  go_ret
  exact ⟨rfl, HP.out.1, HP.out.2⟩
set_option maxRecDepth 100000 in
set_option maxHeartbeats 1000000 in
theorem lay_file {W : World} {b mb : Nat} {p v : Value} {fm : List UInt8 → Option Fb} {D : DataW Unit} {S : Sr} (h : SA W b mb p v fm D S) (ho : SOk S) {n : List UInt8} {x : Fb} (hx : fm n = some x) (hop : x.f.op = true) (t : ByteArray) (ht : t.size ≤ 140737488300000) : Calls Tryz.prog 111 #[ptrV b, .pointer (some ⟨x.b, 0, none⟩), .string t] W (Pst (ft b mb v fm) W b (S.write n t.data.toList) (.int .i64 (writeE S n t.data.toList : Nat))) := by
  obtain ⟨c3, f3⟩ := h.cw
  have hw := ho.wr
  have hlk : look S.fs n = some x.f := by rw [h.lk, hx]; rfl
  have hda := ho.dat n x.f hlk
  have w0 : IntKind.i64.wrap ((32768 : Int) - (S.wr : Int)) = (32768 : Int) - (S.wr : Int) := by rw [IntKind.wrap_i64]; omega
  have hlt : t.data.toList.length = t.size := rfl
  have hwE : writeE S n t.data.toList = printE S t.data.toList := by unfold writeE; rw [hlk]; dsimp only; rw [if_neg (by rw [hop]; decide)]
  by_cases hbig : 32768 < S.wr + t.size
  · have k1 : (32768 : Int) - (S.wr : Int) < (t.size : Int) := by omega
    have hE : printE S t.data.toList = 16 := by unfold printE; rw [if_pos (by rw [hlt]; exact hbig)]
    have hS : S.write n t.data.toList = S := by unfold Sr.write; rw [hwE, hE, hlk]; rfl
    rw [hwE, hE, hS]
    have HH := hideT h
    clear h hbig hE hS hwE hlk hx hop
    go_enter Tryz.func111, Tryz.ntmps111
    go_wp2
    go_ret
    exact ⟨rfl, Tch.refl _ _, _, ⟨mb, p, v, fm, D, HH.out, rfl⟩, fun k hk => .inl hk⟩
  · have k1 : ((32768 : Int) - (S.wr : Int) < (t.size : Int)) = False := by rw [eq_iff_iff, iff_false]; omega
    have hE : printE S t.data.toList = 0 := by unfold printE; rw [if_neg (by rw [hlt]; exact hbig)]
    have hS : S.write n t.data.toList = ⟨setF S.fs n ⟨x.f.data ++ t.data.toList, x.f.op⟩, S.out, S.wr + t.size⟩ := by unfold Sr.write; rw [hwE, hE, hlk]; rfl
    rw [hwE, hE, hS]
    have HW := hideT (write_any (h.fil n x hx) (by decide) lyF t (by omega))
    have HH := hideT h
    have HX := hideT hx
    have w1' : IntKind.i64.wrap ((S.wr : Int) + (t.size : Int)) = ((S.wr + t.size : Nat) : Int) := by rw [IntKind.wrap_i64]; omega
    clear h hE hS f3 hwE hlk hx hop
    go_enter Tryz.func111, Tryz.ntmps111
    go_wp2_with fail
    refine HW.out.mono ?_
    rintro e w1 ⟨rfl, v', h1, ht1, hg1⟩
    have h2 := HH.out.changed HX.out (y := ⟨x.b, .pointer (some ⟨x.b, 0, none⟩), v', ⟨x.f.data ++ t.data.toList, x.f.op⟩⟩) rfl h1 ht1 hg1
    obtain ⟨d3, e3⟩ := h2.cw
    have d3' : w1.cell? ⟨b, 3, none⟩ = some (.int .i64 (S.wr : Nat)) := d3
    have HP := hideT (show ∀ z : Int, z = ((S.wr + t.size : Nat) : Int) → Tch (ft b mb v fm) W (w1.setCell ⟨b, 3, none⟩ (.int .i64 z)) ∧ I0 (w1.setCell ⟨b, 3, none⟩ (.int .i64 z)) (ft b mb v (updF fm n ⟨x.b, .pointer (some ⟨x.b, 0, none⟩), v', ⟨x.f.data ++ t.data.toList, x.f.op⟩⟩)) b ⟨setF S.fs n ⟨x.f.data ++ t.data.toList, x.f.op⟩, S.out, S.wr + t.size⟩ ∧ ∀ k, ft b mb v (updF fm n ⟨x.b, .pointer (some ⟨x.b, 0, none⟩), v', ⟨x.f.data ++ t.data.toList, x.f.op⟩⟩) k → ft b mb v fm k ∨ W.heap.size ≤ k from by
      rintro z rfl
      exact ⟨(ht1.mono (fun j hj => ft_file HX.out hj)).put (.inl rfl) _ _, ⟨mb, p, v, _, D, h2.setWr _, rfl⟩, fun k hk => ft_upd (y := ⟨x.b, .pointer (some ⟨x.b, 0, none⟩), v', ⟨x.f.data ++ t.data.toList, x.f.op⟩⟩) HX.out rfl hg1 hk⟩)
    clear h1 ht1 hg1 h2 HW HH HX d3
    go_wp2
    go_ret
    have hz := HP.out _ (by first | rfl | omega)
    exact ⟨rfl, hz.1, _, hz.2.1, hz.2.2⟩
set_option maxRecDepth 100000 in
set_option maxHeartbeats 1000000 in
theorem writeS_any {W : World} {F : Nat → Prop} {b : Nat} {S : Sr} (h : I0 W F b S) (ho : SOk S) (n t : ByteArray) (hn : n.size ≤ 140737488355328) (ht : t.size ≤ 140737488300000) : Calls Tryz.prog 118 #[ptrV b, .string n, .string t] W (Pst F W b (S.write n.data.toList t.data.toList) (.int .i64 (writeE S n.data.toList t.data.toList : Nat))) := by
  obtain ⟨mb, p, v, fm, D, h, rfl⟩ := h
  obtain ⟨cm, fm0⟩ := h.cm
  have hf := h.find n hn
  have hl := h.lk n.data.toList
  have HH := hideT h
  cases hx : fm n.data.toList with
  | none =>
    rw [hx] at hf hl
    have hf' : (Instr.lookup 75 (.map (some mb)) (.string n) false).run Tryz.prog W = .ok (.pointer none) W := hf
    have hE : writeE S n.data.toList t.data.toList = 5 := by unfold writeE; rw [hl]; rfl
    have hS : S.write n.data.toList t.data.toList = S := by unfold Sr.write; rw [hl]; rfl
    rw [hE, hS]
    clear hf h hl hx hE hS
    go_enter Tryz.func118, Tryz.ntmps118
    go_wp2
    go_ret
    exact ⟨rfl, Tch.refl _ _, _, ⟨mb, p, v, fm, D, HH.out, rfl⟩, fun k hk => .inl hk⟩
  | some x =>
    rw [hx] at hf hl
    have hl' : look S.fs n.data.toList = some x.f := hl
    have hf' : (Instr.lookup 75 (.map (some mb)) (.string n) false).run Tryz.prog W = .ok (.pointer (some ⟨x.b, 0, none⟩)) W := hf
    obtain ⟨c2, _⟩ := (h.fil _ x hx).c2
    cases hop : x.f.op with
    | false =>
      rw [hop] at c2
      have hE : writeE S n.data.toList t.data.toList = 5 := by unfold writeE; rw [hl']; dsimp only; rw [hop, if_pos rfl]
      have hS : S.write n.data.toList t.data.toList = S := by unfold Sr.write; rw [hE, hl']; rfl
      rw [hE, hS]
      clear hf h hl hx hE hS hl' hop
      go_enter Tryz.func118, Tryz.ntmps118
      go_wp2
      go_ret
      exact ⟨rfl, Tch.refl _ _, _, ⟨mb, p, v, fm, D, HH.out, rfl⟩, fun k hk => .inl hk⟩
    | true =>
      rw [hop] at c2
      have HL := hideT (lay_file h ho hx hop t ht)
      clear hf h hl hx hl' hop HH ho
      go_enter Tryz.func118, Tryz.ntmps118
      go_wp2_with fail
      refine HL.out.mono ?_
      rintro e w1 ⟨rfl, h1, h2⟩
      have HP := hideT (And.intro h1 h2)
      clear h1 h2 HL
      go_wp2
      go_ret
      exact ⟨rfl, HP.out.1, HP.out.2⟩
theorem op_value {P : Program} {ops : Array Oper} {Q : Exit → Act → World → Prop} {i : Nat} {o : Oper} {K : Act → World → Prop} {a : Act} {w w' : World} {v : Value} (d : Option Tmp) (hi : ops[i]? = some o) (hd : o.dst = d) (hw : Region.wanted o (yielded ops a.tmps) = true) (hx : (execOp a.eval o).run P w = .ok (.value v) w') (h : K (a.put d v) w') : wpOp P ops Q i K a w := by
  subst hd
  unfold wpOp
  rw [hi]
  dsimp only
  rw [if_pos hw]
  refine .inl ?_
  unfold Oper.wp
  rw [hx]
  exact h
theorem op_skip {P : Program} {ops : Array Oper} {Q : Exit → Act → World → Prop} {i : Nat} {o : Oper} {K : Act → World → Prop} {a : Act} {w w' : World} (hi : ops[i]? = some o) (hd : o.dst = none) (hw : Region.wanted o (yielded ops a.tmps) = true) (hx : (execOp a.eval o).run P w = .ok .skip w') (h : K (a.put none undef) w') : wpOp P ops Q i K a w := by
  rw [← hd] at h
  unfold wpOp
  rw [hi]
  dsimp only
  rw [if_pos hw]
  refine .inl ?_
  unfold Oper.wp
  rw [hx]
  exact h
theorem take_d {P : Program} {ops : Array Oper} {Q : Exit → Act → World → Prop} {S : World → Prop} {md : Region.Mode} (i : Nat) (d : Option Tmp) {oi : Oper} {v : Value} {fuel : Nat} {listed : Array Bool} {a : Act} {w : World} (hi : ops[i]? = some oi) (hd : oi.dst = d)
    (hs : Region.noSelect ops = true) (hf : Region.free md ops listed i = true) (hr : (Region.ready md ops listed).contains i = true)
    (hQ : ∀ c a w, Q (.panic c) (a.put d v) w → Q (.panic c) a w) (hw : Region.wanted oi (yielded ops a.tmps) = true) (hS : S w) (hy : ∀ w, S w → (execOp a.eval oi).run P w = .ok (.value v) w)
    (h : wpAnyH P md ops Q S fuel (listed.setIfInBounds i true) (a.put d v) w) : wpAnyH P md ops Q S (fuel + 1) listed a w := by
  subst hd
  exact wpAnyH_take hi hs hf hr hQ (Or.inl ⟨hw, hy⟩) hS h
theorem wanted_none {o : Oper} (h : o.guard = none) (y : Nat → Option Bool) : Region.wanted o y = true := by simp [Region.wanted, h]
theorem op_call {P : Program} {ops : Array Oper} {Q : Exit → Act → World → Prop} {i : Nat} {o : Oper} {K : Act → World → Prop} {a : Act} {w : World} {f : FuncId} {args : Array Value} {R : Value → World → Prop} (d : Option Tmp) (hi : ops[i]? = some o) (hd : o.dst = d) (hw : Region.wanted o (yielded ops a.tmps) = true) (hx : (execOp a.eval o).run P w = .ok (.enter f args) w) (hc : Calls P f args w fun e w' => ∃ v, e = .returned v ∧ R v w') (h : ∀ v w', R v w' → K (a.put d v) w') : wpOp P ops Q i K a w := by
  unfold wpOp
  rw [hi]
  dsimp only
  rw [if_pos hw]
  refine .inl ?_
  unfold Oper.wp
  rw [hx]
  refine Calls.mono hc ?_
  rintro e w' ⟨v, rfl, hR⟩
  show K (a.put o.dst v) w'
  rw [hd]
  exact h v w' hR
theorem update_skip {P : Program} {o : Oper} {t : TypeId} {m x v : Operand} {ev : Operand → Value} {mv kv vv : Value} {V V' : World} (ho : o.op = .mapUpdate t m x v) (hm : ev m = mv) (hx : ev x = kv) (hv : ev v = vv) (h : (Instr.mapUpdate t mv kv vv).run P V = .ok () V') : (execOp ev o).run P V = .ok .skip V' := by
  simp [execOp, ho, hm, hx, hv, h, Result.andThen]
def lays316_ren : Go.Shelf.Ren := ⟨fun | 316 => 50 | n => n, fun | 37 => 77 | 127 => 119 | n => n, fun | n => n⟩
theorem lays316 : Go.Proofs.LaysM.n316 Tryz.prog lays316_ren := {
  mixed := by kernel_rfl
  f316 := Tryz.func50.trans (congrArg some (by kernel_rfl))
  t0 := Tryz.underlying0
  a0 := Tryz.isAgg0
  z0 := Tryz.sizeOf0
  v0 := Tryz.zeroValue0
  t3 := Tryz.underlying3
  a3 := Tryz.isAgg3
  z3 := Tryz.sizeOf3
  v3 := Tryz.zeroValue3
  t4 := Tryz.underlying4
  a4 := Tryz.isAgg4
  z4 := Tryz.sizeOf4
  v4 := Tryz.zeroValue4
  t9 := Tryz.underlying9
  a9 := Tryz.isAgg9
  z9 := Tryz.sizeOf9
  v9 := Tryz.zeroValue9
  t37 := Tryz.underlying77
  a37 := Tryz.isAgg77
  z37 := Tryz.sizeOf77
  v37 := Tryz.zeroValue77
  t127 := Tryz.underlying119
  a127 := Tryz.isAgg119
  z127 := Tryz.sizeOf119
  v127 := Tryz.zeroValue119
  t5 := Tryz.underlying5
  a5 := Tryz.isAgg5
  z5 := Tryz.sizeOf5
  v5 := Tryz.zeroValue5
  i0 := by kernel_rfl
  i3 := by kernel_rfl
  i4 := by kernel_rfl
  i5 := by kernel_rfl
  i9 := by kernel_rfl
  i37 := by kernel_rfl
  i127 := by kernel_rfl }
set_option maxRecDepth 100000 in
set_option maxHeartbeats 1000000 in
theorem clone_any (s : ByteArray) (w : World) (hs : s.size ≤ 140737488355000) : Calls Tryz.prog 34 #[.string s] w fun e w' => e = .returned (.string s) ∧ Below w.heap.size w w' := by
  have H := hideT (fun w => Any.stringslite_Clone lays316 s w (by omega))
  go_enter Tryz.func34, Tryz.ntmps34
  go_wp2_with fail
  refine (H.out _).mono ?_
  rintro e w1 ⟨rfl, hb⟩
  have B := hideT hb
  clear hb
  go_wp2
  go_ret
  exact ⟨rfl, B.out⟩
set_option maxRecDepth 100000 in
set_option maxHeartbeats 2000000 in
theorem add_any {W : World} {b mb : Nat} {p v : Value} {fm : List UInt8 → Option Fb} {D : DataW Unit} {S : Sr} (h : SA W b mb p v fm D S) (n : ByteArray) (hn : n.size ≤ 140737488355000) (hx : fm n.data.toList = none) (hl : S.fs.length ≤ 1000) : Calls Tryz.prog 69 #[ptrV b, .string n] W fun e w' => ∃ fb D', e = .returned (ptrV fb) ∧ W.heap.size ≤ fb ∧ Tch (fun k => k = mb) W w' ∧ SA w' b mb p v (updF fm n.data.toList ⟨fb, .pointer none, .slice none 0 0, ⟨[], false⟩⟩) D' ⟨insF S.fs n.data.toList ⟨[], false⟩, S.out, S.wr⟩ := by
  have HC := hideT (fun w => clone_any n w hn)
  have HH := hideT h
  have HX := hideT hx
  have HL := hideT hl
  obtain ⟨cm, fr⟩ := h.cm
  have hA : Below W.heap.size W (W.alloc (.cells #[.pointer none, .slice none 0 0, .bool false] 122)) := (Below.refl _ W).alloc (Nat.le_refl _) _
  have HA := hideT (And.intro hA (heap_alloc_new W (.cells #[.pointer none, .slice none 0 0, .bool false] 122)))
  have HZ := hideT (World.size_alloc W (.cells #[.pointer none, .slice none 0 0, .bool false] 122))
  clear h hx hl hA fr
  go_enter Tryz.func69, Tryz.ntmps69
  go_wp2_with fail
  have HS := hideT (fun V (hV : Below W.heap.size W V) => keep_cell hV cm)
  have s0 : (W.alloc (.cells #[.pointer none, .slice none 0 0, .bool false] 122)).drew.cell? ⟨b, 0, none⟩ = some (.map (some mb)) := HS.out _ (HA.out.1.drew)
  refine wp_region_held (S := fun V => V.cell? ⟨b, 0, none⟩ = some (.map (some mb))) (by kernel_rfl) ?_
  refine' take_d 0 (some 8) rfl rfl (by kernel_rfl) (by kernel_rfl) (by kernel_rfl) (fun _ _ _ h => h) (wanted_none rfl _) s0 ?tk1 ?rs1
  case tk1 => intro V hV; go_simp; (try with_reducible rfl)
  refine' take_d 1 (some 9) rfl rfl (by kernel_rfl) (by kernel_rfl) (by kernel_rfl) (fun _ _ _ h => h) (wanted_none rfl _) s0 ?tk2 ?rs2
  case tk2 => intro V hV; go_simp; (try with_reducible rfl)
  refine' take_d 2 (some 10) rfl rfl (by kernel_rfl) (by kernel_rfl) (by kernel_rfl) (fun _ _ _ h => h) (wanted_none rfl _) s0 ?tk3 ?rs3
  case tk3 => intro V hV; go_simp; (try with_reducible rfl)
  refine' take_d 3 (some 11) rfl rfl (by kernel_rfl) (by kernel_rfl) (by kernel_rfl) (fun _ _ _ h => h) (wanted_none rfl _) s0 ?tk4 ?rs4
  case tk4 => intro V hV; have hc := hV; go_simp; (try with_reducible rfl)
  refine' take_d 4 (some 12) rfl rfl (by kernel_rfl) (by kernel_rfl) (by kernel_rfl) (fun _ _ _ h => h) (wanted_none rfl _) s0 ?tk5 ?rs5
  case tk5 => intro V hV; go_simp; (try with_reducible rfl)
  refine' take_d 6 (some 14) rfl rfl (by kernel_rfl) (by kernel_rfl) (by kernel_rfl) (fun _ _ _ h => h) (wanted_none rfl _) s0 ?tk6 ?rs6
  case tk6 => intro V hV; go_simp; (try with_reducible rfl)
  simp only [Act.put, List.setIfInBounds_toArray, List.set_cons_zero, List.set_cons_succ]
  refine wpAnyH_all (rs := [5]) (by kernel_rfl) (by simp) (fun i hi => ?_)
  obtain rfl : i = 5 := List.mem_singleton.1 hi
  clear hi
  refine op_call (some 13) rfl rfl (wanted_none rfl _) (by go_simp; (try with_reducible rfl)) (R := fun u w' => u = .string n ∧ Below W.heap.size W w' ∧ w'.heap[W.heap.size]? = some (.cells #[.pointer none, .slice none 0 0, .bool false] 122 (0, 0))) ((HC.out _).mono (fun e w' hh => ⟨.string n, hh.1, rfl, (HA.out.1.drew).trans (hh.2.mono (HA.out.1.drew).size), (hh.2.block W.heap.size (by show W.heap.size < (W.alloc _).heap.size; rw [HZ.out]; omega)).trans HA.out.2⟩)) ?_
  rintro u w1 ⟨rfl, hb1, hf1⟩
  have s1 := HS.out w1 hb1
  refine And.intro s1 ?_
  simp only [Act.put, List.setIfInBounds_toArray, List.set_cons_zero, List.set_cons_succ]
  refine wpAnyH_all (rs := [7]) (by kernel_rfl) (by simp) (fun i hi => ?_)
  obtain rfl : i = 7 := List.mem_singleton.1 hi
  clear hi
  obtain ⟨w2, hrun, hown, hgr⟩ := (HH.out.step hb1).map.update (Maps.string_keyed Tryz.underlying9) Tryz.underlying75 (by have := HL.out; unfold maxLen; omega) (WideMaps.keyOf_string_mk Tryz.underlying9 (s := n) (by unfold maxLen; omega)) (d := ptrD (some W.heap.size)) (ps := []) (ptrR_mk W.heap.size)
  refine op_skip (w' := w2) rfl rfl (wanted_none rfl _) (update_skip rfl rfl rfl rfl hrun) ?_
  have hw2 : ∀ k, k < w1.heap.size → k ≠ mb → w2.heap[k]? = w1.heap[k]? := fun k hk hne => hgr.block k hk (fun e => hne (by cases e; rfl))
  have hsz := hb1.size
  have hWs : W.heap.size < w1.heap.size := (Array.getElem?_eq_some_iff.1 hf1).1
  have hml := HH.out.map.lt
  have s2 : w2.cell? ⟨b, 0, none⟩ = some (.map (some mb)) := (World.cell?_of_block (a := ⟨b, 0, none⟩) (hw2 b (by have := HH.out.prt.blt; omega) (fun e => HH.out.mbne e.symm))).trans s1
  refine And.intro s2 ?_
  refine wpAnyH_done (by kernel_rfl) ?_ _
  simp only [Act.put]
  have HT := hideT (show Tch (fun k => k = mb) W w2 from (Tch.of hb1).trans (Tch.grown (F := fun k => k = mb) hgr (fun g hg => by cases hg; rfl)) (fun _ hj => .inl hj))
  have HF := hideT (show SA w2 b mb p v (updF fm n.data.toList ⟨W.heap.size, .pointer none, .slice none 0 0, ⟨[], false⟩⟩) (D.put (.string n.data.toList) (ptrD (some W.heap.size))) ⟨insF S.fs n.data.toList ⟨[], false⟩, S.out, S.wr⟩ from HH.out.added HX.out (Nat.le_refl _) ((hw2 _ hWs (by omega)).trans hf1) HT.out hown rfl)
  clear hrun hown hgr hw2 hb1 hf1 s1 s2 HH HX HC HA HS hsz hWs hml cm s0
  go_wp2
  go_ret
  exact ⟨_, _, rfl, Nat.le_refl _, HT.out, HF.out⟩
/-- A file that was made empty and opened. -/
theorem opened_file {W w' : World} {x : Fb} (h : BuA w' x.b 0 122 (((cellsF x).setIfInBounds 0 (.pointer none)).setIfInBounds (0 + 1) (.slice none 0 0)) (.pointer none) (.slice none 0 0) []) (ht : Tch (fun j => j = x.b) W w') : FA (w'.setCell ⟨x.b, 2, none⟩ (.bool true)) ⟨x.b, .pointer none, .slice none 0 0, ⟨[], true⟩⟩ ∧ Tch (bft x.b x.v) W (w'.setCell ⟨x.b, 2, none⟩ (.bool true)) :=
  ⟨⟨put_same _ _ 2 _ h.blk, rfl, rfl, .inl rfl, World.ownsRowF_nil _ _ _ _, fun _ => rfl⟩, (ht.mono (fun _ hj => .inl hj)).put (.inl rfl) _ _⟩
theorem set_ins (n : List UInt8) (f g : Fl) : ∀ l : Fs, look l n = none → setF (insF l n f) n g = insF l n g
  | [], _ => by simp [insF, setF]
  | x :: r, h => by
    have hx : ¬ x.1 = n := fun e => by simp [look, e] at h
    have hr : look r n = none := by simpa [look, hx] using h
    unfold insF
    split
    · simp [setF]
    · simp [setF, hx, set_ins n f g r hr]
theorem ft_add {W : World} {b mb fb : Nat} {v : Value} {fm : List UInt8 → Option Fb} {n : List UInt8} {y : Fb} (hb : y.b = fb) (hf : W.heap.size ≤ fb) (hg : ∀ g, y.v.ownBlock = some g → W.heap.size ≤ g) {k : Nat} (hk : ft b mb v (updF fm n y) k) : ft b mb v fm k ∨ W.heap.size ≤ k := by
  rcases hk with h | h | h | ⟨m, z, hz, h⟩
  · exact .inl (.inl h)
  · exact .inl (.inr (.inl h))
  · exact .inl (.inr (.inr (.inl h)))
  · unfold updF at hz
    split at hz
    · cases hz
      rcases h with h | h
      · exact .inr (by omega)
      · exact .inr (hg k h)
    · exact .inl (.inr (.inr (.inr ⟨m, z, hz, h⟩)))
theorem upd_upd (fm : List UInt8 → Option Fb) (n : List UInt8) (x y : Fb) : updF (updF fm n x) n y = updF fm n y := by
  funext m
  unfold updF
  split <;> rfl
set_option maxRecDepth 100000 in
set_option maxHeartbeats 2000000 in
theorem openS_any {W : World} {F : Nat → Prop} {b : Nat} {S : Sr} (h : I0 W F b S) (ho : SOk S) (n : ByteArray) (hn : n.size ≤ 140737488355000) : Calls Tryz.prog 46 #[ptrV b, .string n] W (Pst F W b (S.openS n.data.toList) (.int .i64 (openE S n.data.toList : Nat))) := by
  have HNM := hideT (name_any n)
  obtain ⟨mb, p, v, fm, D, h, rfl⟩ := h
  have HH := hideT h
  obtain ⟨cm, _⟩ := h.cm
  have hf := h.find n (by omega)
  have hln := h.len 3
  have hl := h.lk n.data.toList
  have HSame := hideT (fun (E : Nat) (hE : openE S n.data.toList = E) (h0 : E ≠ 0) => show S.openS n.data.toList = S from by unfold Sr.openS; rw [hE, if_neg h0])
  cases hnb : nameB n.data.toList with
  | false =>
    have hE : openE S n.data.toList = 3 := by unfold openE; rw [hnb, if_pos rfl]
    rw [hnb] at HNM
    rw [HSame.out 3 hE (by decide), hE]
    clear h hf hln hl hE hnb HSame cm ho
    go_enter Tryz.func46, Tryz.ntmps46
    go_wp2_with fail
    refine (HNM.out _).mono ?_
    rintro e w1 ⟨rfl, rfl⟩
    go_wp2
    go_ret
    exact ⟨rfl, Tch.refl _ _, _, ⟨mb, p, v, fm, D, HH.out, rfl⟩, fun k hk => .inl hk⟩
  | true =>
    rw [hnb] at HNM
    cases hx : fm n.data.toList with
    | some x =>
      rw [hx] at hf hl
      have hl' : (look S.fs n.data.toList).isSome = true := by rw [hl]; rfl
      have hf' : (Instr.lookup 75 (.map (some mb)) (.string n) false).run Tryz.prog W = .ok (.pointer (some ⟨x.b, 0, none⟩)) W := hf
      have hE : openE S n.data.toList = 0 := by unfold openE; rw [hnb, if_neg (by decide), if_pos hl']
      have hS : S.openS n.data.toList = ⟨setF S.fs n.data.toList ⟨[], true⟩, S.out, S.wr⟩ := by unfold Sr.openS; rw [hE, if_pos rfl, if_pos hl']
      rw [hE, hS]
      have HR := hideT (reset_any (h.fil _ x hx))
      have HX := hideT hx
      clear h hf hln hl hE hS hl' hx hnb HSame ho
      go_enter Tryz.func46, Tryz.ntmps46
      go_wp2_with fail
      refine (HNM.out _).mono ?_
      rintro e W ⟨rfl, rfl⟩
      go_wp2_with fail
      refine HR.out.mono ?_
      rintro e w1 ⟨rfl, h1, ht, hs⟩
      have c2 : w1.cell? ⟨x.b, 2, none⟩ = some (.bool x.f.op) := by simp [World.cell?, h1.blk, cellsF]
      have f2 : w1.frozen? ⟨x.b, 2, none⟩ = false := by simp [World.frozen?, h1.blk]
      have HO := hideT (opened_file h1 ht)
      have HP := hideT (HH.out.changed HX.out (y := ⟨x.b, .pointer none, .slice none 0 0, ⟨[], true⟩⟩) rfl HO.out.1 HO.out.2 (fun g hg => by cases hg))
      clear h1 ht hs HR hf' cm
      go_wp2
      go_ret
      exact ⟨rfl, HO.out.2.mono (fun j hj => ft_file HX.out hj), _, ⟨mb, p, v, _, D, HP.out, rfl⟩, fun k hk => ft_upd (y := ⟨x.b, .pointer none, .slice none 0 0, ⟨[], true⟩⟩) HX.out rfl (fun g hg => by cases hg) hk⟩
    | none =>
      rw [hx] at hf hl
      have hl' : (look S.fs n.data.toList).isSome = false := by rw [hl]; rfl
      have hf' : (Instr.lookup 75 (.map (some mb)) (.string n) false).run Tryz.prog W = .ok (.pointer none) W := hf
      have hle := ho.len
      by_cases hfull : 16 ≤ S.fs.length
      · have k1 : ((S.fs.length : Int) == 16) = true := by rw [show S.fs.length = 16 by omega]; rfl
        have hE : openE S n.data.toList = 4 := by unfold openE; rw [hnb, if_neg (by decide), hl', if_neg (by decide), if_pos hfull]
        rw [HSame.out 4 hE (by decide), hE]
        clear h hf hl hE hl' hx hnb HSame ho hfull hle
        go_enter Tryz.func46, Tryz.ntmps46
        go_wp2_with fail
        refine (HNM.out _).mono ?_
        rintro e w1 ⟨rfl, rfl⟩
        go_wp2
        go_ret
        exact ⟨rfl, Tch.refl _ _, _, ⟨mb, p, v, fm, D, HH.out, rfl⟩, fun k hk => .inl hk⟩
      · have k1 : ((S.fs.length : Int) == 16) = false := by rw [beq_eq_false_iff_ne]; omega
        have hE : openE S n.data.toList = 0 := by unfold openE; rw [hnb, if_neg (by decide), hl', if_neg (by decide), if_neg hfull]
        have hln0 : look S.fs n.data.toList = none := by rw [hl]; rfl
        have hS : S.openS n.data.toList = ⟨insF S.fs n.data.toList ⟨[], true⟩, S.out, S.wr⟩ := by unfold Sr.openS; rw [hE, if_pos rfl, hl', if_neg (by decide)]
        rw [hE, hS]
        have HADD := hideT (add_any h n hn hx (by omega))
        have HLN := hideT hln0
        clear h hf hl hE hS hl' hx hnb HSame ho hfull hln0
        go_enter Tryz.func46, Tryz.ntmps46
        go_wp2_with fail
        refine (HNM.out _).mono ?_
        rintro e W ⟨rfl, rfl⟩
        go_wp2_with fail
        refine HADD.out.mono ?_
        rintro e w1 ⟨fb, D', rfl, hfb, ht1, h1⟩
        have hu : updF fm n.data.toList ⟨fb, .pointer none, .slice none 0 0, ⟨[], false⟩⟩ n.data.toList = some ⟨fb, .pointer none, .slice none 0 0, ⟨[], false⟩⟩ := by unfold updF; rw [if_pos rfl]
        have HR := hideT (reset_any (h1.fil _ _ hu))
        have H1 := hideT (And.intro h1 (And.intro hu (And.intro ht1 hfb)))
        clear h1 ht1 hfb hu HADD HH hf' hln cm
        go_wp2_with fail
        refine HR.out.mono ?_
        rintro e w2 ⟨rfl, h2, ht2, hs2⟩
        have c2 : w2.cell? ⟨fb, 2, none⟩ = some (.bool false) := by simp [World.cell?, h2.blk, cellsF]
        have f2 : w2.frozen? ⟨fb, 2, none⟩ = false := by simp [World.frozen?, h2.blk]
        have HO := hideT (opened_file (x := ⟨fb, .pointer none, .slice none 0 0, ⟨[], false⟩⟩) h2 ht2)
        have HP := hideT (H1.out.1.changed H1.out.2.1 (y := ⟨fb, .pointer none, .slice none 0 0, ⟨[], true⟩⟩) rfl HO.out.1 HO.out.2 (fun g hg => by cases hg))
        have HF := hideT (show Tch (ft b mb v fm) W (w2.setCell ⟨fb, 2, none⟩ (.bool true)) ∧ I0 (w2.setCell ⟨fb, 2, none⟩ (.bool true)) (ft b mb v (updF fm n.data.toList ⟨fb, .pointer none, .slice none 0 0, ⟨[], true⟩⟩)) b ⟨insF S.fs n.data.toList ⟨[], true⟩, S.out, S.wr⟩ ∧ ∀ k, ft b mb v (updF fm n.data.toList ⟨fb, .pointer none, .slice none 0 0, ⟨[], true⟩⟩) k → ft b mb v fm k ∨ W.heap.size ≤ k from by
          refine ⟨(H1.out.2.2.1.mono (fun j hj => .inr (.inl hj))).trans HO.out.2 (fun j hj => ?_), ?_, fun k hk => ft_add (y := ⟨fb, .pointer none, .slice none 0 0, ⟨[], true⟩⟩) rfl H1.out.2.2.2 (fun g hg => by cases hg) hk⟩
          · rcases hj with h | h
            · exact .inr (by have := H1.out.2.2.2; show W.heap.size ≤ j; rw [h]; exact this)
            · cases h
          · have h3 := HP.out
            rw [upd_upd] at h3
            have e3 : setF (insF S.fs n.data.toList ⟨[], false⟩) n.data.toList ⟨[], true⟩ = insF S.fs n.data.toList ⟨[], true⟩ := set_ins _ _ _ _ HLN.out
            have h4 : SA _ b mb p v (updF fm n.data.toList ⟨fb, .pointer none, .slice none 0 0, ⟨[], true⟩⟩) D' ⟨setF (insF S.fs n.data.toList ⟨[], false⟩) n.data.toList ⟨[], true⟩, S.out, S.wr⟩ := h3
            rw [e3] at h4
            exact ⟨mb, p, v, _, D', h4, rfl⟩)
        clear h2 ht2 hs2 HR H1 HO HP
        go_wp2
        go_ret
        exact ⟨rfl, HF.out.1, _, HF.out.2.1, HF.out.2.2⟩
/-- A list of files, as it lies. -/
def FRow (W : World) (v : Value) (l : List (ByteArray × ByteArray)) : Prop := ∃ a cp, v = .slice a l.length cp ∧ ∀ (k : Nat) (x : ByteArray × ByteArray), l[k]? = some x → ∃ g o, a = some ⟨g, o, none⟩ ∧ W.cell? ⟨g, o + k * 2, none⟩ = some (.string x.1) ∧ W.cell? ⟨g, o + k * 2 + 1, none⟩ = some (.string x.2)
theorem FRow.step {W W' : World} {v : Value} {l : List (ByteArray × ByteArray)} (h : FRow W v l) (hb : Below W.heap.size W W') : FRow W' v l := by
  obtain ⟨a, cp, hv, hc⟩ := h
  refine ⟨a, cp, hv, fun k x hx => ?_⟩
  obtain ⟨g, o, ha, h1, h2⟩ := hc k x hx
  exact ⟨g, o, ha, keep_cell hb h1, keep_cell hb h2⟩
def newGo : List (ByteArray × ByteArray) → Nat → Fs → Nat × Fs
  | [], _, fs => (0, fs)
  | x :: r, g, fs => if nameB x.1.data.toList = false then (3, fs) else if (look fs x.1.data.toList).isSome then (1, fs) else if 32768 < g + x.2.size then (2, fs) else newGo r (g + x.2.size) (insF fs x.1.data.toList ⟨x.2.data.toList, false⟩)
def newR (l : List (ByteArray × ByteArray)) : Nat × Fs := if 16 < l.length then (4, []) else newGo l 0 []
theorem newGo_ok : ∀ (l : List (ByteArray × ByteArray)) (g : Nat) (fs : Fs), fs.length + l.length ≤ 16 → (∀ n f, look fs n = some f → f.data.length ≤ 32768) → (∀ n, n ∈ fs.map (·.1) → n.length ≤ 64) → (newGo l g fs).1 = 0 → SOk ⟨(newGo l g fs).2, [], 0⟩
  | [], g, fs, h1, h2, h3, _ => ⟨Nat.zero_le _, Nat.le_refl _, by show fs.length ≤ 16; simpa using h1, fun n f hf => by have := h2 n f hf; show _ ≤ 32768 + 0; omega, h3⟩
  | x :: r, g, fs, h1, h2, h3, h0 => by
    unfold newGo at h0 ⊢
    split at h0
    · cases h0
    · rename_i hn
      split at h0
      · cases h0
      · rename_i hk
        split at h0
        · cases h0
        · rename_i hb
          rw [if_neg hn, if_neg hk, if_neg hb]
          refine newGo_ok r _ _ (by rw [len_ins]; simp only [List.length_cons] at h1; omega) (fun n f hf => ?_) (fun n hn2 => ?_) h0
          · rw [look_ins _ _ _ _ (by simpa using hk)] at hf
            split at hf
            · cases hf
              show x.2.size ≤ 32768
              omega
            · exact h2 n f hf
          · rcases mem_ins _ _ n fs hn2 with rfl | hn2
            · exact nameB_len (by simpa using hn)
            · exact h3 n hn2
theorem newR_ok {l : List (ByteArray × ByteArray)} (h : (newR l).1 = 0) : SOk ⟨(newR l).2, [], 0⟩ := by
  unfold newR at h ⊢
  split at h
  · cases h
  · rename_i h1
    rw [if_neg h1]
    exact newGo_ok l 0 [] (by simp; omega) (fun n f hf => by cases hf) (fun n hn => by simp at hn) h
/-- What New leaves. -/
def NewPost (W : World) (R : Nat × Fs) (e : Ending) (w' : World) : Prop := Below W.heap.size W w' ∧ ((R.1 ≠ 0 ∧ e = .returned (.tuple #[.pointer none, .int .i64 (R.1 : Nat)])) ∨ (R.1 = 0 ∧ ∃ b F, e = .returned (.tuple #[ptrV b, .int .i64 0]) ∧ I0 w' F b ⟨R.2, [], 0⟩ ∧ ∀ k, F k → W.heap.size ≤ k))
theorem newGo_step {l : List (ByteArray × ByteArray)} {k : Nat} (h : k < l.length) (g : Nat) (fs : Fs) : newGo (l.drop k) g fs = if nameB (l[k]'h).1.data.toList = false then (3, fs) else if (look fs (l[k]'h).1.data.toList).isSome then (1, fs) else if 32768 < g + (l[k]'h).2.size then (2, fs) else newGo (l.drop (k + 1)) (g + (l[k]'h).2.size) (insF fs (l[k]'h).1.data.toList ⟨(l[k]'h).2.data.toList, false⟩) := by
  rw [List.drop_eq_getElem_cons h]
  rfl
/-- The store while it is made. -/
structure Mk (W w : World) (b : Nat) (fs : Fs) : Prop where
  sa : ∃ F, I0 w F b ⟨fs, [], 0⟩ ∧ ∀ k, F k → W.heap.size ≤ k
  bel : Below W.heap.size W w
theorem Mk.step {W w w' : World} {b : Nat} {fs : Fs} (h : Mk W w b fs) (hb : Below w.heap.size w w') : Mk W w' b fs := by
  obtain ⟨⟨F, hI, hF⟩, hB⟩ := h
  exact ⟨⟨F, hI.keep (fun k hk => hb.block k (hI.lt k hk)), hF⟩, hB.trans (hb.mono hB.size)⟩
/-- A new file with what it holds. -/
theorem filled {W w1 w2 : World} {b mb fb : Nat} {p v v' : Value} {fm : List UInt8 → Option Fb} {D' : DataW Unit} {fs : Fs} {n : List UInt8} {t : ByteArray} (hn : look fs n = none) (h1 : SA w1 b mb p v (updF fm n ⟨fb, .pointer none, .slice none 0 0, ⟨[], false⟩⟩) D' ⟨insF fs n ⟨[], false⟩, [], 0⟩) (h2 : BuA w2 fb 0 122 (((cellsF ⟨fb, .pointer none, .slice none 0 0, ⟨[], false⟩⟩).setIfInBounds 0 (.pointer (some ⟨fb, 0, none⟩))).setIfInBounds (0 + 1) v') (.pointer (some ⟨fb, 0, none⟩)) v' ([] ++ t.data.toList)) (ht : Tch (bft fb (.slice none 0 0)) w1 w2) (hg : ∀ g, v'.ownBlock = some g → (Value.slice none 0 0).ownBlock = some g ∨ w1.heap.size ≤ g) (hW : W.heap.size ≤ w1.heap.size) (hF : ∀ k, ft b mb v fm k → W.heap.size ≤ k) (hfb : W.heap.size ≤ fb) :
    ∃ F, I0 w2 F b ⟨insF fs n ⟨t.data.toList, false⟩, [], 0⟩ ∧ ∀ k, F k → W.heap.size ≤ k := by
  have hu : updF fm n ⟨fb, .pointer none, .slice none 0 0, ⟨[], false⟩⟩ n = some ⟨fb, .pointer none, .slice none 0 0, ⟨[], false⟩⟩ := by unfold updF; rw [if_pos rfl]
  have h3 := h1.changed hu (y := ⟨fb, .pointer (some ⟨fb, 0, none⟩), v', ⟨t.data.toList, false⟩⟩) rfl h2 ht hg
  rw [upd_upd] at h3
  have h4 : SA w2 b mb p v (updF fm n ⟨fb, .pointer (some ⟨fb, 0, none⟩), v', ⟨t.data.toList, false⟩⟩) D' ⟨setF (insF fs n ⟨[], false⟩) n ⟨t.data.toList, false⟩, [], 0⟩ := h3
  rw [set_ins _ _ _ _ hn] at h4
  refine ⟨_, ⟨mb, p, v, _, D', h4, rfl⟩, fun k hk => ?_⟩
  rcases ft_add (W := W) (y := ⟨fb, .pointer (some ⟨fb, 0, none⟩), v', ⟨t.data.toList, false⟩⟩) rfl hfb (fun g hg2 => by
    rcases hg g hg2 with h | h
    · cases h
    · omega) hk with h | h
  · exact hF k h
  · exact h
theorem mk_start (W : World) : Mk W ((W.alloc (.map #[] 0)).alloc (.cells #[.map (some W.heap.size), .pointer none, .slice none 0 0, .int .i64 0] 81)) (W.heap.size + 1) [] := by
  have h1 := (World.ownsMap_made W Tryz.prog 9 ptrR).alloc (.cells #[.map (some W.heap.size), .pointer none, .slice none 0 0, .int .i64 0] 81)
  have h2 := heap_alloc_new (W.alloc (.map #[] 0)) (.cells #[.map (some W.heap.size), .pointer none, .slice none 0 0, .int .i64 0] 81)
  rw [World.size_alloc] at h2
  refine ⟨⟨_, ⟨W.heap.size, .pointer none, .slice none 0 0, fun _ => none, .map [], ⟨⟨h2, rfl, rfl, .inl rfl, World.ownsRowF_nil _ _ _ _, fun _ => rfl⟩, h1, fun _ => rfl, fun _ => rfl, rfl, fun _ => rfl, fun _ _ h => (by cases h), fun _ _ _ _ h => (by cases h), fun _ _ h => (by cases h), List.Pairwise.nil⟩, rfl⟩, ?_⟩, ((Below.refl _ W).alloc (Nat.le_refl _) _).alloc (by rw [World.size_alloc]; omega) _⟩
  rintro k (rfl | rfl | h | ⟨_, _, h, _⟩)
  · omega
  · exact Nat.le_refl _
  · cases h
  · cases h
set_option maxRecDepth 100000 in
set_option maxHeartbeats 4000000 in
theorem new_any (W : World) (v : Value) (l : List (ByteArray × ByteArray)) (hv : FRow W v l) (hs : ∀ x ∈ l, x.1.size ≤ 140737488355000 ∧ x.2.size ≤ 140737488355000) : Calls Tryz.prog 45 #[v] W (NewPost W (newR l)) := by
  obtain ⟨a, cp, rfl, hrow⟩ := hv
  by_cases hbig : 16 < l.length
  · have k1 : (16 : Int) < (l.length : Int) := by omega
    have hR : newR l = (4, []) := by unfold newR; rw [if_pos hbig]
    rw [hR]
    clear hbig hrow hR
    go_enter Tryz.func45, Tryz.ntmps45
    go_wp2
    go_ret2
    exact ⟨Below.refl _ _, .inl ⟨by decide, rfl⟩⟩
  · have k1 : ((16 : Int) < (l.length : Int)) = False := by rw [eq_iff_iff, iff_false]; omega
    have k2 : (16 < l.length) = False := by rw [eq_iff_iff, iff_false]; exact hbig
    have hl16 : l.length ≤ 16 := by omega
    have hR : newR l = newGo l 0 [] := by unfold newR; rw [if_neg hbig]
    rw [hR]
    clear hbig hR
    obtain ⟨R, hRR⟩ : ∃ R, R = newGo l 0 [] := ⟨_, rfl⟩
    rw [← hRR]
    have HRR := hideT hRR
    clear hRR
    have HROW := hideT hrow
    have HS := hideT hs
    clear hrow hs
    have hmk : ∀ V : World, (Instr.makeMap 75 none).run Tryz.prog V = .ok (.map (some V.heap.size)) (V.alloc (.map #[] 0)) := fun V => run_makeMap _ V
    go_enter Tryz.func45, Tryz.ntmps45
    go_wp2_with fail
    have HM0 := hideT (mk_start W)
    obtain ⟨b, hb⟩ : ∃ b, b = W.heap.size + 1 := ⟨_, rfl⟩
    rw [← hb] at HM0 ⊢
    obtain ⟨Y, hY⟩ : ∃ Y, Y = ((W.alloc (.map #[] 0)).alloc (.cells #[.map (some W.heap.size), .pointer none, .slice none 0 0, .int .i64 0] 81)) := ⟨_, rfl⟩
    rw [← hY] at HM0 ⊢
    clear hb hY hmk
    go_loopw [5, 16] (fun gv iv wr => ∃ (k g : Nat) (fs : Fs), k ≤ l.length ∧ iv = .int .i64 (k : Nat) ∧ gv = .int .i64 (g : Nat) ∧ g ≤ 32768 ∧ Hid (R = newGo (l.drop k) g fs ∧ fs.length ≤ k ∧ Mk W wr b fs)) (fun _ iv _ => l.length - (intOf iv).toNat)
    case atStart => exact ⟨0, 0, [], Nat.zero_le _, rfl, rfl, Nat.zero_le _, hideT ⟨HRR.out, Nat.le_refl _, HM0.out⟩⟩
    case round =>
      obtain ⟨k, g, fs, hk, rfl, rfl, hg, HI⟩ := hrel
      by_cases hlt : k < l.length
      · have i1 : (k : Int) < (l.length : Int) := by omega
        have i2 : (0 : Int) ≤ (k : Int) := by omega
        have hst := newGo_step hlt g fs
        have hsz := HS.out _ (List.getElem_mem hlt)
        obtain ⟨gb, o, rfl, r1, r2⟩ := HROW.out k _ (List.getElem?_eq_getElem hlt)
        have e1 := keep_cell HI.out.2.2.bel r1
        have e2 := keep_cell HI.out.2.2.bel r2
        generalize (l[k]'hlt) = x at hst hsz e1 e2
        obtain ⟨nm, dt⟩ := x
        dsimp only at hst hsz e1 e2
        have g1 : IntKind.i64.wrap ((g : Int) + (dt.size : Int)) = ((g + dt.size : Nat) : Int) := by rw [IntKind.wrap_i64]; omega
        have HNM := hideT (name_any nm)
        clear r1 r2
        go_wp2_with fail
        refine (HNM.out _).mono ?_
        rintro e w1 ⟨rfl, rfl⟩
        have hX : Below wr.heap.size wr (wr.alloc (.cells #[.string nm, .string dt] 86)) := (Below.refl _ wr).alloc (Nat.le_refl _) _
        have hXn := heap_alloc_new wr (.cells #[.string nm, .string dt] 86)
        have hXs := World.size_alloc wr (.cells #[.string nm, .string dt] 86)
        generalize wr.alloc (.cells #[.string nm, .string dt] 86) = X at *
        have HMX := hideT (HI.out.2.2.step hX)
        have HFX := hideT (show ∃ F, I0 X F b ⟨fs, [], 0⟩ ∧ ∀ j, F j → W.heap.size ≤ j ∧ j ≠ wr.heap.size from by
          obtain ⟨F, hI, hF⟩ := HI.out.2.2.sa
          exact ⟨F, hI.keep (fun j hj => hX.block j (hI.lt j hj)), fun j hj => ⟨hF j hj, by have := hI.lt j hj; omega⟩⟩)
        have HWo := hideT (show W.heap.size ≤ wr.heap.size ∧ wr.heap.size < X.heap.size from ⟨HI.out.2.2.bel.size, by omega⟩)
        have HRE := hideT (HI.out.1.trans hst)
        have HLE := hideT HI.out.2.1
        generalize wr.heap.size = ob at *
        have x0 : X.cell? ⟨ob, 0, none⟩ = some (.string nm) := by simp [World.cell?, hXn]
        have x1 : X.cell? ⟨ob, 1, none⟩ = some (.string dt) := by simp [World.cell?, hXn]
        clear hX hXs hst HI HRR HROW HS e1 e2 HNM
        cases hnb : nameB nm.data.toList with
        | false =>
          have HR := hideT (show R = (3, fs) by rw [HRE.out, hnb, if_pos rfl])
          clear hnb
          go_wp2
          go_ret2
          exact ⟨HMX.out.bel, .inl ⟨by rw [HR.out]; exact (by decide : (3 : Nat) ≠ 0), by rw [HR.out]; rfl⟩⟩
        | true =>
          have HR := hideT (show R = _ from HRE.out.trans (by rw [hnb, if_neg (by decide)]))
          clear hnb HRE
          obtain ⟨F, ⟨mb, p, v, fm, D, hSA, rfl⟩, hF⟩ := HFX.out
          have hf := (hSA.keep (W' := X.drew) (fun _ _ => rfl)).find nm (by omega)
          have hlk := hSA.lk nm.data.toList
          obtain ⟨cm, _⟩ := hSA.cm
          have HSA := hideT (And.intro hSA hF)
          clear hSA hF HFX
          go_wp2_with fail
          cases hx : fm nm.data.toList with
          | some y =>
            rw [hx] at hf hlk
            have hf' : (Instr.lookup 75 (.map (some mb)) (.string nm) false).run Tryz.prog X.drew = .ok (.pointer (some ⟨y.b, 0, none⟩)) X.drew := hf
            have HR1 := hideT (show R = (1, fs) from HR.out.trans (by rw [show look fs nm.data.toList = _ from hlk, if_pos (by rfl)]))
            clear hx hlk hf HR
            refine wp_region_held (S := fun V => V = X.drew) (by kernel_rfl) ?_
            have s0 : X.drew = X.drew := rfl
            refine' take_d 0 (some 31) rfl rfl (by kernel_rfl) (by kernel_rfl) (by kernel_rfl) (fun _ _ _ h => h) (wanted_none rfl _) s0 ?tk1 ?rs1
            case tk1 => intro V hV; subst hV; go_simp; (try with_reducible rfl)
            refine' take_d 1 (some 32) rfl rfl (by kernel_rfl) (by kernel_rfl) (by kernel_rfl) (fun _ _ _ h => h) (wanted_none rfl _) s0 ?tk2 ?rs2
            case tk2 => intro V hV; subst hV; go_simp; (try with_reducible rfl)
            refine' take_d 2 (some 33) rfl rfl (by kernel_rfl) (by kernel_rfl) (by kernel_rfl) (fun _ _ _ h => h) (wanted_none rfl _) s0 ?tk3 ?rs3
            case tk3 => intro V hV; subst hV; go_simp; (try with_reducible rfl)
            refine' take_d 3 (some 34) rfl rfl (by kernel_rfl) (by kernel_rfl) (by kernel_rfl) (fun _ _ _ h => h) (wanted_none rfl _) s0 ?tk4 ?rs4
            case tk4 => intro V hV; subst hV; go_simp; (try with_reducible rfl)
            refine' take_d 4 (some 35) rfl rfl (by kernel_rfl) (by kernel_rfl) (by kernel_rfl) (fun _ _ _ h => h) (wanted_none rfl _) s0 ?tk5 ?rs5
            case tk5 => intro V hV; subst hV; go_simp; (try with_reducible rfl)
            refine' take_d 5 (some 36) rfl rfl (by kernel_rfl) (by kernel_rfl) (by kernel_rfl) (fun _ _ _ h => h) (wanted_none rfl _) s0 ?tk6 ?rs6
            case tk6 => intro V hV; subst hV; go_simp; (try with_reducible rfl)
            refine' take_d 6 (some 37) rfl rfl (by kernel_rfl) (by kernel_rfl) (by kernel_rfl) (fun _ _ _ h => h) (wanted_none rfl _) s0 ?tk7 ?rs7
            case tk7 => intro V hV; subst hV; go_simp; (try with_reducible rfl)
            refine' take_d 7 (some 38) rfl rfl (by kernel_rfl) (by kernel_rfl) (by kernel_rfl) (fun _ _ _ h => h) (wanted_none rfl _) s0 ?tk8 ?rs8
            case tk8 => intro V hV; subst hV; go_simp; (try with_reducible rfl)
            refine' take_d 8 (some 30) rfl rfl (by kernel_rfl) (by kernel_rfl) (by kernel_rfl) (fun _ _ _ h => h) (wanted_none rfl _) s0 ?tk9 ?rs9
            case tk9 => intro V hV; subst hV; go_simp; (try with_reducible rfl)
            simp only [Act.put, List.setIfInBounds_toArray, List.set_cons_zero, List.set_cons_succ]
            refine wpAnyH_done (by kernel_rfl) ?_ _
            go_wp2
            go_ret2
            exact ⟨(HMX.out.step ((Below.refl _ X).drew)).bel, .inl ⟨by rw [HR1.out]; exact (by decide : (1 : Nat) ≠ 0), by rw [HR1.out]; rfl⟩⟩
          | none =>
            rw [hx] at hf hlk
            have hf' : (Instr.lookup 75 (.map (some mb)) (.string nm) false).run Tryz.prog X.drew = .ok (.pointer none) X.drew := hf
            have hlk0 : look fs nm.data.toList = none := hlk
            have HR1 := hideT (show R = _ from HR.out.trans (by rw [hlk0, if_neg (by decide)]))
            have HX := hideT (And.intro hx hlk0)
            clear hx hlk hf HR hlk0
            refine wp_region_held (S := fun V => V = X.drew) (by kernel_rfl) ?_
            have s0 : X.drew = X.drew := rfl
            refine' take_d 0 (some 31) rfl rfl (by kernel_rfl) (by kernel_rfl) (by kernel_rfl) (fun _ _ _ h => h) (wanted_none rfl _) s0 ?tk10 ?rs10
            case tk10 => intro V hV; subst hV; go_simp; (try with_reducible rfl)
            refine' take_d 1 (some 32) rfl rfl (by kernel_rfl) (by kernel_rfl) (by kernel_rfl) (fun _ _ _ h => h) (wanted_none rfl _) s0 ?tk11 ?rs11
            case tk11 => intro V hV; subst hV; go_simp; (try with_reducible rfl)
            refine' take_d 2 (some 33) rfl rfl (by kernel_rfl) (by kernel_rfl) (by kernel_rfl) (fun _ _ _ h => h) (wanted_none rfl _) s0 ?tk12 ?rs12
            case tk12 => intro V hV; subst hV; go_simp; (try with_reducible rfl)
            refine' take_d 3 (some 34) rfl rfl (by kernel_rfl) (by kernel_rfl) (by kernel_rfl) (fun _ _ _ h => h) (wanted_none rfl _) s0 ?tk13 ?rs13
            case tk13 => intro V hV; subst hV; go_simp; (try with_reducible rfl)
            refine' take_d 4 (some 35) rfl rfl (by kernel_rfl) (by kernel_rfl) (by kernel_rfl) (fun _ _ _ h => h) (wanted_none rfl _) s0 ?tk14 ?rs14
            case tk14 => intro V hV; subst hV; go_simp; (try with_reducible rfl)
            refine' take_d 5 (some 36) rfl rfl (by kernel_rfl) (by kernel_rfl) (by kernel_rfl) (fun _ _ _ h => h) (wanted_none rfl _) s0 ?tk15 ?rs15
            case tk15 => intro V hV; subst hV; go_simp; (try with_reducible rfl)
            refine' take_d 6 (some 37) rfl rfl (by kernel_rfl) (by kernel_rfl) (by kernel_rfl) (fun _ _ _ h => h) (wanted_none rfl _) s0 ?tk16 ?rs16
            case tk16 => intro V hV; subst hV; go_simp; (try with_reducible rfl)
            refine' take_d 7 (some 38) rfl rfl (by kernel_rfl) (by kernel_rfl) (by kernel_rfl) (fun _ _ _ h => h) (wanted_none rfl _) s0 ?tk17 ?rs17
            case tk17 => intro V hV; subst hV; go_simp; (try with_reducible rfl)
            refine' take_d 8 (some 30) rfl rfl (by kernel_rfl) (by kernel_rfl) (by kernel_rfl) (fun _ _ _ h => h) (wanted_none rfl _) s0 ?tk18 ?rs18
            case tk18 => intro V hV; subst hV; go_simp; (try with_reducible rfl)
            simp only [Act.put, List.setIfInBounds_toArray, List.set_cons_zero, List.set_cons_succ]
            refine wpAnyH_done (by kernel_rfl) ?_ _
            clear hf' s0
            by_cases hbig : 32768 < g + dt.size
            · have j1 : (32768 : Int) < (g : Int) + (dt.size : Int) := by omega
              have HR2 := hideT (show R = (2, fs) from HR1.out.trans (by rw [if_pos hbig]))
              clear hbig
              go_wp2
              go_ret2
              exact ⟨(HMX.out.step ((Below.refl _ X).drew)).bel, .inl ⟨by rw [HR2.out]; exact (by decide : (2 : Nat) ≠ 0), by rw [HR2.out]; rfl⟩⟩
            · have j1 : ((32768 : Int) < (g : Int) + (dt.size : Int)) = False := by rw [eq_iff_iff, iff_false]; omega
              have HR2 := hideT (show R = _ from HR1.out.trans (by rw [if_neg hbig]))
              have hgd : g + dt.size ≤ 32768 := by omega
              have HXX := hideT (show (X.drew.cell? ⟨ob, 0, none⟩ = some (.string nm) ∧ X.drew.cell? ⟨ob, 1, none⟩ = some (.string dt)) from ⟨x0, x1⟩)
              clear hbig HR1 cm
              go_wp2_with fail
              have HADD := hideT (add_any (HSA.out.1.keep (W' := X.drew.drew) (fun _ _ => rfl)) nm hsz.1 HX.out.1 (by have := HLE.out; show fs.length ≤ 1000; omega))
              have hobm : ob ≠ mb := fun e => (HSA.out.2 mb (.inr (.inl rfl))).2 e.symm
              have s0 : X.drew.drew.cell? ⟨ob, 0, none⟩ = some (.string nm) ∧ X.drew.drew.cell? ⟨ob, 1, none⟩ = some (.string dt) := HXX.out
              refine wp_region_held (S := fun V => V.cell? ⟨ob, 0, none⟩ = some (.string nm) ∧ V.cell? ⟨ob, 1, none⟩ = some (.string dt)) (by kernel_rfl) ?_
              refine' take_d 0 (some 42) rfl rfl (by kernel_rfl) (by kernel_rfl) (by kernel_rfl) (fun _ _ _ h => h) (wanted_none rfl _) s0 ?tk19 ?rs19
              case tk19 => intro V hV; go_simp; (try with_reducible rfl)
              refine' take_d 1 (some 43) rfl rfl (by kernel_rfl) (by kernel_rfl) (by kernel_rfl) (fun _ _ _ h => h) (wanted_none rfl _) s0 ?tk20 ?rs20
              case tk20 => intro V hV; go_simp; (try with_reducible rfl)
              refine' take_d 2 (some 44) rfl rfl (by kernel_rfl) (by kernel_rfl) (by kernel_rfl) (fun _ _ _ h => h) (wanted_none rfl _) s0 ?tk21 ?rs21
              case tk21 => intro V hV; have hc := hV.1; go_simp; (try with_reducible rfl)
              refine' take_d 6 (some 48) rfl rfl (by kernel_rfl) (by kernel_rfl) (by kernel_rfl) (fun _ _ _ h => h) (wanted_none rfl _) s0 ?tk22 ?rs22
              case tk22 => intro V hV; go_simp; (try with_reducible rfl)
              refine' take_d 7 (some 49) rfl rfl (by kernel_rfl) (by kernel_rfl) (by kernel_rfl) (fun _ _ _ h => h) (wanted_none rfl _) s0 ?tk23 ?rs23
              case tk23 => intro V hV; have hc := hV.2; go_simp; (try with_reducible rfl)
              simp only [Act.put, List.setIfInBounds_toArray, List.set_cons_zero, List.set_cons_succ]
              refine wpAnyH_all (rs := [3]) (by kernel_rfl) (by simp) (fun i hi => ?_)
              obtain rfl : i = 3 := List.mem_singleton.1 hi
              clear hi
              refine op_call (some 45) rfl rfl (wanted_none rfl _) (by go_simp; (try with_reducible rfl)) (R := fun u w' => ∃ fb D', u = ptrV fb ∧ X.drew.drew.heap.size ≤ fb ∧ Tch (fun k => k = mb) X.drew.drew w' ∧ SA w' b mb p v (updF fm nm.data.toList ⟨fb, .pointer none, .slice none 0 0, ⟨[], false⟩⟩) D' ⟨insF fs nm.data.toList ⟨[], false⟩, [], 0⟩) (HADD.out.mono (fun e w' h => by obtain ⟨fb, D', rfl, h1, h2, h3⟩ := h; exact ⟨_, rfl, fb, D', rfl, h1, h2, h3⟩)) ?_
              rintro u w2 ⟨fb, D', rfl, hfb, ht2, h2⟩
              have hfb' : X.heap.size ≤ fb := hfb
              have hob2 : w2.heap[ob]? = X.heap[ob]? := ht2.block ob HWo.out.2 hobm
              have s2 : w2.cell? ⟨ob, 0, none⟩ = some (.string nm) ∧ w2.cell? ⟨ob, 1, none⟩ = some (.string dt) := ⟨(World.cell?_of_block (a := ⟨ob, 0, none⟩) hob2).trans x0, (World.cell?_of_block (a := ⟨ob, 1, none⟩) hob2).trans x1⟩
              have hu : updF fm nm.data.toList ⟨fb, .pointer none, .slice none 0 0, ⟨[], false⟩⟩ nm.data.toList = some ⟨fb, .pointer none, .slice none 0 0, ⟨[], false⟩⟩ := by unfold updF; rw [if_pos rfl]
              have HWR := hideT (write_any (h2.fil _ _ hu) (by decide) lyF dt (by show 0 + dt.size ≤ _; omega))
              have H2 := hideT (And.intro h2 (And.intro ht2 hfb'))
              clear hfb ht2 h2 hu HADD s0
              refine And.intro s2 ?_
              simp only [Act.put, List.setIfInBounds_toArray, List.set_cons_zero, List.set_cons_succ]
              refine' take_d 4 (some 46) rfl rfl (by kernel_rfl) (by kernel_rfl) (by kernel_rfl) (fun _ _ _ h => h) (wanted_none rfl _) s2 ?tk24 ?rs24
              case tk24 => intro V hV; go_simp; (try with_reducible rfl)
              refine' take_d 5 (some 47) rfl rfl (by kernel_rfl) (by kernel_rfl) (by kernel_rfl) (fun _ _ _ h => h) (wanted_none rfl _) s2 ?tk25 ?rs25
              case tk25 => intro V hV; go_simp; (try with_reducible rfl)
              simp only [Act.put, List.setIfInBounds_toArray, List.set_cons_zero, List.set_cons_succ]
              refine wpAnyH_all (rs := [8]) (by kernel_rfl) (by simp) (fun i hi => ?_)
              obtain rfl : i = 8 := List.mem_singleton.1 hi
              clear hi
              refine op_call (some 50) rfl rfl (wanted_none rfl _) (by go_simp; (try with_reducible rfl)) (R := fun u w' => u = .tuple #[.int .i64 dt.size, .nilIface] ∧ ∃ v', BuA w' fb 0 122 (((cellsF ⟨fb, .pointer none, .slice none 0 0, ⟨[], false⟩⟩).setIfInBounds 0 (.pointer (some ⟨fb, 0, none⟩))).setIfInBounds (0 + 1) v') (.pointer (some ⟨fb, 0, none⟩)) v' ([] ++ dt.data.toList) ∧ Tch (bft fb (.slice none 0 0)) w2 w' ∧ ∀ g, v'.ownBlock = some g → (Value.slice none 0 0).ownBlock = some g ∨ w2.heap.size ≤ g) (HWR.out.mono (fun e w' h => ⟨_, h.1, rfl, h.2⟩)) ?_
              rintro u w3 ⟨rfl, v', h3, ht3, hg3⟩
              have hsw : X.heap.size ≤ w2.heap.size := H2.out.2.1.size
              have hob3 : w3.heap[ob]? = w2.heap[ob]? := ht3.block ob (by have := HWo.out.2; omega) (fun e => by
                rcases e with e | e
                · have := HWo.out.2
                  omega
                · cases e)
              have s3 : w3.cell? ⟨ob, 0, none⟩ = some (.string nm) ∧ w3.cell? ⟨ob, 1, none⟩ = some (.string dt) := ⟨(World.cell?_of_block (a := ⟨ob, 0, none⟩) hob3).trans s2.1, (World.cell?_of_block (a := ⟨ob, 1, none⟩) hob3).trans s2.2⟩
              refine And.intro s3 ?_
              simp only [Act.put, List.setIfInBounds_toArray, List.set_cons_zero, List.set_cons_succ]
              refine wpAnyH_done (by kernel_rfl) ?_ _
              have HFN := hideT (show Mk W w3 b (insF fs nm.data.toList ⟨dt.data.toList, false⟩) from by
                have hWX := HMX.out.bel.size
                refine ⟨filled HX.out.2 H2.out.1 h3 ht3 hg3 (by omega) (fun k hk => (HSA.out.2 k hk).1) (by have := H2.out.2.2; omega), ?_⟩
                have t1 : Below W.heap.size W w2 := (HMX.out.bel.drew.drew).trans (H2.out.2.1.below (fun k hk => by rw [hk]; exact (HSA.out.2 mb (.inr (.inl rfl))).1) (show W.heap.size ≤ X.heap.size from hWX))
                exact t1.trans (ht3.below (fun k hk => by
                  rcases hk with hk | hk
                  · have := H2.out.2.2
                    omega
                  · cases hk) t1.size))
              have HLL := hideT (show (insF fs nm.data.toList ⟨dt.data.toList, false⟩).length ≤ k + 1 by rw [len_ins]; have := HLE.out; omega)
              clear h3 ht3 hg3 hsw hob3 s3 s2 hob2 H2 HWR HSA HMX HX HXX x0 x1 hobm hXn HLE hfb'
              go_wp2
              exact ⟨⟨k + 1, g + dt.size, _, by omega, by go_num, by go_num, hgd, hideT ⟨HR2.out, HLL.out, HFN.out⟩⟩, by simp [intOf]; omega⟩
      · obtain rfl : k = l.length := by omega
        have i1 : ((l.length : Int) < (l.length : Int)) = False := by rw [eq_iff_iff, iff_false]; omega
        have HR := hideT (show R = (0, fs) by
          have := HI.out.1
          rw [List.drop_of_length_le (Nat.le_refl _)] at this
          exact this)
        have HM := hideT HI.out.2.2
        clear HI
        go_wp2
        go_ret2
        obtain ⟨F, hI, hF⟩ := HM.out.sa
        exact ⟨HM.out.bel, .inr ⟨by rw [HR.out], b, F, rfl, by rw [HR.out]; exact hI, hF⟩⟩
end sto
end Go.Proofs.YtcpokkpjeeblnaaGreatDoor
