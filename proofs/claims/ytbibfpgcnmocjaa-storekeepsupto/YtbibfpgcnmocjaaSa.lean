/- store: what is of any world; a strings.Builder within another block. -/
import Derived.Test.YtbibfpgcnmocjaaRows
import Derived.WalkKit
import Derived.WalkSpells
import Derived.WalkLawsBesides
import Derived.BigQuiet
import Derived.Deep.Cut
import Derived.Laws.StructEq
import Derived.Lib.Strings
import Derived.OwnWalk
import Derived.Deep.RegionWith
import Derived.Deep.QuietTactic
import Derived.Deep.AppendLies
import Derived.Lib.FrozenHead
import Derived.Lib.UnsafeStr
import Derived.Lib.Builder
import Derived.Laws.Externs
namespace Go.Proofs.Ytbibfpgcnmocjaa
open Go.RowKit

theorem hideT {p : Prop} (h : p) : Hid p := h
theorem below_drewN (B : Nat) (W : World) (n : Nat) : Below B W (W.drewN n) := { os := rfl, tape := rfl, output := rfl, size := Nat.le_refl _, block := fun _ _ => rfl }
theorem keep_cell {W w1 : World} {a : Addr} {v : Value} (hb : Below W.heap.size W w1) (h : W.cell? a = some v) : w1.cell? a = some v := (World.cell?_of_block (hb.block _ (World.block_lt_of_cell? W a h))).trans h
theorem put_far (W : World) (b k : Nat) (u : Value) {j : Nat} (h : j ≠ b) : (W.setCell ⟨b, k, none⟩ u).heap[j]? = W.heap[j]? := Below.heap_setCell W ⟨b, k, none⟩ u j h
theorem put_size (W : World) (b k : Nat) (u : Value) : (W.setCell ⟨b, k, none⟩ u).heap.size = W.heap.size := by simp [World.setCell]
theorem put_same (W : World) (b k : Nat) (u : Value) {cs : Array Value} {e : TypeId} {fr : Nat × Nat} (h : W.heap[b]? = some (.cells cs e fr)) : (W.setCell ⟨b, k, none⟩ u).heap[b]? = some (.cells (cs.setIfInBounds k u) e fr) := by
  obtain ⟨hlt, hk2⟩ := Array.getElem?_eq_some_iff.1 h
  show (W.heap.modify b _)[b]? = _
  rw [Array.getElem?_eq_getElem (by rw [Array.size_modify]; exact hlt), Array.getElem_modify_self, hk2]
  simp only [Option.isSome_none, Bool.false_eq_true, if_false]
theorem below_put {B : Nat} {W W' : World} (h : Below B W W') {b : Nat} (hb : B ≤ b) (k : Nat) (u : Value) : Below B W (W'.setCell ⟨b, k, none⟩ u) :=
  ⟨h.os, h.tape, h.output, by rw [put_size]; exact h.size, fun j hj => by rw [put_far _ _ _ _ (by omega)]; exact h.block j hj⟩
theorem below_grown {B : Nat} {W W' : World} {r : Option Nat} (h : W.grownBy W' r) (hr : ∀ g, r = some g → B ≤ g) (hB : B ≤ W.heap.size) : Below B W W' :=
  ⟨h.os, h.tape, h.output, h.size, fun j hj => h.block j (by omega) (fun e => by have := hr j e.symm; omega)⟩
theorem owns_keep {W W' : World} {B e size n : Nat} {v : Value} {xs : List Value} (h : W.ownsRow B e size v n xs) (hk : ∀ g, v.ownBlock = some g → W'.heap[g]? = W.heap[g]?) : W'.ownsRow B e size v n xs := by
  obtain ⟨hl, h2⟩ := h
  refine ⟨hl, ?_⟩
  rcases h2 with h2 | ⟨g, cap, cur, rfl, hb, hh, r⟩
  · exact .inl h2
  · exact .inr ⟨g, cap, cur, rfl, hb, (hk g rfl).trans hh, r⟩
/-- Only blocks of F, and new ones, were written. -/
structure Tch (F : Nat → Prop) (W W' : World) : Prop where
  os : W'.os = W.os
  tape : W'.tape = W.tape
  output : W'.output = W.output
  size : W.heap.size ≤ W'.heap.size
  block : ∀ k, k < W.heap.size → ¬ F k → W'.heap[k]? = W.heap[k]?
theorem Tch.refl (F : Nat → Prop) (W : World) : Tch F W W := ⟨rfl, rfl, rfl, Nat.le_refl _, fun _ _ _ => rfl⟩
theorem Tch.of {F : Nat → Prop} {W W' : World} (h : Below W.heap.size W W') : Tch F W W' := ⟨h.os, h.tape, h.output, h.size, fun k hk _ => h.block k hk⟩
theorem Tch.trans {F G : Nat → Prop} {W W1 W2 : World} (h : Tch F W W1) (k : Tch G W1 W2) (hs : ∀ j, G j → F j ∨ W.heap.size ≤ j) : Tch F W W2 :=
  ⟨k.os.trans h.os, k.tape.trans h.tape, k.output.trans h.output, Nat.le_trans h.size k.size, fun j hj hn => (k.block j (Nat.lt_of_lt_of_le hj h.size) (fun hg => (hs j hg).elim hn (fun e => absurd hj (Nat.not_lt.2 e)))).trans (h.block j hj hn)⟩
theorem Tch.mono {F G : Nat → Prop} {W W' : World} (h : Tch F W W') (hs : ∀ j, F j → G j) : Tch G W W' := ⟨h.os, h.tape, h.output, h.size, fun k hk hn => h.block k hk (fun hf => hn (hs k hf))⟩
theorem Tch.put {F : Nat → Prop} {W W' : World} (h : Tch F W W') {b : Nat} (hb : F b) (k : Nat) (u : Value) : Tch F W (W'.setCell ⟨b, k, none⟩ u) :=
  ⟨h.os, h.tape, h.output, by rw [put_size]; exact h.size, fun j hj hn => (put_far W' b k u (j := j) (fun e => hn (by rw [e]; exact hb))).trans (h.block j hj hn)⟩
theorem Tch.grown {F : Nat → Prop} {W W' : World} {r : Option Nat} (h : W.grownBy W' r) (hr : ∀ g, r = some g → F g) : Tch F W W' := ⟨h.os, h.tape, h.output, h.size, fun k hk hn => h.block k hk (fun e => hn (hr k e.symm))⟩
theorem Tch.below {F : Nat → Prop} {B : Nat} {W W' : World} (h : Tch F W W') (hF : ∀ k, F k → B ≤ k) (hB : B ≤ W.heap.size) : Below B W W' := ⟨h.os, h.tape, h.output, h.size, fun k hk => h.block k (Nat.lt_of_lt_of_le hk hB) (fun hf => absurd hk (Nat.not_lt.2 (hF k hf)))⟩
theorem below_of_tch {F : Nat → Prop} {W0 W W' : World} (hb : Below W0.heap.size W0 W) (h : Tch F W W') (hF : ∀ k, F k → W0.heap.size ≤ k) : Below W0.heap.size W0 W' := hb.trans (h.below hF hb.size)
theorem ownF_keep {W W' : World} {B e size n : Nat} {v : Value} {xs : List Value} (h : W.ownsRowF B e size v n xs) (hk : ∀ g, v.ownBlock = some g → W'.heap[g]? = W.heap[g]?) : W'.ownsRowF B e size v n xs := by
  obtain ⟨hl, h2⟩ := h
  refine ⟨hl, ?_⟩
  rcases h2 with h2 | ⟨g, cap, cur, fz, rfl, hb, hh, r⟩
  · exact .inl h2
  · exact .inr ⟨g, cap, cur, fz, rfl, hb, (hk g rfl).trans hh, r⟩
theorem ownF_ne {W : World} {B e size n b : Nat} {v : Value} {xs : List Value} {cs : Array Value} {T : TypeId} {fr : Nat × Nat} (h : W.ownsRowF B e size v n xs) (hb : W.heap[b]? = some (.cells cs T fr)) (hT : T ≠ e) {g : Nat} (hg : v.ownBlock = some g) : g ≠ b := by
  rcases h.2 with ⟨rfl, _⟩ | ⟨g', cap, cur, fz, rfl, _, hh, _⟩
  · cases hg
  · cases hg
    intro (e : g' = b)
    rw [← e, hh] at hb
    injection hb with hb
    injection hb with _ hb _
    exact hT hb.symm
theorem infoByte : (Try.prog.info? 5).map (fun i => (i.zero, i.size, i.bytes)) = some (some (.int .u8 0), 1, 1) := by kernel_rfl
theorem strCells_bytes (s : ByteArray) : Lib.strCells s = Lib.byteCells s.data.toList := rfl
theorem byteCells_app (a b : List UInt8) : Lib.byteCells (a ++ b) = Lib.byteCells a ++ Lib.byteCells b := by simp [Lib.byteCells]
/-- append of a string onto a row of one's own, whose head may be frozen: where the new one lies. -/
theorem append_str {w : World} (v : Value) (l : List UInt8) (hown : w.ownsRowF 0 5 1 v l.length (Lib.byteCells l)) (hnil : l = [] → v = .slice none 0 0) (s : ByteArray) (hb : l.length + s.size ≤ 140737488355328) (ty : TypeId) :
    ∃ ao n cap w', (Builtin.append_ #[62, 9] ty #[v, .string s]).run Try.prog w = .ok (.slice ao n cap) w' ∧ w'.ownsRowF 0 5 1 (.slice ao n cap) (l ++ s.data.toList).length (Lib.byteCells (l ++ s.data.toList)) ∧ (l ++ s.data.toList = [] → Value.slice ao n cap = .slice none 0 0) ∧ w.grownBy w' v.ownBlock ∧ ∀ g, (Value.slice ao n cap).ownBlock = some g → v.ownBlock = some g ∨ w.heap.size ≤ g := by
  obtain ⟨i0, hi, hz0, hz1, hz2⟩ := info_parts infoByte
  have hls : (l ++ s.data.toList).length = l.length + s.size := by rw [List.length_append]; rfl
  have hm : l.length + s.size ≤ maxLen := by unfold maxLen; omega
  rw [byteCells_app, hls]
  have fin : ∀ v' w', (Builtin.append_ #[62, 9] ty #[v, .string s]).run Try.prog w = .ok v' w' → w'.ownsRowF 0 5 1 v' (l.length + s.size) (Lib.byteCells l ++ Lib.byteCells s.data.toList) → w.grownBy w' v.ownBlock → (l ++ s.data.toList = [] → v' = .slice none 0 0) → (∀ g, v'.ownBlock = some g → v.ownBlock = some g ∨ w.heap.size ≤ g) → ∃ ao n cap w', (Builtin.append_ #[62, 9] ty #[v, .string s]).run Try.prog w = .ok (.slice ao n cap) w' ∧ w'.ownsRowF 0 5 1 (.slice ao n cap) (l.length + s.size) (Lib.byteCells l ++ Lib.byteCells s.data.toList) ∧ (l ++ s.data.toList = [] → Value.slice ao n cap = .slice none 0 0) ∧ w.grownBy w' v.ownBlock ∧ ∀ g, (Value.slice ao n cap).ownBlock = some g → v.ownBlock = some g ∨ w.heap.size ≤ g := by
    intro v' w' h1 h2 h3 h4 h5
    rcases h2.2 with ⟨rfl, _⟩ | ⟨g, cap, cur, fz, rfl, _⟩
    · exact ⟨_, _, _, w', h1, h2, h4, h3, h5⟩
    · exact ⟨_, _, _, w', h1, h2, h4, h3, h5⟩
  rcases hown.2 with ⟨rfl, h0⟩ | ⟨g, cap, cur, fz, rfl, hbg, hg, hfz, hnc, hcm, hcs, htake⟩
  · have hl0 : l = [] := List.eq_nil_of_length_eq_zero h0
    subst hl0
    obtain ⟨v', w', h1, h2, h3, h4⟩ := Lib.run_append_own_string (P := Try.prog) w w.heap.size 62 9 ty 5 i0 Try.underlying62 Try.underlying9 hi hz0 hz1 hz2 (.slice none 0 0) 0 [] (World.ownsRow_nil w _ _ _) s (by simpa using hm) (by simpa using hb) (Nat.le_refl _)
    have h2' := World.ownsRowF_of h2
    refine fin v' w' h1 ⟨h2'.1, ?_⟩ h3 (fun e => h4.2 ⟨rfl, by have := congrArg List.length e; simpa using this⟩) (fun g hg => .inr (h2.lt g hg).1)
    rcases h2'.2 with h | ⟨g, cap, cur, fz, hv, _, r⟩
    · exact .inl (by simpa using h)
    · exact .inr ⟨g, cap, cur, fz, by simpa using hv, Nat.zero_le _, by simpa [strCells_bytes, show Lib.byteCells [] = [] from rfl] using r⟩
  · have hcs' : cur.size = cap := by simpa using hcs
    have hfz' : fz.2 ≤ l.length := by simpa using hfz
    have htk : cur.toList.take l.length = Lib.byteCells l := by simpa using htake
    have hll : (Lib.byteCells l).length = l.length := Lib.byteCells_length l
    have hne : l ++ s.data.toList = [] → False := fun e => by
      have e1 : l = [] := (List.append_eq_nil_iff.1 e).1
      cases hnil e1
    have hlen : (Lib.byteCells l ++ Lib.byteCells s.data.toList).length = (l.length + s.size) * 1 := by rw [List.length_append, hll, Lib.byteCells_length, Nat.mul_one]; rfl
    by_cases hroom : l.length + s.size ≤ cap
    · have hr := Lib.run_append_room_stringF (P := Try.prog) w 62 9 ty 5 i0 Try.underlying62 Try.underlying9 hi hz1 g l.length cap cur fz hg hfz' s hroom (by omega)
      refine fin _ _ hr ⟨hlen, .inr ⟨g, cap, _, fz, rfl, hbg, setRow_heap w g cur _ 5 _ hg, by omega, hroom, hcm, ?_, ?_⟩⟩ ⟨rfl, rfl, rfl, by simp, fun k _ hk => setRow_other w g k _ (fun e => hk (by simp [Value.ownBlock, e]))⟩ (fun e => (hne e).elim) (fun g' hg' => .inl hg')
      · simp only [List.size_toArray, List.length_append, List.length_take, List.length_drop, Array.length_toList, Lib.strCells_length]
        omega
      · rw [htk, ← hlen, strCells_bytes]
        exact List.take_left
    · have holds : ∀ j u, (Lib.byteCells l)[j]? = some u → w.cell? ((⟨g, 0, none⟩ : Addr).add j) = some u := hown.cells (g := g) rfl
      have hr := Lib.run_append_grow_string (P := Try.prog) w 62 9 ty 5 i0 (.int .u8 0) Try.underlying62 Try.underlying9 hi hz0 ⟨g, 0, none⟩ l.length cap (Lib.byteCells l) (by rw [hz1, hll, Nat.mul_one]) holds s (by omega) (by omega) (by rw [hz2]; exact growslice_fits (by omega) (by omega))
      have hge := grownCap_ge w (l.length + s.size) cap 5
      have hcm2 : grownCap w (l.length + s.size) cap 5 ≤ maxLen := grownCap_le_maxLen w (l.length + s.size) cap 5 hm
      refine fin _ _ hr ⟨hlen, .inr ⟨w.heap.size, _, _, (0, 0), rfl, Nat.zero_le _, heap_alloc_new w.drew _, Nat.zero_le _, hge, hcm2, ?_, ?_⟩⟩ ⟨rfl, rfl, rfl, by simp, fun k hk _ => Below.heap_alloc w.drew _ k hk⟩ (fun e => (hne e).elim) (fun g' hg' => by cases hg'; exact .inr (Nat.le_refl _))
      · have hz1 : (Value.int IntKind.u8 0).cells.size = 1 := rfl
        simp only [Array.size_append, List.size_toArray, size_zeroCells, hz1, hll, Lib.strCells_length]
        omega
      · simp only [Array.toList_append, List.append_assoc]
        rw [← List.append_assoc, ← hlen, strCells_bytes]
        exact List.take_left

/-- A builder within a block: its cells are k and k + 1. -/
structure BuA (W : World) (b k : Nat) (T : TypeId) (cs : Array Value) (p v : Value) (l : List UInt8) : Prop where
  blk : W.heap[b]? = some (.cells cs T (0, 0))
  i0 : cs[k]? = some p
  i1 : cs[k + 1]? = some v
  hp : p = .pointer none ∨ p = .pointer (some ⟨b, k, none⟩)
  own : W.ownsRowF 0 5 1 v l.length (Lib.byteCells l)
  nil : l = [] → v = .slice none 0 0
abbrev Ly (T : TypeId) (n k : Nat) : Prop := liesAt Try.prog Try.prog.depth T (n / Try.prog.cellsOf T) k 64 1 = true
theorem BuA.blt {W : World} {b k : Nat} {T : TypeId} {cs : Array Value} {p v : Value} {l : List UInt8} (h : BuA W b k T cs p v l) : b < W.heap.size := (Array.getElem?_eq_some_iff.1 h.blk).1
theorem BuA.c0 {W : World} {b k : Nat} {T : TypeId} {cs : Array Value} {p v : Value} {l : List UInt8} (h : BuA W b k T cs p v l) : W.cell? ⟨b, k, none⟩ = some p ∧ W.frozen? ⟨b, k, none⟩ = false := by simp [World.cell?, World.frozen?, h.blk, h.i0]
theorem BuA.c1 {W : World} {b k : Nat} {T : TypeId} {cs : Array Value} {p v : Value} {l : List UInt8} (h : BuA W b k T cs p v l) : W.cell? ⟨b, k + 1, none⟩ = some v ∧ W.frozen? ⟨b, k + 1, none⟩ = false := by simp [World.cell?, World.frozen?, h.blk, h.i1]
theorem builder_size : (Try.prog.info? 64).map (·.size) = some 2 := by kernel_rfl

set_option maxHeartbeats 1000000 in
set_option maxRecDepth 100000 in
theorem check_used (b k : Nat) (w : World) (h0 : w.cell? ⟨b, k, none⟩ = some (.pointer (some ⟨b, k, none⟩))) :
    Calls Try.prog 41 #[.pointer (some ⟨b, k, none⟩)] w fun e w' => e = .returned (.tuple #[]) ∧ w' = w := by
  obtain ⟨j, hj, _⟩ := Option.map_eq_some_iff.1 builder_size
  go_enter Try.func41, Try.ntmps41
  go_wp2
  rw [Lib.run_neq_ptr_same w _ Try.underlying61 hj]
  go_wp2
  go_end0
  exact ⟨rfl, rfl⟩

set_option maxHeartbeats 1000000 in
set_option maxRecDepth 100000 in
theorem check_fresh (b k : Nat) (T : TypeId) (n : Nat) (w : World) (h0 : w.cell? ⟨b, k, none⟩ = some (.pointer none)) (hsh : w.shape? b = some (T, n)) (hk : k < n) (hly : Ly T n k) (hfz : w.frozen? ⟨b, k, none⟩ = false) :
    Calls Try.prog 41 #[.pointer (some ⟨b, k, none⟩)] w fun e w' => e = .returned (.tuple #[]) ∧ w' = w.setCell ⟨b, k, none⟩ (.pointer (some ⟨b, k, none⟩)) := by
  obtain ⟨j, hj, hjs⟩ := Option.map_eq_some_iff.1 builder_size
  go_enter Try.func41, Try.ntmps41
  go_wp2
  rw [Lib.run_to_unsafe w ⟨b, k, none⟩ Try.underlying61 Try.underlying86 hj (by rw [hjs]; decide) hsh hk]
  simp only [Result.andThen]
  rw [Oper.upon_value]
  go_wp2
  rw [run_callFunc_extern Try.func45 (by kernel_rfl) (by kernel_rfl) (by kernel_rfl) (e := Extern.AbiNoEscape.same) (by kernel_rfl)]
  rw [Lib.run_noEscape]
  simp only [Result.andThen]
  rw [Oper.upon_value]
  go_wp2
  rw [Lib.run_from_unsafe w ⟨b, k, none⟩ Try.underlying86 Try.underlying61 hj hsh hly]
  simp only [Result.andThen]
  rw [Oper.upon_value]
  go_wp2
  go_end0
  exact ⟨rfl, rfl⟩
end Go.Proofs.Ytbibfpgcnmocjaa
