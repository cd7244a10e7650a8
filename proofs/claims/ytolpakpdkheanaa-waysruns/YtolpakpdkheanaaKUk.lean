/- append of a string onto a row of bytes of one's own. -/
import Derived.Laws.AppendOwn
import Derived.Deep.AppendLies
import Derived.Test.YtolpakpdkheanaaRows
import Derived.WalkKit
import Derived.WalkSpells
import Derived.WalkLawsBesides
import Derived.BigQuiet
import Derived.Deep.Cut
import Derived.Laws.StructEq
import Derived.Lib.Strings
import Derived.OwnWalk
import Derived.Lib.Builder
import Derived.Laws.OwnMore
import Derived.Deep.RegionWith
import Derived.Deep.RegionLaw
import Derived.OrdersHeld
import Derived.Deep.RegionHeld3
import Derived.Deep.MidRow
import Derived.Lib.ConvBytes
import Derived.Lib.AppendStr
import Derived.Lib.UnsafeStr
import Derived.Laws.Externs
import Derived.Shelf.Strings.Builder1
namespace Go.Proofs.Ytolpakpdkheanaa
end Go.Proofs.Ytolpakpdkheanaa
namespace Go.Proofs.Ytolpakpdkheanaa
open Go.RowKit
theorem below_drewN (B : Nat) (W : World) (n : Nat) : Below B W (W.drewN n) := { os := rfl, tape := rfl, output := rfl, size := Nat.le_refl _, block := fun _ _ => rfl }
theorem hideT {p : Prop} (h : p) : Hid p := h
theorem cell_lt {W : World} {g o : Nat} {v : Value} (h : W.cell? ⟨g, o, none⟩ = some v) : g < W.heap.size := by
 rcases Nat.lt_or_ge g W.heap.size with h' | h'
 ·exact h'
 ·simp [World.cell?, Array.getElem?_eq_none h'] at h
def bst (l : List UInt8) : ByteArray := ⟨l.toArray⟩
theorem xbt (l : List UInt8) : (bst l).size = l.length := by simp [bst, ByteArray.size]
theorem xbu (l : List UInt8) : (bst l).data.toList = l := by simp [bst]
theorem owns_blk {W : World} {B e size n : Nat} {v : Value} {xs : List Value} (h : W.ownsRow B e size v n xs) {g : Nat} (hg : v.ownBlock = some g) : B ≤ g ∧ g < W.heap.size ∧ ∃ cur, W.heap[g]? = some (.cells cur e (0, 0)) := by
 rcases h.2 with ⟨rfl, _⟩ | ⟨g', cap', cur, rfl, hb, hh, _⟩
 ·cases hg
 ·cases hg
  exact ⟨hb, (Array.getElem?_eq_some_iff.1 hh).1, cur, hh⟩
theorem owns_keep {W W' : World} {B e size n : Nat} {v : Value} {xs : List Value} (h : W.ownsRow B e size v n xs) (hk : ∀ g, v.ownBlock = some g → W'.heap[g]? = W.heap[g]?) : W'.ownsRow B e size v n xs := by
 obtain ⟨hl, h⟩ := h
 refine ⟨hl, ?_⟩
 rcases h with h | ⟨g, cap, cur, hv, hg, hh, rest⟩
 ·exact .inl h
 ·exact .inr ⟨g, cap, cur, hv, hg, (hk g (by rw [hv]; rfl)).trans hh, rest⟩
theorem owns_below {w w' : World} {base : Nat} {e : TypeId} {size : Nat} {v : Value} {n : Nat} {xs : List Value} (h : w.ownsRow base e size v n xs) (hb : Below w.heap.size w w') : w'.ownsRow base e size v n xs :=
 owns_keep h fun g hg => hb.block g (owns_blk h hg).2.1
theorem owns_shape {W : World} {B e size n : Nat} {v : Value} {xs : List Value} (h : W.ownsRow B e size v n xs) : ∃ a c, v = .slice a n c := by
 rcases h.2 with ⟨rfl, rfl⟩ | ⟨g, cap, cur, rfl, _⟩
 ·exact ⟨_, _, rfl⟩
 ·exact ⟨_, _, rfl⟩
theorem put_far (W : World) (b k : Nat) (u : Value) {j : Nat} (h : j ≠ b) : (W.setCell ⟨b, k, none⟩ u).heap[j]? = W.heap[j]? := Below.heap_setCell W ⟨b, k, none⟩ u j h
theorem info5 : (Try.prog.info? 5).map (fun i => (i.zero, i.size, i.bytes)) = some (some (.int .u8 0), 1, 1) := by kernel_rfl
theorem undB : Try.prog.underlying 157 = some (.slice 5) := by kernel_rfl
theorem cells_app (l m : List UInt8) : Lib.byteCells (l ++ m) = Lib.byteCells l ++ Lib.byteCells m := by simp [Lib.byteCells]
theorem new_cells (W : World) (cs : List Value) (t : TypeId) (j : Nat) (u : Value) (h : cs[j]? = some u) : (W.alloc (.cells cs.toArray t)).cell? ((⟨W.heap.size, 0, none⟩ : Addr).add j) = some u := by
 have hplain : (⟨W.heap.size, 0, none⟩ : Addr).add j = ⟨W.heap.size, 0 + j, none⟩ := by unfold Addr.add; split <;> simp_all
 rw [hplain, World.cell?, heap_alloc_new W (.cells cs.toArray t)]
 simpa using h
theorem op_value {P : Program} {ops : Array Oper} {Q : Exit → Act → World → Prop} {i : Nat} {o : Oper} {K : Act → World → Prop} {a : Act} {w w' : World} {v : Value} (d : Option Tmp) (hi : ops[i]? = some o) (hd : o.dst = d) (hw : Region.wanted o (yielded ops a.tmps) = true) (hx : (execOp a.eval o).run P w = .ok (.value v) w') (h : K (a.put d v) w') : wpOp P ops Q i K a w := by
 subst hd
 unfold wpOp
 rw [hi]
 dsimp only
 rw [if_pos hw]
 refine .inl ?_
 unfold Oper.wp
 rw [hx]
 exact h
theorem op_skip {P : Program} {ops : Array Oper} {Q : Exit → Act → World → Prop} {i : Nat} {o : Oper} {K : Act → World → Prop} {a : Act} {w w' : World} (hi : ops[i]? = some o) (hd : o.dst = none) (hw : Region.wanted o (yielded ops a.tmps) = true) (hx : (execOp a.eval o).run P w = .ok .skip w') (h : K (a.put none undef) w') : wpOp P ops Q i K a w := by
 rw [← hd] at h
 unfold wpOp
 rw [hi]
 dsimp only
 rw [if_pos hw]
 refine .inl ?_
 unfold Oper.wp
 rw [hx]
 exact h
theorem take_d {P : Program} {ops : Array Oper} {Q : Exit → Act → World → Prop} {S : World → Prop} {md : Region.Mode} (i : Nat) (d : Option Tmp) {oi : Oper} {v : Value} {fuel : Nat} {listed : Array Bool} {a : Act} {w : World} (hi : ops[i]? = some oi) (hd : oi.dst = d)
  (hs : Region.noSelect ops = true) (hf : Region.free md ops listed i = true) (hr : (Region.ready md ops listed).contains i = true)
  (hQ : ∀ c a w, Q (.panic c) (a.put d v) w → Q (.panic c) a w) (hw : Region.wanted oi (yielded ops a.tmps) = true) (hS : S w) (hy : ∀ w, S w → (execOp a.eval oi).run P w = .ok (.value v) w)
  (h : wpAnyH P md ops Q S fuel (listed.setIfInBounds i true) (a.put d v) w) : wpAnyH P md ops Q S (fuel + 1) listed a w := by
 subst hd
 exact wpAnyH_take hi hs hf hr hQ (Or.inl ⟨hw, hy⟩) hS h
theorem op_of {P : Program} {ops : Array Oper} {Q : Exit → Act → World → Prop} {i : Nat} {o : Oper} {K : Act → World → Prop} {a : Act} {w : World} (hi : ops[i]? = some o) (hw : Region.wanted o (yielded ops a.tmps) = true) (h : o.wp P a w K Q) : wpOp P ops Q i K a w := by
 unfold wpOp
 rw [hi]
 dsimp only
 rw [if_pos hw]
 exact .inl h
theorem wanted_none {o : Oper} (hg : o.guard = none) (l : Nat → Option Bool) : Region.wanted o l = true := by simp only [Region.wanted, hg]
theorem keep_cell {W w1 : World} {a : Addr} {v : Value} (hb : Below W.heap.size W w1) (h : W.cell? a = some v) : w1.cell? a = some v := (World.cell?_of_block (hb.block _ (World.block_lt_of_cell? W a h))).trans h
theorem conv_bytes {W : World} {base : Nat} {v : Value} {l : List UInt8} (h : W.ownsRow base 5 1 v l.length (Lib.byteCells l)) : (convert 157 9 v).run Try.prog W = .ok (.string (bst l)) W := by
 rcases h.2 with ⟨rfl, h0⟩ | ⟨g, cap, cur, rfl, hg, hh, hrest⟩
 ·obtain rfl := List.eq_nil_of_length_eq_zero h0
  exact run_convert_bytes_nil W 157 5 Try.underlying157 Try.underlying5 0 0 9 Try.underlying9
 ·have hc : ∀ i, i < l.length → W.cell? ⟨g, 0 + i, none⟩ = some (.int .u8 ((l.map fun (b : UInt8) => (b.toNat : Int)).getD i 0)) := by
   intro i hi
   have h2 := h.cells (g := g) rfl i (.int .u8 ((l.map fun (b : UInt8) => (b.toNat : Int)).getD i 0)) (by simp [Lib.byteCells, List.getElem?_eq_getElem hi])
   have hplain : (⟨g, 0, none⟩ : Addr).add i = ⟨g, 0 + i, none⟩ := by unfold Addr.add; split <;> simp_all
   rwa [hplain] at h2
  have h3 := run_convert_bytes_arg (P := Try.prog) W 157 5 Try.underlying157 Try.underlying5 g 0 l.length cap (l.map fun (b : UInt8) => (b.toNat : Int)) (by simp) hc 9 Try.underlying9
  rw [h3]
  have e : (l.map fun (b : UInt8) => (b.toNat : Int)).map (fun n => UInt8.ofNat n.toNat) = l := by
   rw [List.map_map]
   exact (List.map_congr_left (g := id) (fun b _ => by simp)).trans (List.map_id l)
  simp only [strOfNums, e, bst]
theorem drop_at (s : ByteArray) (k : Nat) (h : k < s.size) : s.data.toList.drop k = s[k] :: s.data.toList.drop (k + 1) := by
 rw [List.drop_eq_getElem_cons (by simpa using h)]
 rfl
theorem range_block {W : World} {b : Nat} {cs : List Value} {t : TypeId} {fr : Nat × Nat} (h : W.heap[b]? = some (.cells cs.toArray t fr)) : W.rangeAt b 0 cs := fun j v hv => by
 simp [World.cell?, h, hv]
theorem owns_mono {W : World} {B B' e size n : Nat} {v : Value} {xs : List Value} (h : W.ownsRow B e size v n xs) (hb : B' ≤ B) : W.ownsRow B' e size v n xs := by
 obtain ⟨hl, h⟩ := h
 refine ⟨hl, ?_⟩
 rcases h with h | ⟨g, cap, cur, hv, hg, rest⟩
 ·exact .inl h
 ·exact .inr ⟨g, cap, cur, hv, Nat.le_trans hb hg, rest⟩
theorem owns_set {W : World} {B e size n g c : Nat} {xs : List Value} (h : W.ownsRow B e size (.slice (some ⟨g, 0, none⟩) n c) n xs) (k : Nat) (u : Value) : (W.setCell ⟨g, k, none⟩ u).ownsRow B e size (.slice (some ⟨g, 0, none⟩) n c) n (xs.set k u) := by
 obtain ⟨hl, h⟩ := h
 refine ⟨by rw [List.length_set]; exact hl, ?_⟩
 rcases h with ⟨h, _⟩ | ⟨g', cap, cur, hv, hg, hh, h1, h2, h3, h4⟩
 ·cases h
 ·cases hv
  refine .inr ⟨g, c, cur.setIfInBounds k u, rfl, hg, ?_, h1, h2, by simpa using h3, ?_⟩
  ·simp only [World.setCell, Array.getElem?_modify, if_true, hh, Option.map_some]
   rfl
  ·rw [Array.toList_setIfInBounds, ← h4, List.take_set]
theorem new_cell (W : World) (cs : List Value) (t : TypeId) (j : Nat) (u : Value) (h : cs[j]? = some u) : (W.alloc (.cells cs.toArray t)).cell? ⟨W.heap.size, j, none⟩ = some u := by
 rw [World.cell?, heap_alloc_new W (.cells cs.toArray t)]
 simpa using h
theorem take_snocB (s : ByteArray) (k : Nat) (h : k < s.size) : s.data.toList.take (k + 1) = s.data.toList.take k ++ [s[k]] := by
 rw [List.take_succ_eq_append_getElem (by simpa using h)]; rfl
theorem xm0 {W : World} {B B' e e' size size' n n' : Nat} {v v' : Value} {xs xs' : List Value} (h : W.ownsRow B e size v n xs) (h' : W.ownsRow B' e' size' v' n' xs') (he : e ≠ e') (g : Nat) (hg : v.ownBlock = some g) : v'.ownBlock ≠ some g := fun e2 => by
 obtain ⟨_, _, cur, h3⟩ := owns_blk h hg
 obtain ⟨_, _, cur', h4⟩ := owns_blk h' e2
 rw [h3] at h4
 cases h4
 exact he rfl
end Go.Proofs.Ytolpakpdkheanaa
