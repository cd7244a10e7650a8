/- append of a string onto a row of bytes of one's own. -/
import Derived.Test.YtcpokkpjeeblnaaGreatDoorKBa
import Derived.Laws.AppendOwn
import Derived.Deep.AppendLies
import Derived.Test.YtcpokkpjeeblnaaGreatDoorRows
import Derived.WalkKit
import Derived.WalkSpells
import Derived.WalkLawsBesides
import Derived.BigQuiet
import Derived.Deep.Cut
import Derived.Laws.StructEq
import Derived.Lib.Strings
import Derived.OwnWalk
import Derived.Lib.Builder
import Derived.Laws.OwnMore
import Derived.Deep.RegionWith
import Derived.Deep.RegionLaw
import Derived.OrdersHeld
import Derived.Deep.RegionHeld3
import Derived.Deep.MidRow
import Derived.Lib.ConvBytes
import Derived.Lib.AppendStr
import Derived.Lib.UnsafeStr
import Derived.Laws.Externs
import Derived.Shelf.Strings.Builder1
set_option maxRecDepth 100000
set_option maxHeartbeats 2000000
namespace Go.Proofs.YtcpokkpjeeblnaaGreatDoor
end Go.Proofs.YtcpokkpjeeblnaaGreatDoor
namespace Go.Proofs.YtcpokkpjeeblnaaGreatDoor
open Go.RowKit
theorem below_drewN (B : Nat) (W : World) (n : Nat) : Below B W (W.drewN n) := { os := rfl, tape := rfl, output := rfl, size := Nat.le_refl _, block := fun _ _ => rfl }
theorem hideT {p : Prop} (h : p) : Hid p := h
variable {W w w' : World} {g B e n base i B' : Nat} {o : Oper} {xs : List Value} {P : Program} {ops : Array Oper} {Q : Exit -> Act -> World -> Prop} {a : Act}
theorem cell_lt {o : Nat} {v : Value} (h : W.cell? ⟨g, o, none⟩ = some v) : g < W.heap.size := by
 rcases Nat.lt_or_ge g W.heap.size with h' | h'
 ·exact h'
 ·simp [World.cell?, Array.getElem?_eq_none h'] at h
def bst (l : List UInt8) : ByteArray := ⟨l.toArray⟩
theorem xbt (l : List UInt8) : (bst l).size = l.length := by simp [bst, ByteArray.size]
theorem xbu (l : List UInt8) : (bst l).data.toList = l := by simp [bst]
theorem owns_blk {size : Nat} {v : Value} (h : W.ownsRow B e size v n xs) (hg : v.ownBlock = some g) : B <= g /\ g < W.heap.size /\ ∃ cur, W.heap[g]? = some (.cells cur e (0, 0)) := by
 rcases h.2 with ⟨rfl, _⟩ | ⟨g', cap', cur, rfl, hb, hh, _⟩
 ·cases hg
 ·cases hg;exact ⟨hb, (Array.getElem?_eq_some_iff.1 hh).1, cur, hh⟩
theorem owns_keep {W' : World} {size : Nat} {v : Value} (h : W.ownsRow B e size v n xs) (hk : ∀ g, v.ownBlock = some g -> W'.heap[g]? = W.heap[g]?) : W'.ownsRow B e size v n xs := by
 obtain ⟨hl, h⟩ := h;refine ⟨hl, ?_⟩;rcases h with h | ⟨g, cap, cur, hv, hg, hh, rest⟩
 ·exact .inl h
 ·exact .inr ⟨g, cap, cur, hv, hg, (hk g (by rw [hv]; rfl)).trans hh, rest⟩
theorem owns_below {e : TypeId} {size : Nat} {v : Value} (h : w.ownsRow base e size v n xs) (hb : Below w.heap.size w w') : w'.ownsRow base e size v n xs :=
 owns_keep h fun g hg => hb.block g (owns_blk h hg).2.1
theorem owns_shape {size : Nat} {v : Value} (h : W.ownsRow B e size v n xs) : ∃ a c, v = .slice a n c := by
 rcases h.2 with ⟨rfl, rfl⟩ | ⟨g, cap, cur, rfl, _⟩
 ·exact ⟨_, _, rfl⟩
 ·exact ⟨_, _, rfl⟩
theorem put_far (W : World) (b k : Nat) (u : Value) {j : Nat} (h : j ≠ b) : (W.setCell ⟨b, k, none⟩ u).heap[j]? = W.heap[j]? := Below.heap_setCell W ⟨b, k, none⟩ u j h
theorem info5 : (Tryz.prog.info? 5).map (fun i => (i.zero, i.size, i.bytes)) = some (some (.int .u8 0), 1, 1) := by kernel_rfl
theorem undB : Tryz.prog.underlying 77 = some (.slice 5) := by kernel_rfl
theorem cells_app (l m : List UInt8) : Lib.byteCells (l ++ m) = Lib.byteCells l ++ Lib.byteCells m := by simp [Lib.byteCells]
theorem new_cells (W : World) (cs : List Value) (t : TypeId) (j : Nat) (u : Value) (h : cs[j]? = some u) : (W.alloc (.cells cs.toArray t)).cell? ((⟨W.heap.size, 0, none⟩ : Addr).add j) = some u := by
 have hplain : (⟨W.heap.size, 0, none⟩ : Addr).add j = ⟨W.heap.size, 0 + j, none⟩ := by unfold Addr.add; split <;> simp_all
 rw [hplain, World.cell?, heap_alloc_new W (.cells cs.toArray t)];simpa using h
theorem op_value {K : Act -> World -> Prop} {v : Value} (d : Option Tmp) (hi : ops[i]? = some o) (hd : o.dst = d) (hw : Region.wanted o (yielded ops a.tmps) = true) (hx : (execOp a.eval o).run P w = .ok (.value v) w') (h : K (a.put d v) w') : wpOp P ops Q i K a w := by
 subst hd;unfold wpOp;rw [hi];dsimp only;rw [if_pos hw];refine .inl ?_;unfold Oper.wp;rw [hx];exact h
theorem op_skip {K : Act -> World -> Prop} (hi : ops[i]? = some o) (hd : o.dst = none) (hw : Region.wanted o (yielded ops a.tmps) = true) (hx : (execOp a.eval o).run P w = .ok .skip w') (h : K (a.put none undef) w') : wpOp P ops Q i K a w := by
 rw [<- hd] at h;unfold wpOp;rw [hi];dsimp only;rw [if_pos hw];refine .inl ?_;unfold Oper.wp;rw [hx];exact h
theorem take_d {S : World -> Prop} {md : Region.Mode} (i : Nat) (d : Option Tmp) {oi : Oper} {v : Value} {fuel : Nat} {listed : Array Bool} (hi : ops[i]? = some oi) (hd : oi.dst = d)
  (hs : Region.noSelect ops = true) (hf : Region.free md ops listed i = true) (hr : (Region.ready md ops listed).contains i = true)
  (hQ : ∀ c a w, Q (.panic c) (a.put d v) w -> Q (.panic c) a w) (hw : Region.wanted oi (yielded ops a.tmps) = true) (hS : S w) (hy : ∀ w, S w -> (execOp a.eval oi).run P w = .ok (.value v) w)
  (h : wpAnyH P md ops Q S fuel (listed.setIfInBounds i true) (a.put d v) w) : wpAnyH P md ops Q S (fuel + 1) listed a w := by
 subst hd;exact wpAnyH_take hi hs hf hr hQ (Or.inl ⟨hw, hy⟩) hS h
theorem op_of {K : Act -> World -> Prop} (hi : ops[i]? = some o) (hw : Region.wanted o (yielded ops a.tmps) = true) (h : o.wp P a w K Q) : wpOp P ops Q i K a w := by
 unfold wpOp;rw [hi];dsimp only;rw [if_pos hw];exact .inl h
theorem wanted_none (hg : o.guard = none) (l : Nat -> Option Bool) : Region.wanted o l = true := by simp only [Region.wanted, hg]
theorem keep_cell {w1 : World} {a : Addr} {v : Value} (hb : Below W.heap.size W w1) (h : W.cell? a = some v) : w1.cell? a = some v := (World.cell?_of_block (hb.block _ (World.block_lt_of_cell? W a h))).trans h
theorem conv_bytes {v : Value} {l : List UInt8} (h : W.ownsRow base 5 1 v l.length (Lib.byteCells l)) : (convert 77 9 v).run Tryz.prog W = .ok (.string (bst l)) W := by
 rcases h.2 with ⟨rfl, h0⟩ | ⟨g, cap, cur, rfl, hg, hh, hrest⟩
 ·obtain rfl := List.eq_nil_of_length_eq_zero h0;exact run_convert_bytes_nil W 77 5 Tryz.underlying77 Tryz.underlying5 0 0 9 Tryz.underlying9
 ·have hc : ∀ i, i < l.length -> W.cell? ⟨g, 0 + i, none⟩ = some (.int .u8 ((l.map fun (b : UInt8) => (b.toNat : Int)).getD i 0)) := by
   intro i hi;have h2 := h.cells (g := g) rfl i (.int .u8 ((l.map fun (b : UInt8) => (b.toNat : Int)).getD i 0)) (by simp [Lib.byteCells, List.getElem?_eq_getElem hi]);have hplain : (⟨g, 0, none⟩ : Addr).add i = ⟨g, 0 + i, none⟩ := by unfold Addr.add; split <;> simp_all
   rwa [hplain] at h2
  have h3 := run_convert_bytes_arg (P := Tryz.prog) W 77 5 Tryz.underlying77 Tryz.underlying5 g 0 l.length cap (l.map fun (b : UInt8) => (b.toNat : Int)) (by simp) hc 9 Tryz.underlying9;rw [h3];have e : (l.map fun (b : UInt8) => (b.toNat : Int)).map (fun n => UInt8.ofNat n.toNat) = l := by
   rw [List.map_map];exact (List.map_congr_left (g := id) (fun b _ => by simp)).trans (List.map_id l)
  simp only [strOfNums, e, bst]
theorem drop_at (s : ByteArray) (k : Nat) (h : k < s.size) : s.data.toList.drop k = s[k] :: s.data.toList.drop (k + 1) := by
 rw [List.drop_eq_getElem_cons (by simpa using h)];rfl
theorem range_block {b : Nat} {cs : List Value} {t : TypeId} {fr : Nat × Nat} (h : W.heap[b]? = some (.cells cs.toArray t fr)) : W.rangeAt b 0 cs := fun j v hv => by
 simp [World.cell?, h, hv]
theorem owns_mono {size : Nat} {v : Value} (h : W.ownsRow B e size v n xs) (hb : B' <= B) : W.ownsRow B' e size v n xs := by
 obtain ⟨hl, h⟩ := h;refine ⟨hl, ?_⟩;rcases h with h | ⟨g, cap, cur, hv, hg, rest⟩
 ·exact .inl h
 ·exact .inr ⟨g, cap, cur, hv, Nat.le_trans hb hg, rest⟩
theorem owns_set {size c : Nat} (h : W.ownsRow B e size (.slice (some ⟨g, 0, none⟩) n c) n xs) (k : Nat) (u : Value) : (W.setCell ⟨g, k, none⟩ u).ownsRow B e size (.slice (some ⟨g, 0, none⟩) n c) n (xs.set k u) := by
 obtain ⟨hl, h⟩ := h;refine ⟨by rw [List.length_set]; exact hl, ?_⟩;rcases h with ⟨h, _⟩ | ⟨g', cap, cur, hv, hg, hh, h1, h2, h3, h4⟩
 ·cases h
 ·cases hv;refine .inr ⟨g, c, cur.setIfInBounds k u, rfl, hg, ?_, h1, h2, by simpa using h3, ?_⟩
  ·simp only [World.setCell, Array.getElem?_modify, if_true, hh, Option.map_some];rfl
  ·rw [Array.toList_setIfInBounds, <- h4, List.take_set]
theorem new_cell (W : World) (cs : List Value) (t : TypeId) (j : Nat) (u : Value) (h : cs[j]? = some u) : (W.alloc (.cells cs.toArray t)).cell? ⟨W.heap.size, j, none⟩ = some u := by
 rw [World.cell?, heap_alloc_new W (.cells cs.toArray t)];simpa using h
theorem take_snocB (s : ByteArray) (k : Nat) (h : k < s.size) : s.data.toList.take (k + 1) = s.data.toList.take k ++ [s[k]] := by
 rw [List.take_succ_eq_append_getElem (by simpa using h)]; rfl
theorem xm0 {e' size size' n' : Nat} {v v' : Value} {xs' : List Value} (h : W.ownsRow B e size v n xs) (h' : W.ownsRow B' e' size' v' n' xs') (he : e ≠ e') (g : Nat) (hg : v.ownBlock = some g) : v'.ownBlock ≠ some g := fun e2 => by
 obtain ⟨_, _, cur, h3⟩ := owns_blk h hg;obtain ⟨_, _, cur', h4⟩ := owns_blk h' e2;rw [h3] at h4;cases h4;exact he rfl
end Go.Proofs.YtcpokkpjeeblnaaGreatDoor
namespace Go.Proofs.YtcpokkpjeeblnaaGreatDoor
open Go.RowKit Go.Shelf
theorem xe5 : (Tryz.prog.info? 79).map (·.size) = some 2 := by kernel_rfl
theorem xin : liesAt Tryz.prog Tryz.prog.depth 79 (2 / Tryz.prog.cellsOf 79) 0 79 1 = true := by kernel_rfl
theorem xgo (b : Nat) (w : World) (h0 : w.cell? ⟨b, 0, none⟩ = some (.pointer (some ⟨b, 0, none⟩))) :
  Calls Tryz.prog 102 #[.pointer (some ⟨b, 0, none⟩)] w fun e w' => e = .returned (.tuple #[]) /\ w' = w := by
 obtain ⟨j, hj, _⟩ := Option.map_eq_some_iff.1 xe5;go_enter Tryz.func102, Tryz.ntmps102;go_wp2;rw [Lib.run_neq_ptr_same w _ Tryz.underlying76 hj];go_wp2
 go_end0
 exact ⟨rfl, rfl⟩
theorem xfw (b : Nat) (w : World) (h0 : w.cell? ⟨b, 0, none⟩ = some (.pointer none)) (hsh : w.shape? b = some (79, 2)) (hfz : w.frozen? ⟨b, 0, none⟩ = false) :
  Calls Tryz.prog 102 #[.pointer (some ⟨b, 0, none⟩)] w fun e w' => e = .returned (.tuple #[]) /\ w' = w.setCell ⟨b, 0, none⟩ (.pointer (some ⟨b, 0, none⟩)) := by
 obtain ⟨j, hj, hjs⟩ := Option.map_eq_some_iff.1 xe5;go_enter Tryz.func102, Tryz.ntmps102;go_wp2;rw [Lib.run_to_unsafe w ⟨b, 0, none⟩ Tryz.underlying76 Tryz.underlying163 hj (by rw [hjs]; decide) hsh (Nat.zero_lt_succ 1)];simp only [Result.andThen];rw [Oper.upon_value];go_wp2;rw [run_callFunc_extern Tryz.func141 (by kernel_rfl) (by kernel_rfl) (by kernel_rfl) (e := Extern.AbiNoEscape.same) (by kernel_rfl)];rw [Lib.run_noEscape];simp only [Result.andThen];rw [Oper.upon_value];go_wp2;rw [Lib.run_from_unsafe w ⟨b, 0, none⟩ Tryz.underlying163 Tryz.underlying76 hj hsh xin];simp only [Result.andThen];rw [Oper.upon_value];go_wp2
 go_end0
 exact ⟨rfl, rfl⟩
def NotB (W : World) (b r : Nat) : Prop := r < W.heap.size /\ r ≠ b /\ ∀ p v, W.heap[b]? = some (.cells #[p, v] 79) -> v.ownBlock ≠ some r
def KeepB (W W' : World) (b : Nat) : Prop := ∀ r, NotB W b r -> NotB W' b r /\ W'.heap[r]? = W.heap[r]?
theorem KeepB.refl (W : World) (b : Nat) : KeepB W W b := fun _ h => ⟨h, rfl⟩
variable {W : World} {b : Nat}
theorem KeepB.trans {W' W'' : World} (h : KeepB W W' b) (h' : KeepB W' W'' b) : KeepB W W'' b := fun r hr =>
 ⟨(h' r (h r hr).1).1, (h' r (h r hr).1).2.trans (h r hr).2⟩
theorem xhf (B b : Nat) (bs : List Value) (w : World) (h : Lib.IsBuilder 79 5 B b bs w) :
  Calls Tryz.prog 102 #[.pointer (some ⟨b, 0, none⟩)] w fun e w' => e = .returned (.tuple #[]) /\ (Lib.BuilderAt 79 5 B b (.pointer (some ⟨b, 0, none⟩)) bs w' /\ Below B w w' /\ KeepB w w' b) := by
 rcases h with h | h
 ·refine (xfw b w h.cell0 h.shape h.frozen0).mono ?_;rintro e w' ⟨rfl, rfl⟩;refine ⟨rfl, h.used _, (Below.refl B w).setCell (p := ⟨b, 0, none⟩) h.1 _, fun r hr => ⟨⟨by simpa using hr.1, hr.2.1, fun p v hv => ?_⟩, put_far _ _ _ _ hr.2.1⟩⟩;obtain ⟨hB, v0, hbk, hown, hne⟩ := h;have e := hr.2.2 _ _ hbk;simp only [World.setCell, Array.getElem?_modify, if_true, hbk, Option.map_some] at hv;cases hv;exact e
 ·refine (xgo b w h.cell0).mono ?_;rintro e w' ⟨rfl, rfl⟩;exact ⟨rfl, h, Below.refl B _, KeepB.refl _ _⟩
theorem xm1 {W2 : World} {B n g : Nat} {bs : List Value} {p v v' : Value} (hbk : W.heap[b]? = some (.cells #[p, v] 79)) (hown : W.ownsRow B 5 1 v n bs) (hg : W.grownBy W2 v.ownBlock) (hv : v'.ownBlock = v.ownBlock \/ v'.ownBlock = some W.heap.size \/ (v'.ownBlock = some g /\ (v.ownBlock = some g \/ g = W.heap.size))) : KeepB W (W2.setCell ⟨b, 1, none⟩ v') b := fun r hr => by
 have e := hr.2.2 _ _ hbk;have hb2 : W2.heap[b]? = some (.cells #[p, v] 79) := by
  rw [hg.block b (Array.getElem?_eq_some_iff.1 hbk).1 (fun e2 => by
   obtain ⟨_, _, cur, h3⟩ := owns_blk hown e2.symm;rw [hbk] at h3;cases h3)]
  exact hbk
 refine ⟨⟨?_, hr.2.1, fun p1 v1 h1 => ?_⟩, (put_far _ _ _ _ hr.2.1).trans (hg.block r hr.1 (fun e2 => e e2.symm))⟩
 ·have := hg.size;have := hr.1;simp;omega
 ·simp only [World.setCell, Array.getElem?_modify, if_true, hb2, Option.map_some] at h1;cases h1;have := hr.1;rcases hv with h | h | ⟨h, h2⟩
  ·rw [show (v').ownBlock = _ from h]; exact e
  ·intro e3;rw [show (v').ownBlock = _ from h] at e3;cases e3;omega
  ·intro e3;rw [show (v').ownBlock = _ from h] at e3;cases e3;rcases h2 with h2 | h2
   ·exact e h2
   ·omega
theorem xb6 (B b : Nat) (bs : List Value) (c : Int) (w : World) (h : Lib.IsBuilder 79 5 B b bs w) (hlen : bs.length + 1 <= 140737488355328) (hBw : B <= w.heap.size) :
  Calls Tryz.prog 195 #[.pointer (some ⟨b, 0, none⟩), .int .u8 c] w fun e w' => e = .returned .nilIface /\ (Lib.BuilderAt 79 5 B b (.pointer (some ⟨b, 0, none⟩)) (bs ++ [.int .u8 c]) w' /\ Below B w w' /\ KeepB w w' b) := by
 obtain ⟨i0, hi, hz0, hz1, hz2⟩ := info_parts info5;go_enter Tryz.func195, Tryz.ntmps195
 go_wp2_with (go_at_call 102; refine (xhf B b bs _ h).mono ?_)
 rintro e w1 ⟨rfl, h1, hb1, hk1⟩;obtain ⟨hB, v, hbk, hown, hne⟩ := h1;have c0 : w1.cell? ⟨b, 0, none⟩ = some (.pointer (some ⟨b, 0, none⟩)) := by rw [Lib.cell_of_heap hbk]; rfl
 have c1 : w1.cell? ⟨b, 1, none⟩ = some v := by rw [Lib.cell_of_heap hbk]; rfl
 have hA := Bal w1 (.cells #[.int .u8 c] 5);have HN := hideT (new_cells w1 [.int .u8 c] 5);have hlt : b < w1.heap.size := (Array.getElem?_eq_some_iff.1 hbk).1;have HS := hideT (And.intro hlt (And.intro hA (And.intro hbk (And.intro hown (And.intro hb1 hk1)))));clear hlt hA hb1 hk1
 go_wp2_with (at_builtin; refine wpList_append_lies _ rfl _ _ 77 rfl B 5 i0 _ 1 1 undB hi hz0 hz1 hz2 rfl (by omega) v bs.length bs rfl (owns_below hown HS.out.2.1) ⟨w1.heap.size, 0, none⟩ 1 1 [.int .u8 c] rfl rfl (fun j u hj => HN.out j u hj) (by simp [Value.oneCell']) (by omega) (by unfold maxLen; omega) (by omega) (by have := HS.out.2.2.2.2.1.size; simp; omega) _ rfl ?_)
 intro g gc w2 hown' hgrow hat hglt;have hbk1 : (w1.alloc (.cells #[.int .u8 c] 5)).heap[b]? = some (.cells #[.pointer (some ⟨b, 0, none⟩), v] 79) := (HS.out.2.1.block b HS.out.1).trans hbk;have hb2 : w2.heap[b]? = some (.cells #[.pointer (some ⟨b, 0, none⟩), v] 79) := by
  rw [hgrow.block b (Nat.lt_of_lt_of_le HS.out.1 HS.out.2.1.size) (fun e => hne e.symm)];exact hbk1
 have d0 : w2.cell? ⟨b, 0, none⟩ = some (.pointer (some ⟨b, 0, none⟩)) := by rw [Lib.cell_of_heap hb2]; rfl
 have d1 : w2.cell? ⟨b, 1, none⟩ = some v := by rw [Lib.cell_of_heap hb2]; rfl
 have f1 : w2.frozen? ⟨b, 1, none⟩ = false := Lib.frozen_of_heap hb2 1;have k0 : KeepB w1 (w1.alloc (.cells #[.int .u8 c] 5)) b := fun r hr => ⟨⟨Nat.lt_of_lt_of_le hr.1 HS.out.2.1.size, hr.2.1, fun p v hv => hr.2.2 p v ((HS.out.2.1.block b HS.out.1).symm.trans hv)⟩, HS.out.2.1.block r hr.1⟩;have HK := hideT ((HS.out.2.2.2.2.2.trans k0).trans (xm1 (g := g) hbk1 (owns_below hown HS.out.2.1) hgrow (v' := .slice (some ⟨g, 0, none⟩) (bs.length + 1) gc) (.inr (.inr ⟨rfl, hat.imp id (fun e => by rw [e]; simp)⟩))));have HB := hideT ((((HS.out.2.2.2.2.1.trans (HS.out.2.1.mono (by have := HS.out.2.2.2.2.1.size; omega))).grown hgrow (by have := HS.out.2.2.2.2.1.size; have := HS.out.2.1.size; omega) (fun k hk => (hown.lt k hk).1))).setCell (p := ⟨b, 1, none⟩) hB (.slice (some ⟨g, 0, none⟩) (bs.length + 1) gc));clear hbk hbk1 hgrow hat k0 hown c0 c1 h hglt;go_wp2;go_ret;refine ⟨rfl, ?_, HB.out, HK.out⟩;exact Lib.BuilderAt.put (T := 79) (e := 5) hB hb2 (bs' := bs ++ [.int .u8 c]) (by simpa using hown') (by decide)
def xfx : Go.Shelf.Ren := ⟨fun | 169 => 38 | n => n, fun | 70 => 76 | 9 => 9 | 0 => 0 | 72 => 79 | 37 => 77 | 127 => 119 | 3 => 3 | 5 => 5 | n => n, fun | n => n⟩
theorem lays169 : Go.Proofs.Lays.n169 Tryz.prog xfx := {
 mixed := by kernel_rfl
 f169 := Tryz.func38.trans (congrArg some (by kernel_rfl))
 t0 := Tryz.underlying0
 a0 := Tryz.isAgg0
 z0 := Tryz.sizeOf0
 v0 := Tryz.zeroValue0
 t3 := Tryz.underlying3
 a3 := Tryz.isAgg3
 z3 := Tryz.sizeOf3
 v3 := Tryz.zeroValue3
 t9 := Tryz.underlying9
 a9 := Tryz.isAgg9
 z9 := Tryz.sizeOf9
 v9 := Tryz.zeroValue9
 t37 := Tryz.underlying77
 a37 := Tryz.isAgg77
 z37 := Tryz.sizeOf77
 v37 := Tryz.zeroValue77
 t70 := Tryz.underlying76
 a70 := Tryz.isAgg76
 z70 := Tryz.sizeOf76
 v70 := Tryz.zeroValue76
 t72 := Tryz.underlying79
 a72 := Tryz.isAgg79
 z72 := Tryz.sizeOf79
 v72 := Tryz.zeroValue79
 t127 := Tryz.underlying119
 a127 := Tryz.isAgg119
 z127 := Tryz.sizeOf119
 v127 := Tryz.zeroValue119 }
theorem xer : Builder.Extra Tryz.prog xfx := {
 sizeBuilder := by kernel_rfl
 liesBuilder := by kernel_rfl
 t5 := Tryz.underlying5
 a5 := Tryz.isAgg5
 z5 := Tryz.sizeOf5
 v5 := Tryz.zeroValue5
 infoByte := by kernel_rfl
 cellsByte := by kernel_rfl
 sizeByte := by kernel_rfl
 neB5 := by decide }
theorem xcv (B b : Nat) (l : List UInt8) (w : World) (h : Lib.IsBuilder 79 5 B b (Lib.byteCells l) w) (hBw : B <= w.heap.size) :
  Calls Tryz.prog 38 #[.pointer (some ⟨b, 0, none⟩)] w fun e w' => e = .returned (.string ⟨l.toArray⟩) /\ Below B w w' := Any.Builder_String_any lays169 xer B b l w h hBw
end Go.Proofs.YtcpokkpjeeblnaaGreatDoor
