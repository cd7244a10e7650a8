/- template: what was gathered, in memory; plain, letOut, group, escaped. -/
import Derived.Test.YtcpokkpjeeblnaaGreatDoorKBa
import Derived.Test.YtcpokkpjeeblnaaGreatDoorKTa
import Derived.OwnWalk
import Derived.Deep.AppendLies
import Derived.Lib.Builder
import Derived.Laws.OwnMore
import Derived.Deep.RegionWith
import Derived.Deep.RegionLaw
import Derived.OrdersHeld
import Derived.Deep.RegionHeld3
import Derived.Deep.MidRow
set_option maxRecDepth 100000
set_option maxHeartbeats 2000000
namespace Go.Proofs.YtcpokkpjeeblnaaGreatDoor
variable {P : Prop}
theorem btd0 (h : P := by
 refine wpAnyH_all (rs := [15]) (by kernel_rfl) (by simp) (fun i hi => ?_);obtain rfl : i = 15 := List.mem_singleton.1 hi;refine op_skip rfl rfl (by rfl) (w' := w2.setCell ⟨b, 0, none⟩ (.slice (some ⟨g, 0, none⟩) (x.ps.length + 1) gc)) (by go_simp; (try with_reducible rfl)) ?_;refine And.intro ⟨by simp [World.cell?, hZh], owns_keep hs2.2 (fun g' e => put_far _ _ _ _ (fun e2 => by
  obtain ⟨_, _, cur, h3⟩ := owns_blk hs2.2 e;rw [e2, hbw2] at h3;cases h3))⟩ ?_
 refine wpAnyH_done (by kernel_rfl) ?_ _;exact HKEY.out g gc _ hF.1 ((hA1.mono (Nat.le_of_lt (Nat.lt_of_le_of_lt hB HG.out.2.2.2.2))).trans hF.2) hZh) : P := h
theorem btd1 (h : P := by
 go_enter Tryz.func260, Tryz.ntmps260
 go_wp2_with (go_at_call 259; refine HG.out.mono ?_)
 rintro e w1 ⟨rfl, h1, hb1⟩;go_wp2
 go_end0
 exact ⟨rfl, h1, hb1⟩) : P := h
theorem btd2 (h : P := by
 clear hG hBw xr x0 hX0 hX1 hga hwt hbs;go_wp2;refine bodyPost_ret (fault_result rfl rfl HX.out.1) rfl ?_;exact ⟨.slice none 0 0, rfl, World.ownsRow_nil _ _ _ _, HX.out.2⟩) : P := h
theorem btd3 (h : P := by
 refine owns_keep ho fun g e => ?_;obtain ⟨_, _, cur, h⟩ := owns_blk ho e;exact put_far _ _ _ _ (fun e2 => by rw [e2, b2] at h; cases h)) : P := h
namespace tpl
open Go.RowKit
variable {W W' w w' W2 : World} {B e n base b i t : Nat} {xs : List Value} {x : Ga} {vp vb y : Value} {P : Program} {ops : Array Oper} {Q : Exit -> Act -> World -> Prop} {o : Oper} {a : Act} {fr : Nat × Nat}
theorem owns_blk {size : Nat} {v : Value} (h : W.ownsRow B e size v n xs) {g : Nat} (hg : v.ownBlock = some g) : B <= g /\ g < W.heap.size /\ ∃ cur, W.heap[g]? = some (.cells cur e (0, 0)) := by
 rcases h.2 with ⟨rfl, _⟩ | ⟨g', cap', cur, rfl, hb, hh, _⟩
 ·cases hg
 ·cases hg;exact ⟨hb, (Array.getElem?_eq_some_iff.1 hh).1, cur, hh⟩
theorem owns_keep {size : Nat} {v : Value} (h : W.ownsRow B e size v n xs) (hk : ∀ g, v.ownBlock = some g -> W'.heap[g]? = W.heap[g]?) : W'.ownsRow B e size v n xs := by
 obtain ⟨hl, h⟩ := h;refine ⟨hl, ?_⟩;rcases h with h | ⟨g, cap, cur, hv, hg, hh, rest⟩
 ·exact .inl h
 ·exact .inr ⟨g, cap, cur, hv, hg, (hk g (by rw [hv]; rfl)).trans hh, rest⟩
theorem owns_below {e : TypeId} {size : Nat} {v : Value} (h : w.ownsRow base e size v n xs) (hb : Below w.heap.size w w') : w'.ownsRow base e size v n xs :=
 owns_keep h fun g hg => hb.block g (owns_blk h hg).2.1
theorem owns_shape {size : Nat} {v : Value} (h : W.ownsRow B e size v n xs) : ∃ a c, v = .slice a n c := by
 rcases h.2 with ⟨rfl, rfl⟩ | ⟨g, cap, cur, rfl, _⟩
 ·exact ⟨_, _, rfl⟩
 ·exact ⟨_, _, rfl⟩
theorem put_far (W : World) (b k : Nat) (u : Value) {j : Nat} (h : j ≠ b) : (W.setCell ⟨b, k, none⟩ u).heap[j]? = W.heap[j]? := Below.heap_setCell W ⟨b, k, none⟩ u j h
def GaAt (W : World) (B b : Nat) (x : Ga) : Prop :=
 B <= b /\ ∃ vp vb, W.heap[b]? = some (.cells #[vp, vb] 422) /\ W.ownsRow B 266 2 vp x.ps.length (ptV x.ps) /\ W.ownsRow B 5 1 vb x.bs.length (Lib.byteCells x.bs)
theorem GaAt.stay (h : GaAt W B b x) (hb : Below W.heap.size W W') : GaAt W' B b x := by
 obtain ⟨hB, vp, vb, h0, h1, h2⟩ := h;exact ⟨hB, vp, vb, (hb.block b (Array.getElem?_eq_some_iff.1 h0).1).trans h0, owns_below h1 hb, owns_below h2 hb⟩
theorem GaAt.lt (h : GaAt W B b x) : b < W.heap.size := by
 obtain ⟨hB, vp, vb, h0, h1, h2⟩ := h;exact (Array.getElem?_eq_some_iff.1 h0).1
theorem xly {bs : List UInt8} {v : Value} (hB : B <= b) (h0 : W.heap[b]? = some (.cells #[vp, vb] 422)) (h1 : W.ownsRow B 266 2 vp x.ps.length (ptV x.ps)) (h2 : W.ownsRow B 5 1 vb x.bs.length (Lib.byteCells x.bs)) (hg : W.grownBy W2 vb.ownBlock) (ho : W2.ownsRow B 5 1 v bs.length (Lib.byteCells bs)) : GaAt (W2.setCell ⟨b, 1, none⟩ v) B b ⟨x.ps, bs⟩ /\ Below B W (W2.setCell ⟨b, 1, none⟩ v) := by
 have hblt := (Array.getElem?_eq_some_iff.1 h0).1;have n2 : vb.ownBlock ≠ some b := fun e => by
  obtain ⟨_, _, cur, h⟩ := owns_blk h2 e;rw [h0] at h;cases h
 have b2 : W2.heap[b]? = some (.cells #[vp, vb] 422) := (hg.block b hblt (fun e => n2 e.symm)).trans h0;refine ⟨⟨hB, vp, v, ?_, ?_, ?_⟩, ?_⟩
 ·simp only [World.setCell, Array.getElem?_modify, if_true, b2, Option.map_some];rfl
 ·refine owns_keep h1 fun g e => ?_;obtain ⟨_, hlt, cur, h⟩ := owns_blk h1 e;rw [put_far _ _ _ _ (fun e2 => by rw [e2, h0] at h; cases h)];exact hg.block g hlt (fun e2 => by
   obtain ⟨_, _, cur2, h3⟩ := owns_blk h2 e2.symm;rw [h] at h3;cases h3)
 ·exact btd3
 ·exact (((Below.refl B W).grown hg (Nat.le_of_lt (Nat.lt_of_le_of_lt hB hblt)) (fun k hk => (owns_blk h2 hk).1))).setCell (p := ⟨b, 1, none⟩) hB _
theorem xhm {ps : List Pt} {v : Value} (hB : B <= b) (h0 : W.heap[b]? = some (.cells #[vp, vb] 422)) (h1 : W.ownsRow B 266 2 vp x.ps.length (ptV x.ps)) (h2 : W.ownsRow B 5 1 vb x.bs.length (Lib.byteCells x.bs)) (hg : W.grownBy W2 vp.ownBlock) (ho : W2.ownsRow B 266 2 v ps.length (ptV ps)) : GaAt (W2.setCell ⟨b, 0, none⟩ v) B b ⟨ps, x.bs⟩ /\ Below B W (W2.setCell ⟨b, 0, none⟩ v) := by
 have hblt := (Array.getElem?_eq_some_iff.1 h0).1;have n2 : vp.ownBlock ≠ some b := fun e => by
  obtain ⟨_, _, cur, h⟩ := owns_blk h1 e;rw [h0] at h;cases h
 have b2 : W2.heap[b]? = some (.cells #[vp, vb] 422) := (hg.block b hblt (fun e => n2 e.symm)).trans h0;refine ⟨⟨hB, v, vb, ?_, ?_, ?_⟩, ?_⟩
 ·simp only [World.setCell, Array.getElem?_modify, if_true, b2, Option.map_some];rfl
 ·exact btd3
 ·refine owns_keep h2 fun g e => ?_;obtain ⟨_, hlt, cur, h⟩ := owns_blk h2 e;rw [put_far _ _ _ _ (fun e2 => by rw [e2, h0] at h; cases h)];exact hg.block g hlt (fun e2 => by
   obtain ⟨_, _, cur2, h3⟩ := owns_blk h1 e2.symm;rw [h] at h3;cases h3)
 ·exact (((Below.refl B W).grown hg (Nat.le_of_lt (Nat.lt_of_le_of_lt hB hblt)) (fun k hk => (owns_blk h1 hk).1))).setCell (p := ⟨b, 0, none⟩) hB _
theorem info5 : (Tryz.prog.info? 5).map (fun i => (i.zero, i.size, i.bytes)) = some (some (.int .u8 0), 1, 1) := by kernel_rfl
theorem info48 : (Tryz.prog.info? 266).map (fun i => (i.zero, i.size, i.bytes)) = some (some (.agg #[.int .i64 0, .string ⟨#[]⟩]), 2, 24) := by kernel_rfl
theorem und50 : Tryz.prog.underlying 77 = some (.slice 5) := by kernel_rfl
theorem und22 : Tryz.prog.underlying 69 = some (.slice 266) := by kernel_rfl
theorem cells_app (l m : List UInt8) : Lib.byteCells (l ++ m) = Lib.byteCells l ++ Lib.byteCells m := by simp [Lib.byteCells]
theorem new_cells (W : World) (cs : List Value) (t : TypeId) (j : Nat) (u : Value) (h : cs[j]? = some u) : (W.alloc (.cells cs.toArray t)).cell? ((⟨W.heap.size, 0, none⟩ : Addr).add j) = some u := by
 have hplain : (⟨W.heap.size, 0, none⟩ : Addr).add j = ⟨W.heap.size, 0 + j, none⟩ := by unfold Addr.add; split <;> simp_all
 rw [hplain, World.cell?, heap_alloc_new W (.cells cs.toArray t)];simpa using h
theorem xf6 (c : UInt8) (w : World) (h : GaAt w B b x) (hn : x.bs.length <= 1073741824) :
  Calls Tryz.prog 259 #[.pointer (some ⟨b, 0, none⟩), .int .u8 c.toNat] w fun e w' => e = .returned (.tuple #[]) /\ GaAt w' B b (x.plain c) /\ Below B w w' := by
 obtain ⟨i0, hi0, hz0, hz1, hz2⟩ := info_parts info5;have hlt := h.lt;have hA := Bal w (.cells #[.int .u8 c.toNat] 5);have hw := h.stay hA;obtain ⟨hB, vp, vb, h0, h1, h2⟩ := h;obtain ⟨_, vp', vb', k0, k1, k2⟩ := hw;have e0 := (hA.block b hlt).trans h0;rw [k0] at e0;cases e0;have c1 := clq 1 h0 rfl;have HN := hideT (new_cells w [.int .u8 c.toNat] 5);have HS := hideT (And.intro hlt hA);have HK := hideT (And.intro k0 (And.intro k1 k2));clear hlt hA k0 k1 h0 h1 h2;go_enter Tryz.func259, Tryz.ntmps259
 go_wp2_with (at_builtin; refine wpList_append_lies _ rfl _ _ 77 rfl B 5 i0 _ 1 1 und50 hi0 hz0 hz1 hz2 rfl (by omega) vb x.bs.length (Lib.byteCells x.bs) rfl k2 ⟨w.heap.size, 0, none⟩ 1 1 [.int .u8 c.toNat] rfl rfl (fun j u hj => HN.out j u hj) (by simp [Value.oneCell']) (by omega) (by unfold maxLen; omega) (by omega) (by have := HS.out.1; simp; omega) _ rfl ?_)
 intro g gc w2 hown hgr hat hglt;have b2 : w2.heap[b]? = some (.cells #[vp, vb] 422) := (hgr.block b (Nat.lt_of_lt_of_le HS.out.1 HS.out.2.size) (fun e => by
  obtain ⟨_, _, cur, h3⟩ := owns_blk HK.out.2.2 e.symm;rw [HK.out.1] at h3;cases h3)).trans HK.out.1
 have d1 := clq 1 b2 rfl;have f1 := fzq 1 b2;have HF := hideT (xly (bs := x.bs ++ [c]) hB HK.out.1 HK.out.2.1 HK.out.2.2 hgr (by rw [cells_app, List.length_append]; exact hown));clear hgr hown b2 k2;go_wp2
 go_end0
 exact ⟨rfl, HF.out.1, (HS.out.2.mono (Nat.le_of_lt (Nat.lt_of_le_of_lt hB HS.out.1))).trans HF.out.2⟩
theorem op_value {K : Act -> World -> Prop} {v : Value} (d : Option Tmp) (hi : ops[i]? = some o) (hd : o.dst = d) (hw : Region.wanted o (yielded ops a.tmps) = true) (hx : (execOp a.eval o).run P w = .ok (.value v) w') (h : K (a.put d v) w') : wpOp P ops Q i K a w := by
 subst hd;unfold wpOp;rw [hi];dsimp only;rw [if_pos hw];refine .inl ?_;unfold Oper.wp;rw [hx];exact h
theorem op_skip {K : Act -> World -> Prop} (hi : ops[i]? = some o) (hd : o.dst = none) (hw : Region.wanted o (yielded ops a.tmps) = true) (hx : (execOp a.eval o).run P w = .ok .skip w') (h : K (a.put none undef) w') : wpOp P ops Q i K a w := by
 rw [<- hd] at h;unfold wpOp;rw [hi];dsimp only;rw [if_pos hw];refine .inl ?_;unfold Oper.wp;rw [hx];exact h
theorem take_d {S : World -> Prop} {md : Region.Mode} (i : Nat) (d : Option Tmp) {oi : Oper} {v : Value} {fuel : Nat} {listed : Array Bool} (hi : ops[i]? = some oi) (hd : oi.dst = d)
  (hs : Region.noSelect ops = true) (hf : Region.free md ops listed i = true) (hr : (Region.ready md ops listed).contains i = true)
  (hQ : ∀ c a w, Q (.panic c) (a.put d v) w -> Q (.panic c) a w) (hw : Region.wanted oi (yielded ops a.tmps) = true) (hS : S w) (hy : ∀ w, S w -> (execOp a.eval oi).run P w = .ok (.value v) w)
  (h : wpAnyH P md ops Q S fuel (listed.setIfInBounds i true) (a.put d v) w) : wpAnyH P md ops Q S (fuel + 1) listed a w := by
 subst hd;exact wpAnyH_take hi hs hf hr hQ (Or.inl ⟨hw, hy⟩) hS h
theorem op_of {K : Act -> World -> Prop} (hi : ops[i]? = some o) (hw : Region.wanted o (yielded ops a.tmps) = true) (h : o.wp P a w K Q) : wpOp P ops Q i K a w := by
 unfold wpOp;rw [hi];dsimp only;rw [if_pos hw];exact .inl h
theorem wanted_none (hg : o.guard = none) (l : Nat -> Option Bool) : Region.wanted o l = true := by simp only [Region.wanted, hg]
theorem keep_cell {w1 : World} {a : Addr} {v : Value} (hb : Below W.heap.size W w1) (h : W.cell? a = some v) : w1.cell? a = some v := (World.cell?_of_block (hb.block _ (World.block_lt_of_cell? W a h))).trans h
theorem conv_bytes {v : Value} {l : List UInt8} (h : W.ownsRow base 5 1 v l.length (Lib.byteCells l)) : (convert 77 9 v).run Tryz.prog W = .ok (.string (bst l)) W := by
 rcases h.2 with ⟨rfl, h0⟩ | ⟨g, cap, cur, rfl, hg, hh, hrest⟩
 ·obtain rfl := List.eq_nil_of_length_eq_zero h0;exact run_convert_bytes_nil W 77 5 Tryz.underlying77 Tryz.underlying5 0 0 9 Tryz.underlying9
 ·have hc : ∀ i, i < l.length -> W.cell? ⟨g, 0 + i, none⟩ = some (.int .u8 ((l.map fun (b : UInt8) => (b.toNat : Int)).getD i 0)) := by
   intro i hi;have h2 := h.cells (g := g) rfl i (.int .u8 ((l.map fun (b : UInt8) => (b.toNat : Int)).getD i 0)) (by simp [Lib.byteCells, List.getElem?_eq_getElem hi]);have hplain : (⟨g, 0, none⟩ : Addr).add i = ⟨g, 0 + i, none⟩ := by unfold Addr.add; split <;> simp_all
   rwa [hplain] at h2
  have h3 := run_convert_bytes_arg (P := Tryz.prog) W 77 5 Tryz.underlying77 Tryz.underlying5 g 0 l.length cap (l.map fun (b : UInt8) => (b.toNat : Int)) (by simp) hc 9 Tryz.underlying9;rw [h3];have e : (l.map fun (b : UInt8) => (b.toNat : Int)).map (fun n => UInt8.ofNat n.toNat) = l := by
   rw [List.map_map];exact (List.map_congr_left (g := id) (fun b _ => by simp)).trans (List.map_id l)
  simp only [strOfNums, e, bst]
theorem xgz (w : World) (h : GaAt w B b x) (hp : x.ps.length <= 1073741824) (hn : x.bs.length <= 1073741824) :
  Calls Tryz.prog 261 #[.pointer (some ⟨b, 0, none⟩)] w fun e w' => e = .returned (.tuple #[]) /\ GaAt w' B b x.out /\ Below B w w' := by
 obtain ⟨i0, hi0, hz0, hz1, hz2⟩ := info_parts info48;have hlt := h.lt;have hg := h;obtain ⟨hB, vp, vb, h0, h1, h2⟩ := h;have c0 := clq 0 h0 rfl;have c1 := clq 1 h0 rfl;by_cases he : x.bs = []
 ·obtain ⟨a, c, rfl⟩ := owns_shape h2;rw [he] at c1;simp only [List.length_nil] at c1;have HG := hideT hg;clear hg h0 h1 h2 hlt;go_enter Tryz.func261, Tryz.ntmps261;go_wp2
  go_end0
  exact ⟨rfl, by unfold Ga.out; rw [if_pos he]; exact HG.out, Below.refl _ _⟩
 ·have hpos : 0 < x.bs.length := List.length_pos_iff.2 he;have ip : (0 : Int) < (x.bs.length : Int) := by omega
  obtain ⟨gb, cb, rfl, hcb⟩ : ∃ g c, vb = .slice (some ⟨g, 0, none⟩) x.bs.length c /\ x.bs.length <= c := by
   rcases h2.2 with ⟨rfl, h3⟩ | ⟨g, cap, cur, rfl, -, -, h3, -⟩
   ·omega
   ·exact ⟨g, cap, rfl, h3⟩
  have HG := hideT (And.intro hg (And.intro h0 (And.intro h1 (And.intro h2 hlt))));clear hg h0 h1 h2 hlt;go_enter Tryz.func261, Tryz.ntmps261;go_upto_region 1 with fail
  rename_i K2 hK2;have key : ∀ (g gc : Nat) (Z : World), GaAt Z B b ⟨x.ps ++ [⟨-1, bst x.bs⟩], x.bs⟩ -> Below B w Z -> Z.heap[b]? = some (.cells #[.slice (some ⟨g, 0, none⟩) (x.ps.length + 1) gc, .slice (some ⟨gb, 0, none⟩) x.bs.length cb] 422) -> K2 { tmps := #[Value.pointer (some ⟨b, 0, none⟩), undef, Value.pointer (some ⟨b, 0, none⟩), Value.pointer (some ⟨b, 0, none⟩), Value.pointer (some ⟨b, 1, none⟩), .slice (some ⟨gb, 0, none⟩) x.bs.length cb, .int .i64 x.bs.length, .bool true, Value.pointer (some ⟨b, 0, none⟩), Value.pointer (some ⟨b, 0, none⟩), Value.pointer (some ⟨b, 0, none⟩), Value.pointer (some ⟨b, 0, none⟩), vp, Value.pointer (some ⟨b, 0, none⟩), Value.pointer (some ⟨b, 0, none⟩), Value.pointer (some ⟨b, 1, none⟩), .slice (some ⟨gb, 0, none⟩) x.bs.length cb, .string (bst x.bs), .agg #[.int .i64 (-1), .string (bst x.bs)], .slice (some ⟨w.heap.size, 0, none⟩) 1 1, .slice (some ⟨g, 0, none⟩) (x.ps.length + 1) gc, Value.pointer (some ⟨b, 0, none⟩), Value.pointer (some ⟨b, 0, none⟩), undef, undef, undef, undef, undef, undef, undef, undef], defers := [] } Z := by
   intro g gc Z hZ hZb hZh;refine hK2 _ _ ?_;obtain ⟨_, vp', vb', k0, k1, k2⟩ := hZ;rw [hZh] at k0;cases k0;have d1 := clq 1 hZh rfl;have f1 := fzq 1 hZh;have ic : (0 : Int) <= (cb : Int) := by omega
   have hnew : Z.ownsRow B 5 1 (.slice (some ⟨gb, 0, none⟩) 0 cb) ([] : List UInt8).length (Lib.byteCells []) := by
    rcases k2.2 with ⟨h3, -⟩ | ⟨g', cap, cur, h3, q1, q2, q3, q4, q5, q6⟩
    ·cases h3
    ·cases h3;exact ⟨rfl, .inr ⟨gb, cb, cur, rfl, q1, q2, Nat.zero_le _, q4, q5, rfl⟩⟩
   have HF := hideT (xly (x := ⟨x.ps ++ [⟨-1, bst x.bs⟩], x.bs⟩) (bs := []) hB hZh k1 k2 ⟨rfl, rfl, rfl, Nat.le_refl _, fun _ _ _ => rfl⟩ hnew);have HZ := hideT hZb;clear hZb hZh k1 k2 hnew hK2 c0 c1;go_wp2
   go_end0
   refine ⟨rfl, ?_, HZ.out.trans HF.out.2⟩;unfold Ga.out;rw [if_neg he];exact HF.out.1
  have HKEY := hideT key;clear key hK2;have hA1 : Below w.heap.size w (w.drew.alloc (.cells #[.int .i64 (-1), .string (bst x.bs)] 266)) := ((Below.refl w.heap.size w).drew).alloc qr _;have hS0 : w.drew.cell? ⟨b, 1, none⟩ = some (.slice (some ⟨gb, 0, none⟩) x.bs.length cb) /\ w.drew.ownsRow B 5 1 (.slice (some ⟨gb, 0, none⟩) x.bs.length cb) x.bs.length (Lib.byteCells x.bs) := ⟨c1, owns_keep HG.out.2.2.2.1 (fun _ _ => rfl)⟩;have hS1 : (w.drew.alloc (.cells #[.int .i64 (-1), .string (bst x.bs)] 266)).cell? ⟨b, 1, none⟩ = some (.slice (some ⟨gb, 0, none⟩) x.bs.length cb) /\ (w.drew.alloc (.cells #[.int .i64 (-1), .string (bst x.bs)] 266)).ownsRow B 5 1 (.slice (some ⟨gb, 0, none⟩) x.bs.length cb) x.bs.length (Lib.byteCells x.bs) := ⟨keep_cell hA1 c1, owns_below HG.out.2.2.2.1 hA1⟩;refine wp_region_held (S := (fun V : World => V.cell? ⟨b, 1, none⟩ = some (.slice (some ⟨gb, 0, none⟩) x.bs.length cb) /\ V.ownsRow B 5 1 (.slice (some ⟨gb, 0, none⟩) x.bs.length cb) x.bs.length (Lib.byteCells x.bs))) (by kernel_rfl) ?_
  refine' take_d 0 (some 8) rfl rfl (by kernel_rfl) (by kernel_rfl) (by kernel_rfl) (fun _ _ _ h => h) (by rfl) hS0 ?hy1 ?rest1
  case hy1 => intro V hV; go_simp; (try with_reducible rfl)
  refine' take_d 1 (some 9) rfl rfl (by kernel_rfl) (by kernel_rfl) (by kernel_rfl) (fun _ _ _ h => h) (by rfl) hS0 ?hy2 ?rest2
  case hy2 => intro V hV; go_simp; (try with_reducible rfl)
  refine' take_d 2 (some 10) rfl rfl (by kernel_rfl) (by kernel_rfl) (by kernel_rfl) (fun _ _ _ h => h) (by rfl) hS0 ?hy3 ?rest3
  case hy3 => intro V hV; go_simp; (try with_reducible rfl)
  refine' take_d 3 (some 11) rfl rfl (by kernel_rfl) (by kernel_rfl) (by kernel_rfl) (fun _ _ _ h => h) (by rfl) hS0 ?hy4 ?rest4
  case hy4 => intro V hV; go_simp; (try with_reducible rfl)
  refine' take_d 5 (some 13) rfl rfl (by kernel_rfl) (by kernel_rfl) (by kernel_rfl) (fun _ _ _ h => h) (by rfl) hS0 ?hy5 ?rest5
  case hy5 => intro V hV; go_simp; (try with_reducible rfl)
  refine' take_d 6 (some 14) rfl rfl (by kernel_rfl) (by kernel_rfl) (by kernel_rfl) (fun _ _ _ h => h) (by rfl) hS0 ?hy6 ?rest6
  case hy6 => intro V hV; go_simp; (try with_reducible rfl)
  refine' take_d 7 (some 15) rfl rfl (by kernel_rfl) (by kernel_rfl) (by kernel_rfl) (fun _ _ _ h => h) (by rfl) hS0 ?hy7 ?rest7
  case hy7 => intro V hV; go_simp; (try with_reducible rfl)
  refine' take_d 8 (some 16) rfl rfl (by kernel_rfl) (by kernel_rfl) (by kernel_rfl) (fun _ _ _ h => h) (by rfl) hS0 ?hy8 ?rest8
  case hy8 => intro V hV; have cV := hV.1; go_simp; (try with_reducible rfl)
  refine' take_d 9 (some 17) rfl rfl (by kernel_rfl) (by kernel_rfl) (by kernel_rfl) (fun _ _ _ h => h) (by rfl) hS0 ?hy9 ?rest9
  case hy9 => intro V hV; have cV := conv_bytes hV.2; go_simp; (try with_reducible rfl)
  refine' take_d 10 (some 18) rfl rfl (by kernel_rfl) (by kernel_rfl) (by kernel_rfl) (fun _ _ _ h => h) (by rfl) hS0 ?hy10 ?rest10
  case hy10 => intro V hV; go_simp; (try with_reducible rfl)
  refine wpAnyH_all (rs := [4, 11]) (by kernel_rfl) (by simp) (fun i hi => ?_);have hc2 : i = 4 \/ i = 11 := by simpa using hi
  rcases hc2 with rfl | rfl
  ·have cD : w.drew.cell? ⟨b, 0, none⟩ = some vp := c0;refine op_value (some 12) rfl rfl (by rfl) (v := vp) (w' := w.drew) (by go_simp; (try with_reducible rfl)) ?_;refine And.intro hS0 ?_;refine wpAnyH_all (rs := [11]) (by kernel_rfl) (by simp) (fun i hi => ?_);obtain rfl : i = 11 := List.mem_singleton.1 hi;refine op_value (some 19) rfl rfl (by rfl) (v := .slice (some ⟨w.heap.size, 0, none⟩) 1 1) (w' := (w.drew.alloc (.cells #[.int .i64 (-1), .string (bst x.bs)] 266))) (by go_simp; (try with_reducible rfl)) ?_;refine And.intro hS1 ?_;simp only [Act.put, List.setIfInBounds_toArray, List.set_cons_zero, List.set_cons_succ];clear cD;refine wpAnyH_all (rs := [12]) (by kernel_rfl) (by simp) (fun i hi => ?_);obtain rfl : i = 12 := List.mem_singleton.1 hi;refine op_of rfl (wanted_none rfl _) (wp_append_lies _ _ _ _ rfl B 266 i0 (.agg #[.int .i64 0, .string ⟨#[]⟩]) 2 24 und22 hi0 hz0 hz1 hz2 rfl (by omega) vp x.ps.length (ptV x.ps) rfl (owns_below HG.out.2.2.1 hA1) ⟨w.heap.size, 0, none⟩ 1 1 [.int .i64 (-1), .string (bst x.bs)] rfl rfl (fun j u hj => new_cells w.drew [.int .i64 (-1), .string (bst x.bs)] 266 j u hj) (by simp [Value.oneCell']) (by omega) (by unfold maxLen; omega) (by omega) (by have := hA1.size; have := HG.out.2.2.2.2; omega) (w.heap.size + 1) (by simp) ?_);intro g gc w2 hown hgr hat hglt;have hb1 : (w.drew.alloc (.cells #[.int .i64 (-1), .string (bst x.bs)] 266)).heap[b]? = some (.cells #[vp, .slice (some ⟨gb, 0, none⟩) x.bs.length cb] 422) := (hA1.block b HG.out.2.2.2.2).trans HG.out.2.1;have hF := xhm (x := x) (ps := x.ps ++ [⟨-1, bst x.bs⟩]) hB hb1 (owns_below HG.out.2.2.1 hA1) hS1.2 hgr (by rw [xj5, List.length_append]; exact hown)
   have hbw2 : w2.heap[b]? = some (.cells #[vp, .slice (some ⟨gb, 0, none⟩) x.bs.length cb] 422) := (hgr.block b (Nat.lt_of_lt_of_le HG.out.2.2.2.2 hA1.size) (fun e => by
    obtain ⟨_, _, cur, h3⟩ := owns_blk (owns_below HG.out.2.2.1 hA1) e.symm;rw [hb1] at h3;cases h3)).trans hb1
   have c2 := clq 0 hbw2 rfl;have f2 := fzq 0 hbw2;have hs2 : w2.cell? ⟨b, 1, none⟩ = some (.slice (some ⟨gb, 0, none⟩) x.bs.length cb) /\ w2.ownsRow B 5 1 (.slice (some ⟨gb, 0, none⟩) x.bs.length cb) x.bs.length (Lib.byteCells x.bs) := ⟨by simp [World.cell?, hbw2], owns_keep hS1.2 (fun g' e => hgr.block g' (owns_blk hS1.2 e).2.1 (fun e2 => by
    obtain ⟨_, _, cur, h3⟩ := owns_blk (owns_below HG.out.2.2.1 hA1) e2.symm;obtain ⟨_, _, cur2, h4⟩ := owns_blk hS1.2 e;rw [h3] at h4;cases h4))⟩
   have hZh : (w2.setCell ⟨b, 0, none⟩ (.slice (some ⟨g, 0, none⟩) (x.ps.length + 1) gc)).heap[b]? = some (.cells #[.slice (some ⟨g, 0, none⟩) (x.ps.length + 1) gc, .slice (some ⟨gb, 0, none⟩) x.bs.length cb] 422) := by
    simp only [World.setCell, Array.getElem?_modify, if_true, hbw2, Option.map_some];rfl
   refine And.intro hs2 ?_
   refine' take_d 13 (some 21) rfl rfl (by kernel_rfl) (by kernel_rfl) (by kernel_rfl) (fun _ _ _ h => h) (by rfl) hs2 ?hy11 ?rest11
   case hy11 => intro V hV; go_simp; (try with_reducible rfl)
   refine' take_d 14 (some 22) rfl rfl (by kernel_rfl) (by kernel_rfl) (by kernel_rfl) (fun _ _ _ h => h) (by rfl) hs2 ?hy12 ?rest12
   case hy12 => intro V hV; go_simp; (try with_reducible rfl)
   exact btd0
  ·refine op_value (some 19) rfl rfl (by rfl) (v := .slice (some ⟨w.heap.size, 0, none⟩) 1 1) (w' := (w.drew.alloc (.cells #[.int .i64 (-1), .string (bst x.bs)] 266))) (by go_simp; (try with_reducible rfl)) ?_;refine And.intro hS1 ?_;have cD : (w.drew.alloc (.cells #[.int .i64 (-1), .string (bst x.bs)] 266)).cell? ⟨b, 0, none⟩ = some vp := keep_cell hA1 c0;refine wpAnyH_all (rs := [4]) (by kernel_rfl) (by simp) (fun i hi => ?_);obtain rfl : i = 4 := List.mem_singleton.1 hi;refine op_value (some 12) rfl rfl (by rfl) (v := vp) (w' := (w.drew.alloc (.cells #[.int .i64 (-1), .string (bst x.bs)] 266))) (by generalize (w.drew.alloc (.cells #[.int .i64 (-1), .string (bst x.bs)] 266)) = Y1 at *; go_simp; (try with_reducible rfl)) ?_;refine And.intro hS1 ?_;simp only [Act.put, List.setIfInBounds_toArray, List.set_cons_zero, List.set_cons_succ];clear cD;refine wpAnyH_all (rs := [12]) (by kernel_rfl) (by simp) (fun i hi => ?_);obtain rfl : i = 12 := List.mem_singleton.1 hi;refine op_of rfl (wanted_none rfl _) (wp_append_lies _ _ _ _ rfl B 266 i0 (.agg #[.int .i64 0, .string ⟨#[]⟩]) 2 24 und22 hi0 hz0 hz1 hz2 rfl (by omega) vp x.ps.length (ptV x.ps) rfl (owns_below HG.out.2.2.1 hA1) ⟨w.heap.size, 0, none⟩ 1 1 [.int .i64 (-1), .string (bst x.bs)] rfl rfl (fun j u hj => new_cells w.drew [.int .i64 (-1), .string (bst x.bs)] 266 j u hj) (by simp [Value.oneCell']) (by omega) (by unfold maxLen; omega) (by omega) (by have := hA1.size; have := HG.out.2.2.2.2; omega) (w.heap.size + 1) (by simp) ?_);intro g gc w2 hown hgr hat hglt;have hb1 : (w.drew.alloc (.cells #[.int .i64 (-1), .string (bst x.bs)] 266)).heap[b]? = some (.cells #[vp, .slice (some ⟨gb, 0, none⟩) x.bs.length cb] 422) := (hA1.block b HG.out.2.2.2.2).trans HG.out.2.1
   have hF := xhm (x := x) (ps := x.ps ++ [⟨-1, bst x.bs⟩]) hB hb1 (owns_below HG.out.2.2.1 hA1) hS1.2 hgr (by rw [xj5, List.length_append]; exact hown);have hbw2 : w2.heap[b]? = some (.cells #[vp, .slice (some ⟨gb, 0, none⟩) x.bs.length cb] 422) := (hgr.block b (Nat.lt_of_lt_of_le HG.out.2.2.2.2 hA1.size) (fun e => by
    obtain ⟨_, _, cur, h3⟩ := owns_blk (owns_below HG.out.2.2.1 hA1) e.symm;rw [hb1] at h3;cases h3)).trans hb1
   have c2 := clq 0 hbw2 rfl;have f2 := fzq 0 hbw2;have hs2 : w2.cell? ⟨b, 1, none⟩ = some (.slice (some ⟨gb, 0, none⟩) x.bs.length cb) /\ w2.ownsRow B 5 1 (.slice (some ⟨gb, 0, none⟩) x.bs.length cb) x.bs.length (Lib.byteCells x.bs) := ⟨by simp [World.cell?, hbw2], owns_keep hS1.2 (fun g' e => hgr.block g' (owns_blk hS1.2 e).2.1 (fun e2 => by
    obtain ⟨_, _, cur, h3⟩ := owns_blk (owns_below HG.out.2.2.1 hA1) e2.symm;obtain ⟨_, _, cur2, h4⟩ := owns_blk hS1.2 e;rw [h3] at h4;cases h4))⟩
   have hZh : (w2.setCell ⟨b, 0, none⟩ (.slice (some ⟨g, 0, none⟩) (x.ps.length + 1) gc)).heap[b]? = some (.cells #[.slice (some ⟨g, 0, none⟩) (x.ps.length + 1) gc, .slice (some ⟨gb, 0, none⟩) x.bs.length cb] 422) := by
    simp only [World.setCell, Array.getElem?_modify, if_true, hbw2, Option.map_some];rfl
   refine And.intro hs2 ?_
   refine' take_d 13 (some 21) rfl rfl (by kernel_rfl) (by kernel_rfl) (by kernel_rfl) (fun _ _ _ h => h) (by rfl) hs2 ?hy13 ?rest13
   case hy13 => intro V hV; go_simp; (try with_reducible rfl)
   refine' take_d 14 (some 22) rfl rfl (by kernel_rfl) (by kernel_rfl) (by kernel_rfl) (fun _ _ _ h => h) (by rfl) hs2 ?hy14 ?rest14
   case hy14 => intro V hV; go_simp; (try with_reducible rfl)
   exact btd0
theorem xiv (n : Int) (w : World) (h : GaAt w B b x) (hp : x.ps.length <= 1000000000) (hn : x.bs.length <= 1073741824) :
  Calls Tryz.prog 258 #[.pointer (some ⟨b, 0, none⟩), .int .i64 n] w fun e w' => e = .returned (.tuple #[]) /\ GaAt w' B b (x.group n) /\ Below B w w' := by
 obtain ⟨i0, hi0, hz0, hz1, hz2⟩ := info_parts info48;have ho := out_len x;have hob := out_bs x;have HL := hideT (xgz w h (by omega) hn);unfold Ga.group;clear h;generalize x.out = y at *;go_enter Tryz.func258, Tryz.ntmps258
 go_wp2_with (go_at_call 261; refine HL.out.mono ?_)
 rintro e w1 ⟨rfl, h, hb1⟩;have hlt := h.lt;have hA := Bal w1 (.cells #[.int .i64 n, .string ⟨#[]⟩] 266);have hw := h.stay hA;obtain ⟨hB, vp, vb, h0, h1, h2⟩ := h;obtain ⟨_, vp', vb', k0, k1, k2⟩ := hw;have e0 := (hA.block b hlt).trans h0;rw [k0] at e0;cases e0;have c1 := clq 0 h0 rfl;have HN := hideT (new_cells w1 [.int .i64 n, .string ⟨#[]⟩] 266);have HS := hideT (And.intro hlt (And.intro hA hb1));have HK := hideT (And.intro k0 (And.intro k1 k2));clear hlt hA k0 k2 h0 h1 h2 hb1
 go_wp2_with (at_builtin; refine wpList_append_lies _ rfl _ _ 69 rfl B 266 i0 _ 2 24 und22 hi0 hz0 hz1 hz2 rfl (by omega) vp y.ps.length (ptV y.ps) rfl k1 ⟨w1.heap.size, 0, none⟩ 1 1 [.int .i64 n, .string ⟨#[]⟩] rfl rfl (fun j u hj => HN.out j u hj) (by simp [Value.oneCell']) (by omega) (by unfold maxLen; omega) (by omega) (by have := HS.out.1; simp; omega) _ rfl ?_)
 intro g gc w2 hown hgr hat hglt;have b2 : w2.heap[b]? = some (.cells #[vp, vb] 422) := (hgr.block b (Nat.lt_of_lt_of_le HS.out.1 HS.out.2.1.size) (fun e => by
  obtain ⟨_, _, cur, h3⟩ := owns_blk HK.out.2.1 e.symm;rw [HK.out.1] at h3;cases h3)).trans HK.out.1
 have d1 := clq 0 b2 rfl;have f1 := fzq 0 b2;have HF := hideT (xhm (ps := y.ps ++ [⟨n, bst []⟩]) hB HK.out.1 HK.out.2.1 HK.out.2.2 hgr (by rw [xj5, List.length_append]; exact hown));clear hgr hown b2 k1;go_wp2
 go_end0
 rw [hob] at HF;exact ⟨rfl, HF.out.1, (HS.out.2.2.trans (HS.out.2.1.mono (Nat.le_of_lt (Nat.lt_of_le_of_lt hB HS.out.1)))).trans HF.out.2⟩
theorem xkb (c : UInt8) (w : World) (h : GaAt w B b x) (hp : x.ps.length <= 1000000000) (hn : x.bs.length <= 1073741824) :
  Calls Tryz.prog 260 #[.pointer (some ⟨b, 0, none⟩), .int .u8 c.toNat] w fun e w' => e = .returned (.tuple #[]) /\ GaAt w' B b (x.esc c) /\ Below B w w' := by
 have hc := c.toNat_lt;by_cases c1 : 48 <= c.toNat /\ c.toNat <= 57
 ·have HG := hideT (xiv ((c.toNat - 48 : Nat) : Int) w h hp hn);have j1 : (48 : Int) <= (c.toNat : Int) := by omega
  have j2 : (c.toNat : Int) <= 57 := by omega
  have j3 : IntKind.u8.wrap ((c.toNat : Int) - 48) = ((c.toNat - 48 : Nat) : Int) := by rw [IntKind.wrap_u8]; omega
  have j4 : IntKind.i64.wrap ((c.toNat - 48 : Nat) : Int) = ((c.toNat - 48 : Nat) : Int) := by rw [IntKind.wrap_i64]; omega
  have hx : x.esc c = x.group ((c.toNat - 48 : Nat) : Int) := by unfold Ga.esc; rw [if_pos c1]
  rw [hx];go_enter Tryz.func260, Tryz.ntmps260
  go_wp2_with (go_at_call 258; refine HG.out.mono ?_)
  rintro e w1 ⟨rfl, h1, hb1⟩;go_wp2
  go_end0
  exact ⟨rfl, h1, hb1⟩
 ·by_cases c2 : c.toNat = 110
  ·have HG := hideT (xf6 10 w h hn);have hx : x.esc c = x.plain 10 := by unfold Ga.esc; rw [if_neg c1, if_pos c2]
   rw [hx, c2];exact btd1
  ·have HG := hideT (xf6 c w h hn);have hx : x.esc c = x.plain c := by unfold Ga.esc; rw [if_neg c1, if_neg c2]
   rw [hx];have j3 : ((c.toNat : Int) == 110) = false := qn;by_cases c3 : 48 <= c.toNat
   ·have j1 : (48 : Int) <= (c.toNat : Int) := by omega
    have j2 : ((c.toNat : Int) <= 57) = False := qg;exact btd1
   ·have j1 : ((48 : Int) <= (c.toNat : Int)) = False := qg;exact btd1
theorem xlz (k : Nat) (x : Ga) : runP [] k x = (x.out, 0, 0) := by unfold runP; rfl
theorem xl0 (b : UInt8) (r : List UInt8) (k : Nat) (x : Ga) (h : b.toNat = 38) : runP (b :: r) k x = runP r (k + 1) (x.group 0) := by
 rw [runP.eq_def];dsimp only;rw [if_pos h]
theorem xol (b : UInt8) (r : List UInt8) (k : Nat) (x : Ga) (h : b.toNat = 10) : runP (b :: r) k x = (⟨[], []⟩, 19, k) := by
 rw [runP.eq_def];dsimp only;rw [if_neg (by omega), if_pos h]
theorem xom (b : UInt8) (r : List UInt8) (k : Nat) (x : Ga) (h1 : b.toNat ≠ 38) (h2 : b.toNat ≠ 10) (h3 : b.toNat ≠ 92) : runP (b :: r) k x = runP r (k + 1) (x.plain b) := by
 rw [runP.eq_def];dsimp only;rw [if_neg h1, if_neg h2, if_pos h3]
theorem xl1 (b : UInt8) (k : Nat) (x : Ga) (h : b.toNat = 92) : runP [b] k x = (⟨[], []⟩, 6, k) := by
 rw [runP, if_neg (by omega), if_neg (by omega), if_neg (by omega)]
theorem xl2 (b c : UInt8) (q : List UInt8) (k : Nat) (x : Ga) (h : b.toNat = 92) : runP (b :: c :: q) k x = runP q (k + 2) (x.esc c) := by
 rw [runP, if_neg (by omega), if_neg (by omega), if_neg (by omega)]
theorem drop_at (s : ByteArray) (k : Nat) (h : k < s.size) : s.data.toList.drop k = s[k] :: s.data.toList.drop (k + 1) := by
 rw [List.drop_eq_getElem_cons (by simpa using h)];rfl
theorem esc_wt (x : Ga) (c : UInt8) : (x.esc c).wt <= x.wt + 1 := by
 unfold Ga.esc;split
 ·exact xhj _ _
 ·split <;> exact xhi _ _
theorem xl3 (x : Ga) (n : Int) : (x.group n).bs = [] := rfl
theorem xl4 (x : Ga) (b : UInt8) : (x.plain b).bs.length = x.bs.length + 1 := by simp [Ga.plain]
theorem esc_bs (x : Ga) (c : UInt8) : (x.esc c).bs.length <= x.bs.length + 1 := by
 unfold Ga.esc;split
 ·rw [xl3]; simp
 ·split <;> rw [xl4] <;> omega
theorem ps_wt (x : Ga) : x.ps.length <= x.wt := by unfold Ga.wt; omega
theorem range_block {cs : List Value} {t : TypeId} (h : W.heap[b]? = some (.cells cs.toArray t fr)) : W.rangeAt b 0 cs := fun j v hv => by
 simp [World.cell?, h, hv]
theorem info25 : (Tryz.prog.info? 45).map (·.size) = some 2 := by kernel_rfl
theorem fault_result {fn : Func} {r : Nat} {tmps : Array Value} {x : Value} (hf : fn.results = #[.tmp t, .cell r 45]) (hr : tmps[r]?.getD undef = .pointer (some ⟨b, 0, none⟩)) (h : W.heap[b]? = some (.cells #[x, y] 45 fr)) : (results fn tmps).run Tryz.prog W = .ok (.tuple #[tmps.getD t undef, .agg #[x, y]]) W := by
 have := run_loadVar_mid (P := Tryz.prog) W b 0 45 [x, y] _ (range_block h) Tryz.underlying45 rfl (by rw [info25]; rfl);simp [results, hf, asAddr, hr, this]
theorem put2 {x : Value} (h : W.heap[b]? = some (.cells #[x, y] t (0, 0))) (u v : Value) : ((W.setCell ⟨b, 0, none⟩ u).setCell ⟨b, 1, none⟩ v).heap[b]? = some (.cells #[u, v] t (0, 0)) := by
 simp only [World.setCell, Array.getElem?_modify, if_true, h, Option.map_some];rfl
theorem xon {size : Nat} {v x : Value} (h : W.ownsRow B e size v n xs) (hb : W.heap[b]? = some (.cells #[x, y] t (0, 0))) (ht : e ≠ t) (u u' : Value) : ((W.setCell ⟨b, 0, none⟩ u).setCell ⟨b, 1, none⟩ u').ownsRow B e size v n xs :=
 owns_keep h fun g hg => by
  obtain ⟨_, _, cur, h3⟩ := owns_blk h hg;have hne : g ≠ b := fun e2 => by
   rw [e2, hb] at h3;cases h3;exact ht rfl
  rw [put_far _ _ _ _ hne, put_far _ _ _ _ hne]
theorem owns_mono {B' size : Nat} {v : Value} (h : W.ownsRow B e size v n xs) (hb : B' <= B) : W.ownsRow B' e size v n xs := by
 obtain ⟨hl, h⟩ := h;refine ⟨hl, ?_⟩;rcases h with h | ⟨g, cap, cur, hv, hg, rest⟩
 ·exact .inl h
 ·exact .inr ⟨g, cap, cur, hv, Nat.le_trans hb hg, rest⟩
def PaR (X0 : World) (B : Nat) (s : ByteArray) (k : Nat) (x : Ga) (W : World) : Prop :=
 GaAt W B B x /\ Below B X0 W /\ runP (s.data.toList.drop k) k x = runP s.data.toList 0 ⟨[], []⟩ /\ x.wt <= k /\ x.bs.length <= k
theorem ga_new (w : World) : GaAt (w.alloc (.cells #[.slice none 0 0, .slice none 0 0] 422)) w.heap.size w.heap.size ⟨[], []⟩ :=
 ⟨Nat.le_refl _, _, _, heap_alloc_new w _, World.ownsRow_nil _ _ _ _, World.ownsRow_nil _ _ _ _⟩
theorem parse_any (s : ByteArray) (hs : s.size <= 4611686018427387904) (w : World) :
  Calls Tryz.prog 214 #[.string s] w fun e w' => ∃ v, e = .returned (.tuple #[v, .agg #[.int .i64 ((xap s.data.toList).2.1 : Nat), .int .i64 ((xap s.data.toList).2.2 : Nat)]]) /\ w'.ownsRow w.heap.size 266 2 v (xap s.data.toList).1.ps.length (ptV (xap s.data.toList).1.ps) /\ Below w.heap.size w w' := by
 have hlen : s.data.toList.length = s.size := rfl;by_cases hbig : 4096 < s.size
 ·have hp : xap s.data.toList = (⟨[], []⟩, 2, 0) := by unfold xap; rw [hlen, if_pos hbig]
  rw [hp];have i1 : (4096 : Int) < (s.size : Int) := by omega
  have HB := hideT ((Below.refl _ w).alloc qr (.cells #[.int .i64 2, .int .i64 0] 45));go_enter Tryz.func214, Tryz.ntmps214;go_wp2;refine bodyPost_ret (fault_result rfl rfl (heap_alloc_new w _)) rfl ?_;exact ⟨.slice none 0 0, rfl, World.ownsRow_nil _ _ _ _, HB.out⟩
 ·have hp : xap s.data.toList = runP s.data.toList 0 ⟨[], []⟩ := by unfold xap; rw [hlen, if_neg hbig]
  rw [hp];generalize hR : runP s.data.toList 0 ⟨[], []⟩ = R;have HR := hideT hR;clear hR hp;have i1 : ((s.size : Int) <= 4096) := by omega
  have i1' : ((4096 : Int) < (s.size : Int)) = False := qg;have hX0 := (Below.refl _ w).alloc qr (.cells #[.int .i64 0, .int .i64 0] 45);have x0 : (w.alloc (.cells #[.int .i64 0, .int .i64 0] 45)).heap[w.heap.size]? = some (.cells #[.int .i64 0, .int .i64 0] 45) := heap_alloc_new w _;have hga := ga_new (w.alloc (.cells #[.int .i64 0, .int .i64 0] 45));have hX1 := (Below.refl _ (w.alloc (.cells #[.int .i64 0, .int .i64 0] 45))).alloc qr (.cells #[.slice none 0 0, .slice none 0 0] 422);rw [World.size_alloc] at hga hX1;go_enter Tryz.func214, Tryz.ntmps214
  go_wp2_with fail
  generalize hV0 : (w.alloc (.cells #[.int .i64 0, .int .i64 0] 45)).alloc (.cells #[.slice none 0 0, .slice none 0 0] 422) = V0 at *;clear hV0;generalize hX : w.alloc (.cells #[.int .i64 0, .int .i64 0] 45) = X0 at *;clear hX
  go_loopw [5] (fun i wr => ∃ (k : Nat) (x : Ga), k <= s.size /\ i = .int .i64 k /\ PaR X0 (w.heap.size + 1) s k x wr) (fun i _ => s.size - (intOf i).toNat)
  case atStart => exact ⟨0, ⟨[], []⟩, by omega, rfl, hga, hX1, by simp, by simp [Ga.wt], by simp⟩
  case round =>
   obtain ⟨k, x, hk, rfl, hG, hBw, hrun, hwt, hbs⟩ := hrel;have hps := ps_wt x;have xr := (hBw.block w.heap.size (by omega)).trans x0;by_cases hlt : k < s.size
   ·have i2 : (k : Int) < (s.size : Int) := by omega
    have i3 : (0 : Int) <= (k : Int) := by omega
    rw [drop_at s k hlt] at hrun;have u0 := clq 0 xr rfl;have u1 := clq 1 xr rfl;have f0 := fzq 0 xr;have f1 := fzq 1 xr;by_cases c1 : (s[k]'hlt).toNat = 38
    ·rw [xl0 _ _ _ _ c1] at hrun;have e1 : (((s[k]'hlt).toNat : Int) == 38) = true := by rw [beq_iff_eq]; omega
     have HC := hideT (xiv 0 wr hG (by omega) (by omega));have HS := hideT (And.intro hBw (And.intro hrun (And.intro (xhj x 0) (xl3 x 0))));clear hG hBw hrun xr x0 hX0 hX1 hga
     go_wp2_with (go_at_call 258; refine HC.out.mono ?_)
     rintro e w1 ⟨rfl, h1, hb1⟩;have HH := hideT (And.intro h1 hb1);clear h1 hb1 u0 u1 f0 f1;go_wp2;exact ⟨⟨k + 1, x.group 0, by omega, by go_num, HH.out.1, HS.out.1.trans HH.out.2, HS.out.2.1, by have := HS.out.2.2.1; omega, by rw [HS.out.2.2.2]; simp⟩, by simp [intOf]; omega⟩
    have e1 : (((s[k]'hlt).toNat : Int) == 38) = false := qn;by_cases c2 : (s[k]'hlt).toNat = 10
    ·rw [xol _ _ _ _ c2] at hrun;have e2 : (((s[k]'hlt).toNat : Int) == 10) = true := by rw [beq_iff_eq]; omega
     obtain rfl := hrun.trans HR.out;clear HR;have HX : Hid _ := hideT (And.intro (put2 xr (.int .i64 19) (.int .i64 k)) (((hX0.trans (hBw.mono (by omega))).setCell (p := ⟨w.heap.size, 0, none⟩) qr (.int .i64 19)).setCell (p := ⟨w.heap.size, 1, none⟩) qr (.int .i64 k)));exact btd2
    have e2 : (((s[k]'hlt).toNat : Int) == 10) = false := qn;by_cases c3 : (s[k]'hlt).toNat = 92
    ·have e3 : (((s[k]'hlt).toNat : Int) != 92) = false := by rw [bne_eq_false_iff_eq]; omega
     by_cases c4 : k + 1 = s.size
     ·rw [show s.data.toList.drop (k + 1) = [] by rw [List.drop_eq_nil_iff, hlen]; omega, xl1 _ _ _ c3] at hrun;have e4 : ((k : Int) == (s.size : Int) - 1) = true := by rw [beq_iff_eq]; omega
      have j4 : IntKind.i64.wrap ((s.size : Int) - 1) = (s.size : Int) - 1 := by rw [IntKind.wrap_i64]; omega
      obtain rfl := hrun.trans HR.out;clear HR;have HX : Hid _ := hideT (And.intro (put2 xr (.int .i64 6) (.int .i64 k)) (((hX0.trans (hBw.mono (by omega))).setCell (p := ⟨w.heap.size, 0, none⟩) qr (.int .i64 6)).setCell (p := ⟨w.heap.size, 1, none⟩) qr (.int .i64 k)));exact btd2
     ·have hlt2 : k + 1 < s.size := by omega
      rw [drop_at s (k + 1) hlt2, xl2 _ _ _ _ _ c3] at hrun;have e4 : ((k : Int) == (s.size : Int) - 1) = false := qn;have j4 : IntKind.i64.wrap ((s.size : Int) - 1) = (s.size : Int) - 1 := by rw [IntKind.wrap_i64]; omega
      have i4 : (k : Int) + 1 < (s.size : Int) := by omega
      have i5 : (0 : Int) <= (k : Int) + 1 := by omega
      have HC := hideT (xkb (s[k + 1]'hlt2) wr hG (by omega) (by omega));have HS := hideT (And.intro hBw (And.intro hrun (And.intro (esc_wt x (s[k + 1]'hlt2)) (esc_bs x (s[k + 1]'hlt2)))));clear hG hBw hrun xr x0 hX0 hX1 hga u0 u1 f0 f1
      go_wp2_with (go_at_call 260; refine HC.out.mono ?_)
      rintro e w1 ⟨rfl, h1, hb1⟩;have HH := hideT (And.intro h1 hb1);clear h1 hb1;go_wp2;exact ⟨⟨k + 2, x.esc (s[k + 1]'hlt2), by omega, by go_num, HH.out.1, HS.out.1.trans HH.out.2, HS.out.2.1, by have := HS.out.2.2.1; omega, by have := HS.out.2.2.2; omega⟩, by simp [intOf]; omega⟩
    ·have e3 : (((s[k]'hlt).toNat : Int) != 92) = true := qb;rw [xom _ _ _ _ c1 c2 c3] at hrun;have HC := hideT (xf6 (s[k]'hlt) wr hG (by omega));have HS := hideT (And.intro hBw (And.intro hrun (And.intro (xhi x (s[k]'hlt)) (xl4 x (s[k]'hlt)))));clear hG hBw hrun xr x0 hX0 hX1 hga u0 u1 f0 f1
     go_wp2_with (go_at_call 259; refine HC.out.mono ?_)
     rintro e w1 ⟨rfl, h1, hb1⟩;have HH := hideT (And.intro h1 hb1);clear h1 hb1;go_wp2;exact ⟨⟨k + 1, x.plain (s[k]'hlt), by omega, by go_num, HH.out.1, HS.out.1.trans HH.out.2, HS.out.2.1, by have := HS.out.2.2.1; omega, by rw [HS.out.2.2.2]; omega⟩, by simp [intOf]; omega⟩
   ·obtain rfl : k = s.size := by omega
    rw [show s.data.toList.drop s.size = [] by rw [List.drop_eq_nil_iff, hlen]; omega, xlz] at hrun;obtain rfl := hrun.trans HR.out;clear HR;have HC := hideT (xgz wr hG (by omega) (by omega))
    go_wp2_with (go_at_call 261; refine HC.out.mono ?_)
    rintro e w1 ⟨rfl, h1, hb1⟩;have xr1 := (hb1.block w.heap.size (by omega)).trans xr;obtain ⟨_, vp, vb, k0, k1, k2⟩ := h1;have u0 := clq 0 xr1 rfl;have u1 := clq 1 xr1 rfl;have f0 := fzq 0 xr1;have f1 := fzq 1 xr1;have p0 := clq 0 k0 rfl;have HX := hideT (And.intro (put2 xr1 (.int .i64 0) (.int .i64 0)) (And.intro (((hX0.trans ((hBw.trans hb1).mono (by omega))).setCell (p := ⟨w.heap.size, 0, none⟩) qr (.int .i64 0)).setCell (p := ⟨w.heap.size, 1, none⟩) qr (.int .i64 0)) (xon k1 xr1 (by decide) (.int .i64 0) (.int .i64 0))));clear hG hBw xr xr1 x0 hX0 hX1 hga hb1 k0 k1 k2 hwt hbs;go_wp2;refine bodyPost_ret (fault_result rfl rfl HX.out.1) rfl ?_;refine ⟨vp, rfl, ?_, HX.out.2.1⟩;exact owns_mono HX.out.2.2 (by omega)
end tpl
end Go.Proofs.YtcpokkpjeeblnaaGreatDoor
