/- template: what was gathered, in memory; plain, letOut, group, escaped. -/
import Derived.Test.YtjfkhlmoppbbgaaGreatDoorKTa
import Derived.OwnWalk
import Derived.Deep.AppendLies
import Derived.Lib.Builder
import Derived.Laws.OwnMore
import Derived.Deep.RegionWith
import Derived.Deep.RegionLaw
import Derived.OrdersHeld
import Derived.Deep.RegionHeld3
namespace Go.Proofs.YtjfkhlmoppbbgaaGreatDoor
namespace tpl
open Go.RowKit

theorem owns_blk {W : World} {B e size n : Nat} {v : Value} {xs : List Value} (h : W.ownsRow B e size v n xs) {g : Nat} (hg : v.ownBlock = some g) : B ≤ g ∧ g < W.heap.size ∧ ∃ cur, W.heap[g]? = some (.cells cur e (0, 0)) := by
  rcases h.2 with ⟨rfl, _⟩ | ⟨g', cap', cur, rfl, hb, hh, _⟩
  · cases hg
  · cases hg
    exact ⟨hb, (Array.getElem?_eq_some_iff.1 hh).1, cur, hh⟩
theorem owns_keep {W W' : World} {B e size n : Nat} {v : Value} {xs : List Value} (h : W.ownsRow B e size v n xs) (hk : ∀ g, v.ownBlock = some g → W'.heap[g]? = W.heap[g]?) : W'.ownsRow B e size v n xs := by
  obtain ⟨hl, h⟩ := h
  refine ⟨hl, ?_⟩
  rcases h with h | ⟨g, cap, cur, hv, hg, hh, rest⟩
  · exact .inl h
  · exact .inr ⟨g, cap, cur, hv, hg, (hk g (by rw [hv]; rfl)).trans hh, rest⟩
theorem owns_below {w w' : World} {base : Nat} {e : TypeId} {size : Nat} {v : Value} {n : Nat} {xs : List Value} (h : w.ownsRow base e size v n xs) (hb : Below w.heap.size w w') : w'.ownsRow base e size v n xs :=
  owns_keep h fun g hg => hb.block g (owns_blk h hg).2.1
theorem owns_shape {W : World} {B e size n : Nat} {v : Value} {xs : List Value} (h : W.ownsRow B e size v n xs) : ∃ a c, v = .slice a n c := by
  rcases h.2 with ⟨rfl, rfl⟩ | ⟨g, cap, cur, rfl, _⟩
  · exact ⟨_, _, rfl⟩
  · exact ⟨_, _, rfl⟩
theorem put_far (W : World) (b k : Nat) (u : Value) {j : Nat} (h : j ≠ b) : (W.setCell ⟨b, k, none⟩ u).heap[j]? = W.heap[j]? := Below.heap_setCell W ⟨b, k, none⟩ u j h

/-- What was gathered lies at block b; its rows from B on. -/
def GaAt (W : World) (B b : Nat) (x : Ga) : Prop :=
  B ≤ b ∧ ∃ vp vb, W.heap[b]? = some (.cells #[vp, vb] 166 (0, 0)) ∧ W.ownsRow B 47 2 vp x.ps.length (ptV x.ps) ∧ W.ownsRow B 5 1 vb x.bs.length (Lib.byteCells x.bs)

theorem GaAt.stay {W W' : World} {B b : Nat} {x : Ga} (h : GaAt W B b x) (hb : Below W.heap.size W W') : GaAt W' B b x := by
  obtain ⟨hB, vp, vb, h0, h1, h2⟩ := h
  exact ⟨hB, vp, vb, (hb.block b (Array.getElem?_eq_some_iff.1 h0).1).trans h0, owns_below h1 hb, owns_below h2 hb⟩
theorem GaAt.lt {W : World} {B b : Nat} {x : Ga} (h : GaAt W B b x) : b < W.heap.size := by
  obtain ⟨hB, vp, vb, h0, h1, h2⟩ := h
  exact (Array.getElem?_eq_some_iff.1 h0).1

/-- The bytes' row has grown. -/
theorem ga_bytes {W W2 : World} {B b : Nat} {x : Ga} {bs : List UInt8} {vp vb v : Value} (hB : B ≤ b) (h0 : W.heap[b]? = some (.cells #[vp, vb] 166 (0, 0))) (h1 : W.ownsRow B 47 2 vp x.ps.length (ptV x.ps)) (h2 : W.ownsRow B 5 1 vb x.bs.length (Lib.byteCells x.bs)) (hg : W.grownBy W2 vb.ownBlock) (ho : W2.ownsRow B 5 1 v bs.length (Lib.byteCells bs)) : GaAt (W2.setCell ⟨b, 1, none⟩ v) B b ⟨x.ps, bs⟩ ∧ Below B W (W2.setCell ⟨b, 1, none⟩ v) := by
  have hblt := (Array.getElem?_eq_some_iff.1 h0).1
  have n2 : vb.ownBlock ≠ some b := fun e => by
    obtain ⟨_, _, cur, h⟩ := owns_blk h2 e
    rw [h0] at h
    cases h
  have b2 : W2.heap[b]? = some (.cells #[vp, vb] 166 (0, 0)) := (hg.block b hblt (fun e => n2 e.symm)).trans h0
  refine ⟨⟨hB, vp, v, ?_, ?_, ?_⟩, ?_⟩
  · simp only [World.setCell, Array.getElem?_modify, if_true, b2, Option.map_some]
    rfl
  · refine owns_keep h1 fun g e => ?_
    obtain ⟨_, hlt, cur, h⟩ := owns_blk h1 e
    rw [put_far _ _ _ _ (fun e2 => by rw [e2, h0] at h; cases h)]
    exact hg.block g hlt (fun e2 => by
      obtain ⟨_, _, cur2, h3⟩ := owns_blk h2 e2.symm
      rw [h] at h3
      cases h3)
  · refine owns_keep ho fun g e => ?_
    obtain ⟨_, _, cur, h⟩ := owns_blk ho e
    exact put_far _ _ _ _ (fun e2 => by rw [e2, b2] at h; cases h)
  · exact (((Below.refl B W).grown hg (Nat.le_of_lt (Nat.lt_of_le_of_lt hB hblt)) (fun k hk => (owns_blk h2 hk).1))).setCell (p := ⟨b, 1, none⟩) hB _

/-- The parts' row has grown. -/
theorem ga_parts {W W2 : World} {B b : Nat} {x : Ga} {ps : List Pt} {vp vb v : Value} (hB : B ≤ b) (h0 : W.heap[b]? = some (.cells #[vp, vb] 166 (0, 0))) (h1 : W.ownsRow B 47 2 vp x.ps.length (ptV x.ps)) (h2 : W.ownsRow B 5 1 vb x.bs.length (Lib.byteCells x.bs)) (hg : W.grownBy W2 vp.ownBlock) (ho : W2.ownsRow B 47 2 v ps.length (ptV ps)) : GaAt (W2.setCell ⟨b, 0, none⟩ v) B b ⟨ps, x.bs⟩ ∧ Below B W (W2.setCell ⟨b, 0, none⟩ v) := by
  have hblt := (Array.getElem?_eq_some_iff.1 h0).1
  have n2 : vp.ownBlock ≠ some b := fun e => by
    obtain ⟨_, _, cur, h⟩ := owns_blk h1 e
    rw [h0] at h
    cases h
  have b2 : W2.heap[b]? = some (.cells #[vp, vb] 166 (0, 0)) := (hg.block b hblt (fun e => n2 e.symm)).trans h0
  refine ⟨⟨hB, v, vb, ?_, ?_, ?_⟩, ?_⟩
  · simp only [World.setCell, Array.getElem?_modify, if_true, b2, Option.map_some]
    rfl
  · refine owns_keep ho fun g e => ?_
    obtain ⟨_, _, cur, h⟩ := owns_blk ho e
    exact put_far _ _ _ _ (fun e2 => by rw [e2, b2] at h; cases h)
  · refine owns_keep h2 fun g e => ?_
    obtain ⟨_, hlt, cur, h⟩ := owns_blk h2 e
    rw [put_far _ _ _ _ (fun e2 => by rw [e2, h0] at h; cases h)]
    exact hg.block g hlt (fun e2 => by
      obtain ⟨_, _, cur2, h3⟩ := owns_blk h1 e2.symm
      rw [h] at h3
      cases h3)
  · exact (((Below.refl B W).grown hg (Nat.le_of_lt (Nat.lt_of_le_of_lt hB hblt)) (fun k hk => (owns_blk h1 hk).1))).setCell (p := ⟨b, 0, none⟩) hB _

theorem info5 : (Tryz.prog.info? 5).map (fun i => (i.zero, i.size, i.bytes)) = some (some (.int .u8 0), 1, 1) := by kernel_rfl
theorem info48 : (Tryz.prog.info? 47).map (fun i => (i.zero, i.size, i.bytes)) = some (some (.agg #[.int .i64 0, .string ⟨#[]⟩]), 2, 24) := by kernel_rfl
theorem und50 : Tryz.prog.underlying 35 = some (.slice 5) := by kernel_rfl
theorem und22 : Tryz.prog.underlying 39 = some (.slice 47) := by kernel_rfl

theorem cells_app (l m : List UInt8) : Lib.byteCells (l ++ m) = Lib.byteCells l ++ Lib.byteCells m := by simp [Lib.byteCells]

/-- A new block's cells, one by one. -/
theorem new_cells (W : World) (cs : List Value) (t : TypeId) (j : Nat) (u : Value) (h : cs[j]? = some u) : (W.alloc (.cells cs.toArray t)).cell? ((⟨W.heap.size, 0, none⟩ : Addr).add j) = some u := by
  have hplain : (⟨W.heap.size, 0, none⟩ : Addr).add j = ⟨W.heap.size, 0 + j, none⟩ := by unfold Addr.add; split <;> simp_all
  rw [hplain, World.cell?, heap_alloc_new W (.cells cs.toArray t)]
  simpa using h

set_option maxRecDepth 100000 in
set_option maxHeartbeats 1000000 in
theorem plain_any {B b : Nat} {x : Ga} (c : UInt8) (w : World) (h : GaAt w B b x) (hn : x.bs.length ≤ 1073741824) :
    Calls Tryz.prog 113 #[.pointer (some ⟨b, 0, none⟩), .int .u8 (c.toNat : Nat)] w fun e w' => e = .returned (.tuple #[]) ∧ GaAt w' B b (x.plain c) ∧ Below B w w' := by
  obtain ⟨i0, hi0, hz0, hz1, hz2⟩ := info_parts info5
  have hlt := h.lt
  have hA := (Below.refl w.heap.size w).alloc (Nat.le_refl _) (.cells #[.int .u8 (c.toNat : Nat)] 5)
  have hw := h.stay hA
  obtain ⟨hB, vp, vb, h0, h1, h2⟩ := h
  obtain ⟨_, vp', vb', k0, k1, k2⟩ := hw
  have e0 := (hA.block b hlt).trans h0
  rw [k0] at e0
  cases e0
  have c1 : w.cell? ⟨b, 1, none⟩ = some vb := by simp [World.cell?, h0]
  have HN := hideT (new_cells w [.int .u8 (c.toNat : Nat)] 5)
  have HS := hideT (And.intro hlt hA)
  have HK := hideT (And.intro k0 (And.intro k1 k2))
  clear hlt hA k0 k1 h0 h1 h2
  go_enter Tryz.func113, Tryz.ntmps113
  go_wp2_with (at_builtin; refine wpList_append_lies _ rfl _ _ 35 rfl B 5 i0 _ 1 1 und50 hi0 hz0 hz1 hz2 rfl (by omega) vb x.bs.length (Lib.byteCells x.bs) rfl k2 ⟨w.heap.size, 0, none⟩ 1 1 [.int .u8 (c.toNat : Nat)] rfl rfl (fun j u hj => HN.out j u hj) (by simp [Value.oneCell']) (by omega) (by unfold maxLen; omega) (by omega) (by have := HS.out.1; simp; omega) _ rfl ?_)
  intro g gc w2 hown hgr hat hglt
  have b2 : w2.heap[b]? = some (.cells #[vp, vb] 166 (0, 0)) := (hgr.block b (Nat.lt_of_lt_of_le HS.out.1 HS.out.2.size) (fun e => by
    obtain ⟨_, _, cur, h3⟩ := owns_blk HK.out.2.2 e.symm
    rw [HK.out.1] at h3
    cases h3)).trans HK.out.1
  have d1 : w2.cell? ⟨b, 1, none⟩ = some vb := by simp [World.cell?, b2]
  have f1 : w2.frozen? ⟨b, 1, none⟩ = false := by simp [World.frozen?, b2]
  have HF := hideT (ga_bytes (bs := x.bs ++ [c]) hB HK.out.1 HK.out.2.1 HK.out.2.2 hgr (by rw [cells_app, List.length_append]; exact hown))
  clear hgr hown b2 k2
  go_wp2
  go_end0
  exact ⟨rfl, HF.out.1, (HS.out.2.mono (Nat.le_of_lt (Nat.lt_of_le_of_lt hB HS.out.1))).trans HF.out.2⟩

end tpl
end Go.Proofs.YtjfkhlmoppbbgaaGreatDoor

/- template: letOut, group, escaped. -/
namespace Go.Proofs.YtjfkhlmoppbbgaaGreatDoor
namespace tpl
open Go.RowKit

/-- A load, or what only yields, comes up. -/
theorem op_value {P : Program} {ops : Array Oper} {Q : Exit → Act → World → Prop} {i : Nat} {o : Oper} {K : Act → World → Prop} {a : Act} {w w' : World} {v : Value} (d : Option Tmp) (hi : ops[i]? = some o) (hd : o.dst = d) (hw : Region.wanted o (yielded ops a.tmps) = true) (hx : (execOp a.eval o).run P w = .ok (.value v) w') (h : K (a.put d v) w') : wpOp P ops Q i K a w := by
  subst hd
  unfold wpOp
  rw [hi]
  dsimp only
  rw [if_pos hw]
  refine .inl ?_
  unfold Oper.wp
  rw [hx]
  exact h
/-- A store comes up. -/
theorem op_skip {P : Program} {ops : Array Oper} {Q : Exit → Act → World → Prop} {i : Nat} {o : Oper} {K : Act → World → Prop} {a : Act} {w w' : World} (hi : ops[i]? = some o) (hd : o.dst = none) (hw : Region.wanted o (yielded ops a.tmps) = true) (hx : (execOp a.eval o).run P w = .ok .skip w') (h : K (a.put none undef) w') : wpOp P ops Q i K a w := by
  rw [← hd] at h
  unfold wpOp
  rw [hi]
  dsimp only
  rw [if_pos hw]
  refine .inl ?_
  unfold Oper.wp
  rw [hx]
  exact h
/-- An operation is taken first; d its temporary, as a number. -/
theorem take_d {P : Program} {ops : Array Oper} {Q : Exit → Act → World → Prop} {S : World → Prop} {md : Region.Mode} (i : Nat) (d : Option Tmp) {oi : Oper} {v : Value} {fuel : Nat} {listed : Array Bool} {a : Act} {w : World} (hi : ops[i]? = some oi) (hd : oi.dst = d)
    (hs : Region.noSelect ops = true) (hf : Region.free md ops listed i = true) (hr : (Region.ready md ops listed).contains i = true)
    (hQ : ∀ c a w, Q (.panic c) (a.put d v) w → Q (.panic c) a w) (hw : Region.wanted oi (yielded ops a.tmps) = true) (hS : S w) (hy : ∀ w, S w → (execOp a.eval oi).run P w = .ok (.value v) w)
    (h : wpAnyH P md ops Q S fuel (listed.setIfInBounds i true) (a.put d v) w) : wpAnyH P md ops Q S (fuel + 1) listed a w := by
  subst hd
  exact wpAnyH_take hi hs hf hr hQ (Or.inl ⟨hw, hy⟩) hS h
theorem op_of {P : Program} {ops : Array Oper} {Q : Exit → Act → World → Prop} {i : Nat} {o : Oper} {K : Act → World → Prop} {a : Act} {w : World} (hi : ops[i]? = some o) (hw : Region.wanted o (yielded ops a.tmps) = true) (h : o.wp P a w K Q) : wpOp P ops Q i K a w := by
  unfold wpOp
  rw [hi]
  dsimp only
  rw [if_pos hw]
  exact .inl h
theorem wanted_none {o : Oper} (hg : o.guard = none) (l : Nat → Option Bool) : Region.wanted o l = true := by simp only [Region.wanted, hg]
theorem keep_cell {W w1 : World} {a : Addr} {v : Value} (hb : Below W.heap.size W w1) (h : W.cell? a = some v) : w1.cell? a = some v := (World.cell?_of_block (hb.block _ (World.block_lt_of_cell? W a h))).trans h

theorem conv_bytes {W : World} {base : Nat} {v : Value} {l : List UInt8} (h : W.ownsRow base 5 1 v l.length (Lib.byteCells l)) : (convert 35 9 v).run Tryz.prog W = .ok (.string (bst l)) W := by
  rcases h.2 with ⟨rfl, h0⟩ | ⟨g, cap, cur, rfl, hg, hh, hrest⟩
  · obtain rfl := List.eq_nil_of_length_eq_zero h0
    exact run_convert_bytes_nil W 35 5 Tryz.underlying35 Tryz.underlying5 0 0 9 Tryz.underlying9
  · have hc : ∀ i, i < l.length → W.cell? ⟨g, 0 + i, none⟩ = some (.int .u8 ((l.map fun (b : UInt8) => (b.toNat : Int)).getD i 0)) := by
      intro i hi
      have h2 := h.cells (g := g) rfl i (.int .u8 ((l.map fun (b : UInt8) => (b.toNat : Int)).getD i 0)) (by simp [Lib.byteCells, List.getElem?_eq_getElem hi])
      have hplain : (⟨g, 0, none⟩ : Addr).add i = ⟨g, 0 + i, none⟩ := by unfold Addr.add; split <;> simp_all
      rwa [hplain] at h2
    have h3 := run_convert_bytes_arg (P := Tryz.prog) W 35 5 Tryz.underlying35 Tryz.underlying5 g 0 l.length cap (l.map fun (b : UInt8) => (b.toNat : Int)) (by simp) hc 9 Tryz.underlying9
    rw [h3]
    have e : (l.map fun (b : UInt8) => (b.toNat : Int)).map (fun n => UInt8.ofNat n.toNat) = l := by
      rw [List.map_map]
      exact (List.map_congr_left (g := id) (fun b _ => by simp)).trans (List.map_id l)
    simp only [strOfNums, e, bst]

set_option maxRecDepth 100000 in
set_option maxHeartbeats 1000000 in
theorem letOut_any {B b : Nat} {x : Ga} (w : World) (h : GaAt w B b x) (hp : x.ps.length ≤ 1073741824) (hn : x.bs.length ≤ 1073741824) :
    Calls Tryz.prog 115 #[.pointer (some ⟨b, 0, none⟩)] w fun e w' => e = .returned (.tuple #[]) ∧ GaAt w' B b x.out ∧ Below B w w' := by
  obtain ⟨i0, hi0, hz0, hz1, hz2⟩ := info_parts info48
  have hlt := h.lt
  have hg := h
  obtain ⟨hB, vp, vb, h0, h1, h2⟩ := h
  have c0 : w.cell? ⟨b, 0, none⟩ = some vp := by simp [World.cell?, h0]
  have c1 : w.cell? ⟨b, 1, none⟩ = some vb := by simp [World.cell?, h0]
  by_cases he : x.bs = []
  · obtain ⟨a, c, rfl⟩ := owns_shape h2
    rw [he] at c1
    simp only [List.length_nil] at c1
    have HG := hideT hg
    clear hg h0 h1 h2 hlt
    go_enter Tryz.func115, Tryz.ntmps115
    go_wp2
    go_end0
    exact ⟨rfl, by unfold Ga.out; rw [if_pos he]; exact HG.out, Below.refl _ _⟩
  · have hpos : 0 < x.bs.length := List.length_pos_iff.2 he
    have ip : (0 : Int) < (x.bs.length : Int) := by omega
    obtain ⟨gb, cb, rfl, hcb⟩ : ∃ g c, vb = .slice (some ⟨g, 0, none⟩) x.bs.length c ∧ x.bs.length ≤ c := by
      rcases h2.2 with ⟨rfl, h3⟩ | ⟨g, cap, cur, rfl, -, -, h3, -⟩
      · omega
      · exact ⟨g, cap, rfl, h3⟩
    have HG := hideT (And.intro hg (And.intro h0 (And.intro h1 (And.intro h2 hlt))))
    clear hg h0 h1 h2 hlt
    go_enter Tryz.func115, Tryz.ntmps115
    go_upto_region 1 with fail
    rename_i K2 hK2
    have key : ∀ (g gc : Nat) (Z : World), GaAt Z B b ⟨x.ps ++ [⟨-1, bst x.bs⟩], x.bs⟩ → Below B w Z → Z.heap[b]? = some (.cells #[.slice (some ⟨g, 0, none⟩) (x.ps.length + 1) gc, .slice (some ⟨gb, 0, none⟩) x.bs.length cb] 166 (0, 0)) → K2 { tmps := #[Value.pointer (some ⟨b, 0, none⟩), undef, Value.pointer (some ⟨b, 0, none⟩), Value.pointer (some ⟨b, 0, none⟩), Value.pointer (some ⟨b, 1, none⟩), .slice (some ⟨gb, 0, none⟩) x.bs.length cb, .int .i64 (x.bs.length : Nat), .bool true, Value.pointer (some ⟨b, 0, none⟩), Value.pointer (some ⟨b, 0, none⟩), Value.pointer (some ⟨b, 0, none⟩), Value.pointer (some ⟨b, 0, none⟩), vp, Value.pointer (some ⟨b, 0, none⟩), Value.pointer (some ⟨b, 0, none⟩), Value.pointer (some ⟨b, 1, none⟩), .slice (some ⟨gb, 0, none⟩) x.bs.length cb, .string (bst x.bs), .agg #[.int .i64 (-1), .string (bst x.bs)], .slice (some ⟨w.heap.size, 0, none⟩) 1 1, .slice (some ⟨g, 0, none⟩) (x.ps.length + 1) gc, Value.pointer (some ⟨b, 0, none⟩), Value.pointer (some ⟨b, 0, none⟩), undef, undef, undef, undef, undef, undef, undef, undef], defers := [] } Z := by
      intro g gc Z hZ hZb hZh
      refine hK2 _ _ ?_
      obtain ⟨_, vp', vb', k0, k1, k2⟩ := hZ
      rw [hZh] at k0
      cases k0
      have d1 : Z.cell? ⟨b, 1, none⟩ = some (.slice (some ⟨gb, 0, none⟩) x.bs.length cb) := by simp [World.cell?, hZh]
      have f1 : Z.frozen? ⟨b, 1, none⟩ = false := by simp [World.frozen?, hZh]
      have ic : (0 : Int) ≤ (cb : Int) := by omega
      have hnew : Z.ownsRow B 5 1 (.slice (some ⟨gb, 0, none⟩) 0 cb) ([] : List UInt8).length (Lib.byteCells []) := by
        rcases k2.2 with ⟨h3, -⟩ | ⟨g', cap, cur, h3, q1, q2, q3, q4, q5, q6⟩
        · cases h3
        · cases h3
          exact ⟨rfl, .inr ⟨gb, cb, cur, rfl, q1, q2, Nat.zero_le _, q4, q5, rfl⟩⟩
      have HF := hideT (ga_bytes (x := ⟨x.ps ++ [⟨-1, bst x.bs⟩], x.bs⟩) (bs := []) hB hZh k1 k2 ⟨rfl, rfl, rfl, Nat.le_refl _, fun _ _ _ => rfl⟩ hnew)
      have HZ := hideT hZb
      clear hZb hZh k1 k2 hnew hK2 c0 c1
      go_wp2
      go_end0
      refine ⟨rfl, ?_, HZ.out.trans HF.out.2⟩
      unfold Ga.out
      rw [if_neg he]
      exact HF.out.1
    have HKEY := hideT key
    clear key hK2
    have hA1 : Below w.heap.size w (w.drew.alloc (.cells #[.int .i64 (-1), .string (bst x.bs)] 47)) := ((Below.refl w.heap.size w).drew).alloc (Nat.le_refl _) _
    have hS0 : w.drew.cell? ⟨b, 1, none⟩ = some (.slice (some ⟨gb, 0, none⟩) x.bs.length cb) ∧ w.drew.ownsRow B 5 1 (.slice (some ⟨gb, 0, none⟩) x.bs.length cb) x.bs.length (Lib.byteCells x.bs) := ⟨c1, owns_keep HG.out.2.2.2.1 (fun _ _ => rfl)⟩
    have hS1 : (w.drew.alloc (.cells #[.int .i64 (-1), .string (bst x.bs)] 47)).cell? ⟨b, 1, none⟩ = some (.slice (some ⟨gb, 0, none⟩) x.bs.length cb) ∧ (w.drew.alloc (.cells #[.int .i64 (-1), .string (bst x.bs)] 47)).ownsRow B 5 1 (.slice (some ⟨gb, 0, none⟩) x.bs.length cb) x.bs.length (Lib.byteCells x.bs) := ⟨keep_cell hA1 c1, owns_below HG.out.2.2.2.1 hA1⟩
    refine wp_region_held (S := (fun V : World => V.cell? ⟨b, 1, none⟩ = some (.slice (some ⟨gb, 0, none⟩) x.bs.length cb) ∧ V.ownsRow B 5 1 (.slice (some ⟨gb, 0, none⟩) x.bs.length cb) x.bs.length (Lib.byteCells x.bs))) (by kernel_rfl) ?_
    refine' take_d 0 (some 8) rfl rfl (by kernel_rfl) (by kernel_rfl) (by kernel_rfl) (fun _ _ _ h => h) (by rfl) hS0 ?hy1 ?rest1
    case hy1 => intro V hV; go_simp; (try with_reducible rfl)
    refine' take_d 1 (some 9) rfl rfl (by kernel_rfl) (by kernel_rfl) (by kernel_rfl) (fun _ _ _ h => h) (by rfl) hS0 ?hy2 ?rest2
    case hy2 => intro V hV; go_simp; (try with_reducible rfl)
    refine' take_d 2 (some 10) rfl rfl (by kernel_rfl) (by kernel_rfl) (by kernel_rfl) (fun _ _ _ h => h) (by rfl) hS0 ?hy3 ?rest3
    case hy3 => intro V hV; go_simp; (try with_reducible rfl)
    refine' take_d 3 (some 11) rfl rfl (by kernel_rfl) (by kernel_rfl) (by kernel_rfl) (fun _ _ _ h => h) (by rfl) hS0 ?hy4 ?rest4
    case hy4 => intro V hV; go_simp; (try with_reducible rfl)
    refine' take_d 5 (some 13) rfl rfl (by kernel_rfl) (by kernel_rfl) (by kernel_rfl) (fun _ _ _ h => h) (by rfl) hS0 ?hy5 ?rest5
    case hy5 => intro V hV; go_simp; (try with_reducible rfl)
    refine' take_d 6 (some 14) rfl rfl (by kernel_rfl) (by kernel_rfl) (by kernel_rfl) (fun _ _ _ h => h) (by rfl) hS0 ?hy6 ?rest6
    case hy6 => intro V hV; go_simp; (try with_reducible rfl)
    refine' take_d 7 (some 15) rfl rfl (by kernel_rfl) (by kernel_rfl) (by kernel_rfl) (fun _ _ _ h => h) (by rfl) hS0 ?hy7 ?rest7
    case hy7 => intro V hV; go_simp; (try with_reducible rfl)
    refine' take_d 8 (some 16) rfl rfl (by kernel_rfl) (by kernel_rfl) (by kernel_rfl) (fun _ _ _ h => h) (by rfl) hS0 ?hy8 ?rest8
    case hy8 => intro V hV; have cV := hV.1; go_simp; (try with_reducible rfl)
    refine' take_d 9 (some 17) rfl rfl (by kernel_rfl) (by kernel_rfl) (by kernel_rfl) (fun _ _ _ h => h) (by rfl) hS0 ?hy9 ?rest9
    case hy9 => intro V hV; have cV := conv_bytes hV.2; go_simp; (try with_reducible rfl)
    refine' take_d 10 (some 18) rfl rfl (by kernel_rfl) (by kernel_rfl) (by kernel_rfl) (fun _ _ _ h => h) (by rfl) hS0 ?hy10 ?rest10
    case hy10 => intro V hV; go_simp; (try with_reducible rfl)
    refine wpAnyH_all (rs := [4, 11]) (by kernel_rfl) (by simp) (fun i hi => ?_)
    have hc2 : i = 4 ∨ i = 11 := by simpa using hi
    rcases hc2 with rfl | rfl
    · have cD : w.drew.cell? ⟨b, 0, none⟩ = some vp := c0
      refine op_value (some 12) rfl rfl (by rfl) (v := vp) (w' := w.drew) (by go_simp; (try with_reducible rfl)) ?_
      refine And.intro hS0 ?_
      refine wpAnyH_all (rs := [11]) (by kernel_rfl) (by simp) (fun i hi => ?_)
      obtain rfl : i = 11 := List.mem_singleton.1 hi
      refine op_value (some 19) rfl rfl (by rfl) (v := .slice (some ⟨w.heap.size, 0, none⟩) 1 1) (w' := (w.drew.alloc (.cells #[.int .i64 (-1), .string (bst x.bs)] 47))) (by go_simp; (try with_reducible rfl)) ?_
      refine And.intro hS1 ?_
      simp only [Act.put, List.setIfInBounds_toArray, List.set_cons_zero, List.set_cons_succ]
      clear cD
      refine wpAnyH_all (rs := [12]) (by kernel_rfl) (by simp) (fun i hi => ?_)
      obtain rfl : i = 12 := List.mem_singleton.1 hi
      refine op_of rfl (wanted_none rfl _) (wp_append_lies _ _ _ _ rfl B 47 i0 (.agg #[.int .i64 0, .string ⟨#[]⟩]) 2 24 und22 hi0 hz0 hz1 hz2 rfl (by omega) vp x.ps.length (ptV x.ps) rfl (owns_below HG.out.2.2.1 hA1) ⟨w.heap.size, 0, none⟩ 1 1 [.int .i64 (-1), .string (bst x.bs)] rfl rfl (fun j u hj => new_cells w.drew [.int .i64 (-1), .string (bst x.bs)] 47 j u hj) (by simp [Value.oneCell']) (by omega) (by unfold maxLen; omega) (by omega) (by have := hA1.size; have := HG.out.2.2.2.2; omega) (w.heap.size + 1) (by simp) ?_)
      intro g gc w2 hown hgr hat hglt
      have hb1 : (w.drew.alloc (.cells #[.int .i64 (-1), .string (bst x.bs)] 47)).heap[b]? = some (.cells #[vp, .slice (some ⟨gb, 0, none⟩) x.bs.length cb] 166 (0, 0)) := (hA1.block b HG.out.2.2.2.2).trans HG.out.2.1
      have hF := ga_parts (x := x) (ps := x.ps ++ [⟨-1, bst x.bs⟩]) hB hb1 (owns_below HG.out.2.2.1 hA1) hS1.2 hgr (by rw [ptV_app, List.length_append]; exact hown)
      have hbw2 : w2.heap[b]? = some (.cells #[vp, .slice (some ⟨gb, 0, none⟩) x.bs.length cb] 166 (0, 0)) := (hgr.block b (Nat.lt_of_lt_of_le HG.out.2.2.2.2 hA1.size) (fun e => by
        obtain ⟨_, _, cur, h3⟩ := owns_blk (owns_below HG.out.2.2.1 hA1) e.symm
        rw [hb1] at h3
        cases h3)).trans hb1
      have c2 : w2.cell? ⟨b, 0, none⟩ = some vp := by simp [World.cell?, hbw2]
      have f2 : w2.frozen? ⟨b, 0, none⟩ = false := by simp [World.frozen?, hbw2]
      have hs2 : w2.cell? ⟨b, 1, none⟩ = some (.slice (some ⟨gb, 0, none⟩) x.bs.length cb) ∧ w2.ownsRow B 5 1 (.slice (some ⟨gb, 0, none⟩) x.bs.length cb) x.bs.length (Lib.byteCells x.bs) := ⟨by simp [World.cell?, hbw2], owns_keep hS1.2 (fun g' e => hgr.block g' (owns_blk hS1.2 e).2.1 (fun e2 => by
        obtain ⟨_, _, cur, h3⟩ := owns_blk (owns_below HG.out.2.2.1 hA1) e2.symm
        obtain ⟨_, _, cur2, h4⟩ := owns_blk hS1.2 e
        rw [h3] at h4
        cases h4))⟩
      have hZh : (w2.setCell ⟨b, 0, none⟩ (.slice (some ⟨g, 0, none⟩) (x.ps.length + 1) gc)).heap[b]? = some (.cells #[.slice (some ⟨g, 0, none⟩) (x.ps.length + 1) gc, .slice (some ⟨gb, 0, none⟩) x.bs.length cb] 166 (0, 0)) := by
        simp only [World.setCell, Array.getElem?_modify, if_true, hbw2, Option.map_some]
        rfl
      refine And.intro hs2 ?_
      refine' take_d 13 (some 21) rfl rfl (by kernel_rfl) (by kernel_rfl) (by kernel_rfl) (fun _ _ _ h => h) (by rfl) hs2 ?hy11 ?rest11
      case hy11 => intro V hV; go_simp; (try with_reducible rfl)
      refine' take_d 14 (some 22) rfl rfl (by kernel_rfl) (by kernel_rfl) (by kernel_rfl) (fun _ _ _ h => h) (by rfl) hs2 ?hy12 ?rest12
      case hy12 => intro V hV; go_simp; (try with_reducible rfl)
      refine wpAnyH_all (rs := [15]) (by kernel_rfl) (by simp) (fun i hi => ?_)
      obtain rfl : i = 15 := List.mem_singleton.1 hi
      refine op_skip rfl rfl (by rfl) (w' := w2.setCell ⟨b, 0, none⟩ (.slice (some ⟨g, 0, none⟩) (x.ps.length + 1) gc)) (by go_simp; (try with_reducible rfl)) ?_
      refine And.intro ⟨by simp [World.cell?, hZh], owns_keep hs2.2 (fun g' e => put_far _ _ _ _ (fun e2 => by
        obtain ⟨_, _, cur, h3⟩ := owns_blk hs2.2 e
        rw [e2, hbw2] at h3
        cases h3))⟩ ?_
      refine wpAnyH_done (by kernel_rfl) ?_ _
      exact HKEY.out g gc _ hF.1 ((hA1.mono (Nat.le_of_lt (Nat.lt_of_le_of_lt hB HG.out.2.2.2.2))).trans hF.2) hZh
    · refine op_value (some 19) rfl rfl (by rfl) (v := .slice (some ⟨w.heap.size, 0, none⟩) 1 1) (w' := (w.drew.alloc (.cells #[.int .i64 (-1), .string (bst x.bs)] 47))) (by go_simp; (try with_reducible rfl)) ?_
      refine And.intro hS1 ?_
      have cD : (w.drew.alloc (.cells #[.int .i64 (-1), .string (bst x.bs)] 47)).cell? ⟨b, 0, none⟩ = some vp := keep_cell hA1 c0
      refine wpAnyH_all (rs := [4]) (by kernel_rfl) (by simp) (fun i hi => ?_)
      obtain rfl : i = 4 := List.mem_singleton.1 hi
      refine op_value (some 12) rfl rfl (by rfl) (v := vp) (w' := (w.drew.alloc (.cells #[.int .i64 (-1), .string (bst x.bs)] 47))) (by generalize (w.drew.alloc (.cells #[.int .i64 (-1), .string (bst x.bs)] 47)) = Y1 at *; go_simp; (try with_reducible rfl)) ?_
      refine And.intro hS1 ?_
      simp only [Act.put, List.setIfInBounds_toArray, List.set_cons_zero, List.set_cons_succ]
      clear cD
      refine wpAnyH_all (rs := [12]) (by kernel_rfl) (by simp) (fun i hi => ?_)
      obtain rfl : i = 12 := List.mem_singleton.1 hi
      refine op_of rfl (wanted_none rfl _) (wp_append_lies _ _ _ _ rfl B 47 i0 (.agg #[.int .i64 0, .string ⟨#[]⟩]) 2 24 und22 hi0 hz0 hz1 hz2 rfl (by omega) vp x.ps.length (ptV x.ps) rfl (owns_below HG.out.2.2.1 hA1) ⟨w.heap.size, 0, none⟩ 1 1 [.int .i64 (-1), .string (bst x.bs)] rfl rfl (fun j u hj => new_cells w.drew [.int .i64 (-1), .string (bst x.bs)] 47 j u hj) (by simp [Value.oneCell']) (by omega) (by unfold maxLen; omega) (by omega) (by have := hA1.size; have := HG.out.2.2.2.2; omega) (w.heap.size + 1) (by simp) ?_)
      intro g gc w2 hown hgr hat hglt
      have hb1 : (w.drew.alloc (.cells #[.int .i64 (-1), .string (bst x.bs)] 47)).heap[b]? = some (.cells #[vp, .slice (some ⟨gb, 0, none⟩) x.bs.length cb] 166 (0, 0)) := (hA1.block b HG.out.2.2.2.2).trans HG.out.2.1
      have hF := ga_parts (x := x) (ps := x.ps ++ [⟨-1, bst x.bs⟩]) hB hb1 (owns_below HG.out.2.2.1 hA1) hS1.2 hgr (by rw [ptV_app, List.length_append]; exact hown)
      have hbw2 : w2.heap[b]? = some (.cells #[vp, .slice (some ⟨gb, 0, none⟩) x.bs.length cb] 166 (0, 0)) := (hgr.block b (Nat.lt_of_lt_of_le HG.out.2.2.2.2 hA1.size) (fun e => by
        obtain ⟨_, _, cur, h3⟩ := owns_blk (owns_below HG.out.2.2.1 hA1) e.symm
        rw [hb1] at h3
        cases h3)).trans hb1
      have c2 : w2.cell? ⟨b, 0, none⟩ = some vp := by simp [World.cell?, hbw2]
      have f2 : w2.frozen? ⟨b, 0, none⟩ = false := by simp [World.frozen?, hbw2]
      have hs2 : w2.cell? ⟨b, 1, none⟩ = some (.slice (some ⟨gb, 0, none⟩) x.bs.length cb) ∧ w2.ownsRow B 5 1 (.slice (some ⟨gb, 0, none⟩) x.bs.length cb) x.bs.length (Lib.byteCells x.bs) := ⟨by simp [World.cell?, hbw2], owns_keep hS1.2 (fun g' e => hgr.block g' (owns_blk hS1.2 e).2.1 (fun e2 => by
        obtain ⟨_, _, cur, h3⟩ := owns_blk (owns_below HG.out.2.2.1 hA1) e2.symm
        obtain ⟨_, _, cur2, h4⟩ := owns_blk hS1.2 e
        rw [h3] at h4
        cases h4))⟩
      have hZh : (w2.setCell ⟨b, 0, none⟩ (.slice (some ⟨g, 0, none⟩) (x.ps.length + 1) gc)).heap[b]? = some (.cells #[.slice (some ⟨g, 0, none⟩) (x.ps.length + 1) gc, .slice (some ⟨gb, 0, none⟩) x.bs.length cb] 166 (0, 0)) := by
        simp only [World.setCell, Array.getElem?_modify, if_true, hbw2, Option.map_some]
        rfl
      refine And.intro hs2 ?_
      refine' take_d 13 (some 21) rfl rfl (by kernel_rfl) (by kernel_rfl) (by kernel_rfl) (fun _ _ _ h => h) (by rfl) hs2 ?hy13 ?rest13
      case hy13 => intro V hV; go_simp; (try with_reducible rfl)
      refine' take_d 14 (some 22) rfl rfl (by kernel_rfl) (by kernel_rfl) (by kernel_rfl) (fun _ _ _ h => h) (by rfl) hs2 ?hy14 ?rest14
      case hy14 => intro V hV; go_simp; (try with_reducible rfl)
      refine wpAnyH_all (rs := [15]) (by kernel_rfl) (by simp) (fun i hi => ?_)
      obtain rfl : i = 15 := List.mem_singleton.1 hi
      refine op_skip rfl rfl (by rfl) (w' := w2.setCell ⟨b, 0, none⟩ (.slice (some ⟨g, 0, none⟩) (x.ps.length + 1) gc)) (by go_simp; (try with_reducible rfl)) ?_
      refine And.intro ⟨by simp [World.cell?, hZh], owns_keep hs2.2 (fun g' e => put_far _ _ _ _ (fun e2 => by
        obtain ⟨_, _, cur, h3⟩ := owns_blk hs2.2 e
        rw [e2, hbw2] at h3
        cases h3))⟩ ?_
      refine wpAnyH_done (by kernel_rfl) ?_ _
      exact HKEY.out g gc _ hF.1 ((hA1.mono (Nat.le_of_lt (Nat.lt_of_le_of_lt hB HG.out.2.2.2.2))).trans hF.2) hZh

end tpl
end Go.Proofs.YtjfkhlmoppbbgaaGreatDoor

/- template: group, escaped. -/
namespace Go.Proofs.YtjfkhlmoppbbgaaGreatDoor
namespace tpl
open Go.RowKit

set_option maxRecDepth 100000 in
set_option maxHeartbeats 1000000 in
theorem group_any {B b : Nat} {x : Ga} (n : Int) (w : World) (h : GaAt w B b x) (hp : x.ps.length ≤ 1000000000) (hn : x.bs.length ≤ 1073741824) :
    Calls Tryz.prog 112 #[.pointer (some ⟨b, 0, none⟩), .int .i64 n] w fun e w' => e = .returned (.tuple #[]) ∧ GaAt w' B b (x.group n) ∧ Below B w w' := by
  obtain ⟨i0, hi0, hz0, hz1, hz2⟩ := info_parts info48
  have ho := out_len x
  have hob := out_bs x
  have HL := hideT (letOut_any w h (by omega) hn)
  unfold Ga.group
  clear h
  generalize x.out = y at *
  go_enter Tryz.func112, Tryz.ntmps112
  go_wp2_with (go_at_call 115; refine HL.out.mono ?_)
  rintro e w1 ⟨rfl, h, hb1⟩
  have hlt := h.lt
  have hA := (Below.refl w1.heap.size w1).alloc (Nat.le_refl _) (.cells #[.int .i64 n, .string ⟨#[]⟩] 47)
  have hw := h.stay hA
  obtain ⟨hB, vp, vb, h0, h1, h2⟩ := h
  obtain ⟨_, vp', vb', k0, k1, k2⟩ := hw
  have e0 := (hA.block b hlt).trans h0
  rw [k0] at e0
  cases e0
  have c1 : w1.cell? ⟨b, 0, none⟩ = some vp := by simp [World.cell?, h0]
  have HN := hideT (new_cells w1 [.int .i64 n, .string ⟨#[]⟩] 47)
  have HS := hideT (And.intro hlt (And.intro hA hb1))
  have HK := hideT (And.intro k0 (And.intro k1 k2))
  clear hlt hA k0 k2 h0 h1 h2 hb1
  go_wp2_with (at_builtin; refine wpList_append_lies _ rfl _ _ 39 rfl B 47 i0 _ 2 24 und22 hi0 hz0 hz1 hz2 rfl (by omega) vp y.ps.length (ptV y.ps) rfl k1 ⟨w1.heap.size, 0, none⟩ 1 1 [.int .i64 n, .string ⟨#[]⟩] rfl rfl (fun j u hj => HN.out j u hj) (by simp [Value.oneCell']) (by omega) (by unfold maxLen; omega) (by omega) (by have := HS.out.1; simp; omega) _ rfl ?_)
  intro g gc w2 hown hgr hat hglt
  have b2 : w2.heap[b]? = some (.cells #[vp, vb] 166 (0, 0)) := (hgr.block b (Nat.lt_of_lt_of_le HS.out.1 HS.out.2.1.size) (fun e => by
    obtain ⟨_, _, cur, h3⟩ := owns_blk HK.out.2.1 e.symm
    rw [HK.out.1] at h3
    cases h3)).trans HK.out.1
  have d1 : w2.cell? ⟨b, 0, none⟩ = some vp := by simp [World.cell?, b2]
  have f1 : w2.frozen? ⟨b, 0, none⟩ = false := by simp [World.frozen?, b2]
  have HF := hideT (ga_parts (ps := y.ps ++ [⟨n, bst []⟩]) hB HK.out.1 HK.out.2.1 HK.out.2.2 hgr (by rw [ptV_app, List.length_append]; exact hown))
  clear hgr hown b2 k1
  go_wp2
  go_end0
  rw [hob] at HF
  exact ⟨rfl, HF.out.1, (HS.out.2.2.trans (HS.out.2.1.mono (Nat.le_of_lt (Nat.lt_of_le_of_lt hB HS.out.1)))).trans HF.out.2⟩

set_option maxRecDepth 100000 in
set_option maxHeartbeats 1000000 in
theorem escaped_any {B b : Nat} {x : Ga} (c : UInt8) (w : World) (h : GaAt w B b x) (hp : x.ps.length ≤ 1000000000) (hn : x.bs.length ≤ 1073741824) :
    Calls Tryz.prog 114 #[.pointer (some ⟨b, 0, none⟩), .int .u8 (c.toNat : Nat)] w fun e w' => e = .returned (.tuple #[]) ∧ GaAt w' B b (x.esc c) ∧ Below B w w' := by
  have hc := c.toNat_lt
  by_cases c1 : 48 ≤ c.toNat ∧ c.toNat ≤ 57
  · have HG := hideT (group_any ((c.toNat - 48 : Nat) : Int) w h hp hn)
    have j1 : (48 : Int) ≤ (c.toNat : Int) := by omega
    have j2 : (c.toNat : Int) ≤ 57 := by omega
    have j3 : IntKind.u8.wrap ((c.toNat : Int) - 48) = ((c.toNat - 48 : Nat) : Int) := by rw [IntKind.wrap_u8]; omega
    have j4 : IntKind.i64.wrap ((c.toNat - 48 : Nat) : Int) = ((c.toNat - 48 : Nat) : Int) := by rw [IntKind.wrap_i64]; omega
    have hx : x.esc c = x.group ((c.toNat - 48 : Nat) : Int) := by unfold Ga.esc; rw [if_pos c1]
    rw [hx]
    go_enter Tryz.func114, Tryz.ntmps114
    go_wp2_with (go_at_call 112; refine HG.out.mono ?_)
    rintro e w1 ⟨rfl, h1, hb1⟩
    go_wp2
    go_end0
    exact ⟨rfl, h1, hb1⟩
  · by_cases c2 : c.toNat = 110
    · have HG := hideT (plain_any 10 w h hn)
      have hx : x.esc c = x.plain 10 := by unfold Ga.esc; rw [if_neg c1, if_pos c2]
      rw [hx, c2]
      go_enter Tryz.func114, Tryz.ntmps114
      go_wp2_with (go_at_call 113; refine HG.out.mono ?_)
      rintro e w1 ⟨rfl, h1, hb1⟩
      go_wp2
      go_end0
      exact ⟨rfl, h1, hb1⟩
    · have HG := hideT (plain_any c w h hn)
      have hx : x.esc c = x.plain c := by unfold Ga.esc; rw [if_neg c1, if_neg c2]
      rw [hx]
      have j3 : ((c.toNat : Int) == 110) = false := by rw [beq_eq_false_iff_ne]; omega
      by_cases c3 : 48 ≤ c.toNat
      · have j1 : (48 : Int) ≤ (c.toNat : Int) := by omega
        have j2 : ((c.toNat : Int) ≤ 57) = False := by rw [eq_iff_iff, iff_false]; omega
        go_enter Tryz.func114, Tryz.ntmps114
        go_wp2_with (go_at_call 113; refine HG.out.mono ?_)
        rintro e w1 ⟨rfl, h1, hb1⟩
        go_wp2
        go_end0
        exact ⟨rfl, h1, hb1⟩
      · have j1 : ((48 : Int) ≤ (c.toNat : Int)) = False := by rw [eq_iff_iff, iff_false]; omega
        go_enter Tryz.func114, Tryz.ntmps114
        go_wp2_with (go_at_call 113; refine HG.out.mono ?_)
        rintro e w1 ⟨rfl, h1, hb1⟩
        go_wp2
        go_end0
        exact ⟨rfl, h1, hb1⟩

end tpl
end Go.Proofs.YtjfkhlmoppbbgaaGreatDoor
