/- template: what was gathered, in memory; plain, letOut, group, escaped. -/
import Derived.Test.YtbncokfpkkmoiaaTb
import Derived.OwnWalk
import Derived.Deep.AppendLies
import Derived.Lib.Builder
import Derived.Laws.OwnMore
import Derived.Deep.RegionWith
import Derived.Deep.RegionLaw
namespace Go.Proofs.Ytbncokfpkkmoiaa
open Go.RowKit

theorem owns_blk {W : World} {B e size n : Nat} {v : Value} {xs : List Value} (h : W.ownsRow B e size v n xs) {g : Nat} (hg : v.ownBlock = some g) : B ≤ g ∧ g < W.heap.size ∧ ∃ cur, W.heap[g]? = some (.cells cur e (0, 0)) := by
  rcases h.2 with ⟨rfl, _⟩ | ⟨g', cap', cur, rfl, hb, hh, _⟩
  · cases hg
  · cases hg
    exact ⟨hb, (Array.getElem?_eq_some_iff.1 hh).1, cur, hh⟩
theorem owns_keep {W W' : World} {B e size n : Nat} {v : Value} {xs : List Value} (h : W.ownsRow B e size v n xs) (hk : ∀ g, v.ownBlock = some g → W'.heap[g]? = W.heap[g]?) : W'.ownsRow B e size v n xs := by
  obtain ⟨hl, h⟩ := h
  refine ⟨hl, ?_⟩
  rcases h with h | ⟨g, cap, cur, hv, hg, hh, rest⟩
  · exact .inl h
  · exact .inr ⟨g, cap, cur, hv, hg, (hk g (by rw [hv]; rfl)).trans hh, rest⟩
theorem owns_below {w w' : World} {base : Nat} {e : TypeId} {size : Nat} {v : Value} {n : Nat} {xs : List Value} (h : w.ownsRow base e size v n xs) (hb : Below w.heap.size w w') : w'.ownsRow base e size v n xs :=
  owns_keep h fun g hg => hb.block g (owns_blk h hg).2.1
theorem owns_shape {W : World} {B e size n : Nat} {v : Value} {xs : List Value} (h : W.ownsRow B e size v n xs) : ∃ a c, v = .slice a n c := by
  rcases h.2 with ⟨rfl, rfl⟩ | ⟨g, cap, cur, rfl, _⟩
  · exact ⟨_, _, rfl⟩
  · exact ⟨_, _, rfl⟩
theorem put_far (W : World) (b k : Nat) (u : Value) {j : Nat} (h : j ≠ b) : (W.setCell ⟨b, k, none⟩ u).heap[j]? = W.heap[j]? := Below.heap_setCell W ⟨b, k, none⟩ u j h

/-- What was gathered lies at block b; its rows from B on. -/
def GaAt (W : World) (B b : Nat) (x : Ga) : Prop :=
  B ≤ b ∧ ∃ vp vb, W.heap[b]? = some (.cells #[vp, vb] 52 (0, 0)) ∧ W.ownsRow B 48 2 vp x.ps.length (ptV x.ps) ∧ W.ownsRow B 5 1 vb x.bs.length (Lib.byteCells x.bs)

theorem GaAt.stay {W W' : World} {B b : Nat} {x : Ga} (h : GaAt W B b x) (hb : Below W.heap.size W W') : GaAt W' B b x := by
  obtain ⟨hB, vp, vb, h0, h1, h2⟩ := h
  exact ⟨hB, vp, vb, (hb.block b (Array.getElem?_eq_some_iff.1 h0).1).trans h0, owns_below h1 hb, owns_below h2 hb⟩
theorem GaAt.lt {W : World} {B b : Nat} {x : Ga} (h : GaAt W B b x) : b < W.heap.size := by
  obtain ⟨hB, vp, vb, h0, h1, h2⟩ := h
  exact (Array.getElem?_eq_some_iff.1 h0).1

/-- The bytes' row has grown. -/
theorem ga_bytes {W W2 : World} {B b : Nat} {x : Ga} {bs : List UInt8} {vp vb v : Value} (hB : B ≤ b) (h0 : W.heap[b]? = some (.cells #[vp, vb] 52 (0, 0))) (h1 : W.ownsRow B 48 2 vp x.ps.length (ptV x.ps)) (h2 : W.ownsRow B 5 1 vb x.bs.length (Lib.byteCells x.bs)) (hg : W.grownBy W2 vb.ownBlock) (ho : W2.ownsRow B 5 1 v bs.length (Lib.byteCells bs)) : GaAt (W2.setCell ⟨b, 1, none⟩ v) B b ⟨x.ps, bs⟩ ∧ Below B W (W2.setCell ⟨b, 1, none⟩ v) := by
  have hblt := (Array.getElem?_eq_some_iff.1 h0).1
  have n2 : vb.ownBlock ≠ some b := fun e => by
    obtain ⟨_, _, cur, h⟩ := owns_blk h2 e
    rw [h0] at h
    cases h
  have b2 : W2.heap[b]? = some (.cells #[vp, vb] 52 (0, 0)) := (hg.block b hblt (fun e => n2 e.symm)).trans h0
  refine ⟨⟨hB, vp, v, ?_, ?_, ?_⟩, ?_⟩
  · simp only [World.setCell, Array.getElem?_modify, if_true, b2, Option.map_some]
    rfl
  · refine owns_keep h1 fun g e => ?_
    obtain ⟨_, hlt, cur, h⟩ := owns_blk h1 e
    rw [put_far _ _ _ _ (fun e2 => by rw [e2, h0] at h; cases h)]
    exact hg.block g hlt (fun e2 => by
      obtain ⟨_, _, cur2, h3⟩ := owns_blk h2 e2.symm
      rw [h] at h3
      cases h3)
  · refine owns_keep ho fun g e => ?_
    obtain ⟨_, _, cur, h⟩ := owns_blk ho e
    exact put_far _ _ _ _ (fun e2 => by rw [e2, b2] at h; cases h)
  · exact (((Below.refl B W).grown hg (Nat.le_of_lt (Nat.lt_of_le_of_lt hB hblt)) (fun k hk => (owns_blk h2 hk).1))).setCell (p := ⟨b, 1, none⟩) hB _

/-- The parts' row has grown. -/
theorem ga_parts {W W2 : World} {B b : Nat} {x : Ga} {ps : List Pt} {vp vb v : Value} (hB : B ≤ b) (h0 : W.heap[b]? = some (.cells #[vp, vb] 52 (0, 0))) (h1 : W.ownsRow B 48 2 vp x.ps.length (ptV x.ps)) (h2 : W.ownsRow B 5 1 vb x.bs.length (Lib.byteCells x.bs)) (hg : W.grownBy W2 vp.ownBlock) (ho : W2.ownsRow B 48 2 v ps.length (ptV ps)) : GaAt (W2.setCell ⟨b, 0, none⟩ v) B b ⟨ps, x.bs⟩ ∧ Below B W (W2.setCell ⟨b, 0, none⟩ v) := by
  have hblt := (Array.getElem?_eq_some_iff.1 h0).1
  have n2 : vp.ownBlock ≠ some b := fun e => by
    obtain ⟨_, _, cur, h⟩ := owns_blk h1 e
    rw [h0] at h
    cases h
  have b2 : W2.heap[b]? = some (.cells #[vp, vb] 52 (0, 0)) := (hg.block b hblt (fun e => n2 e.symm)).trans h0
  refine ⟨⟨hB, v, vb, ?_, ?_, ?_⟩, ?_⟩
  · simp only [World.setCell, Array.getElem?_modify, if_true, b2, Option.map_some]
    rfl
  · refine owns_keep ho fun g e => ?_
    obtain ⟨_, _, cur, h⟩ := owns_blk ho e
    exact put_far _ _ _ _ (fun e2 => by rw [e2, b2] at h; cases h)
  · refine owns_keep h2 fun g e => ?_
    obtain ⟨_, hlt, cur, h⟩ := owns_blk h2 e
    rw [put_far _ _ _ _ (fun e2 => by rw [e2, h0] at h; cases h)]
    exact hg.block g hlt (fun e2 => by
      obtain ⟨_, _, cur2, h3⟩ := owns_blk h1 e2.symm
      rw [h] at h3
      cases h3)
  · exact (((Below.refl B W).grown hg (Nat.le_of_lt (Nat.lt_of_le_of_lt hB hblt)) (fun k hk => (owns_blk h1 hk).1))).setCell (p := ⟨b, 0, none⟩) hB _

theorem info5 : (Try.prog.info? 5).map (fun i => (i.zero, i.size, i.bytes)) = some (some (.int .u8 0), 1, 1) := by kernel_rfl
theorem info48 : (Try.prog.info? 48).map (fun i => (i.zero, i.size, i.bytes)) = some (some (.agg #[.int .i64 0, .string ⟨#[]⟩]), 2, 24) := by kernel_rfl
theorem und50 : Try.prog.underlying 50 = some (.slice 5) := by kernel_rfl
theorem und22 : Try.prog.underlying 22 = some (.slice 48) := by kernel_rfl

theorem cells_app (l m : List UInt8) : Lib.byteCells (l ++ m) = Lib.byteCells l ++ Lib.byteCells m := by simp [Lib.byteCells]

/-- A new block's cells, one by one. -/
theorem new_cells (W : World) (cs : List Value) (t : TypeId) (j : Nat) (u : Value) (h : cs[j]? = some u) : (W.alloc (.cells cs.toArray t)).cell? ((⟨W.heap.size, 0, none⟩ : Addr).add j) = some u := by
  have hplain : (⟨W.heap.size, 0, none⟩ : Addr).add j = ⟨W.heap.size, 0 + j, none⟩ := by unfold Addr.add; split <;> simp_all
  rw [hplain, World.cell?, heap_alloc_new W (.cells cs.toArray t)]
  simpa using h

set_option maxRecDepth 100000 in
set_option maxHeartbeats 1000000 in
theorem plain_any {B b : Nat} {x : Ga} (c : UInt8) (w : World) (h : GaAt w B b x) (hn : x.bs.length ≤ 1073741824) :
    Calls Try.prog 20 #[.pointer (some ⟨b, 0, none⟩), .int .u8 (c.toNat : Nat)] w fun e w' => e = .returned (.tuple #[]) ∧ GaAt w' B b (x.plain c) ∧ Below B w w' := by
  obtain ⟨i0, hi0, hz0, hz1, hz2⟩ := info_parts info5
  have hlt := h.lt
  have hA := (Below.refl w.heap.size w).alloc (Nat.le_refl _) (.cells #[.int .u8 (c.toNat : Nat)] 5)
  have hw := h.stay hA
  obtain ⟨hB, vp, vb, h0, h1, h2⟩ := h
  obtain ⟨_, vp', vb', k0, k1, k2⟩ := hw
  have e0 := (hA.block b hlt).trans h0
  rw [k0] at e0
  cases e0
  have c1 : w.cell? ⟨b, 1, none⟩ = some vb := by simp [World.cell?, h0]
  have HN := hideT (new_cells w [.int .u8 (c.toNat : Nat)] 5)
  have HS := hideT (And.intro hlt hA)
  have HK := hideT (And.intro k0 (And.intro k1 k2))
  clear hlt hA k0 k1 h0 h1 h2
  go_enter Try.func20, Try.ntmps20
  go_wp2_with (at_builtin; refine wpList_append_lies _ rfl _ _ 50 rfl B 5 i0 _ 1 1 und50 hi0 hz0 hz1 hz2 rfl (by omega) vb x.bs.length (Lib.byteCells x.bs) rfl k2 ⟨w.heap.size, 0, none⟩ 1 1 [.int .u8 (c.toNat : Nat)] rfl rfl (fun j u hj => HN.out j u hj) (by simp [Value.oneCell']) (by omega) (by unfold maxLen; omega) (by omega) (by have := HS.out.1; simp; omega) _ rfl ?_)
  intro g gc w2 hown hgr hat hglt
  have b2 : w2.heap[b]? = some (.cells #[vp, vb] 52 (0, 0)) := (hgr.block b (Nat.lt_of_lt_of_le HS.out.1 HS.out.2.size) (fun e => by
    obtain ⟨_, _, cur, h3⟩ := owns_blk HK.out.2.2 e.symm
    rw [HK.out.1] at h3
    cases h3)).trans HK.out.1
  have d1 : w2.cell? ⟨b, 1, none⟩ = some vb := by simp [World.cell?, b2]
  have f1 : w2.frozen? ⟨b, 1, none⟩ = false := by simp [World.frozen?, b2]
  have HF := hideT (ga_bytes (bs := x.bs ++ [c]) hB HK.out.1 HK.out.2.1 HK.out.2.2 hgr (by rw [cells_app, List.length_append]; exact hown))
  clear hgr hown b2 k2
  go_wp2
  go_end0
  exact ⟨rfl, HF.out.1, (HS.out.2.mono (Nat.le_of_lt (Nat.lt_of_le_of_lt hB HS.out.1))).trans HF.out.2⟩

end Go.Proofs.Ytbncokfpkkmoiaa
