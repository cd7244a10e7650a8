/- check: what was met so far, as it lies; opens, shuts. -/
import Derived.Test.YtdlceppiblodmaaCd
import Derived.Deep.AppendLies
import Derived.Maps.OwnSet
import Derived.OrdersHeld
import Derived.Deep.RegionHeld3
namespace Go.Proofs.Ytdlceppiblodmaa
open Go.RowKit
open chkP

theorem put_far (W : World) (b k : Nat) (u : Value) {j : Nat} (h : j ≠ b) : (W.setCell ⟨b, k, none⟩ u).heap[j]? = W.heap[j]? := Below.heap_setCell W ⟨b, k, none⟩ u j h
theorem put_size (W : World) (b k : Nat) (u : Value) : (W.setCell ⟨b, k, none⟩ u).heap.size = W.heap.size := by simp [World.setCell]
theorem put_same (W : World) (b k : Nat) (u : Value) {cs : Array Value} {e : TypeId} {fr : Nat × Nat} (h : W.heap[b]? = some (.cells cs e fr)) : (W.setCell ⟨b, k, none⟩ u).heap[b]? = some (.cells (cs.setIfInBounds k u) e fr) := by
  obtain ⟨hlt, hk2⟩ := Array.getElem?_eq_some_iff.1 h
  show (W.heap.modify b _)[b]? = _
  rw [Array.getElem?_eq_getElem (by rw [Array.size_modify]; exact hlt), Array.getElem_modify_self, hk2]
  simp only [Option.isSome_none, Bool.false_eq_true, if_false]
theorem below_put {B : Nat} {W W' : World} (h : Below B W W') {b : Nat} (hb : B ≤ b) (k : Nat) (u : Value) : Below B W (W'.setCell ⟨b, k, none⟩ u) :=
  ⟨h.os, h.tape, h.output, by rw [put_size]; exact h.size, fun j hj => by rw [put_far _ _ _ _ (by omega)]; exact h.block j hj⟩
theorem below_grown {B : Nat} {W W' : World} {r : Option Nat} (h : W.grownBy W' r) (hr : ∀ g, r = some g → B ≤ g) (hB : B ≤ W.heap.size) : Below B W W' :=
  ⟨h.os, h.tape, h.output, h.size, fun j hj => h.block j (by omega) (fun e => by have := hr j e.symm; omega)⟩
theorem owns_keep {W W' : World} {B e size n : Nat} {v : Value} {xs : List Value} (h : W.ownsRow B e size v n xs) (hk : ∀ g, v.ownBlock = some g → W'.heap[g]? = W.heap[g]?) : W'.ownsRow B e size v n xs := by
  obtain ⟨hl, h2⟩ := h
  refine ⟨hl, ?_⟩
  rcases h2 with h2 | ⟨g, cap, cur, rfl, hb, hh, r⟩
  · exact .inl h2
  · exact .inr ⟨g, cap, cur, rfl, hb, (hk g rfl).trans hh, r⟩
theorem map_keep {W W' : World} {P : Program} {k : TypeId} {R : Value → Option (DataW Unit × List MemPlace)} {b n : Nat} {D : DataW Unit} (h : W.ownsMap P k R b n D) (hk : W'.heap[b]? = W.heap[b]?) : W'.ownsMap P k R b n D := by
  obtain ⟨es, cl, h1, h2⟩ := h
  exact ⟨es, cl, hk.trans h1, h2⟩

def intsV (l : List Int) : List Value := l.map fun i => Value.int .i64 i
theorem intsV_len (l : List Int) : (intsV l).length = l.length := by simp [intsV]
theorem intsV_app (l : List Int) (x : Int) : intsV (l ++ [x]) = intsV l ++ [.int .i64 x] := by simp [intsV]

/-- What was met so far: the places of the open blocks, the outermost first; the labels. -/
structure Sof (W : World) (B m mb : Nat) (v : Value) (st : List Int) (D : DataW Unit) (n : Nat) : Prop where
  hm : B ≤ m
  hmb : B ≤ mb
  blk : W.heap[m]? = some (.cells #[v, .map (some mb)] 45 (0, 0))
  own : W.ownsRow B 3 1 v st.length (intsV st)
  map : W.ownsMap Try.prog 9 unitElem mb n D

theorem Sof.mlt {W : World} {B m mb : Nat} {v : Value} {st : List Int} {D : DataW Unit} {n : Nat} (h : Sof W B m mb v st D n) : m < W.heap.size := (Array.getElem?_eq_some_iff.1 h.blk).1
theorem Sof.mblt {W : World} {B m mb : Nat} {v : Value} {st : List Int} {D : DataW Unit} {n : Nat} (h : Sof W B m mb v st D n) : mb < W.heap.size := h.map.lt
theorem Sof.apart {W : World} {B m mb : Nat} {v : Value} {st : List Int} {D : DataW Unit} {n : Nat} (h : Sof W B m mb v st D n) : m ≠ mb := fun e => by
  obtain ⟨es, cl, h1, _⟩ := h.map
  rw [← e, h.blk] at h1
  cases h1
theorem Sof.rowNe {W : World} {B m mb : Nat} {v : Value} {st : List Int} {D : DataW Unit} {n : Nat} (h : Sof W B m mb v st D n) {g : Nat} (hg : v.ownBlock = some g) : g ≠ m ∧ g ≠ mb ∧ B ≤ g ∧ g < W.heap.size := by
  rcases h.own.2 with ⟨rfl, _⟩ | ⟨g', cap, cur, rfl, hb, hh, _⟩
  · cases hg
  · cases hg
    refine ⟨fun (e : g' = m) => ?_, fun (e : g' = mb) => ?_, hb, (Array.getElem?_eq_some_iff.1 hh).1⟩
    · have := h.blk
      rw [← e, hh] at this
      injection this with this
      injection this with _ this _
      exact absurd this (by decide)
    · obtain ⟨es, cl, h1, _⟩ := h.map
      rw [← e, hh] at h1
      cases h1
theorem Sof.keep {W W' : World} {B m mb : Nat} {v : Value} {st : List Int} {D : DataW Unit} {n : Nat} (h : Sof W B m mb v st D n) (hk : ∀ k, k < W.heap.size → W'.heap[k]? = W.heap[k]?) : Sof W' B m mb v st D n :=
  ⟨h.hm, h.hmb, (hk m h.mlt).trans h.blk, owns_keep h.own (fun g hg => hk g (h.rowNe hg).2.2.2), map_keep h.map (hk mb h.mblt)⟩
theorem Sof.step {W W' : World} {B m mb : Nat} {v : Value} {st : List Int} {D : DataW Unit} {n : Nat} (h : Sof W B m mb v st D n) (hb : Below W.heap.size W W') : Sof W' B m mb v st D n := h.keep hb.block
theorem Sof.c0 {W : World} {B m mb : Nat} {v : Value} {st : List Int} {D : DataW Unit} {n : Nat} (h : Sof W B m mb v st D n) : W.cell? ⟨m, 0, none⟩ = some v ∧ W.frozen? ⟨m, 0, none⟩ = false := by
  simp [World.cell?, World.frozen?, h.blk]
theorem Sof.c1 {W : World} {B m mb : Nat} {v : Value} {st : List Int} {D : DataW Unit} {n : Nat} (h : Sof W B m mb v st D n) : W.cell? ⟨m, 1, none⟩ = some (.map (some mb)) := by
  simp [World.cell?, h.blk]

theorem infoInt : (Try.prog.info? 3).map (fun i => (i.zero, i.size, i.bytes)) = some (some (.int .i64 0), 1, 8) := by kernel_rfl

/-- The list of open blocks has become another one. -/
theorem sof_row {W X w2 : World} {B m mb : Nat} {v v2 : Value} {st st2 : List Int} {D : DataW Unit} {n : Nat} (h : Sof W B m mb v st D n) (hX : Below W.heap.size W X) (own : w2.ownsRow B 3 1 v2 st2.length (intsV st2)) (hgr : X.grownBy w2 v.ownBlock) (hne : ∀ g, v2.ownBlock = some g → g ≠ m) : Sof (w2.setCell ⟨m, 0, none⟩ v2) B m mb v2 st2 D n := by
  have hs := hX.size
  have hm := h.mlt
  have hmb := h.mblt
  refine ⟨h.hm, h.hmb, ?_, owns_keep own (fun g hg => put_far _ _ _ _ (hne g hg)), map_keep h.map ?_⟩
  · have h1 : w2.heap[m]? = some (.cells #[v, .map (some mb)] 45 (0, 0)) := (hgr.block m (by omega) (fun e => (h.rowNe e.symm).1 rfl)).trans ((hX.block m hm).trans h.blk)
    exact put_same _ _ _ _ h1
  · rw [put_far _ _ _ _ h.apart.symm]
    exact (hgr.block mb (by omega) (fun e => (h.rowNe e.symm).2.1 rfl)).trans (hX.block mb hmb)

set_option maxRecDepth 100000 in
set_option maxHeartbeats 2000000 in
theorem opens_any {W : World} {B m mb : Nat} {v : Value} {st : List Int} {D : DataW Unit} {n : Nat} (h : Sof W B m mb v st D n) (hB : B ≤ W.heap.size) (hst : st.length ≤ 16) (p : Int) : Calls Try.prog 20 #[.pointer (some ⟨m, 0, none⟩), .int .i64 p] W fun e w' => if st.length = 16 then e = .returned (.int .i64 13) ∧ w' = W else e = .returned (.int .i64 0) ∧ Below B W w' ∧ ∃ v2, Sof w' B m mb v2 (st ++ [p]) D n := by
  obtain ⟨i0, hi, hz0, hz1, hz2⟩ := info_parts infoInt
  obtain ⟨c0, f0⟩ := h.c0
  have HH := hideT h
  obtain ⟨N, hN⟩ : ∃ N : Nat, N = st.length := ⟨_, rfl⟩
  have HN := hideT hN
  by_cases h16 : st.length = 16
  · simp only [h16, if_true]
    rcases h.own.2 with ⟨rfl, h0⟩ | ⟨g, cap, cur, rfl, _⟩
    · omega
    · rw [h16] at c0
      clear h hi hz0 hz1 hz2 hst h16 hN
      go_enter Try.func20, Try.ntmps20
      go_wp2
      go_ret
      exact ⟨rfl, rfl⟩
  · simp only [h16, if_false]
    have own := h.own
    rw [← hN] at own h16 hst
    have k16 : ((N : Int) == 16) = false := by rw [beq_eq_false_iff_ne]; omega
    have hlm := h.mlt
    have hX := (Below.refl W.heap.size W).alloc (Nat.le_refl _) (.cells #[.int .i64 p] 3)
    have hmX : ∀ (w2 : World), (W.alloc (.cells #[.int .i64 p] 3)).grownBy w2 v.ownBlock → w2.cell? ⟨m, 0, none⟩ = some v ∧ w2.frozen? ⟨m, 0, none⟩ = false := by
      intro w2 hg
      have hh : w2.heap[m]? = W.heap[m]? := (hg.block m (by rw [World.size_alloc]; omega) (fun e => (HH.out.rowNe e.symm).1 rfl)).trans (Below.heap_alloc W _ m hlm)
      exact ⟨(World.cell?_of_block (a := ⟨m, 0, none⟩) hh).trans c0, (World.frozen?_of_block (a := ⟨m, 0, none⟩) hh).trans f0⟩
    have ca : ∀ ob, (W.alloc ob).cell? ⟨m, 0, none⟩ = some v := fun ob => (World.cell?_of_block (a := ⟨m, 0, none⟩) (Below.heap_alloc W ob m hlm)).trans c0
    have HX := hideT hmX
    have HB := hideT hB
    have HXX := hideT hX
    have HO := hideT own
    have HSZ := hideT hst
    have H16 := hideT h16
    have hsl : (v = .slice none 0 0 ∧ N = 0) ∨ ∃ g cap, v = .slice (some ⟨g, 0, none⟩) N cap := by
      rcases own.2 with h | ⟨g, cap, cur, h, _⟩
      · exact .inl h
      · exact .inr ⟨g, cap, h⟩
    clear h hmX hX own hB hst h16 hlm hN
    have fin : ∀ (g gc : Nat) (w2 : World), w2.ownsRow B 3 1 (.slice (some ⟨g, 0, none⟩) (N + 1) gc) (N + 1) (intsV st ++ [.int .i64 p]) → (W.alloc (.cells #[.int .i64 p] 3)).grownBy w2 v.ownBlock → (v.ownBlock = some g ∨ g = W.heap.size + 1) → Below B W (w2.setCell ⟨m, 0, none⟩ (.slice (some ⟨g, 0, none⟩) (N + 1) gc)) ∧ Sof (w2.setCell ⟨m, 0, none⟩ (.slice (some ⟨g, 0, none⟩) (N + 1) gc)) B m mb (.slice (some ⟨g, 0, none⟩) (N + 1) gc) (st ++ [p]) D n := by
      intro g gc w2 hown hgr hat
      have hm := HH.out.mlt
      refine ⟨below_put ((HXX.out.mono HB.out).trans (below_grown hgr (fun g' hg' => (HH.out.rowNe hg').2.2.1) (by rw [World.size_alloc]; have := HB.out; omega))) HH.out.hm _ _, sof_row HH.out HXX.out ?_ hgr ?_⟩
      · rw [intsV_app, List.length_append, List.length_singleton, ← HN.out]
        exact hown
      · intro g' hg'
        cases hg'
        rcases hat with e | e
        · exact (HH.out.rowNe e).1
        · show g ≠ m
          omega
    have HF := hideT fin
    clear fin
    rcases hsl with ⟨rfl, rfl⟩ | ⟨g, cap, rfl⟩
    all_goals
      go_enter Try.func20, Try.ntmps20
      go_wp2_with (at_builtin; refine wpList_append_lies _ (by rfl) _ _ _ (by rfl) B 3 i0 (.int .i64 0) 1 8 Try.underlying43 hi hz0 hz1 hz2 rfl (by omega) _ _ _ (by rfl) (World.ownsRow.alloc HO.out _) ⟨W.heap.size, 0, none⟩ 1 1 [.int .i64 p] (by rfl) (by rfl) (World.news_of_block (cs := #[.int .i64 p]) (t := 3) (fr := (0, 0)) (heap_alloc_new W _)) (by simp [Value.oneCell']) (by omega) (by have := HSZ.out; unfold maxLen; omega) (by have := HSZ.out; omega) (by have := HB.out; rw [World.size_alloc]; omega) (W.heap.size + 1) (by simp) ?_)
      intro g2 gc2 w2 hown2 hgr2 hat2 hlt2
      obtain ⟨d0, e0⟩ := HX.out w2 hgr2
      have HP := hideT (HF.out g2 gc2 w2 hown2 hgr2 hat2)
      clear hown2 hgr2 hat2 hlt2
      go_wp2
      go_ret
      exact ⟨rfl, HP.out.1, _, HP.out.2⟩
end Go.Proofs.Ytdlceppiblodmaa
