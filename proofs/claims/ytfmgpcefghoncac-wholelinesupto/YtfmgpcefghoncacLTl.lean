/- Walks: lines.Tail: the last n lines in a new list, at every text of at most 2^30 bytes and every n. -/
import Derived.Test.YtfmgpcefghoncacLIter
import Derived.Test.YtfmgpcefghoncacLCutC
import Derived.Test.YtfmgpcefghoncacLRing
import Derived.Test.YtfmgpcefghoncacLGrow
import Derived.BigRegionIn
import Derived.Stop.RegionWithIn
import Derived.Deep.RegionHeld3
import Derived.Laws.OwnMore
import Derived.Lib.Builder
namespace Go.Proofs.Ytfmgpcefghoncac
open Go.RowKit Go.Shelf
attribute [local go_sem] Oper.semAt_some

theorem pair_new (W : World) (a b : Value) : Pair (W.alloc (.cells #[a, b] 25)).drew W.heap.size a b := by
  have h : (W.alloc (.cells #[a, b] 25)).drew.heap[W.heap.size]? = some (.cells #[a, b] 25) := World.alloc_heap_new W _
  exact ⟨by rw [Lib.cell_of_heap h]; rfl, by rw [Lib.cell_of_heap h]; rfl⟩

theorem tail_blk {W w1 : World} {ob : Obj} {D : Nat} (h : Below (W.alloc ob).drew.heap.size (W.alloc ob).drew w1) (hD : D < W.heap.size) : w1.heap[D]? = W.heap[D]? :=
  (h.block D (by simp; omega)).trans (Below.heap_alloc W ob D hD)
theorem tail_below {W w1 w : World} {ob : Obj} (hB : Below w.heap.size w W) (h : Below (W.alloc ob).drew.heap.size (W.alloc ob).drew w1) : Below w.heap.size w w1 := by
  have hs := hB.size
  exact (((hB.alloc hs ob).drew).trans (h.mono (by simp; omega)))
theorem tail_base {W w : World} (hB : Below w.heap.size w W) (ob : Obj) : w.heap.size ≤ (W.alloc ob).drew.heap.size := by
  have hs := hB.size
  simp; omega

set_option maxRecDepth 100000 in
set_option maxHeartbeats 1000000 in
theorem tail_none (s : ByteArray) (n : Int) (hp : n ≤ 0) (w : World) :
    Calls Try.prog 8 #[.string s, .int .i64 n] w fun e w' => e = .returned (.slice none 0 0) ∧ Below w.heap.size w w' := by
  refine (callsIn_wide (n := 5)).1 ?_
  refine callsIn_of_wp_marks Try.func8 rfl trivial ?_ rfl
  simp only [Try.ntmps8, List.size_toArray, List.length_cons, List.length_nil, Nat.reduceAdd, Nat.reduceSub, Array.replicate_succ, Array.replicate_zero, List.push_toArray, List.append_toArray, List.nil_append, List.cons_append]
  gi_wp2
  exact ⟨_, results_tmp rfl _ _ _, rfl, (Below.refl _ w).alloc (Nat.le_refl _) _⟩

set_option maxRecDepth 100000 in
set_option maxHeartbeats 2000000 in
theorem tail_some (s : ByteArray) (hs : s.size ≤ 1073741824) (n : Int) (hp : 0 < n) (hn : n ≤ 9223372036854775807) (w : World) :
    Calls Try.prog 8 #[.string s, .int .i64 n] w fun e w' => ∃ v, e = .returned v ∧ w'.ownsRow w.heap.size 9 1 v (tailL (cutL s.data.toList) n).length (strVals (tailL (cutL s.data.toList) n)) ∧ Below w.heap.size w w' := by
  obtain ⟨i0, hi, hz0, hz1, hz2⟩ := info_parts info9
  have hcl := cutL_le s.data.toList
  have hsz : s.data.toList.length = s.size := by simp
  have hN : 0 < n.toNat := by omega
  have hNn : ((n.toNat : Nat) : Int) = n := by omega
  refine (callsIn_wide (n := 5)).1 ?_
  refine callsIn_of_wp_marks Try.func8 rfl trivial ?_ rfl
  simp only [Try.ntmps8, List.size_toArray, List.length_cons, List.length_nil, Nat.reduceAdd, Nat.reduceSub, Array.replicate_succ, Array.replicate_zero, List.push_toArray, List.append_toArray, List.nil_append, List.cons_append]
  gi_wp2_with (refine ⟨trivial, ?_⟩; gi_at_call 17; refine (all_in _ _ _).mono ?_; rintro e w' ⟨rfl, rfl⟩)
  have bN : Boxed ((((w.alloc (.cells #[.int .i64 n] 3)).alloc (.cells #[.slice none 0 0] 25)).alloc (.cells #[.int .i64 0] 3)).alloc (.cells #[.string s] 9)) w.heap.size 3 (.int .i64 n) := (((Boxed.new w 3 (.int .i64 n)).alloc _).alloc _).alloc _
  have bL : Boxed ((((w.alloc (.cells #[.int .i64 n] 3)).alloc (.cells #[.slice none 0 0] 25)).alloc (.cells #[.int .i64 0] 3)).alloc (.cells #[.string s] 9)) (w.heap.size + 1) 25 (.slice none 0 0) := by
    have h := ((Boxed.new (w.alloc (.cells #[.int .i64 n] 3)) 25 (.slice none 0 0)).alloc (.cells #[.int .i64 0] 3)).alloc (.cells #[.string s] 9)
    rwa [World.size_alloc] at h
  have bO : Boxed ((((w.alloc (.cells #[.int .i64 n] 3)).alloc (.cells #[.slice none 0 0] 25)).alloc (.cells #[.int .i64 0] 3)).alloc (.cells #[.string s] 9)) (w.heap.size + 1 + 1) 3 (.int .i64 0) := by
    have h := (Boxed.new ((w.alloc (.cells #[.int .i64 n] 3)).alloc (.cells #[.slice none 0 0] 25)) 3 (.int .i64 0)).alloc (.cells #[.string s] 9)
    rwa [World.size_alloc, World.size_alloc] at h
  have bS : Boxed ((((w.alloc (.cells #[.int .i64 n] 3)).alloc (.cells #[.slice none 0 0] 25)).alloc (.cells #[.int .i64 0] 3)).alloc (.cells #[.string s] 9)) (w.heap.size + 1 + 1 + 1) 9 (.string s) := by
    have h := Boxed.new (((w.alloc (.cells #[.int .i64 n] 3)).alloc (.cells #[.slice none 0 0] 25)).alloc (.cells #[.int .i64 0] 3)) 9 (.string s)
    rwa [World.size_alloc, World.size_alloc, World.size_alloc] at h
  have hB0 : Below w.heap.size w ((((w.alloc (.cells #[.int .i64 n] 3)).alloc (.cells #[.slice none 0 0] 25)).alloc (.cells #[.int .i64 0] 3)).alloc (.cells #[.string s] 9)) := ((((Below.refl _ w).alloc (Nat.le_refl _) _).alloc (by simp) _).alloc (by simp; omega) _).alloc (by simp; omega) _
  have hs0 : ((((w.alloc (.cells #[.int .i64 n] 3)).alloc (.cells #[.slice none 0 0] 25)).alloc (.cells #[.int .i64 0] 3)).alloc (.cells #[.string s] 9)).heap.size = w.heap.size + 1 + 1 + 1 + 1 := by simp
  generalize ((((w.alloc (.cells #[.int .i64 n] 3)).alloc (.cells #[.slice none 0 0] 25)).alloc (.cells #[.int .i64 0] 3)).alloc (.cells #[.string s] 9)) = W0 at *
  refine wpIn_rangeFunc_ownF rfl (by omega) (gf := 24) (lb := #[.pointer (some ⟨w.heap.size + 1 + 1 + 1, 0, none⟩)]) rfl trivial (enters_of Try.func24 (by kernel_rfl) rfl)
    (iter_stops 4 (by omega) (w.heap.size + 1 + 1 + 1) s hs W0 bS) any2_t any2_b (Below.refl _ _) (fun _ => rfl)
    (fun pre W => ((∃ v, Boxed W (w.heap.size + 1) 25 v ∧ W.ownsRow w.heap.size 9 1 v (ringSt n.toNat (pre.map Prod.snd)).1.length (strVals (ringSt n.toNat (pre.map Prod.snd)).1) ∧ True) ∧ Boxed W w.heap.size 3 (.int .i64 n) ∧ Boxed W (w.heap.size + 1 + 1) 3 (.int .i64 ((ringSt n.toNat (pre.map Prod.snd)).2 : Nat))) ∧ Below w.heap.size w W)
    (fun _ _ _ => False)
    (OwnFrom.and (OwnFrom.and (Own.from (holdsRow_own w.heap.size (w.heap.size + 1) 25 9 1 (fun pre : List (Nat × List UInt8) => (ringSt n.toNat (pre.map Prod.snd)).1.length) (fun pre : List (Nat × List UInt8) => strVals (ringSt n.toNat (pre.map Prod.snd)).1) (fun _ _ => True)) _) (OwnFrom.and (Own.from (boxed_own _ _ _) _) (Own.from (boxed_own _ _ (fun pre : List (Nat × List UInt8) => .int .i64 ((ringSt n.toNat (pre.map Prod.snd)).2 : Nat))) _))) (ownFrom_below (Nat.le_refl _) (by omega)))
    (fun c s X Y row hs _ _ => hs)
    ⟨⟨⟨_, bL, World.ownsRow_nil _ _ _ _, trivial⟩, bN, bO⟩, hB0⟩
    (fun x => { tmps := #[.string s, .int .i64 n, undef, .pointer (some ⟨w.heap.size, 0, none⟩), .slice none 0 0, .pointer (some ⟨w.heap.size + 1, 0, none⟩), .pointer (some ⟨w.heap.size + 1 + 1, 0, none⟩), undef, .string (str x.2), .int .i64 n, .bool (decide (n ≤ 0)), .string s, .func (.func 24) #[] #[.pointer (some ⟨w.heap.size + 1 + 1 + 1, 0, none⟩)], .int .i64 (x.1 : Nat), .string (str x.2), undef, undef, undef, undef, undef, undef, undef, undef, undef, undef, undef, undef, undef, undef, undef, undef, undef, undef, undef, undef, undef, undef, undef, undef], defers := [] }) ?assign ?body ?done ?stop
  case assign =>
    intro l x W K hK
    gi_wp2
    exact hK
  case body =>
    rintro l pre x W ⟨⟨⟨v, hv, hrow, -⟩, hbn, hbo⟩, hB⟩ hlt
    have hc := hv.cell
    have hcn := hbn.cell
    have hco := hbo.cell
    have hsz2 := hB.size
    have hrl := ring_le n.toNat hN (pre.map Prod.snd)
    have hrs := ringSt_snoc n.toNat (pre.map Prod.snd) x.2
    rw [List.length_map] at hrl
    generalize ringSt n.toNat (pre.map Prod.snd) = p at *
    obtain ⟨r, o⟩ := p
    simp only at hrow hrl hco
    by_cases hlt2 : r.length < n.toNat
    · have hq : ((r.length : Int) < n) := by omega
      have hrs2 : ringSt n.toNat (pre.map Prod.snd ++ [x.2]) = (r ++ [x.2], o) := hrs.trans (by simp [ringStep, hlt2])
      obtain ⟨ao, cp, hvs⟩ : ∃ ao cp, v = .slice ao r.length cp := by
        rcases hrow.2 with ⟨hv', h0⟩ | ⟨g, cap, cur, hv', _⟩
        · exact ⟨none, 0, by rw [hv', h0]⟩
        · exact ⟨_, _, hv'⟩
      subst hvs
      gi_wp2_with (gi_at_builtin; refine wpListIn_append_own _ rfl _ _ 25 rfl w.heap.size 9 i0 (.string ⟨#[]⟩) 1 16 Try.underlying25 hi hz0 hz1 hz2 rfl (by decide) _ _ _ rfl (hrow.alloc _) ⟨W.heap.size, 0, none⟩ 1 1 [.string (str x.2)] rfl rfl (cell_one_new _ _ _) (by simp [Value.oneCell']) (by unfold maxLen; omega) (by omega) (by simp; omega) ?_; intro v' w1 hown' hgrow _; obtain ⟨g', cap', rfl⟩ := ownsRow_succ hown'; obtain ⟨hv1, hv2, hr2, hk2, hb2⟩ := hv.appended (by decide) hrow hB.size (by omega) hown' hgrow; have hc1 := hv1.cell; have hf1 := hv1.frozen)
      have hbn1 := ((hbn.alloc (.cells #[.string (str x.2)] 9)).kept hgrow (hbn.not_row (by decide) hrow)).other (B' := w.heap.size + 1) (by omega) (.slice (some ⟨g', 0, none⟩) (r.length + 1) cap')
      have hbo1 := ((hbo.alloc (.cells #[.string (str x.2)] 9)).kept hgrow (hbo.not_row (by decide) hrow)).other (B' := w.heap.size + 1) (by omega) (.slice (some ⟨g', 0, none⟩) (r.length + 1) cap')
      refine ⟨hk2, trivial, ?_⟩
      simp only [List.map_append, List.map_cons, List.map_nil, hrs2]
      exact ⟨⟨⟨_, hv2, by simpa [strVals] using hr2⟩, hbn1, hbo1⟩, hB.trans hb2⟩
    · have hq : ¬ ((r.length : Int) < n) := by omega
      obtain ⟨ho, hrn⟩ := hrl.2 hlt2
      have hrs2 : ringSt n.toNat (pre.map Prod.snd ++ [x.2]) = (r.set o x.2, (o + 1) % n.toNat) := hrs.trans (by simp [ringStep, hlt2])
      obtain ⟨g, cap, rfl⟩ : ∃ g cap, v = .slice (some ⟨g, 0, none⟩) r.length cap := by
        rcases hrow.2 with ⟨hv', h0⟩ | ⟨g, cap, cur, hv', _⟩
        · omega
        · exact ⟨_, _, hv'⟩
      have k1 : W.cell? ⟨g, o, none⟩ = some (.string (str r[o])) := by rw [hrow.cellAt o (by omega)]; simp [strVals, List.getElem?_eq_getElem ho]
      have k2 := hrow.frozenAt o
      obtain ⟨hst, hgr⟩ := hrow.stored o (.string (str x.2))
      have hbn2 := hbn.kept hgr (hbn.not_row (by decide) hrow)
      have hbo2 := hbo.kept hgr (hbo.not_row (by decide) hrow)
      have k3 := hbn2.cell
      have k4 := hbo2.cell
      have k5 := hbo2.frozen
      have e5 : ((((o + 1) % n.toNat : Nat) : Nat) : Int) = ((o : Int) + 1) % n := by rw [Int.natCast_emod, hNn]; rfl
      have hne : some (w.heap.size + 1 + 1) ≠ some g := hbo.not_row (by decide) hrow
      gi_wp2_with fail
      refine ⟨(KeepsOthers.setCell _ _ _).trans (KeepsOthers.setCell _ _ _), trivial, ?_⟩
      simp only [List.map_append, List.map_cons, List.map_nil, hrs2]
      refine ⟨⟨⟨_, (hv.kept hgr (hv.not_row (by decide) hrow)).other (by omega) _, ?_⟩, hbn2.other (by omega) _, ?_⟩, ?_⟩
      · have h := hst.kept (grownBy_setCell' _ (w.heap.size + 1 + 1) (.int .i64 (((o : Int) + 1) % n))) (.inr fun e => hne e.symm)
        simpa [strVals] using h
      · rw [e5]
        exact hbo2.set _
      · exact (hB.setCell (p := ⟨g, o, none⟩) (owns_block hrow g rfl) _).setCell (p := ⟨w.heap.size + 1 + 1, 0, none⟩) (show w.heap.size ≤ w.heap.size + 1 + 1 by omega) _
  case done =>
    rintro D ys W hD rfl ⟨⟨⟨v, hv, hrow, -⟩, hbn, hbo⟩, hB⟩ hK
    have hDl : D < W.heap.size := (Array.getElem?_eq_some_iff.1 hK).1
    have hc := hv.cell
    rw [numb_snd] at hrow hbo
    have hco := hbo.cell
    obtain ⟨hre, hol⟩ := ring_ends n.toNat hN (cutL s.data.toList)
    have hrl := ring_le n.toNat hN (cutL s.data.toList)
    have HT : Hid (tailL (cutL s.data.toList) n = (ringSt n.toNat (cutL s.data.toList)).1.drop (ringSt n.toNat (cutL s.data.toList)).2 ++ (ringSt n.toNat (cutL s.data.toList)).1.take (ringSt n.toNat (cutL s.data.toList)).2) := by
      show _ = _
      rw [hre, tailL, if_pos hp]
    clear hre
    generalize ringSt n.toNat (cutL s.data.toList) = p at *
    obtain ⟨r, o⟩ := p
    simp only at hrow hrl hco hol HT
    rcases hrow.2 with ⟨rfl, h0⟩ | ⟨g, cap, cur, rfl, hg, hh, hcap, -⟩
    · obtain rfl := List.eq_nil_of_length_eq_zero h0
      obtain rfl : o = 0 := by simpa using hol
      gi_wp2_with fail
      have HP : Hid _ := pair_new W (.slice none 0 0) (.slice none 0 0)
      refine wpIn_wide.2 ?_
      have hS : W.drew.cell? ⟨w.heap.size + 1, 0, none⟩ = some (.slice none 0 0) ∧ W.drew.cell? ⟨w.heap.size + 1 + 1, 0, none⟩ = some (.int .i64 0) := ⟨hc, hco⟩
      have hS2 : ∀ ob, (W.alloc ob).drew.cell? ⟨w.heap.size + 1, 0, none⟩ = some (.slice none 0 0) ∧ (W.alloc ob).drew.cell? ⟨w.heap.size + 1 + 1, 0, none⟩ = some (.int .i64 0) := fun ob => ⟨(hv.alloc ob).cell, (hbo.alloc ob).cell⟩
      have hS3 : ∀ ob w1, Below (W.alloc ob).drew.heap.size (W.alloc ob).drew w1 → w1.cell? ⟨w.heap.size + 1, 0, none⟩ = some (.slice none 0 0) ∧ w1.cell? ⟨w.heap.size + 1 + 1, 0, none⟩ = some (.int .i64 0) := fun ob w1 h => ⟨(h.cell (p := ⟨w.heap.size + 1, 0, none⟩) (hv.alloc ob).lt).trans (hv.alloc ob).cell, (h.cell (p := ⟨w.heap.size + 1 + 1, 0, none⟩) (hbo.alloc ob).lt).trans (hbo.alloc ob).cell⟩
      go_region_held3 (fun W' => W'.cell? ⟨w.heap.size + 1, 0, none⟩ = some (.slice none 0 0) ∧ W'.cell? ⟨w.heap.size + 1 + 1, 0, none⟩ = some (.int .i64 0)) (first | with_reducible exact hS | with_reducible exact hS2 _ | with_reducible exact hS3 _ _ (by assumption)) ((go_at_call 18; refine (concat_none _ _ _ HP.out).mono ?_; rintro e w1 ⟨v, rfl, hown1, hb1⟩))
      clear HP hS hS2 hS3
      gi_wp2
      have hK1 : w1.heap[D]? = some (.deferred (some [])) := (tail_blk hb1 hDl).trans hK
      have hBw := tail_below hB hb1
      refine ⟨by simp, .inl ⟨_, _, rfl, run_takeDeferred hK1, ?_⟩⟩
      have hne : v.ownBlock ≠ some D := owns_not_deferred hown1 hK1
      have hrow2 := owns_mono (hown1.kept (grownBy_putObj' w1 D (.deferred none)) (.inr hne)) (tail_base hB _)
      refine ⟨_, results_tmp rfl _ _ _, v, rfl, ?_, hBw.trans (belowK_b (w := w) (Nat.le_refl _) w1 D _ _ (by omega) hK1 rfl rfl)⟩
      rw [HT.out]
      exact hrow2
    · have q1 : (0 : Int) ≤ (o : Int) := by omega
      have q2 : (o : Int) ≤ (r.length : Int) := by omega
      have q3 : (o : Int) ≤ (cap : Int) := by omega
      have q4 : (r.length : Int) ≤ (cap : Int) := by omega
      gi_wp2_with fail
      refine wpIn_wide.2 ?_
      have hS : W.drew.cell? ⟨w.heap.size + 1, 0, none⟩ = some (.slice (some ⟨g, 0, none⟩) r.length cap) ∧ W.drew.cell? ⟨w.heap.size + 1 + 1, 0, none⟩ = some (.int .i64 (o : Int)) := ⟨hc, hco⟩
      have hS2 : ∀ ob, (W.alloc ob).drew.cell? ⟨w.heap.size + 1, 0, none⟩ = some (.slice (some ⟨g, 0, none⟩) r.length cap) ∧ (W.alloc ob).drew.cell? ⟨w.heap.size + 1 + 1, 0, none⟩ = some (.int .i64 (o : Int)) := fun ob => ⟨(hv.alloc ob).cell, (hbo.alloc ob).cell⟩
      have hS3 : ∀ ob w1, Below (W.alloc ob).drew.heap.size (W.alloc ob).drew w1 → w1.cell? ⟨w.heap.size + 1, 0, none⟩ = some (.slice (some ⟨g, 0, none⟩) r.length cap) ∧ w1.cell? ⟨w.heap.size + 1 + 1, 0, none⟩ = some (.int .i64 (o : Int)) := fun ob w1 h => ⟨(h.cell (p := ⟨w.heap.size + 1, 0, none⟩) (hv.alloc ob).lt).trans (hv.alloc ob).cell, (h.cell (p := ⟨w.heap.size + 1 + 1, 0, none⟩) (hbo.alloc ob).lt).trans (hbo.alloc ob).cell⟩
      have hcells : ∀ i (h : i < r.length), W.cell? ⟨g, i, none⟩ = some (.string (str r[i])) := fun i h => by rw [hrow.cellAt i (by omega)]; simp [strVals, List.getElem?_eq_getElem h]
      have hgl : g < W.heap.size := (Array.getElem?_eq_some_iff.1 hh).1
      obtain ⟨o1, e1, hc1⟩ : ∃ o1, (if cap = o then some (⟨g, 0, none⟩ : Addr) else some ⟨g, o, none⟩) = some ⟨g, o1, none⟩ ∧ ∀ i (h : i < (r.drop o).length), W.cell? ⟨g, o1 + i, none⟩ = some (.string (str (r.drop o)[i])) := by
        by_cases hco2 : cap = o
        · refine ⟨0, by rw [if_pos hco2], fun i h => ?_⟩
          rw [List.length_drop] at h
          omega
        · refine ⟨o, by rw [if_neg hco2], fun i h => ?_⟩
          rw [List.getElem_drop]
          rw [List.length_drop] at h
          exact hcells (o + i) (by omega)
      have HP : Hid (Calls Try.prog 18 #[.slice (some ⟨W.heap.size, 0, none⟩) 2 2] (W.alloc (.cells #[.slice (some ⟨g, o1, none⟩) (r.length - o) (cap - o), .slice (some ⟨g, 0, none⟩) o cap] 25)).drew fun e w' => ∃ v, e = .returned v ∧ w'.ownsRow (W.alloc (.cells #[.slice (some ⟨g, o1, none⟩) (r.length - o) (cap - o), .slice (some ⟨g, 0, none⟩) o cap] 25)).drew.heap.size 9 1 v (r.drop o ++ r.take o).length (strVals (r.drop o ++ r.take o)) ∧ Below (W.alloc (.cells #[.slice (some ⟨g, o1, none⟩) (r.length - o) (cap - o), .slice (some ⟨g, 0, none⟩) o cap] 25)).drew.heap.size (W.alloc (.cells #[.slice (some ⟨g, o1, none⟩) (r.length - o) (cap - o), .slice (some ⟨g, 0, none⟩) o cap] 25)).drew w') := by
        exact concat_two g (r.drop o) (r.take o) o1 0 (cap - o) cap W.heap.size 2 (W.alloc (.cells #[.slice (some ⟨g, o1, none⟩) (r.length - o) (cap - o), .slice (some ⟨g, 0, none⟩) o cap] 25)).drew
          (by rw [List.length_drop, List.length_take, Nat.min_eq_left hol]; exact pair_new W _ _)
          (fun i h => ((((Below.refl W.heap.size W).alloc (Nat.le_refl _) _).drew).cell (p := ⟨g, o1 + i, none⟩) hgl).trans (hc1 i h))
          (fun i h => by
            rw [List.length_take] at h
            rw [List.getElem_take, Nat.zero_add]
            exact ((((Below.refl W.heap.size W).alloc (Nat.le_refl _) _).drew).cell (p := ⟨g, i, none⟩) hgl).trans (hcells i (by omega)))
          (by simp; omega) (by rw [List.length_drop, List.length_take]; omega)
      go_region_held3 (fun W' => W'.cell? ⟨w.heap.size + 1, 0, none⟩ = some (.slice (some ⟨g, 0, none⟩) r.length cap) ∧ W'.cell? ⟨w.heap.size + 1 + 1, 0, none⟩ = some (.int .i64 (o : Int))) (first | with_reducible exact hS | with_reducible exact hS2 _ | with_reducible exact hS3 _ _ (by assumption)) ((go_at_call 18; refine (HP.out).mono ?_; rintro e w1 ⟨v, rfl, hown1, hb1⟩))
      clear HP hS hS2 hS3
      gi_wp2
      have hK1 : w1.heap[D]? = some (.deferred (some [])) := (tail_blk hb1 hDl).trans hK
      have hBw := tail_below hB hb1
      refine ⟨by simp, .inl ⟨_, _, rfl, run_takeDeferred hK1, ?_⟩⟩
      have hne : v.ownBlock ≠ some D := owns_not_deferred hown1 hK1
      have hrow2 := owns_mono (hown1.kept (grownBy_putObj' w1 D (.deferred none)) (.inr hne)) (tail_base hB _)
      refine ⟨_, results_tmp rfl _ _ _, v, rfl, ?_, hBw.trans (belowK_b (w := w) (Nat.le_refl _) w1 D _ _ (by omega) hK1 rfl rfl)⟩
      rw [HT.out]
      exact hrow2
  case stop =>
    rintro D c pre W hD hSp h hK
    exact h.elim
end Go.Proofs.Ytfmgpcefghoncac
