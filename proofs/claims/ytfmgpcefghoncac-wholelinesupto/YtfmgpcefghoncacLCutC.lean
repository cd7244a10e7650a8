/- Walks: lines.Cut: the lines of a text in a new list, at every text of at most 2^30 bytes. -/
import Derived.Test.YtfmgpcefghoncacLIter
namespace Go.Proofs.Ytfmgpcefghoncac
open Go.RowKit Go.Shelf
attribute [local go_sem] Oper.semAt_some

theorem numb_snd (k : Nat) (l : List (List UInt8)) : (numb k l).map Prod.snd = l := by
  induction l generalizing k with
  | nil => rfl
  | cons x r ih => simp [numb, ih]

theorem owns_not_deferred {W : World} {base : Nat} {e : TypeId} {size : Nat} {v : Value} {n : Nat} {xs : List Value} (h : W.ownsRow base e size v n xs) {D : Nat} {o : Option (List Deferred)} (hK : W.heap[D]? = some (.deferred o)) : v.ownBlock ≠ some D := by
  rcases h.2 with ⟨rfl, -⟩ | ⟨g, cap, cur, rfl, -, hg, -⟩
  · intro e; cases e
  · intro e
    obtain rfl : g = D := by simpa [Value.ownBlock] using e
    rw [hg] at hK
    cases hK

set_option maxRecDepth 100000 in
set_option maxHeartbeats 2000000 in
theorem cutCall (s : ByteArray) (hs : s.size ≤ 1073741824) (w : World) :
    Calls Try.prog 6 #[.string s] w fun e w' => ∃ v, e = .returned v ∧ w'.ownsRow w.heap.size 9 1 v (cutL s.data.toList).length (strVals (cutL s.data.toList)) ∧ Below w.heap.size w w' := by
  obtain ⟨i0, hi, hz0, hz1, hz2⟩ := info_parts info9
  have hcl := cutL_le s.data.toList
  have hsz : s.data.toList.length = s.size := by simp
  refine (callsIn_wide (n := 5)).1 ?_
  refine callsIn_of_wp_marks Try.func6 rfl trivial ?_ rfl
  simp only [Try.ntmps6, List.size_toArray, List.length_cons, List.length_nil, Nat.reduceAdd, Nat.reduceSub, Array.replicate_succ, Array.replicate_zero, List.push_toArray, List.append_toArray, List.nil_append, List.cons_append]
  gi_wp2_with (refine ⟨trivial, ?_⟩; gi_at_call 17; refine (all_in _ _ _).mono ?_; rintro e w' ⟨rfl, rfl⟩)
  have bL : Boxed ((w.alloc (.cells #[.slice none 0 0] 25)).alloc (.cells #[.string s] 9)) w.heap.size 25 (.slice none 0 0) := (Boxed.new w 25 (.slice none 0 0)).alloc _
  have bS : Boxed ((w.alloc (.cells #[.slice none 0 0] 25)).alloc (.cells #[.string s] 9)) (w.heap.size + 1) 9 (.string s) := by
    have h := Boxed.new (w.alloc (.cells #[.slice none 0 0] 25)) 9 (.string s)
    rwa [World.size_alloc] at h
  have hB0 : Below w.heap.size w ((w.alloc (.cells #[.slice none 0 0] 25)).alloc (.cells #[.string s] 9)) := ((Below.refl _ w).alloc (Nat.le_refl _) _).alloc (by simp) _
  have hs0 : ((w.alloc (.cells #[.slice none 0 0] 25)).alloc (.cells #[.string s] 9)).heap.size = w.heap.size + 1 + 1 := by simp
  generalize (w.alloc (.cells #[.slice none 0 0] 25)).alloc (.cells #[.string s] 9) = W0 at *
  refine wpIn_rangeFunc_ownF rfl (by omega) (gf := 24) (lb := #[.pointer (some ⟨w.heap.size + 1, 0, none⟩)]) rfl trivial (enters_of Try.func24 (by kernel_rfl) rfl)
    (iter_stops 4 (by omega) (w.heap.size + 1) s hs W0 bS) any2_t any2_b (Below.refl _ _) (fun _ => rfl)
    (fun pre W => (∃ v, Boxed W w.heap.size 25 v ∧ W.ownsRow w.heap.size 9 1 v pre.length (strVals (pre.map Prod.snd)) ∧ True) ∧ Below w.heap.size w W)
    (fun _ _ _ => False)
    (OwnFrom.and (Own.from (holdsRow_own w.heap.size w.heap.size 25 9 1 (fun pre => pre.length) (fun pre : List (Nat × List UInt8) => strVals (pre.map Prod.snd)) (fun _ _ => True)) _) (ownFrom_below (Nat.le_refl _) (by omega)))
    (fun c s X Y row hs _ _ => hs)
    ⟨⟨_, bL, World.ownsRow_nil _ _ _ _, trivial⟩, hB0⟩
    (fun x => { tmps := #[.string s, undef, .slice none 0 0, .pointer (some ⟨w.heap.size, 0, none⟩), undef, .string (str x.2), .string s, .func (.func 24) #[] #[.pointer (some ⟨w.heap.size + 1, 0, none⟩)], .int .i64 (x.1 : Nat), .string (str x.2), undef, undef, undef, undef, undef], defers := [] }) ?assign ?body ?done ?stop
  case assign =>
    intro l x W K hK
    gi_wp2
    exact hK
  case body =>
    rintro l pre x W ⟨⟨v, hv, hrow, -⟩, hB⟩ hlt
    have hc := hv.cell
    have hsz2 := hB.size
    gi_wp2_with (gi_at_builtin; refine wpListIn_append_own _ rfl _ _ 25 rfl w.heap.size 9 i0 (.string ⟨#[]⟩) 1 16 Try.underlying25 hi hz0 hz1 hz2 rfl (by decide) _ _ _ rfl (hrow.alloc _) ⟨W.heap.size, 0, none⟩ 1 1 [.string (str x.2)] rfl rfl (cell_one_new _ _ _) (by simp [Value.oneCell']) (by unfold maxLen; omega) (by omega) (by simp; omega) ?_; intro v' w1 hown' hgrow _; obtain ⟨g', cap', rfl⟩ := ownsRow_succ hown'; obtain ⟨hv1, hv2, hr2, hk2, hb2⟩ := hv.appended (by decide) hrow hB.size (by omega) hown' hgrow; have hc1 := hv1.cell; have hf1 := hv1.frozen)
    exact ⟨hk2, trivial, ⟨_, hv2, by simpa [strVals] using hr2⟩, hB.trans hb2⟩
  case done =>
    rintro D ys W hD rfl ⟨⟨v, hv, hrow, -⟩, hB⟩ hK
    have hc := hv.cell
    gi_wp2
    refine ⟨by simp, .inl ⟨_, _, rfl, run_takeDeferred hK, ?_⟩⟩
    have hne : v.ownBlock ≠ some D := owns_not_deferred hrow hK
    have hrow2 := hrow.kept (grownBy_putObj' W D (.deferred none)) (.inr hne)
    rw [numb_length, numb_snd] at hrow2
    exact ⟨_, results_tmp rfl _ _ _, v, rfl, hrow2, hB.trans (belowK_b (w := w) (Nat.le_refl _) W D _ _ (by omega) hK rfl rfl)⟩
  case stop =>
    rintro D c pre W hD hSp h hK
    exact h.elim
end Go.Proofs.Ytfmgpcefghoncac
