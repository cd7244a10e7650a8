/- listing: the laws' all. -/
import Derived.Test.YtiegmgcdfafhiaaDoorHf
namespace Go.Proofs.YtiegmgcdfafhiaaDoor
open Go.RowKit Go.Shelf

attribute [local go_sem] Oper.semAt_some

theorem func_eq_nil (f : Fn) (a b : Array Value) (w : World) : (binOp .eql 40 (.func f a b) .nilFunc).run Tryd.prog w = .ok (.bool false) w := by
  kernel_rfl
theorem func_ne_nil (f : Fn) (a b : Array Value) (w : World) : (binOp .neq 40 (.func f a b) .nilFunc).run Tryd.prog w = .ok (.bool true) w := by
  kernel_rfl
theorem results_two {fn : Func} {x y : Tmp} (h : fn.results = #[.tmp x, .tmp y]) (tmps : Array Value) (w : World) : (results fn tmps).run Tryd.prog w = .ok (.tuple #[tmps.getD x undef, tmps.getD y undef]) w := by simp [results, h]

set_option maxRecDepth 100000 in
set_option maxHeartbeats 2000000 in
theorem all_any (s : ByteArray) (hs : s.size ≤ 1073741824) (most : Int) (w : World) :
    Calls Tryd.prog 9 #[.string s, .int .i64 most] w fun e w' => ∃ (v : Value) (pre : List (List UInt8)), e = .returned (.tuple #[v, .bool true]) ∧ w'.ownsRow w.heap.size 9 1 v pre.length (stV pre) ∧ (pre = linesL s.data.toList ∧ most ≠ 0 ∧ (∀ j : Nat, 0 < j → j ≤ pre.length → (j : Int) ≠ most) ∨ (pre <+: linesL s.data.toList ∧ (pre.length : Int) = most)) ∧ Below w.heap.size w w' := by
  have hnil := func_eq_nil
  have hnil2 := func_ne_nil
  obtain ⟨i0, hi, hz0, hz1, hz2⟩ := info_parts strs_info
  have hll := lines_len s.data.toList
  have hsz : s.data.toList.length = s.size := rfl
  refine (callsIn_wide (n := 5)).1 ?_
  refine callsIn_of_wp_marks Tryd.func9 rfl trivial ?_ rfl
  simp only [Tryd.ntmps9, List.size_toArray, List.length_cons, List.length_nil, Nat.reduceAdd, Nat.reduceSub, Array.replicate_succ, Array.replicate_zero, List.push_toArray, List.append_toArray, List.nil_append, List.cons_append]
  have bM : Boxed (((w.alloc (.cells #[.int .i64 most] 3)).alloc (.cells #[.slice none 0 0] 22)).alloc (.cells #[.string s] 9)) w.heap.size 3 (.int .i64 most) := ((Boxed.new w 3 (.int .i64 most)).alloc _).alloc _
  have bL : Boxed (((w.alloc (.cells #[.int .i64 most] 3)).alloc (.cells #[.slice none 0 0] 22)).alloc (.cells #[.string s] 9)) (w.heap.size + 1) 22 (.slice none 0 0) := by
    have h := (Boxed.new (w.alloc (.cells #[.int .i64 most] 3)) 22 (.slice none 0 0)).alloc (.cells #[.string s] 9)
    rwa [World.size_alloc] at h
  have bS : Boxed (((w.alloc (.cells #[.int .i64 most] 3)).alloc (.cells #[.slice none 0 0] 22)).alloc (.cells #[.string s] 9)) (w.heap.size + 1 + 1) 9 (.string s) := by
    have h := Boxed.new ((w.alloc (.cells #[.int .i64 most] 3)).alloc (.cells #[.slice none 0 0] 22)) 9 (.string s)
    rwa [World.size_alloc, World.size_alloc] at h
  have hB0 : Below w.heap.size w (((w.alloc (.cells #[.int .i64 most] 3)).alloc (.cells #[.slice none 0 0] 22)).alloc (.cells #[.string s] 9)) := (((Below.refl _ w).alloc (Nat.le_refl _) _).alloc (by simp) _).alloc (by simp; omega) _
  have hs0 : (((w.alloc (.cells #[.int .i64 most] 3)).alloc (.cells #[.slice none 0 0] 22)).alloc (.cells #[.string s] 9)).heap.size = w.heap.size + 1 + 1 + 1 := by simp
  have HH := hideT (And.intro bM (And.intro bL (And.intro bS (And.intro hB0 hs0))))
  have hmc := bM.cell
  clear bM bL bS hB0 hs0
  by_cases hm : most = 0
  · subst hm
    gi_wp2_with (refine ⟨trivial, ?_⟩; gi_at_call 18; refine (all_in _ _ _).mono ?_; rintro e w' ⟨rfl, rfl⟩)
    exact ⟨_, results_two rfl _ _, .slice none 0 0, [], rfl, World.ownsRow_nil _ _ _ _, .inr ⟨List.nil_prefix, rfl⟩, HH.out.2.2.2.1⟩
  · have hme : (most == 0) = false := by rw [beq_eq_false_iff_ne]; exact hm
    gi_wp2_with (refine ⟨trivial, ?_⟩; gi_at_call 18; refine (all_in _ _ _).mono ?_; rintro e w' ⟨rfl, rfl⟩)
    clear hmc hnil hnil2
    obtain ⟨bM, bL, bS, hB0, hs0⟩ := HH.out
    clear HH
    generalize (((w.alloc (.cells #[.int .i64 most] 3)).alloc (.cells #[.slice none 0 0] 22)).alloc (.cells #[.string s] 9)) = W0 at *
    refine range_A (by omega) (Bn := w.heap.size + 1 + 1) (L := w.heap.size + 1) hs (by omega) rfl rfl
      (fun pre W => (∃ v, Boxed W (w.heap.size + 1) 22 v ∧ W.ownsRow (w.heap.size + 1 + 1 + 1) 9 1 v pre.length (stV pre) ∧ True) ∧ Boxed W (w.heap.size + 1 + 1) 9 (.string s) ∧ Boxed W w.heap.size 3 (.int .i64 most) ∧ Below w.heap.size w W ∧ (∀ j : Nat, 0 < j → j ≤ pre.length → (j : Int) ≠ most))
      (fun c pre W => (∃ v, Boxed W (w.heap.size + 1) 22 v ∧ W.ownsRow (w.heap.size + 1 + 1 + 1) 9 1 v pre.length (stV pre) ∧ True) ∧ Below w.heap.size w W ∧ (c = .exit 0 ∧ (pre.length : Int) = most))
      (fun pre A B h hit => by
        obtain ⟨⟨v, h1, h2, -⟩, h3, h4, h5, h6⟩ := h
        exact ⟨⟨v, its_box hit h1 (by omega), its_row hit h1 h2, trivial⟩, its_box hit h3 (by omega), its_box hit h4 (by omega), its_below hit h5 (by omega) (Nat.le_refl _), h6⟩)
      (OwnFrom.and (Own.from (holdsRow_own (w.heap.size + 1 + 1 + 1) (w.heap.size + 1) 22 9 1 (fun pre => pre.length) (fun pre : List (List UInt8) => stV pre) (fun _ _ => True)) _) (OwnFrom.and (Own.from (boxed_own _ _ _) _) (OwnFrom.and (Own.from (boxed_own _ _ _) _) (OwnFrom.and (ownFrom_below (Nat.le_refl _) (by omega)) (ownFrom_pure _ _)))))
      (fun c => OwnFrom.and (Own.from (holdsRow_own (w.heap.size + 1 + 1 + 1) (w.heap.size + 1) 22 9 1 (fun pre => pre.length) (fun pre : List (List UInt8) => stV pre) (fun _ _ => True)) _) (OwnFrom.and (ownFrom_below (Nat.le_refl _) (by omega)) (ownFrom_pure _ _)))
      (fun pre W1 h => by
        obtain ⟨⟨v, h1, h2, -⟩, h3, h4⟩ := h
        refine ⟨h3, fun u g hu e => ?_⟩
        unfold Boxed at h1 hu
        rw [h1] at hu
        cases hu
        exact (owns_blk h2 e).2.1)
      ⟨⟨_, bL, World.ownsRow_nil _ _ _ _, trivial⟩, bS, bM, hB0, fun j h1 h2 => by simp at h2; omega⟩
      (fun x => { tmps := #[.string s, .int .i64 most, undef, .pointer (some ⟨w.heap.size, 0, none⟩), .slice none 0 0, .bool false, .pointer (some ⟨w.heap.size + 1, 0, none⟩), .func (.func 22) #[] #[.pointer (some ⟨w.heap.size + 1 + 1, 0, none⟩)], .string (bst x), .string s, .func (.func 22) #[] #[.pointer (some ⟨w.heap.size + 1 + 1, 0, none⟩)], .func (.func 22) #[] #[.pointer (some ⟨w.heap.size + 1 + 1, 0, none⟩)], .bool false, .bool false, .int .i64 most, .bool false, .bool false, undef, undef, .func (.func 22) #[] #[.pointer (some ⟨w.heap.size + 1 + 1, 0, none⟩)], .string (bst x), undef, undef, undef, undef, undef, undef, undef, undef, undef], defers := [] }) ?assign ?body ?done ?stop
    case assign =>
      intro l x W K hK
      gi_wp2
      exact hK
    case body =>
      rintro l pre x W ⟨⟨v, hv, hrow, -⟩, hS, hM, hB, hj⟩ hpre
      have hlt : pre.length < (linesL s.data.toList).length := by have := hpre.length_le; simp at this; omega
      have hc := hv.cell
      have hmc := hM.cell
      have hsz2 := hB.size
      have hltS' : w.heap.size + 1 + 1 + 1 ≤ W.heap.size := hS.lt
      have hKA := fun (v' : Value) (w1 : World) (ys : List Value) (h1 : w1.ownsRow (w.heap.size + 1 + 1 + 1) 9 1 v' (pre.length + 1) ys) h2 h3 => keepA_grown (n0 := W0.heap.size + 2) hv (by omega) hrow (.cells #[.string (bst x)] 9) h1 h2 h3
      have HKA := hideT hKA
      have HJ := hideT hj
      clear hKA hj
      generalize hbx : bst x = bx at *
      gi_wp2_with (gi_at_builtin; refine wpListIn_append_own_at _ rfl _ _ 22 rfl (w.heap.size + 1 + 1 + 1) 9 i0 (.string ⟨#[]⟩) 1 16 Tryd.underlying22 hi hz0 hz1 hz2 rfl (by decide) _ _ _ rfl (hrow.alloc _) ⟨W.heap.size, 0, none⟩ 1 1 [.string bx] rfl rfl (cell_one_new _ _ _) (by simp [Value.oneCell']) (by unfold maxLen; omega) (by omega) (by simp; omega) ?_; intro v' w1 hown' hgrow _ hvv; obtain ⟨g', cap', rfl⟩ := ownsRow_succ hown'; obtain ⟨hv1, hv2, -, hk2, hb2⟩ := hv.appended (by decide) (owns_mono hrow (show w.heap.size ≤ w.heap.size + 1 + 1 + 1 by omega)) hB.size (by omega) (owns_mono hown' (show w.heap.size ≤ w.heap.size + 1 + 1 + 1 by omega)) hgrow; have hc1 := hv1.cell; have hf1 := hv1.frozen; have hS1 := (hS.alloc _).kept hgrow (fun e => by have := (hrow.lt _ e.symm).1; omega); have hM1 := (hM.alloc _).kept hgrow (hM.not_row (by decide) hrow); have hmc1 := hM1.cell)
      · subst hbx
        have hq : ((pre.length : Int) + 1 == most) = true := by assumption
        have hr2 := owns_keep (W' := w1.setCell ⟨w.heap.size + 1, 0, none⟩ (.slice (some ⟨g', 0, none⟩) (pre.length + 1) cap')) hown' (fun g hg => put_far _ _ _ _ (by have := (hown'.lt _ hg).1; omega))
        exact ⟨hk2.from _, ⟨_, hv2, by simpa [stV] using hr2⟩, hB.trans hb2, rfl, by simpa using hq⟩
      · subst hbx
        have hq : ((pre.length : Int) + 1 == most) = false := by assumption
        have hr2 := owns_keep (W' := w1.setCell ⟨w.heap.size + 1, 0, none⟩ (.slice (some ⟨g', 0, none⟩) (pre.length + 1) cap')) hown' (fun g hg => put_far _ _ _ _ (by have := (hown'.lt _ hg).1; omega))
        refine ⟨hk2.from _, HKA.out _ _ _ hown' hgrow hvv, ⟨_, hv2, by simpa [stV] using hr2⟩, hS1.other (by omega) _, hM1.other (by omega) _, hB.trans hb2, fun j h1 h2 => ?_⟩
        rw [List.length_append, List.length_singleton] at h2
        by_cases e : j = pre.length + 1
        · subst e; simpa using hq
        · exact HJ.out j h1 (by omega)
    case done =>
      rintro D W hD ⟨⟨v, hv, hrow, -⟩, hS, hM, hB, hj⟩ hK
      have hc := hv.cell
      gi_wp2
      refine ⟨by simp, .inl ⟨_, _, rfl, run_takeDeferred hK, ?_⟩⟩
      have hne : v.ownBlock ≠ some D := owns_not_deferred hrow hK
      have hrow2 := hrow.kept (grownBy_putObj' W D (.deferred none)) (.inr hne)
      exact ⟨_, results_two rfl _ _, v, _, rfl, owns_mono hrow2 (by omega), .inl ⟨rfl, hm, hj⟩, hB.trans (belowK_b (w := w) (Nat.le_refl _) W D _ _ (by omega) hK rfl rfl)⟩
    case stop =>
      rintro D c pre W hD hSp ⟨⟨v, hv, hrow, -⟩, hB, rfl, hj⟩ hK
      have hc := hv.cell
      gi_wp2
      refine ⟨by simp, .inl ⟨_, _, rfl, run_takeDeferred hK, ?_⟩⟩
      have hne : v.ownBlock ≠ some D := owns_not_deferred hrow hK
      have hrow2 := hrow.kept (grownBy_putObj' W D (.deferred none)) (.inr hne)
      exact ⟨_, results_two rfl _ _, v, _, rfl, owns_mono hrow2 (by omega), .inr ⟨hSp, hj⟩, hB.trans (belowK_b (w := w) (Nat.le_refl _) W D _ _ (by omega) hK rfl rfl)⟩

end Go.Proofs.YtiegmgcdfafhiaaDoor
