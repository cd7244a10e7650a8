/- Walks: all: the lines that All gives, most of them at the most, at every text of at most 2^30 bytes. -/
import Derived.Test.YtfmgpcefghoncaaCutC
import Derived.Test.YtfmgpcefghoncaaSame
namespace Go.Proofs.Ytfmgpcefghoncaa
open Go.RowKit Go.Shelf
attribute [local go_sem] Oper.semAt_some

theorem func_eq_nil (f : Fn) (a b : Array Value) (w : World) : (binOp .eql 42 (.func f a b) .nilFunc).run Try.prog w = .ok (.bool false) w := by
  kernel_rfl
theorem func_ne_nil (f : Fn) (a b : Array Value) (w : World) : (binOp .neq 42 (.func f a b) .nilFunc).run Try.prog w = .ok (.bool true) w := by
  kernel_rfl

theorem numb_fst (k : Nat) (l : List (List UInt8)) (i : Nat) (h : i < (numb k l).length) : (numb k l)[i].1 = k + i := by
  induction l generalizing k i with
  | nil => simp [numb] at h
  | cons x r ih =>
    cases i with
    | zero => simp [numb]
    | succ i =>
      simp only [numb, List.getElem_cons_succ]
      rw [ih]
      omega

theorem numb_last {l : List (List UInt8)} {pre : List (Nat × List UInt8)} {x : Nat × List UInt8} (h : pre ++ [x] <+: numb 1 l) : x.1 = pre.length + 1 := by
  obtain ⟨t, ht⟩ := h
  have hl : pre.length < (numb 1 l).length := by rw [← ht]; simp
  have h1 := numb_fst 1 l pre.length hl
  have h2 : (numb 1 l)[pre.length] = x := by simp [← ht]
  rw [h2] at h1
  omega

theorem numb_prefix {l : List (List UInt8)} {pre : List (Nat × List UInt8)} (h : pre <+: numb 1 l) : pre.map Prod.snd <+: l := by
  obtain ⟨t, ht⟩ := h
  have e := numb_snd 1 l
  rw [← ht, List.map_append] at e
  exact ⟨_, e⟩

theorem ownFrom_imp {β : Type} {B : Nat} {I : β → World → Prop} (p : Prop) (h : OwnFrom B I) : OwnFrom B (fun s W => p → I s W) := fun s X Y row hs hg hr hp => h s X Y row (hs hp) hg hr

theorem owns_shape {W : World} {base : Nat} {e : TypeId} {size : Nat} {v : Value} {n : Nat} {xs : List Value} (h : W.ownsRow base e size v n xs) : ∃ ao cp, v = .slice ao n cp := by
  rcases h.2 with ⟨hv, h0⟩ | ⟨g, cap, cur, hv, _⟩
  · exact ⟨none, 0, by rw [hv, h0]⟩
  · exact ⟨_, _, hv⟩

theorem results_all (tmps : Array Value) (w : World) (a b : Addr) (va vb : Value) (h1 : tmps[4]?.getD undef = .pointer (some a)) (h2 : tmps[5]?.getD undef = .pointer (some b)) (c1 : w.cell? a = some va) (c2 : w.cell? b = some vb) :
    (results Try.f9 tmps).run Try.prog w = .ok (.tuple #[va, vb]) w := by
  simp [results, h1, h2, c1, c2, loadVar, asAddr, Try.isAgg22, Try.isAgg4]

set_option maxRecDepth 100000 in
set_option maxHeartbeats 2000000 in
theorem allCall (s : ByteArray) (hs : s.size ≤ 1073741824) (most : Int) (hm : (most == 0) = false) (w : World) :
    Calls Try.prog 9 #[.string s, .int .i64 most] w fun e w' => ∃ (v : Value) (pre : List (List UInt8)), e = .returned (.tuple #[v, .bool true]) ∧ w'.ownsRow w.heap.size 9 1 v pre.length (strVals pre) ∧ (pre = cutL s.data.toList ∧ (∀ j : Nat, 0 < j → j ≤ pre.length → (j : Int) ≠ most) ∨ (pre <+: cutL s.data.toList ∧ (pre.length : Int) = most)) ∧ Below w.heap.size w w' := by
  have hnil := func_eq_nil
  obtain ⟨i0, hi, hz0, hz1, hz2⟩ := info_parts info9
  have hcl := cutL_le s.data.toList
  have hsz : s.data.toList.length = s.size := by simp
  refine (callsIn_wide (n := 5)).1 ?_
  refine callsIn_of_wp_marks Try.func9 rfl trivial ?_ rfl
  simp only [Try.ntmps9, List.size_toArray, List.length_cons, List.length_nil, Nat.reduceAdd, Nat.reduceSub, Array.replicate_succ, Array.replicate_zero, List.push_toArray, List.append_toArray, List.nil_append, List.cons_append]
  gi_wp2_with (refine ⟨trivial, ?_⟩; gi_at_call 20; refine (all_in _ _ _).mono ?_; rintro e w' ⟨rfl, rfl⟩)
  have bM : Boxed (((((w.alloc (.cells #[.int .i64 most] 3)).alloc (.cells #[.slice none 0 0] 22)).alloc (.cells #[.bool false] 4)).alloc (.cells #[.slice none 0 0] 22)).alloc (.cells #[.string s] 9)) w.heap.size 3 (.int .i64 most) := ((((Boxed.new w 3 (.int .i64 most)).alloc _).alloc _).alloc _).alloc _
  have bR : Boxed (((((w.alloc (.cells #[.int .i64 most] 3)).alloc (.cells #[.slice none 0 0] 22)).alloc (.cells #[.bool false] 4)).alloc (.cells #[.slice none 0 0] 22)).alloc (.cells #[.string s] 9)) (w.heap.size + 1) 22 (.slice none 0 0) := by
    have h := (((Boxed.new (w.alloc (.cells #[.int .i64 most] 3)) 22 (.slice none 0 0)).alloc (.cells #[.bool false] 4)).alloc (.cells #[.slice none 0 0] 22)).alloc (.cells #[.string s] 9)
    rwa [World.size_alloc] at h
  have bK : Boxed (((((w.alloc (.cells #[.int .i64 most] 3)).alloc (.cells #[.slice none 0 0] 22)).alloc (.cells #[.bool false] 4)).alloc (.cells #[.slice none 0 0] 22)).alloc (.cells #[.string s] 9)) (w.heap.size + 1 + 1) 4 (.bool false) := by
    have h := ((Boxed.new ((w.alloc (.cells #[.int .i64 most] 3)).alloc (.cells #[.slice none 0 0] 22)) 4 (.bool false)).alloc (.cells #[.slice none 0 0] 22)).alloc (.cells #[.string s] 9)
    rwa [World.size_alloc, World.size_alloc] at h
  have bL : Boxed (((((w.alloc (.cells #[.int .i64 most] 3)).alloc (.cells #[.slice none 0 0] 22)).alloc (.cells #[.bool false] 4)).alloc (.cells #[.slice none 0 0] 22)).alloc (.cells #[.string s] 9)) (w.heap.size + 1 + 1 + 1) 22 (.slice none 0 0) := by
    have h := (Boxed.new (((w.alloc (.cells #[.int .i64 most] 3)).alloc (.cells #[.slice none 0 0] 22)).alloc (.cells #[.bool false] 4)) 22 (.slice none 0 0)).alloc (.cells #[.string s] 9)
    rwa [World.size_alloc, World.size_alloc, World.size_alloc] at h
  have bS : Boxed (((((w.alloc (.cells #[.int .i64 most] 3)).alloc (.cells #[.slice none 0 0] 22)).alloc (.cells #[.bool false] 4)).alloc (.cells #[.slice none 0 0] 22)).alloc (.cells #[.string s] 9)) (w.heap.size + 1 + 1 + 1 + 1) 9 (.string s) := by
    have h := Boxed.new ((((w.alloc (.cells #[.int .i64 most] 3)).alloc (.cells #[.slice none 0 0] 22)).alloc (.cells #[.bool false] 4)).alloc (.cells #[.slice none 0 0] 22)) 9 (.string s)
    rwa [World.size_alloc, World.size_alloc, World.size_alloc, World.size_alloc] at h
  have hB0 : Below w.heap.size w (((((w.alloc (.cells #[.int .i64 most] 3)).alloc (.cells #[.slice none 0 0] 22)).alloc (.cells #[.bool false] 4)).alloc (.cells #[.slice none 0 0] 22)).alloc (.cells #[.string s] 9)) := (((((Below.refl _ w).alloc (Nat.le_refl _) _).alloc (by simp) _).alloc (by simp; omega) _).alloc (by simp; omega) _).alloc (by simp; omega) _
  have hs0 : (((((w.alloc (.cells #[.int .i64 most] 3)).alloc (.cells #[.slice none 0 0] 22)).alloc (.cells #[.bool false] 4)).alloc (.cells #[.slice none 0 0] 22)).alloc (.cells #[.string s] 9)).heap.size = w.heap.size + 1 + 1 + 1 + 1 + 1 := by simp
  generalize (((((w.alloc (.cells #[.int .i64 most] 3)).alloc (.cells #[.slice none 0 0] 22)).alloc (.cells #[.bool false] 4)).alloc (.cells #[.slice none 0 0] 22)).alloc (.cells #[.string s] 9)) = W0 at *
  refine wpIn_rangeFunc_ownF rfl (by omega) (gf := 25) (lb := #[.pointer (some ⟨w.heap.size + 1 + 1 + 1 + 1, 0, none⟩)]) rfl trivial (enters_of Try.func25 (by kernel_rfl) rfl)
    (iter_stops 4 (by omega) (w.heap.size + 1 + 1 + 1 + 1) s hs W0 bS) any2_t any2_b (Below.refl _ _) (fun _ => rfl)
    (fun pre W => ((∃ v, Boxed W (w.heap.size + 1 + 1 + 1) 22 v ∧ W.ownsRow w.heap.size 9 1 v pre.length (strVals (pre.map Prod.snd)) ∧ True) ∧ Boxed W w.heap.size 3 (.int .i64 most) ∧ Boxed W (w.heap.size + 1) 22 (.slice none 0 0) ∧ Boxed W (w.heap.size + 1 + 1) 4 (.bool false)) ∧ Below w.heap.size w W ∧ (∀ j : Nat, 0 < j → j ≤ pre.length → (j : Int) ≠ most))
    (fun c pre W => (c = .exit 0 → ((∃ v, Boxed W (w.heap.size + 1 + 1 + 1) 22 v ∧ W.ownsRow w.heap.size 9 1 v pre.length (strVals (pre.map Prod.snd)) ∧ True) ∧ Boxed W (w.heap.size + 1) 22 (.slice none 0 0) ∧ Boxed W (w.heap.size + 1 + 1) 4 (.bool false)) ∧ Below w.heap.size w W) ∧ ((c = .exit 0 ∧ (pre.length : Int) = most) ∨ (∃ pre' x, pre = pre' ++ [x] ∧ x.1 ≠ pre'.length + 1)))
    (OwnFrom.and (OwnFrom.and (Own.from (holdsRow_own w.heap.size (w.heap.size + 1 + 1 + 1) 22 9 1 (fun pre => pre.length) (fun pre : List (Nat × List UInt8) => strVals (pre.map Prod.snd)) (fun _ _ => True)) _) (OwnFrom.and (Own.from (boxed_own _ _ _) _) (OwnFrom.and (Own.from (boxed_own _ _ _) _) (Own.from (boxed_own _ _ _) _)))) (OwnFrom.and (ownFrom_below (Nat.le_refl _) (by omega)) (ownFrom_pure _ _)))
    (fun c => OwnFrom.and (ownFrom_imp (c = .exit 0) (OwnFrom.and (OwnFrom.and (Own.from (holdsRow_own w.heap.size (w.heap.size + 1 + 1 + 1) 22 9 1 (fun pre => pre.length) (fun pre : List (Nat × List UInt8) => strVals (pre.map Prod.snd)) (fun _ _ => True)) _) (OwnFrom.and (Own.from (boxed_own _ _ _) _) (Own.from (boxed_own _ _ _) _))) (ownFrom_below (Nat.le_refl _) (by omega)))) (ownFrom_pure _ _))
    ⟨⟨⟨_, bL, World.ownsRow_nil _ _ _ _, trivial⟩, bM, bR, bK⟩, hB0, fun j h1 h2 => by simp at h2; omega⟩
    (fun x => { tmps := #[.string s, .int .i64 most, undef, .pointer (some ⟨w.heap.size, 0, none⟩), .pointer (some ⟨w.heap.size + 1, 0, none⟩), .pointer (some ⟨w.heap.size + 1 + 1, 0, none⟩), .pointer (some ⟨w.heap.size + 1 + 1 + 1, 0, none⟩), .func (.func 25) #[] #[.pointer (some ⟨w.heap.size + 1 + 1 + 1 + 1, 0, none⟩)], .int .i64 (x.1 : Nat), .string (str x.2), .string s, .func (.func 25) #[] #[.pointer (some ⟨w.heap.size + 1 + 1 + 1 + 1, 0, none⟩)], .func (.func 25) #[] #[.pointer (some ⟨w.heap.size + 1 + 1 + 1 + 1, 0, none⟩)], .bool false, .bool false, .int .i64 most, .bool false, .bool false, undef, undef, .func (.func 25) #[] #[.pointer (some ⟨w.heap.size + 1 + 1 + 1 + 1, 0, none⟩)], .int .i64 (x.1 : Nat), .string (str x.2), undef, undef, undef, undef, undef, undef, undef, undef, undef, undef, undef, undef, undef, undef], defers := [] }) ?assign ?body ?done ?stop
  case assign =>
    intro l x W K hK
    gi_wp2
    exact hK
  case body =>
    rintro l pre x W ⟨⟨⟨v, hv, hrow, -⟩, hM, hR, hO⟩, hB, hj⟩ hlt
    have hc := hv.cell
    have hmc := hM.cell
    have hsz2 := hB.size
    gi_wp2_with (gi_at_builtin; refine wpListIn_append_own _ rfl _ _ 22 rfl w.heap.size 9 i0 (.string ⟨#[]⟩) 1 16 Try.underlying22 hi hz0 hz1 hz2 rfl (by decide) _ _ _ rfl (hrow.alloc _) ⟨W.heap.size, 0, none⟩ 1 1 [.string (str x.2)] rfl rfl (cell_one_new _ _ _) (by simp [Value.oneCell']) (by unfold maxLen; omega) (by omega) (by simp; omega) ?_; intro v' w1 hown' hgrow _; obtain ⟨g', cap', rfl⟩ := ownsRow_succ hown'; obtain ⟨hv1, hv2, hr2, hk2, hb2⟩ := hv.appended (by decide) hrow hB.size (by omega) hown' hgrow; have hc1 := hv1.cell; have hf1 := hv1.frozen; have hM1 : Boxed w1 w.heap.size 3 (.int .i64 most) := (hM.alloc _).kept hgrow (hM.not_row (by decide) hrow); have hmc1 := hM1.cell; have hR1 : Boxed w1 (w.heap.size + 1) 22 (.slice none 0 0) := (hR.alloc _).kept hgrow (hR.not_row (by decide) hrow); have hrc1 := hR1.cell; have hrf1 := hR1.frozen; have hO1 : Boxed w1 (w.heap.size + 1 + 1) 4 (.bool false) := (hO.alloc _).kept hgrow (hO.not_row (by decide) hrow); have hoc1 := hO1.cell; have hof1 := hO1.frozen)
    · have hq : (((x.1 : Nat) : Int) != (pre.length : Int) + 1) = true := by assumption
      refine ⟨(hk2.trans (KeepsOthers.setCell _ _ _)).trans (KeepsOthers.setCell _ _ _), fun h => (by cases h), .inr ⟨pre, x, rfl, fun e => ?_⟩⟩
      rw [e] at hq
      simp at hq
    · have hq : ((pre.length : Int) + 1 == most) = true := by assumption
      exact ⟨hk2, fun _ => ⟨⟨⟨_, hv2, by simpa [strVals] using hr2⟩, hR1.other (by omega) _, hO1.other (by omega) _⟩, hB.trans hb2⟩, .inl ⟨rfl, by simpa using hq⟩⟩
    · have hq : ((pre.length : Int) + 1 == most) = false := by assumption
      refine ⟨hk2, trivial, ⟨⟨_, hv2, by simpa [strVals] using hr2⟩, hM1.other (by omega) _, hR1.other (by omega) _, hO1.other (by omega) _⟩, hB.trans hb2, fun j h1 h2 => ?_⟩
      rw [List.length_append, List.length_singleton] at h2
      by_cases e : j = pre.length + 1
      · subst e; simpa using hq
      · exact hj j h1 (by omega)
  case done =>
    rintro D ys W hD rfl ⟨⟨⟨v, hv, hrow, -⟩, hM, hR, hO⟩, hB, hj⟩ hK
    rw [numb_length] at hrow hj
    rw [numb_snd] at hrow
    obtain ⟨ao, cp, rfl⟩ := owns_shape hrow
    have hc := hv.cell
    have hrc := hR.cell
    have hrf := hR.frozen
    have hoc := hO.cell
    have hof := hO.frozen
    gi_wp2
    have hR2 : Boxed ((W.setCell ⟨w.heap.size + 1, 0, none⟩ (.slice ao (cutL s.data.toList).length cp)).setCell ⟨w.heap.size + 1 + 1, 0, none⟩ (.bool true)) (w.heap.size + 1) 22 (.slice ao (cutL s.data.toList).length cp) := (hR.set _).other (by omega) _
    have hO2 : Boxed ((W.setCell ⟨w.heap.size + 1, 0, none⟩ (.slice ao (cutL s.data.toList).length cp)).setCell ⟨w.heap.size + 1 + 1, 0, none⟩ (.bool true)) (w.heap.size + 1 + 1) 4 (.bool true) := (hO.other (by omega) _).set _
    have hK2 := ((KeepsOthers.setCell W ⟨w.heap.size + 1, 0, none⟩ (.slice ao (cutL s.data.toList).length cp)).trans (KeepsOthers.setCell _ ⟨w.heap.size + 1 + 1, 0, none⟩ (.bool true))).same D _ hK rfl
    have hB2 := (hB.setCell (p := ⟨w.heap.size + 1, 0, none⟩) (show w.heap.size ≤ w.heap.size + 1 by omega) (.slice ao (cutL s.data.toList).length cp)).setCell (p := ⟨w.heap.size + 1 + 1, 0, none⟩) (show w.heap.size ≤ w.heap.size + 1 + 1 by omega) (.bool true)
    have hrow2 := (hrow.kept (grownBy_setCell' W (w.heap.size + 1) (.slice ao (cutL s.data.toList).length cp)) (.inr fun e => hR.not_row (by decide) hrow e.symm)).kept (grownBy_setCell' _ (w.heap.size + 1 + 1) (.bool true)) (.inr fun e => hO.not_row (by decide) hrow e.symm)
    generalize (W.setCell ⟨w.heap.size + 1, 0, none⟩ (.slice ao (cutL s.data.toList).length cp)).setCell ⟨w.heap.size + 1 + 1, 0, none⟩ (.bool true) = W2 at *
    have hgr := grownBy_putObj' W2 D (.deferred none)
    have hR3 := hR2.kept hgr (fun e => by obtain rfl : w.heap.size + 1 = D := by simpa using e
                                          omega)
    have hO3 := hO2.kept hgr (fun e => by obtain rfl : w.heap.size + 1 + 1 = D := by simpa using e
                                          omega)
    refine ⟨by simp, .inl ⟨_, _, rfl, run_takeDeferred hK2, ?_⟩⟩
    exact ⟨_, results_all _ _ _ _ _ _ rfl rfl hR3.cell hO3.cell, _, cutL s.data.toList, rfl, hrow2.kept hgr (.inr (owns_not_deferred hrow2 hK2)), .inl ⟨rfl, hj⟩, hB2.trans (belowK_b (w := w) (Nat.le_refl _) W2 D _ _ (by omega) hK2 rfl rfl)⟩
  case stop =>
    rintro D c pre W hD hSp ⟨hRO, ⟨rfl, hj⟩ | ⟨pre', x, rfl, hx⟩⟩ hK
    · obtain ⟨⟨⟨v, hv, hrow, -⟩, hR, hO⟩, hB⟩ := hRO rfl
      obtain ⟨ao, cp, rfl⟩ := owns_shape hrow
      have hc := hv.cell
      have hrc := hR.cell
      have hrf := hR.frozen
      have hoc := hO.cell
      have hof := hO.frozen
      gi_wp2
      have hR2 : Boxed ((W.setCell ⟨w.heap.size + 1, 0, none⟩ (.slice ao pre.length cp)).setCell ⟨w.heap.size + 1 + 1, 0, none⟩ (.bool true)) (w.heap.size + 1) 22 (.slice ao pre.length cp) := (hR.set _).other (by omega) _
      have hO2 : Boxed ((W.setCell ⟨w.heap.size + 1, 0, none⟩ (.slice ao pre.length cp)).setCell ⟨w.heap.size + 1 + 1, 0, none⟩ (.bool true)) (w.heap.size + 1 + 1) 4 (.bool true) := (hO.other (by omega) _).set _
      have hK2 := ((KeepsOthers.setCell W ⟨w.heap.size + 1, 0, none⟩ (.slice ao pre.length cp)).trans (KeepsOthers.setCell _ ⟨w.heap.size + 1 + 1, 0, none⟩ (.bool true))).same D _ hK rfl
      have hB2 := (hB.setCell (p := ⟨w.heap.size + 1, 0, none⟩) (show w.heap.size ≤ w.heap.size + 1 by omega) (.slice ao pre.length cp)).setCell (p := ⟨w.heap.size + 1 + 1, 0, none⟩) (show w.heap.size ≤ w.heap.size + 1 + 1 by omega) (.bool true)
      have hrow2 := (hrow.kept (grownBy_setCell' W (w.heap.size + 1) (.slice ao pre.length cp)) (.inr fun e => hR.not_row (by decide) hrow e.symm)).kept (grownBy_setCell' _ (w.heap.size + 1 + 1) (.bool true)) (.inr fun e => hO.not_row (by decide) hrow e.symm)
      generalize (W.setCell ⟨w.heap.size + 1, 0, none⟩ (.slice ao pre.length cp)).setCell ⟨w.heap.size + 1 + 1, 0, none⟩ (.bool true) = W2 at *
      have hgr := grownBy_putObj' W2 D (.deferred none)
      have hR3 := hR2.kept hgr (fun e => by obtain rfl : w.heap.size + 1 = D := by simpa using e
                                            omega)
      have hO3 := hO2.kept hgr (fun e => by obtain rfl : w.heap.size + 1 + 1 = D := by simpa using e
                                            omega)
      refine ⟨by simp, .inl ⟨_, _, rfl, run_takeDeferred hK2, ?_⟩⟩
      exact ⟨_, results_all _ _ _ _ _ _ rfl rfl hR3.cell hO3.cell, _, rfl, pre.map Prod.snd, by rw [List.length_map]; exact hrow2.kept hgr (.inr (owns_not_deferred hrow2 hK2)), .inr ⟨numb_prefix hSp, by rw [List.length_map]; exact hj⟩, hB2.trans (belowK_b (w := w) (Nat.le_refl _) W2 D _ _ (by omega) hK2 rfl rfl)⟩
    · exact absurd (numb_last hSp) hx
end Go.Proofs.Ytfmgpcefghoncaa
