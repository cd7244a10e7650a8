/- try -/
import Derived.Test.YtfmgpcefghoncabIter
namespace Go.Proofs.Ytfmgpcefghoncab
open Go.RowKit Go.Shelf
attribute [local go_sem] Oper.semAt_some

theorem func_eq_nil (f : Fn) (a b : Array Value) (w : World) : (binOp .eql 54 (.func f a b) .nilFunc).run Try.prog w = .ok (.bool false) w := by
  kernel_rfl

theorem func_ne_nil (f : Fn) (a b : Array Value) (w : World) : (binOp .neq 54 (.func f a b) .nilFunc).run Try.prog w = .ok (.bool true) w := by
  kernel_rfl

/-- Bytes as a text. -/
def bstr (l : List Nat) : ByteArray := ⟨(l.map fun n => UInt8.ofNat n).toArray⟩

theorem conv_owned {W : World} {base : Nat} {v : Value} {l : List Nat} (h : W.ownsRow base 5 1 v l.length (byteVals l)) : (convert 43 9 v).run Try.prog W = .ok (.string (bstr l)) W := by
  rcases h.2 with ⟨rfl, h0⟩ | ⟨g, cap, cur, rfl, hg, hh, hrest⟩
  · obtain rfl := List.eq_nil_of_length_eq_zero h0
    exact run_convert_bytes_nil W 43 5 Try.underlying43 Try.underlying5 0 0 9 Try.underlying9
  · have hc : ∀ i, i < l.length → W.cell? ⟨g, 0 + i, none⟩ = some (.int .u8 ((l.map fun (n : Nat) => (n : Int)).getD i 0)) := by
      intro i hi
      have h2 := h.cells (g := g) rfl i (.int .u8 ((l.map fun (n : Nat) => (n : Int)).getD i 0)) (by simp [byteVals, List.getElem?_eq_getElem hi])
      have hplain : (⟨g, 0, none⟩ : Addr).add i = ⟨g, 0 + i, none⟩ := by unfold Addr.add; split <;> simp_all
      rwa [hplain] at h2
    have h3 := run_convert_bytes_arg (P := Try.prog) W 43 5 Try.underlying43 Try.underlying5 g 0 l.length cap (l.map fun (n : Nat) => (n : Int)) (by simp) hc 9 Try.underlying9
    rw [h3]
    simp [strOfNums, bstr]

theorem set4_not_row {W : World} {b : Nat} {p : Nat → Bool} (h : Set4 W b p) {base size k : Nat} {v : Value} {xs : List Value} (hr : W.ownsRow base 5 size v k xs) : some b ≠ v.ownBlock := by
  rcases hr.2 with ⟨rfl, _⟩ | ⟨g, cap, cur, rfl, _, hg, _⟩
  · intro e; cases e
  · intro e
    obtain rfl : b = g := by simpa [Value.ownBlock] using e
    rw [show W.heap[b]? = _ from h] at hg
    cases hg

theorem set4_own {β : Type} (b : Nat) (p : Nat → Bool) : Own (fun (_ : β) W => Set4 W b p) := fun s X Y row hs hg hrow => by
  have hne : some b ≠ row := fun e' => by
    obtain ⟨o, ho, hc⟩ := hrow b e'.symm
    rw [show X.heap[b]? = _ from hs] at ho; cases ho; cases hc
  exact (hg.block b hs.lt hne).trans hs

theorem keep_set {W w1 : World} {b B base k : Nat} {p : Nat → Bool} {v : Value} {xs : List Value} {tmp : Obj} (hS : Set4 W b p) (hrow : W.ownsRow base 5 1 v k xs) (hgrow : (W.alloc tmp).grownBy w1 v.ownBlock) (hne : b ≠ B) (u : Value) :
    KeepAt b W (w1.setCell ⟨B, 0, none⟩ u) := by
  have hlt := hS.lt
  have h1 : w1.heap[b]? = (W.alloc tmp).heap[b]? := hgrow.block b (by simp; omega) (set4_not_row hS hrow)
  have hs := hgrow.size
  refine ⟨by simp at hs ⊢; omega, ?_⟩
  rw [Below.heap_setCell w1 ⟨B, 0, none⟩ u b hne, h1]
  exact Below.heap_alloc W tmp b hlt

theorem info5' : (Try.prog.info? 5).map (fun i => (i.zero, i.size, i.bytes)) = some (some (.int .u8 0), 1, 1) := info5

set_option maxRecDepth 100000 in
set_option maxHeartbeats 2000000 in
theorem membs (p : Nat → Bool) (most : Int) (hm : (most == 0) = false) (w : World) :
    Calls Try.prog 22 #[.agg #[.int .u64 (wd p 0 : Nat), .int .u64 (wd p 1 : Nat), .int .u64 (wd p 2 : Nat), .int .u64 (wd p 3 : Nat)], .int .i64 most] w fun e w' => ∃ pre : List Nat, e = .returned (.tuple #[.string (bstr pre), .bool true]) ∧ (pre = mem p 256 ∧ (∀ j : Nat, 0 < j → j ≤ pre.length → (j : Int) ≠ most) ∨ (pre <+: mem p 256 ∧ (pre.length : Int) = most)) ∧ Below w.heap.size w w' := by
  have hnil := func_eq_nil
  obtain ⟨i0, hi, hz0, hz1, hz2⟩ := info_parts info5
  refine (callsIn_wide (n := 5)).1 ?_
  refine callsIn_of_wp_marks Try.func22 rfl trivial ?_ rfl
  simp only [Try.ntmps22, List.size_toArray, List.length_cons, List.length_nil, Nat.reduceAdd, Nat.reduceSub, Array.replicate_succ, Array.replicate_zero, List.push_toArray, List.append_toArray, List.nil_append, List.cons_append]
  gi_wp2_with (refine ⟨trivial, ?_⟩; gi_at_call 32; refine (members_in _ _ _).mono ?_; rintro e w' ⟨rfl, rfl⟩)
  have bM : Boxed ((((w.alloc (.cells #[.int .u64 (wd p 0 : Nat), .int .u64 (wd p 1 : Nat), .int .u64 (wd p 2 : Nat), .int .u64 (wd p 3 : Nat)] 24)).alloc (.cells #[.int .i64 most] 3)).alloc (.cells #[.slice none 0 0] 43)).alloc (.cells #[.int .u64 (wd p 0 : Nat), .int .u64 (wd p 1 : Nat), .int .u64 (wd p 2 : Nat), .int .u64 (wd p 3 : Nat)] 24)) (w.heap.size + 1) 3 (.int .i64 most) := by
    have h := ((Boxed.new (w.alloc (.cells #[.int .u64 (wd p 0 : Nat), .int .u64 (wd p 1 : Nat), .int .u64 (wd p 2 : Nat), .int .u64 (wd p 3 : Nat)] 24)) 3 (.int .i64 most)).alloc (.cells #[.slice none 0 0] 43)).alloc (.cells #[.int .u64 (wd p 0 : Nat), .int .u64 (wd p 1 : Nat), .int .u64 (wd p 2 : Nat), .int .u64 (wd p 3 : Nat)] 24)
    rwa [World.size_alloc] at h
  have bL : Boxed ((((w.alloc (.cells #[.int .u64 (wd p 0 : Nat), .int .u64 (wd p 1 : Nat), .int .u64 (wd p 2 : Nat), .int .u64 (wd p 3 : Nat)] 24)).alloc (.cells #[.int .i64 most] 3)).alloc (.cells #[.slice none 0 0] 43)).alloc (.cells #[.int .u64 (wd p 0 : Nat), .int .u64 (wd p 1 : Nat), .int .u64 (wd p 2 : Nat), .int .u64 (wd p 3 : Nat)] 24)) (w.heap.size + 1 + 1) 43 (.slice none 0 0) := by
    have h := (Boxed.new ((w.alloc (.cells #[.int .u64 (wd p 0 : Nat), .int .u64 (wd p 1 : Nat), .int .u64 (wd p 2 : Nat), .int .u64 (wd p 3 : Nat)] 24)).alloc (.cells #[.int .i64 most] 3)) 43 (.slice none 0 0)).alloc (.cells #[.int .u64 (wd p 0 : Nat), .int .u64 (wd p 1 : Nat), .int .u64 (wd p 2 : Nat), .int .u64 (wd p 3 : Nat)] 24)
    rwa [World.size_alloc, World.size_alloc] at h
  have bS : Set4 ((((w.alloc (.cells #[.int .u64 (wd p 0 : Nat), .int .u64 (wd p 1 : Nat), .int .u64 (wd p 2 : Nat), .int .u64 (wd p 3 : Nat)] 24)).alloc (.cells #[.int .i64 most] 3)).alloc (.cells #[.slice none 0 0] 43)).alloc (.cells #[.int .u64 (wd p 0 : Nat), .int .u64 (wd p 1 : Nat), .int .u64 (wd p 2 : Nat), .int .u64 (wd p 3 : Nat)] 24)) (w.heap.size + 1 + 1 + 1) p := by
    have h := Set4.new (((w.alloc (.cells #[.int .u64 (wd p 0 : Nat), .int .u64 (wd p 1 : Nat), .int .u64 (wd p 2 : Nat), .int .u64 (wd p 3 : Nat)] 24)).alloc (.cells #[.int .i64 most] 3)).alloc (.cells #[.slice none 0 0] 43)) p
    rwa [World.size_alloc, World.size_alloc, World.size_alloc] at h
  have hB0 : Below w.heap.size w ((((w.alloc (.cells #[.int .u64 (wd p 0 : Nat), .int .u64 (wd p 1 : Nat), .int .u64 (wd p 2 : Nat), .int .u64 (wd p 3 : Nat)] 24)).alloc (.cells #[.int .i64 most] 3)).alloc (.cells #[.slice none 0 0] 43)).alloc (.cells #[.int .u64 (wd p 0 : Nat), .int .u64 (wd p 1 : Nat), .int .u64 (wd p 2 : Nat), .int .u64 (wd p 3 : Nat)] 24)) := ((((Below.refl _ w).alloc (Nat.le_refl _) _).alloc (by simp) _).alloc (by simp; omega) _).alloc (by simp; omega) _
  have hs0 : ((((w.alloc (.cells #[.int .u64 (wd p 0 : Nat), .int .u64 (wd p 1 : Nat), .int .u64 (wd p 2 : Nat), .int .u64 (wd p 3 : Nat)] 24)).alloc (.cells #[.int .i64 most] 3)).alloc (.cells #[.slice none 0 0] 43)).alloc (.cells #[.int .u64 (wd p 0 : Nat), .int .u64 (wd p 1 : Nat), .int .u64 (wd p 2 : Nat), .int .u64 (wd p 3 : Nat)] 24)).heap.size = w.heap.size + 1 + 1 + 1 + 1 := by simp
  generalize (((w.alloc (.cells #[.int .u64 (wd p 0 : Nat), .int .u64 (wd p 1 : Nat), .int .u64 (wd p 2 : Nat), .int .u64 (wd p 3 : Nat)] 24)).alloc (.cells #[.int .i64 most] 3)).alloc (.cells #[.slice none 0 0] 43)).alloc (.cells #[.int .u64 (wd p 0 : Nat), .int .u64 (wd p 1 : Nat), .int .u64 (wd p 2 : Nat), .int .u64 (wd p 3 : Nat)] 24) = W0 at *
  refine wpIn_rangeFunc_ownF rfl (by omega) (gf := 34) (lb := #[.pointer (some ⟨w.heap.size + 1 + 1 + 1, 0, none⟩)]) rfl trivial (enters_of Try.func34 (by kernel_rfl) rfl)
    (iter_stops 4 (by omega) (w.heap.size + 1 + 1 + 1) p W0 bS) keepAt_t (keepAt_b (by omega)) (Below.refl _ _) (fun _ => rfl)
    (fun pre W => ((∃ v, Boxed W (w.heap.size + 1 + 1) 43 v ∧ W.ownsRow w.heap.size 5 1 v pre.length (byteVals pre) ∧ True) ∧ Boxed W (w.heap.size + 1) 3 (.int .i64 most) ∧ Set4 W (w.heap.size + 1 + 1 + 1) p) ∧ Below w.heap.size w W ∧ (∀ j : Nat, 0 < j → j ≤ pre.length → (j : Int) ≠ most))
    (fun c pre W => ((∃ v, Boxed W (w.heap.size + 1 + 1) 43 v ∧ W.ownsRow w.heap.size 5 1 v pre.length (byteVals pre) ∧ True) ∧ Boxed W (w.heap.size + 1) 3 (.int .i64 most) ∧ Set4 W (w.heap.size + 1 + 1 + 1) p) ∧ Below w.heap.size w W ∧ (c = .exit 0 ∧ (pre.length : Int) = most))
    (OwnFrom.and (OwnFrom.and (Own.from (holdsRow_own w.heap.size (w.heap.size + 1 + 1) 43 5 1 (fun pre => pre.length) byteVals (fun _ _ => True)) _) (OwnFrom.and (Own.from (boxed_own _ _ _) _) (Own.from (set4_own _ _) _))) (OwnFrom.and (ownFrom_below (Nat.le_refl _) (by omega)) (ownFrom_pure _ _)))
    (fun c => OwnFrom.and (OwnFrom.and (Own.from (holdsRow_own w.heap.size (w.heap.size + 1 + 1) 43 5 1 (fun pre => pre.length) byteVals (fun _ _ => True)) _) (OwnFrom.and (Own.from (boxed_own _ _ _) _) (Own.from (set4_own _ _) _))) (OwnFrom.and (ownFrom_below (Nat.le_refl _) (by omega)) (ownFrom_pure _ _)))
    ⟨⟨⟨_, bL, World.ownsRow_nil _ _ _ _, trivial⟩, bM, bS⟩, hB0, fun j h1 h2 => by simp at h2; omega⟩
    (fun x => { tmps := #[.agg #[.int .u64 (wd p 0 : Nat), .int .u64 (wd p 1 : Nat), .int .u64 (wd p 2 : Nat), .int .u64 (wd p 3 : Nat)], .int .i64 most, .pointer (some ⟨w.heap.size, 0, none⟩), .pointer (some ⟨w.heap.size + 1, 0, none⟩), .string ⟨#[]⟩, .bool false, .pointer (some ⟨w.heap.size + 1 + 1, 0, none⟩), .func (.func 34) #[] #[.pointer (some ⟨w.heap.size + 1 + 1 + 1, 0, none⟩)], .int .u8 (x : Nat), .agg #[.int .u64 (wd p 0 : Nat), .int .u64 (wd p 1 : Nat), .int .u64 (wd p 2 : Nat), .int .u64 (wd p 3 : Nat)], .func (.func 34) #[] #[.pointer (some ⟨w.heap.size + 1 + 1 + 1, 0, none⟩)], .func (.func 34) #[] #[.pointer (some ⟨w.heap.size + 1 + 1 + 1, 0, none⟩)], .bool false, .bool false, .int .i64 most, .bool false, .bool false, undef, undef, .func (.func 34) #[] #[.pointer (some ⟨w.heap.size + 1 + 1 + 1, 0, none⟩)], .int .u8 (x : Nat), undef, undef, undef, undef, undef, undef, undef, undef, undef, undef, undef, undef, undef, undef, undef], defers := [] }) ?assign ?body ?done ?stop
  case assign =>
    intro l x W K hK
    gi_wp2
    exact hK
  case body =>
    rintro l pre x W ⟨⟨⟨v, hv, hrow, -⟩, hM, hS⟩, hB, hj⟩ hlt
    have hc := hv.cell
    have hmc := hM.cell
    have hsz := hB.size
    have hnot : ¬ (256 : Int) < (pre.length : Int) + 1 := by omega
    gi_wp2_with (gi_at_builtin; refine wpListIn_append_own _ rfl _ _ 43 rfl w.heap.size 5 i0 (.int .u8 0) 1 1 Try.underlying43 hi hz0 hz1 hz2 rfl (by decide) _ _ _ rfl (hrow.alloc _) ⟨W.heap.size, 0, none⟩ 1 1 [.int .u8 (x : Nat)] rfl rfl (cell_one_new _ _ _) (by simp [Value.oneCell']) (by unfold maxLen; omega) (by omega) (by simp; omega) ?_; intro v' w1 hown' hgrow _; obtain ⟨g', cap', rfl⟩ := ownsRow_succ hown'; obtain ⟨hv1, hv2, hr2, hk2, hb2⟩ := hv.appended (by decide) hrow hB.size (by omega) hown' hgrow; have hc1 := hv1.cell; have hf1 := hv1.frozen; have hM1 : Boxed w1 (w.heap.size + 1) 3 (.int .i64 most) := (hM.alloc _).kept hgrow (hM.not_row (by decide) hrow); have hmc1 := hM1.cell)
    · have hq : (pre.length : Int) + 1 = most := by assumption
      have hS2 := keep_set hS hrow hgrow (B := w.heap.size + 1 + 1) (by omega) (.slice (some ⟨g', 0, none⟩) (pre.length + 1) cap')
      exact ⟨hk2, ⟨⟨_, hv2, by simpa [byteVals_snoc] using hr2⟩, hM1.other (by omega) _, hS.keep hS2⟩, hB.trans hb2, rfl, by simpa using hq⟩
    · have hq : ¬ (pre.length : Int) + 1 = most := by assumption
      have hS2 := keep_set hS hrow hgrow (B := w.heap.size + 1 + 1) (by omega) (.slice (some ⟨g', 0, none⟩) (pre.length + 1) cap')
      refine ⟨hk2, hS2, ⟨⟨_, hv2, by simpa [byteVals_snoc] using hr2⟩, hM1.other (by omega) _, hS.keep hS2⟩, hB.trans hb2, fun j h1 h2 => ?_⟩
      rw [List.length_append, List.length_singleton] at h2
      by_cases e : j = pre.length + 1
      · subst e; simpa using hq
      · exact hj j h1 (by omega)
  case done =>
    rintro D ys W hD rfl ⟨⟨⟨v, hv, hrow, -⟩, hM, hS⟩, hB, hj⟩ hK
    have hc := hv.cell
    have hconv := conv_owned hrow
    gi_wp2
    refine ⟨by simp, .inl ⟨_, _, rfl, run_takeDeferred hK, ?_⟩⟩
    exact ⟨_, results_tmp2 rfl _ _ _, mem p 256, rfl, .inl ⟨rfl, hj⟩, hB.trans (belowK_b (w := w) (Nat.le_refl _) W D _ _ (by omega) hK rfl rfl)⟩
  case stop =>
    rintro D c pre W hD hSp ⟨⟨⟨v, hv, hrow, -⟩, hM, hS⟩, hB, rfl, hj⟩ hK
    have hc := hv.cell
    have hconv := conv_owned hrow
    gi_wp2
    refine ⟨by simp, .inl ⟨_, _, rfl, run_takeDeferred hK, ?_⟩⟩
    exact ⟨_, results_tmp2 rfl _ _ _, pre, rfl, .inr ⟨hSp, hj⟩, hB.trans (belowK_b (w := w) (Nat.le_refl _) W D _ _ (by omega) hK rfl rfl)⟩
end Go.Proofs.Ytfmgpcefghoncab
