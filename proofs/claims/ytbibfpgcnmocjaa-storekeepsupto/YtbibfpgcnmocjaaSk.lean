/- store: the statements' all; a nil store; StoreNone. -/
import Derived.Test.YtbibfpgcnmocjaaSw
namespace Go.Proofs.Ytbibfpgcnmocjaa
open Go.RowKit Go.Shelf

attribute [local go_sem] Oper.semAt_some

theorem func_eq_nil (f : Fn) (a b : Array Value) (w : World) : (binOp .eql 70 (.func f a b) .nilFunc).run Try.prog w = .ok (.bool false) w := by
  kernel_rfl
theorem func_ne_nil (f : Fn) (a b : Array Value) (w : World) : (binOp .neq 70 (.func f a b) .nilFunc).run Try.prog w = .ok (.bool true) w := by
  kernel_rfl
theorem results_two {fn : Func} {x y : Tmp} (h : fn.results = #[.tmp x, .tmp y]) (tmps : Array Value) (w : World) : (results fn tmps).run Try.prog w = .ok (.tuple #[tmps.getD x undef, tmps.getD y undef]) w := by simp [results, h]

set_option maxRecDepth 100000 in
set_option maxHeartbeats 2000000 in
theorem all_gen (w : World) {pv : Value} (hpv : ∃ o, pv = .pointer o) {items : List It} {F : Nat → Prop} {R : World → Prop} (hF : ∀ k, F k → k < w.heap.size) (hRp : ∀ W W', R W → (∀ k, k < w.heap.size → W'.heap[k]? = W.heap[k]?) → R W') (hR0 : R w) (hit : ItAll w pv items F R) (hlen : items.length ≤ 16) (most : Int) :
    Calls Try.prog 22 #[pv, .int .i64 most] w fun e w' => ∃ (v : Value) (pre : List It), e = .returned (.tuple #[v, .bool true]) ∧ w'.ownsRow w.heap.size 52 2 v pre.length (flV pre) ∧ Tch F w w' ∧ R w' ∧ (pre = items ∧ most ≠ 0 ∧ (∀ j : Nat, 0 < j → j ≤ pre.length → (j : Int) ≠ most) ∨ (pre <+: items ∧ (pre.length : Int) = most)) := by
  have hnil := func_eq_nil
  have hnil2 := func_ne_nil
  obtain ⟨i0, hi, hz0, hz1, hz2⟩ := info_parts infoFl
  obtain ⟨po, rfl⟩ := hpv
  refine (callsIn_wide (n := 5)).1 ?_
  refine callsIn_of_wp_marks Try.func22 rfl trivial ?_ rfl
  simp only [Try.ntmps22, List.size_toArray, List.length_cons, List.length_nil, Nat.reduceAdd, Nat.reduceSub, Array.replicate_succ, Array.replicate_zero, List.push_toArray, List.append_toArray, List.nil_append, List.cons_append]
  have bM : Boxed (((w.alloc (.cells #[.int .i64 most] 3)).alloc (.cells #[.slice none 0 0] 22)).alloc (.cells #[.pointer po] 24)) w.heap.size 3 (.int .i64 most) := ((Boxed.new w 3 (.int .i64 most)).alloc _).alloc _
  have bL : Boxed (((w.alloc (.cells #[.int .i64 most] 3)).alloc (.cells #[.slice none 0 0] 22)).alloc (.cells #[.pointer po] 24)) (w.heap.size + 1) 22 (.slice none 0 0) := by
    have h := (Boxed.new (w.alloc (.cells #[.int .i64 most] 3)) 22 (.slice none 0 0)).alloc (.cells #[.pointer po] 24)
    rwa [World.size_alloc] at h
  have bS : Boxed (((w.alloc (.cells #[.int .i64 most] 3)).alloc (.cells #[.slice none 0 0] 22)).alloc (.cells #[.pointer po] 24)) (w.heap.size + 1 + 1) 24 (.pointer po) := by
    have h := Boxed.new ((w.alloc (.cells #[.int .i64 most] 3)).alloc (.cells #[.slice none 0 0] 22)) 24 (.pointer po)
    rwa [World.size_alloc, World.size_alloc] at h
  have hB0 : Below w.heap.size w (((w.alloc (.cells #[.int .i64 most] 3)).alloc (.cells #[.slice none 0 0] 22)).alloc (.cells #[.pointer po] 24)) := (((Below.refl _ w).alloc (Nat.le_refl _) _).alloc (by simp) _).alloc (by simp; omega) _
  have hs0 : (((w.alloc (.cells #[.int .i64 most] 3)).alloc (.cells #[.slice none 0 0] 22)).alloc (.cells #[.pointer po] 24)).heap.size = w.heap.size + 1 + 1 + 1 := by simp
  have HH := hideT (And.intro bM (And.intro bL (And.intro bS (And.intro hB0 hs0))))
  have hmc := bM.cell
  clear bM bL bS hB0 hs0
  by_cases hm : most = 0
  · subst hm
    gi_wp2_with (refine ⟨trivial, ?_⟩; gi_at_call 29; refine (all_in _ _ _).mono ?_; rintro e w' ⟨rfl, rfl⟩)
    exact ⟨_, results_two rfl _ _, .slice none 0 0, [], rfl, World.ownsRow_nil _ _ _ _, Tch.of HH.out.2.2.2.1, hRp _ _ hR0 (fun k hk => HH.out.2.2.2.1.block k hk), .inr ⟨List.nil_prefix, rfl⟩⟩
  · have hme : (most == 0) = false := by rw [beq_eq_false_iff_ne]; exact hm
    gi_wp2_with (refine ⟨trivial, ?_⟩; gi_at_call 29; refine (all_in _ _ _).mono ?_; rintro e w' ⟨rfl, rfl⟩)
    clear hmc hnil hnil2
    obtain ⟨bM, bL, bS, hB0, hs0⟩ := HH.out
    clear HH
    generalize (((w.alloc (.cells #[.int .i64 most] 3)).alloc (.cells #[.slice none 0 0] 22)).alloc (.cells #[.pointer po] 24)) = W0 at *
    have hQL : ∀ k, k < W0.heap.size → (F k ∨ W0.heap.size + 2 ≤ k) → F k := fun k hk h => h.elim id (fun h => by omega)
    have hnF : ∀ k, w.heap.size ≤ k → k < W0.heap.size → ¬ (F k ∨ W0.heap.size + 2 ≤ k) := fun k h1 h2 h => h.elim (fun h => by have := hF k h; omega) (fun h => by omega)
    refine range_A (by omega) (ad := ⟨w.heap.size + 1 + 1, 0, none⟩) (L := w.heap.size + 1) (F := F) (fun k hk => by have := hF k hk; omega)
      (fun X hX hXs => by
        have h := hit (w.heap.size + 1 + 1) (w.heap.size + 1) X (hB0.trans (hX.mono (by omega))) (by omega)
        rw [hXs] at h
        exact h) enter_all (by omega) rfl rfl (fun A B hA hk => hRp A B hA (fun k hk2 => hk k (by omega)))
      (fun pre W => (∃ v, Boxed W (w.heap.size + 1) 22 v ∧ W.ownsRow (w.heap.size + 1 + 1 + 1) 52 2 v pre.length (flV pre) ∧ True) ∧ Boxed W (w.heap.size + 1 + 1) 24 (.pointer po) ∧ Boxed W w.heap.size 3 (.int .i64 most) ∧ Tch F w W ∧ (∀ j : Nat, 0 < j → j ≤ pre.length → (j : Int) ≠ most))
      (fun c pre W => (∃ v, Boxed W (w.heap.size + 1) 22 v ∧ W.ownsRow (w.heap.size + 1 + 1 + 1) 52 2 v pre.length (flV pre) ∧ True) ∧ Tch F w W ∧ (c = .exit 0 ∧ (pre.length : Int) = most))
      (fun pre A B h hit => by
        obtain ⟨⟨v, h1, h2, -⟩, h3, h4, h5, h6⟩ := h
        exact ⟨⟨v, its_box hit h1 (hnF _ (by omega) (by omega)), its_row hit h1 h2, trivial⟩, its_box hit h3 (hnF _ (by omega) (by omega)), its_box hit h4 (hnF _ (by omega) (by omega)), its_tch hit h5 (fun k hk h => hQL k (by omega) h), h6⟩)
      (OwnFrom.and (Own.from (holdsRow_own (w.heap.size + 1 + 1 + 1) (w.heap.size + 1) 22 52 2 (fun pre => pre.length) (fun pre : List It => flV pre) (fun _ _ => True)) _) (OwnFrom.and (Own.from (boxed_own _ _ _) _) (OwnFrom.and (Own.from (boxed_own _ _ _) _) (OwnFrom.and (ownFrom_tch (by omega)) (ownFrom_pure _ _)))))
      (fun c => OwnFrom.and (Own.from (holdsRow_own (w.heap.size + 1 + 1 + 1) (w.heap.size + 1) 22 52 2 (fun pre => pre.length) (fun pre : List It => flV pre) (fun _ _ => True)) _) (OwnFrom.and (ownFrom_tch (by omega)) (ownFrom_pure _ _)))
      (fun pre W1 h => by
        obtain ⟨⟨v, h1, h2, -⟩, h3, h4⟩ := h
        refine ⟨h3, fun u g hu e => ?_⟩
        unfold Boxed at h1 hu
        rw [h1] at hu
        cases hu
        have h5 := owns_blk h2 e
        exact ⟨h5.2.1, fun hf => by have := hF g hf; omega⟩)
      ⟨⟨_, bL, World.ownsRow_nil _ _ _ _, trivial⟩, bS, bM, Tch.of hB0, fun j h1 h2 => by simp at h2; omega⟩
      (fun x => { tmps := #[.pointer po, .int .i64 most, undef, .pointer (some ⟨w.heap.size, 0, none⟩), .slice none 0 0, .bool false, .pointer (some ⟨w.heap.size + 1, 0, none⟩), .func (.func 37) #[] #[.pointer (some ⟨w.heap.size + 1 + 1, 0, none⟩)], .string ⟨x.1.toArray⟩, .string ⟨x.2.toArray⟩, .pointer po, .func (.func 37) #[] #[.pointer (some ⟨w.heap.size + 1 + 1, 0, none⟩)], .func (.func 37) #[] #[.pointer (some ⟨w.heap.size + 1 + 1, 0, none⟩)], .bool false, .bool false, .int .i64 most, .bool false, .bool false, undef, undef, .func (.func 37) #[] #[.pointer (some ⟨w.heap.size + 1 + 1, 0, none⟩)], .string ⟨x.1.toArray⟩, .string ⟨x.2.toArray⟩, undef, undef, undef, undef, undef, undef, undef, undef, undef, undef, undef], defers := [] }) ?assign ?body ?done ?stop
    case assign =>
      intro l x W K hK
      unfold itV
      gi_wp2
      exact hK
    case body =>
      rintro l pre x W ⟨⟨v, hv, hrow, -⟩, hS, hM, hB, hj⟩ hpre
      have hlt : pre.length < items.length := by have := hpre.length_le; simp at this; omega
      have hc := hv.cell
      have hmc := hM.cell
      have hsz2 := hB.size
      have hltS' : w.heap.size + 1 + 1 + 1 ≤ W.heap.size := hS.lt
      have hKA := fun (v' : Value) (w1 : World) h2 h3 => keepA_grown (Q := fun k => F k ∨ W0.heap.size + 2 ≤ k) (w1 := w1) (v' := v') hv (hnF _ (by omega) (by omega)) hrow (.cells #[.string ⟨x.1.toArray⟩, .string ⟨x.2.toArray⟩] 52) h2 h3
      have HKA := hideT hKA
      have HJ := hideT hj
      clear hKA hj
      have HX := hideT (show flV (pre ++ [x]) = flV pre ++ [.string ⟨x.1.toArray⟩, .string ⟨x.2.toArray⟩] from by rw [flV_app]; rfl)
      generalize (⟨x.1.toArray⟩ : ByteArray) = bx at *
      generalize (⟨x.2.toArray⟩ : ByteArray) = by_ at *
      gi_wp2_with (gi_at_builtin; refine wpListIn_append_own_at _ rfl _ _ 22 rfl (w.heap.size + 1 + 1 + 1) 52 i0 _ 2 32 Try.underlying22 hi hz0 hz1 hz2 rfl (by decide) _ _ _ rfl (hrow.alloc _) ⟨W.heap.size, 0, none⟩ 1 1 [.string bx, .string by_] rfl rfl (two_new _ _ _ _) (by simp [Value.oneCell']) (by unfold maxLen; omega) (by omega) (by simp; omega) ?_; intro v' w1 hown' hgrow _ hvv; obtain ⟨g', cap', rfl⟩ := ownsRow_succ hown'; obtain ⟨hv1, hv2, -, hk2, hb2⟩ := hv.appended (by decide) (owns_mono hrow (show w.heap.size ≤ w.heap.size + 1 + 1 + 1 by omega)) hB.size (by omega) (owns_mono hown' (show w.heap.size ≤ w.heap.size + 1 + 1 + 1 by omega)) hgrow; have hc1 := hv1.cell; have hf1 := hv1.frozen; have hS1 := (hS.alloc _).kept hgrow (fun e => by have := (hrow.lt _ e.symm).1; omega); have hM1 := (hM.alloc _).kept hgrow (hM.not_row (by decide) hrow); have hmc1 := hM1.cell)
      · have hq : ((pre.length : Int) + 1 == most) = true := by assumption
        have hr2 := owns_keep (W' := w1.setCell ⟨w.heap.size + 1, 0, none⟩ (.slice (some ⟨g', 0, none⟩) (pre.length + 1) cap')) hown' (fun g hg => put_far _ _ _ _ (by have := (hown'.lt _ hg).1; omega))
        refine ⟨hk2.from _, HKA.out _ _ hgrow hvv, ⟨_, hv2, ?_, trivial⟩, hB.low hb2, rfl, by simpa using hq⟩
        rw [HX.out, List.length_append, List.length_singleton]
        exact hr2
      · have hq : ((pre.length : Int) + 1 == most) = false := by assumption
        have hr2 := owns_keep (W' := w1.setCell ⟨w.heap.size + 1, 0, none⟩ (.slice (some ⟨g', 0, none⟩) (pre.length + 1) cap')) hown' (fun g hg => put_far _ _ _ _ (by have := (hown'.lt _ hg).1; omega))
        refine ⟨hk2.from _, HKA.out _ _ hgrow hvv, ⟨_, hv2, ?_, trivial⟩, hS1.other (by omega) _, hM1.other (by omega) _, hB.low hb2, fun j h1 h2 => ?_⟩
        · rw [HX.out, List.length_append, List.length_singleton]
          exact hr2
        · rw [List.length_append, List.length_singleton] at h2
          by_cases e : j = pre.length + 1
          · subst e; simpa using hq
          · exact HJ.out j h1 (by omega)
    case done =>
      rintro D W hD ⟨⟨v, hv, hrow, -⟩, hS, hM, hB, hj⟩ hRW hK
      have hc := hv.cell
      gi_wp2
      refine ⟨by simp, .inl ⟨_, _, rfl, run_takeDeferred hK, ?_⟩⟩
      have hne : v.ownBlock ≠ some D := owns_not_deferred hrow hK
      have hrow2 := hrow.kept (grownBy_putObj' W D (.deferred none)) (.inr hne)
      exact ⟨_, results_two rfl _ _, v, _, rfl, owns_mono hrow2 (by omega), hB.low (belowK_b (w := w) (Nat.le_refl _) W D _ _ (by omega) hK rfl rfl), hRp _ _ hRW (fun k hk => World.putObj_heap_other (by omega)), .inl ⟨rfl, hm, hj⟩⟩
    case stop =>
      rintro D c pre W hD hSp ⟨⟨v, hv, hrow, -⟩, hB, rfl, hj⟩ hRW hK
      have hc := hv.cell
      gi_wp2
      refine ⟨by simp, .inl ⟨_, _, rfl, run_takeDeferred hK, ?_⟩⟩
      have hne : v.ownBlock ≠ some D := owns_not_deferred hrow hK
      have hrow2 := hrow.kept (grownBy_putObj' W D (.deferred none)) (.inr hne)
      exact ⟨_, results_two rfl _ _, v, _, rfl, owns_mono hrow2 (by omega), hB.low (belowK_b (w := w) (Nat.le_refl _) W D _ _ (by omega) hK rfl rfl), hRp _ _ hRW (fun k hk => World.putObj_heap_other (by omega)), .inr ⟨hSp, hj⟩⟩

/-- The iterator of a store. -/
theorem it_store {w : World} {b : Nat} {S : Sr} {F : Nat → Prop} (hI : I0 w F b S) (ho : SOk S) : ItAll w (ptrV b) (itemsL S) F (fun W' => I0 W' F b S) := fun Bn L X hX hL =>
  iter_in ho.len rfl (hI.keep (fun k hk => hX.block k (hI.lt k hk))) hL (fun x hx => Nat.le_trans (ho.nam x hx) (by decide))
/-- The iterator of no store. -/
theorem it_nil (w : World) : ItAll w (.pointer none) [] (fun _ => False) (fun _ => True) := by
  intro Bn L X _ _ n l J Jx hn hJ hJB hY h0
  have hc0 := (hJB _ _ h0).1.cell
  have HN := hideT (show ∀ V, Calls Try.prog 38 #[.pointer none] V fun e w' => e = .returned (.slice none 0 0) ∧ w' = V from fun V => by
    go_enter Try.func38, Try.ntmps38
    go_wp2
    go_ret
    exact ⟨rfl, rfl⟩)
  have H0 := hideT h0
  clear h0
  show CallsIn Fence.wide n Try.prog 37 #[.func (.yield l) #[] #[], .pointer (some ⟨Bn, 0, none⟩)] X _
  refine callsIn_of_wp Try.func37 rfl trivial ?_ rfl
  simp only [Try.ntmps37, List.size_toArray, List.length_cons, List.length_nil, Nat.reduceAdd, Nat.reduceSub, Array.replicate_succ, Array.replicate_zero, List.push_toArray, List.append_toArray, List.nil_append, List.cons_append]
  gi_wp2_with fail
  refine ⟨trivial, ?_⟩
  refine (callsIn_wide.2 (HN.out _)).mono ?_
  rintro e w1 ⟨rfl, rfl⟩
  clear hc0
  gi_wp2
  gi_loopw [8] (fun i wr => i = .int .i64 0 ∧ wr = w1) (fun i _ => 0)
  case atStart => exact ⟨rfl, rfl⟩
  case round =>
    obtain ⟨rfl, rfl⟩ := hrel
    gi_wp2
    go_end0
    exact ⟨⟨_, rfl⟩, trivial, .inl H0.out⟩

/-- What is asked of no store. -/
theorem nil_open (W : World) (s : ByteArray) : Calls Try.prog 20 #[.pointer none, .string s] W fun e w' => e = .returned (.int .i64 25) ∧ w' = W := by
  go_enter Try.func20, Try.ntmps20
  go_wp2
  go_ret
  exact ⟨rfl, rfl⟩
theorem nil_write (W : World) (s t : ByteArray) : Calls Try.prog 21 #[.pointer none, .string s, .string t] W fun e w' => e = .returned (.int .i64 25) ∧ w' = W := by
  go_enter Try.func21, Try.ntmps21
  go_wp2
  go_ret
  exact ⟨rfl, rfl⟩
theorem nil_print (W : World) (s : ByteArray) : Calls Try.prog 19 #[.pointer none, .string s] W fun e w' => e = .returned (.int .i64 25) ∧ w' = W := by
  go_enter Try.func19, Try.ntmps19
  go_wp2
  go_ret
  exact ⟨rfl, rfl⟩
theorem nil_read (W : World) (s : ByteArray) : Calls Try.prog 11 #[.pointer none, .string s] W fun e w' => e = .returned (.tuple #[.string ⟨#[]⟩, .bool false]) ∧ w' = W := by
  go_enter Try.func11, Try.ntmps11
  go_wp2
  go_ret2
  exact ⟨rfl, rfl⟩
theorem nil_out (W : World) : Calls Try.prog 13 #[.pointer none] W fun e w' => e = .returned (.string ⟨#[]⟩) ∧ w' = W := by
  go_enter Try.func13, Try.ntmps13
  go_wp2
  go_ret
  exact ⟨rfl, rfl⟩
theorem nil_written (W : World) : Calls Try.prog 14 #[.pointer none] W fun e w' => e = .returned (.int .i64 0) ∧ w' = W := by
  go_enter Try.func14, Try.ntmps14
  go_wp2
  go_ret
  exact ⟨rfl, rfl⟩
theorem nil_row {W : World} {v : Value} {base n : Nat} {xs : List Value} (h : W.ownsRow base 52 2 v n xs) : ∃ a c, v = .slice a n c := by
  rcases h.2 with ⟨rfl, rfl⟩ | ⟨g, cap, cur, rfl, _⟩
  · exact ⟨none, 0, rfl⟩
  · exact ⟨_, cap, rfl⟩
theorem tch_none {W w : World} (h : Tch (fun _ => False) W w) : Below W.heap.size W w := h.below (fun _ h => h.elim) (Nat.le_refl _)

set_option maxRecDepth 100000 in
set_option maxHeartbeats 2000000 in
theorem none_walk (W : World) (s t : ByteArray) (_ : s.size ≤ 140737488355000) (_ : t.size ≤ 140737488355000) : Calls Try.prog 6 #[.string s, .string t] W fun e w' => e = .returned (.bool true) ∧ Below W.heap.size W w' := by
  go_enter Try.func6, Try.ntmps6
  go_wp2_with fail
  refine (nil_read _ s).mono ?_
  rintro e w1 ⟨rfl, rfl⟩
  go_wp2_with fail
  refine (all_gen w1 ⟨_, rfl⟩ (fun _ h => h.elim) (fun _ _ h _ => h) trivial (it_nil w1) (by decide) (-1)).mono ?_
  rintro e w2 ⟨v, pre, rfl, hr, ht, -, hpre⟩
  have hp : pre = [] := by
    rcases hpre with h | h
    · exact h.1
    · exact List.prefix_nil.1 h.1
  subst hp
  obtain ⟨a, c, rfl⟩ := nil_row hr
  have HT := hideT (tch_none ht)
  clear hpre hr ht
  go_wp2_with fail
  refine (awake_any w2).mono ?_
  rintro e w3 ⟨rfl, h3⟩
  have H3 := hideT (HT.out.trans (h3.mono HT.out.size))
  clear h3 HT
  go_wp2_with fail
  refine (nil_open _ s).mono ?_
  rintro e w4 ⟨rfl, rfl⟩
  go_wp2_with fail
  refine (nil_write _ s t).mono ?_
  rintro e w5 ⟨rfl, rfl⟩
  go_wp2_with fail
  refine (nil_print _ t).mono ?_
  rintro e w6 ⟨rfl, rfl⟩
  go_wp2_with fail
  refine (files_gen w6 ⟨_, rfl⟩ (fun _ h => h.elim) (fun _ _ h _ => h) (it_nil w6) (by decide)).mono ?_
  rintro e w7 ⟨v, rfl, hr, ht, -⟩
  obtain ⟨a2, c2, rfl⟩ := nil_row hr
  have HT := hideT (H3.out.trans ((tch_none ht).mono H3.out.size))
  clear hr ht
  go_wp2_with fail
  refine (nil_out _).mono ?_
  rintro e w8 ⟨rfl, rfl⟩
  go_wp2_with fail
  refine (nil_written _).mono ?_
  rintro e w9 ⟨rfl, rfl⟩
  go_wp2
  go_ret
  exact ⟨rfl, HT.out⟩
end Go.Proofs.Ytbibfpgcnmocjaa
