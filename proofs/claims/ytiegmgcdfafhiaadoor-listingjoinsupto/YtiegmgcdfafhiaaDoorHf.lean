/- listing: a range over All; Lines. -/
import Derived.Test.YtiegmgcdfafhiaaDoorHe
import Derived.RangeFuncWrites
import Derived.Maps.OwnIn
namespace Go.Proofs.YtiegmgcdfafhiaaDoor
open Go.RowKit Go.Shelf

/-- How the body of a round may be left. -/
def endA (B n0 L : Nat) (I : List (List UInt8) → World → Prop) (Ix : Code → List (List UInt8) → World → Prop) (xs : List (List UInt8)) (W : World) : Exit → Act → World → Prop
  | .normal, _, W' => KeepsFrom B W W' ∧ KeepA n0 L W W' ∧ I xs W'
  | .exit id, _, W' => KeepsFrom B W W' ∧ Ix (.exit id) xs W'
  | _, _, _ => False

theorem keepA_put {n0 L l : Nat} (hL : L ≠ l) (hl : l < n0) (W : World) (o : Obj) : KeepA n0 L W (W.putObj l o) := by
  refine ⟨by simp, fun k hk => ⟨⟨hk.1, by simpa using hk.2.1, fun v hv => hk.2.2 v ?_⟩, World.putObj_heap_other (by have := hk.1; omega)⟩⟩
  unfold Boxed at hv ⊢
  rwa [World.putObj_heap_other (by exact fun e => hL e)] at hv
theorem its_put {n0 L l : Nat} {W W' : World} (h : ItS n0 L W W') (hl : l < n0) (hs : l < W.heap.size) : W'.heap[l]? = W.heap[l]? := h.block l hs (fun hk => by have := hk.1; omega)

theorem range_A {n : Nat} {g : Operand} {ps : Array Tmp} {assign body : Code} {Q : Exit → Act → World → Prop} {a : Act} {w : World} (h1 : 2 ≤ n) {Bn L : Nat} {s : ByteArray} (hs : s.size ≤ 1073741824) (hL : L < w.heap.size) (hg : a.eval g = .func (.func 22) #[] #[.pointer (some ⟨Bn, 0, none⟩)]) (hps : ps.size = 1)
    (I : List (List UInt8) → World → Prop) (Ix : Code → List (List UInt8) → World → Prop) (hA : AbideA (w.heap.size + 2) L I) (hI : OwnFrom w.heap.size I) (hIx : ∀ c, OwnFrom w.heap.size (Ix c)) (hIB : ∀ pre W1, I pre W1 → Boxed W1 Bn 9 (.string s) ∧ ∀ v g, Boxed W1 L 22 v → v.ownBlock = some g → g < W1.heap.size) (h0 : I [] w) (a₁ : List UInt8 → Act)
    (hassign : ∀ (l : Nat) (x : List UInt8) (W : World) (K : Act → World → Prop), K (a₁ x) W → assign.wpIn (Fence.wide.inRound l) (n - 1 - 1) Tryd.prog (Exit.then K (fun _ _ _ => False)) { tmps := (ps.zip #[.string (bst x)]).foldl (fun t (p, v) => t.setIfInBounds p v) a.tmps, defers := [] } W)
    (hbody : ∀ (l : Nat) (pre : List (List UInt8)) (x : List UInt8) (W : World), I pre W → (pre ++ [x] <+: linesL s.data.toList) → body.wpIn (Fence.wide.inRound l) (n - 1 - 1) Tryd.prog (endA w.heap.size (w.heap.size + 2) L I Ix (pre ++ [x]) W) (a₁ x) W)
    (hdone : ∀ (D : Nat) (W : World), w.heap.size ≤ D → I (linesL s.data.toList) W → W.heap[D]? = some (.deferred (some [])) → Q .normal { a with defers := { target := .collected D, args := #[] } :: a.defers } W)
    (hstop : ∀ (D : Nat) (c : Code) (pre : List (List UInt8)) (W : World), w.heap.size ≤ D → (pre <+: linesL s.data.toList) → Ix c pre W → W.heap[D]? = some (.deferred (some [])) → c.wpIn Fence.wide n Tryd.prog Q { a with defers := { target := .collected D, args := #[] } :: a.defers } W) :
    (Code.rangeFunc g ps assign body).wpIn Fence.wide n Tryd.prog Q a w := by
  refine wpIn_rangeFunc fun fn hfn => ?_
  obtain ⟨R, hR⟩ : ∃ R : LoopState → Option Code → Loop, R = fun st pe => { state := st, pending := pe, fn, tmps := a.tmps, params := ps, assign, body, defers := w.heap.size } := ⟨_, rfl⟩
  obtain ⟨d, hd⟩ : ∃ d, d = w.heap.size := ⟨_, rfl⟩
  obtain ⟨X, hX⟩ : ∃ X, X = (w.alloc (.deferred (some []))).alloc (.loop (R .ready none)) := ⟨_, rfl⟩
  have hrec : X.heap[d + 1]? = some (.loop (R .ready none)) := by
    have h := World.alloc_heap_new (w.alloc (.deferred (some []))) (.loop (R .ready none))
    rw [World.size_alloc] at h
    rw [hX, hd]
    exact h
  have hblk : X.heap[d]? = some (.deferred (some [])) := by
    rw [hX, hd]
    exact (Below.heap_alloc _ _ _ (by rw [World.size_alloc]; omega)).trans (World.alloc_heap_new w _)
  have hIX : I [] X := by
    rw [hX]
    exact hI.alloc _ (hI.alloc _ h0)
  have hXs : X.heap.size = d + 2 := by rw [hX, World.size_alloc, World.size_alloc, hd]
  refine ⟨d + 1, [{ target := .collected d, args := #[] }], X, { target := .fn (.func 22) #[.pointer (some ⟨Bn, 0, none⟩)], args := #[.func (.yield (d + 1)) #[] #[]] }, X, 22, #[.func (.yield (d + 1)) #[] #[]] ++ #[.pointer (some ⟨Bn, 0, none⟩)], X, ?_, ?_, ?_, ?_, fun _ => by omega, ?_⟩
  · rw [hX, hR, hd]
    exact run_enterLoop_outer _ _ _ _ _
  · simp only [resolve, hg]
    simp [go_sem]
  · intro f' _
    trivial
  · simp [invoke, go_sem]
  have hn0 : X.heap.size = w.heap.size + 2 := by omega
  have hc := iter_in (n - 1) (by omega) (d + 1) Bn L s hs (fun pre W => I pre W ∧ W.heap[d + 1]? = some (.loop (R .ready none)) ∧ W.heap[d]? = some (.deferred (some []))) (fun pre W => ∃ c, Ix c pre W ∧ W.heap[d + 1]? = some (.loop (R .done (some c))) ∧ W.heap[d]? = some (.deferred (some []))) X (by omega)
    (by
      rw [hn0]
      intro p A B hs2 hit
      have e1 := its_put hit (l := d + 1) (by omega) (Array.getElem?_eq_some_iff.1 hs2.2.1).1
      have e2 := its_put hit (l := d) (by omega) (Array.getElem?_eq_some_iff.1 hs2.2.2).1
      exact ⟨hA p A B hs2.1 hit, e1.trans hs2.2.1, e2.trans hs2.2.2⟩)
    (fun pre W1 h => hIB pre W1 h.1) ?_ ⟨hIX, hrec, hblk⟩
  · refine hc.mono ?_
    rintro e W2 ⟨⟨v, rfl⟩, ⟨hi, hl, hk⟩ | ⟨pre, hpre, c, hi, hl, hk⟩⟩
    · refine ⟨none, _, (run_endLoop (P := Tryd.prog) hl (by rw [hR]; simp)).trans (by rw [hR]), ?_⟩
      exact hdone d _ (by omega) (hI.putObj _ hi (by omega) hl rfl) ((World.putObj_heap_other (by omega)).trans hk)
    · refine ⟨some c, _, (run_endLoop (P := Tryd.prog) hl (by rw [hR]; simp)).trans (by rw [hR]), ?_⟩
      exact hstop d c pre _ (by omega) hpre ((hIx c).putObj _ hi (by omega) hl rfl) ((World.putObj_heap_other (by omega)).trans hk)
  -- one round
  rintro pre x W ⟨hi, hl, hk⟩ hpre
  have hlt : d + 1 < W.heap.size := (Array.getElem?_eq_some_iff.1 hl).1
  have hy := run_yield (P := Tryd.prog) (args := #[.string (bst x)]) hl (by rw [hR]; simp [hps])
  rw [hR] at hy
  refine ⟨fn, _, assign, body, hy, roundIn_of_wpIn hfn (hassign _ x W _ ?_)⟩
  refine ⟨_, run_beginRound hl (by rw [hR]), ?_⟩
  have hlB : (W.putObj (d + 1) (.loop { R .ready none with state := .busy })).heap[d + 1]? = some (.loop { R .ready none with state := .busy }) := World.putObj_heap_same hlt
  have hkB : (W.putObj (d + 1) (.loop { R .ready none with state := .busy })).heap[d]? = some (.deferred (some [])) := (World.putObj_heap_other (by omega)).trans hk
  refine wpIn_mono (hbody _ pre x _ (hI.putObj _ hi (by omega) hl rfl) hpre) ?_
  intro e a3 W3 hp
  cases e with
  | normal =>
    obtain ⟨p1, p2, p3⟩ := hp
    have hl3 := p1.same _ _ (by omega) hlB rfl
    have hk3 := p1.same _ _ (by omega) hkB rfl
    refine ⟨_, _, run_endRound (P := Tryd.prog) none hl3, .inl ⟨rfl, ⟨hI.putObj _ p3 (by omega) hl3 rfl, ?_, ?_⟩, ?_⟩⟩
    · rw [World.putObj_heap_same (Array.getElem?_eq_some_iff.1 hl3).1, hR]
      rfl
    · exact (World.putObj_heap_other (by omega)).trans hk3
    · rw [hn0]
      exact ((keepA_put (by omega) (by omega) W _).trans p2).trans (keepA_put (by omega) (by omega) W3 _)
  | exit id =>
    obtain ⟨p1, p2⟩ := hp
    have hl3 := p1.same _ _ (by omega) hlB rfl
    have hk3 := p1.same _ _ (by omega) hkB rfl
    refine ⟨_, _, run_endRound (P := Tryd.prog) (some (.exit id)) hl3, .inr ⟨rfl, .exit id, (hIx _).putObj _ p2 (by omega) hl3 rfl, ?_, ?_⟩⟩
    · rw [World.putObj_heap_same (Array.getElem?_eq_some_iff.1 hl3).1, hR]
      rfl
    · exact (World.putObj_heap_other (by omega)).trans hk3
  | ret => exact hp.elim
  | goto t => exact hp.elim
  | panic c => exact hp.elim
  | outgrown => exact hp.elim

attribute [local go_sem] Oper.semAt_some

theorem strs_info : (Tryd.prog.info? 9).map (fun i => (i.zero, i.size, i.bytes)) = some (some (.string ⟨#[]⟩), 1, 16) := by kernel_rfl

/-- The cells of texts. -/
def stV (l : List (List UInt8)) : List Value := l.map fun x => .string (bst x)
theorem stV_len (l : List (List UInt8)) : (stV l).length = l.length := by simp [stV]
theorem stV_app (l m : List (List UInt8)) : stV (l ++ m) = stV l ++ stV m := by simp [stV]
theorem lines_len (t : List UInt8) : (linesL t).length ≤ t.length + 1 := lnR_count t []

theorem owns_not_deferred {W : World} {base : Nat} {e : TypeId} {size : Nat} {v : Value} {n : Nat} {xs : List Value} (h : W.ownsRow base e size v n xs) {D : Nat} {o : Option (List Deferred)} (hK : W.heap[D]? = some (.deferred o)) : v.ownBlock ≠ some D := by
  rcases h.2 with ⟨rfl, -⟩ | ⟨g, cap, cur, rfl, -, hg, -⟩
  · intro e; cases e
  · intro e
    obtain rfl : g = D := by simpa [Value.ownBlock] using e
    rw [hg] at hK
    cases hK

theorem all_in (n : Nat) (s : ByteArray) (w : World) :
    CallsIn Fence.wide n Tryd.prog 18 #[.string s] w fun e w' => e = .returned (.func (.func 22) #[] #[.pointer (some ⟨w.heap.size, 0, none⟩)]) ∧ w' = w.alloc (.cells #[.string s] 9) := by
  refine callsIn_of_wp Tryd.func18 rfl trivial ?_ rfl
  simp only [Tryd.ntmps18, List.size_toArray, List.length_cons, List.length_nil, Nat.reduceAdd, Nat.reduceSub, Array.replicate_succ, Array.replicate_zero, List.push_toArray, List.append_toArray, List.nil_append, List.cons_append]
  gi_wp2
  go_ret
  exact ⟨rfl, rfl⟩

/-- A block that isn't the iterator's: it was there, or it is the list's row. -/
theorem its_row {n0 L : Nat} {W W' : World} (h : ItS n0 L W W') {v : Value} (hL : Boxed W L 22 v) {base size n : Nat} {xs : List Value} (hr : W.ownsRow base 9 size v n xs) : W'.ownsRow base 9 size v n xs :=
  owns_keep hr fun g hg => h.block g (owns_blk hr hg).2.1 (fun ha => ha.2.2 v hL hg)
theorem its_below {n0 L B : Nat} {X W W' : World} (h : ItS n0 L W W') (hb : Below B X W) (hB : B ≤ n0) (hBX : B ≤ X.heap.size) : Below B X W' :=
  { os := h.os.trans hb.os, tape := h.tape.trans hb.tape, output := h.output.trans hb.output, size := Nat.le_trans hb.size h.size, block := fun k hk => (h.block k (by have := hb.size; omega) (fun ha => by have := ha.1; omega)).trans (hb.block k hk) }
theorem its_box {n0 L k : Nat} {W W' : World} (h : ItS n0 L W W') {t : TypeId} {v : Value} (hk : Boxed W k t v) (hlt : k < n0) : Boxed W' k t v := (h.block k hk.lt (fun ha => by have := ha.1; omega)).trans hk

/-- An own row grown, in the box at L. -/
theorem keepA_grown {n0 L : Nat} {W w1 : World} {v v' : Value} {base k m : Nat} {xs ys : List Value} (hL : Boxed W L 22 v) (hLn : L < n0) (hr : W.ownsRow base 9 1 v k xs) (o : Obj) (hown : w1.ownsRow base 9 1 v' m ys) (hg : (W.alloc o).grownBy w1 v.ownBlock) (hv : v'.ownBlock = v.ownBlock ∨ v'.ownBlock = some (W.alloc o).heap.size) : KeepA n0 L W (w1.setCell ⟨L, 0, none⟩ v') := by
  have hb1 : Boxed w1 L 22 v := ((hL.alloc o).kept hg (hL.not_row (by decide) hr))
  refine ⟨by have := hg.size; simp at this ⊢; omega, fun k hk => ?_⟩
  have hkL : k ≠ L := by have := hk.1; omega
  have hkv : some k ≠ v.ownBlock := fun e => hk.2.2 v hL e.symm
  have s1 := hg.size
  have s2 := hk.2.1
  rw [World.size_alloc] at s1
  refine ⟨⟨hk.1, by simp; omega, fun u hu => ?_⟩, ?_⟩
  · have : u = v' := by
      have h2 := hb1.set v'
      unfold Boxed at hu h2
      rw [h2] at hu
      cases hu
      rfl
    subst this
    rcases hv with h | h
    · rw [h]; exact fun e => hkv e.symm
    · rw [h]
      intro e
      have := hk.2.1
      simp at e
      omega
  · rw [put_far _ _ _ _ hkL, hg.block k (by have := hk.2.1; simp; omega) hkv]
    exact heap_alloc_old W o k hk.2.1

set_option maxRecDepth 100000 in
set_option maxHeartbeats 2000000 in
theorem lines_any (s : ByteArray) (hs : s.size ≤ 1073741824) (w : World) :
    Calls Tryd.prog 14 #[.string s] w fun e w' => ∃ v, e = .returned v ∧ w'.ownsRow w.heap.size 9 1 v (linesL s.data.toList).length (stV (linesL s.data.toList)) ∧ Below w.heap.size w w' := by
  obtain ⟨i0, hi, hz0, hz1, hz2⟩ := info_parts strs_info
  have hll := lines_len s.data.toList
  have hsz : s.data.toList.length = s.size := rfl
  refine (callsIn_wide (n := 5)).1 ?_
  refine callsIn_of_wp_marks Tryd.func14 rfl trivial ?_ rfl
  simp only [Tryd.ntmps14, List.size_toArray, List.length_cons, List.length_nil, Nat.reduceAdd, Nat.reduceSub, Array.replicate_succ, Array.replicate_zero, List.push_toArray, List.append_toArray, List.nil_append, List.cons_append]
  gi_wp2_with (refine ⟨trivial, ?_⟩; gi_at_call 18; refine (all_in _ _ _).mono ?_; rintro e w' ⟨rfl, rfl⟩)
  have bL : Boxed ((w.alloc (.cells #[.slice none 0 0] 22)).alloc (.cells #[.string s] 9)) w.heap.size 22 (.slice none 0 0) := (Boxed.new w 22 (.slice none 0 0)).alloc _
  have bS : Boxed ((w.alloc (.cells #[.slice none 0 0] 22)).alloc (.cells #[.string s] 9)) (w.heap.size + 1) 9 (.string s) := by
    have h := Boxed.new (w.alloc (.cells #[.slice none 0 0] 22)) 9 (.string s)
    rwa [World.size_alloc] at h
  have hB0 : Below w.heap.size w ((w.alloc (.cells #[.slice none 0 0] 22)).alloc (.cells #[.string s] 9)) := ((Below.refl _ w).alloc (Nat.le_refl _) _).alloc (by simp) _
  have hs0 : ((w.alloc (.cells #[.slice none 0 0] 22)).alloc (.cells #[.string s] 9)).heap.size = w.heap.size + 1 + 1 := by simp
  generalize (w.alloc (.cells #[.slice none 0 0] 22)).alloc (.cells #[.string s] 9) = W0 at *
  refine range_A (by omega) (Bn := w.heap.size + 1) (L := w.heap.size) hs (by omega) rfl rfl
    (fun pre W => (∃ v, Boxed W w.heap.size 22 v ∧ W.ownsRow (w.heap.size + 1 + 1) 9 1 v pre.length (stV pre) ∧ True) ∧ Boxed W (w.heap.size + 1) 9 (.string s) ∧ Below w.heap.size w W)
    (fun _ _ _ => False)
    (fun pre A B h hit => by
      obtain ⟨⟨v, h1, h2, -⟩, h3, h4⟩ := h
      exact ⟨⟨v, its_box hit h1 (by omega), its_row hit h1 h2, trivial⟩, its_box hit h3 (by omega), its_below hit h4 (by omega) (Nat.le_refl _)⟩)
    (OwnFrom.and (Own.from (holdsRow_own (w.heap.size + 1 + 1) w.heap.size 22 9 1 (fun pre => pre.length) (fun pre : List (List UInt8) => stV pre) (fun _ _ => True)) _) (OwnFrom.and (Own.from (boxed_own _ _ _) _) (ownFrom_below (Nat.le_refl _) (by omega))))
    (fun c s X Y row hs _ _ => hs)
    (fun pre W1 h => by
      obtain ⟨⟨v, h1, h2, -⟩, h3, h4⟩ := h
      refine ⟨h3, fun u g hu e => ?_⟩
      unfold Boxed at h1 hu
      rw [h1] at hu
      cases hu
      exact (owns_blk h2 e).2.1)
    ⟨⟨_, bL, World.ownsRow_nil _ _ _ _, trivial⟩, bS, hB0⟩
    (fun x => { tmps := #[.string s, undef, .slice none 0 0, .pointer (some ⟨w.heap.size, 0, none⟩), .string (bst x), .string s, .func (.func 22) #[] #[.pointer (some ⟨w.heap.size + 1, 0, none⟩)], .string (bst x), undef, undef, undef, undef, undef], defers := [] }) ?assign ?body ?done ?stop
  case assign =>
    intro l x W K hK
    gi_wp2
    exact hK
  case body =>
    rintro l pre x W ⟨⟨v, hv, hrow, -⟩, hS, hB⟩ hpre
    have hlt : pre.length < (linesL s.data.toList).length := by have := hpre.length_le; simp at this; omega
    have hc := hv.cell
    have hsz2 := hB.size
    have hltS' : w.heap.size + 1 + 1 ≤ W.heap.size := hS.lt
    have hKA := fun (v' : Value) (w1 : World) (ys : List Value) (h1 : w1.ownsRow (w.heap.size + 1 + 1) 9 1 v' (pre.length + 1) ys) h2 h3 => keepA_grown (n0 := W0.heap.size + 2) hv (by omega) hrow (.cells #[.string (bst x)] 9) h1 h2 h3
    have HKA := hideT hKA
    clear hKA
    generalize hbx : bst x = bx at *
    gi_wp2_with (gi_at_builtin; refine wpListIn_append_own_at _ rfl _ _ 22 rfl (w.heap.size + 1 + 1) 9 i0 (.string ⟨#[]⟩) 1 16 Tryd.underlying22 hi hz0 hz1 hz2 rfl (by decide) _ _ _ rfl (hrow.alloc _) ⟨W.heap.size, 0, none⟩ 1 1 [.string bx] rfl rfl (cell_one_new _ _ _) (by simp [Value.oneCell']) (by unfold maxLen; omega) (by omega) (by simp; omega) ?_; intro v' w1 hown' hgrow _ hvv; obtain ⟨g', cap', rfl⟩ := ownsRow_succ hown'; obtain ⟨hv1, hv2, -, hk2, hb2⟩ := hv.appended (by decide) (owns_mono hrow (show w.heap.size ≤ w.heap.size + 1 + 1 by omega)) hB.size (Nat.le_refl _) (owns_mono hown' (show w.heap.size ≤ w.heap.size + 1 + 1 by omega)) hgrow; have hc1 := hv1.cell; have hf1 := hv1.frozen)
    subst hbx
    have hr2 := owns_keep (W' := w1.setCell ⟨w.heap.size, 0, none⟩ (.slice (some ⟨g', 0, none⟩) (pre.length + 1) cap')) hown' (fun g hg => put_far _ _ _ _ (by have := (hown'.lt _ hg).1; omega))
    refine ⟨hk2.from _, HKA.out _ _ _ hown' hgrow hvv, ⟨_, hv2, by simpa [stV] using hr2⟩, ?_, hB.trans hb2⟩
    exact (((hS.alloc _).kept hgrow (fun e => by have := (hrow.lt _ e.symm).1; omega)).other (by omega) _)
  case done =>
    rintro D W hD ⟨⟨v, hv, hrow, -⟩, hS, hB⟩ hK
    have hc := hv.cell
    gi_wp2
    refine ⟨by simp, .inl ⟨_, _, rfl, run_takeDeferred hK, ?_⟩⟩
    have hne : v.ownBlock ≠ some D := owns_not_deferred hrow hK
    have hrow2 := hrow.kept (grownBy_putObj' W D (.deferred none)) (.inr hne)
    exact ⟨_, results_tmp rfl _ _ _, v, rfl, owns_mono hrow2 (by omega), hB.trans (belowK_b (w := w) (Nat.le_refl _) W D _ _ (by omega) hK rfl rfl)⟩
  case stop =>
    rintro D c pre W hD hSp h hK
    exact h.elim

end Go.Proofs.YtiegmgcdfafhiaaDoor
