/- store: Files, of a store and of none. -/
import Derived.Test.YtbibfpgcnmocjaaSv
namespace Go.Proofs.Ytbibfpgcnmocjaa
open Go.RowKit Go.Shelf

theorem infoFl : (Try.prog.info? 52).map (fun i => (i.zero, i.size, i.bytes)) = some (some (.agg #[.string ⟨#[]⟩, .string ⟨#[]⟩]), 2, 32) := by kernel_rfl
/-- The cells of files. -/
def flV : List It → List Value
  | [] => []
  | x :: r => .string ⟨x.1.toArray⟩ :: .string ⟨x.2.toArray⟩ :: flV r
theorem flV_app : ∀ a b : List It, flV (a ++ b) = flV a ++ flV b
  | [], b => rfl
  | x :: r, b => by simp [flV, flV_app r b]
theorem flV_len : ∀ a : List It, (flV a).length = a.length * 2
  | [] => rfl
  | x :: r => by simp [flV, flV_len r]; omega
theorem Tch.low {F : Nat → Prop} {w W W' : World} (h : Tch F w W) (hb : Below w.heap.size W W') : Tch F w W' := ⟨hb.os.trans h.os, hb.tape.trans h.tape, hb.output.trans h.output, Nat.le_trans h.size hb.size, fun k hk hn => (hb.block k hk).trans (h.block k hk hn)⟩
theorem ownFrom_tch {F : Nat → Prop} {w : World} {B : Nat} (hB : w.heap.size ≤ B) : OwnFrom B (fun (_ : List It) W => Tch F w W) := fun _ _ _ _ hs hg hr => ⟨hg.os.trans hs.os, hg.tape.trans hs.tape, hg.output.trans hs.output, Nat.le_trans hs.size hg.size, fun k hk hn => (hg.block k (Nat.lt_of_lt_of_le hk hs.size) (fun e => by have := (hr k e.symm).1; omega)).trans (hs.block k hk hn)⟩
theorem its_tch {F Q : Nat → Prop} {L : Nat} {w W W' : World} (h : ItS Q L W W') (ht : Tch F w W) (hQ : ∀ k, k < w.heap.size → Q k → F k) : Tch F w W' := ⟨h.os.trans ht.os, h.tape.trans ht.tape, h.output.trans ht.output, Nat.le_trans ht.size h.size, fun k hk hn => (h.block k (Nat.lt_of_lt_of_le hk ht.size) (fun ha => hn (hQ k hk ha.1))).trans (ht.block k hk hn)⟩
theorem its_row {Q : Nat → Prop} {L : Nat} {W W' : World} (h : ItS Q L W W') {v : Value} (hL : Boxed W L 22 v) {base size n : Nat} {e : TypeId} {xs : List Value} (hr : W.ownsRow base e size v n xs) : W'.ownsRow base e size v n xs :=
  owns_keep hr fun g hg => h.block g (owns_blk hr hg).2.1 (fun ha => ha.2.2 v hL hg)
theorem its_box {Q : Nat → Prop} {L k : Nat} {W W' : World} (h : ItS Q L W W') {t : TypeId} {v : Value} (hk : Boxed W k t v) (hn : ¬ Q k) : Boxed W' k t v := (h.block k hk.lt (fun ha => hn ha.1)).trans hk
/-- An own row grown, in the box at L. -/
theorem keepA_grown {Q : Nat → Prop} {L : Nat} {W w1 : World} {v v' : Value} {base k : Nat} {xs : List Value} (hL : Boxed W L 22 v) (hLn : ¬ Q L) (hr : W.ownsRow base 52 2 v k xs) (o : Obj) (hg : (W.alloc o).grownBy w1 v.ownBlock) (hv : v'.ownBlock = v.ownBlock ∨ v'.ownBlock = some (W.alloc o).heap.size) : KeepA Q L W (w1.setCell ⟨L, 0, none⟩ v') := by
  have hb1 : Boxed w1 L 22 v := ((hL.alloc o).kept hg (hL.not_row (by decide) hr))
  refine ⟨by have := hg.size; simp at this ⊢; omega, fun k hk => ?_⟩
  have hkL : k ≠ L := fun e => hLn (by rw [← e]; exact hk.1)
  have hkv : some k ≠ v.ownBlock := fun e => hk.2.2 v hL e.symm
  have s1 := hg.size
  have s2 := hk.2.1
  rw [World.size_alloc] at s1
  refine ⟨⟨hk.1, by simp; omega, fun u hu => ?_⟩, ?_⟩
  · have : u = v' := by
      have h2 := hb1.set v'
      unfold Boxed at hu h2
      rw [h2] at hu
      cases hu
      rfl
    subst this
    rcases hv with h | h
    · rw [h]; exact fun e => hkv e.symm
    · rw [h]
      intro e
      simp at e
      omega
  · rw [put_far _ _ _ _ hkL, hg.block k (by simp; omega) hkv]
    exact Below.heap_alloc W o k hk.2.1
theorem two_new (w : World) (x y : Value) (t : TypeId) : ∀ j u, [x, y][j]? = some u → (w.alloc (.cells #[x, y] t)).cell? ((⟨w.heap.size, 0, none⟩ : Addr).add j) = some u := World.news_of_block (cs := #[x, y]) (t := t) (fr := (0, 0)) (heap_alloc_new w _)

attribute [local go_sem] Oper.semAt_some

theorem all_in (n : Nat) (po : Option Addr) (w : World) :
    CallsIn Fence.wide n Try.prog 29 #[.pointer po] w fun e w' => e = .returned (.func (.func 37) #[] #[.pointer (some ⟨w.heap.size, 0, none⟩)]) ∧ w' = w.alloc (.cells #[.pointer po] 24) := by
  refine callsIn_of_wp Try.func29 rfl trivial ?_ rfl
  simp only [Try.ntmps29, List.size_toArray, List.length_cons, List.length_nil, Nat.reduceAdd, Nat.reduceSub, Array.replicate_succ, Array.replicate_zero, List.push_toArray, List.append_toArray, List.nil_append, List.cons_append]
  gi_wp2
  go_ret
  exact ⟨rfl, rfl⟩
theorem enter_all (args : Array Value) (w : World) : (callFunc 37 args).run Try.prog w = .ok (.enter 37 args) w := by simp [go_sem]
/-- What is asked of All's iterator at a pointer pv, from a world w on. -/
def ItAll (w : World) (pv : Value) (items : List It) (F : Nat → Prop) (R : World → Prop) : Prop :=
  ∀ (Bn L : Nat) (X : World), Below w.heap.size w X → L < X.heap.size → Iter 37 #[.pointer (some ⟨Bn, 0, none⟩)] items (fun k => F k ∨ X.heap.size ≤ k) L (fun W1 => Boxed W1 Bn 24 pv ∧ ∀ v g, Boxed W1 L 22 v → v.ownBlock = some g → g < W1.heap.size ∧ ¬ F g) R X

set_option maxRecDepth 100000 in
set_option maxHeartbeats 2000000 in
theorem files_gen (w : World) {pv : Value} (hpv : ∃ o, pv = .pointer o) {items : List It} {F : Nat → Prop} {R : World → Prop} (hF : ∀ k, F k → k < w.heap.size) (hRp : ∀ W W', R W → (∀ k, k < w.heap.size → W'.heap[k]? = W.heap[k]?) → R W') (hit : ItAll w pv items F R) (hlen : items.length ≤ 16) :
    Calls Try.prog 16 #[pv] w fun e w' => ∃ v, e = .returned v ∧ w'.ownsRow w.heap.size 52 2 v items.length (flV items) ∧ Tch F w w' ∧ R w' := by
  obtain ⟨i0, hi, hz0, hz1, hz2⟩ := info_parts infoFl
  obtain ⟨po, rfl⟩ := hpv
  refine (callsIn_wide (n := 5)).1 ?_
  refine callsIn_of_wp_marks Try.func16 rfl trivial ?_ rfl
  simp only [Try.ntmps16, List.size_toArray, List.length_cons, List.length_nil, Nat.reduceAdd, Nat.reduceSub, Array.replicate_succ, Array.replicate_zero, List.push_toArray, List.append_toArray, List.nil_append, List.cons_append]
  gi_wp2_with (refine ⟨trivial, ?_⟩; gi_at_call 29; refine (all_in _ _ _).mono ?_; rintro e w' ⟨rfl, rfl⟩)
  have bL : Boxed ((w.alloc (.cells #[.slice none 0 0] 22)).alloc (.cells #[.pointer po] 24)) w.heap.size 22 (.slice none 0 0) := (Boxed.new w 22 (.slice none 0 0)).alloc _
  have bS : Boxed ((w.alloc (.cells #[.slice none 0 0] 22)).alloc (.cells #[.pointer po] 24)) (w.heap.size + 1) 24 (.pointer po) := by
    have h := Boxed.new (w.alloc (.cells #[.slice none 0 0] 22)) 24 (.pointer po)
    rwa [World.size_alloc] at h
  have hB0 : Below w.heap.size w ((w.alloc (.cells #[.slice none 0 0] 22)).alloc (.cells #[.pointer po] 24)) := ((Below.refl _ w).alloc (Nat.le_refl _) _).alloc (by simp) _
  have hs0 : ((w.alloc (.cells #[.slice none 0 0] 22)).alloc (.cells #[.pointer po] 24)).heap.size = w.heap.size + 1 + 1 := by simp
  generalize (w.alloc (.cells #[.slice none 0 0] 22)).alloc (.cells #[.pointer po] 24) = W0 at *
  have hQL : ∀ k, k < W0.heap.size → (F k ∨ W0.heap.size + 2 ≤ k) → F k := fun k hk h => h.elim id (fun h => by omega)
  have hnF : ∀ k, w.heap.size ≤ k → k < W0.heap.size → ¬ (F k ∨ W0.heap.size + 2 ≤ k) := fun k h1 h2 h => h.elim (fun h => by have := hF k h; omega) (fun h => by omega)
  refine range_A (by omega) (ad := ⟨w.heap.size + 1, 0, none⟩) (L := w.heap.size) (F := F) (fun k hk => by have := hF k hk; omega)
    (fun X hX hXs => by
      have h := hit (w.heap.size + 1) w.heap.size X (hB0.trans (hX.mono (by omega))) (by omega)
      rw [hXs] at h
      exact h) enter_all (by omega) rfl rfl (fun A B hA hk => hRp A B hA (fun k hk2 => hk k (by omega)))
    (fun pre W => (∃ v, Boxed W w.heap.size 22 v ∧ W.ownsRow (w.heap.size + 1 + 1) 52 2 v pre.length (flV pre) ∧ True) ∧ Boxed W (w.heap.size + 1) 24 (.pointer po) ∧ Tch F w W)
    (fun _ _ _ => False)
    (fun pre A B h hit => by
      obtain ⟨⟨v, h1, h2, -⟩, h3, h4⟩ := h
      exact ⟨⟨v, its_box hit h1 (hnF _ (by omega) (by omega)), its_row hit h1 h2, trivial⟩, its_box hit h3 (hnF _ (by omega) (by omega)), its_tch hit h4 (fun k hk h => hQL k (by omega) h)⟩)
    (OwnFrom.and (Own.from (holdsRow_own (w.heap.size + 1 + 1) w.heap.size 22 52 2 (fun pre => pre.length) (fun pre : List It => flV pre) (fun _ _ => True)) _) (OwnFrom.and (Own.from (boxed_own _ _ _) _) (ownFrom_tch (by omega))))
    (fun c s X Y row hs _ _ => hs)
    (fun pre W1 h => by
      obtain ⟨⟨v, h1, h2, -⟩, h3, h4⟩ := h
      refine ⟨h3, fun u g hu e => ?_⟩
      unfold Boxed at h1 hu
      rw [h1] at hu
      cases hu
      have h5 := owns_blk h2 e
      exact ⟨h5.2.1, fun hf => by have := hF g hf; omega⟩)
    ⟨⟨_, bL, World.ownsRow_nil _ _ _ _, trivial⟩, bS, Tch.of hB0⟩
    (fun x => { tmps := #[.pointer po, undef, .slice none 0 0, .pointer (some ⟨w.heap.size, 0, none⟩), .string ⟨x.1.toArray⟩, .string ⟨x.2.toArray⟩, .pointer po, .func (.func 37) #[] #[.pointer (some ⟨w.heap.size + 1, 0, none⟩)], .string ⟨x.1.toArray⟩, .string ⟨x.2.toArray⟩, undef, undef, undef, undef, undef, undef, undef], defers := [] }) ?assign ?body ?done ?stop
  case assign =>
    intro l x W K hK
    unfold itV
    gi_wp2
    exact hK
  case body =>
    rintro l pre x W ⟨⟨v, hv, hrow, -⟩, hS, hB⟩ hpre
    have hlt : pre.length < items.length := by have := hpre.length_le; simp at this; omega
    have hc := hv.cell
    have hsz2 := hB.size
    have hltS' : w.heap.size + 1 + 1 ≤ W.heap.size := hS.lt
    have hKA := fun (v' : Value) (w1 : World) h2 h3 => keepA_grown (Q := fun k => F k ∨ W0.heap.size + 2 ≤ k) (w1 := w1) (v' := v') hv (hnF _ (by omega) (by omega)) hrow (.cells #[.string ⟨x.1.toArray⟩, .string ⟨x.2.toArray⟩] 52) h2 h3
    have HKA := hideT hKA
    clear hKA
    have HX := hideT (show flV (pre ++ [x]) = flV pre ++ [.string ⟨x.1.toArray⟩, .string ⟨x.2.toArray⟩] from by rw [flV_app]; rfl)
    generalize (⟨x.1.toArray⟩ : ByteArray) = bx at *
    generalize (⟨x.2.toArray⟩ : ByteArray) = by_ at *
    gi_wp2_with (gi_at_builtin; refine wpListIn_append_own_at _ rfl _ _ 22 rfl (w.heap.size + 1 + 1) 52 i0 _ 2 32 Try.underlying22 hi hz0 hz1 hz2 rfl (by decide) _ _ _ rfl (hrow.alloc _) ⟨W.heap.size, 0, none⟩ 1 1 [.string bx, .string by_] rfl rfl (two_new _ _ _ _) (by simp [Value.oneCell']) (by unfold maxLen; omega) (by omega) (by simp; omega) ?_; intro v' w1 hown' hgrow _ hvv; obtain ⟨g', cap', rfl⟩ := ownsRow_succ hown'; obtain ⟨hv1, hv2, -, hk2, hb2⟩ := hv.appended (by decide) (owns_mono hrow (show w.heap.size ≤ w.heap.size + 1 + 1 by omega)) hB.size (Nat.le_refl _) (owns_mono hown' (show w.heap.size ≤ w.heap.size + 1 + 1 by omega)) hgrow; have hc1 := hv1.cell; have hf1 := hv1.frozen)
    have hr2 := owns_keep (W' := w1.setCell ⟨w.heap.size, 0, none⟩ (.slice (some ⟨g', 0, none⟩) (pre.length + 1) cap')) hown' (fun g hg => put_far _ _ _ _ (by have := (hown'.lt _ hg).1; omega))
    refine ⟨hk2.from _, HKA.out _ _ hgrow hvv, ⟨_, hv2, ?_, trivial⟩, ?_, hB.low hb2⟩
    · rw [HX.out, List.length_append, List.length_singleton]
      exact hr2
    · exact (((hS.alloc _).kept hgrow (fun e => by have := (hrow.lt _ e.symm).1; omega)).other (by omega) _)
  case done =>
    rintro D W hD ⟨⟨v, hv, hrow, -⟩, hS, hB⟩ hRW hK
    have hc := hv.cell
    gi_wp2
    refine ⟨by simp, .inl ⟨_, _, rfl, run_takeDeferred hK, ?_⟩⟩
    have hne : v.ownBlock ≠ some D := owns_not_deferred hrow hK
    have hrow2 := hrow.kept (grownBy_putObj' W D (.deferred none)) (.inr hne)
    exact ⟨_, results_tmp rfl _ _ _, v, rfl, owns_mono hrow2 (by omega), hB.low (belowK_b (w := w) (Nat.le_refl _) W D _ _ (by omega) hK rfl rfl), hRp _ _ hRW (fun k hk => World.putObj_heap_other (by omega))⟩
  case stop =>
    rintro D c pre W hD hSp h hRW hK
    exact h.elim
end Go.Proofs.Ytbibfpgcnmocjaa
