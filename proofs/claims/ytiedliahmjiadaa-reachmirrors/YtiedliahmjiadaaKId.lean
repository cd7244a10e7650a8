/- reach: what stands behind and ahead of positions. -/
import Derived.Test.YtiedliahmjiadaaKIa
import Derived.Test.YtiedliahmjiadaaKGf
import Derived.Test.YtiedliahmjiadaaKIe
set_option maxRecDepth 100000
set_option maxHeartbeats 1000000
namespace Go.Proofs.Ytiedliahmjiadaa
open Go.RowKit Go.Shelf
attribute [local go_sem] Oper.semAt_some
theorem cells_turn {W W' : World} {row : Option Nat} {B : Nat} (hg : W.grownBy W' row) (hr : ∀ r, row = some r → B ≤ r ∧ ∃ o : Obj, W.heap[r]? = some o ∧ o.isCells = false) {k : Nat} {o : Obj} (h : W.heap[k]? = some o) (ho : o.isCells = true) : W'.heap[k]? = some o :=
 (grownBy_keeps_cells hg (fun r e => (hr r e).2) h ho).trans h
def bhBP (ps : List PosB) (tk : Nat → Bool) (k : Nat) : Nat → Bool := fun q => (List.range k).any fun p => tk p && (match ps[p]? with | some x => x.nx q | none => false)
def ahBP (ps : List PosB) (tk : Nat → Bool) (k : Nat) : Nat → Bool := fun q => (List.range k).any fun p => tk p && (match ps[p]? with | some x => x.pr q | none => false)
theorem bhBP_zero (ps : List PosB) (tk : Nat → Bool) : Is (fun _ => false) (bhBP ps tk 0) := fun n _ => by simp [bhBP]
theorem ahBP_zero (ps : List PosB) (tk : Nat → Bool) : Is (fun _ => false) (ahBP ps tk 0) := fun n _ => by simp [ahBP]
theorem any_skip {f : Nat → Bool} {k : Nat} : ∀ {x : Nat}, k ≤ x → (∀ y, k ≤ y → y < x → f y = false) → (List.range (x + 1)).any f = ((List.range k).any f || f x)
 | x, hk, h => by
  rw [Bool.eq_iff_iff, Bool.or_eq_true, List.any_eq_true, List.any_eq_true]
  constructor
  ·rintro ⟨y, hy, hf⟩
   rw [List.mem_range] at hy
   by_cases e : y = x
   ·subst e; exact .inr hf
   ·by_cases e2 : y < k
    ·exact .inl ⟨y, List.mem_range.2 e2, hf⟩
    ·rw [h y (by omega) (by omega)] at hf; cases hf
  ·rintro (⟨y, hy, hf⟩ | hf)
   ·rw [List.mem_range] at hy
    exact ⟨y, List.mem_range.2 (by omega), hf⟩
   ·exact ⟨x, List.mem_range.2 (by omega), hf⟩
theorem bhBP_full {ps : List PosB} {tk : Nat → Bool} {k : Nat} (h : ∀ y, k ≤ y → y < 256 → tk y = false) (hk : k ≤ 256) (q : Nat) : bhBP ps tk k q = bhB ps tk q := by
 unfold bhBP bhB
 rw [Bool.eq_iff_iff, List.any_eq_true, List.any_eq_true]
 constructor
 ·rintro ⟨y, hy, hf⟩
  rw [List.mem_range] at hy
  exact ⟨y, List.mem_range.2 (by omega), hf⟩
 ·rintro ⟨y, hy, hf⟩
  rw [List.mem_range] at hy
  by_cases e : y < k
  ·exact ⟨y, List.mem_range.2 e, hf⟩
  ·rw [h y (by omega) hy] at hf; cases hf
theorem ahBP_full {ps : List PosB} {tk : Nat → Bool} {k : Nat} (h : ∀ y, k ≤ y → y < 256 → tk y = false) (hk : k ≤ 256) (q : Nat) : ahBP ps tk k q = ahB ps tk q := by
 unfold ahBP ahB
 rw [Bool.eq_iff_iff, List.any_eq_true, List.any_eq_true]
 constructor
 ·rintro ⟨y, hy, hf⟩
  rw [List.mem_range] at hy
  exact ⟨y, List.mem_range.2 (by omega), hf⟩
 ·rintro ⟨y, hy, hf⟩
  rw [List.mem_range] at hy
  by_cases e : y < k
  ·exact ⟨y, List.mem_range.2 e, hf⟩
  ·rw [h y (by omega) hy] at hf; cases hf
theorem bhBP_step {ps : List PosB} {tk t : Nat → Bool} {k x : Nat} {y : PosB} (ht : Is t (bhBP ps tk k)) (hk : k ≤ x) (hx : tk x = true) (hy : ps[x]? = some y) (hno : ∀ z, k ≤ z → z < x → tk z = false) : Is (orP t y.nx) (bhBP ps tk (x + 1)) := fun n hn => by
 unfold bhBP orP
 rw [any_skip hk (fun z h1 h2 => by rw [hno z h1 h2]; rfl), hx, hy, ht n hn]
 simp [bhBP]
theorem ahBP_step {ps : List PosB} {tk t : Nat → Bool} {k x : Nat} {y : PosB} (ht : Is t (ahBP ps tk k)) (hk : k ≤ x) (hx : tk x = true) (hy : ps[x]? = some y) (hno : ∀ z, k ≤ z → z < x → tk z = false) : Is (orP t y.pr) (ahBP ps tk (x + 1)) := fun n hn => by
 unfold ahBP orP
 rw [any_skip hk (fun z h1 h2 => by rw [hno z h1 h2]; rfl), hx, hy, ht n hn]
 simp [ahBP]
def BhI (w : World) (b : Nat) (tk : Nat → Bool) (f : Nat → Nat → Bool) (l : List Nat) (W : World) : Prop :=
 ∃ k, k ≤ 256 ∧ l = mr tk k ∧ Boxed W w.heap.size 52 (.pointer (some ⟨b, 0, none⟩)) ∧ (∃ t, Is t (f k) ∧ Set4 W (w.heap.size + 1 + 1 + 1) t) ∧ Set4 W (w.heap.size + 1 + 1) noB ∧ Below w.heap.size w W ∧ w.heap.size + 5 ≤ W.heap.size
theorem bhI_own (w : World) (b : Nat) (tk : Nat → Bool) (f : Nat → Nat → Bool) (n : Nat) (hn : w.heap.size ≤ n) : OwnFrom n (BhI w b tk f) := by
 rintro l W W' row ⟨k, h1, h2, h3, ⟨t, h4, h5⟩, h6, h8, h9⟩ hg hr
 exact ⟨k, h1, h2, cells_turn hg hr h3 rfl, ⟨t, h4, cells_turn hg hr h5 rfl⟩, cells_turn hg hr h6 rfl, h8.grown hg h8.size (fun k e => Nat.le_trans hn (hr k e).1), Nat.le_trans h9 hg.size⟩
theorem set4_put {W : World} {b : Nat} {p : Nat → Bool} (h : Set4 W b p) (q : Nat → Bool) : Set4 (put4 W b q) b q := by
 have h' : W.heap[b]? = _ := h
 show (put4 W b q).heap[b]? = _
 have e := setCells_whole (cs := [.int .u64 (wd p 0 : Nat), .int .u64 (wd p 1 : Nat), .int .u64 (wd p 2 : Nat), .int .u64 (wd p 3 : Nat)]) [.int .u64 (wd q 0 : Nat), .int .u64 (wd q 1 : Nat), .int .u64 (wd q 2 : Nat), .int .u64 (wd q 3 : Nat)] h' rfl
 exact e
theorem put4_far (W : World) (b : Nat) (q : Nat → Bool) {j : Nat} (h : j ≠ b) : (put4 W b q).heap[j]? = W.heap[j]? := setCells_far W b h [.int .u64 (wd q 0 : Nat), .int .u64 (wd q 1 : Nat), .int .u64 (wd q 2 : Nat), .int .u64 (wd q 3 : Nat)] 0
theorem put4_cell {W : World} {b : Nat} {q : Nat → Bool} {a : Addr} (h : a.block ≠ b) : (put4 W b q).cell? a = W.cell? a := World.cell?_of_block (put4_far W b q h)
theorem keep_cell {W w1 : World} {a : Addr} {v : Value} (hb : Below W.heap.size W w1) (h : W.cell? a = some v) : w1.cell? a = some v := (World.cell?_of_block (hb.block _ (World.block_lt_of_cell? W a h))).trans h
theorem bh_next {w W W1 W0 : World} {b : Nat} {tk t q : Nat → Bool} {f : Nat → Nat → Bool} {x : Nat} {l' : List Nat} (hz : W0.heap.size = w.heap.size + 5) (hS : Set4 W (w.heap.size + 1 + 1 + 1) t) (hR : Set4 W (w.heap.size + 1 + 1) noB) (hbx : Boxed W w.heap.size 52 (.pointer (some ⟨b, 0, none⟩))) (hB : Below w.heap.size w W) (hsz : w.heap.size + 5 ≤ W.heap.size) (hb1 : Below W.heap.size W W1) (hf : Is q (f (x + 1))) (hx : x + 1 ≤ 256) (hl : l' = mr tk (x + 1)) :
  KeepsFrom W0.heap.size W (put4 W1 (w.heap.size + 1 + 1 + 1) q) ∧ KeepAt (w.heap.size + 1 + 1 + 1 + 1) W (put4 W1 (w.heap.size + 1 + 1 + 1) q) ∧ BhI w b tk f l' (put4 W1 (w.heap.size + 1 + 1 + 1) q) := by
 have hs : (put4 W1 (w.heap.size + 1 + 1 + 1) q).heap.size = W1.heap.size := setCells_size _ [.int .u64 (wd q 0 : Nat), .int .u64 (wd q 1 : Nat), .int .u64 (wd q 2 : Nat), .int .u64 (wd q 3 : Nat)] W1 0
 have hs1 := hb1.size
 have _ := hz
 have far : ∀ k, k < W.heap.size → k ≠ w.heap.size + 1 + 1 + 1 → (put4 W1 (w.heap.size + 1 + 1 + 1) q).heap[k]? = W.heap[k]? := fun k h1 h2 => (put4_far W1 _ q h2).trans (hb1.block k h1)
 refine ⟨⟨by omega, fun k o _ hk ho => ?_⟩, ⟨by omega, far _ (by omega) (by omega)⟩, x + 1, hx, hl, (far _ (by omega) (by omega)).trans hbx, ⟨q, hf, set4_put (hS.below hb1 hS.lt) q⟩, (far _ (by omega) (by omega)).trans hR, below_put4 (hB.trans (hb1.mono hB.size)) (by omega) q, by omega⟩
 refine (far k (Array.getElem?_eq_some_iff.1 hk).1 (fun e => ?_)).trans hk
 rw [e, show W.heap[_]? = _ from hS] at hk
 cases hk
 cases ho
theorem set4_zero (w : World) : Set4 (w.alloc (.cells #[.int .u64 0, .int .u64 0, .int .u64 0, .int .u64 0] 45)) w.heap.size noB := by
 have h := Set4.new w noB
 rw [wd_noB, wd_noB, wd_noB, wd_noB] at h
 exact h
theorem bh_start {b : Nat} (tk : Nat → Bool) (w : World) (f : Nat → Nat → Bool) (hf : Is (fun _ => false) (f 0)) {W0 : World} (hW0 : W0 = (((((w.alloc (.cells #[.pointer (some ⟨b, 0, none⟩)] 52)).alloc (.cells #[.int .u64 (wd tk 0 : Nat), .int .u64 (wd tk 1 : Nat), .int .u64 (wd tk 2 : Nat), .int .u64 (wd tk 3 : Nat)] 45)).alloc (.cells #[.int .u64 0, .int .u64 0, .int .u64 0, .int .u64 0] 45)).alloc (.cells #[.int .u64 0, .int .u64 0, .int .u64 0, .int .u64 0] 45)).alloc (.cells #[.int .u64 (wd tk 0 : Nat), .int .u64 (wd tk 1 : Nat), .int .u64 (wd tk 2 : Nat), .int .u64 (wd tk 3 : Nat)] 45))) :
  (Below w.heap.size w W0 ∧ BhI w b tk f (mr tk 0) W0) ∧ Set4 W0 (w.heap.size + 1 + 1 + 1 + 1) tk ∧ W0.heap.size = w.heap.size + 5 := by
 have hB0 : Below w.heap.size w W0 := by
  rw [hW0]
  exact (((((Below.refl _ w).alloc (Nat.le_refl _) _).alloc (by simp only [World.size_alloc]; omega) _).alloc (by simp only [World.size_alloc]; omega) _).alloc (by simp only [World.size_alloc]; omega) _).alloc (by simp only [World.size_alloc]; omega) _
 have hsz0 : W0.heap.size = w.heap.size + 5 := by rw [hW0]; simp only [World.size_alloc]
 have nw := fun (W : World) (ob : Obj) (H : Nat) (hH : W.heap.size = H) => (show (W.alloc ob).heap[H]? = some ob from hH ▸ World.alloc_heap_new W ob)
 have zr : ∀ (W : World) (H : Nat), W.heap.size = H → Set4 (W.alloc (.cells #[.int .u64 0, .int .u64 0, .int .u64 0, .int .u64 0] 45)) H noB := fun W H hH => hH ▸ set4_zero W
 refine ⟨⟨hB0, 0, by omega, rfl, ?_, ⟨noB, hf, ?_⟩, ?_, hB0, by omega⟩, ?_, hsz0⟩
 ·show W0.heap[w.heap.size]? = _
  rw [hW0, Below.heap_alloc _ _ _ (by simp only [World.size_alloc]; omega), Below.heap_alloc _ _ _ (by simp only [World.size_alloc]; omega), Below.heap_alloc _ _ _ (by simp only [World.size_alloc]; omega), Below.heap_alloc _ _ _ (by simp only [World.size_alloc]; omega)]
  exact World.alloc_heap_new w _
 ·show W0.heap[w.heap.size + 1 + 1 + 1]? = _
  rw [hW0, Below.heap_alloc _ _ _ (by simp only [World.size_alloc]; omega)]
  exact zr _ _ (by simp only [World.size_alloc])
 ·show W0.heap[w.heap.size + 1 + 1]? = _
  rw [hW0, Below.heap_alloc _ _ _ (by simp only [World.size_alloc]; omega), Below.heap_alloc _ _ _ (by simp only [World.size_alloc]; omega)]
  exact zr _ _ (by simp only [World.size_alloc])
 ·show W0.heap[w.heap.size + 1 + 1 + 1 + 1]? = _
  rw [hW0]
  exact nw _ _ _ (by simp only [World.size_alloc])
theorem behind_any {B b : Nat} {ps : List PosB} {cs : List Value} (tk : Nat → Bool) (w : World) (hw : WebAt w B b ps cs) (hin : ∀ x, x < 256 → tk x = true → x < ps.length) :
  Calls Try.prog 31 #[.pointer (some ⟨b, 0, none⟩), .agg #[.int .u64 (wd tk 0 : Nat), .int .u64 (wd tk 1 : Nat), .int .u64 (wd tk 2 : Nat), .int .u64 (wd tk 3 : Nat)]] w fun e w' => e = .returned (.agg #[.int .u64 (wd (bhB ps tk) 0 : Nat), .int .u64 (wd (bhB ps tk) 1 : Nat), .int .u64 (wd (bhB ps tk) 2 : Nat), .int .u64 (wd (bhB ps tk) 3 : Nat)]) ∧ Below w.heap.size w w' := by
 refine (callsIn_wide (n := 5)).1 ?_
 refine callsIn_of_wp_marks Try.func31 rfl trivial ?_ rfl
 simp only [Try.ntmps31, List.size_toArray, List.length_cons, List.length_nil, Nat.reduceAdd, Nat.reduceSub, Array.replicate_succ, Array.replicate_zero, List.push_toArray, List.append_toArray, List.nil_append, List.cons_append]
 gi_wp2_with (refine ⟨trivial, ?_⟩; gi_at_call 45; refine (members_in _ _ _).mono ?_; rintro e w' ⟨rfl, rfl⟩)
 obtain ⟨W0, hW0⟩ : ∃ W0, W0 = (((((w.alloc (.cells #[.pointer (some ⟨b, 0, none⟩)] 52)).alloc (.cells #[.int .u64 (wd tk 0 : Nat), .int .u64 (wd tk 1 : Nat), .int .u64 (wd tk 2 : Nat), .int .u64 (wd tk 3 : Nat)] 45)).alloc (.cells #[.int .u64 0, .int .u64 0, .int .u64 0, .int .u64 0] 45)).alloc (.cells #[.int .u64 0, .int .u64 0, .int .u64 0, .int .u64 0] 45)).alloc (.cells #[.int .u64 (wd tk 0 : Nat), .int .u64 (wd tk 1 : Nat), .int .u64 (wd tk 2 : Nat), .int .u64 (wd tk 3 : Nat)] 45)) := ⟨_, rfl⟩
 rw [← hW0]
 obtain ⟨hI0, bS, hsz0⟩ := bh_start (b := b) tk w (bhBP ps tk) (bhBP_zero ps tk) hW0
 clear hW0
 refine range_feed (by omega) (gf := 60) (lb := #[.pointer (some ⟨w.heap.size + 1 + 1 + 1 + 1, 0, none⟩)]) rfl (enters_of Try.func60 (by kernel_rfl) rfl)
  (members_feed 4 (by omega) tk _ W0 bS) (fun _ => rfl) keepAt_t (keepAt_put (by omega)) (BhI w b tk (bhBP ps tk)) (fun _ _ => False) (bhI_own _ _ _ _ _ hI0.1.size) (fun s W W' row h hg hr => h) hI0.2 (fun l a' _ => a' = { tmps := #[.pointer (some ⟨b, 0, none⟩), .agg #[.int .u64 (wd tk 0 : Nat), .int .u64 (wd tk 1 : Nat), .int .u64 (wd tk 2 : Nat), .int .u64 (wd tk 3 : Nat)], .pointer (some ⟨w.heap.size, 0, none⟩), .pointer (some ⟨w.heap.size + 1, 0, none⟩), .pointer (some ⟨w.heap.size + 1 + 1, 0, none⟩), .pointer (some ⟨w.heap.size + 1 + 1 + 1, 0, none⟩), .int .u8 (l.headD 0 : Nat), .agg #[.int .u64 (wd tk 0 : Nat), .int .u64 (wd tk 1 : Nat), .int .u64 (wd tk 2 : Nat), .int .u64 (wd tk 3 : Nat)], .func (.func 60) #[] #[.pointer (some ⟨w.heap.size + 1 + 1 + 1 + 1, 0, none⟩)], .int .u8 (l.headD 0 : Nat), undef, undef, undef, undef, undef, undef, undef, undef, undef, undef, undef], defers := [] }) (fun s a' x W W' row h hg hr => h) ?assign ?body ?done ?stop
 case assign =>
  intro lo l W K hgo hI hK
  obtain ⟨x, l', rfl⟩ : ∃ x l', l = x :: l' := List.exists_cons_of_ne_nil hgo
  simp only [List.headD_cons] at hK ⊢
  gi_wp2
  exact hK _ _ (KeepsFrom.refl _ _) (KeepAt.refl _ _) hI rfl
 case body =>
  rintro lo l a' W hgo hI rfl
  obtain ⟨x, l', rfl⟩ : ∃ x l', l = x :: l' := List.exists_cons_of_ne_nil hgo
  simp only [List.headD_cons, List.tail_cons]
  obtain ⟨k, hk, hl, hbx, ⟨t, ht, hS⟩, hR, hB, hsz⟩ := hI
  have hwb := hw.below hB
  obtain ⟨hkx, hx, htx, hl', hno⟩ := mr_head _ k rfl hk hl.symm
  have hxp := hin x hx htx
  obtain ⟨g, cap, hgB, hgb, hglt, cb, ho⟩ := hwb.at hxp
  obtain ⟨y, hy⟩ : ∃ y, ps[x]? = some y := ⟨ps[x], List.getElem?_eq_getElem hxp⟩
  have n0 := (owns_cell ho (x * 12 + 4) _ ((posV_get y 4 (by omega) ps x hy).trans rfl)).1
  have n1 := (owns_cell ho (x * 12 + 5) _ ((posV_get y 5 (by omega) ps x hy).trans rfl)).1
  have n2 := (owns_cell ho (x * 12 + 6) _ ((posV_get y 6 (by omega) ps x hy).trans rfl)).1
  have n3 := (owns_cell ho (x * 12 + 7) _ ((posV_get y 7 (by omega) ps x hy).trans rfl)).1
  have cw := hbx.cell
  obtain ⟨⟨c0, c1, c2, c3⟩, f0, f1, f2, f3⟩ := hS.holds
  have HOr := hideT (fun W => orD t y.nx W)
  have i1 : (x : Int) < (ps.length : Int) := by omega
  have i2 : (0 : Int) ≤ (x : Int) := by omega
  have HF := hideT (fun (W1 : World) (hb1 : Below W.heap.size W W1) => bh_next (f := bhBP ps tk) (q := orP t y.nx) hsz0 hS hR hbx hB hsz hb1 (bhBP_step ht hkx htx hy hno) (by omega) hl')
  have HS := hideT hS
  have hS0 : (fun V : World => V.cell? ⟨w.heap.size, 0, none⟩ = some (.pointer (some ⟨b, 0, none⟩)) ∧ V.cell? ⟨b, 0, none⟩ = some (.slice (some ⟨g, 0, none⟩) ps.length cap) ∧ V.cell? ⟨g, x * 12 + 4, none⟩ = some (.int .u64 (wd y.nx 0 : Nat)) ∧ V.cell? ⟨g, x * 12 + 4 + 1, none⟩ = some (.int .u64 (wd y.nx 1 : Nat)) ∧ V.cell? ⟨g, x * 12 + 4 + 2, none⟩ = some (.int .u64 (wd y.nx 2 : Nat)) ∧ V.cell? ⟨g, x * 12 + 4 + 3, none⟩ = some (.int .u64 (wd y.nx 3 : Nat))) W.drew := ⟨cw, cb, n0, n1, n2, n3⟩
  have e0 : W.drew.cell? ⟨w.heap.size + 1 + 1 + 1, 0, none⟩ = some (.int .u64 (wd t 0 : Nat)) := c0
  have e1 : W.drew.cell? ⟨w.heap.size + 1 + 1 + 1, 1, none⟩ = some (.int .u64 (wd t 1 : Nat)) := c1
  have e2 : W.drew.cell? ⟨w.heap.size + 1 + 1 + 1, 2, none⟩ = some (.int .u64 (wd t 2 : Nat)) := c2
  have e3 : W.drew.cell? ⟨w.heap.size + 1 + 1 + 1, 3, none⟩ = some (.int .u64 (wd t 3 : Nat)) := c3
  have nS : ∀ (V : World), Set4 V (w.heap.size + 1 + 1 + 1) t → b ≠ w.heap.size + 1 + 1 + 1 ∧ g ≠ w.heap.size + 1 + 1 + 1 := fun V _ => ⟨by have := hw.lt; omega, fun e => by
   obtain ⟨_, _, cur, hc⟩ := owns_blk ho (g := g) rfl
   rw [e, show W.heap[_]? = _ from hS] at hc
   cases hc⟩
  obtain ⟨nb, ng⟩ := nS W hS
  clear hI0 bS hS hR hbx hwb hB ht hno ho hin hw cw cb n0 n1 n2 n3 c0 c1 c2 c3 f0 f1 f2 f3 nS
  gi_wp2_with fail
  refine heldIn (fun V : World => V.cell? ⟨w.heap.size, 0, none⟩ = some (.pointer (some ⟨b, 0, none⟩)) ∧ V.cell? ⟨b, 0, none⟩ = some (.slice (some ⟨g, 0, none⟩) ps.length cap) ∧ V.cell? ⟨g, x * 12 + 4, none⟩ = some (.int .u64 (wd y.nx 0 : Nat)) ∧ V.cell? ⟨g, x * 12 + 4 + 1, none⟩ = some (.int .u64 (wd y.nx 1 : Nat)) ∧ V.cell? ⟨g, x * 12 + 4 + 2, none⟩ = some (.int .u64 (wd y.nx 2 : Nat)) ∧ V.cell? ⟨g, x * 12 + 4 + 3, none⟩ = some (.int .u64 (wd y.nx 3 : Nat))) (by kernel_rfl) (by kernel_rfl) (fun ⟨_, _, h⟩ => h) ?_
  refine' take_d 1 (some 11) rfl rfl (by kernel_rfl) (by kernel_rfl) (by kernel_rfl) (fun _ _ _ h => h) (by rfl) hS0 ?hy1 ?rest1
  case hy1 => intro V hV; (try dsimp only at hV); go_simp; (try with_reducible rfl)
  refine' take_d 2 (some 12) rfl rfl (by kernel_rfl) (by kernel_rfl) (by kernel_rfl) (fun _ _ _ h => h) (by rfl) hS0 ?hy2 ?rest2
  case hy2 => intro V hV; (try dsimp only at hV); go_simp; (try with_reducible rfl)
  refine' take_d 3 (some 13) rfl rfl (by kernel_rfl) (by kernel_rfl) (by kernel_rfl) (fun _ _ _ h => h) (by rfl) hS0 ?hy3 ?rest3
  case hy3 => intro V hV; (try dsimp only at hV); go_simp; (try with_reducible rfl)
  refine' take_d 4 (some 14) rfl rfl (by kernel_rfl) (by kernel_rfl) (by kernel_rfl) (fun _ _ _ h => h) (by rfl) hS0 ?hy4 ?rest4
  case hy4 => intro V hV; (try dsimp only at hV); go_simp; (try with_reducible rfl)
  refine' take_d 5 (some 15) rfl rfl (by kernel_rfl) (by kernel_rfl) (by kernel_rfl) (fun _ _ _ h => h) (by rfl) hS0 ?hy5 ?rest5
  case hy5 => intro V hV; (try dsimp only at hV); go_simp; (try with_reducible rfl)
  refine' take_d 6 (some 16) rfl rfl (by kernel_rfl) (by kernel_rfl) (by kernel_rfl) (fun _ _ _ h => h) (by rfl) hS0 ?hy6 ?rest6
  case hy6 => intro V hV; (try dsimp only at hV); go_simp; (try with_reducible rfl)
  refine' take_d 7 (some 17) rfl rfl (by kernel_rfl) (by kernel_rfl) (by kernel_rfl) (fun _ _ _ h => h) (by rfl) hS0 ?hy7 ?rest7
  case hy7 => intro V hV; (try dsimp only at hV); go_simp; (try with_reducible rfl)
  refine' take_d 8 (some 18) rfl rfl (by kernel_rfl) (by kernel_rfl) (by kernel_rfl) (fun _ _ _ h => h) (by rfl) hS0 ?hy8 ?rest8
  case hy8 => intro V hV; (try dsimp only at hV); go_simp; (try with_reducible rfl)
  refine wpAnyH_all (rs := [0]) (by kernel_rfl) (by simp) (fun i hi => ?_)
  obtain rfl : i = 0 := List.mem_singleton.1 hi
  refine op_value (some 10) rfl rfl (by rfl) (v := .agg #[.int .u64 (wd t 0 : Nat), .int .u64 (wd t 1 : Nat), .int .u64 (wd t 2 : Nat), .int .u64 (wd t 3 : Nat)]) (by go_simp; (try with_reducible rfl)) ⟨hS0, ?_⟩
  refine wpAnyH_all (rs := [9]) (by kernel_rfl) (by simp) (fun i hi => ?_)
  obtain rfl : i = 9 := List.mem_singleton.1 hi
  refine op_call (R := fun v w1 => v = .agg #[.int .u64 (wd (orP t y.nx) 0 : Nat), .int .u64 (wd (orP t y.nx) 1 : Nat), .int .u64 (wd (orP t y.nx) 2 : Nat), .int .u64 (wd (orP t y.nx) 3 : Nat)] ∧ Below W.heap.size W w1) (f := 33) (some 19) rfl rfl (by rfl) (by go_simp; (try with_reducible rfl)) ((HOr.out _).mono ?_) ?_
  ·rintro e w1 ⟨rfl, hb0⟩
   exact ⟨_, rfl, rfl, ((Below.refl W.heap.size W).drew).trans hb0⟩
  rintro v w1 ⟨rfl, hb1⟩
  obtain ⟨⟨d0, d1, d2, d3⟩, g0, g1, g2, g3⟩ := (HS.out.below hb1 HS.out.lt).holds
  obtain ⟨s0, s1, s2, s3, s4, s5⟩ := hS0
  refine ⟨⟨keep_cell hb1 s0, keep_cell hb1 s1, keep_cell hb1 s2, keep_cell hb1 s3, keep_cell hb1 s4, keep_cell hb1 s5⟩, ?_⟩
  refine wpAnyH_all (rs := [10]) (by kernel_rfl) (by simp) (fun i hi => ?_)
  obtain rfl : i = 10 := List.mem_singleton.1 hi
  refine op_skip rfl rfl (by rfl) (w' := put4 w1 (w.heap.size + 1 + 1 + 1) (orP t y.nx)) (by go_simp; (try with_reducible rfl)) ⟨⟨?_, ?_, ?_, ?_, ?_, ?_⟩, ?_⟩
  ·exact (put4_cell (by show w.heap.size ≠ _; omega)).trans (keep_cell hb1 s0)
  ·exact (put4_cell nb).trans (keep_cell hb1 s1)
  ·exact (put4_cell ng).trans (keep_cell hb1 s2)
  ·exact (put4_cell ng).trans (keep_cell hb1 s3)
  ·exact (put4_cell ng).trans (keep_cell hb1 s4)
  ·exact (put4_cell ng).trans (keep_cell hb1 s5)
  exact wpAnyH_done (by kernel_rfl) (HF.out w1 hb1) _
 case done =>
  rintro D l W hD hng ⟨k, hk, hl, hbx, ⟨t, ht, hS⟩, hR, hB, hsz⟩ hK
  have hl0 : mr tk k = [] := by
   rw [← hl]
   exact Classical.byContradiction hng
  have hq : Is t (bhB ps tk) := fun n hn => by
   rw [ht n hn]
   exact bhBP_full (mr_nil _ k rfl hk hl0) hk n
  obtain ⟨q0, q1, q2, q3⟩ := wd_Is hq
  rw [Set4, q0, q1, q2, q3] at hS
  have HQ := hideT (And.intro hB (And.intro hK hD))
  clear hl hl0 ht hq q0 q1 q2 q3 hB hng hI0 bS
  have hqq : ∃ q, bhB ps tk = q := ⟨_, rfl⟩
  obtain ⟨q, hqq⟩ := hqq
  rw [hqq] at hS
  have HQQ := hideT hqq
  clear hqq
  have hne1 : w.heap.size + 1 + 1 + 1 ≠ D := by omega
  have hne2 : w.heap.size + 1 + 1 ≠ D := by omega
  have hS' : Set4 W (w.heap.size + 1 + 1 + 1) q := hS
  obtain ⟨⟨c0, c1, c2, c3⟩, -⟩ := hS'.holds
  obtain ⟨⟨d0, d1, d2, d3⟩, f0, f1, f2, f3⟩ := hR.holds
  have hD2 : w.heap.size ≤ D := by omega
  clear hS hS' hK hD
  have hX := set4_put hR q
  have hKX : (put4 W (w.heap.size + 1 + 1) q).heap[D]? = some (.deferred (some [])) := (put4_far W _ q (fun e => hne2 e.symm)).trans HQ.out.2.1
  have hZ : Set4 ((put4 W (w.heap.size + 1 + 1) q).putObj D (.deferred none)) (w.heap.size + 1 + 1) q := (World.putObj_heap_other hne2).trans hX
  obtain ⟨⟨z0, z1, z2, z3⟩, -⟩ := hZ.holds
  have hBZ : Below w.heap.size w ((put4 W (w.heap.size + 1 + 1) q).putObj D (.deferred none)) := (below_put4 HQ.out.1 (by omega) q).trans (belowK_b (w := w) (Nat.le_refl _) _ D _ _ (by omega) hKX rfl rfl)
  have HX := hideT (And.intro hKX hBZ)
  clear hX hKX hZ hBZ
  gi_wp2
  refine ⟨by simp, .inl ⟨_, _, rfl, run_takeDeferred HX.out.1, ?_⟩⟩
  exact ⟨.agg #[.int .u64 (wd q 0 : Nat), .int .u64 (wd q 1 : Nat), .int .u64 (wd q 2 : Nat), .int .u64 (wd q 3 : Nat)], by simp [results, Try.results31, go_sem, z0, z1, z2, z3], by rw [HQQ.out], HX.out.2⟩
 case stop => rintro D l W hD h; exact h.elim
theorem ahead_any {B b : Nat} {ps : List PosB} {cs : List Value} (tk : Nat → Bool) (w : World) (hw : WebAt w B b ps cs) (hin : ∀ x, x < 256 → tk x = true → x < ps.length) :
  Calls Try.prog 32 #[.pointer (some ⟨b, 0, none⟩), .agg #[.int .u64 (wd tk 0 : Nat), .int .u64 (wd tk 1 : Nat), .int .u64 (wd tk 2 : Nat), .int .u64 (wd tk 3 : Nat)]] w fun e w' => e = .returned (.agg #[.int .u64 (wd (ahB ps tk) 0 : Nat), .int .u64 (wd (ahB ps tk) 1 : Nat), .int .u64 (wd (ahB ps tk) 2 : Nat), .int .u64 (wd (ahB ps tk) 3 : Nat)]) ∧ Below w.heap.size w w' := by
 refine (callsIn_wide (n := 5)).1 ?_
 refine callsIn_of_wp_marks Try.func32 rfl trivial ?_ rfl
 simp only [Try.ntmps32, List.size_toArray, List.length_cons, List.length_nil, Nat.reduceAdd, Nat.reduceSub, Array.replicate_succ, Array.replicate_zero, List.push_toArray, List.append_toArray, List.nil_append, List.cons_append]
 gi_wp2_with (refine ⟨trivial, ?_⟩; gi_at_call 45; refine (members_in _ _ _).mono ?_; rintro e w' ⟨rfl, rfl⟩)
 obtain ⟨W0, hW0⟩ : ∃ W0, W0 = (((((w.alloc (.cells #[.pointer (some ⟨b, 0, none⟩)] 52)).alloc (.cells #[.int .u64 (wd tk 0 : Nat), .int .u64 (wd tk 1 : Nat), .int .u64 (wd tk 2 : Nat), .int .u64 (wd tk 3 : Nat)] 45)).alloc (.cells #[.int .u64 0, .int .u64 0, .int .u64 0, .int .u64 0] 45)).alloc (.cells #[.int .u64 0, .int .u64 0, .int .u64 0, .int .u64 0] 45)).alloc (.cells #[.int .u64 (wd tk 0 : Nat), .int .u64 (wd tk 1 : Nat), .int .u64 (wd tk 2 : Nat), .int .u64 (wd tk 3 : Nat)] 45)) := ⟨_, rfl⟩
 rw [← hW0]
 obtain ⟨hI0, bS, hsz0⟩ := bh_start (b := b) tk w (ahBP ps tk) (ahBP_zero ps tk) hW0
 clear hW0
 refine range_feed (by omega) (gf := 60) (lb := #[.pointer (some ⟨w.heap.size + 1 + 1 + 1 + 1, 0, none⟩)]) rfl (enters_of Try.func60 (by kernel_rfl) rfl)
  (members_feed 4 (by omega) tk _ W0 bS) (fun _ => rfl) keepAt_t (keepAt_put (by omega)) (BhI w b tk (ahBP ps tk)) (fun _ _ => False) (bhI_own _ _ _ _ _ hI0.1.size) (fun s W W' row h hg hr => h) hI0.2 (fun l a' _ => a' = { tmps := #[.pointer (some ⟨b, 0, none⟩), .agg #[.int .u64 (wd tk 0 : Nat), .int .u64 (wd tk 1 : Nat), .int .u64 (wd tk 2 : Nat), .int .u64 (wd tk 3 : Nat)], .pointer (some ⟨w.heap.size, 0, none⟩), .pointer (some ⟨w.heap.size + 1, 0, none⟩), .pointer (some ⟨w.heap.size + 1 + 1, 0, none⟩), .pointer (some ⟨w.heap.size + 1 + 1 + 1, 0, none⟩), .int .u8 (l.headD 0 : Nat), .agg #[.int .u64 (wd tk 0 : Nat), .int .u64 (wd tk 1 : Nat), .int .u64 (wd tk 2 : Nat), .int .u64 (wd tk 3 : Nat)], .func (.func 60) #[] #[.pointer (some ⟨w.heap.size + 1 + 1 + 1 + 1, 0, none⟩)], .int .u8 (l.headD 0 : Nat), undef, undef, undef, undef, undef, undef, undef, undef, undef, undef, undef], defers := [] }) (fun s a' x W W' row h hg hr => h) ?assign ?body ?done ?stop
 case assign =>
  intro lo l W K hgo hI hK
  obtain ⟨x, l', rfl⟩ : ∃ x l', l = x :: l' := List.exists_cons_of_ne_nil hgo
  simp only [List.headD_cons] at hK ⊢
  gi_wp2
  exact hK _ _ (KeepsFrom.refl _ _) (KeepAt.refl _ _) hI rfl
 case body =>
  rintro lo l a' W hgo hI rfl
  obtain ⟨x, l', rfl⟩ : ∃ x l', l = x :: l' := List.exists_cons_of_ne_nil hgo
  simp only [List.headD_cons, List.tail_cons]
  obtain ⟨k, hk, hl, hbx, ⟨t, ht, hS⟩, hR, hB, hsz⟩ := hI
  have hwb := hw.below hB
  obtain ⟨hkx, hx, htx, hl', hno⟩ := mr_head _ k rfl hk hl.symm
  have hxp := hin x hx htx
  obtain ⟨g, cap, hgB, hgb, hglt, cb, ho⟩ := hwb.at hxp
  obtain ⟨y, hy⟩ : ∃ y, ps[x]? = some y := ⟨ps[x], List.getElem?_eq_getElem hxp⟩
  have n0 := (owns_cell ho (x * 12 + 8) _ ((posV_get y 8 (by omega) ps x hy).trans rfl)).1
  have n1 := (owns_cell ho (x * 12 + 9) _ ((posV_get y 9 (by omega) ps x hy).trans rfl)).1
  have n2 := (owns_cell ho (x * 12 + 10) _ ((posV_get y 10 (by omega) ps x hy).trans rfl)).1
  have n3 := (owns_cell ho (x * 12 + 11) _ ((posV_get y 11 (by omega) ps x hy).trans rfl)).1
  have cw := hbx.cell
  obtain ⟨⟨c0, c1, c2, c3⟩, f0, f1, f2, f3⟩ := hS.holds
  have HOr := hideT (fun W => orD t y.pr W)
  have i1 : (x : Int) < (ps.length : Int) := by omega
  have i2 : (0 : Int) ≤ (x : Int) := by omega
  have HF := hideT (fun (W1 : World) (hb1 : Below W.heap.size W W1) => bh_next (f := ahBP ps tk) (q := orP t y.pr) hsz0 hS hR hbx hB hsz hb1 (ahBP_step ht hkx htx hy hno) (by omega) hl')
  have HS := hideT hS
  have hS0 : (fun V : World => V.cell? ⟨w.heap.size, 0, none⟩ = some (.pointer (some ⟨b, 0, none⟩)) ∧ V.cell? ⟨b, 0, none⟩ = some (.slice (some ⟨g, 0, none⟩) ps.length cap) ∧ V.cell? ⟨g, x * 12 + 8, none⟩ = some (.int .u64 (wd y.pr 0 : Nat)) ∧ V.cell? ⟨g, x * 12 + 8 + 1, none⟩ = some (.int .u64 (wd y.pr 1 : Nat)) ∧ V.cell? ⟨g, x * 12 + 8 + 2, none⟩ = some (.int .u64 (wd y.pr 2 : Nat)) ∧ V.cell? ⟨g, x * 12 + 8 + 3, none⟩ = some (.int .u64 (wd y.pr 3 : Nat))) W.drew := ⟨cw, cb, n0, n1, n2, n3⟩
  have e0 : W.drew.cell? ⟨w.heap.size + 1 + 1 + 1, 0, none⟩ = some (.int .u64 (wd t 0 : Nat)) := c0
  have e1 : W.drew.cell? ⟨w.heap.size + 1 + 1 + 1, 1, none⟩ = some (.int .u64 (wd t 1 : Nat)) := c1
  have e2 : W.drew.cell? ⟨w.heap.size + 1 + 1 + 1, 2, none⟩ = some (.int .u64 (wd t 2 : Nat)) := c2
  have e3 : W.drew.cell? ⟨w.heap.size + 1 + 1 + 1, 3, none⟩ = some (.int .u64 (wd t 3 : Nat)) := c3
  have nS : ∀ (V : World), Set4 V (w.heap.size + 1 + 1 + 1) t → b ≠ w.heap.size + 1 + 1 + 1 ∧ g ≠ w.heap.size + 1 + 1 + 1 := fun V _ => ⟨by have := hw.lt; omega, fun e => by
   obtain ⟨_, _, cur, hc⟩ := owns_blk ho (g := g) rfl
   rw [e, show W.heap[_]? = _ from hS] at hc
   cases hc⟩
  obtain ⟨nb, ng⟩ := nS W hS
  clear hI0 bS hS hR hbx hwb hB ht hno ho hin hw cw cb n0 n1 n2 n3 c0 c1 c2 c3 f0 f1 f2 f3 nS
  gi_wp2_with fail
  refine heldIn (fun V : World => V.cell? ⟨w.heap.size, 0, none⟩ = some (.pointer (some ⟨b, 0, none⟩)) ∧ V.cell? ⟨b, 0, none⟩ = some (.slice (some ⟨g, 0, none⟩) ps.length cap) ∧ V.cell? ⟨g, x * 12 + 8, none⟩ = some (.int .u64 (wd y.pr 0 : Nat)) ∧ V.cell? ⟨g, x * 12 + 8 + 1, none⟩ = some (.int .u64 (wd y.pr 1 : Nat)) ∧ V.cell? ⟨g, x * 12 + 8 + 2, none⟩ = some (.int .u64 (wd y.pr 2 : Nat)) ∧ V.cell? ⟨g, x * 12 + 8 + 3, none⟩ = some (.int .u64 (wd y.pr 3 : Nat))) (by kernel_rfl) (by kernel_rfl) (fun ⟨_, _, h⟩ => h) ?_
  refine' take_d 1 (some 11) rfl rfl (by kernel_rfl) (by kernel_rfl) (by kernel_rfl) (fun _ _ _ h => h) (by rfl) hS0 ?hy1 ?rest1
  case hy1 => intro V hV; (try dsimp only at hV); go_simp; (try with_reducible rfl)
  refine' take_d 2 (some 12) rfl rfl (by kernel_rfl) (by kernel_rfl) (by kernel_rfl) (fun _ _ _ h => h) (by rfl) hS0 ?hy2 ?rest2
  case hy2 => intro V hV; (try dsimp only at hV); go_simp; (try with_reducible rfl)
  refine' take_d 3 (some 13) rfl rfl (by kernel_rfl) (by kernel_rfl) (by kernel_rfl) (fun _ _ _ h => h) (by rfl) hS0 ?hy3 ?rest3
  case hy3 => intro V hV; (try dsimp only at hV); go_simp; (try with_reducible rfl)
  refine' take_d 4 (some 14) rfl rfl (by kernel_rfl) (by kernel_rfl) (by kernel_rfl) (fun _ _ _ h => h) (by rfl) hS0 ?hy4 ?rest4
  case hy4 => intro V hV; (try dsimp only at hV); go_simp; (try with_reducible rfl)
  refine' take_d 5 (some 15) rfl rfl (by kernel_rfl) (by kernel_rfl) (by kernel_rfl) (fun _ _ _ h => h) (by rfl) hS0 ?hy5 ?rest5
  case hy5 => intro V hV; (try dsimp only at hV); go_simp; (try with_reducible rfl)
  refine' take_d 6 (some 16) rfl rfl (by kernel_rfl) (by kernel_rfl) (by kernel_rfl) (fun _ _ _ h => h) (by rfl) hS0 ?hy6 ?rest6
  case hy6 => intro V hV; (try dsimp only at hV); go_simp; (try with_reducible rfl)
  refine' take_d 7 (some 17) rfl rfl (by kernel_rfl) (by kernel_rfl) (by kernel_rfl) (fun _ _ _ h => h) (by rfl) hS0 ?hy7 ?rest7
  case hy7 => intro V hV; (try dsimp only at hV); go_simp; (try with_reducible rfl)
  refine' take_d 8 (some 18) rfl rfl (by kernel_rfl) (by kernel_rfl) (by kernel_rfl) (fun _ _ _ h => h) (by rfl) hS0 ?hy8 ?rest8
  case hy8 => intro V hV; (try dsimp only at hV); go_simp; (try with_reducible rfl)
  refine wpAnyH_all (rs := [0]) (by kernel_rfl) (by simp) (fun i hi => ?_)
  obtain rfl : i = 0 := List.mem_singleton.1 hi
  refine op_value (some 10) rfl rfl (by rfl) (v := .agg #[.int .u64 (wd t 0 : Nat), .int .u64 (wd t 1 : Nat), .int .u64 (wd t 2 : Nat), .int .u64 (wd t 3 : Nat)]) (by go_simp; (try with_reducible rfl)) ⟨hS0, ?_⟩
  refine wpAnyH_all (rs := [9]) (by kernel_rfl) (by simp) (fun i hi => ?_)
  obtain rfl : i = 9 := List.mem_singleton.1 hi
  refine op_call (R := fun v w1 => v = .agg #[.int .u64 (wd (orP t y.pr) 0 : Nat), .int .u64 (wd (orP t y.pr) 1 : Nat), .int .u64 (wd (orP t y.pr) 2 : Nat), .int .u64 (wd (orP t y.pr) 3 : Nat)] ∧ Below W.heap.size W w1) (f := 33) (some 19) rfl rfl (by rfl) (by go_simp; (try with_reducible rfl)) ((HOr.out _).mono ?_) ?_
  ·rintro e w1 ⟨rfl, hb0⟩
   exact ⟨_, rfl, rfl, ((Below.refl W.heap.size W).drew).trans hb0⟩
  rintro v w1 ⟨rfl, hb1⟩
  obtain ⟨⟨d0, d1, d2, d3⟩, g0, g1, g2, g3⟩ := (HS.out.below hb1 HS.out.lt).holds
  obtain ⟨s0, s1, s2, s3, s4, s5⟩ := hS0
  refine ⟨⟨keep_cell hb1 s0, keep_cell hb1 s1, keep_cell hb1 s2, keep_cell hb1 s3, keep_cell hb1 s4, keep_cell hb1 s5⟩, ?_⟩
  refine wpAnyH_all (rs := [10]) (by kernel_rfl) (by simp) (fun i hi => ?_)
  obtain rfl : i = 10 := List.mem_singleton.1 hi
  refine op_skip rfl rfl (by rfl) (w' := put4 w1 (w.heap.size + 1 + 1 + 1) (orP t y.pr)) (by go_simp; (try with_reducible rfl)) ⟨⟨?_, ?_, ?_, ?_, ?_, ?_⟩, ?_⟩
  ·exact (put4_cell (by show w.heap.size ≠ _; omega)).trans (keep_cell hb1 s0)
  ·exact (put4_cell nb).trans (keep_cell hb1 s1)
  ·exact (put4_cell ng).trans (keep_cell hb1 s2)
  ·exact (put4_cell ng).trans (keep_cell hb1 s3)
  ·exact (put4_cell ng).trans (keep_cell hb1 s4)
  ·exact (put4_cell ng).trans (keep_cell hb1 s5)
  exact wpAnyH_done (by kernel_rfl) (HF.out w1 hb1) _
 case done =>
  rintro D l W hD hng ⟨k, hk, hl, hbx, ⟨t, ht, hS⟩, hR, hB, hsz⟩ hK
  have hl0 : mr tk k = [] := by
   rw [← hl]
   exact Classical.byContradiction hng
  have hq : Is t (ahB ps tk) := fun n hn => by
   rw [ht n hn]
   exact ahBP_full (mr_nil _ k rfl hk hl0) hk n
  obtain ⟨q0, q1, q2, q3⟩ := wd_Is hq
  rw [Set4, q0, q1, q2, q3] at hS
  have HQ := hideT (And.intro hB (And.intro hK hD))
  clear hl hl0 ht hq q0 q1 q2 q3 hB hng hI0 bS
  have hqq : ∃ q, ahB ps tk = q := ⟨_, rfl⟩
  obtain ⟨q, hqq⟩ := hqq
  rw [hqq] at hS
  have HQQ := hideT hqq
  clear hqq
  have hne1 : w.heap.size + 1 + 1 + 1 ≠ D := by omega
  have hne2 : w.heap.size + 1 + 1 ≠ D := by omega
  have hS' : Set4 W (w.heap.size + 1 + 1 + 1) q := hS
  obtain ⟨⟨c0, c1, c2, c3⟩, -⟩ := hS'.holds
  obtain ⟨⟨d0, d1, d2, d3⟩, f0, f1, f2, f3⟩ := hR.holds
  have hD2 : w.heap.size ≤ D := by omega
  clear hS hS' hK hD
  have hX := set4_put hR q
  have hKX : (put4 W (w.heap.size + 1 + 1) q).heap[D]? = some (.deferred (some [])) := (put4_far W _ q (fun e => hne2 e.symm)).trans HQ.out.2.1
  have hZ : Set4 ((put4 W (w.heap.size + 1 + 1) q).putObj D (.deferred none)) (w.heap.size + 1 + 1) q := (World.putObj_heap_other hne2).trans hX
  obtain ⟨⟨z0, z1, z2, z3⟩, -⟩ := hZ.holds
  have hBZ : Below w.heap.size w ((put4 W (w.heap.size + 1 + 1) q).putObj D (.deferred none)) := (below_put4 HQ.out.1 (by omega) q).trans (belowK_b (w := w) (Nat.le_refl _) _ D _ _ (by omega) hKX rfl rfl)
  have HX := hideT (And.intro hKX hBZ)
  clear hX hKX hZ hBZ
  gi_wp2
  refine ⟨by simp, .inl ⟨_, _, rfl, run_takeDeferred HX.out.1, ?_⟩⟩
  exact ⟨.agg #[.int .u64 (wd q 0 : Nat), .int .u64 (wd q 1 : Nat), .int .u64 (wd q 2 : Nat), .int .u64 (wd q 3 : Nat)], by simp [results, Try.results32, go_sem, z0, z1, z2, z3], by rw [HQQ.out], HX.out.2⟩
 case stop => rintro D l W hD h; exact h.elim
end Go.Proofs.Ytiedliahmjiadaa
namespace Go.Proofs.Ytiedliahmjiadaa
open Go.RowKit Go.Shelf
attribute [local go_sem] Oper.semAt_some
def tkP (ps : List PosB) (wt : Nat → Bool) (c k : Nat) : Nat → Bool := fun y => decide (y < k) && tkB ps wt c y
theorem tkP_zero (ps : List PosB) (wt : Nat → Bool) (c : Nat) : Is (fun _ => false) (tkP ps wt c 0) := fun n _ => by simp [tkP]
theorem tkP_yes {ps : List PosB} {wt t : Nat → Bool} {c k x : Nat} {y : PosB} (ht : Is t (tkP ps wt c k)) (hk : k ≤ x) (hx : wt x = true) (hy : ps[x]? = some y) (hno : ∀ z, k ≤ z → z < x → wt z = false) (hc : y.tk c = true) : Is (orP t (onB x)) (tkP ps wt c (x + 1)) := fun n hn => by
 simp only [orP, ht n hn, tkP, onB]
 by_cases e : n = x
 ·subst e
  have : tkB ps wt c n = true := by simp [tkB, hx, hy, hc]
  simp [this]
 ·have e1 : (n == x) = false := by simpa using e
  by_cases e2 : n < k
  ·have : n < x + 1 := by omega
   simp [e1, e2, this]
  ·by_cases e3 : n < x
   ·have : tkB ps wt c n = false := by simp [tkB, hno n (by omega) e3]
    simp [e1, this]
   ·have : ¬ n < x + 1 := by omega
    simp [e1, e2, this]
theorem tkP_no {ps : List PosB} {wt t : Nat → Bool} {c k x : Nat} {y : PosB} (ht : Is t (tkP ps wt c k)) (hk : k ≤ x) (hy : ps[x]? = some y) (hno : ∀ z, k ≤ z → z < x → wt z = false) (hc : y.tk c = false) : Is t (tkP ps wt c (x + 1)) := fun n hn => by
 rw [ht n hn]
 simp only [tkP]
 by_cases e : n = x
 ·subst e
  have : tkB ps wt c n = false := by simp [tkB, hy, hc]
  simp [this]
 ·by_cases e2 : n < k
  ·have : n < x + 1 := by omega
   simp [e2, this]
  ·by_cases e3 : n < x
   ·have : tkB ps wt c n = false := by simp [tkB, hno n (by omega) e3]
    simp [this]
   ·have : ¬ n < x + 1 := by omega
    simp [e2, this]
theorem tkP_full {ps : List PosB} {wt : Nat → Bool} {c k : Nat} (h : ∀ y, k ≤ y → y < 256 → wt y = false) {n : Nat} (hn : n < 256) : tkP ps wt c k n = tkB ps wt c n := by
 unfold tkP
 by_cases e : n < k
 ·simp [e]
 ·have : tkB ps wt c n = false := by simp [tkB, h n (by omega) hn]
  simp [this]
def TkI (w : World) (b c : Nat) (tk : Nat → Bool) (f : Nat → Nat → Bool) (l : List Nat) (W : World) : Prop :=
 ∃ k, k ≤ 256 ∧ l = mr tk k ∧ Boxed W w.heap.size 52 (.pointer (some ⟨b, 0, none⟩)) ∧ Boxed W (w.heap.size + 1 + 1) 5 (.int .u8 (c : Nat)) ∧ (∃ t, Is t (f k) ∧ Set4 W (w.heap.size + 1 + 1 + 1 + 1) t) ∧ Set4 W (w.heap.size + 1 + 1 + 1) noB ∧ Below w.heap.size w W ∧ w.heap.size + 6 ≤ W.heap.size
theorem tkI_own (w : World) (b c : Nat) (tk : Nat → Bool) (f : Nat → Nat → Bool) (n : Nat) (hn : w.heap.size ≤ n) : OwnFrom n (TkI w b c tk f) := by
 rintro l W W' row ⟨k, h1, h2, h3, h0, ⟨t, h4, h5⟩, h6, h8, h9⟩ hg hr
 exact ⟨k, h1, h2, cells_turn hg hr h3 rfl, cells_turn hg hr h0 rfl, ⟨t, h4, cells_turn hg hr h5 rfl⟩, cells_turn hg hr h6 rfl, h8.grown hg h8.size (fun k e => Nat.le_trans hn (hr k e).1), Nat.le_trans h9 hg.size⟩
theorem tk_next {w W W1 W0 : World} {b c : Nat} {tk t q : Nat → Bool} {f : Nat → Nat → Bool} {x : Nat} {l' : List Nat} (hz : W0.heap.size = w.heap.size + 6) (hS : Set4 W (w.heap.size + 1 + 1 + 1 + 1) t) (hR : Set4 W (w.heap.size + 1 + 1 + 1) noB) (hbx : Boxed W w.heap.size 52 (.pointer (some ⟨b, 0, none⟩))) (hby : Boxed W (w.heap.size + 1 + 1) 5 (.int .u8 (c : Nat))) (hB : Below w.heap.size w W) (hsz : w.heap.size + 6 ≤ W.heap.size) (hb1 : Below W.heap.size W W1) (hx : x + 1 ≤ 256) (hl : l' = mr tk (x + 1)) :
  (Is q (f (x + 1)) → KeepsFrom W0.heap.size W (put4 W1 (w.heap.size + 1 + 1 + 1 + 1) q) ∧ KeepAt (w.heap.size + 1 + 1 + 1 + 1 + 1) W (put4 W1 (w.heap.size + 1 + 1 + 1 + 1) q) ∧ TkI w b c tk f l' (put4 W1 (w.heap.size + 1 + 1 + 1 + 1) q)) ∧ (Is t (f (x + 1)) → KeepsFrom W0.heap.size W W1 ∧ KeepAt (w.heap.size + 1 + 1 + 1 + 1 + 1) W W1 ∧ TkI w b c tk f l' W1) := by
 have hs : (put4 W1 (w.heap.size + 1 + 1 + 1 + 1) q).heap.size = W1.heap.size := setCells_size _ [.int .u64 (wd q 0 : Nat), .int .u64 (wd q 1 : Nat), .int .u64 (wd q 2 : Nat), .int .u64 (wd q 3 : Nat)] W1 0
 have hs1 := hb1.size
 have _ := hz
 have far : ∀ k, k < W.heap.size → k ≠ w.heap.size + 1 + 1 + 1 + 1 → (put4 W1 (w.heap.size + 1 + 1 + 1 + 1) q).heap[k]? = W.heap[k]? := fun k h1 h2 => (put4_far W1 _ q h2).trans (hb1.block k h1)
 constructor
 ·intro hf
  refine ⟨⟨by omega, fun k o _ hk ho => ?_⟩, ⟨by omega, far _ (by omega) (by omega)⟩, x + 1, hx, hl, (far _ (by omega) (by omega)).trans hbx, (far _ (by omega) (by omega)).trans hby, ⟨q, hf, set4_put (hS.below hb1 hS.lt) q⟩, (far _ (by omega) (by omega)).trans hR, below_put4 (hB.trans (hb1.mono hB.size)) (by omega) q, by omega⟩
  refine (far k (Array.getElem?_eq_some_iff.1 hk).1 (fun e => ?_)).trans hk
  rw [e, show W.heap[_]? = _ from hS] at hk
  cases hk
  cases ho
 ·intro hf
  exact ⟨⟨hs1, fun k o _ hk _ => (hb1.block k (Array.getElem?_eq_some_iff.1 hk).1).trans hk⟩, ⟨hs1, hb1.block _ (by omega)⟩, x + 1, hx, hl, (hb1.block _ (by omega)).trans hbx, (hb1.block _ (by omega)).trans hby, ⟨t, hf, hS.below hb1 hS.lt⟩, hR.below hb1 hR.lt, hB.trans (hb1.mono hB.size), by omega⟩
theorem tk_start {b c : Nat} (tk : Nat → Bool) (w : World) (f : Nat → Nat → Bool) (hf : Is (fun _ => false) (f 0)) {W0 : World} (hW0 : W0 = ((((((w.alloc (.cells #[.pointer (some ⟨b, 0, none⟩)] 52)).alloc (.cells #[.int .u64 (wd tk 0 : Nat), .int .u64 (wd tk 1 : Nat), .int .u64 (wd tk 2 : Nat), .int .u64 (wd tk 3 : Nat)] 45)).alloc (.cells #[.int .u8 (c : Nat)] 5)).alloc (.cells #[.int .u64 0, .int .u64 0, .int .u64 0, .int .u64 0] 45)).alloc (.cells #[.int .u64 0, .int .u64 0, .int .u64 0, .int .u64 0] 45)).alloc (.cells #[.int .u64 (wd tk 0 : Nat), .int .u64 (wd tk 1 : Nat), .int .u64 (wd tk 2 : Nat), .int .u64 (wd tk 3 : Nat)] 45))) :
  (Below w.heap.size w W0 ∧ TkI w b c tk f (mr tk 0) W0) ∧ Set4 W0 (w.heap.size + 1 + 1 + 1 + 1 + 1) tk ∧ W0.heap.size = w.heap.size + 6 := by
 have hB0 : Below w.heap.size w W0 := by
  rw [hW0]
  exact ((((((Below.refl _ w).alloc (Nat.le_refl _) _).alloc (by simp only [World.size_alloc]; omega) _).alloc (by simp only [World.size_alloc]; omega) _).alloc (by simp only [World.size_alloc]; omega) _).alloc (by simp only [World.size_alloc]; omega) _).alloc (by simp only [World.size_alloc]; omega) _
 have hsz0 : W0.heap.size = w.heap.size + 6 := by rw [hW0]; simp only [World.size_alloc]
 have nw := fun (W : World) (ob : Obj) (H : Nat) (hH : W.heap.size = H) => (show (W.alloc ob).heap[H]? = some ob from hH ▸ World.alloc_heap_new W ob)
 have zr : ∀ (W : World) (H : Nat), W.heap.size = H → Set4 (W.alloc (.cells #[.int .u64 0, .int .u64 0, .int .u64 0, .int .u64 0] 45)) H noB := fun W H hH => hH ▸ set4_zero W
 refine ⟨⟨hB0, 0, by omega, rfl, ?_, ?_, ⟨noB, hf, ?_⟩, ?_, hB0, by omega⟩, ?_, hsz0⟩
 ·show W0.heap[w.heap.size]? = _
  rw [hW0, Below.heap_alloc _ _ _ (by simp only [World.size_alloc]; omega), Below.heap_alloc _ _ _ (by simp only [World.size_alloc]; omega), Below.heap_alloc _ _ _ (by simp only [World.size_alloc]; omega), Below.heap_alloc _ _ _ (by simp only [World.size_alloc]; omega), Below.heap_alloc _ _ _ (by simp only [World.size_alloc]; omega)]
  exact World.alloc_heap_new w _
 ·show W0.heap[w.heap.size + 1 + 1]? = _
  rw [hW0, Below.heap_alloc _ _ _ (by simp only [World.size_alloc]; omega), Below.heap_alloc _ _ _ (by simp only [World.size_alloc]; omega), Below.heap_alloc _ _ _ (by simp only [World.size_alloc]; omega)]
  exact nw _ _ _ (by simp only [World.size_alloc])
 ·show W0.heap[w.heap.size + 1 + 1 + 1 + 1]? = _
  rw [hW0, Below.heap_alloc _ _ _ (by simp only [World.size_alloc]; omega)]
  exact zr _ _ (by simp only [World.size_alloc])
 ·show W0.heap[w.heap.size + 1 + 1 + 1]? = _
  rw [hW0, Below.heap_alloc _ _ _ (by simp only [World.size_alloc]; omega), Below.heap_alloc _ _ _ (by simp only [World.size_alloc]; omega)]
  exact zr _ _ (by simp only [World.size_alloc])
 ·show W0.heap[w.heap.size + 1 + 1 + 1 + 1 + 1]? = _
  rw [hW0]
  exact nw _ _ _ (by simp only [World.size_alloc])
theorem takers_any {B b : Nat} {ps : List PosB} {cs : List Value} (tk : Nat → Bool) (c : Nat) (hc : c < 256) (w : World) (hw : WebAt w B b ps cs) (hin : ∀ x, x < 256 → tk x = true → x < ps.length) :
  Calls Try.prog 29 #[.pointer (some ⟨b, 0, none⟩), .agg #[.int .u64 (wd tk 0 : Nat), .int .u64 (wd tk 1 : Nat), .int .u64 (wd tk 2 : Nat), .int .u64 (wd tk 3 : Nat)], .int .u8 (c : Nat)] w fun e w' => e = .returned (.agg #[.int .u64 (wd (tkB ps tk c) 0 : Nat), .int .u64 (wd (tkB ps tk c) 1 : Nat), .int .u64 (wd (tkB ps tk c) 2 : Nat), .int .u64 (wd (tkB ps tk c) 3 : Nat)]) ∧ Below w.heap.size w w' := by
 refine (callsIn_wide (n := 5)).1 ?_
 refine callsIn_of_wp_marks Try.func29 rfl trivial ?_ rfl
 simp only [Try.ntmps29, List.size_toArray, List.length_cons, List.length_nil, Nat.reduceAdd, Nat.reduceSub, Array.replicate_succ, Array.replicate_zero, List.push_toArray, List.append_toArray, List.nil_append, List.cons_append]
 gi_wp2_with (refine ⟨trivial, ?_⟩; gi_at_call 45; refine (members_in _ _ _).mono ?_; rintro e w' ⟨rfl, rfl⟩)
 obtain ⟨W0, hW0⟩ : ∃ W0, W0 = ((((((w.alloc (.cells #[.pointer (some ⟨b, 0, none⟩)] 52)).alloc (.cells #[.int .u64 (wd tk 0 : Nat), .int .u64 (wd tk 1 : Nat), .int .u64 (wd tk 2 : Nat), .int .u64 (wd tk 3 : Nat)] 45)).alloc (.cells #[.int .u8 (c : Nat)] 5)).alloc (.cells #[.int .u64 0, .int .u64 0, .int .u64 0, .int .u64 0] 45)).alloc (.cells #[.int .u64 0, .int .u64 0, .int .u64 0, .int .u64 0] 45)).alloc (.cells #[.int .u64 (wd tk 0 : Nat), .int .u64 (wd tk 1 : Nat), .int .u64 (wd tk 2 : Nat), .int .u64 (wd tk 3 : Nat)] 45)) := ⟨_, rfl⟩
 rw [← hW0]
 obtain ⟨hI0, bS, hsz0⟩ := tk_start (b := b) (c := c) tk w (tkP ps tk c) (tkP_zero ps tk c) hW0
 clear hW0
 refine range_feed (by omega) (gf := 60) (lb := #[.pointer (some ⟨w.heap.size + 1 + 1 + 1 + 1 + 1, 0, none⟩)]) rfl (enters_of Try.func60 (by kernel_rfl) rfl)
  (members_feed 4 (by omega) tk _ W0 bS) (fun _ => rfl) keepAt_t (keepAt_put (by omega)) (TkI w b c tk (tkP ps tk c)) (fun _ _ => False) (tkI_own _ _ _ _ _ _ hI0.1.size) (fun s W W' row h hg hr => h) hI0.2 (fun l a' _ => a' = { tmps := #[.pointer (some ⟨b, 0, none⟩), .agg #[.int .u64 (wd tk 0 : Nat), .int .u64 (wd tk 1 : Nat), .int .u64 (wd tk 2 : Nat), .int .u64 (wd tk 3 : Nat)], .int .u8 (c : Nat), .pointer (some ⟨w.heap.size, 0, none⟩), .pointer (some ⟨w.heap.size + 1, 0, none⟩), .pointer (some ⟨w.heap.size + 1 + 1, 0, none⟩), .pointer (some ⟨w.heap.size + 1 + 1 + 1, 0, none⟩), .pointer (some ⟨w.heap.size + 1 + 1 + 1 + 1, 0, none⟩), .int .u8 (l.headD 0 : Nat), .agg #[.int .u64 (wd tk 0 : Nat), .int .u64 (wd tk 1 : Nat), .int .u64 (wd tk 2 : Nat), .int .u64 (wd tk 3 : Nat)], .func (.func 60) #[] #[.pointer (some ⟨w.heap.size + 1 + 1 + 1 + 1 + 1, 0, none⟩)], .int .u8 (l.headD 0 : Nat), undef, undef, undef, undef, undef, undef, undef, undef, undef, undef, undef, undef, undef, undef, undef], defers := [] }) (fun s a' x W W' row h hg hr => h) ?assign ?body ?done ?stop
 case assign =>
  intro lo l W K hgo hI hK
  obtain ⟨x, l', rfl⟩ : ∃ x l', l = x :: l' := List.exists_cons_of_ne_nil hgo
  simp only [List.headD_cons] at hK ⊢
  gi_wp2
  exact hK _ _ (KeepsFrom.refl _ _) (KeepAt.refl _ _) hI rfl
 case body =>
  rintro lo l a' W hgo hI rfl
  obtain ⟨x, l', rfl⟩ : ∃ x l', l = x :: l' := List.exists_cons_of_ne_nil hgo
  simp only [List.headD_cons, List.tail_cons]
  obtain ⟨k, hk, hl, hbx, hby, ⟨t, ht, hS⟩, hR, hB, hsz⟩ := hI
  have hwb := hw.below hB
  obtain ⟨hkx, hx, htx, hl', hno⟩ := mr_head _ k rfl hk hl.symm
  have hxp := hin x hx htx
  obtain ⟨g, cap, hgB, hgb, hglt, cb, ho⟩ := hwb.at hxp
  obtain ⟨y, hy⟩ : ∃ y, ps[x]? = some y := ⟨ps[x], List.getElem?_eq_getElem hxp⟩
  have n0 := (owns_cell ho (x * 12 + 0) _ ((posV_get y 0 (by omega) ps x hy).trans rfl)).1
  have n1 := (owns_cell ho (x * 12 + 1) _ ((posV_get y 1 (by omega) ps x hy).trans rfl)).1
  have n2 := (owns_cell ho (x * 12 + 2) _ ((posV_get y 2 (by omega) ps x hy).trans rfl)).1
  have n3 := (owns_cell ho (x * 12 + 3) _ ((posV_get y 3 (by omega) ps x hy).trans rfl)).1
  rw [Nat.add_zero] at n0
  have hS0 : (fun V : World => V.cell? ⟨w.heap.size, 0, none⟩ = some (.pointer (some ⟨b, 0, none⟩)) ∧ V.cell? ⟨b, 0, none⟩ = some (.slice (some ⟨g, 0, none⟩) ps.length cap) ∧ V.cell? ⟨g, x * 12, none⟩ = some (.int .u64 (wd y.tk 0 : Nat)) ∧ V.cell? ⟨g, x * 12 + 1, none⟩ = some (.int .u64 (wd y.tk 1 : Nat)) ∧ V.cell? ⟨g, x * 12 + 2, none⟩ = some (.int .u64 (wd y.tk 2 : Nat)) ∧ V.cell? ⟨g, x * 12 + 3, none⟩ = some (.int .u64 (wd y.tk 3 : Nat)) ∧ V.cell? ⟨w.heap.size + 1 + 1, 0, none⟩ = some (.int .u8 (c : Nat))) W.drew := ⟨hbx.cell, cb, n0, n1, n2, n3, hby.cell⟩
  have i1 : (x : Int) < (ps.length : Int) := by omega
  have i2 : (0 : Int) ≤ (x : Int) := by omega
  have HF := hideT (fun (W1 : World) (q : Nat → Bool) (hb1 : Below W.heap.size W W1) => tk_next (f := tkP ps tk c) (q := q) (c := c) hsz0 hS hR hbx hby hB hsz hb1 (by omega) hl')
  have HT := hideT (And.intro (fun h => tkP_yes ht hkx htx hy hno h) (fun h => tkP_no ht hkx hy hno h))
  have HS := hideT hS
  have HHas := hideT (fun V => has_any y.tk (c : Nat) (by omega) (by omega) V)
  have HOr := hideT (fun V => orD t (onB x) V)
  have HOn := hideT (fun V => only_any x hx V)
  clear hI0 bS hS hR hbx hby hwb hB ht hno ho hin hw cb n0 n1 n2 n3
  gi_wp2_with fail
  refine heldIn (fun V : World => V.cell? ⟨w.heap.size, 0, none⟩ = some (.pointer (some ⟨b, 0, none⟩)) ∧ V.cell? ⟨b, 0, none⟩ = some (.slice (some ⟨g, 0, none⟩) ps.length cap) ∧ V.cell? ⟨g, x * 12, none⟩ = some (.int .u64 (wd y.tk 0 : Nat)) ∧ V.cell? ⟨g, x * 12 + 1, none⟩ = some (.int .u64 (wd y.tk 1 : Nat)) ∧ V.cell? ⟨g, x * 12 + 2, none⟩ = some (.int .u64 (wd y.tk 2 : Nat)) ∧ V.cell? ⟨g, x * 12 + 3, none⟩ = some (.int .u64 (wd y.tk 3 : Nat)) ∧ V.cell? ⟨w.heap.size + 1 + 1, 0, none⟩ = some (.int .u8 (c : Nat))) (by kernel_rfl) (by kernel_rfl) (fun ⟨_, _, h⟩ => h) ?_
  refine' take_d 0 (some 12) rfl rfl (by kernel_rfl) (by kernel_rfl) (by kernel_rfl) (fun _ _ _ h => h) (by rfl) hS0 ?hy0 ?rest0
  case hy0 => intro V hV; (try dsimp only at hV); go_simp; (try with_reducible rfl)
  refine' take_d 1 (some 13) rfl rfl (by kernel_rfl) (by kernel_rfl) (by kernel_rfl) (fun _ _ _ h => h) (by rfl) hS0 ?hy1 ?rest1
  case hy1 => intro V hV; (try dsimp only at hV); go_simp; (try with_reducible rfl)
  refine' take_d 2 (some 14) rfl rfl (by kernel_rfl) (by kernel_rfl) (by kernel_rfl) (fun _ _ _ h => h) (by rfl) hS0 ?hy2 ?rest2
  case hy2 => intro V hV; (try dsimp only at hV); go_simp; (try with_reducible rfl)
  refine' take_d 3 (some 15) rfl rfl (by kernel_rfl) (by kernel_rfl) (by kernel_rfl) (fun _ _ _ h => h) (by rfl) hS0 ?hy3 ?rest3
  case hy3 => intro V hV; (try dsimp only at hV); go_simp; (try with_reducible rfl)
  refine' take_d 4 (some 16) rfl rfl (by kernel_rfl) (by kernel_rfl) (by kernel_rfl) (fun _ _ _ h => h) (by rfl) hS0 ?hy4 ?rest4
  case hy4 => intro V hV; (try dsimp only at hV); go_simp; (try with_reducible rfl)
  refine' take_d 5 (some 17) rfl rfl (by kernel_rfl) (by kernel_rfl) (by kernel_rfl) (fun _ _ _ h => h) (by rfl) hS0 ?hy5 ?rest5
  case hy5 => intro V hV; (try dsimp only at hV); go_simp; (try with_reducible rfl)
  refine' take_d 6 (some 18) rfl rfl (by kernel_rfl) (by kernel_rfl) (by kernel_rfl) (fun _ _ _ h => h) (by rfl) hS0 ?hy6 ?rest6
  case hy6 => intro V hV; (try dsimp only at hV); go_simp; (try with_reducible rfl)
  refine' take_d 7 (some 19) rfl rfl (by kernel_rfl) (by kernel_rfl) (by kernel_rfl) (fun _ _ _ h => h) (by rfl) hS0 ?hy7 ?rest7
  case hy7 => intro V hV; (try dsimp only at hV); go_simp; (try with_reducible rfl)
  refine' take_d 8 (some 20) rfl rfl (by kernel_rfl) (by kernel_rfl) (by kernel_rfl) (fun _ _ _ h => h) (by rfl) hS0 ?hy8 ?rest8
  case hy8 => intro V hV; (try dsimp only at hV); go_simp; (try with_reducible rfl)
  refine wpAnyH_all (rs := [9]) (by kernel_rfl) (by simp) (fun i hi => ?_)
  obtain rfl : i = 9 := List.mem_singleton.1 hi
  refine op_call (R := fun v w1 => v = .bool (y.tk c) ∧ Below W.heap.size W w1) (f := 46) (some 21) rfl rfl (by rfl) (by go_simp; (try with_reducible rfl)) ((HHas.out _).mono ?_) ?_
  ·rintro e w1 ⟨rfl, hb0⟩
   exact ⟨_, rfl, by rw [Int.toNat_natCast], ((Below.refl W.heap.size W).drew).trans hb0⟩
  rintro v w1 ⟨rfl, hb1⟩
  obtain ⟨s0, s1, s2, s3, s4, s5, s6⟩ := hS0
  refine ⟨⟨keep_cell hb1 s0, keep_cell hb1 s1, keep_cell hb1 s2, keep_cell hb1 s3, keep_cell hb1 s4, keep_cell hb1 s5, keep_cell hb1 s6⟩, ?_⟩
  refine wpAnyH_done (by kernel_rfl) ?_ _
  clear s0 s1 s2 s3 s4 s5 s6
  rename_i K1 hK1
  refine hK1 _ _ ?_
  simp only [Act.put, List.setIfInBounds_toArray, List.set_cons_zero, List.set_cons_succ]
  clear hK1
  obtain ⟨v, hv⟩ : ∃ v, y.tk c = v := ⟨_, rfl⟩
  rw [hv]
  cases v
  ·gi_wp2
   exact (HF.out w1 noB hb1).2 (HT.out.2 hv)
  ·gi_wp2_with fail
   refine heldIn (fun _ => True) (by kernel_rfl) (by kernel_rfl) (fun ⟨_, _, h⟩ => h) ?_
   refine' take_d 1 (some 23) rfl rfl (by kernel_rfl) (by kernel_rfl) (by kernel_rfl) (fun _ _ _ h => h) (by rfl) trivial ?hz1 ?restz
   case hz1 => intro V hV; go_simp; (try with_reducible rfl)
   refine wpAnyH_all (rs := [0, 2]) (by kernel_rfl) (by simp) (fun i hi => ?_)
   have hc2 : i = 0 ∨ i = 2 := by simpa using hi
   rcases hc2 with rfl | rfl
   ·have hs1 := HS.out.below hb1 HS.out.lt
    have e0 : w1.drew.cell? ⟨w.heap.size + 1 + 1 + 1 + 1, 0, none⟩ = some (.int .u64 (wd t 0 : Nat)) := hs1.holds.1.1
    have e1 : w1.drew.cell? ⟨w.heap.size + 1 + 1 + 1 + 1, 1, none⟩ = some (.int .u64 (wd t 1 : Nat)) := hs1.holds.1.2.1
    have e2 : w1.drew.cell? ⟨w.heap.size + 1 + 1 + 1 + 1, 2, none⟩ = some (.int .u64 (wd t 2 : Nat)) := hs1.holds.1.2.2.1
    have e3 : w1.drew.cell? ⟨w.heap.size + 1 + 1 + 1 + 1, 3, none⟩ = some (.int .u64 (wd t 3 : Nat)) := hs1.holds.1.2.2.2
    refine op_value (some 22) rfl rfl (by rfl) (v := .agg #[.int .u64 (wd t 0 : Nat), .int .u64 (wd t 1 : Nat), .int .u64 (wd t 2 : Nat), .int .u64 (wd t 3 : Nat)]) (by go_simp; (try with_reducible rfl)) ⟨trivial, ?_⟩
    refine wpAnyH_all (rs := [2]) (by kernel_rfl) (by simp) (fun i hi => ?_)
    obtain rfl : i = 2 := List.mem_singleton.1 hi
    refine op_call (R := fun v w2 => v = .agg #[.int .u64 (wd (onB x) 0 : Nat), .int .u64 (wd (onB x) 1 : Nat), .int .u64 (wd (onB x) 2 : Nat), .int .u64 (wd (onB x) 3 : Nat)] ∧ Below w1.heap.size w1 w2) (f := 47) (some 24) rfl rfl (by rfl) (by go_simp; (try with_reducible rfl)) ((HOn.out _).mono ?_) ?_
    ·rintro e w2 ⟨rfl, hb0⟩
     exact ⟨_, rfl, rfl, ((Below.refl w1.heap.size w1).drew).trans hb0⟩
    rintro v w2 ⟨rfl, hb2⟩
    have hb12 := hb1.trans (hb2.mono hb1.size)
    refine ⟨trivial, ?_⟩
    clear e0 e1 e2 e3 hs1
    refine wpAnyH_all (rs := [3]) (by kernel_rfl) (by simp) (fun i hi => ?_)
    obtain rfl : i = 3 := List.mem_singleton.1 hi
    refine op_call (R := fun v w3 => v = .agg #[.int .u64 (wd (orP t (onB x)) 0 : Nat), .int .u64 (wd (orP t (onB x)) 1 : Nat), .int .u64 (wd (orP t (onB x)) 2 : Nat), .int .u64 (wd (orP t (onB x)) 3 : Nat)] ∧ Below w2.heap.size w2 w3) (f := 33) (some 25) rfl rfl (by rfl) (by go_simp; (try with_reducible rfl)) ((HOr.out _).mono ?_) ?_
    ·rintro e w3 ⟨rfl, hb0⟩
     exact ⟨_, rfl, rfl, hb0⟩
    rintro v w3 ⟨rfl, hb3⟩
    have hb13 := hb12.trans (hb3.mono hb12.size)
    obtain ⟨⟨d0, d1, d2, d3⟩, g0, g1, g2, g3⟩ := (HS.out.below hb13 HS.out.lt).holds
    refine ⟨trivial, ?_⟩
    refine wpAnyH_all (rs := [4]) (by kernel_rfl) (by simp) (fun i hi => ?_)
    obtain rfl : i = 4 := List.mem_singleton.1 hi
    refine op_skip rfl rfl (by rfl) (w' := put4 w3 (w.heap.size + 1 + 1 + 1 + 1) (orP t (onB x))) (by go_simp; (try with_reducible rfl)) ⟨trivial, ?_⟩
    exact wpAnyH_done (by kernel_rfl) ((HF.out w3 _ hb13).1 (HT.out.1 hv)) _
   ·refine op_call (R := fun v w2 => v = .agg #[.int .u64 (wd (onB x) 0 : Nat), .int .u64 (wd (onB x) 1 : Nat), .int .u64 (wd (onB x) 2 : Nat), .int .u64 (wd (onB x) 3 : Nat)] ∧ Below w1.heap.size w1 w2) (f := 47) (some 24) rfl rfl (by rfl) (by go_simp; (try with_reducible rfl)) ((HOn.out _).mono ?_) ?_
    ·rintro e w2 ⟨rfl, hb0⟩
     exact ⟨_, rfl, rfl, ((Below.refl w1.heap.size w1).drew).trans hb0⟩
    rintro v w2 ⟨rfl, hb2⟩
    have hb12 := hb1.trans (hb2.mono hb1.size)
    refine ⟨trivial, ?_⟩
    obtain ⟨⟨e0, e1, e2, e3⟩, -⟩ := (HS.out.below hb12 HS.out.lt).holds
    refine wpAnyH_all (rs := [0]) (by kernel_rfl) (by simp) (fun i hi => ?_)
    obtain rfl : i = 0 := List.mem_singleton.1 hi
    refine op_value (some 22) rfl rfl (by rfl) (v := .agg #[.int .u64 (wd t 0 : Nat), .int .u64 (wd t 1 : Nat), .int .u64 (wd t 2 : Nat), .int .u64 (wd t 3 : Nat)]) (by go_simp; (try with_reducible rfl)) ⟨trivial, ?_⟩
    clear e0 e1 e2 e3
    refine wpAnyH_all (rs := [3]) (by kernel_rfl) (by simp) (fun i hi => ?_)
    obtain rfl : i = 3 := List.mem_singleton.1 hi
    refine op_call (R := fun v w3 => v = .agg #[.int .u64 (wd (orP t (onB x)) 0 : Nat), .int .u64 (wd (orP t (onB x)) 1 : Nat), .int .u64 (wd (orP t (onB x)) 2 : Nat), .int .u64 (wd (orP t (onB x)) 3 : Nat)] ∧ Below w2.heap.size w2 w3) (f := 33) (some 25) rfl rfl (by rfl) (by go_simp; (try with_reducible rfl)) ((HOr.out _).mono ?_) ?_
    ·rintro e w3 ⟨rfl, hb0⟩
     exact ⟨_, rfl, rfl, hb0⟩
    rintro v w3 ⟨rfl, hb3⟩
    have hb13 := hb12.trans (hb3.mono hb12.size)
    obtain ⟨⟨d0, d1, d2, d3⟩, g0, g1, g2, g3⟩ := (HS.out.below hb13 HS.out.lt).holds
    refine ⟨trivial, ?_⟩
    refine wpAnyH_all (rs := [4]) (by kernel_rfl) (by simp) (fun i hi => ?_)
    obtain rfl : i = 4 := List.mem_singleton.1 hi
    refine op_skip rfl rfl (by rfl) (w' := put4 w3 (w.heap.size + 1 + 1 + 1 + 1) (orP t (onB x))) (by go_simp; (try with_reducible rfl)) ⟨trivial, ?_⟩
    exact wpAnyH_done (by kernel_rfl) ((HF.out w3 _ hb13).1 (HT.out.1 hv)) _
 case done =>
  rintro D l W hD hng ⟨k, hk, hl, hbx, hby, ⟨t, ht, hS⟩, hR, hB, hsz⟩ hK
  have hl0 : mr tk k = [] := by
   rw [← hl]
   exact Classical.byContradiction hng
  have hq : Is t (tkB ps tk c) := fun n hn => by
   rw [ht n hn]
   exact tkP_full (mr_nil _ k rfl hk hl0) hn
  obtain ⟨q0, q1, q2, q3⟩ := wd_Is hq
  rw [Set4, q0, q1, q2, q3] at hS
  have HQ := hideT (And.intro hB (And.intro hK hD))
  clear hl hl0 ht hq q0 q1 q2 q3 hB hng hI0 bS
  have hqq : ∃ q, tkB ps tk c = q := ⟨_, rfl⟩
  obtain ⟨q, hqq⟩ := hqq
  rw [hqq] at hS
  have HQQ := hideT hqq
  clear hqq
  have hne1 : w.heap.size + 1 + 1 + 1 + 1 ≠ D := by omega
  have hne2 : w.heap.size + 1 + 1 + 1 ≠ D := by omega
  have hS' : Set4 W (w.heap.size + 1 + 1 + 1 + 1) q := hS
  obtain ⟨⟨c0, c1, c2, c3⟩, -⟩ := hS'.holds
  obtain ⟨⟨d0, d1, d2, d3⟩, f0, f1, f2, f3⟩ := hR.holds
  have hD2 : w.heap.size ≤ D := by omega
  clear hS hS' hK hD
  have hX := set4_put hR q
  have hKX : (put4 W (w.heap.size + 1 + 1 + 1) q).heap[D]? = some (.deferred (some [])) := (put4_far W _ q (fun e => hne2 e.symm)).trans HQ.out.2.1
  have hZ : Set4 ((put4 W (w.heap.size + 1 + 1 + 1) q).putObj D (.deferred none)) (w.heap.size + 1 + 1 + 1) q := (World.putObj_heap_other hne2).trans hX
  obtain ⟨⟨z0, z1, z2, z3⟩, -⟩ := hZ.holds
  have hBZ : Below w.heap.size w ((put4 W (w.heap.size + 1 + 1 + 1) q).putObj D (.deferred none)) := (below_put4 HQ.out.1 (by omega) q).trans (belowK_b (w := w) (Nat.le_refl _) _ D _ _ (by omega) hKX rfl rfl)
  have HX := hideT (And.intro hKX hBZ)
  clear hX hKX hZ hBZ
  gi_wp2
  refine ⟨by simp, .inl ⟨_, _, rfl, run_takeDeferred HX.out.1, ?_⟩⟩
  exact ⟨.agg #[.int .u64 (wd q 0 : Nat), .int .u64 (wd q 1 : Nat), .int .u64 (wd q 2 : Nat), .int .u64 (wd q 3 : Nat)], by simp [results, Try.results29, go_sem, z0, z1, z2, z3], by rw [HQQ.out], HX.out.2⟩
 case stop => rintro D l W hD h; exact h.elim
end Go.Proofs.Ytiedliahmjiadaa
