/- listing: All: the lines of a text, given one at a time; whose memory is whose. -/
import Derived.RangeFuncNested
import Derived.RangeFuncBound
import Derived.RangeFuncCalls
import Derived.RangeFuncLeaves
import Derived.RangeFuncBox
import Derived.Shelf.Abstract
import Derived.WalkKit
import Derived.OwnWalkIn
import Derived.TacticsInMore
import Derived.LoopNIn
import Derived.LoopIn
import Derived.Test.YtiegmgcdfafhiaaDoorHb
import Derived.Test.YtiegmgcdfafhiaaDoorHd
namespace Go.Proofs.YtiegmgcdfafhiaaDoor
open Go.RowKit Go.Shelf

/-- Block k isn't the loop's own: it was laid since block n0, and it isn't the row of the list in the box at L. -/
def Apt (n0 L : Nat) (W : World) (k : Nat) : Prop := n0 ≤ k ∧ k < W.heap.size ∧ ∀ v, Boxed W L 22 v → v.ownBlock ≠ some k
/-- What a round keeps. -/
structure KeepA (n0 L : Nat) (W W' : World) : Prop where
  size : W.heap.size ≤ W'.heap.size
  same : ∀ k, Apt n0 L W k → Apt n0 L W' k ∧ W'.heap[k]? = W.heap[k]?
theorem KeepA.trans {n0 L : Nat} {X Y Z : World} (h : KeepA n0 L X Y) (h' : KeepA n0 L Y Z) : KeepA n0 L X Z :=
  ⟨Nat.le_trans h.size h'.size, fun k hk => ⟨(h'.same k (h.same k hk).1).1, (h'.same k (h.same k hk).1).2.trans (h.same k hk).2⟩⟩
/-- What the iterator changes between two rounds. -/
structure ItS (n0 L : Nat) (W W' : World) : Prop where
  os : W'.os = W.os
  tape : W'.tape = W.tape
  output : W'.output = W.output
  size : W.heap.size ≤ W'.heap.size
  block : ∀ k, k < W.heap.size → ¬ Apt n0 L W k → W'.heap[k]? = W.heap[k]?
def AbideA (n0 L : Nat) (J : List (List UInt8) → World → Prop) : Prop := ∀ s W W', J s W → ItS n0 L W W' → J s W'

theorem ItS.of_below {n0 L : Nat} {W W' : World} (h : Below W.heap.size W W') : ItS n0 L W W' := ⟨h.os, h.tape, h.output, h.size, fun k hk _ => h.block k hk⟩

/-- The builder's block and its row are the iterator's. -/
def BkA (n0 L b : Nat) (W : World) : Prop := ∃ p v, W.heap[b]? = some (.cells #[p, v] 49 (0, 0)) ∧ Apt n0 L W b ∧ ∀ g, v.ownBlock = some g → Apt n0 L W g

theorem box_stay {n0 L : Nat} (hL : L < n0) {W W' : World} (h : Below n0 W W') {v : Value} : Boxed W' L 22 v ↔ Boxed W L 22 v := by
  unfold Boxed
  rw [h.block L hL]
theorem BkA.step {n0 L b : Nat} (hL : L < n0) {W W' : World} (h : BkA n0 L b W) (hb : Below n0 W W') (hk : KeepB W W' b) (h2 : ∃ p v, W'.heap[b]? = some (.cells #[p, v] 49 (0, 0)) ∧ ∀ g, v.ownBlock = some g → n0 ≤ g ∧ g < W'.heap.size) (hr : ∀ v g, Boxed W L 22 v → v.ownBlock = some g → g < W.heap.size) : ItS n0 L W W' ∧ BkA n0 L b W' := by
  obtain ⟨p, v, h0, ha, hg⟩ := h
  obtain ⟨p', v', h0', hg'⟩ := h2
  have far : ∀ k, k < W.heap.size → ¬ Apt n0 L W k → NotB W b k := fun k hk1 hk3 =>
    ⟨hk1, fun e => hk3 (e ▸ ha), fun p1 v1 h1 e => by
      rw [h0] at h1
      cases h1
      exact hk3 (hg k e)⟩
  refine ⟨⟨hb.os, hb.tape, hb.output, hb.size, fun k hk1 hk2 => (hk k (far k hk1 hk2)).2⟩, p', v', h0', ⟨ha.1, Nat.lt_of_lt_of_le ha.2.1 hb.size, fun u hu => ha.2.2 u ((box_stay hL hb).1 hu)⟩, fun g e => ?_⟩
  obtain ⟨q1, q2⟩ := hg' g e
  refine ⟨q1, q2, fun u hu e2 => ?_⟩
  have hu' := (box_stay hL hb).1 hu
  have hlt := hr u g hu' e2
  exact (hk g (far g hlt (fun hap => hap.2.2 u hu' e2))).1.2.2 p' v' h0' e
theorem row_in {n0 b : Nat} {bs : List Value} {W : World} (h : Lib.IsBuilder 49 5 n0 b bs W) : ∃ p v, W.heap[b]? = some (.cells #[p, v] 49 (0, 0)) ∧ ∀ g, v.ownBlock = some g → n0 ≤ g ∧ g < W.heap.size := by
  obtain ⟨p, v, h1, h2⟩ := bu_blk h
  refine ⟨p, v, h1, fun g e => ?_⟩
  obtain ⟨q0, q1, _⟩ := owns_blk h2 e
  exact ⟨q0, q1⟩
theorem BkA.below {n0 L b : Nat} (hL : L < n0) {W W' : World} (h : BkA n0 L b W) (hn : n0 ≤ W.heap.size) (hb : Below W.heap.size W W') : BkA n0 L b W' := by
  obtain ⟨p, v, h0, ha, hg⟩ := h
  have st : ∀ k, Apt n0 L W k → Apt n0 L W' k := fun k hk => ⟨hk.1, Nat.lt_of_lt_of_le hk.2.1 hb.size, fun u hu => hk.2.2 u ((box_stay hL (hb.mono hn)).1 hu)⟩
  exact ⟨p, v, (hb.block b ha.2.1).trans h0, st b ha, fun g e => st g (hg g e)⟩
theorem BkA.keep {n0 L b : Nat} {W W' : World} (h : BkA n0 L b W) (hk : KeepA n0 L W W') : BkA n0 L b W' := by
  obtain ⟨p, v, h0, ha, hg⟩ := h
  exact ⟨p, v, (hk.same b ha).2.trans h0, (hk.same b ha).1, fun g e => (hk.same g (hg g e)).1⟩

theorem lnR_end (line : List UInt8) : lnR [] line = [line ++ [36]] := rfl
theorem lnR_big (c : UInt8) (r line : List UInt8) (h : 69 < line.length + (escB c).length) : lnR (c :: r) line = (line ++ [92]) :: lnR r (escB c) := by rw [lnR, if_pos h]
theorem lnR_fit (c : UInt8) (r line : List UInt8) (h : ¬ 69 < line.length + (escB c).length) : lnR (c :: r) line = lnR r (line ++ escB c) := by rw [lnR, if_neg h]

/-- The iterator's state but for the text. -/
def ItP (n0 L : Nat) (J : List (List UInt8) → World → Prop) (done : List (List UInt8)) (W : World) : Prop := BkA n0 L n0 W ∧ J done W ∧ n0 < W.heap.size
theorem ItP.step {n0 L : Nat} (hL : L < n0) {s : ByteArray} {Bn : Nat} {J : List (List UInt8) → World → Prop} (hJ : AbideA n0 L J) (hJB : ∀ pre W1, J pre W1 → Boxed W1 Bn 9 (.string s) ∧ ∀ v g, Boxed W1 L 22 v → v.ownBlock = some g → g < W1.heap.size) {done : List (List UInt8)} {W W' : World} (h : ItP n0 L J done W) (hb : Below n0 W W') (hk : KeepB W W' n0) (h2 : ∃ p v, W'.heap[n0]? = some (.cells #[p, v] 49 (0, 0)) ∧ ∀ g, v.ownBlock = some g → n0 ≤ g ∧ g < W'.heap.size) : ItP n0 L J done W' := by
  obtain ⟨q1, q2⟩ := h.1.step hL hb hk h2 (hJB _ _ h.2.1).2
  exact ⟨q2, hJ _ _ _ h.2.1 q1, Nat.lt_of_lt_of_le h.2.2 hb.size⟩
theorem ItP.same {n0 L : Nat} {J : List (List UInt8) → World → Prop} {done : List (List UInt8)} {W W' : World} (h : ItP n0 L J done W) (hb : Below n0 W W') (h0 : W'.heap[n0]? = W.heap[n0]?) : ∃ p v, W'.heap[n0]? = some (.cells #[p, v] 49 (0, 0)) ∧ ∀ g, v.ownBlock = some g → n0 ≤ g ∧ g < W'.heap.size := by
  obtain ⟨⟨p, v, h1, _, h3⟩, _⟩ := h
  exact ⟨p, v, h0.trans h1, fun g e => ⟨(h3 g e).1, Nat.lt_of_lt_of_le (h3 g e).2.1 hb.size⟩⟩

attribute [local go_sem] Oper.semAt_some

/-- What lies where while the iterator goes on. -/
def ItR (n0 L : Nat) (s : ByteArray) (J : List (List UInt8) → World → Prop) (k : Nat) (done : List (List UInt8)) (line : List UInt8) (W : World) : Prop :=
  linesL s.data.toList = done ++ lnR (s.data.toList.drop k) line ∧ line.length ≤ 69 ∧ Lib.IsBuilder 49 5 n0 n0 (Lib.byteCells line) W ∧ BkA n0 L n0 W ∧ J done W ∧ n0 < W.heap.size

set_option maxRecDepth 100000 in
set_option maxHeartbeats 4000000 in
theorem iter_in (n : Nat) (hn : 1 ≤ n) (l Bn L : Nat) (s : ByteArray) (hs : s.size ≤ 1073741824) (J Jx : List (List UInt8) → World → Prop) (W : World) (hL : L < W.heap.size)
    (hJ : AbideA W.heap.size L J) (hJB : ∀ pre W1, J pre W1 → Boxed W1 Bn 9 (.string s) ∧ ∀ v g, Boxed W1 L 22 v → v.ownBlock = some g → g < W1.heap.size)
    (hY : ∀ pre (x : List UInt8) W1, J pre W1 → (pre ++ [x] <+: linesL s.data.toList) → YieldAt Fence.wide (n - 1) Tryd.prog l #[.string (bst x)] W1 fun e W' =>
      (e = .returned (.bool true) ∧ J (pre ++ [x]) W' ∧ KeepA W.heap.size L W1 W') ∨ (e = .returned (.bool false) ∧ Jx (pre ++ [x]) W'))
    (h0 : J [] W) :
    CallsIn Fence.wide n Tryd.prog 22 #[.func (.yield l) #[] #[], .pointer (some ⟨Bn, 0, none⟩)] W fun e W' => (∃ v, e = .returned v) ∧
      (J (linesL s.data.toList) W' ∨ ∃ pre, pre <+: linesL s.data.toList ∧ Jx pre W') := by
  have hlen : s.data.toList.length = s.size := rfl
  have hc0 := (hJB _ _ h0).1.cell
  have hA0 := (Below.refl W.heap.size W).alloc (Nat.le_refl _) (.cells #[.pointer none, .slice none 0 0] 49)
  have hF := Lib.fresh_isBuilder 49 5 W
  have hBk : BkA W.heap.size L W.heap.size (W.alloc (.cells #[.pointer none, .slice none 0 0] 49)) := by
    refine ⟨_, _, heap_alloc_new W _, ⟨Nat.le_refl _, by simp, fun u hu e => ?_⟩, fun g e => by simp [Value.ownBlock] at e⟩
    have := (hJB _ _ h0).2 u _ ((box_stay hL hA0).1 hu) e
    omega
  have hJ0 : J [] (W.alloc (.cells #[.pointer none, .slice none 0 0] 49)) := hJ _ _ _ h0 (ItS.of_below hA0)
  have hc1 := (hJB _ _ hJ0).1.cell
  have H0 := hideT (show ItR W.heap.size L s J 0 [] [] (W.alloc (.cells #[.pointer none, .slice none 0 0] 49)) from ⟨by simp [linesL], by simp, hF, hBk, hJ0, by simp⟩)
  clear hA0 hF hBk hJ0 h0
  refine callsIn_of_wp Tryd.func22 rfl trivial ?_ rfl
  simp only [Tryd.ntmps22, List.size_toArray, List.length_cons, List.length_nil, Nat.reduceAdd, Nat.reduceSub, Array.replicate_succ, Array.replicate_zero, List.push_toArray, List.append_toArray, List.nil_append, List.cons_append]
  gi_wp2
  gi_loopw [8] (fun i wr => ∃ (k : Nat) (done : List (List UInt8)) (line : List UInt8), k ≤ s.size ∧ i = .int .i64 k ∧ Hid (ItR W.heap.size L s J k done line wr)) (fun i _ => s.size - (intOf i).toNat)
  case atStart => exact ⟨0, [], [], by omega, rfl, H0⟩
  case round =>
    obtain ⟨k, done, line, hk, rfl, HI⟩ := hrel
    clear hc0 hc1 H0
    by_cases hlt : k < s.size
    · have i1 : (k : Int) < (s.size : Int) := by omega
      have i2 : (0 : Int) ≤ (k : Int) := by omega
      have hc := (hJB _ _ HI.out.2.2.2.2.1).1.cell
      have hcl := (s[k]'hlt).toNat_lt
      gi_wp2_with fail
      refine ⟨trivial, ?_⟩
      refine (callsIn_wide.2 (escape_any (s[k]'hlt) _)).mono ?_
      rintro e w1 ⟨rfl, hb1⟩
      obtain ⟨q1, q2, q3, q4, q5, q6⟩ := HI.out
      rw [drop_at s k hlt] at q1
      have HI1 := hideT (And.intro q1 (And.intro q2 (And.intro (bu_stay q3 hb1) (show ItP W.heap.size L J done w1 from ⟨q4.below hL (by omega) hb1, hJ _ _ _ q5 (ItS.of_below hb1), Nat.lt_of_lt_of_le q6 hb1.size⟩))))
      have hel := escB_len (s[k]'hlt)
      have hes : (bst (escB (s[k]'hlt))).size = (escB (s[k]'hlt)).length := bst_size _
      clear q1 q2 q3 q4 q5 q6 hb1 hc HI
      obtain ⟨es, hes2⟩ : ∃ es, es = bst (escB (s[k]'hlt)) := ⟨_, rfl⟩
      rw [← hes2] at hes ⊢
      have HES := hideT (And.intro hes2 hes)
      have hl4 : es.size ≤ 4 := by omega
      have hll := HI1.out.2.1
      clear hes2 hes hel
      gi_wp2_with fail
      refine ⟨trivial, ?_⟩
      refine (callsIn_wide.2 (builderLen_any _ _ _ _ HI1.out.2.2.1)).mono ?_
      rintro e w2 ⟨rfl, rfl⟩
      rw [Lib.byteCells_length]
      have hstr : Lib.strCells es = Lib.byteCells (escB (s[k]'hlt)) := by rw [HES.out.1, strCells_bst]
      have HST := hideT hstr
      clear hstr
      by_cases hbig : 69 < line.length + es.size
      · have g1 : (69 : Int) < (line.length : Int) + (es.size : Int) := by omega
        gi_wp2_with fail
        refine ⟨trivial, ?_⟩
        refine (callsIn_wide.2 (writeByte_any _ _ _ _ _ HI1.out.2.2.1 (by rw [Lib.byteCells_length]; omega) (by have := HI1.out.2.2.2.2.2; omega))).mono ?_
        rintro e w3 ⟨rfl, h3, hb3, hk3⟩
        have HP3 := hideT (And.intro (show Lib.IsBuilder 49 5 W.heap.size W.heap.size (Lib.byteCells (line ++ [92])) w3 from .inr (by rw [cells_app]; exact h3)) (HI1.out.2.2.2.step hL hJ hJB hb3 hk3 (row_in (.inr h3))))
        clear h3 hb3 hk3
        gi_wp2_with fail
        refine ⟨trivial, ?_⟩
        refine (callsIn_wide.2 (string_keep _ _ _ _ HP3.out.1 (by simp) (by simp; omega))).mono ?_
        rintro e w4 ⟨rfl, hb4, hk4, hh4, -⟩
        have HP4 := hideT (HP3.out.2.step hL hJ hJB hb4 hk4 (HP3.out.2.same hb4 hh4))
        clear hb4 hk4 hh4
        have hq := HI1.out.1
        rw [lnR_big _ _ _ (by rw [← HES.out.2]; exact hbig)] at hq
        obtain ⟨fn, tmps, assign, body, hy, hR⟩ := hY done (line ++ [92]) w4 HP4.out.2.1 ⟨lnR (s.data.toList.drop (k + 1)) (escB (s[k]'hlt)), by rw [hq]; simp⟩
        have HQ := hideT hq
        clear hq
        generalize bst (line ++ [92]) = bl at *
        gi_wp2
        refine hR.mono ?_
        rintro e W5 (⟨rfl, hJ5, hK5⟩ | ⟨rfl, hJx5⟩)
        · have hB5 := HP4.out.1.keep hK5
          have H5 := hideT (show ItP W.heap.size L J (done ++ [line ++ [92]]) W5 from ⟨hB5, hJ5, Nat.lt_of_lt_of_le HP4.out.2.2 hK5.size⟩)
          obtain ⟨p5, v5, h5, -, -⟩ := hB5
          have H5b := hideT h5
          clear hJ5 hK5 h5
          gi_wp2_with fail
          refine ⟨trivial, ?_⟩
          refine (callsIn_wide.2 (reset_any W.heap.size _ _ _ _ (Nat.le_refl _) H5b.out)).mono ?_
          rintro e w6 ⟨rfl, h6, hb6, hk6⟩
          have HP6 := hideT (And.intro h6 (H5.out.step hL hJ hJB hb6 hk6 (row_in h6)))
          clear h6 hb6 hk6
          gi_wp2_with fail
          refine ⟨trivial, ?_⟩
          refine (callsIn_wide.2 (writeString_any _ _ _ _ _ HP6.out.1 (by rw [Lib.byteCells_length]; simp; omega) (by have := HP6.out.2.2.2; omega))).mono ?_
          rintro e w7 ⟨rfl, h7, hb7, hk7⟩
          rw [HST.out] at h7
          have HP7 := hideT (And.intro (show Lib.IsBuilder 49 5 W.heap.size W.heap.size (Lib.byteCells (escB (s[k]'hlt))) w7 from .inr h7) (HP6.out.2.step hL hJ hJB hb7 hk7 (row_in (.inr h7))))
          clear h7 hb7 hk7
          gi_wp2
          go_roundw
          case rel => exact ⟨k + 1, done ++ [line ++ [92]], escB (s[k]'hlt), by omega, by go_num, hideT ⟨by rw [HQ.out]; simp, by have := HES.out.2; omega, HP7.out.1, HP7.out.2.1, HP7.out.2.2.1, HP7.out.2.2.2⟩⟩
          case measure => simp [intOf]; omega
        · have HJx := hideT hJx5
          clear hJx5
          gi_wp2
          refine bodyPost_ret (results_none rfl _ _ _) rfl ?_
          exact ⟨⟨_, rfl⟩, .inr ⟨_, ⟨lnR (s.data.toList.drop (k + 1)) (escB (s[k]'hlt)), by rw [HQ.out]; simp⟩, HJx.out⟩⟩
      · have g1 : ((69 : Int) < (line.length : Int) + (es.size : Int)) = False := by rw [eq_iff_iff, iff_false]; omega
        have hq := HI1.out.1
        rw [lnR_fit _ _ _ (by rw [← HES.out.2]; exact hbig)] at hq
        have HQ := hideT hq
        clear hq
        gi_wp2_with fail
        refine ⟨trivial, ?_⟩
        refine (callsIn_wide.2 (writeString_any _ _ _ _ _ HI1.out.2.2.1 (by rw [Lib.byteCells_length]; omega) (by have := HI1.out.2.2.2.2.2; omega))).mono ?_
        rintro e w7 ⟨rfl, h7, hb7, hk7⟩
        rw [HST.out, ← cells_app] at h7
        have HP7 := hideT (And.intro (show Lib.IsBuilder 49 5 W.heap.size W.heap.size (Lib.byteCells (line ++ escB (s[k]'hlt))) w7 from .inr h7) (HI1.out.2.2.2.step hL hJ hJB hb7 hk7 (row_in (.inr h7))))
        clear h7 hb7 hk7
        gi_wp2
        go_roundw
        case rel => exact ⟨k + 1, done, line ++ escB (s[k]'hlt), by omega, by go_num, hideT ⟨HQ.out, by rw [List.length_append, ← HES.out.2]; omega, HP7.out.1, HP7.out.2.1, HP7.out.2.2.1, HP7.out.2.2.2⟩⟩
        case measure => simp [intOf]; omega
    · have i1 : ((k : Int) < (s.size : Int)) = False := by rw [eq_iff_iff, iff_false]; omega
      obtain ⟨q1, q2, q3, q4, q5, q6⟩ := HI.out
      rw [show s.data.toList.drop k = [] by rw [List.drop_eq_nil_iff, hlen]; omega, lnR_end] at q1
      have HQ := hideT q1
      have HP := hideT (And.intro q3 (show ItP W.heap.size L J done wr from ⟨q4, q5, q6⟩))
      clear q1 q3 q4 q5 q6 HI
      gi_wp2_with fail
      refine ⟨trivial, ?_⟩
      refine (callsIn_wide.2 (writeByte_any _ _ _ _ _ HP.out.1 (by rw [Lib.byteCells_length]; omega) (by have := HP.out.2.2.2; omega))).mono ?_
      rintro e w3 ⟨rfl, h3, hb3, hk3⟩
      have HP3 := hideT (And.intro (show Lib.IsBuilder 49 5 W.heap.size W.heap.size (Lib.byteCells (line ++ [36])) w3 from .inr (by rw [cells_app]; exact h3)) (HP.out.2.step hL hJ hJB hb3 hk3 (row_in (.inr h3))))
      clear h3 hb3 hk3
      gi_wp2_with fail
      refine ⟨trivial, ?_⟩
      refine (callsIn_wide.2 (string_keep _ _ _ _ HP3.out.1 (by simp) (by simp; omega))).mono ?_
      rintro e w4 ⟨rfl, hb4, hk4, hh4, -⟩
      have HP4 := hideT (HP3.out.2.step hL hJ hJB hb4 hk4 (HP3.out.2.same hb4 hh4))
      clear hb4 hk4 hh4
      obtain ⟨fn, tmps, assign, body, hy, hR⟩ := hY done (line ++ [36]) w4 HP4.out.2.1 ⟨[], by rw [HQ.out]; simp⟩
      generalize bst (line ++ [36]) = bl at *
      gi_wp2
      refine hR.mono ?_
      rintro e W5 (⟨rfl, hJ5, hK5⟩ | ⟨rfl, hJx5⟩)
      · have HJ5 := hideT hJ5
        clear hJ5 hK5
        gi_wp2
        go_end0
        exact ⟨⟨_, rfl⟩, .inl (by rw [HQ.out]; exact HJ5.out)⟩
      · have HJ5 := hideT hJx5
        clear hJx5
        gi_wp2
        go_end0
        exact ⟨⟨_, rfl⟩, .inr ⟨_, ⟨[], by rw [HQ.out]; simp⟩, HJ5.out⟩⟩

end Go.Proofs.YtiegmgcdfafhiaaDoor
