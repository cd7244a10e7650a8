/- bracket.Text: a set's one text, byte by byte: the mathematics. -/
import Derived.Test.YtemgfbidfdhanaaDoorKPlain
import Derived.Test.YtemgfbidfdhanaaDoorKDet
import Derived.RangeFuncNested
import Derived.RangeFuncBound
import Derived.RangeFuncCalls
import Derived.RangeFuncLeaves
import Derived.RangeFuncBox
import Derived.Shelf.Abstract
import Derived.WalkKit
import Derived.OwnWalkIn
import Derived.TacticsInMore
import Derived.LoopNIn
import Derived.LoopIn
import Derived.Maps.AppendAt
namespace Go.Proofs.YtemgfbidfdhanaaDoor

/-- One of the four bytes that are written as [.c.]. -/
def spec4 (b : Nat) : Bool := b == 93 || b == 94 || b == 45 || b == 91

/-- What is gathered, let out. -/
def flush (p : List Nat × List Nat) : List Nat := p.1 ++ (if p.2.length < 3 then p.2 else [p.2.headD 0, 45, p.2.getLastD 0])

/-- One byte more: what is written so far, and the run that is gathered. -/
def tstep (p : List Nat × List Nat) (b : Nat) : List Nat × List Nat :=
  if spec4 b then (flush p ++ [91, 46, b, 46, 93], [])
  else if p.2 = [] ∨ p.2.getLastD 0 + 1 = b then (p.1, p.2 ++ [b]) else (flush p, [b])

def textSt (l : List Nat) : List Nat × List Nat := l.foldl tstep ([91], [])
def textL (l : List Nat) : List Nat := if l = [] then [91, 94, 0, 45, 255, 93] else flush (textSt l) ++ [93]

theorem textSt_snoc (l : List Nat) (b : Nat) : textSt (l ++ [b]) = tstep (textSt l) b := by simp [textSt]
theorem textSt_take (l : List Nat) (k : Nat) (h : k < l.length) : textSt (l.take (k + 1)) = tstep (textSt (l.take k)) l[k] := by
  rw [List.take_succ_eq_append_getElem h, textSt_snoc]

theorem flush_nil (o : List Nat) : flush (o, []) = o := by simp [flush]

theorem tstep_special (p : List Nat × List Nat) (b : Nat) (h : spec4 b = true) : tstep p b = (flush p ++ [91, 46, b, 46, 93], []) := by simp [tstep, h]
theorem tstep_start (p : List Nat × List Nat) (b : Nat) (h : spec4 b = false) (hb : p.2 = [] ∨ ¬ p.2.getLastD 0 + 1 = b) : tstep p b = (flush p, [b]) := by
  obtain ⟨o, r⟩ := p
  rcases hb with hb | hb
  · simp only at hb
    subst hb
    simp [tstep, h, flush_nil]
  · by_cases hr : r = []
    · subst hr
      simp [tstep, h, flush_nil]
    · rw [tstep, if_neg (by simp [h]), if_neg (by rintro (x | x); exact hr x; exact hb x)]
theorem tstep_on (p : List Nat × List Nat) (b : Nat) (h : spec4 b = false) (hl : p.2.getLastD 0 + 1 = b) : tstep p b = (p.1, p.2 ++ [b]) := by
  rw [tstep, if_neg (by simp [h]), if_pos (.inr hl)]

theorem flush_len (p : List Nat × List Nat) : (flush p).length ≤ p.1.length + p.2.length := by
  obtain ⟨o, r⟩ := p
  unfold flush
  simp only [List.length_append]
  split
  · omega
  · simp; omega

theorem tstep_len (p : List Nat × List Nat) (b : Nat) : (tstep p b).1.length + (tstep p b).2.length ≤ p.1.length + p.2.length + 5 := by
  have h := flush_len p
  unfold tstep
  split
  · simp; omega
  · split
    · simp; omega
    · simp; omega

theorem textSt_len (l : List Nat) : (textSt l).1.length + (textSt l).2.length ≤ 1 + 5 * l.length := by
  suffices h : ∀ p : List Nat × List Nat, (l.foldl tstep p).1.length + (l.foldl tstep p).2.length ≤ p.1.length + p.2.length + 5 * l.length by
    have := h ([91], [])
    simpa [textSt, Nat.add_comm] using this
  induction l with
  | nil => intro p; simp
  | cons b l ih =>
    intro p
    have h1 := ih (tstep p b)
    have h2 := tstep_len p b
    simp only [List.foldl_cons, List.length_cons]
    omega

/-- The run ends with the byte read last, where there is one. -/
theorem textSt_run (l : List Nat) (b : Nat) (h : spec4 b = false) : (textSt (l ++ [b])).2 ≠ [] ∧ (textSt (l ++ [b])).2.getLastD 0 = b := by
  rw [textSt_snoc]
  unfold tstep
  rw [if_neg (by simp [h])]
  split <;> simp
end Go.Proofs.YtemgfbidfdhanaaDoor

/- Walks: Has. -/
namespace Go.Proofs.YtemgfbidfdhanaaDoor
open Go.RowKit

set_option maxHeartbeats 400000 in
theorem has0 (a b c d x : Int) (h0 : 0 ≤ x) (h1 : x < 256) (hq : x / 64 = 0) (w : World) :
    Calls Tryd.prog 47 #[.agg #[.int .u64 a, .int .u64 b, .int .u64 c, .int .u64 d], .int .u8 x] w fun e w' => e = .returned (.bool (bits .and .u64 (a / 2 ^ (x % 64).toNat) 1 == 1)) ∧ Below w.heap.size w w' := by
  go_enter Tryd.func47, Tryd.ntmps47
  go_wp2
  go_ret
  exact ⟨rfl, (Below.refl _ _).alloc (Nat.le_refl _) _⟩

set_option maxHeartbeats 400000 in
theorem has1 (a b c d x : Int) (h0 : 0 ≤ x) (h1 : x < 256) (hq : x / 64 = 1) (w : World) :
    Calls Tryd.prog 47 #[.agg #[.int .u64 a, .int .u64 b, .int .u64 c, .int .u64 d], .int .u8 x] w fun e w' => e = .returned (.bool (bits .and .u64 (b / 2 ^ (x % 64).toNat) 1 == 1)) ∧ Below w.heap.size w w' := by
  go_enter Tryd.func47, Tryd.ntmps47
  go_wp2
  go_ret
  exact ⟨rfl, (Below.refl _ _).alloc (Nat.le_refl _) _⟩

set_option maxHeartbeats 400000 in
theorem has2 (a b c d x : Int) (h0 : 0 ≤ x) (h1 : x < 256) (hq : x / 64 = 2) (w : World) :
    Calls Tryd.prog 47 #[.agg #[.int .u64 a, .int .u64 b, .int .u64 c, .int .u64 d], .int .u8 x] w fun e w' => e = .returned (.bool (bits .and .u64 (c / 2 ^ (x % 64).toNat) 1 == 1)) ∧ Below w.heap.size w w' := by
  go_enter Tryd.func47, Tryd.ntmps47
  go_wp2
  go_ret
  exact ⟨rfl, (Below.refl _ _).alloc (Nat.le_refl _) _⟩

set_option maxHeartbeats 400000 in
theorem has3 (a b c d x : Int) (h0 : 0 ≤ x) (h1 : x < 256) (hq : x / 64 = 3) (w : World) :
    Calls Tryd.prog 47 #[.agg #[.int .u64 a, .int .u64 b, .int .u64 c, .int .u64 d], .int .u8 x] w fun e w' => e = .returned (.bool (bits .and .u64 (d / 2 ^ (x % 64).toNat) 1 == 1)) ∧ Below w.heap.size w w' := by
  go_enter Tryd.func47, Tryd.ntmps47
  go_wp2
  go_ret
  exact ⟨rfl, (Below.refl _ _).alloc (Nat.le_refl _) _⟩

theorem has_any (p : Nat → Bool) (x : Int) (h0 : 0 ≤ x) (h1 : x < 256) (w : World) :
    Calls Tryd.prog 47 #[.agg #[.int .u64 (wd p 0 : Nat), .int .u64 (wd p 1 : Nat), .int .u64 (wd p 2 : Nat), .int .u64 (wd p 3 : Nat)], .int .u8 x] w fun e w' => e = .returned (.bool (p x.toNat)) ∧ Below w.heap.size w w' := by
  have hq : x / 64 = 0 ∨ x / 64 = 1 ∨ x / 64 = 2 ∨ x / 64 = 3 := by omega
  rcases hq with hq | hq | hq | hq
  · have hb : p x.toNat = (wd p 0).testBit (x.toNat % 64) := by rw [wd_testBit p 0 _ (by omega), show 64 * 0 + x.toNat % 64 = x.toNat by omega]
    rw [hb, ← and_bit (wd p 0) (wd_lt p 0) x h0]
    exact has0 _ _ _ _ x h0 h1 hq w
  · have hb : p x.toNat = (wd p 1).testBit (x.toNat % 64) := by rw [wd_testBit p 1 _ (by omega), show 64 * 1 + x.toNat % 64 = x.toNat by omega]
    rw [hb, ← and_bit (wd p 1) (wd_lt p 1) x h0]
    exact has1 _ _ _ _ x h0 h1 hq w
  · have hb : p x.toNat = (wd p 2).testBit (x.toNat % 64) := by rw [wd_testBit p 2 _ (by omega), show 64 * 2 + x.toNat % 64 = x.toNat by omega]
    rw [hb, ← and_bit (wd p 2) (wd_lt p 2) x h0]
    exact has2 _ _ _ _ x h0 h1 hq w
  · have hb : p x.toNat = (wd p 3).testBit (x.toNat % 64) := by rw [wd_testBit p 3 _ (by omega), show 64 * 3 + x.toNat % 64 = x.toNat by omega]
    rw [hb, ← and_bit (wd p 3) (wd_lt p 3) x h0]
    exact has3 _ _ _ _ x h0 h1 hq w

end Go.Proofs.YtemgfbidfdhanaaDoor

/- Walks: Members: the bytes of a set given one at a time, for every loop body that keeps what lay. -/
namespace Go.Proofs.YtemgfbidfdhanaaDoor
open Go.RowKit Go.Shelf

attribute [local go_sem] Oper.semAt_some

/-- Block b is a set's four words. -/
def Set4 (W : World) (b : Nat) (p : Nat → Bool) : Prop := W.heap[b]? = some (.cells #[.int .u64 (wd p 0 : Nat), .int .u64 (wd p 1 : Nat), .int .u64 (wd p 2 : Nat), .int .u64 (wd p 3 : Nat)] 24 (0, 0))

theorem Set4.lt {W : World} {b : Nat} {p : Nat → Bool} (h : Set4 W b p) : b < W.heap.size := (Array.getElem?_eq_some_iff.1 h).1
theorem Set4.holds {W : World} {b : Nat} {p : Nat → Bool} (h : Set4 W b p) : Holds4 W b p := by
  have h' : W.heap[b]? = _ := h
  simp [Holds4, World.cell?, World.frozen?, h']
theorem Set4.new (w : World) (p : Nat → Bool) : Set4 (w.alloc (.cells #[.int .u64 (wd p 0 : Nat), .int .u64 (wd p 1 : Nat), .int .u64 (wd p 2 : Nat), .int .u64 (wd p 3 : Nat)] 24)) w.heap.size p := World.alloc_heap_new w _
theorem Set4.below {W W' : World} {b : Nat} {p : Nat → Bool} (h : Set4 W b p) {B : Nat} (hb : Below B W W') (hlt : b < B) : Set4 W' b p := (hb.block b hlt).trans h

/-- What a round that goes on keeps: the one block. -/
def KeepAt (b : Nat) (W W' : World) : Prop := W.heap.size ≤ W'.heap.size ∧ W'.heap[b]? = W.heap[b]?
theorem KeepAt.refl (b : Nat) (W : World) : KeepAt b W W := ⟨Nat.le_refl _, rfl⟩
theorem keepAt_t {b : Nat} {A B C : World} (h : KeepAt b A B) (k : KeepAt b B C) : KeepAt b A C := ⟨Nat.le_trans h.1 k.1, k.2.trans h.2⟩
theorem keepAt_b {b : Nat} {w : World} (hb : b < w.heap.size) (W : World) (l : Nat) (o o' : Obj) (hl : w.heap.size ≤ l) (_ : W.heap[l]? = some o) (_ : o.isCells = false) (_ : o.isWalk = false) : KeepAt b W (W.putObj l o') :=
  ⟨by simp, World.putObj_heap_other (by omega)⟩
theorem Set4.keep {W W' : World} {b : Nat} {p : Nat → Bool} (h : Set4 W b p) (hk : KeepAt b W W') : Set4 W' b p := hk.2.trans h

theorem mem_prefix (p : Nat → Bool) {k m : Nat} (h : k ≤ m) : mem p k <+: mem p m := by
  unfold mem
  obtain ⟨d, rfl⟩ : ∃ d, m = k + d := ⟨m - k, by omega⟩
  rw [List.range_add, List.filter_append]
  exact List.prefix_append _ _

set_option maxRecDepth 100000 in
set_option maxHeartbeats 1000000 in
theorem iter_in (n : Nat) (hn : 1 ≤ n) (l Bn : Nat) (p : Nat → Bool) (J Jx : List Nat → World → Prop)
    (hY : ∀ pre (x : Nat) W, x < 256 → J pre W → pre.length < 256 → YieldAt Fence.wide (n - 1) Tryd.prog l #[.int .u8 (x : Nat)] W fun e W' =>
      (e = .returned (.bool true) ∧ J (pre ++ [x]) W' ∧ KeepAt Bn W W') ∨ (e = .returned (.bool false) ∧ Jx (pre ++ [x]) W'))
    (W : World) (hJ : AbidesFrom W.heap.size J) (hBn : Set4 W Bn p) (h0 : J [] W) :
    CallsIn Fence.wide n Tryd.prog 46 #[.func (.yield l) #[] #[], .pointer (some ⟨Bn, 0, none⟩)] W fun e W' => (∃ v, e = .returned v) ∧
      ((∃ ys, ys = mem p 256 ∧ J ys W') ∨ (∃ pre, pre <+: mem p 256 ∧ Jx pre W')) := by
  refine callsIn_of_wp Tryd.func46 rfl trivial ?_ rfl
  simp only [Tryd.ntmps46, List.size_toArray, List.length_cons, List.length_nil, Nat.reduceAdd, Nat.reduceSub, Array.replicate_succ, Array.replicate_zero, List.push_toArray, List.append_toArray, List.nil_append, List.cons_append]
  gi_wp2
  gi_loopw [3, 4] (fun _ i wr => ∃ k : Nat, k ≤ 256 ∧ i = .int .i64 k ∧ J (mem p k) wr ∧ Set4 wr Bn p ∧ W.heap.size ≤ wr.heap.size) (fun _ i _ => (256 - intOf i).toNat)
  case atStart => exact ⟨0, by omega, rfl, h0, hBn, Nat.le_refl _⟩
  case round =>
    obtain ⟨k, hk1, rfl, hJs, hp0, hsz⟩ := hrel
    by_cases hlt : k < 256
    · obtain ⟨⟨c0, c1, c2, c3⟩, -⟩ := hp0.holds
      gi_wp2_with fail
      refine ⟨trivial, ?_⟩
      refine (callsIn_wide.2 (has_any p k (by omega) (by omega) _)).mono ?_
      rintro e w1 ⟨rfl, hb1⟩
      clear c0 c1 c2 c3
      rw [Int.toNat_natCast]
      have hp1 := hp0.below hb1 hp0.lt
      have hJ1 : J (mem p k) w1 := hJ _ wr w1 none hJs ⟨hb1.os, hb1.tape, hb1.output, hb1.size, fun i hi _ => hb1.block i hi⟩ (fun r e => by cases e)
      have hsz1 := hb1.size
      have hms := mem_succ p k
      have hle := mem_le p k
      obtain ⟨b, hb⟩ : ∃ b, p k = b := ⟨_, rfl⟩
      rw [hb] at hms ⊢
      clear hb
      cases b
      · have HM : Hid _ := hms
        clear hms
        gi_wp2
        refine ⟨fun _ h => (by cases h), ?_⟩
        gi_wp2
        go_roundw
        case rel => exact ⟨k + 1, by omega, by go_num, by rw [HM.out]; exact hJ1, hp1, by omega⟩
        case measure => simp [intOf]; omega
      · obtain ⟨fn, tmps, assign, body, hy, hR⟩ := hY (mem p k) k w1 hlt hJ1 (by omega)
        have HM : Hid _ := hms
        have HL : Hid _ := hle
        clear hms hle
        gi_wp2
        refine hR.mono ?_
        rintro e W3 (⟨rfl, hJ3, hk3⟩ | ⟨rfl, hJx3⟩)
        · have hp3 := hp1.keep hk3
          have hsz3 := hk3.1
          gi_wp2
          go_roundw
          case rel => exact ⟨k + 1, by omega, by go_num, by rw [HM.out]; exact hJ3, hp3, by omega⟩
          case measure => simp [intOf]; omega
        · gi_wp2
          refine bodyPost_ret (results_none rfl _ _ _) rfl ?_
          refine ⟨⟨_, rfl⟩, .inr ⟨mem p k ++ [k], ?_, hJx3⟩⟩
          have e := HM.out
          simp only [if_true] at e
          rw [← e]
          exact mem_prefix p (by omega)
    · obtain rfl : k = 256 := by omega
      gi_wp2
      go_end0
      exact ⟨⟨_, rfl⟩, .inl ⟨_, rfl, hJs⟩⟩

set_option maxHeartbeats 1000000 in
theorem members_in (n : Nat) (p : Nat → Bool) (w : World) :
    CallsIn Fence.wide n Tryd.prog 34 #[.agg #[.int .u64 (wd p 0 : Nat), .int .u64 (wd p 1 : Nat), .int .u64 (wd p 2 : Nat), .int .u64 (wd p 3 : Nat)]] w fun e w' => e = .returned (.func (.func 46) #[] #[.pointer (some ⟨w.heap.size, 0, none⟩)]) ∧ w' = w.alloc (.cells #[.int .u64 (wd p 0 : Nat), .int .u64 (wd p 1 : Nat), .int .u64 (wd p 2 : Nat), .int .u64 (wd p 3 : Nat)] 24) := by
  refine callsIn_of_wp Tryd.func34 rfl trivial ?_ rfl
  simp only [Tryd.ntmps34, List.size_toArray, List.length_cons, List.length_nil, Nat.reduceAdd, Nat.reduceSub, Array.replicate_succ, Array.replicate_zero, List.push_toArray, List.append_toArray, List.nil_append, List.cons_append]
  gi_wp2
  go_ret
  exact ⟨rfl, rfl⟩

theorem iter_stops (n : Nat) (hn : 1 ≤ n) (Bn : Nat) (p : Nat → Bool) (w : World) (hBn : Set4 w Bn p) :
    SeqStopsK Fence.wide n Tryd.prog 46 #[.pointer (some ⟨Bn, 0, none⟩)] (fun x : Nat => #[Value.int .u8 (x : Nat)]) (KeepAt Bn) (fun ys => ys = mem p 256) (fun pre => pre <+: mem p 256) 256 w := fun l J Jx W hW hJ _ hY h0 =>
  iter_in n hn l Bn p J Jx (fun pre x W _ => hY pre x W) W hJ (hBn.below hW hBn.lt) h0

/-- The same, each byte given with its bound. -/
theorem iter_stopsF (n : Nat) (hn : 1 ≤ n) (Bn : Nat) (p : Nat → Bool) (w : World) (hBn : Set4 w Bn p) :
    SeqStopsK Fence.wide n Tryd.prog 46 #[.pointer (some ⟨Bn, 0, none⟩)] (fun x : Fin 256 => #[Value.int .u8 (x.val : Nat)]) (KeepAt Bn) (fun ys => ys.map Fin.val = mem p 256) (fun pre => pre.map Fin.val <+: mem p 256) 256 w := fun l J Jx W hW hJ _ hY h0 => by
  refine (iter_in n hn l Bn p (fun pre W => ∃ q : List (Fin 256), q.map Fin.val = pre ∧ J q W) (fun pre W => ∃ q : List (Fin 256), q.map Fin.val = pre ∧ Jx q W) ?_ W ?_ (hBn.below hW hBn.lt) ⟨[], rfl, h0⟩).mono ?_
  · rintro pre x W hx ⟨q, rfl, hq⟩ hl
    obtain ⟨fn, tmps, assign, body, hy, hR⟩ := hY q ⟨x, hx⟩ W hq (by simpa using hl)
    refine ⟨fn, tmps, assign, body, hy, hR.mono ?_⟩
    rintro e W' (⟨h1, h2, h3⟩ | ⟨h1, h2⟩)
    · exact .inl ⟨h1, ⟨_, by simp, h2⟩, h3⟩
    · exact .inr ⟨h1, ⟨_, by simp, h2⟩⟩
  · rintro s A B row ⟨q, rfl, hq⟩ hg hr
    exact ⟨q, rfl, hJ q A B row hq hg hr⟩
  · rintro e W' ⟨hv, ⟨ys, rfl, q, hq, hJ'⟩ | ⟨pre, hp, q, rfl, hJ'⟩⟩
    · exact ⟨hv, .inl ⟨q, hq, hJ'⟩⟩
    · exact ⟨hv, .inr ⟨q, hp, hJ'⟩⟩
end Go.Proofs.YtemgfbidfdhanaaDoor
