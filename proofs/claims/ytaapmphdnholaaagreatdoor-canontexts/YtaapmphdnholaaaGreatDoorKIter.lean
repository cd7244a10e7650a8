/- Walks: Has. -/
import Derived.Test.YtaapmphdnholaaaGreatDoorKPlain
import Derived.Test.YtaapmphdnholaaaGreatDoorKDet
import Derived.RangeFuncNested
import Derived.RangeFuncBound
import Derived.RangeFuncCalls
import Derived.RangeFuncLeaves
import Derived.RangeFuncBox
import Derived.Shelf.Abstract
import Derived.WalkKit
import Derived.OwnWalkIn
import Derived.TacticsInMore
import Derived.LoopNIn
import Derived.LoopIn
import Derived.Maps.AppendAt
set_option maxRecDepth 100000
set_option maxHeartbeats 1000000
namespace Go.Proofs.YtaapmphdnholaaaGreatDoor
open Go.RowKit
theorem has0 (a b c d x : Int) (h0 : 0 ≤ x) (h1 : x < 256) (hq : x / 64 = 0) (w : World) :
  Calls Tryz.prog 56 #[.agg #[.int .u64 a, .int .u64 b, .int .u64 c, .int .u64 d], .int .u8 x] w fun e w' => e = .returned (.bool (bits .and .u64 (a / 2 ^ (x % 64).toNat) 1 == 1)) ∧ Below w.heap.size w w' := by
 go_enter Tryz.func56, Tryz.ntmps56
 go_wp2
 go_ret
 exact ⟨rfl, (Below.refl _ _).alloc (Nat.le_refl _) _⟩
theorem has1 (a b c d x : Int) (h0 : 0 ≤ x) (h1 : x < 256) (hq : x / 64 = 1) (w : World) :
  Calls Tryz.prog 56 #[.agg #[.int .u64 a, .int .u64 b, .int .u64 c, .int .u64 d], .int .u8 x] w fun e w' => e = .returned (.bool (bits .and .u64 (b / 2 ^ (x % 64).toNat) 1 == 1)) ∧ Below w.heap.size w w' := by
 go_enter Tryz.func56, Tryz.ntmps56
 go_wp2
 go_ret
 exact ⟨rfl, (Below.refl _ _).alloc (Nat.le_refl _) _⟩
theorem has2 (a b c d x : Int) (h0 : 0 ≤ x) (h1 : x < 256) (hq : x / 64 = 2) (w : World) :
  Calls Tryz.prog 56 #[.agg #[.int .u64 a, .int .u64 b, .int .u64 c, .int .u64 d], .int .u8 x] w fun e w' => e = .returned (.bool (bits .and .u64 (c / 2 ^ (x % 64).toNat) 1 == 1)) ∧ Below w.heap.size w w' := by
 go_enter Tryz.func56, Tryz.ntmps56
 go_wp2
 go_ret
 exact ⟨rfl, (Below.refl _ _).alloc (Nat.le_refl _) _⟩
theorem has3 (a b c d x : Int) (h0 : 0 ≤ x) (h1 : x < 256) (hq : x / 64 = 3) (w : World) :
  Calls Tryz.prog 56 #[.agg #[.int .u64 a, .int .u64 b, .int .u64 c, .int .u64 d], .int .u8 x] w fun e w' => e = .returned (.bool (bits .and .u64 (d / 2 ^ (x % 64).toNat) 1 == 1)) ∧ Below w.heap.size w w' := by
 go_enter Tryz.func56, Tryz.ntmps56
 go_wp2
 go_ret
 exact ⟨rfl, (Below.refl _ _).alloc (Nat.le_refl _) _⟩
theorem has_any (p : Nat → Bool) (x : Int) (h0 : 0 ≤ x) (h1 : x < 256) (w : World) :
  Calls Tryz.prog 56 #[.agg #[.int .u64 (wd p 0), .int .u64 (wd p 1), .int .u64 (wd p 2), .int .u64 (wd p 3)], .int .u8 x] w fun e w' => e = .returned (.bool (p x.toNat)) ∧ Below w.heap.size w w' := by
 have hq : x / 64 = 0 ∨ x / 64 = 1 ∨ x / 64 = 2 ∨ x / 64 = 3 := by omega
 rcases hq with hq | hq | hq | hq
 ·have hb : p x.toNat = (wd p 0).testBit (x.toNat % 64) := by rw [xa5 p 0 _ (by omega), show 64 * 0 + x.toNat % 64 = x.toNat by omega]
  rw [hb, ← xem (wd p 0) (xcl p 0) x h0]
  exact has0 _ _ _ _ x h0 h1 hq w
 ·have hb : p x.toNat = (wd p 1).testBit (x.toNat % 64) := by rw [xa5 p 1 _ (by omega), show 64 * 1 + x.toNat % 64 = x.toNat by omega]
  rw [hb, ← xem (wd p 1) (xcl p 1) x h0]
  exact has1 _ _ _ _ x h0 h1 hq w
 ·have hb : p x.toNat = (wd p 2).testBit (x.toNat % 64) := by rw [xa5 p 2 _ (by omega), show 64 * 2 + x.toNat % 64 = x.toNat by omega]
  rw [hb, ← xem (wd p 2) (xcl p 2) x h0]
  exact has2 _ _ _ _ x h0 h1 hq w
 ·have hb : p x.toNat = (wd p 3).testBit (x.toNat % 64) := by rw [xa5 p 3 _ (by omega), show 64 * 3 + x.toNat % 64 = x.toNat by omega]
  rw [hb, ← xem (wd p 3) (xcl p 3) x h0]
  exact has3 _ _ _ _ x h0 h1 hq w
end Go.Proofs.YtaapmphdnholaaaGreatDoor
namespace Go.Proofs.YtaapmphdnholaaaGreatDoor
open Go.RowKit Go.Shelf
attribute [local go_sem] Oper.semAt_some
def Set4 (W : World) (b : Nat) (p : Nat → Bool) : Prop := W.heap[b]? = some (.cells #[.int .u64 (wd p 0), .int .u64 (wd p 1), .int .u64 (wd p 2), .int .u64 (wd p 3)] 33)
theorem Set4.lt {W : World} {b : Nat} {p : Nat → Bool} (h : Set4 W b p) : b < W.heap.size := (Array.getElem?_eq_some_iff.1 h).1
theorem Set4.holds {W : World} {b : Nat} {p : Nat → Bool} (h : Set4 W b p) : Holds4 W b p := by
 have h' : W.heap[b]? = _ := h
 simp [Holds4, World.cell?, World.frozen?, h']
theorem Set4.new (w : World) (p : Nat → Bool) : Set4 (w.alloc (.cells #[.int .u64 (wd p 0), .int .u64 (wd p 1), .int .u64 (wd p 2), .int .u64 (wd p 3)] 33)) w.heap.size p := World.alloc_heap_new w _
theorem Set4.below {W W' : World} {b : Nat} {p : Nat → Bool} (h : Set4 W b p) {B : Nat} (hb : Below B W W') (hlt : b < B) : Set4 W' b p := (hb.block b hlt).trans h
def KeepAt (b : Nat) (W W' : World) : Prop := W.heap.size ≤ W'.heap.size ∧ W'.heap[b]? = W.heap[b]?
theorem KeepAt.refl (b : Nat) (W : World) : KeepAt b W W := ⟨Nat.le_refl _, rfl⟩
theorem xjt {b : Nat} {A B C : World} (h : KeepAt b A B) (k : KeepAt b B C) : KeepAt b A C := ⟨Nat.le_trans h.1 k.1, k.2.trans h.2⟩
theorem xoi {b : Nat} {w : World} (hb : b < w.heap.size) (W : World) (l : Nat) (o o' : Obj) (hl : w.heap.size ≤ l) (_ : W.heap[l]? = some o) (_ : o.isCells = false) (_ : o.isWalk = false) : KeepAt b W (W.putObj l o') :=
 ⟨by simp, World.putObj_heap_other (by omega)⟩
theorem Set4.keep {W W' : World} {b : Nat} {p : Nat → Bool} (h : Set4 W b p) (hk : KeepAt b W W') : Set4 W' b p := hk.2.trans h
theorem xpw (p : Nat → Bool) {k m : Nat} (h : k ≤ m) : mem p k <+: mem p m := by
 unfold mem
 obtain ⟨d, rfl⟩ : ∃ d, m = k + d := ⟨m - k, by omega⟩
 rw [List.range_add, List.filter_append]
 exact List.prefix_append _ _
theorem iter_in (n : Nat) (hn : 1 ≤ n) (l Bn : Nat) (p : Nat → Bool) (J Jx : List Nat → World → Prop)
  (hY : ∀ pre (x : Nat) W, x < 256 → J pre W → pre.length < 256 → YieldAt Fence.wide (n - 1) Tryz.prog l #[.int .u8 x] W fun e W' =>
   (e = .returned (.bool true) ∧ J (pre ++ [x]) W' ∧ KeepAt Bn W W') ∨ (e = .returned (.bool false) ∧ Jx (pre ++ [x]) W'))
  (W : World) (hJ : AbidesFrom W.heap.size J) (hBn : Set4 W Bn p) (h0 : J [] W) :
  CallsIn Fence.wide n Tryz.prog 55 #[.func (.yield l) #[] #[], .pointer (some ⟨Bn, 0, none⟩)] W fun e W' => (∃ v, e = .returned v) ∧
   ((∃ ys, ys = mem p 256 ∧ J ys W') ∨ (∃ pre, pre <+: mem p 256 ∧ Jx pre W')) := by
 refine callsIn_of_wp Tryz.func55 rfl trivial ?_ rfl
 simp only [Tryz.ntmps55, List.size_toArray, List.length_cons, List.length_nil, Nat.reduceAdd, Nat.reduceSub, Array.replicate_succ, Array.replicate_zero, List.push_toArray, List.append_toArray, List.nil_append, List.cons_append]
 gi_wp2
 gi_loopw [3, 4] (fun _ i wr => ∃ k : Nat, k ≤ 256 ∧ i = .int .i64 k ∧ J (mem p k) wr ∧ Set4 wr Bn p ∧ W.heap.size ≤ wr.heap.size) (fun _ i _ => (256 - intOf i).toNat)
 case atStart => exact ⟨0, by omega, rfl, h0, hBn, Nat.le_refl _⟩
 case round =>
  obtain ⟨k, hk1, rfl, hJs, hp0, hsz⟩ := hrel
  by_cases hlt : k < 256
  ·obtain ⟨⟨c0, c1, c2, c3⟩, -⟩ := hp0.holds
   gi_wp2_with fail
   refine ⟨trivial, ?_⟩
   refine (callsIn_wide.2 (has_any p k (by omega) (by omega) _)).mono ?_
   rintro e w1 ⟨rfl, hb1⟩
   clear c0 c1 c2 c3
   rw [Int.toNat_natCast]
   have hp1 := hp0.below hb1 hp0.lt
   have hJ1 : J (mem p k) w1 := hJ _ wr w1 none hJs ⟨hb1.os, hb1.tape, hb1.output, hb1.size, fun i hi _ => hb1.block i hi⟩ (fun r e => by cases e)
   have hsz1 := hb1.size
   have hms := xob p k
   have hle := xoc p k
   obtain ⟨b, hb⟩ : ∃ b, p k = b := ⟨_, rfl⟩
   rw [hb] at hms ⊢
   clear hb
   cases b
   ·have HM : Hid _ := hms
    clear hms
    gi_wp2
    refine ⟨fun _ h => (by cases h), ?_⟩
    gi_wp2
    go_roundw
    case rel => exact ⟨k + 1, by omega, by go_num, by rw [HM.out]; exact hJ1, hp1, by omega⟩
    case measure => simp [intOf]; omega
   ·obtain ⟨fn, tmps, assign, body, hy, hR⟩ := hY (mem p k) k w1 hlt hJ1 (by omega)
    have HM : Hid _ := hms
    have HL : Hid _ := hle
    clear hms hle
    gi_wp2
    refine hR.mono ?_
    rintro e W3 (⟨rfl, hJ3, hk3⟩ | ⟨rfl, hJx3⟩)
    ·have hp3 := hp1.keep hk3
     have hsz3 := hk3.1
     gi_wp2
     go_roundw
     case rel => exact ⟨k + 1, by omega, by go_num, by rw [HM.out]; exact hJ3, hp3, by omega⟩
     case measure => simp [intOf]; omega
    ·gi_wp2
     refine bodyPost_ret (results_none rfl _ _ _) rfl ?_
     refine ⟨⟨_, rfl⟩, .inr ⟨mem p k ++ [k], ?_, hJx3⟩⟩
     have e := HM.out
     simp only [if_true] at e
     rw [← e]
     exact xpw p (by omega)
  ·obtain rfl : k = 256 := by omega
   gi_wp2
   go_end0
   exact ⟨⟨_, rfl⟩, .inl ⟨_, rfl, hJs⟩⟩
theorem xi4 (n : Nat) (p : Nat → Bool) (w : World) :
  CallsIn Fence.wide n Tryz.prog 34 #[.agg #[.int .u64 (wd p 0), .int .u64 (wd p 1), .int .u64 (wd p 2), .int .u64 (wd p 3)]] w fun e w' => e = .returned (.func (.func 55) #[] #[.pointer (some ⟨w.heap.size, 0, none⟩)]) ∧ w' = w.alloc (.cells #[.int .u64 (wd p 0), .int .u64 (wd p 1), .int .u64 (wd p 2), .int .u64 (wd p 3)] 33) := by
 refine callsIn_of_wp Tryz.func34 rfl trivial ?_ rfl
 simp only [Tryz.ntmps34, List.size_toArray, List.length_cons, List.length_nil, Nat.reduceAdd, Nat.reduceSub, Array.replicate_succ, Array.replicate_zero, List.push_toArray, List.append_toArray, List.nil_append, List.cons_append]
 gi_wp2
 go_ret
 exact ⟨rfl, rfl⟩
theorem xhi (n : Nat) (hn : 1 ≤ n) (Bn : Nat) (p : Nat → Bool) (w : World) (hBn : Set4 w Bn p) :
  SeqStopsK Fence.wide n Tryz.prog 55 #[.pointer (some ⟨Bn, 0, none⟩)] (fun x : Fin 256 => #[Value.int .u8 (x.val : Nat)]) (KeepAt Bn) (fun ys => ys.map Fin.val = mem p 256) (fun pre => pre.map Fin.val <+: mem p 256) 256 w := fun l J Jx W hW hJ _ hY h0 => by
 refine (iter_in n hn l Bn p (fun pre W => ∃ q : List (Fin 256), q.map Fin.val = pre ∧ J q W) (fun pre W => ∃ q : List (Fin 256), q.map Fin.val = pre ∧ Jx q W) ?_ W ?_ (hBn.below hW hBn.lt) ⟨[], rfl, h0⟩).mono ?_
 ·rintro pre x W hx ⟨q, rfl, hq⟩ hl
  obtain ⟨fn, tmps, assign, body, hy, hR⟩ := hY q ⟨x, hx⟩ W hq (by simpa using hl)
  refine ⟨fn, tmps, assign, body, hy, hR.mono ?_⟩
  rintro e W' (⟨h1, h2, h3⟩ | ⟨h1, h2⟩)
  ·exact .inl ⟨h1, ⟨_, by simp, h2⟩, h3⟩
  ·exact .inr ⟨h1, ⟨_, by simp, h2⟩⟩
 ·rintro s A B row ⟨q, rfl, hq⟩ hg hr
  exact ⟨q, rfl, hJ q A B row hq hg hr⟩
 ·rintro e W' ⟨hv, ⟨ys, rfl, q, hq, hJ'⟩ | ⟨pre, hp, q, rfl, hJ'⟩⟩
  ·exact ⟨hv, .inl ⟨q, hq, hJ'⟩⟩
  ·exact ⟨hv, .inr ⟨q, hp, hJ'⟩⟩
end Go.Proofs.YtaapmphdnholaaaGreatDoor
namespace Go.Proofs.YtaapmphdnholaaaGreatDoor
def xfa (b : Nat) : Bool := b == 93 || b == 94 || b == 45 || b == 91
def flush (p : List Nat × List Nat) : List Nat := p.1 ++ (if p.2.length < 3 then p.2 else [p.2.headD 0, 45, p.2.getLastD 0])
def tstep (p : List Nat × List Nat) (b : Nat) : List Nat × List Nat :=
 if xfa b then (flush p ++ [91, 46, b, 46, 93], [])
 else if p.2 = [] ∨ p.2.getLastD 0 + 1 = b then (p.1, p.2 ++ [b]) else (flush p, [b])
def xfd (l : List Nat) : List Nat × List Nat := l.foldl tstep ([91], [])
def xde (l : List Nat) : List Nat := if l = [] then [91, 94, 0, 45, 255, 93] else flush (xfd l) ++ [93]
theorem xeb (p : List Nat × List Nat) : (flush p).length ≤ p.1.length + p.2.length := by
 obtain ⟨o, r⟩ := p
 unfold flush
 simp only [List.length_append]
 split
 ·omega
 ·simp; omega
theorem xrj (p : List Nat × List Nat) (b : Nat) : (tstep p b).1.length + (tstep p b).2.length ≤ p.1.length + p.2.length + 5 := by
 have h := xeb p
 unfold tstep
 split
 ·simp; omega
 ·split
  ·simp; omega
  ·simp; omega
theorem xpx (l : List Nat) : (xfd l).1.length + (xfd l).2.length ≤ 1 + 5 * l.length := by
 suffices h : ∀ p : List Nat × List Nat, (l.foldl tstep p).1.length + (l.foldl tstep p).2.length ≤ p.1.length + p.2.length + 5 * l.length by
  have := h ([91], [])
  simpa [xfd, Nat.add_comm] using this
 induction l with
 | nil => intro p; simp
 | cons b l ih =>
  intro p
  have h1 := ih (tstep p b)
  have h2 := xrj p b
  simp only [List.foldl_cons, List.length_cons]
  omega
end Go.Proofs.YtaapmphdnholaaaGreatDoor
