/- reach: Members, one at a time, each only where it is a member. -/
import Derived.Test.YtiedliahmjiadaaKTk
import Derived.Test.YtiedliahmjiadaaKIa
import Derived.Test.YtiedliahmjiadaaKIter
import Derived.Test.YtiedliahmjiadaaKPt
import Derived.Test.YtiedliahmjiadaaKGf
import Derived.OrdersIn
import Derived.OrdersHeld
set_option maxRecDepth 100000
set_option maxHeartbeats 1000000
namespace Go.Proofs.Ytiedliahmjiadaa
open Go.RowKit Go.Shelf
attribute [local go_sem] Oper.semAt_some
def mr (p : Nat → Bool) (k : Nat) : List Nat := (List.range' k (256 - k)).filter p
theorem mr_step (p : Nat → Bool) {k : Nat} (h : k < 256) : mr p k = if p k then k :: mr p (k + 1) else mr p (k + 1) := by
 unfold mr
 rw [show 256 - k = (256 - (k + 1)) + 1 by omega, List.range'_succ, List.filter_cons]
theorem mr_end (p : Nat → Bool) : mr p 256 = [] := rfl
theorem mr_head {p : Nat → Bool} : ∀ (d k : Nat), 256 - k = d → k ≤ 256 → ∀ {x : Nat} {l : List Nat}, mr p k = x :: l → k ≤ x ∧ x < 256 ∧ p x = true ∧ l = mr p (x + 1) ∧ ∀ y, k ≤ y → y < x → p y = false
 | 0, k, hd, hk, x, l, h => by
  obtain rfl : k = 256 := by omega
  rw [mr_end] at h
  cases h
 | d + 1, k, hd, hk, x, l, h => by
  rw [mr_step p (by omega)] at h
  by_cases hp : p k = true
  ·rw [if_pos hp] at h
   injection h with h1 h2
   subst h1
   exact ⟨Nat.le_refl _, by omega, hp, h2.symm, fun y h3 h4 => by omega⟩
  ·rw [if_neg hp] at h
   obtain ⟨h1, h2, h3, h4, h5⟩ := mr_head d (k + 1) (by omega) (by omega) h
   refine ⟨by omega, h2, h3, h4, fun y h6 h7 => ?_⟩
   by_cases e : y = k
   ·subst e; simpa using hp
   ·exact h5 y (by omega) h7
theorem mr_nil {p : Nat → Bool} : ∀ (d k : Nat), 256 - k = d → k ≤ 256 → mr p k = [] → ∀ y, k ≤ y → y < 256 → p y = false
 | 0, k, hd, hk, h, y, h1, h2 => by omega
 | d + 1, k, hd, hk, h, y, h1, h2 => by
  rw [mr_step p (by omega)] at h
  by_cases hp : p k = true
  ·rw [if_pos hp] at h; cases h
  ·rw [if_neg hp] at h
   by_cases e : y = k
   ·subst e; simpa using hp
   ·exact mr_nil d (k + 1) (by omega) (by omega) h y (by omega) h2
theorem members_feed (n : Nat) (hn : 1 ≤ n) (p : Nat → Bool) (Bn : Nat) (w : World) (hBn : Set4 w Bn p) :
  Feeds n Try.prog 60 #[.pointer (some ⟨Bn, 0, none⟩)] (fun l : List Nat => #[Value.int .u8 (l.headD 0 : Nat)]) (fun l => l ≠ []) List.tail (KeepAt Bn) (mr p 0) w := by
 intro l J Jx W hW hJ hY h0
 show CallsIn Fence.wide n Try.prog 60 #[.func (.yield l) #[] #[], .pointer (some ⟨Bn, 0, none⟩)] W _
 have hB0 := hBn.below hW hBn.lt
 refine callsIn_of_wp Try.func60 rfl trivial ?_ rfl
 simp only [Try.ntmps60, List.size_toArray, List.length_cons, List.length_nil, Nat.reduceAdd, Nat.reduceSub, Array.replicate_succ, Array.replicate_zero, List.push_toArray, List.append_toArray, List.nil_append, List.cons_append]
 gi_wp2
 gi_loopw [3, 4] (fun _ i wr => ∃ k : Nat, k ≤ 256 ∧ i = .int .i64 k ∧ J (mr p k) wr ∧ Set4 wr Bn p ∧ W.heap.size ≤ wr.heap.size) (fun _ i _ => (256 - intOf i).toNat)
 case atStart => exact ⟨0, by omega, rfl, h0, hB0, Nat.le_refl _⟩
 case round =>
  obtain ⟨k, hk1, rfl, hJs, hp0, hsz⟩ := hrel
  by_cases hlt : k < 256
  ·obtain ⟨⟨c0, c1, c2, c3⟩, -⟩ := hp0.holds
   gi_wp2_with fail
   refine ⟨trivial, ?_⟩
   refine (callsIn_wide.2 (has_any p k (by omega) (by omega) _)).mono ?_
   rintro e w1 ⟨rfl, hb1⟩
   clear c0 c1 c2 c3
   rw [Int.toNat_natCast]
   have hp1 := hp0.below hb1 hp0.lt
   have hJ1 : J (mr p k) w1 := hJ _ wr w1 none hJs ⟨hb1.os, hb1.tape, hb1.output, hb1.size, fun i hi _ => hb1.block i hi⟩ (fun r e => by cases e)
   have hsz1 := hb1.size
   have hms := mr_step p hlt
   obtain ⟨b, hb⟩ : ∃ b, p k = b := ⟨_, rfl⟩
   rw [hb] at hms ⊢
   clear hb
   cases b
   ·have HM : Hid _ := hms
    clear hms
    gi_wp2
    refine ⟨fun _ h => (by cases h), ?_⟩
    gi_wp2
    go_roundw
    case rel => exact ⟨k + 1, by omega, by go_num, by have e := HM.out; simp only [Bool.false_eq_true, if_false] at e; rw [← e]; exact hJ1, hp1, by omega⟩
    case measure => simp [intOf]; omega
   ·simp only [if_true] at hms
    rw [hms] at hJ1
    obtain ⟨fn, tmps, assign, body, hy, hR⟩ := hY (k :: mr p (k + 1)) w1 (by simp) hJ1
    simp only [List.headD_cons, List.tail_cons] at hy hR
    have HM : Hid _ := hms
    clear hms
    gi_wp2
    refine hR.mono ?_
    rintro e W3 (⟨rfl, hJ3, hk3⟩ | ⟨rfl, hJx3⟩)
    ·have hp3 := hp1.keep hk3
     have hsz3 := hk3.1
     gi_wp2
     go_roundw
     case rel => exact ⟨k + 1, by omega, by go_num, hJ3, hp3, by omega⟩
     case measure => simp [intOf]; omega
    ·gi_wp2
     refine bodyPost_ret (results_none rfl _ _ _) rfl ?_
     exact ⟨⟨_, rfl⟩, .inr ⟨_, hJx3⟩⟩
  ·obtain rfl : k = 256 := by omega
   gi_wp2
   go_end0
   exact ⟨⟨_, rfl⟩, .inl ⟨mr p 256, by simp [mr_end], hJs⟩⟩
theorem keepAt_put {b : Nat} {w : World} (hb : b < w.heap.size) (W : World) (l : Nat) (o o' : Obj) (hl : w.heap.size ≤ l) (_ : W.heap[l]? = some o) (_ : o.isCells = false) : KeepAt b W (W.putObj l o') :=
 ⟨by simp, World.putObj_heap_other (by omega)⟩
end Go.Proofs.Ytiedliahmjiadaa
namespace Go.Proofs.Ytiedliahmjiadaa
open Go.RowKit
theorem wd_noB (i : Nat) : wd noB i = 0 := wd_none i
theorem empty_any (w : World) : Calls Try.prog 58 #[] w fun e w' => e = .returned (partV emB) ∧ Below w.heap.size w w' := by
 have hV : partV emB = .agg #[.bool true, .int .u64 0, .int .u64 0, .int .u64 0, .int .u64 0, .int .u64 0, .int .u64 0, .int .u64 0, .int .u64 0, .bool true, .int .u64 0, .int .u64 0, .int .u64 0, .int .u64 0, .int .u64 0, .int .u64 0, .int .u64 0, .int .u64 0, .bool true, .int .u64 0, .int .u64 0, .int .u64 0, .int .u64 0, .int .u64 0, .int .u64 0, .int .u64 0, .int .u64 0, .bool true, .int .u64 0, .int .u64 0, .int .u64 0, .int .u64 0, .int .u64 0, .int .u64 0, .int .u64 0, .int .u64 0] := by simp [partV, paV, bdV, emB, wd_noB]
 rw [hV]
 have HC := hideT (fun W => optional_cells false false false false 0 0 0 0 0 0 0 0 0 0 0 0 0 0 0 0 0 0 0 0 0 0 0 0 0 0 0 0 0 0 0 0 W)
 go_enter Try.func58, Try.ntmps58
 go_wp2_with fail
 refine (HC.out _).mono ?_
 rintro e w1 ⟨rfl, hb⟩
 rename_i K1 hK1 K2 hK2
 refine hK2 _ _ ?_
 have h0 : w1.heap[w.heap.size]? = some (.cells [.bool false, .int .u64 0, .int .u64 0, .int .u64 0, .int .u64 0, .int .u64 0, .int .u64 0, .int .u64 0, .int .u64 0, .bool false, .int .u64 0, .int .u64 0, .int .u64 0, .int .u64 0, .int .u64 0, .int .u64 0, .int .u64 0, .int .u64 0, .bool false, .int .u64 0, .int .u64 0, .int .u64 0, .int .u64 0, .int .u64 0, .int .u64 0, .int .u64 0, .int .u64 0, .bool false, .int .u64 0, .int .u64 0, .int .u64 0, .int .u64 0, .int .u64 0, .int .u64 0, .int .u64 0, .int .u64 0].toArray 81 (0, 0)) := (hb.block _ (by simp)).trans (heap_alloc_new w _)
 refine store_part (b := w.heap.size) (cs := [.bool true, .int .u64 0, .int .u64 0, .int .u64 0, .int .u64 0, .int .u64 0, .int .u64 0, .int .u64 0, .int .u64 0, .bool true, .int .u64 0, .int .u64 0, .int .u64 0, .int .u64 0, .int .u64 0, .int .u64 0, .int .u64 0, .int .u64 0, .bool true, .int .u64 0, .int .u64 0, .int .u64 0, .int .u64 0, .int .u64 0, .int .u64 0, .int .u64 0, .int .u64 0, .bool true, .int .u64 0, .int .u64 0, .int .u64 0, .int .u64 0, .int .u64 0, .int .u64 0, .int .u64 0, .int .u64 0]) (zs := [.bool false, .int .u64 0, .int .u64 0, .int .u64 0, .int .u64 0, .int .u64 0, .int .u64 0, .int .u64 0, .int .u64 0, .bool false, .int .u64 0, .int .u64 0, .int .u64 0, .int .u64 0, .int .u64 0, .int .u64 0, .int .u64 0, .int .u64 0, .bool false, .int .u64 0, .int .u64 0, .int .u64 0, .int .u64 0, .int .u64 0, .int .u64 0, .int .u64 0, .int .u64 0, .bool false, .int .u64 0, .int .u64 0, .int .u64 0, .int .u64 0, .int .u64 0, .int .u64 0, .int .u64 0, .int .u64 0]) rfl rfl rfl rfl h0 rfl rfl (by simp [Value.oneCell']) ?_
 exact ret_of (b := w.heap.size) rfl hK1 rfl (setCells_whole _ h0 rfl) rfl rfl rfl ⟨rfl, below_setCells _ (Nat.le_refl _) _ _ _ (((Below.refl _ _).alloc (Nat.le_refl _) _).trans (hb.mono (by simp)))⟩
theorem anchor_bol (w : World) : Calls Try.prog 56 #[.int .i64 1] w fun e w' => e = .returned (partV (fun k => ⟨decide (k % 2 = 1), noB, noB⟩)) ∧ Below w.heap.size w w' := by
 have hV : partV (fun k => ⟨decide (k % 2 = 1), noB, noB⟩) = .agg #[.bool false, .int .u64 0, .int .u64 0, .int .u64 0, .int .u64 0, .int .u64 0, .int .u64 0, .int .u64 0, .int .u64 0, .bool true, .int .u64 0, .int .u64 0, .int .u64 0, .int .u64 0, .int .u64 0, .int .u64 0, .int .u64 0, .int .u64 0, .bool false, .int .u64 0, .int .u64 0, .int .u64 0, .int .u64 0, .int .u64 0, .int .u64 0, .int .u64 0, .int .u64 0, .bool true, .int .u64 0, .int .u64 0, .int .u64 0, .int .u64 0, .int .u64 0, .int .u64 0, .int .u64 0, .int .u64 0] := by simp [partV, paV, bdV, wd_noB]
 rw [hV]
 go_enter Try.func56, Try.ntmps56
 go_wp2
 refine wp_loop_rounds 5 ?_
 rw [rounds_succ]; go_wp2
 rw [rounds_succ]; go_wp2
 rw [rounds_succ]; go_wp2
 rw [rounds_succ]; go_wp2
 rw [rounds_succ]; go_upto_region 7 with fail
 refine ret_part (b := w.heap.size + 1) (b' := w.heap.size) (cs := [.bool false, .int .u64 0, .int .u64 0, .int .u64 0, .int .u64 0, .int .u64 0, .int .u64 0, .int .u64 0, .int .u64 0, .bool true, .int .u64 0, .int .u64 0, .int .u64 0, .int .u64 0, .int .u64 0, .int .u64 0, .int .u64 0, .int .u64 0, .bool false, .int .u64 0, .int .u64 0, .int .u64 0, .int .u64 0, .int .u64 0, .int .u64 0, .int .u64 0, .int .u64 0, .bool true, .int .u64 0, .int .u64 0, .int .u64 0, .int .u64 0, .int .u64 0, .int .u64 0, .int .u64 0, .int .u64 0]) (zs := [.bool false, .int .u64 0, .int .u64 0, .int .u64 0, .int .u64 0, .int .u64 0, .int .u64 0, .int .u64 0, .int .u64 0, .bool false, .int .u64 0, .int .u64 0, .int .u64 0, .int .u64 0, .int .u64 0, .int .u64 0, .int .u64 0, .int .u64 0, .bool false, .int .u64 0, .int .u64 0, .int .u64 0, .int .u64 0, .int .u64 0, .int .u64 0, .int .u64 0, .int .u64 0, .bool false, .int .u64 0, .int .u64 0, .int .u64 0, .int .u64 0, .int .u64 0, .int .u64 0, .int .u64 0, .int .u64 0]) rfl (by assumption) rfl rfl (by decide) rfl ?_ ?_ rfl rfl (by simp [Value.oneCell']) rfl rfl ⟨rfl, ?_⟩
 ·have h := heap_alloc_new (w.alloc (.cells #[.bool false, .int .u64 0, .int .u64 0, .int .u64 0, .int .u64 0, .int .u64 0, .int .u64 0, .int .u64 0, .int .u64 0, .bool false, .int .u64 0, .int .u64 0, .int .u64 0, .int .u64 0, .int .u64 0, .int .u64 0, .int .u64 0, .int .u64 0, .bool false, .int .u64 0, .int .u64 0, .int .u64 0, .int .u64 0, .int .u64 0, .int .u64 0, .int .u64 0, .int .u64 0, .bool false, .int .u64 0, .int .u64 0, .int .u64 0, .int .u64 0, .int .u64 0, .int .u64 0, .int .u64 0, .int .u64 0] 81)) (.cells #[.bool false, .int .u64 0, .int .u64 0, .int .u64 0, .int .u64 0, .int .u64 0, .int .u64 0, .int .u64 0, .int .u64 0, .bool true, .int .u64 0, .int .u64 0, .int .u64 0, .int .u64 0, .int .u64 0, .int .u64 0, .int .u64 0, .int .u64 0, .bool false, .int .u64 0, .int .u64 0, .int .u64 0, .int .u64 0, .int .u64 0, .int .u64 0, .int .u64 0, .int .u64 0, .bool true, .int .u64 0, .int .u64 0, .int .u64 0, .int .u64 0, .int .u64 0, .int .u64 0, .int .u64 0, .int .u64 0] 81)
  rw [World.size_alloc] at h
  exact h
 ·exact (Below.heap_alloc _ _ _ (by simp)).trans (heap_alloc_new w _)
 ·exact below_setCells _ (by omega) _ _ _ (((Below.refl _ _).alloc (Nat.le_refl _) _).alloc (by simp) _)
theorem anchor_eol (w : World) : Calls Try.prog 56 #[.int .i64 2] w fun e w' => e = .returned (partV (fun k => ⟨decide (2 ≤ k), noB, noB⟩)) ∧ Below w.heap.size w w' := by
 have hV : partV (fun k => ⟨decide (2 ≤ k), noB, noB⟩) = .agg #[.bool false, .int .u64 0, .int .u64 0, .int .u64 0, .int .u64 0, .int .u64 0, .int .u64 0, .int .u64 0, .int .u64 0, .bool false, .int .u64 0, .int .u64 0, .int .u64 0, .int .u64 0, .int .u64 0, .int .u64 0, .int .u64 0, .int .u64 0, .bool true, .int .u64 0, .int .u64 0, .int .u64 0, .int .u64 0, .int .u64 0, .int .u64 0, .int .u64 0, .int .u64 0, .bool true, .int .u64 0, .int .u64 0, .int .u64 0, .int .u64 0, .int .u64 0, .int .u64 0, .int .u64 0, .int .u64 0] := by simp [partV, paV, bdV, wd_noB]
 rw [hV]
 go_enter Try.func56, Try.ntmps56
 go_wp2
 refine wp_loop_rounds 5 ?_
 rw [rounds_succ]; go_wp2
 rw [rounds_succ]; go_wp2
 rw [rounds_succ]; go_wp2
 rw [rounds_succ]; go_wp2
 rw [rounds_succ]; go_upto_region 7 with fail
 refine ret_part (b := w.heap.size + 1) (b' := w.heap.size) (cs := [.bool false, .int .u64 0, .int .u64 0, .int .u64 0, .int .u64 0, .int .u64 0, .int .u64 0, .int .u64 0, .int .u64 0, .bool false, .int .u64 0, .int .u64 0, .int .u64 0, .int .u64 0, .int .u64 0, .int .u64 0, .int .u64 0, .int .u64 0, .bool true, .int .u64 0, .int .u64 0, .int .u64 0, .int .u64 0, .int .u64 0, .int .u64 0, .int .u64 0, .int .u64 0, .bool true, .int .u64 0, .int .u64 0, .int .u64 0, .int .u64 0, .int .u64 0, .int .u64 0, .int .u64 0, .int .u64 0]) (zs := [.bool false, .int .u64 0, .int .u64 0, .int .u64 0, .int .u64 0, .int .u64 0, .int .u64 0, .int .u64 0, .int .u64 0, .bool false, .int .u64 0, .int .u64 0, .int .u64 0, .int .u64 0, .int .u64 0, .int .u64 0, .int .u64 0, .int .u64 0, .bool false, .int .u64 0, .int .u64 0, .int .u64 0, .int .u64 0, .int .u64 0, .int .u64 0, .int .u64 0, .int .u64 0, .bool false, .int .u64 0, .int .u64 0, .int .u64 0, .int .u64 0, .int .u64 0, .int .u64 0, .int .u64 0, .int .u64 0]) rfl (by assumption) rfl rfl (by decide) rfl ?_ ?_ rfl rfl (by simp [Value.oneCell']) rfl rfl ⟨rfl, ?_⟩
 ·have h := heap_alloc_new (w.alloc (.cells #[.bool false, .int .u64 0, .int .u64 0, .int .u64 0, .int .u64 0, .int .u64 0, .int .u64 0, .int .u64 0, .int .u64 0, .bool false, .int .u64 0, .int .u64 0, .int .u64 0, .int .u64 0, .int .u64 0, .int .u64 0, .int .u64 0, .int .u64 0, .bool false, .int .u64 0, .int .u64 0, .int .u64 0, .int .u64 0, .int .u64 0, .int .u64 0, .int .u64 0, .int .u64 0, .bool false, .int .u64 0, .int .u64 0, .int .u64 0, .int .u64 0, .int .u64 0, .int .u64 0, .int .u64 0, .int .u64 0] 81)) (.cells #[.bool false, .int .u64 0, .int .u64 0, .int .u64 0, .int .u64 0, .int .u64 0, .int .u64 0, .int .u64 0, .int .u64 0, .bool false, .int .u64 0, .int .u64 0, .int .u64 0, .int .u64 0, .int .u64 0, .int .u64 0, .int .u64 0, .int .u64 0, .bool true, .int .u64 0, .int .u64 0, .int .u64 0, .int .u64 0, .int .u64 0, .int .u64 0, .int .u64 0, .int .u64 0, .bool true, .int .u64 0, .int .u64 0, .int .u64 0, .int .u64 0, .int .u64 0, .int .u64 0, .int .u64 0, .int .u64 0] 81)
  rw [World.size_alloc] at h
  exact h
 ·exact (Below.heap_alloc _ _ _ (by simp)).trans (heap_alloc_new w _)
 ·exact below_setCells _ (by omega) _ _ _ (((Below.refl _ _).alloc (Nat.le_refl _) _).alloc (by simp) _)
theorem ofP_one (x : Nat) (h : x < 256) : Is (ofP ⟨#[UInt8.ofNat x]⟩) (onB x) := fun n _ => by
 have e : (UInt8.ofNat x).toNat = x := by simp; omega
 simp only [ofP, inText, onB]
 show (List.take 1 [UInt8.ofNat x]).any _ = _
 simp only [List.take_succ_cons, List.take_nil, List.any_cons, List.any_nil, Bool.or_false, e]
 rw [Bool.eq_iff_iff]
 simp only [beq_iff_eq]
 exact eq_comm
theorem only_any (x : Nat) (h : x < 256) (w : World) : Calls Try.prog 47 #[.int .u8 (x : Nat)] w fun e w' => e = .returned (.agg #[.int .u64 (wd (onB x) 0 : Nat), .int .u64 (wd (onB x) 1 : Nat), .int .u64 (wd (onB x) 2 : Nat), .int .u64 (wd (onB x) 3 : Nat)]) ∧ Below w.heap.size w w' := by
 have HC : Hid (∀ W : World, Calls Try.prog 61 #[.string ⟨#[UInt8.ofNat x]⟩] W fun e w' => e = .returned (.agg #[.int .u64 (wd (onB x) 0 : Nat), .int .u64 (wd (onB x) 1 : Nat), .int .u64 (wd (onB x) 2 : Nat), .int .u64 (wd (onB x) 3 : Nat)]) ∧ Below W.heap.size W w') := hideT (fun W => by
  have := ofD ⟨#[UInt8.ofNat x]⟩ (by unfold maxLen; show 1 ≤ _; omega) W
  obtain ⟨q0, q1, q2, q3⟩ := wd_Is (ofP_one x h)
  rw [q0, q1, q2, q3] at this
  exact this)
 have hcv := conv_one (w.alloc (.cells #[.int .u64 0, .int .u64 0, .int .u64 0, .int .u64 0] 45)) x
 rw [World.size_alloc] at hcv
 generalize onB x = q at *
 go_enter Try.func47, Try.ntmps47
 go_wp2_with fail
 refine (HC.out _).mono ?_
 rintro e w1 ⟨rfl, hb⟩
 have hz := ((holds4_zero w 45).alloc (.cells #[.int .u8 (x : Nat)] 5)).below hb (by simp; omega)
 obtain ⟨⟨c0, c1, c2, c3⟩, f0, f1, f2, f3⟩ := hz
 have hB := (((Below.refl w.heap.size w).alloc (Nat.le_refl _) (.cells #[.int .u64 0, .int .u64 0, .int .u64 0, .int .u64 0] 45)).alloc (by simp) (.cells #[.int .u8 (x : Nat)] 5)).trans (hb.mono (by simp; omega))
 clear hb hcv
 go_wp2
 exact bodyPost_ret (v := .agg #[.int .u64 (wd q 0 : Nat), .int .u64 (wd q 1 : Nat), .int .u64 (wd q 2 : Nat), .int .u64 (wd q 3 : Nat)]) (by simp [results, Try.results47, go_sem, *]) rfl ⟨rfl, below_put4 hB (Nat.le_refl _) q⟩
theorem meet_no (p r : Nat → Bool) : (!eqB (andP p r) noneP) = meetB p r := by
 rw [Bool.eq_iff_iff, Bool.not_eq_true', ← Bool.not_eq_true, eqB_iff]
 simp only [meetB, List.any_eq_true, List.mem_range, andP, noneP, Bool.and_eq_true]
 constructor
 ·intro h
  apply Classical.byContradiction
  intro hn
  refine h fun n hn2 => ?_
  cases h3 : (p n && r n) with
  | false => rfl
  | true => exact absurd ⟨n, hn2, by simpa using h3⟩ hn
 ·rintro ⟨n, h1, h2, h3⟩ h
  have := h n h1
  simp [h2, h3] at this
theorem meet_any (p r : Nat → Bool) (w : World) : Calls Try.prog 30 #[.agg #[.int .u64 (wd p 0 : Nat), .int .u64 (wd p 1 : Nat), .int .u64 (wd p 2 : Nat), .int .u64 (wd p 3 : Nat)], .agg #[.int .u64 (wd r 0 : Nat), .int .u64 (wd r 1 : Nat), .int .u64 (wd r 2 : Nat), .int .u64 (wd r 3 : Nat)]] w fun e w' => e = .returned (.bool (meetB p r)) ∧ Below w.heap.size w w' := by
 have HC := hideT (fun W => andD p r W)
 have hq : ∀ W : World, (binOp .neq 45 (.agg #[.int .u64 (wd (andP p r) 0 : Nat), .int .u64 (wd (andP p r) 1 : Nat), .int .u64 (wd (andP p r) 2 : Nat), .int .u64 (wd (andP p r) 3 : Nat)]) (.agg #[.int .u64 0, .int .u64 0, .int .u64 0, .int .u64 0])).run Try.prog W = .ok (.bool (meetB p r)) W := fun W => by
  have := run_neq_set (andP p r) noneP W
  rw [meet_no, show ∀ i, wd noneP i = 0 from fun i => wd_none i] at this
  exact this
 go_enter Try.func30, Try.ntmps30
 go_wp2_with fail
 refine (HC.out _).mono ?_
 rintro e w1 ⟨rfl, hb⟩
 go_wp2
 go_ret
 exact ⟨rfl, (((Below.refl _ _).alloc (Nat.le_refl _) _).alloc (by simp) _).trans (hb.mono (by simp; omega))⟩
end Go.Proofs.Ytiedliahmjiadaa
namespace Go.Proofs.Ytiedliahmjiadaa
open Go.RowKit
theorem operIn_of {l n : Nat} {P : Program} {o : Oper} {a : Act} {w : World} {K : Act → World → Prop} {Q : Exit → Act → World → Prop} (hd : ∀ c, o.op ≠ .defer c) (h : o.wp P a w K Q) : o.wpIn (Fence.wide.inRound l) n P a w K Q := by
 refine ⟨fun _ _ => trivial, ?_⟩
 unfold Oper.wp at h
 rw [show o.semAt (Fence.wide.inRound l).round a.eval = execOp a.eval o from Oper.semAt_some l a.eval o hd]
 generalize (execOp a.eval o).run P w = r at *
 cases r with
 | ok n w' =>
  cases n with
  | value v => exact h
  | skip => exact h
  | «defer» d => exact h
  | enter f args => exact ⟨fun h0 => absurd h0 (by simp [Fence.wide]), CallsIn.inRound l (callsIn_wide.2 h)⟩
  | row s args => exact ⟨fun h0 => absurd h0 (by simp [Fence.wide]), fun c cs _ => let ⟨v, w1, r, st⟩ := h c cs; ⟨v, w1, r, stepsIn_wide.2 st⟩⟩
  | _ => exact h.elim
 | halt x w' => cases x <;> exact h
theorem anyIn_of {l n : Nat} {P : Program} {md : Region.Mode} {ops : Array Oper} {Q : Exit → Act → World → Prop} (hd : ∀ (j : Nat) (o : Oper) c, ops[j]? = some o → o.op ≠ .defer c) (hq : ¬ LetsOut Q) :
  ∀ (fuel : Nat) (listed : Array Bool) (a : Act) (w : World), wpAny P md ops Q fuel listed a w → wpAnyIn (Fence.wide.inRound l) n P md ops Q fuel listed a w
 | 0, _, _, _, h => h
 | fuel + 1, listed, a, w, h => by
  refine ⟨h.1, fun i hi => ?_⟩
  have h2 := h.2 i hi
  unfold wpOp at h2
  unfold wpOpIn
  cases ho : ops[i]? with
  | none =>
   rw [ho] at h2
   exact anyIn_of hd hq fuel _ _ _ h2
  | some o =>
   rw [ho] at h2
   dsimp only at h2 ⊢
   by_cases hw : Region.wanted o (yielded ops a.tmps) = true
   ·rw [if_pos hw] at h2 ⊢
    rcases h2 with h2 | h2
    ·exact operIn_of (hd i o · ho) (Oper.wp_mono (fun a' w' h' => anyIn_of hd hq fuel _ a' w' h') h2)
    ·exact absurd h2.2 hq
   ·rw [if_neg hw] at h2 ⊢
    exact ⟨fun _ _ => trivial, anyIn_of hd hq fuel _ _ _ h2⟩
theorem op_call {P : Program} {ops : Array Oper} {Q : Exit → Act → World → Prop} {i : Nat} {o : Oper} {K : Act → World → Prop} {a : Act} {w : World} {f : FuncId} {args : Array Value} {R : Value → World → Prop} (d : Option Tmp) (hi : ops[i]? = some o) (hd : o.dst = d) (hw : Region.wanted o (yielded ops a.tmps) = true) (hx : (execOp a.eval o).run P w = .ok (.enter f args) w) (hc : Calls P f args w fun e w' => ∃ v, e = .returned v ∧ R v w') (h : ∀ v w', R v w' → K (a.put d v) w') : wpOp P ops Q i K a w := by
 unfold wpOp
 rw [hi]
 dsimp only
 rw [if_pos hw]
 refine .inl ?_
 unfold Oper.wp
 rw [hx]
 refine Calls.mono hc ?_
 rintro e w' ⟨v, rfl, hR⟩
 show K (a.put o.dst v) w'
 rw [hd]
 exact h v w' hR
theorem op_value {P : Program} {ops : Array Oper} {Q : Exit → Act → World → Prop} {i : Nat} {o : Oper} {K : Act → World → Prop} {a : Act} {w w' : World} {v : Value} (d : Option Tmp) (hi : ops[i]? = some o) (hd : o.dst = d) (hw : Region.wanted o (yielded ops a.tmps) = true) (hx : (execOp a.eval o).run P w = .ok (.value v) w') (h : K (a.put d v) w') : wpOp P ops Q i K a w := by
 subst hd
 unfold wpOp
 rw [hi]
 dsimp only
 rw [if_pos hw]
 refine .inl ?_
 unfold Oper.wp
 rw [hx]
 exact h
theorem op_skip {P : Program} {ops : Array Oper} {Q : Exit → Act → World → Prop} {i : Nat} {o : Oper} {K : Act → World → Prop} {a : Act} {w w' : World} (hi : ops[i]? = some o) (hd : o.dst = none) (hw : Region.wanted o (yielded ops a.tmps) = true) (hx : (execOp a.eval o).run P w = .ok .skip w') (h : K (a.put none undef) w') : wpOp P ops Q i K a w := by
 rw [← hd] at h
 unfold wpOp
 rw [hi]
 dsimp only
 rw [if_pos hw]
 refine .inl ?_
 unfold Oper.wp
 rw [hx]
 exact h
theorem take_d {P : Program} {ops : Array Oper} {Q : Exit → Act → World → Prop} {S : World → Prop} {md : Region.Mode} (i : Nat) (d : Option Tmp) {oi : Oper} {v : Value} {fuel : Nat} {listed : Array Bool} {a : Act} {w : World} (hi : ops[i]? = some oi) (hd : oi.dst = d)
  (hs : Region.noSelect ops = true) (hf : Region.free md ops listed i = true) (hr : (Region.ready md ops listed).contains i = true)
  (hQ : ∀ c a w, Q (.panic c) (a.put d v) w → Q (.panic c) a w) (hw : Region.wanted oi (yielded ops a.tmps) = true) (hS : S w) (hy : ∀ w, S w → (execOp a.eval oi).run P w = .ok (.value v) w)
  (h : wpAnyH P md ops Q S fuel (listed.setIfInBounds i true) (a.put d v) w) : wpAnyH P md ops Q S (fuel + 1) listed a w := by
 subst hd
 exact wpAnyH_take hi hs hf hr hQ (Or.inl ⟨hw, hy⟩) hS h
def noDefer (ops : Array Oper) : Bool := ops.toList.all fun o => match o.op with | .defer _ => false | _ => true
theorem noDefer_spec {ops : Array Oper} (h : noDefer ops = true) (j : Nat) (o : Oper) (c : Call) (ho : ops[j]? = some o) : o.op ≠ .defer c := fun e => by
 have h1 := List.all_eq_true.1 h o (by
  rw [← Array.getElem?_toList] at ho
  exact List.mem_of_getElem? ho)
 rw [e] at h1
 cases h1
theorem heldIn {l n id : Nat} {P : Program} {ops : Array Oper} {Q : Exit → Act → World → Prop} {a : Act} {w : World} (S : World → Prop) (hm : P.follows .mixedOrders = true) (hd : noDefer ops = true) (hq : ¬ LetsOut Q) (h : wpAnyH P .any ops Q S ops.size (Array.replicate ops.size false) a w.drew) : (Code.region id ops true).wpIn (Fence.wide.inRound l) n P Q a w :=
 wpIn_region_any hm (anyIn_of (noDefer_spec hd) hq _ _ _ _ (wpAny_of_held _ _ _ _ h))
end Go.Proofs.Ytiedliahmjiadaa
