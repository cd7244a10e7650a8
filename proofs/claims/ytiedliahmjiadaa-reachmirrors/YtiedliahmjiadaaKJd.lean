/- reach: SameInts, in, short. -/
import Derived.Test.YtiedliahmjiadaaKJa
set_option maxRecDepth 100000
set_option maxHeartbeats 4000000
namespace Go.Proofs.Ytiedliahmjiadaa
open Go.RowKit Go.Shelf
def IntsR (W : World) (v : Value) (l : List Nat) : Prop := (v = .slice none 0 0 ∧ l = []) ∨ ∃ g cap, v = .slice (some ⟨g, 0, none⟩) l.length cap ∧ ∀ (k : Nat) (x : Nat), l[k]? = some x → W.cell? ⟨g, k, none⟩ = some (.int .i64 (x : Nat))
theorem Ints.read {B : Nat} {W : World} {v : Value} {l : List Nat} (h : Ints B W v l) : IntsR W v l := by
 rcases h.2 with ⟨rfl, h0⟩ | ⟨g, cap, cur, rfl, hg, hh, hc1, hc2, hc3, hc4⟩
 ·exact .inl ⟨rfl, List.eq_nil_of_length_eq_zero h0⟩
 ·refine .inr ⟨g, cap, rfl, fun k x hx => ?_⟩
  have h2 := h.cells (g := g) rfl k (.int .i64 (x : Nat)) (by simp [inL, hx])
  have hplain : (⟨g, 0, none⟩ : Addr).add k = ⟨g, 0 + k, none⟩ := by unfold Addr.add; split <;> simp_all
  rw [hplain, Nat.zero_add] at h2
  exact h2
theorem IntsR.step {W W' : World} {v : Value} {l : List Nat} (h : IntsR W v l) (hb : Below W.heap.size W W') : IntsR W' v l := by
 rcases h with h | ⟨g, cap, h1, h2⟩
 ·exact .inl h
 ·exact .inr ⟨g, cap, h1, fun k x hx => keep_cell hb (h2 k x hx)⟩
theorem in_any {W : World} {v : Value} {l : List Nat} (h : IntsR W v l) (n : Nat) (hl : l.length ≤ 2000) : Calls Try.prog 9 #[v, .int .i64 (n : Nat)] W fun e w' => e = .returned (.bool (l.contains n)) ∧ w' = W := by
 rcases h with ⟨rfl, rfl⟩ | ⟨g, cap, rfl, hc⟩
 ·go_enter Try.func9, Try.ntmps9
  go_wp2_with fail
  go_loopw [9] (fun v wr => v = .int .i64 0 ∧ wr = W) (fun _ _ => 0)
  case atStart => exact ⟨rfl, rfl⟩
  case round =>
   obtain ⟨rfl, rfl⟩ := hrel
   go_wp2
   go_ret
   exact ⟨rfl, rfl⟩
 ·have HCL := hideT hc
  obtain ⟨R, hR⟩ : ∃ R, R = l.contains n := ⟨_, rfl⟩
  rw [← hR]
  have HR := hideT hR
  clear hR hc
  go_enter Try.func9, Try.ntmps9
  go_wp2_with fail
  go_loopw [9] (fun v wr => ∃ k : Nat, k ≤ l.length ∧ v = .int .i64 (k : Nat) ∧ Hid (n ∉ l.take k) ∧ wr = W) (fun v _ => l.length - (intOf v).toNat)
  case atStart => exact ⟨0, Nat.zero_le _, rfl, hideT (by simp), rfl⟩
  case round =>
   obtain ⟨k, hk, rfl, HJ, rfl⟩ := hrel
   by_cases hlt : k < l.length
   ·have i1 : (k : Int) < (l.length : Int) := by omega
    have i2 : (0 : Int) ≤ (k : Int) := by omega
    have hkx : l[k]? = some l[k] := List.getElem?_eq_getElem hlt
    have cl := HCL.out k _ hkx
    have htk : l.take (k + 1) = l.take k ++ [l[k]] := List.take_succ_eq_append_getElem hlt
    have HTK := hideT htk
    have HM := hideT (List.getElem_mem hlt)
    clear hkx htk
    generalize l[k] = x at *
    by_cases hx : x = n
    ·have x1 : ((x : Int) == (n : Int)) = true := by rw [hx]; exact beq_self_eq_true _
     have HF := hideT (show R = true by rw [HR.out, List.contains_iff_mem, ← hx]; exact HM.out)
     clear hx
     go_wp2
     go_ret
     exact ⟨by rw [HF.out]; rfl, rfl⟩
    ·have x1 : ((x : Int) == (n : Int)) = false := by rw [beq_eq_false_iff_ne]; omega
     have HJ2 := hideT (show n ∉ l.take (k + 1) by
      rw [HTK.out, List.mem_append, List.mem_singleton]
      rintro (h | h)
      ·exact HJ.out h
      ·exact hx h.symm)
     clear hx
     go_wp2
     exact ⟨⟨k + 1, by omega, by go_num, HJ2, by simp⟩, by simp [intOf]; omega⟩
   ·obtain rfl : k = l.length := by omega
    have i1 : ((l.length : Int) < (l.length : Int)) = False := by rw [eq_iff_iff, iff_false]; omega
    have HF := hideT (show R = false by
     rw [HR.out, Bool.eq_false_iff, ne_eq, List.contains_iff_mem]
     have := HJ.out
     rwa [List.take_of_length_le (Nat.le_refl _)] at this)
    go_wp2
    go_ret
    exact ⟨by rw [HF.out]; rfl, rfl⟩
theorem short_any (s : ByteArray) (n : Nat) (hn : n ≤ 1000) (w : World) : Calls Try.prog 5 #[.string s, .int .i64 (n : Nat)] w fun e w' => e = .returned (.string (s.extract 0 (min s.size n))) ∧ w' = w := by
 obtain ⟨m, hm⟩ : ∃ m, m = min s.size n := ⟨_, rfl⟩
 rw [← hm]
 have HM := hideT (show (min (s.size : Int) (n : Int)).toNat = m by omega)
 clear hm
 go_enter Try.func5, Try.ntmps5
 go_wp2
 go_ret
 exact ⟨congrArg (fun k : Nat => Ending.returned (.string (s.extract 0 k))) HM.out, rfl⟩
theorem same_ints {W : World} {v u : Value} {l : List Nat} (h : IntsR W v l) (h2 : IntsR W u l) (hl : l.length ≤ 2000) (hne : l ≠ []) : Calls Try.prog 12 #[v, u] W fun e w' => e = .returned (.bool true) ∧ Below W.heap.size W w' := by
 rcases h with ⟨rfl, h⟩ | ⟨g, cap, rfl, hc⟩
 ·exact absurd h hne
 rcases h2 with ⟨rfl, h⟩ | ⟨g2, cap2, rfl, hc2⟩
 ·exact absurd h hne
 have HC := hideT (And.intro hc hc2)
 clear hc hc2
 go_enter Try.func12, Try.ntmps12
 go_wp2_with fail
 go_loopw [5] (fun v wr => ∃ k : Nat, k ≤ l.length ∧ v = .int .i64 (k : Nat) ∧ Below W.heap.size W wr) (fun v _ => l.length - (intOf v).toNat)
 case atStart => exact ⟨0, Nat.zero_le _, rfl, Below.refl _ _⟩
 case round =>
  obtain ⟨k, hk, rfl, hbw⟩ := hrel
  have HB := hideT hbw
  clear hbw
  by_cases hlt : k < l.length
  ·have i1 : (k : Int) < (l.length : Int) := by omega
   have i2 : (0 : Int) ≤ (k : Int) := by omega
   have hkx : l[k]? = some l[k] := List.getElem?_eq_getElem hlt
   have c1 := keep_cell HB.out (HC.out.1 k _ hkx)
   have c2 := keep_cell HB.out (HC.out.2 k _ hkx)
   clear hkx
   generalize l[k] = x at *
   go_wp2
   go_region
   go_wp2
   exact ⟨⟨k + 1, by omega, by go_num, HB.out.drew⟩, by simp [intOf]; omega⟩
  ·obtain rfl : k = l.length := by omega
   have i1 : ((l.length : Int) < (l.length : Int)) = False := by rw [eq_iff_iff, iff_false]; omega
   go_wp2
   go_ret
   exact ⟨rfl, HB.out⟩
def tsStar : List Tr := [repT 0 (-1) (byteT (selfP 97))]
def tsStarB : List Tr := [repT 0 (-1) (byteT (selfP 97)), byteT (selfP 98)]
def tsB : List Tr := [byteT (selfP 98)]
theorem pStar : parseT ⟨#[97, 42]⟩ = .ok tsStar := by kernel_rfl
theorem pStarB : parseT ⟨#[97, 42, 98]⟩ = .ok tsStarB := by kernel_rfl
theorem pB : parseT ⟨#[98]⟩ = .ok tsB := by kernel_rfl
theorem bStar : (msF .zero tsStar).back = false := by kernel_rfl
theorem bStarB : (msF .zero tsStarB).back = false := by kernel_rfl
theorem bB : (msF .zero tsB).back = false := by kernel_rfl
theorem eStar : endsT tsStar ⟨#[97, 97, 98]⟩ 0 = [0, 1, 2] := by kernel_rfl
theorem sStar : startsT tsStar ⟨#[97, 97, 98]⟩ (fun i => decide (i = 2)) = [0, 1, 2] := by kernel_rfl
theorem wStarB : (endsT tsStarB ⟨#[97, 97, 98]⟩ 0).contains 3 = true := by kernel_rfl
theorem fB : firstV tsB ⟨#[97, 97, 98]⟩ 0 = .tuple #[.agg #[.int .i64 2, .int .i64 3], .bool true, .int .i64 0] := by kernel_rfl
end Go.Proofs.Ytiedliahmjiadaa
namespace Go.Proofs.Ytiedliahmjiadaa
open Go.RowKit Go.Shelf
theorem new_ints (W : World) (l : List Nat) : IntsR (W.alloc (.cells (inL l).toArray 3)) (.slice (some ⟨W.heap.size, 0, none⟩) l.length l.length) l :=
 .inr ⟨W.heap.size, l.length, rfl, fun k x hx => by
  rw [World.cell?, heap_alloc_new]
  simp [inL, hx]⟩
theorem awake7 (w : World) (hg : Glob w) : Calls Try.prog 4 #[] w fun e w' => e = .returned (.bool true) ∧ Below w.heap.size w w' := by
 have HG := hideT hg
 have H1 := hideT (Ends_ok ⟨#[97, 42]⟩ ⟨#[97, 97, 98]⟩ 0 tsStar pStar bStar (by decide) (Nat.zero_le _) w hg)
 rw [eStar] at H1
 clear hg
 go_enter Try.func4, Try.ntmps4
 go_wp2_with fail
 refine (H1.out).mono ?_
 rintro e W1 ⟨v1, rfl, ho1, hb1⟩
 have G1 := HG.out.below hb1 (Nat.le_refl _)
 have H2 := hideT (Starts_ok ⟨#[97, 42]⟩ ⟨#[97, 97, 98]⟩ 2 tsStar pStar bStar (by decide) (by decide) W1 G1)
 rw [sStar] at H2
 have HX1 := hideT (And.intro ho1.read (And.intro hb1 G1))
 clear ho1 hb1 G1 H1
 go_wp2_with fail
 refine (H2.out).mono ?_
 rintro e W2 ⟨v2, rfl, ho2, hb2⟩
 have hbw2 := HX1.out.2.1.trans (hb2.mono HX1.out.2.1.size)
 have G2 := HX1.out.2.2.below hb2 (Nat.le_refl _)
 have H3 := hideT (Whole_ok ⟨#[97, 42, 98]⟩ ⟨#[97, 97, 98]⟩ tsStarB pStarB bStarB (by decide) W2 G2)
 rw [show (⟨#[97, 97, 98]⟩ : ByteArray).size = 3 from rfl, wStarB] at H3
 have HX2 := hideT (And.intro (HX1.out.1.step hb2) (And.intro ho2.read (And.intro hbw2 G2)))
 clear ho2 hb2 hbw2 G2 H2 HX1
 go_wp2_with fail
 refine (H3.out).mono ?_
 rintro e W3 ⟨rfl, hb3⟩
 have hbw3 := HX2.out.2.2.1.trans (hb3.mono HX2.out.2.2.1.size)
 have G3 := HX2.out.2.2.2.below hb3 (Nat.le_refl _)
 have H4 := hideT (First_ok ⟨#[98]⟩ ⟨#[97, 97, 98]⟩ 0 tsB pB bB (by decide) (Nat.zero_le _) W3 G3)
 rw [fB] at H4
 have HX3 := hideT (And.intro (HX2.out.1.step hb3) (And.intro (HX2.out.2.1.step hb3) hbw3))
 clear hb3 hbw3 G3 H3 HX2
 go_wp2_with fail
 refine (H4.out).mono ?_
 rintro e W4 ⟨rfl, hb4⟩
 have HX4 := hideT (And.intro (HX3.out.1.step hb4) (And.intro (HX3.out.2.1.step hb4) (HX3.out.2.2.trans (hb4.mono HX3.out.2.2.size))))
 clear hb4 H4 HX3
 have a1 := (Below.refl W4.heap.size W4).alloc (Nat.le_refl _) (.cells #[.int .i64 2, .int .i64 3] 35)
 have a2 := a1.alloc (by rw [World.size_alloc]; omega) (.cells #[.int .i64 0, .int .i64 1, .int .i64 2] 3)
 have n1 : IntsR ((W4.alloc (.cells #[.int .i64 2, .int .i64 3] 35)).alloc (.cells #[.int .i64 0, .int .i64 1, .int .i64 2] 3)) (.slice (some ⟨W4.heap.size + 1, 0, none⟩) 3 3) [0, 1, 2] := by
  have h := new_ints (W4.alloc (.cells #[.int .i64 2, .int .i64 3] 35)) [0, 1, 2]
  rw [World.size_alloc] at h
  exact h
 have H5 := hideT (same_ints (HX4.out.1.step a2) n1 (by decide) (by decide))
 have q0 : ((W4.alloc (.cells #[.int .i64 2, .int .i64 3] 35)).alloc (.cells #[.int .i64 0, .int .i64 1, .int .i64 2] 3)).heap[W4.heap.size]? = some (.cells #[.int .i64 2, .int .i64 3] 35 (0, 0)) := (Below.heap_alloc _ _ _ (by rw [World.size_alloc]; omega)).trans (heap_alloc_new W4 _)
 have HX5 := hideT (And.intro (HX4.out.2.1.step a2) (And.intro (HX4.out.2.2.trans (a2.mono HX4.out.2.2.size)) q0))
 clear a1 a2 n1 q0 HX4
 go_wp2_with fail
 refine (H5.out).mono ?_
 rintro e W5 ⟨rfl, hb5⟩
 have q1 := (hb5.block W4.heap.size (Array.getElem?_eq_some_iff.1 HX5.out.2.2).1).trans HX5.out.2.2
 have a3 := (Below.refl W5.heap.size W5).alloc (Nat.le_refl _) (.cells #[.int .i64 0, .int .i64 1, .int .i64 2] 3)
 have q2 : (W5.alloc (.cells #[.int .i64 0, .int .i64 1, .int .i64 2] 3)).heap[W4.heap.size]? = some (.cells #[.int .i64 2, .int .i64 3] 35 (0, 0)) := (a3.block _ (Array.getElem?_eq_some_iff.1 q1).1).trans q1
 have H6 := hideT (same_ints ((HX5.out.1.step hb5).step a3) (new_ints W5 [0, 1, 2]) (by decide) (by decide))
 have hbw := HX5.out.2.1.trans (hb5.mono HX5.out.2.1.size)
 have HX6 := hideT (And.intro (hbw.trans (a3.mono hbw.size)) q2)
 clear q1 q2 a3 hbw hb5 H5 HX5
 go_wp2_with fail
 refine (H6.out).mono ?_
 rintro e W6 ⟨rfl, hb6⟩
 have q3 := (hb6.block W4.heap.size (Array.getElem?_eq_some_iff.1 HX6.out.2).1).trans HX6.out.2
 have c0 : W6.cell? ⟨W4.heap.size, 0, none⟩ = some (.int .i64 2) := by simp [World.cell?, q3]
 have c1 : W6.cell? ⟨W4.heap.size, 1, none⟩ = some (.int .i64 3) := by simp [World.cell?, q3]
 have HX7 := hideT (HX6.out.1.trans (hb6.mono HX6.out.1.size))
 clear q3 hb6 H6 HX6
 go_wp2
 go_ret
 exact ⟨rfl, HX7.out⟩
end Go.Proofs.Ytiedliahmjiadaa
