/- canon: byteText. -/
import Derived.Test.YtemgfbidfdhanaaDoorKShelf
import Derived.Test.YtemgfbidfdhanaaDoorKDet
import Derived.Test.YtemgfbidfdhanaaDoorKTk
import Derived.Test.YtemgfbidfdhanaaDoorKTextC
namespace Go.Proofs.YtemgfbidfdhanaaDoor
open Go.RowKit

/-- The text of one byte (Yc has the same as byteX). -/
def byteS (b : Nat) : List UInt8 := if b = 10 then [92, 110] else if b = 46 ∨ b = 91 ∨ b = 93 ∨ b = 42 ∨ b = 94 ∨ b = 36 ∨ b = 92 then [92, UInt8.ofNat b] else [UInt8.ofNat b]

theorem bare_some : ∀ b : Fin 256, decide (0 ≤ Lib.indexByte [46, 91, 93, 42, 94, 36, 92] (UInt8.ofNat b.val)) = decide (b.val = 46 ∨ b.val = 91 ∨ b.val = 93 ∨ b.val = 42 ∨ b.val = 94 ∨ b.val = 36 ∨ b.val = 92) := by decide +kernel

set_option maxRecDepth 100000 in
set_option maxHeartbeats 400000 in
theorem byteText_any (b : Nat) (hb : b < 256) (w : World) : Calls Tryd.prog 35 #[.int .u8 (b : Int)] w fun e w' => e = .returned (.string ⟨(byteS b).toArray⟩) ∧ Below w.heap.size w w' := by
  have hconv := conv_one w b
  have hB := hideT ((Below.refl w.heap.size w).alloc (Nat.le_refl _) (.cells #[.int .u8 (b : Int)] 5))
  by_cases c1 : b = 10
  · subst c1
    have hB10 := hideT ((Below.refl w.heap.size w).alloc (Nat.le_refl _) (.cells #[.int .u8 10] 5))
    clear hB
    simp only [Int.cast_ofNat_Int] at hconv ⊢
    go_enter Tryd.func35, Tryd.ntmps35
    go_wp2
    go_ret
    exact ⟨rfl, hB10.out⟩
  · have e1 : ((b : Int) == 10) = false := by rw [beq_eq_false_iff_ne]; omega
    have hc := Tryd.strings_Contains_one ⟨#[46, 91, 93, 42, 94, 36, 92]⟩ (UInt8.ofNat b) (w.alloc (.cells #[.int .u8 (b : Int)] 5))
    have hs := bare_some ⟨b, hb⟩
    simp only at hs
    by_cases c2 : b = 46 ∨ b = 91 ∨ b = 93 ∨ b = 42 ∨ b = 94 ∨ b = 36 ∨ b = 92
    · rw [decide_eq_true c2] at hs
      have hx : byteS b = [92, UInt8.ofNat b] := by unfold byteS; rw [if_neg c1, if_pos c2]
      have HC := hideT hc
      clear hc
      go_enter Tryd.func35, Tryd.ntmps35
      go_wp2_with fail
      refine HC.out.mono ?_
      rintro e w1 ⟨rfl, rfl⟩
      rw [hs]
      go_wp2
      go_ret
      exact ⟨by rw [hx]; rfl, hB.out⟩
    · rw [decide_eq_false c2] at hs
      have hx : byteS b = [UInt8.ofNat b] := by unfold byteS; rw [if_neg c1, if_neg c2]
      have HC := hideT hc
      clear hc
      go_enter Tryd.func35, Tryd.ntmps35
      go_wp2_with fail
      refine HC.out.mono ?_
      rintro e w1 ⟨rfl, rfl⟩
      rw [hs]
      go_wp2
      go_ret
      exact ⟨by rw [hx]; rfl, hB.out⟩
end Go.Proofs.YtemgfbidfdhanaaDoor

/- Walks: Count. -/
namespace Go.Proofs.YtemgfbidfdhanaaDoor
open Go.RowKit

set_option maxHeartbeats 400000 in
theorem ones_core (x y z u v t s r : Int)
    (e1 : IntKind.u64.wrap (bits .and .u64 (x / 2) 6148914691236517205 + bits .and .u64 x 6148914691236517205) = y)
    (e2 : IntKind.u64.wrap (bits .and .u64 (y / 4) 3689348814741910323 + bits .and .u64 y 3689348814741910323) = z)
    (e3 : bits .and .u64 (IntKind.u64.wrap (z / 16 + z)) 1085102592571150095 = u)
    (e4 : IntKind.u64.wrap (u + u / 256) = v) (e5 : IntKind.u64.wrap (v + v / 65536) = t) (e6 : IntKind.u64.wrap (t + t / 4294967296) = s)
    (e7 : bits .and .i64 (wrap64 s) 127 = r) (w : World) :
    Calls Tryd.prog 45 #[.int .u64 x] w fun e w' => e = .returned (.int .i64 r) ∧ w' = w := by
  go_enter Tryd.func45, Tryd.ntmps45
  go_wp2
  go_ret
  exact ⟨rfl, rfl⟩

theorem ones_any (x : Nat) (hx : x < 18446744073709551616) (w : World) :
    Calls Tryd.prog 45 #[.int .u64 (x : Nat)] w fun e w' => e = .returned (.int .i64 (pc 64 x : Nat)) ∧ w' = w := by
  obtain ⟨u, hu, hu1, hu2, hu3, hu4⟩ := halves x
  have l1 : ∀ a, a &&& 6148914691236517205 ≤ 6148914691236517205 := fun a => Nat.and_le_right
  have l2 : ∀ a, a &&& 3689348814741910323 ≤ 3689348814741910323 := fun a => Nat.and_le_right
  have y1 : s1 6148914691236517205 x < 18446744073709551616 := by
    have p := l1 (x / 2); have q := l1 x; unfold s1; omega
  have f1 : IntKind.u64.wrap (bits .and .u64 ((x : Int) / 2) 6148914691236517205 + bits .and .u64 (x : Int) 6148914691236517205) = (s1 6148914691236517205 x : Nat) := by
    have a := u64_and_nat (x / 2) 6148914691236517205 (by omega) (by omega)
    have b := u64_and_nat x 6148914691236517205 hx (by omega)
    rw [show ((x / 2 : Nat) : Int) = (x : Int) / 2 from by omega] at a
    rw [show ((6148914691236517205 : Nat) : Int) = 6148914691236517205 from rfl] at a b
    rw [a, b, ← Int.natCast_add]
    exact wrapu _ y1
  generalize hy : s1 6148914691236517205 x = y at *
  have z1 : s2 3689348814741910323 y < 8301034833169298228 := by
    have p := l2 (y / 4); have q := l2 y; unfold s2; omega
  have f2 : IntKind.u64.wrap (bits .and .u64 ((y : Int) / 4) 3689348814741910323 + bits .and .u64 (y : Int) 3689348814741910323) = (s2 3689348814741910323 y : Nat) := by
    have a := u64_and_nat (y / 4) 3689348814741910323 (by omega) (by omega)
    have b := u64_and_nat y 3689348814741910323 y1 (by omega)
    rw [show ((y / 4 : Nat) : Int) = (y : Int) / 4 from by omega] at a
    rw [show ((3689348814741910323 : Nat) : Int) = 3689348814741910323 from rfl] at a b
    rw [a, b, ← Int.natCast_add]
    exact wrapu _ (by unfold s2 at z1; omega)
  generalize hz : s2 3689348814741910323 y = z at *
  have f3 : bits .and .u64 (IntKind.u64.wrap ((z : Int) / 16 + (z : Int))) 1085102592571150095 = (u : Nat) := by
    have c := s123 8 x
    rw [rep85, rep51, rep15, hy, hz, hu] at c
    have b := u64_and_nat (z / 16 + z) 1085102592571150095 (by omega) (by omega)
    rw [show ((z / 16 + z : Nat) : Int) = (z : Int) / 16 + (z : Int) from by omega, show ((1085102592571150095 : Nat) : Int) = 1085102592571150095 from rfl] at b
    have d := wrapu (z / 16 + z) (by omega)
    rw [show ((z / 16 + z : Nat) : Int) = (z : Int) / 16 + (z : Int) from by omega] at d
    rw [d, b]
    unfold s3 at c
    rw [c]
  have f4 : IntKind.u64.wrap ((u : Int) + (u : Int) / 256) = (u + u / 256 : Nat) := by
    have d := wrapu (u + u / 256) (by omega)
    rw [← d]; congr 1
  generalize hv : u + u / 256 = v at *
  have f5 : IntKind.u64.wrap ((v : Int) + (v : Int) / 65536) = (v + v / 65536 : Nat) := by
    have d := wrapu (v + v / 65536) (by omega)
    rw [← d]; congr 1
  generalize ht : v + v / 65536 = t at *
  have f6 : IntKind.u64.wrap ((t : Int) + (t : Int) / 4294967296) = (t + t / 4294967296 : Nat) := by
    have d := wrapu (t + t / 4294967296) (by omega)
    rw [← d]; congr 1
  generalize hs : t + t / 4294967296 = s at *
  have f7 : bits .and .i64 (wrap64 (s : Int)) 127 = (pc 64 x : Nat) := by
    have d : wrap64 (s : Int) = (s : Int) := by unfold wrap64; omega
    rw [d, i64_and127, ← hu3]
    omega
  exact ones_core x y z u v t s _ f1 f2 f3 f4 f5 f6 f7 w

set_option maxRecDepth 100000 in
set_option maxHeartbeats 1000000 in
theorem count_words (a0 a1 a2 a3 : Nat) (h0 : a0 < 18446744073709551616) (h1 : a1 < 18446744073709551616) (h2 : a2 < 18446744073709551616) (h3 : a3 < 18446744073709551616) (w : World) :
    Calls Tryd.prog 33 #[.agg #[.int .u64 (a0 : Nat), .int .u64 (a1 : Nat), .int .u64 (a2 : Nat), .int .u64 (a3 : Nat)]] w fun e w' => e = .returned (.int .i64 ((pc 64 a0 + pc 64 a1 + pc 64 a2 + pc 64 a3 : Nat) : Int)) ∧ Below w.heap.size w w' := by
  have i0 : ∀ w : World, (Instr.index 24 (.agg #[.int .u64 ((a0 : Nat) : Int), .int .u64 ((a1 : Nat) : Int), .int .u64 ((a2 : Nat) : Int), .int .u64 ((a3 : Nat) : Int)]) (.int .i64 0)).run Tryd.prog w = .ok (.int .u64 ((a0 : Nat) : Int)) w := fun _ => by kernel_rfl
  have i1 : ∀ w : World, (Instr.index 24 (.agg #[.int .u64 ((a0 : Nat) : Int), .int .u64 ((a1 : Nat) : Int), .int .u64 ((a2 : Nat) : Int), .int .u64 ((a3 : Nat) : Int)]) (.int .i64 1)).run Tryd.prog w = .ok (.int .u64 ((a1 : Nat) : Int)) w := fun _ => by kernel_rfl
  have i2 : ∀ w : World, (Instr.index 24 (.agg #[.int .u64 ((a0 : Nat) : Int), .int .u64 ((a1 : Nat) : Int), .int .u64 ((a2 : Nat) : Int), .int .u64 ((a3 : Nat) : Int)]) (.int .i64 2)).run Tryd.prog w = .ok (.int .u64 ((a2 : Nat) : Int)) w := fun _ => by kernel_rfl
  have i3 : ∀ w : World, (Instr.index 24 (.agg #[.int .u64 ((a0 : Nat) : Int), .int .u64 ((a1 : Nat) : Int), .int .u64 ((a2 : Nat) : Int), .int .u64 ((a3 : Nat) : Int)]) (.int .i64 3)).run Tryd.prog w = .ok (.int .u64 ((a3 : Nat) : Int)) w := fun _ => by kernel_rfl
  have b0 := pc_64_le a0
  have b1 := pc_64_le a1
  have b2 := pc_64_le a2
  have b3 := pc_64_le a3
  have c0 := fun w => ones_any a0 h0 w
  have c1 := fun w => ones_any a1 h1 w
  have c2 := fun w => ones_any a2 h2 w
  have c3 := fun w => ones_any a3 h3 w
  generalize pc 64 a0 = n0 at *
  generalize pc 64 a1 = n1 at *
  generalize pc 64 a2 = n2 at *
  generalize pc 64 a3 = n3 at *
  have C0 : Hid _ := c0; have C1 : Hid _ := c1; have C2 : Hid _ := c2; have C3 : Hid _ := c3
  clear c0 c1 c2 c3
  go_enter Tryd.func33, Tryd.ntmps33
  go_wp2_with fail
  refine wp_loop_rounds 5 ?_
  rw [rounds_succ]; go_wp2_with fail
  refine (C0.out _).mono ?_; rintro e w1 ⟨rfl, rfl⟩
  go_wp2_with fail
  rw [rounds_succ]; go_wp2_with fail
  refine (C1.out _).mono ?_; rintro e w1 ⟨rfl, rfl⟩
  go_wp2_with fail
  rw [rounds_succ]; go_wp2_with fail
  refine (C2.out _).mono ?_; rintro e w1 ⟨rfl, rfl⟩
  go_wp2_with fail
  rw [rounds_succ]; go_wp2_with fail
  refine (C3.out _).mono ?_; rintro e w1 ⟨rfl, rfl⟩
  go_wp2_with fail
  rw [rounds_succ]; go_wp2
  go_ret
  exact ⟨by simp, (Below.refl _ _).alloc (Nat.le_refl _) _⟩

theorem countD (p : Nat → Bool) (w : World) : Calls Tryd.prog 33 #[.agg #[.int .u64 (wd p 0 : Nat), .int .u64 (wd p 1 : Nat), .int .u64 (wd p 2 : Nat), .int .u64 (wd p 3 : Nat)]] w fun e w' => e = .returned (.int .i64 (card p : Nat)) ∧ Below w.heap.size w w' := by
  rw [card_words]
  exact count_words _ _ _ _ (wd_lt p 0) (wd_lt p 1) (wd_lt p 2) (wd_lt p 3) w
end Go.Proofs.YtemgfbidfdhanaaDoor

/- canon: setText. -/
namespace Go.Proofs.YtemgfbidfdhanaaDoor
open Go.RowKit Go.Shelf
attribute [local go_sem] Oper.semAt_some

/-- The text of a set (Yc has the same as stC). -/
def stS (q : Nat → Bool) : List UInt8 := if (mem q 256).length = 256 then [46] else if (mem q 256).length = 1 then byteS ((mem q 256).headD 0) else (textL (mem q 256)).map UInt8.ofNat

theorem card_mem (q : Nat → Bool) : card q = (mem q 256).length := rfl

theorem st_world (q : Nat → Bool) (w w1 : World) (hb : Below ((w.alloc (.cells #[.int .u64 (wd q 0 : Nat), .int .u64 (wd q 1 : Nat), .int .u64 (wd q 2 : Nat), .int .u64 (wd q 3 : Nat)] 24)).alloc (.cells #[.string ⟨#[]⟩] 9)).heap.size ((w.alloc (.cells #[.int .u64 (wd q 0 : Nat), .int .u64 (wd q 1 : Nat), .int .u64 (wd q 2 : Nat), .int .u64 (wd q 3 : Nat)] 24)).alloc (.cells #[.string ⟨#[]⟩] 9)) w1) :
    Below w.heap.size w w1 ∧ Set4 w1 w.heap.size q ∧ Boxed w1 (w.heap.size + 1) 9 (.string ⟨#[]⟩) ∧ w.heap.size + 2 ≤ w1.heap.size := by
  have h1 : Set4 (w.alloc (.cells #[.int .u64 (wd q 0 : Nat), .int .u64 (wd q 1 : Nat), .int .u64 (wd q 2 : Nat), .int .u64 (wd q 3 : Nat)] 24)) w.heap.size q := Set4.new w q
  have h2 := Boxed.new (w.alloc (.cells #[.int .u64 (wd q 0 : Nat), .int .u64 (wd q 1 : Nat), .int .u64 (wd q 2 : Nat), .int .u64 (wd q 3 : Nat)] 24)) 9 (.string ⟨#[]⟩)
  rw [World.size_alloc] at h2
  have h3 : Set4 ((w.alloc (.cells #[.int .u64 (wd q 0 : Nat), .int .u64 (wd q 1 : Nat), .int .u64 (wd q 2 : Nat), .int .u64 (wd q 3 : Nat)] 24)).alloc (.cells #[.string ⟨#[]⟩] 9)) w.heap.size q := (Below.heap_alloc _ _ _ (by rw [World.size_alloc]; omega)).trans h1
  refine ⟨(((Below.refl _ w).alloc (Nat.le_refl _) _).alloc (by rw [World.size_alloc]; omega) _).trans (hb.mono (by rw [World.size_alloc, World.size_alloc]; omega)), h3.below hb (by rw [World.size_alloc, World.size_alloc]; omega), (hb.block _ (by rw [World.size_alloc, World.size_alloc]; omega)).trans h2, ?_⟩
  have := hb.size
  rw [World.size_alloc, World.size_alloc] at this
  omega

set_option maxRecDepth 100000 in
set_option maxHeartbeats 1000000 in
theorem setText_dot (q : Nat → Bool) (h : (mem q 256).length = 256) (w : World) : Calls Tryd.prog 21 #[.agg #[.int .u64 (wd q 0 : Nat), .int .u64 (wd q 1 : Nat), .int .u64 (wd q 2 : Nat), .int .u64 (wd q 3 : Nat)]] w fun e w' => e = .returned (.string ⟨#[46]⟩) ∧ Below w.heap.size w w' := by
  have HC := hideT (countD q)
  have hc := card_mem q
  rw [h] at hc
  clear h
  go_enter Tryd.func21, Tryd.ntmps21
  go_wp2_with fail
  refine (HC.out _).mono ?_
  rintro e w1 ⟨rfl, hb⟩
  rw [hc]
  obtain ⟨hB, hS, hX, hsz⟩ := st_world q w w1 hb
  have c0 := hX.cell
  have f0 := hX.frozen
  have hX2 := (hX.set (.string ⟨#[46]⟩)).cell
  clear hb hX
  go_wp2
  exact bodyPost_ret (v := .string ⟨#[46]⟩) (by simp [results, Tryd.results21, go_sem, hX2]) rfl ⟨rfl, hB.setCell (by simp) _⟩

set_option maxRecDepth 100000 in
set_option maxHeartbeats 1000000 in
theorem setText_many (q : Nat → Bool) (h : (mem q 256).length ≠ 256) (h1 : (mem q 256).length ≠ 1) (w : World) : Calls Tryd.prog 21 #[.agg #[.int .u64 (wd q 0 : Nat), .int .u64 (wd q 1 : Nat), .int .u64 (wd q 2 : Nat), .int .u64 (wd q 3 : Nat)]] w fun e w' => e = .returned (.string (bstr (textL (mem q 256)))) ∧ Below w.heap.size w w' := by
  have HC := hideT (countD q)
  have HT := hideT (text_any q)
  generalize bstr (textL (mem q 256)) = T at *
  have hc : card q ≠ 256 ∧ card q ≠ 1 := ⟨h, h1⟩
  generalize card q = c at *
  have k1 : ((c : Int) == 256) = false := by rw [beq_eq_false_iff_ne]; omega
  have k2 : ((c : Int) == 1) = false := by rw [beq_eq_false_iff_ne]; omega
  clear h h1 hc
  go_enter Tryd.func21, Tryd.ntmps21
  go_wp2_with fail
  refine (HC.out _).mono ?_
  rintro e w1 ⟨rfl, hb⟩
  obtain ⟨hB, hS, hX, hsz⟩ := st_world q w w1 hb
  obtain ⟨⟨c0, c1, c2, c3⟩, -⟩ := hS.holds
  clear hb
  go_wp2_with fail
  refine (HT.out _).mono ?_
  rintro e w2 ⟨rfl, hb2⟩
  have hX1 : Boxed w2 (w.heap.size + 1) 9 (.string ⟨#[]⟩) := (hb2.block _ (by omega)).trans hX
  have d0 := hX1.cell
  have f0 := hX1.frozen
  have hX2 := (hX1.set (.string T)).cell
  clear c0 c1 c2 c3 hX hX1 hS
  go_wp2
  exact bodyPost_ret (v := .string T) (by simp [results, Tryd.results21, go_sem, hX2]) rfl ⟨rfl, (hB.trans (hb2.mono hB.size)).setCell (by simp) _⟩
end Go.Proofs.YtemgfbidfdhanaaDoor

/- canon: setText of one byte. -/
namespace Go.Proofs.YtemgfbidfdhanaaDoor
open Go.RowKit Go.Shelf
attribute [local go_sem] Oper.semAt_some

theorem keeps_box {W W2 : World} {B : Nat} {t : TypeId} {u : Value} (hb : Below W.heap.size W W2) (hx : Boxed W2 B t u) (v : Value) : KeepsOthers W (W2.setCell ⟨B, 0, none⟩ v) :=
  ⟨by have := hb.size; simpa using this, fun k o hk hc => by
    have h2 : W2.heap[k]? = some o := (hb.block k (Array.getElem?_eq_some_iff.1 hk).1).trans hk
    by_cases e : k = B
    · subst e
      rw [show W2.heap[k]? = _ from hx] at h2
      cases h2
      cases hc
    · rw [Below.heap_setCell W2 _ v k e]
      exact h2⟩

theorem boxed_own {W W' : World} {B n : Nat} {t : TypeId} {v : Value} {row : Option Nat} (h : Boxed W B t v) (hg : W.grownBy W' row) (hr : ∀ r, row = some r → n ≤ r ∧ ∃ o : Obj, W.heap[r]? = some o ∧ o.isCells = false) : Boxed W' B t v :=
  h.kept hg (fun e => by
    obtain ⟨_, o, ho, hc⟩ := hr B e.symm
    rw [show W.heap[B]? = _ from h] at ho
    cases ho
    cases hc)

set_option maxRecDepth 100000 in
set_option maxHeartbeats 1000000 in
theorem setText_one (q : Nat → Bool) (h : (mem q 256).length = 1) (w : World) : Calls Tryd.prog 21 #[.agg #[.int .u64 (wd q 0 : Nat), .int .u64 (wd q 1 : Nat), .int .u64 (wd q 2 : Nat), .int .u64 (wd q 3 : Nat)]] w fun e w' => e = .returned (.string ⟨(byteS ((mem q 256).headD 0)).toArray⟩) ∧ Below w.heap.size w w' := by
  have hnil := func_eq_nil
  have HC := hideT (countD q)
  have hc := card_mem q
  rw [h] at hc
  have HH := hideT h
  clear h
  refine (callsIn_wide (n := 5)).1 ?_
  refine callsIn_of_wp_marks Tryd.func21 rfl trivial ?_ rfl
  simp only [Tryd.ntmps21, List.size_toArray, List.length_cons, List.length_nil, Nat.reduceAdd, Nat.reduceSub, Array.replicate_succ, Array.replicate_zero, List.push_toArray, List.append_toArray, List.nil_append, List.cons_append]
  gi_wp2_with fail
  refine ⟨trivial, ?_⟩
  refine (callsIn_wide.2 (HC.out _)).mono ?_
  rintro e w1 ⟨rfl, hb⟩
  rw [hc]
  obtain ⟨hB, hS, hX, hsz⟩ := st_world q w w1 hb
  obtain ⟨⟨c0, c1, c2, c3⟩, -⟩ := hS.holds
  clear hb
  gi_wp2_with (refine ⟨trivial, ?_⟩; gi_at_call 34; refine (members_in _ _ _).mono ?_; rintro e w' ⟨rfl, rfl⟩)
  clear c0 c1 c2 c3
  have bS : Set4 (w1.alloc (.cells #[.int .u64 (wd q 0 : Nat), .int .u64 (wd q 1 : Nat), .int .u64 (wd q 2 : Nat), .int .u64 (wd q 3 : Nat)] 24)) w1.heap.size q := Set4.new w1 q
  have hB0 := hB.alloc hB.size (.cells #[.int .u64 (wd q 0 : Nat), .int .u64 (wd q 1 : Nat), .int .u64 (wd q 2 : Nat), .int .u64 (wd q 3 : Nat)] 24)
  have hX0 := hX.alloc (.cells #[.int .u64 (wd q 0 : Nat), .int .u64 (wd q 1 : Nat), .int .u64 (wd q 2 : Nat), .int .u64 (wd q 3 : Nat)] 24)
  have hs0 : w1.heap.size < (w1.alloc (.cells #[.int .u64 (wd q 0 : Nat), .int .u64 (wd q 1 : Nat), .int .u64 (wd q 2 : Nat), .int .u64 (wd q 3 : Nat)] 24)).heap.size := by simp
  clear hS hX hB
  generalize w1.alloc (.cells #[.int .u64 (wd q 0 : Nat), .int .u64 (wd q 1 : Nat), .int .u64 (wd q 2 : Nat), .int .u64 (wd q 3 : Nat)] 24) = W0 at *
  refine wpIn_rangeFunc_ownF rfl (by omega) (gf := 46) (lb := #[.pointer (some ⟨w1.heap.size, 0, none⟩)]) rfl trivial (enters_of Tryd.func46 (by kernel_rfl) rfl)
    (iter_stopsF 4 (by omega) w1.heap.size q W0 bS) keepAt_t (keepAt_b (by omega)) (Below.refl _ _) (fun _ => rfl)
    (fun pre W => pre = [] ∧ Boxed W (w.heap.size + 1) 9 (.string ⟨#[]⟩) ∧ Below w.heap.size w W)
    (fun c pre W => c = Code.ret ∧ ∃ x : Fin 256, pre = [x] ∧ Boxed W (w.heap.size + 1) 9 (.string ⟨(byteS x.val).toArray⟩) ∧ Below w.heap.size w W)
    (fun s W W' row ⟨h1, h2, h3⟩ hg hr => ⟨h1, boxed_own h2 hg hr, ownFrom_below (β := Unit) (Nat.le_refl _) (by omega) () W W' row h3 hg hr⟩)
    (fun c s W W' row ⟨h0, x, h1, h2, h3⟩ hg hr => ⟨h0, x, h1, boxed_own h2 hg hr, ownFrom_below (β := Unit) (Nat.le_refl _) (by omega) () W W' row h3 hg hr⟩)
    ⟨rfl, hX0, hB0⟩
    (fun x => { tmps := #[.agg #[.int .u64 (wd q 0 : Nat), .int .u64 (wd q 1 : Nat), .int .u64 (wd q 2 : Nat), .int .u64 (wd q 3 : Nat)], .pointer (some ⟨w.heap.size, 0, none⟩), .pointer (some ⟨w.heap.size + 1, 0, none⟩), .int .u8 (x.val : Nat), .agg #[.int .u64 (wd q 0 : Nat), .int .u64 (wd q 1 : Nat), .int .u64 (wd q 2 : Nat), .int .u64 (wd q 3 : Nat)], .int .i64 1, .bool false, .bool false, .bool true, .bool true, .agg #[.int .u64 (wd q 0 : Nat), .int .u64 (wd q 1 : Nat), .int .u64 (wd q 2 : Nat), .int .u64 (wd q 3 : Nat)], .func (.func 46) #[] #[.pointer (some ⟨w1.heap.size, 0, none⟩)], .int .u8 (x.val : Nat), undef, undef, undef, undef], defers := [] }) ?assign ?body ?done ?stop
  case assign =>
    intro l x W K hK
    gi_wp2
    exact hK
  case body =>
    rintro l pre x W ⟨rfl, h2, h3⟩ hlt
    have HB := hideT (byteText_any x.val x.isLt W)
    have hs3 := h3.size
    gi_wp2_with fail
    refine ⟨trivial, ?_⟩
    refine (CallsIn.inRound l (callsIn_wide.2 HB.out)).mono ?_
    rintro e W2 ⟨rfl, hb2⟩
    have hX2 : Boxed W2 (w.heap.size + 1) 9 (.string ⟨#[]⟩) := (hb2.block _ h2.lt).trans h2
    have d0 := hX2.cell
    have f0 := hX2.frozen
    gi_wp2
    exact ⟨keeps_box hb2 hX2 _, rfl, x, rfl, hX2.set _, (h3.trans (hb2.mono h3.size)).setCell (by simp) _⟩
  case done =>
    rintro D ys W hD hys ⟨rfl, h2, h3⟩ hK
    rw [List.map_nil] at hys
    have := HH.out
    rw [← hys] at this
    cases this
  case stop =>
    rintro D c pre W hD hSp ⟨rfl, x, rfl, h2, h3⟩ hK
    have hx : (mem q 256).headD 0 = x.val := by
      obtain ⟨r, hr⟩ := hSp
      rw [← hr]
      rfl
    have HX := hideT hx
    clear hx
    have hne : w.heap.size + 1 ≠ D := fun e => by
      subst e
      rw [show W.heap[w.heap.size + 1]? = _ from h2] at hK
      cases hK
    have d0 : (W.putObj D (.deferred none)).cell? ⟨w.heap.size + 1, 0, none⟩ = some (.string ⟨(byteS x.val).toArray⟩) := by
      have : (W.putObj D (.deferred none)).heap[w.heap.size + 1]? = W.heap[w.heap.size + 1]? := World.putObj_heap_other hne
      simp [World.cell?, this, show W.heap[w.heap.size + 1]? = _ from h2]
    gi_wp2
    refine ⟨by simp, .inl ⟨_, _, rfl, run_takeDeferred hK, ?_⟩⟩
    exact ⟨.string ⟨(byteS x.val).toArray⟩, by simp [results, Tryd.results21, go_sem, d0], by rw [HX.out], h3.trans (belowK_b (w := w) (Nat.le_refl _) W D _ _ (by omega) hK rfl rfl)⟩

theorem setText_any (q : Nat → Bool) (w : World) : Calls Tryd.prog 21 #[.agg #[.int .u64 (wd q 0 : Nat), .int .u64 (wd q 1 : Nat), .int .u64 (wd q 2 : Nat), .int .u64 (wd q 3 : Nat)]] w fun e w' => e = .returned (.string ⟨(stS q).toArray⟩) ∧ Below w.heap.size w w' := by
  unfold stS
  by_cases c1 : (mem q 256).length = 256
  · rw [if_pos c1]
    exact setText_dot q c1 w
  · rw [if_neg c1]
    by_cases c2 : (mem q 256).length = 1
    · rw [if_pos c2]
      exact setText_one q c2 w
    · rw [if_neg c2]
      exact setText_many q c1 c2 w
end Go.Proofs.YtemgfbidfdhanaaDoor
