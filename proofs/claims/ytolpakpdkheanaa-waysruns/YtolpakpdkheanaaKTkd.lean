/- bre: readInterval. -/
import Derived.Test.YtolpakpdkheanaaKShelf
import Derived.Test.YtolpakpdkheanaaKTk
set_option maxRecDepth 100000
set_option maxHeartbeats 1000000
namespace Go.Proofs.Ytolpakpdkheanaa.br
open Go.RowKit
def Glob0 (w : World) : Prop := ∃ m, w.cell? ⟨0, 0, none⟩ = some (.int .i64 m)
def upper (two : Bool) (high : List UInt8) (lo : Nat × Bool) : Int × Bool :=
 if two then (if high.isEmpty then (-1, lo.2) else ((numS high).1, lo.2 && (numS high).2 && decide (lo.1 ≤ (numS high).1))) else (lo.1, lo.2)
def ivlT (i : Nat) (inner : List UInt8) (closed : Bool) : Tk :=
 let c := Lib.cut inner [44]
 let u := upper c.2.2 c.2.1 (numS c.1)
 if closed && u.2 then ⟨7, i, i + (inner.length + 4), 0, xad, 0, (numS c.1).1, u.1⟩ else xar 9 i
def xbm (s : ByteArray) (i : Nat) : Tk := ivlT i (Lib.cut (s.data.toList.drop (i + 2)) [92, 125]).1 (Lib.cut (s.data.toList.drop (i + 2)) [92, 125]).2.2
theorem xe9 (s : ByteArray) (k : Nat) : (s.extract k s.size).data.toList = s.data.toList.drop k := by
 rw [ByteArray.data_extract, Array.toList_extract, List.extract_eq_take_drop]
 exact List.take_of_length_le (by rw [List.length_drop]; exact Nat.le_refl _)
theorem xpk (l sep : List UInt8) : (Lib.cut l sep).1.length ≤ l.length ∧ (Lib.cut l sep).2.1.length ≤ l.length := by
 unfold Lib.cut
 split
 ·simp; omega
 ·simp
theorem xfi (s : ByteArray) (hs : s.size ≤ 1073741824) (i : Nat) (hi : i + 2 ≤ s.size) (w : World) (hg : Glob0 w) :
  Calls Try.prog 74 #[.string s, .int .i64 (i : Int)] w fun e w' => e = .returned (xbm s i).v ∧ Below w.heap.size w w' := by
 obtain ⟨m, hm⟩ := hg
 have hx := xe9 s (i + 2)
 have hsz : (s.extract (i + 2) s.size).size = s.size - (i + 2) := by rw [ByteArray.size_extract]; omega
 have hl : (s.data.toList.drop (i + 2)).length ≤ 1073741824 := by simp; omega
 have hcut := fun w hm => Try.strings_Cut (s.extract (i + 2) s.size) ⟨#[92, 125]⟩ m w (by omega) hm
 rw [hx] at hcut
 have hcl := (xpk (s.data.toList.drop (i + 2)) [92, 125]).1
 unfold xbm
 generalize hc : Lib.cut (s.data.toList.drop (i + 2)) [92, 125] = c at *
 obtain ⟨inner, rest, closed⟩ := c
 simp only [] at hcut
 simp only [] at hcl ⊢
 have hil : inner.length ≤ 1073741824 := by omega
 have hcut2 := fun w hm => Try.strings_Cut ⟨inner.toArray⟩ ⟨#[44]⟩ m w (by show inner.toArray.size < _; simp; omega) hm
 have hcl2 := xpk inner [44]
 generalize hd : Lib.cut inner [44] = d at *
 obtain ⟨low, high, two⟩ := d
 simp only [] at hcut2 hcl2
 have hlo := fun w => xdt ⟨low.toArray⟩ (by show low.toArray.size ≤ _; simp; omega) w
 have hhi := fun w => xdt ⟨high.toArray⟩ (by show high.toArray.size ≤ _; simp; omega) w
 simp only [] at hlo hhi
 have hval : ivlT i inner closed = if closed && (upper two high (numS low)).2 then ⟨7, i, i + (inner.length + 4), 0, xad, 0, (numS low).1, (upper two high (numS low)).1⟩ else xar 9 i := by simp only [ivlT, hd]
 generalize ivlT i inner closed = t at *
 generalize numS low = lo at *
 obtain ⟨nlo, blo⟩ := lo
 simp only [] at hval hlo
 have HT := hideT hval
 clear hval
 have k1 : IntKind.i64.wrap ((i : Int) + 2) = ((i + 2 : Nat) : Int) := by rw [IntKind.wrap_i64]; omega
 have k2 : (0 : Int) ≤ ((i + 2 : Nat) : Int) := by omega
 have k3 : ((i + 2 : Nat) : Int) ≤ (s.size : Int) := by omega
 have HC := hideT hcut
 have HC2 := hideT hcut2
 have HLO := hideT hlo
 have HHI := hideT hhi
 clear hcut hcut2 hlo hhi hx hc hd
 go_enter Try.func74, Try.ntmps74
 go_wp2_with fail
 have hz0 := Blk11.new w
 have hm0 : (w.alloc (.cells #[.int .i64 0, .int .i64 0, .int .i64 0, .int .i64 0, .int .u64 0, .int .u64 0, .int .u64 0, .int .u64 0, .int .i64 0, .int .i64 0, .int .i64 0] 73)).cell? ⟨0, 0, none⟩ = some (.int .i64 m) := (World.cell?_of_block (a := ⟨0, 0, none⟩) (Below.heap_alloc w _ 0 (World.block_lt_of_cell? w _ hm))).trans hm
 have hB0 : Below w.heap.size w (w.alloc (.cells #[.int .i64 0, .int .i64 0, .int .i64 0, .int .i64 0, .int .u64 0, .int .u64 0, .int .u64 0, .int .u64 0, .int .i64 0, .int .i64 0, .int .i64 0] 73)) := (Below.refl _ _).alloc (Nat.le_refl _) _
 generalize w.alloc (.cells #[.int .i64 0, .int .i64 0, .int .i64 0, .int .i64 0, .int .u64 0, .int .u64 0, .int .u64 0, .int .u64 0, .int .i64 0, .int .i64 0, .int .i64 0] 73) = W0 at *
 refine (HC.out _ hm0).mono ?_
 rintro e' w1 ⟨rfl, n1, hw1⟩
 have hm1 : w1.cell? ⟨0, 0, none⟩ = some (.int .i64 m) := by rw [hw1]; exact hm0
 have hz1 : Blk11 w1 w.heap.size xme := by rw [hw1]; exact hz0
 have hB1 : Below w.heap.size w w1 := by rw [hw1]; exact hB0.trans ⟨rfl, rfl, rfl, Nat.le_refl _, fun _ _ => rfl⟩
 clear hw1 hm0 hz0 hB0
 go_wp2_with fail
 refine (HC2.out _ hm1).mono ?_
 rintro e' w2 ⟨rfl, n2, hw2⟩
 have hz2 : Blk11 w2 w.heap.size xme := by rw [hw2]; exact hz1
 have hB2 : Below w.heap.size w w2 := by rw [hw2]; exact hB1.trans ⟨rfl, rfl, rfl, Nat.le_refl _, fun _ _ => rfl⟩
 clear hw2 hm1 hz1 hB1
 go_wp2_with fail
 refine (HLO.out _).mono ?_
 rintro e' w3 ⟨rfl, rfl⟩
 obtain ⟨c0, f0⟩ := hz2.cell 0 _ rfl
 obtain ⟨c1, f1⟩ := hz2.cell 1 _ rfl
 obtain ⟨c2, f2⟩ := hz2.cell 2 _ rfl
 obtain ⟨c3, f3⟩ := hz2.cell 3 _ rfl
 obtain ⟨c4, f4⟩ := hz2.cell 4 _ rfl
 obtain ⟨c5, f5⟩ := hz2.cell 5 _ rfl
 obtain ⟨c6, f6⟩ := hz2.cell 6 _ rfl
 obtain ⟨c7, f7⟩ := hz2.cell 7 _ rfl
 obtain ⟨c8, f8⟩ := hz2.cell 8 _ rfl
 obtain ⟨c9, f9⟩ := hz2.cell 9 _ rfl
 obtain ⟨c10, f10⟩ := hz2.cell 10 _ rfl
 have k4 : ¬ 9223372036854775807 < 2 + inner.length := by omega
 have k5 : ¬ 9223372036854775807 < 2 + inner.length + 2 := by omega
 have z0 : wd xad 0 = 0 := xaa 0
 have z1 : wd xad 1 = 0 := xaa 1
 have z2 : wd xad 2 = 0 := xaa 2
 have z3 : wd xad 3 = 0 := xaa 3
 cases two
 ·cases closed
  ·skip
   have HV := hideT (show t = xar 9 i by rw [HT.out]; simp [upper])
   go_wp2_with fail
   refine (xas 9 i _).mono ?_
   rintro e' w4 ⟨rfl, hb4⟩
   clear c0 f0 c1 f1 c2 f2 c3 f3 c4 f4 c5 f5 c6 f6 c7 f7 c8 f8 c9 f9 c10 f10
   have hz4 := hz2.below hb4 (Nat.le_refl _)
   obtain ⟨c0, f0⟩ := hz4.cell 0 _ rfl
   obtain ⟨c1, f1⟩ := hz4.cell 1 _ rfl
   obtain ⟨c2, f2⟩ := hz4.cell 2 _ rfl
   obtain ⟨c3, f3⟩ := hz4.cell 3 _ rfl
   obtain ⟨c4, f4⟩ := hz4.cell 4 _ rfl
   obtain ⟨c5, f5⟩ := hz4.cell 5 _ rfl
   obtain ⟨c6, f6⟩ := hz4.cell 6 _ rfl
   obtain ⟨c7, f7⟩ := hz4.cell 7 _ rfl
   obtain ⟨c8, f8⟩ := hz4.cell 8 _ rfl
   obtain ⟨c9, f9⟩ := hz4.cell 9 _ rfl
   obtain ⟨c10, f10⟩ := hz4.cell 10 _ rfl
   go_wp2
   exact bodyPost_ret (v := (xar 9 i).v) (by simp [results, Try.results74, go_sem, c0, c1, c2, c3, c4, c5, c6, c7, c8, c9, c10]) rfl ⟨by rw [HV.out], xaq (hB2.trans (hb4.mono hB2.size)) (Nat.le_refl _) _ _ _ _ _ _ _ _ _ _ _⟩
  ·cases blo
   ·skip
    have HV := hideT (show t = xar 9 i by rw [HT.out]; simp [upper])
    go_wp2_with fail
    refine (xas 9 i _).mono ?_
    rintro e' w4 ⟨rfl, hb4⟩
    clear c0 f0 c1 f1 c2 f2 c3 f3 c4 f4 c5 f5 c6 f6 c7 f7 c8 f8 c9 f9 c10 f10
    have hz4 := hz2.below hb4 (Nat.le_refl _)
    obtain ⟨c0, f0⟩ := hz4.cell 0 _ rfl
    obtain ⟨c1, f1⟩ := hz4.cell 1 _ rfl
    obtain ⟨c2, f2⟩ := hz4.cell 2 _ rfl
    obtain ⟨c3, f3⟩ := hz4.cell 3 _ rfl
    obtain ⟨c4, f4⟩ := hz4.cell 4 _ rfl
    obtain ⟨c5, f5⟩ := hz4.cell 5 _ rfl
    obtain ⟨c6, f6⟩ := hz4.cell 6 _ rfl
    obtain ⟨c7, f7⟩ := hz4.cell 7 _ rfl
    obtain ⟨c8, f8⟩ := hz4.cell 8 _ rfl
    obtain ⟨c9, f9⟩ := hz4.cell 9 _ rfl
    obtain ⟨c10, f10⟩ := hz4.cell 10 _ rfl
    go_wp2
    exact bodyPost_ret (v := (xar 9 i).v) (by simp [results, Try.results74, go_sem, c0, c1, c2, c3, c4, c5, c6, c7, c8, c9, c10]) rfl ⟨by rw [HV.out], xaq (hB2.trans (hb4.mono hB2.size)) (Nat.le_refl _) _ _ _ _ _ _ _ _ _ _ _⟩
   ·skip
    have HV := hideT (show t = ⟨7, i, i + (inner.length + 4), 0, xad, 0, nlo, nlo⟩ by rw [HT.out]; simp [upper])
    go_wp2
    exact bodyPost_ret (v := (Tk.mk 7 i (i + (inner.length + 4)) 0 xad 0 nlo nlo).v) (by simp [results, Try.results74, go_sem, z0, z1, z2, z3, c0, c1, c2, c3, c4, c5, c6, c7, c8, c9, c10]; omega) rfl ⟨by rw [HV.out], xaq hB2 (Nat.le_refl _) _ _ _ _ _ _ _ _ _ _ _⟩
 ·have hem : (ByteArray.mk high.toArray).toList.isEmpty = high.isEmpty := by rw [ByteArray.toList_eq]
  cases hhe : high.isEmpty
  ·rw [hhe] at hem
   generalize hnh : numS high = nh at *
   obtain ⟨nhi, bhi⟩ := nh
   have e2 : upper true high (nlo, blo) = ((nhi : Int), blo && bhi && decide (nlo ≤ nhi)) := by simp [upper, hhe, hnh]
   have HE2 := hideT e2
   clear e2 hnh
   go_wp2_with fail
   refine (HHI.out _).mono ?_
   rintro e' w5 ⟨rfl, rfl⟩
   cases closed
   ·have HV0 := hideT (show t = xar 9 i by rw [HT.out]; simp)
    cases blo
    ·skip
     have HV := HV0
     go_wp2_with fail
     refine (xas 9 i _).mono ?_
     rintro e' w4 ⟨rfl, hb4⟩
     clear c0 f0 c1 f1 c2 f2 c3 f3 c4 f4 c5 f5 c6 f6 c7 f7 c8 f8 c9 f9 c10 f10
     have hz4 := hz2.below hb4 (Nat.le_refl _)
     obtain ⟨c0, f0⟩ := hz4.cell 0 _ rfl
     obtain ⟨c1, f1⟩ := hz4.cell 1 _ rfl
     obtain ⟨c2, f2⟩ := hz4.cell 2 _ rfl
     obtain ⟨c3, f3⟩ := hz4.cell 3 _ rfl
     obtain ⟨c4, f4⟩ := hz4.cell 4 _ rfl
     obtain ⟨c5, f5⟩ := hz4.cell 5 _ rfl
     obtain ⟨c6, f6⟩ := hz4.cell 6 _ rfl
     obtain ⟨c7, f7⟩ := hz4.cell 7 _ rfl
     obtain ⟨c8, f8⟩ := hz4.cell 8 _ rfl
     obtain ⟨c9, f9⟩ := hz4.cell 9 _ rfl
     obtain ⟨c10, f10⟩ := hz4.cell 10 _ rfl
     go_wp2
     exact bodyPost_ret (v := (xar 9 i).v) (by simp [results, Try.results74, go_sem, c0, c1, c2, c3, c4, c5, c6, c7, c8, c9, c10]) rfl ⟨by rw [HV.out], xaq (hB2.trans (hb4.mono hB2.size)) (Nat.le_refl _) _ _ _ _ _ _ _ _ _ _ _⟩
    ·cases bhi
     ·skip
      have HV := HV0
      go_wp2_with fail
      refine (xas 9 i _).mono ?_
      rintro e' w4 ⟨rfl, hb4⟩
      clear c0 f0 c1 f1 c2 f2 c3 f3 c4 f4 c5 f5 c6 f6 c7 f7 c8 f8 c9 f9 c10 f10
      have hz4 := hz2.below hb4 (Nat.le_refl _)
      obtain ⟨c0, f0⟩ := hz4.cell 0 _ rfl
      obtain ⟨c1, f1⟩ := hz4.cell 1 _ rfl
      obtain ⟨c2, f2⟩ := hz4.cell 2 _ rfl
      obtain ⟨c3, f3⟩ := hz4.cell 3 _ rfl
      obtain ⟨c4, f4⟩ := hz4.cell 4 _ rfl
      obtain ⟨c5, f5⟩ := hz4.cell 5 _ rfl
      obtain ⟨c6, f6⟩ := hz4.cell 6 _ rfl
      obtain ⟨c7, f7⟩ := hz4.cell 7 _ rfl
      obtain ⟨c8, f8⟩ := hz4.cell 8 _ rfl
      obtain ⟨c9, f9⟩ := hz4.cell 9 _ rfl
      obtain ⟨c10, f10⟩ := hz4.cell 10 _ rfl
      go_wp2
      exact bodyPost_ret (v := (xar 9 i).v) (by simp [results, Try.results74, go_sem, c0, c1, c2, c3, c4, c5, c6, c7, c8, c9, c10]) rfl ⟨by rw [HV.out], xaq (hB2.trans (hb4.mono hB2.size)) (Nat.le_refl _) _ _ _ _ _ _ _ _ _ _ _⟩
     ·skip
      have HV := HV0
      go_wp2_with fail
      refine (xas 9 i _).mono ?_
      rintro e' w4 ⟨rfl, hb4⟩
      clear c0 f0 c1 f1 c2 f2 c3 f3 c4 f4 c5 f5 c6 f6 c7 f7 c8 f8 c9 f9 c10 f10
      have hz4 := hz2.below hb4 (Nat.le_refl _)
      obtain ⟨c0, f0⟩ := hz4.cell 0 _ rfl
      obtain ⟨c1, f1⟩ := hz4.cell 1 _ rfl
      obtain ⟨c2, f2⟩ := hz4.cell 2 _ rfl
      obtain ⟨c3, f3⟩ := hz4.cell 3 _ rfl
      obtain ⟨c4, f4⟩ := hz4.cell 4 _ rfl
      obtain ⟨c5, f5⟩ := hz4.cell 5 _ rfl
      obtain ⟨c6, f6⟩ := hz4.cell 6 _ rfl
      obtain ⟨c7, f7⟩ := hz4.cell 7 _ rfl
      obtain ⟨c8, f8⟩ := hz4.cell 8 _ rfl
      obtain ⟨c9, f9⟩ := hz4.cell 9 _ rfl
      obtain ⟨c10, f10⟩ := hz4.cell 10 _ rfl
      go_wp2
      exact bodyPost_ret (v := (xar 9 i).v) (by simp [results, Try.results74, go_sem, c0, c1, c2, c3, c4, c5, c6, c7, c8, c9, c10]) rfl ⟨by rw [HV.out], xaq (hB2.trans (hb4.mono hB2.size)) (Nat.le_refl _) _ _ _ _ _ _ _ _ _ _ _⟩
   ·cases blo
    ·skip
     have HV := hideT (show t = xar 9 i by rw [HT.out]; simp [HE2.out])
     go_wp2_with fail
     refine (xas 9 i _).mono ?_
     rintro e' w4 ⟨rfl, hb4⟩
     clear c0 f0 c1 f1 c2 f2 c3 f3 c4 f4 c5 f5 c6 f6 c7 f7 c8 f8 c9 f9 c10 f10
     have hz4 := hz2.below hb4 (Nat.le_refl _)
     obtain ⟨c0, f0⟩ := hz4.cell 0 _ rfl
     obtain ⟨c1, f1⟩ := hz4.cell 1 _ rfl
     obtain ⟨c2, f2⟩ := hz4.cell 2 _ rfl
     obtain ⟨c3, f3⟩ := hz4.cell 3 _ rfl
     obtain ⟨c4, f4⟩ := hz4.cell 4 _ rfl
     obtain ⟨c5, f5⟩ := hz4.cell 5 _ rfl
     obtain ⟨c6, f6⟩ := hz4.cell 6 _ rfl
     obtain ⟨c7, f7⟩ := hz4.cell 7 _ rfl
     obtain ⟨c8, f8⟩ := hz4.cell 8 _ rfl
     obtain ⟨c9, f9⟩ := hz4.cell 9 _ rfl
     obtain ⟨c10, f10⟩ := hz4.cell 10 _ rfl
     go_wp2
     exact bodyPost_ret (v := (xar 9 i).v) (by simp [results, Try.results74, go_sem, c0, c1, c2, c3, c4, c5, c6, c7, c8, c9, c10]) rfl ⟨by rw [HV.out], xaq (hB2.trans (hb4.mono hB2.size)) (Nat.le_refl _) _ _ _ _ _ _ _ _ _ _ _⟩
    ·cases bhi
     ·skip
      have HV := hideT (show t = xar 9 i by rw [HT.out]; simp [HE2.out])
      go_wp2_with fail
      refine (xas 9 i _).mono ?_
      rintro e' w4 ⟨rfl, hb4⟩
      clear c0 f0 c1 f1 c2 f2 c3 f3 c4 f4 c5 f5 c6 f6 c7 f7 c8 f8 c9 f9 c10 f10
      have hz4 := hz2.below hb4 (Nat.le_refl _)
      obtain ⟨c0, f0⟩ := hz4.cell 0 _ rfl
      obtain ⟨c1, f1⟩ := hz4.cell 1 _ rfl
      obtain ⟨c2, f2⟩ := hz4.cell 2 _ rfl
      obtain ⟨c3, f3⟩ := hz4.cell 3 _ rfl
      obtain ⟨c4, f4⟩ := hz4.cell 4 _ rfl
      obtain ⟨c5, f5⟩ := hz4.cell 5 _ rfl
      obtain ⟨c6, f6⟩ := hz4.cell 6 _ rfl
      obtain ⟨c7, f7⟩ := hz4.cell 7 _ rfl
      obtain ⟨c8, f8⟩ := hz4.cell 8 _ rfl
      obtain ⟨c9, f9⟩ := hz4.cell 9 _ rfl
      obtain ⟨c10, f10⟩ := hz4.cell 10 _ rfl
      go_wp2
      exact bodyPost_ret (v := (xar 9 i).v) (by simp [results, Try.results74, go_sem, c0, c1, c2, c3, c4, c5, c6, c7, c8, c9, c10]) rfl ⟨by rw [HV.out], xaq (hB2.trans (hb4.mono hB2.size)) (Nat.le_refl _) _ _ _ _ _ _ _ _ _ _ _⟩
     ·by_cases hle : nlo ≤ nhi
      ·have k6 : (nlo : Int) ≤ (nhi : Int) := by omega
       have HV := hideT (show t = ⟨7, i, i + (inner.length + 4), 0, xad, 0, nlo, nhi⟩ by rw [HT.out]; simp [HE2.out, hle])
       clear hle
       go_wp2
       exact bodyPost_ret (v := (Tk.mk 7 i (i + (inner.length + 4)) 0 xad 0 nlo nhi).v) (by simp [results, Try.results74, go_sem, z0, z1, z2, z3, c0, c1, c2, c3, c4, c5, c6, c7, c8, c9, c10]; omega) rfl ⟨by rw [HV.out], xaq hB2 (Nat.le_refl _) _ _ _ _ _ _ _ _ _ _ _⟩
      ·have k6 : ¬ (nlo : Int) ≤ (nhi : Int) := by omega
       have HV := hideT (show t = xar 9 i by rw [HT.out]; simp [HE2.out, hle])
       have hld : decide (nlo ≤ nhi) = false := decide_eq_false hle
       clear k6
       go_wp2_with fail
       refine (xas 9 i _).mono ?_
       rintro e' w4 ⟨rfl, hb4⟩
       clear c0 f0 c1 f1 c2 f2 c3 f3 c4 f4 c5 f5 c6 f6 c7 f7 c8 f8 c9 f9 c10 f10
       have hz4 := hz2.below hb4 (Nat.le_refl _)
       obtain ⟨c0, f0⟩ := hz4.cell 0 _ rfl
       obtain ⟨c1, f1⟩ := hz4.cell 1 _ rfl
       obtain ⟨c2, f2⟩ := hz4.cell 2 _ rfl
       obtain ⟨c3, f3⟩ := hz4.cell 3 _ rfl
       obtain ⟨c4, f4⟩ := hz4.cell 4 _ rfl
       obtain ⟨c5, f5⟩ := hz4.cell 5 _ rfl
       obtain ⟨c6, f6⟩ := hz4.cell 6 _ rfl
       obtain ⟨c7, f7⟩ := hz4.cell 7 _ rfl
       obtain ⟨c8, f8⟩ := hz4.cell 8 _ rfl
       obtain ⟨c9, f9⟩ := hz4.cell 9 _ rfl
       obtain ⟨c10, f10⟩ := hz4.cell 10 _ rfl
       go_wp2
       exact bodyPost_ret (v := (xar 9 i).v) (by simp [results, Try.results74, go_sem, c0, c1, c2, c3, c4, c5, c6, c7, c8, c9, c10]) rfl ⟨by rw [HV.out], xaq (hB2.trans (hb4.mono hB2.size)) (Nat.le_refl _) _ _ _ _ _ _ _ _ _ _ _⟩
  ·rw [hhe] at hem
   cases closed
   ·skip
    have HV := hideT (show t = xar 9 i by rw [HT.out]; simp [upper])
    go_wp2_with fail
    refine (xas 9 i _).mono ?_
    rintro e' w4 ⟨rfl, hb4⟩
    clear c0 f0 c1 f1 c2 f2 c3 f3 c4 f4 c5 f5 c6 f6 c7 f7 c8 f8 c9 f9 c10 f10
    have hz4 := hz2.below hb4 (Nat.le_refl _)
    obtain ⟨c0, f0⟩ := hz4.cell 0 _ rfl
    obtain ⟨c1, f1⟩ := hz4.cell 1 _ rfl
    obtain ⟨c2, f2⟩ := hz4.cell 2 _ rfl
    obtain ⟨c3, f3⟩ := hz4.cell 3 _ rfl
    obtain ⟨c4, f4⟩ := hz4.cell 4 _ rfl
    obtain ⟨c5, f5⟩ := hz4.cell 5 _ rfl
    obtain ⟨c6, f6⟩ := hz4.cell 6 _ rfl
    obtain ⟨c7, f7⟩ := hz4.cell 7 _ rfl
    obtain ⟨c8, f8⟩ := hz4.cell 8 _ rfl
    obtain ⟨c9, f9⟩ := hz4.cell 9 _ rfl
    obtain ⟨c10, f10⟩ := hz4.cell 10 _ rfl
    go_wp2
    exact bodyPost_ret (v := (xar 9 i).v) (by simp [results, Try.results74, go_sem, c0, c1, c2, c3, c4, c5, c6, c7, c8, c9, c10]) rfl ⟨by rw [HV.out], xaq (hB2.trans (hb4.mono hB2.size)) (Nat.le_refl _) _ _ _ _ _ _ _ _ _ _ _⟩
   ·cases blo
    ·skip
     have HV := hideT (show t = xar 9 i by rw [HT.out]; simp [upper, hhe])
     go_wp2_with fail
     refine (xas 9 i _).mono ?_
     rintro e' w4 ⟨rfl, hb4⟩
     clear c0 f0 c1 f1 c2 f2 c3 f3 c4 f4 c5 f5 c6 f6 c7 f7 c8 f8 c9 f9 c10 f10
     have hz4 := hz2.below hb4 (Nat.le_refl _)
     obtain ⟨c0, f0⟩ := hz4.cell 0 _ rfl
     obtain ⟨c1, f1⟩ := hz4.cell 1 _ rfl
     obtain ⟨c2, f2⟩ := hz4.cell 2 _ rfl
     obtain ⟨c3, f3⟩ := hz4.cell 3 _ rfl
     obtain ⟨c4, f4⟩ := hz4.cell 4 _ rfl
     obtain ⟨c5, f5⟩ := hz4.cell 5 _ rfl
     obtain ⟨c6, f6⟩ := hz4.cell 6 _ rfl
     obtain ⟨c7, f7⟩ := hz4.cell 7 _ rfl
     obtain ⟨c8, f8⟩ := hz4.cell 8 _ rfl
     obtain ⟨c9, f9⟩ := hz4.cell 9 _ rfl
     obtain ⟨c10, f10⟩ := hz4.cell 10 _ rfl
     go_wp2
     exact bodyPost_ret (v := (xar 9 i).v) (by simp [results, Try.results74, go_sem, c0, c1, c2, c3, c4, c5, c6, c7, c8, c9, c10]) rfl ⟨by rw [HV.out], xaq (hB2.trans (hb4.mono hB2.size)) (Nat.le_refl _) _ _ _ _ _ _ _ _ _ _ _⟩
    ·skip
     have HV := hideT (show t = ⟨7, i, i + (inner.length + 4), 0, xad, 0, nlo, (-1)⟩ by rw [HT.out]; simp [upper, hhe])
     go_wp2
     exact bodyPost_ret (v := (Tk.mk 7 i (i + (inner.length + 4)) 0 xad 0 nlo (-1)).v) (by simp [results, Try.results74, go_sem, z0, z1, z2, z3, c0, c1, c2, c3, c4, c5, c6, c7, c8, c9, c10]; omega) rfl ⟨by rw [HV.out], xaq hB2 (Nat.le_refl _) _ _ _ _ _ _ _ _ _ _ _⟩
end Go.Proofs.Ytolpakpdkheanaa.br
