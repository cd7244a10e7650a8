/- canon: the document's Digits, of numbers up to 255. -/
import Derived.Laws.StructEq
import Derived.Test.YtaapmphdnholaaaGreatDoorKTk
import Derived.Test.YtaapmphdnholaaaGreatDoorKRt
import Derived.Test.YtaapmphdnholaaaGreatDoorKCt
import Derived.Test.YtaapmphdnholaaaGreatDoorKPa
import Derived.Test.YtaapmphdnholaaaGreatDoorKCv
import Derived.Test.YtaapmphdnholaaaGreatDoorKCz
import Derived.Test.YtaapmphdnholaaaGreatDoorKDp
import Derived.Deep.RegionHeld3
import Derived.Deep.RegionWith
set_option maxRecDepth 100000
set_option maxHeartbeats 2000000
namespace Go.Proofs.YtaapmphdnholaaaGreatDoor
open Go.RowKit
theorem und30 : Tryz.prog.underlying 24 = some (.struct (Tryz.prog.fieldsOf 24)) := by kernel_rfl
theorem held30 : Tryz.prog.stoodInHeld 24 = false := by kernel_rfl
theorem fields30 : (Tryz.prog.fieldsOf 24).toList.map (fun f => (f.type, f.name, f.offset)) = [(22, "E", 0), (3, "At", 1)] := by kernel_rfl
theorem run_equal_fault (a b c d : Int) (w : World) : (Op.equalIn 10000 24 (.agg #[.int .i64 a, .int .i64 b]) (.agg #[.int .i64 c, .int .i64 d])).run Tryz.prog w = .ok (decide (a = c) && decide (b = d)) w := by
 rw [run_equalIn_struct w 9999 24 _ _ und30 held30]
 have h := fields30
 generalize (Tryz.prog.fieldsOf 24).toList = L at h
 obtain ⟨f1, L1, rfl, h1, h2⟩ := List.map_eq_cons_iff.1 h
 obtain ⟨f2, L2, rfl, h3, h4⟩ := List.map_eq_cons_iff.1 h2
 obtain rfl := List.map_eq_nil_iff.1 h4
 simp only [Prod.mk.injEq] at h1 h3
 obtain ⟨t1, n1, o1⟩ := h1
 obtain ⟨t2, n2, o2⟩ := h3
 simp [Op.eqFields, t1, n1, o1, t2, n2, o2, go_sem]
 by_cases ha : a = c <;> by_cases hb : b = d <;> simp [ha, hb]
theorem ofNat48 (n : Nat) : (48 + UInt8.ofNat n : UInt8) = UInt8.ofNat (48 + n) := by
 apply UInt8.toNat_inj.1
 simp [UInt8.toNat_add, UInt8.toNat_ofNat']
theorem conv48 (W : World) (n : Nat) : (convert 43 9 (.slice (some ⟨W.heap.size, 0, none⟩) 1 1)).run Tryz.prog (W.alloc (.cells #[.int .u8 (48 + (n : Int))] 5)) = .ok (.string ⟨#[UInt8.ofNat (48 + n)]⟩) (W.alloc (.cells #[.int .u8 (48 + (n : Int))] 5)) := by
 have h := xjp W (48 + n)
 rw [show ((48 + n : Nat) : Int) = 48 + (n : Int) by omega] at h
 exact h
theorem dgw_one (n : Nat) (h : n < 10) (w : World) : Calls Tryz.prog 22 #[.int .i64 (n : Int)] w fun e w' => e = .returned (.string ⟨#[UInt8.ofNat (48 + n)]⟩) ∧ Below w.heap.size w w' := by
 have hconv := conv48 w n
 have hB := xab ((Below.refl w.heap.size w).alloc (Nat.le_refl _) (.cells #[.int .u8 (48 + (n : Int))] 5))
 have k0 : (n : Int) < 10 := by omega
 have k1 : IntKind.i64.wrap (48 + (n : Int)) = 48 + (n : Int) := by rw [IntKind.wrap_i64]; omega
 have k2 : IntKind.u8.wrap (48 + (n : Int)) = 48 + (n : Int) := by show (48 + (n : Int)) % 256 = _; omega
 have hn := xab h
 clear h
 go_enter Tryz.func22, Tryz.ntmps22
 go_wp2
 go_ret
 exact ⟨by simp, hB.out⟩
open Go.RowKit
theorem conv_later {W w2 : World} (n : Nat) (hb : Below (W.heap.size + 1) (W.alloc (.cells #[.int .u8 (48 + (n : Int))] 5)) w2) : (convert 43 9 (.slice (some ⟨W.heap.size, 0, none⟩) 1 1)).run Tryz.prog w2 = .ok (.string ⟨#[UInt8.ofNat (48 + n)]⟩) w2 := by
 have h := xf4 (W := w2) (base := W.heap.size) (v := .slice (some ⟨W.heap.size, 0, none⟩) 1 1) (l := [48 + n]) ⟨rfl, .inr ⟨W.heap.size, 1, #[.int .u8 (48 + (n : Int))], rfl, Nat.le_refl _, (hb.block _ (by omega)).trans (heap_alloc_new W _), Nat.le_refl _, by unfold maxLen; omega, rfl, by simp [xam]⟩⟩
 exact h
theorem conv48d (W : World) (n : Nat) : (convert 43 9 (.slice (some ⟨W.heap.size, 0, none⟩) 1 1)).run Tryz.prog (W.alloc (.cells #[.int .u8 (48 + (n : Int))] 5)).drew = .ok (.string ⟨#[UInt8.ofNat (48 + n)]⟩) (W.alloc (.cells #[.int .u8 (48 + (n : Int))] 5)).drew :=
 conv_later n ⟨rfl, rfl, rfl, Nat.le_refl _, fun _ _ => rfl⟩
theorem conv_laterD {W w2 : World} (n : Nat) (hb : Below (W.alloc (.cells #[.int .u8 (48 + (n : Int))] 5)).drew.heap.size (W.alloc (.cells #[.int .u8 (48 + (n : Int))] 5)).drew w2) : (convert 43 9 (.slice (some ⟨W.heap.size, 0, none⟩) 1 1)).run Tryz.prog w2 = .ok (.string ⟨#[UInt8.ofNat (48 + n)]⟩) w2 :=
 conv_later n ⟨hb.os, hb.tape, hb.output, hb.size, fun k hk => hb.block k (by have : (W.alloc (.cells #[.int .u8 (48 + (n : Int))] 5)).drew.heap.size = W.heap.size + 1 := World.size_alloc W _; omega)⟩
theorem late_below {W w2 : World} {o : Obj} (hb : Below (W.alloc o).drew.heap.size (W.alloc o).drew w2) : Below W.heap.size W w2 := by
 have hs : (W.alloc o).drew.heap.size = W.heap.size + 1 := World.size_alloc W _
 exact ((Below.refl W.heap.size W).alloc (Nat.le_refl _) o).trans ⟨hb.os, hb.tape, hb.output, hb.size, fun k hk => hb.block k (by omega)⟩
theorem dgw_step (n m d : Nat) (hn : n = 10 * m + d) (hm : 1 ≤ m) (hd : d < 10) (h2 : n ≤ 255) (A : List UInt8) (hA : A.length ≤ 3) (HD : ∀ w, Calls Tryz.prog 22 #[.int .i64 (m : Int)] w fun e w' => e = .returned (.string ⟨A.toArray⟩) ∧ Below w.heap.size w w') (w : World) : Calls Tryz.prog 22 #[.int .i64 (n : Int)] w fun e w' => e = .returned (.string ⟨(A ++ [UInt8.ofNat (48 + d)]).toArray⟩) ∧ Below w.heap.size w w' := by
 have k0 : ¬ (n : Int) < 10 := by omega
 have q1 : (n : Int).tdiv 10 = (m : Int) := by rw [Int.tdiv_eq_ediv_of_nonneg (by omega)]; omega
 have q2 : (n : Int).tmod 10 = (d : Int) := by rw [Int.tmod_eq_emod_of_nonneg (by omega)]; omega
 have k1 : IntKind.i64.wrap (48 + (d : Int)) = 48 + (d : Int) := by rw [IntKind.wrap_i64]; omega
 have k2 : IntKind.u8.wrap (48 + (d : Int)) = 48 + (d : Int) := by show (48 + (d : Int)) % 256 = _; omega
 have k3 : IntKind.i64.wrap (m : Int) = (m : Int) := by rw [IntKind.wrap_i64]; omega
 have k4 : IntKind.i64.wrap (d : Int) = (d : Int) := by rw [IntKind.wrap_i64]; omega
 have s1 : ¬ 9223372036854775807 < (⟨A.toArray⟩ : ByteArray).size + 1 := by rw [xc7]; omega
 have hc1 := conv48d w d
 have hc2 := fun W => conv48 W d
 have HH := xab HD
 have hst : (⟨A.toArray⟩ : ByteArray) ++ ⟨#[UInt8.ofNat (48 + d)]⟩ = ⟨(A ++ [UInt8.ofNat (48 + d)]).toArray⟩ := xej A _
 rw [← hst]
 generalize (⟨A.toArray⟩ : ByteArray) = D at *
 clear HD hst hn hm h2 hA
 go_enter Tryz.func22, Tryz.ntmps22
 go_wp2_with fail
 go_region_with (go_at_call 22; refine (HH.out _).mono ?_; rintro e w2 ⟨rfl, hb2⟩; (first | (have hc3 := conv_laterD d hb2) | skip); have HB := xab hb2; clear hb2)
 ·have hb : Below w.heap.size w w2 := ⟨HB.out.os, HB.out.tape, HB.out.output, HB.out.size, HB.out.block⟩
  go_wp2
  go_ret
  exact ⟨congrArg (fun s : UInt8 => Ending.returned (Value.string (D ++ ByteArray.mk #[s]))) (ofNat48 d), hb.alloc hb.size _⟩
 ·have hb : Below w.heap.size w w2 := late_below HB.out
  go_wp2
  go_ret
  exact ⟨congrArg (fun s : UInt8 => Ending.returned (Value.string (D ++ ByteArray.mk #[s]))) (ofNat48 d), hb⟩
 ·have hb : Below w.heap.size w w2 := late_below HB.out
  go_wp2
  go_ret
  exact ⟨congrArg (fun s : UInt8 => Ending.returned (Value.string (D ++ ByteArray.mk #[s]))) (ofNat48 d), hb⟩
theorem dgw_any (n : Nat) (hn : n ≤ 255) (w : World) : Calls Tryz.prog 22 #[.int .i64 (n : Int)] w fun e w' => e = .returned (.string ⟨(digX n).toArray⟩) ∧ Below w.heap.size w w' := by
 have h1 : ∀ m : Nat, m < 10 → ∀ w, Calls Tryz.prog 22 #[.int .i64 (m : Int)] w fun e w' => e = .returned (.string ⟨[UInt8.ofNat (48 + m)].toArray⟩) ∧ Below w.heap.size w w' := fun m hm w => dgw_one m hm w
 unfold digX
 by_cases c1 : n < 10
 ·rw [if_pos c1]
  exact h1 n c1 w
 ·rw [if_neg c1]
  by_cases c2 : n < 100
  ·rw [if_pos c2]
   exact dgw_step n (n / 10) (n % 10) (by omega) (by omega) (by omega) hn [UInt8.ofNat (48 + n / 10)] (by simp) (h1 _ (by omega)) w
  ·rw [if_neg c2]
   have h2 := fun w => dgw_step (n / 10) (n / 100) (n / 10 % 10) (by omega) (by omega) (by omega) (by omega) [UInt8.ofNat (48 + n / 100)] (by simp) (h1 _ (by omega)) w
   exact dgw_step n (n / 10) (n % 10) (by omega) (by omega) (by omega) hn [UInt8.ofNat (48 + n / 100), UInt8.ofNat (48 + n / 10 % 10)] (by simp) h2 w
open Go.RowKit
theorem conv_two (W : World) (b : Nat) : (convert 43 9 (.slice (some ⟨W.heap.size, 0, none⟩) 2 2)).run Tryz.prog (W.alloc (.cells #[.int .u8 92, .int .u8 (b : Int)] 5)) = .ok (.string ⟨#[92, UInt8.ofNat b]⟩) (W.alloc (.cells #[.int .u8 92, .int .u8 (b : Int)] 5)) :=
 xf4 (base := W.heap.size) (l := [92, b]) ⟨rfl, .inr ⟨W.heap.size, 2, #[.int .u8 92, .int .u8 (b : Int)], rfl, Nat.le_refl _, heap_alloc_new W _, Nat.le_refl _, by unfold maxLen; omega, rfl, rfl⟩⟩
theorem row_slice {W : World} {base n : Nat} {v : Value} {xs : List Value} (h : W.ownsRow base 5 1 v n xs) : ∃ a c, v = .slice a n c := by
 rcases h.2 with ⟨rfl, rfl⟩ | ⟨g, cap, cur, rfl, _⟩
 ·exact ⟨none, 0, rfl⟩
 ·exact ⟨_, _, rfl⟩
theorem st1_world (q : Nat → Bool) (w w1 : World) (hb : Below (w.alloc (.cells #[.int .u64 (wd q 0), .int .u64 (wd q 1), .int .u64 (wd q 2), .int .u64 (wd q 3)] 33)).heap.size (w.alloc (.cells #[.int .u64 (wd q 0), .int .u64 (wd q 1), .int .u64 (wd q 2), .int .u64 (wd q 3)] 33)) w1) : Below w.heap.size w w1 ∧ Set4 w1 w.heap.size q := by
 have hs : (w.alloc (.cells #[.int .u64 (wd q 0), .int .u64 (wd q 1), .int .u64 (wd q 2), .int .u64 (wd q 3)] 33)).heap.size = w.heap.size + 1 := World.size_alloc w _
 exact ⟨((Below.refl _ w).alloc (Nat.le_refl _) _).trans (hb.mono (by omega)), (Set4.new w q).below hb (by omega)⟩
theorem one_other (q : Nat → Bool) (h1 : (mem q 256).length ≠ 1) (w : World) : Calls Tryz.prog 21 #[.agg #[.int .u64 (wd q 0), .int .u64 (wd q 1), .int .u64 (wd q 2), .int .u64 (wd q 3)]] w fun e w' => e = .returned (.string ⟨(stS q).toArray⟩) ∧ Below w.heap.size w w' := by
 have HM := xab (xie q (w.alloc (.cells #[.int .u64 (wd q 0), .int .u64 (wd q 1), .int .u64 (wd q 2), .int .u64 (wd q 3)] 33)))
 have HT := xab (refText_any q)
 have hc := xow q
 by_cases c1 : (mem q 256).length = 256
 ·have e : stS q = [46] := by unfold stS; rw [if_pos c1]
  rw [e]
  rw [c1] at hc
  clear c1 h1 e
  go_enter Tryz.func21, Tryz.ntmps21
  go_wp2_with fail
  refine HM.out.mono ?_
  rintro e w1 ⟨v, rfl, hr, hb⟩
  obtain ⟨a, c, rfl⟩ := row_slice hr
  rw [hc]
  have HB := xab (st1_world q w w1 hb).1
  clear hb hr
  go_wp2
  go_ret
  exact ⟨rfl, HB.out⟩
 ·have e : (⟨(stS q).toArray⟩ : ByteArray) = bstr (xde (mem q 256)) := by unfold stS; rw [if_neg c1, if_neg h1]; rfl
  rw [e]
  generalize bstr (xde (mem q 256)) = T at *
  rw [← hc] at c1 h1
  generalize card q = n at *
  have k1 : ((n : Int) == 256) = false := by rw [beq_eq_false_iff_ne]; omega
  have k2 : ((n : Int) != 1) = true := by rw [bne_iff_ne]; omega
  have k3 : ((n : Int) == 1) = false := by rw [beq_eq_false_iff_ne]; omega
  clear c1 h1 e hc
  go_enter Tryz.func21, Tryz.ntmps21
  go_wp2_with fail
  refine HM.out.mono ?_
  rintro e w1 ⟨v, rfl, hr, hb⟩
  obtain ⟨a, c, rfl⟩ := row_slice hr
  obtain ⟨hB1, hS1⟩ := st1_world q w w1 hb
  obtain ⟨⟨c0, c1, c2, c3⟩, -⟩ := hS1.holds
  have HB := xab hB1
  clear hb hr hB1 hS1
  go_wp2_with fail
  refine (HT.out _).mono ?_
  rintro e w2 ⟨rfl, hb2⟩
  go_wp2
  go_ret
  exact ⟨rfl, HB.out.trans (hb2.mono HB.out.size)⟩
theorem one_byte (q : Nat → Bool) (b : Nat) (hm : mem q 256 = [b]) (hb256 : b < 256) (w : World) : Calls Tryz.prog 21 #[.agg #[.int .u64 (wd q 0), .int .u64 (wd q 1), .int .u64 (wd q 2), .int .u64 (wd q 3)]] w fun e w' => e = .returned (.string ⟨(xiz b).toArray⟩) ∧ Below w.heap.size w w' := by
 have HM := xab (xie q (w.alloc (.cells #[.int .u64 (wd q 0), .int .u64 (wd q 1), .int .u64 (wd q 2), .int .u64 (wd q 3)] 33)))
 have hc : card q = 1 := by rw [xow, hm]; rfl
 rw [hm, hc] at HM
 clear hm hc
 by_cases c1 : b = 10
 ·subst c1
  go_enter Tryz.func21, Tryz.ntmps21
  go_wp2_with fail
  refine HM.out.mono ?_
  rintro e w1 ⟨v, rfl, hr, hb⟩
  obtain ⟨g, cap, rfl, hg, hlt⟩ := hr.form (by omega)
  have c0 : w1.cell? ⟨g, 0, none⟩ = some (.int .u8 10) := (xc8 hr 0 _ rfl).1
  have HB := xab (st1_world q w w1 hb).1
  clear hb hr
  go_wp2
  go_ret
  exact ⟨rfl, HB.out⟩
 ·have e1 : ((b : Int) == 10) = false := by rw [beq_eq_false_iff_ne]; omega
  by_cases c2 : b = 46 ∨ b = 91 ∨ b = 93 ∨ b = 42 ∨ b = 94 ∨ b = 36 ∨ b = 92
  ·have hx : (⟨(xiz b).toArray⟩ : ByteArray) = ⟨#[92, UInt8.ofNat b]⟩ := by unfold xiz; rw [if_neg c1, if_pos c2]
   rw [hx]
   clear c1 hx hb256
   rcases c2 with h | h | h | h | h | h | h
   ·have k0 : ((b : Int) == 46) = true := by rw [beq_iff_eq]; omega
    clear h
    go_enter Tryz.func21, Tryz.ntmps21
    go_wp2_with fail
    refine HM.out.mono ?_
    rintro e w1 ⟨v, rfl, hr, hb⟩
    obtain ⟨g, cap, rfl, hg, hlt⟩ := hr.form (by omega)
    have c0 : w1.cell? ⟨g, 0, none⟩ = some (.int .u8 b) := (xc8 hr 0 _ rfl).1
    have hcv := conv_two w1 b
    have HB := xab (st1_world q w w1 hb).1
    clear hb hr
    go_wp2
    go_ret
    exact ⟨rfl, HB.out.alloc HB.out.size _⟩
   ·have k0 : ((b : Int) == 46) = false := by rw [beq_eq_false_iff_ne]; omega
    have k1 : ((b : Int) == 91) = true := by rw [beq_iff_eq]; omega
    clear h
    go_enter Tryz.func21, Tryz.ntmps21
    go_wp2_with fail
    refine HM.out.mono ?_
    rintro e w1 ⟨v, rfl, hr, hb⟩
    obtain ⟨g, cap, rfl, hg, hlt⟩ := hr.form (by omega)
    have c0 : w1.cell? ⟨g, 0, none⟩ = some (.int .u8 b) := (xc8 hr 0 _ rfl).1
    have hcv := conv_two w1 b
    have HB := xab (st1_world q w w1 hb).1
    clear hb hr
    go_wp2
    go_ret
    exact ⟨rfl, HB.out.alloc HB.out.size _⟩
   ·have k0 : ((b : Int) == 46) = false := by rw [beq_eq_false_iff_ne]; omega
    have k1 : ((b : Int) == 91) = false := by rw [beq_eq_false_iff_ne]; omega
    have k2 : ((b : Int) == 93) = true := by rw [beq_iff_eq]; omega
    clear h
    go_enter Tryz.func21, Tryz.ntmps21
    go_wp2_with fail
    refine HM.out.mono ?_
    rintro e w1 ⟨v, rfl, hr, hb⟩
    obtain ⟨g, cap, rfl, hg, hlt⟩ := hr.form (by omega)
    have c0 : w1.cell? ⟨g, 0, none⟩ = some (.int .u8 b) := (xc8 hr 0 _ rfl).1
    have hcv := conv_two w1 b
    have HB := xab (st1_world q w w1 hb).1
    clear hb hr
    go_wp2
    go_ret
    exact ⟨rfl, HB.out.alloc HB.out.size _⟩
   ·have k0 : ((b : Int) == 46) = false := by rw [beq_eq_false_iff_ne]; omega
    have k1 : ((b : Int) == 91) = false := by rw [beq_eq_false_iff_ne]; omega
    have k2 : ((b : Int) == 93) = false := by rw [beq_eq_false_iff_ne]; omega
    have k3 : ((b : Int) == 42) = true := by rw [beq_iff_eq]; omega
    clear h
    go_enter Tryz.func21, Tryz.ntmps21
    go_wp2_with fail
    refine HM.out.mono ?_
    rintro e w1 ⟨v, rfl, hr, hb⟩
    obtain ⟨g, cap, rfl, hg, hlt⟩ := hr.form (by omega)
    have c0 : w1.cell? ⟨g, 0, none⟩ = some (.int .u8 b) := (xc8 hr 0 _ rfl).1
    have hcv := conv_two w1 b
    have HB := xab (st1_world q w w1 hb).1
    clear hb hr
    go_wp2
    go_ret
    exact ⟨rfl, HB.out.alloc HB.out.size _⟩
   ·have k0 : ((b : Int) == 46) = false := by rw [beq_eq_false_iff_ne]; omega
    have k1 : ((b : Int) == 91) = false := by rw [beq_eq_false_iff_ne]; omega
    have k2 : ((b : Int) == 93) = false := by rw [beq_eq_false_iff_ne]; omega
    have k3 : ((b : Int) == 42) = false := by rw [beq_eq_false_iff_ne]; omega
    have k4 : ((b : Int) == 94) = true := by rw [beq_iff_eq]; omega
    clear h
    go_enter Tryz.func21, Tryz.ntmps21
    go_wp2_with fail
    refine HM.out.mono ?_
    rintro e w1 ⟨v, rfl, hr, hb⟩
    obtain ⟨g, cap, rfl, hg, hlt⟩ := hr.form (by omega)
    have c0 : w1.cell? ⟨g, 0, none⟩ = some (.int .u8 b) := (xc8 hr 0 _ rfl).1
    have hcv := conv_two w1 b
    have HB := xab (st1_world q w w1 hb).1
    clear hb hr
    go_wp2
    go_ret
    exact ⟨rfl, HB.out.alloc HB.out.size _⟩
   ·have k0 : ((b : Int) == 46) = false := by rw [beq_eq_false_iff_ne]; omega
    have k1 : ((b : Int) == 91) = false := by rw [beq_eq_false_iff_ne]; omega
    have k2 : ((b : Int) == 93) = false := by rw [beq_eq_false_iff_ne]; omega
    have k3 : ((b : Int) == 42) = false := by rw [beq_eq_false_iff_ne]; omega
    have k4 : ((b : Int) == 94) = false := by rw [beq_eq_false_iff_ne]; omega
    have k5 : ((b : Int) == 36) = true := by rw [beq_iff_eq]; omega
    clear h
    go_enter Tryz.func21, Tryz.ntmps21
    go_wp2_with fail
    refine HM.out.mono ?_
    rintro e w1 ⟨v, rfl, hr, hb⟩
    obtain ⟨g, cap, rfl, hg, hlt⟩ := hr.form (by omega)
    have c0 : w1.cell? ⟨g, 0, none⟩ = some (.int .u8 b) := (xc8 hr 0 _ rfl).1
    have hcv := conv_two w1 b
    have HB := xab (st1_world q w w1 hb).1
    clear hb hr
    go_wp2
    go_ret
    exact ⟨rfl, HB.out.alloc HB.out.size _⟩
   ·have k0 : ((b : Int) == 46) = false := by rw [beq_eq_false_iff_ne]; omega
    have k1 : ((b : Int) == 91) = false := by rw [beq_eq_false_iff_ne]; omega
    have k2 : ((b : Int) == 93) = false := by rw [beq_eq_false_iff_ne]; omega
    have k3 : ((b : Int) == 42) = false := by rw [beq_eq_false_iff_ne]; omega
    have k4 : ((b : Int) == 94) = false := by rw [beq_eq_false_iff_ne]; omega
    have k5 : ((b : Int) == 36) = false := by rw [beq_eq_false_iff_ne]; omega
    have k6 : ((b : Int) == 92) = true := by rw [beq_iff_eq]; omega
    clear h
    go_enter Tryz.func21, Tryz.ntmps21
    go_wp2_with fail
    refine HM.out.mono ?_
    rintro e w1 ⟨v, rfl, hr, hb⟩
    obtain ⟨g, cap, rfl, hg, hlt⟩ := hr.form (by omega)
    have c0 : w1.cell? ⟨g, 0, none⟩ = some (.int .u8 b) := (xc8 hr 0 _ rfl).1
    have hcv := conv_two w1 b
    have HB := xab (st1_world q w w1 hb).1
    clear hb hr
    go_wp2
    go_ret
    exact ⟨rfl, HB.out.alloc HB.out.size _⟩
  ·have hx : (⟨(xiz b).toArray⟩ : ByteArray) = bstr [b] := by unfold xiz; rw [if_neg c1, if_neg c2]; rfl
   rw [hx]
   have k1 : ((b : Int) == 46) = false := by rw [beq_eq_false_iff_ne]; omega
   have k2 : ((b : Int) == 91) = false := by rw [beq_eq_false_iff_ne]; omega
   have k3 : ((b : Int) == 93) = false := by rw [beq_eq_false_iff_ne]; omega
   have k4 : ((b : Int) == 42) = false := by rw [beq_eq_false_iff_ne]; omega
   have k5 : ((b : Int) == 94) = false := by rw [beq_eq_false_iff_ne]; omega
   have k6 : ((b : Int) == 36) = false := by rw [beq_eq_false_iff_ne]; omega
   have k7 : ((b : Int) == 92) = false := by rw [beq_eq_false_iff_ne]; omega
   clear c1 c2 hx hb256
   go_enter Tryz.func21, Tryz.ntmps21
   go_wp2_with fail
   refine HM.out.mono ?_
   rintro e w1 ⟨v, rfl, hr, hb⟩
   have hcv := xf4 (l := [b]) hr
   obtain ⟨g, cap, rfl, hg, hlt⟩ := hr.form (by omega)
   have c0 : w1.cell? ⟨g, 0, none⟩ = some (.int .u8 b) := (xc8 hr 0 _ rfl).1
   have HB := xab (st1_world q w w1 hb).1
   clear hb hr
   go_wp2
   go_ret
   exact ⟨rfl, HB.out⟩
theorem one_any (q : Nat → Bool) (w : World) : Calls Tryz.prog 21 #[.agg #[.int .u64 (wd q 0), .int .u64 (wd q 1), .int .u64 (wd q 2), .int .u64 (wd q 3)]] w fun e w' => e = .returned (.string ⟨(stS q).toArray⟩) ∧ Below w.heap.size w w' := by
 by_cases c2 : (mem q 256).length = 1
 ·obtain ⟨b, hb⟩ : ∃ b, mem q 256 = [b] := List.length_eq_one_iff.1 c2
  have e : stS q = xiz b := by unfold stS; rw [if_neg (by omega), if_pos c2, hb]; rfl
  rw [e]
  exact one_byte q b hb (xqm q 256 b (by rw [hb]; simp)) w
 ·exact one_other q c2 w
open Go.RowKit
def DwIH (x : Tr) (s : List UInt8) : Prop := ∀ (W : World) (ok : Nat → Prop) (a : Option Addr) (n c : Nat), Kids W ok (.slice a n c) x.kids → Calls Tryz.prog 12 #[xcm x (.slice a n c)] W fun e w' => e = .returned (.string ⟨s.toArray⟩) ∧ Below W.heap.size W w'
theorem doc_walk (kd : Nat) (q : Nat → Bool) (lo hi : Int) (gp : Nat) (ks : List Tr) (hlen : ks.length ≤ 1000000) (ih : ∀ x ∈ ks, DwIH x (wrT stC x)) (hl : (wrL stC ks).length ≤ 1000000)
  (hkd : kd = 0 ∨ kd = 1 ∨ kd = 2 ∨ kd = 3 ∨ (kd = 6 ∧ gp ≤ 9) ∨ kd = 4 ∨ (kd = 5 ∧ 0 ≤ lo ∧ lo ≤ 255 ∧ (hi = -1 ∨ lo ≤ hi ∧ hi ≤ 255))) (w : World) (ok : Nat → Prop) (a : Option Addr) (c : Nat) (hk : Kids w ok (.slice a ks.length c) ks) :
  Calls Tryz.prog 12 #[.agg #[.int .i64 kd, .int .u64 (wd q 0), .int .u64 (wd q 1), .int .u64 (wd q 2), .int .u64 (wd q 3), .int .i64 lo, .int .i64 hi, .int .i64 gp, .slice a ks.length c]] w fun e w' => e = .returned (.string ⟨(wrT stC (.mk kd q lo hi gp ks)).toArray⟩) ∧ Below w.heap.size w w' := by
 have HA := xab (And.intro hk (And.intro ih hl))
 have HK := xab hkd
 clear hk ih hl hkd
 have hxb : (w.alloc (.cells #[.int .i64 kd, .int .u64 (wd q 0), .int .u64 (wd q 1), .int .u64 (wd q 2), .int .u64 (wd q 3), .int .i64 lo, .int .i64 hi, .int .i64 gp, .slice a ks.length c] 36)).heap[w.heap.size]? = some (.cells #[.int .i64 kd, .int .u64 (wd q 0), .int .u64 (wd q 1), .int .u64 (wd q 2), .int .u64 (wd q 3), .int .i64 lo, .int .i64 hi, .int .i64 gp, .slice a ks.length c] 36) := heap_alloc_new w _
 have hBX : Below w.heap.size w (w.alloc (.cells #[.int .i64 kd, .int .u64 (wd q 0), .int .u64 (wd q 1), .int .u64 (wd q 2), .int .u64 (wd q 3), .int .i64 lo, .int .i64 hi, .int .i64 gp, .slice a ks.length c] 36)) := (Below.refl _ _).alloc (Nat.le_refl _) _
 have HX := xab (And.intro hxb hBX)
 clear hxb hBX
 go_enter Tryz.func12, Tryz.ntmps12
 go_wp2_with fail
 go_loopw [3, 4] (fun sv iv wr => ∃ k : Nat, k ≤ ks.length ∧ iv = .int .i64 k ∧ sv = .string ⟨(((ks.take k).map (wrT stC)).flatten).toArray⟩ ∧ wr.heap[w.heap.size]? = some (.cells #[.int .i64 kd, .int .u64 (wd q 0), .int .u64 (wd q 1), .int .u64 (wd q 2), .int .u64 (wd q 3), .int .i64 lo, .int .i64 hi, .int .i64 gp, .slice a ks.length c] 36) ∧ Below w.heap.size w wr) (fun _ iv _ => (ks.length - intOf iv).toNat)
 case atStart => exact ⟨0, by omega, rfl, by simp, HX.out.1, HX.out.2⟩
 case round =>
  obtain ⟨k, hk1, rfl, rfl, hx, hB⟩ := hrel
  have y0 : wr.cell? ⟨w.heap.size, 0, none⟩ = some (.int .i64 kd) := by simp [World.cell?, hx]
  have y1 : wr.cell? ⟨w.heap.size, 1, none⟩ = some (.int .u64 (wd q 0)) := by simp [World.cell?, hx]
  have y2 : wr.cell? ⟨w.heap.size, 2, none⟩ = some (.int .u64 (wd q 1)) := by simp [World.cell?, hx]
  have y3 : wr.cell? ⟨w.heap.size, 3, none⟩ = some (.int .u64 (wd q 2)) := by simp [World.cell?, hx]
  have y4 : wr.cell? ⟨w.heap.size, 4, none⟩ = some (.int .u64 (wd q 3)) := by simp [World.cell?, hx]
  have y5 : wr.cell? ⟨w.heap.size, 5, none⟩ = some (.int .i64 lo) := by simp [World.cell?, hx]
  have y6 : wr.cell? ⟨w.heap.size, 6, none⟩ = some (.int .i64 hi) := by simp [World.cell?, hx]
  have y7 : wr.cell? ⟨w.heap.size, 7, none⟩ = some (.int .i64 gp) := by simp [World.cell?, hx]
  have y8 : wr.cell? ⟨w.heap.size, 8, none⟩ = some (.slice a ks.length c) := by simp [World.cell?, hx]
  by_cases hlt : k < ks.length
  ·obtain ⟨g, c', u, he, _, _, hcell, hku⟩ := xhx (xbu HA.out.1 hB) (i := k) (List.getElem?_eq_getElem hlt)
   obtain rfl : a = some ⟨g, 0, none⟩ := by injection he
   obtain ⟨ua, uc, rfl⟩ := xba hku
   have z0 := (hcell 0 _ rfl).1
   have z1 := (hcell 1 _ rfl).1
   have z2 := (hcell 2 _ rfl).1
   have z3 := (hcell 3 _ rfl).1
   have z4 := (hcell 4 _ rfl).1
   have z5 := (hcell 5 _ rfl).1
   have z6 := (hcell 6 _ rfl).1
   have z7 := (hcell 7 _ rfl).1
   have z8 := (hcell 8 _ rfl).1
   rw [Nat.add_zero] at z0
   have k3 : (k : Int) < (ks.length : Int) := by omega
   have k4 : (0 : Int) ≤ (k : Int) := by omega
   have k5 : IntKind.i64.wrap ((k : Int) + 1) = (k : Int) + 1 := by rw [IntKind.wrap_i64]; omega
   have hft := xs5 (wrT stC) ks k hlt
   have hle := xl5 (wrT stC) ks (k + 1)
   rw [hft, List.length_append, ← xo0 stC ks] at hle
   have hl9 := HA.out.2.2
   have s1 : ¬ 9223372036854775807 < (⟨(((ks.take k).map (wrT stC)).flatten).toArray⟩ : ByteArray).size + (⟨(wrT stC ks[k]).toArray⟩ : ByteArray).size := by rw [xc7, xc7]; omega
   have HC := xab (HA.out.2.1 ks[k] (List.getElem_mem hlt) wr ok ua _ uc hku)
   have hap : (⟨(((ks.take k).map (wrT stC)).flatten).toArray⟩ : ByteArray) ++ ⟨(wrT stC ks[k]).toArray⟩ = ⟨(((ks.take (k + 1)).map (wrT stC)).flatten).toArray⟩ := by rw [xej, hft]
   have HP := xab (And.intro hap (And.intro hx hB))
   clear hcell hku he hft hle hl9 hap
   generalize (⟨(((ks.take k).map (wrT stC)).flatten).toArray⟩ : ByteArray) = S0 at *
   generalize (⟨(wrT stC ks[k]).toArray⟩ : ByteArray) = S1 at *
   go_wp2_with fail
   refine HC.out.mono ?_
   rintro e w2 ⟨rfl, hb2⟩
   have HD := xab (And.intro ((hb2.block _ (Array.getElem?_eq_some_iff.1 HP.out.2.1).1).trans HP.out.2.1) (HP.out.2.2.trans (hb2.mono HP.out.2.2.size)))
   clear hb2 hx hB y0 y1 y2 y3 y4 y5 y6 y7 y8 z0 z1 z2 z3 z4 z5 z6 z7 z8
   go_wp2
   exact ⟨⟨k + 1, by omega, by go_num, by rw [← HP.out.1], HD.out.1, HD.out.2⟩, by simp [intOf]; omega⟩
  ·obtain rfl : k = ks.length := by omega
   have k3 : ¬ (ks.length : Int) < (ks.length : Int) := by omega
   rw [List.take_length, ← xo0]
   have HB := xab hB
   have HX2 := xab hx
   have HS : Hid ((⟨(wrL stC ks).toArray⟩ : ByteArray).size ≤ 1000000) := xab (by rw [xc7]; exact HA.out.2.2)
   clear hx hB hlt
   rcases HK.out with hk0 | hk0 | hk0 | hk0 | ⟨hk0, hgp⟩ | hk0 | ⟨hk0, h0, h1, h2⟩
   ·have e : wrT stC (.mk kd q lo hi gp ks) = wrL stC ks := by subst hk0; simp [wrT]
    have HE := xab (congrArg (fun l : List UInt8 => (⟨l.toArray⟩ : ByteArray)) e)
    clear e
    subst hk0
    generalize (⟨(wrL stC ks).toArray⟩ : ByteArray) = S at *
    go_wp2
    go_ret
    exact ⟨(congrArg (fun s : ByteArray => Ending.returned (Value.string s)) HE.out).symm, HB.out⟩
   ·have e : wrT stC (.mk kd q lo hi gp ks) = stS q := by subst hk0; simp [wrT, stS_eq]
    have HE := xab (congrArg (fun l : List UInt8 => (⟨l.toArray⟩ : ByteArray)) e)
    clear e
    subst hk0
    have HO := xab (one_any q)
    generalize stS q = s1 at *
    go_wp2_with fail
    refine (HO.out _).mono ?_
    rintro e w5 ⟨rfl, hb5⟩
    have HC := xab (HB.out.trans (hb5.mono HB.out.size))
    clear hb5
    go_wp2
    go_ret
    exact ⟨(congrArg (fun s : ByteArray => Ending.returned (Value.string s)) HE.out).symm, HC.out⟩
   ·have e : wrT stC (.mk kd q lo hi gp ks) = [94] := by subst hk0; simp [wrT]
    have HE := xab (congrArg (fun l : List UInt8 => (⟨l.toArray⟩ : ByteArray)) e)
    clear e
    subst hk0
    go_wp2
    go_ret
    exact ⟨(congrArg (fun s : ByteArray => Ending.returned (Value.string s)) HE.out).symm, HB.out⟩
   ·have e : wrT stC (.mk kd q lo hi gp ks) = [36] := by subst hk0; simp [wrT]
    have HE := xab (congrArg (fun l : List UInt8 => (⟨l.toArray⟩ : ByteArray)) e)
    clear e
    subst hk0
    go_wp2
    go_ret
    exact ⟨(congrArg (fun s : ByteArray => Ending.returned (Value.string s)) HE.out).symm, HB.out⟩
   ·have e : (⟨(wrT stC (.mk kd q lo hi gp ks)).toArray⟩ : ByteArray) = ⟨#[92]⟩ ++ ⟨(digX gp).toArray⟩ := by
     have hd : digX gp = [UInt8.ofNat (48 + gp)] := by unfold digX; rw [if_pos (by omega)]
     subst hk0
     rw [show (⟨#[92]⟩ : ByteArray) = ⟨[92].toArray⟩ from rfl, xej, hd]
     simp [wrT]
    have HE := xab e
    have HO := xab (dgw_any gp (by omega))
    have hl3 : (⟨(digX gp).toArray⟩ : ByteArray).size ≤ 3 := by rw [xc7]; exact xg5 gp
    generalize (⟨(digX gp).toArray⟩ : ByteArray) = D at *
    have s1 : ¬ 9223372036854775807 < 1 + D.size := by omega
    clear hl3 e
    subst hk0
    go_wp2_with fail
    refine (HO.out _).mono ?_
    rintro e w5 ⟨rfl, hb5⟩
    have HC := xab (HB.out.trans (hb5.mono HB.out.size))
    clear hb5
    go_wp2
    go_ret
    exact ⟨(congrArg (fun s : ByteArray => Ending.returned (Value.string s)) HE.out).symm, HC.out⟩
   ·have e : (⟨(wrT stC (.mk kd q lo hi gp ks)).toArray⟩ : ByteArray) = ⟨#[92, 40]⟩ ++ ⟨(wrL stC ks).toArray⟩ ++ ⟨#[92, 41]⟩ := by
     subst hk0
     rw [show (⟨#[92, 40]⟩ : ByteArray) = ⟨[92, 40].toArray⟩ from rfl, show (⟨#[92, 41]⟩ : ByteArray) = ⟨[92, 41].toArray⟩ from rfl, xej, xej]
     simp [wrT]
    have HE := xab e
    generalize (⟨(wrL stC ks).toArray⟩ : ByteArray) = S at *
    have s1 : ¬ 9223372036854775807 < 2 + S.size := by have := HS.out; omega
    have s2 : ¬ 9223372036854775807 < 2 + S.size + 2 := by have := HS.out; omega
    clear e
    subst hk0
    go_wp2
    go_ret
    exact ⟨(congrArg (fun s : ByteArray => Ending.returned (Value.string s)) HE.out).symm, HB.out⟩
   ·obtain ⟨l, rfl⟩ : ∃ l : Nat, lo = l := ⟨lo.toNat, by omega⟩
    have HL := xab (dgw_any l (by omega))
    have hl3 : (⟨(digX l).toArray⟩ : ByteArray).size ≤ 3 := by rw [xc7]; exact xg5 l
    rcases h2 with rfl | h2
    ·by_cases c0 : l = 0
     ·subst c0
      have e : (⟨(wrT stC (.mk kd q ((0 : Nat) : Int) (-1) gp ks)).toArray⟩ : ByteArray) = ⟨(wrL stC ks).toArray⟩ ++ ⟨#[42]⟩ := by
       subst hk0
       rw [show (⟨#[42]⟩ : ByteArray) = ⟨[42].toArray⟩ from rfl, xej]
       simp [wrT, repX]
      have HE := xab e
      generalize (⟨(wrL stC ks).toArray⟩ : ByteArray) = S at *
      have s1 : ¬ 9223372036854775807 < S.size + 1 := by have := HS.out; omega
      clear e hl3
      subst hk0
      go_wp2
      go_ret
      exact ⟨(congrArg (fun s : ByteArray => Ending.returned (Value.string s)) HE.out).symm, HB.out⟩
     ·have e : (⟨(wrT stC (.mk kd q (l : Int) (-1) gp ks)).toArray⟩ : ByteArray) = ⟨(wrL stC ks).toArray⟩ ++ (⟨#[92, 123]⟩ ++ ⟨(digX l).toArray⟩) ++ ⟨#[44]⟩ ++ ⟨#[92, 125]⟩ := by
       subst hk0
       rw [show (⟨#[92, 123]⟩ : ByteArray) = ⟨[92, 123].toArray⟩ from rfl, show (⟨#[44]⟩ : ByteArray) = ⟨[44].toArray⟩ from rfl, show (⟨#[92, 125]⟩ : ByteArray) = ⟨[92, 125].toArray⟩ from rfl, xej, xej, xej, xej]
       have : repX (l : Int) (-1) = [92, 123] ++ digX l ++ [44] ++ [92, 125] := by
        rw [← repS_eq]
        unfold repS
        rw [if_neg (by omega), if_pos (by omega), Int.toNat_natCast]
        simp
       simp [wrT, this]
      have HE := xab e
      have k0 : ((l : Int) == 0) = false := by rw [beq_eq_false_iff_ne]; omega
      have k1 : (-1 == (l : Int)) = false := by rw [beq_eq_false_iff_ne]; omega
      have k2 : (-1 != (l : Int)) = true := by rw [bne_iff_ne]; omega
      generalize (⟨(wrL stC ks).toArray⟩ : ByteArray) = S at *
      generalize (⟨(digX l).toArray⟩ : ByteArray) = D at *
      have s1 : ¬ 9223372036854775807 < 2 + D.size := by omega
      have s2 : ¬ 9223372036854775807 < S.size + (2 + D.size) := by have := HS.out; omega
      have s3 : ¬ 9223372036854775807 < S.size + (2 + D.size) + 1 := by have := HS.out; omega
      have s4 : ¬ 9223372036854775807 < S.size + (2 + D.size) + 1 + 2 := by have := HS.out; omega
      clear e hl3
      subst hk0
      go_wp2_with fail
      refine (HL.out _).mono ?_
      rintro e w5 ⟨rfl, hb5⟩
      have u5 := (hb5.block _ (Array.getElem?_eq_some_iff.1 HX2.out).1).trans HX2.out
      have z5 : w5.cell? ⟨w.heap.size, 5, none⟩ = some (.int .i64 l) := by simp [World.cell?, u5]
      have z6 : w5.cell? ⟨w.heap.size, 6, none⟩ = some (.int .i64 (-1)) := by simp [World.cell?, u5]
      have HC := xab (HB.out.trans (hb5.mono HB.out.size))
      clear hb5 u5 y0 y5 y6 y7 y8
      go_wp2
      go_ret
      exact ⟨(congrArg (fun s : ByteArray => Ending.returned (Value.string s)) HE.out).symm, HC.out⟩
    ·obtain ⟨m, rfl⟩ : ∃ m : Nat, hi = m := ⟨hi.toNat, by omega⟩
     have n1 : ((m : Int) < 0) = False := by rw [eq_iff_iff, iff_false]; omega
     have n2 : (0 ≤ (m : Int)) = True := by rw [eq_iff_iff, iff_true]; omega
     by_cases c0 : m = l
     ·subst c0
      have e : (⟨(wrT stC (.mk kd q (m : Int) (m : Int) gp ks)).toArray⟩ : ByteArray) = ⟨(wrL stC ks).toArray⟩ ++ (⟨#[92, 123]⟩ ++ ⟨(digX m).toArray⟩) ++ ⟨#[92, 125]⟩ := by
       subst hk0
       rw [show (⟨#[92, 123]⟩ : ByteArray) = ⟨[92, 123].toArray⟩ from rfl, show (⟨#[92, 125]⟩ : ByteArray) = ⟨[92, 125].toArray⟩ from rfl, xej, xej, xej]
       have : repX (m : Int) (m : Int) = [92, 123] ++ digX m ++ [92, 125] := by
        rw [← repS_eq]
        unfold repS
        rw [if_neg (by omega), if_neg (by omega), if_pos rfl, Int.toNat_natCast]
        simp
       simp [wrT, this]
      have HE := xab e
      generalize (⟨(wrL stC ks).toArray⟩ : ByteArray) = S at *
      generalize (⟨(digX m).toArray⟩ : ByteArray) = D at *
      have s1 : ¬ 9223372036854775807 < 2 + D.size := by omega
      have s2 : ¬ 9223372036854775807 < S.size + (2 + D.size) := by have := HS.out; omega
      have s3 : ¬ 9223372036854775807 < S.size + (2 + D.size) + 2 := by have := HS.out; omega
      clear e hl3
      subst hk0
      go_wp2_with fail
      refine (HL.out _).mono ?_
      rintro e w5 ⟨rfl, hb5⟩
      have u5 := (hb5.block _ (Array.getElem?_eq_some_iff.1 HX2.out).1).trans HX2.out
      have z5 : w5.cell? ⟨w.heap.size, 5, none⟩ = some (.int .i64 m) := by simp [World.cell?, u5]
      have z6 : w5.cell? ⟨w.heap.size, 6, none⟩ = some (.int .i64 m) := by simp [World.cell?, u5]
      have HC := xab (HB.out.trans (hb5.mono HB.out.size))
      clear hb5 u5 y0 y5 y6 y7 y8
      go_wp2
      go_ret
      exact ⟨(congrArg (fun s : ByteArray => Ending.returned (Value.string s)) HE.out).symm, HC.out⟩
     ·have e : (⟨(wrT stC (.mk kd q (l : Int) (m : Int) gp ks)).toArray⟩ : ByteArray) = ⟨(wrL stC ks).toArray⟩ ++ (⟨#[92, 123]⟩ ++ ⟨(digX l).toArray⟩) ++ ⟨#[44]⟩ ++ ⟨(digX m).toArray⟩ ++ ⟨#[92, 125]⟩ := by
       subst hk0
       rw [show (⟨#[92, 123]⟩ : ByteArray) = ⟨[92, 123].toArray⟩ from rfl, show (⟨#[44]⟩ : ByteArray) = ⟨[44].toArray⟩ from rfl, show (⟨#[92, 125]⟩ : ByteArray) = ⟨[92, 125].toArray⟩ from rfl, xej, xej, xej, xej, xej]
       have : repX (l : Int) (m : Int) = [92, 123] ++ digX l ++ [44] ++ digX m ++ [92, 125] := by
        rw [← repS_eq]
        unfold repS
        rw [if_neg (by omega), if_neg (by omega), if_neg (by omega), Int.toNat_natCast, Int.toNat_natCast]
        simp
       simp [wrT, this]
      have HE := xab e
      have k1 : ((m : Int) == (l : Int)) = false := by rw [beq_eq_false_iff_ne]; omega
      have k2 : ((m : Int) != (l : Int)) = true := by rw [bne_iff_ne]; omega
      have HM := xab (dgw_any m (by omega))
      have hl4 : (⟨(digX m).toArray⟩ : ByteArray).size ≤ 3 := by rw [xc7]; exact xg5 m
      generalize (⟨(wrL stC ks).toArray⟩ : ByteArray) = S at *
      generalize (⟨(digX l).toArray⟩ : ByteArray) = D at *
      generalize (⟨(digX m).toArray⟩ : ByteArray) = E at *
      have s1 : ¬ 9223372036854775807 < 2 + D.size := by omega
      have s2 : ¬ 9223372036854775807 < S.size + (2 + D.size) := by have := HS.out; omega
      have s3 : ¬ 9223372036854775807 < S.size + (2 + D.size) + 1 := by have := HS.out; omega
      have s4 : ¬ 9223372036854775807 < S.size + (2 + D.size) + 1 + E.size := by have := HS.out; omega
      have s5 : ¬ 9223372036854775807 < S.size + (2 + D.size) + 1 + E.size + 2 := by have := HS.out; omega
      clear e hl3 hl4
      subst hk0
      go_wp2_with fail
      refine (HL.out _).mono ?_
      rintro e w5 ⟨rfl, hb5⟩
      have u5 := (hb5.block _ (Array.getElem?_eq_some_iff.1 HX2.out).1).trans HX2.out
      have z5 : w5.cell? ⟨w.heap.size, 5, none⟩ = some (.int .i64 l) := by simp [World.cell?, u5]
      have z6 : w5.cell? ⟨w.heap.size, 6, none⟩ = some (.int .i64 m) := by simp [World.cell?, u5]
      have HC := xab (HB.out.trans (hb5.mono HB.out.size))
      clear hb5 u5 y0 y5 y6 y7 y8
      go_wp2_with fail
      refine (HM.out _).mono ?_
      rintro e w6 ⟨rfl, hb6⟩
      have HD := xab (HC.out.trans (hb6.mono HC.out.size))
      clear hb6
      go_wp2
      go_ret
      exact ⟨(congrArg (fun s : ByteArray => Ending.returned (Value.string s)) HE.out).symm, HD.out⟩
open Go.RowKit Go.Shelf
theorem wrL_mem (st : (Nat → Bool) → List UInt8) : ∀ (ts : List Tr) (x : Tr), x ∈ ts → (wrT st x).length ≤ (wrL st ts).length
 | [], x, h => by cases h
 | t :: ts, x, h => by
  rw [wrL, List.length_append]
  rcases List.mem_cons.1 h with rfl | h
  ·omega
  ·have := wrL_mem st ts x h
   omega
theorem docWrite_any : ∀ (m : Nat) (t : Tr), SizeOf.sizeOf t < m → xck t → (∃ u u', ShT t u u') → (wrT stC t).length ≤ 1000000 → DwIH t (wrT stC t)
 | 0, t, h, _, _, _ => absurd h (Nat.not_lt_zero _)
 | m + 1, t, h, hsm, hsh, hlen => by
  intro W ok a n c hk
  have hn : n = t.kids.length := by
   obtain ⟨a', c', he⟩ := xba hk
   injection he
  subst hn
  have hl := (xbt t hsm).2.2.1.2
  obtain ⟨u, u', hs⟩ := hsh
  have hkid : ∀ x ∈ t.kids, ∃ u u', ShT x u u' := by
   obtain ⟨kd, q, lo, hi, gp, ks⟩ := t
   rcases hs with ⟨_, _, _, _, _, h1⟩ | ⟨_, _, _, _, rfl, _⟩ | ⟨_, _, _, _, rfl, _⟩ | ⟨_, _, _, _, _, _, _, s1, h1, _⟩ | ⟨_, _, _, _, _, _, h1⟩
   ·exact xkp _ _ _ h1
   ·intro x hx; cases hx
   ·intro x hx; cases hx
   ·exact xkp _ _ _ h1
   ·exact xkp _ _ _ h1
  have hkl : (wrL stC t.kids).length ≤ 1000000 := by
   obtain ⟨kd, q, lo, hi, gp, ks⟩ := t
   rcases hs with ⟨rfl, _, _, _, _, h1⟩ | ⟨_, _, _, _, rfl, _⟩ | ⟨_, _, _, _, rfl, _⟩ | ⟨rfl, _⟩ | ⟨rfl, _⟩
   ·simp [wrT] at hlen
    simp only [Tr.kids]
    omega
   ·simp [wrL, Tr.kids]
   ·simp [wrL, Tr.kids]
   ·simp [wrT] at hlen
    simp only [Tr.kids]
    omega
   ·simp [wrT] at hlen
    simp only [Tr.kids]
    omega
  have ih := fun x hx => docWrite_any m x (by have := xh0 (t := t) hx; omega) (xcb _ (xbt t hsm).2.2.2 x hx) (hkid x hx) (by have := wrL_mem stC t.kids x hx; omega)
  obtain ⟨kd, q, lo, hi, gp, ks⟩ := t
  simp only [Tr.kids] at hk hl hkl ih
  refine doc_walk kd q lo hi gp ks hl ih hkl ?_ W ok a c hk
  rcases hs with ⟨rfl, _⟩ | ⟨hkd, _⟩ | ⟨rfl, _, _, _, _, _, g9, _⟩ | ⟨rfl, _⟩ | ⟨rfl, _, _, ⟨b0, b1⟩, b2, _⟩
  ·exact .inl rfl
  ·rcases hkd with rfl | ⟨rfl | rfl, _⟩
   ·exact .inr (.inl rfl)
   ·exact .inr (.inr (.inl rfl))
   ·exact .inr (.inr (.inr (.inl rfl)))
  ·exact .inr (.inr (.inr (.inr (.inl ⟨rfl, g9⟩))))
  ·exact .inr (.inr (.inr (.inr (.inr (.inl rfl)))))
  ·exact .inr (.inr (.inr (.inr (.inr (.inr ⟨rfl, b0, b1, b2⟩)))))
theorem docText_err (s : ByteArray) (er : Int) (p : Nat) (hp : xav s = .error (er, p)) (he : er ≠ 0) (w : World) (hg : Glob w) : Calls Tryz.prog 6 #[.string s] w fun e w' => e = .returned (.tuple #[.string ⟨#[]⟩, .int .i64 er, .int .i64 p]) ∧ Below w.heap.size w w' := by
 have HD := xab (doc_err s er p hp w hg)
 have k1 : (er == 0) = false := by rw [beq_eq_false_iff_ne]; exact he
 have k2 : (er != 0) = true := by rw [bne_iff_ne]; exact he
 clear hp he hg
 go_enter Tryz.func6, Tryz.ntmps6
 go_wp2_with fail
 refine HD.out.mono ?_
 rintro e w1 ⟨hb, rfl⟩
 have HB := xab (fun o => hb.alloc hb.size o)
 clear hb
 go_wp2
 go_ret3
 exact ⟨rfl, HB.out _⟩
theorem docText_ok (s : ByteArray) (ts : List Tr) (hp : xav s = .ok ts) (w : World) (hg : Glob w) : Calls Tryz.prog 6 #[.string s] w fun e w' => e = .returned (.tuple #[.string ⟨(wrL stC ts).toArray⟩, .int .i64 0, .int .i64 0]) ∧ Below w.heap.size w w' := by
 have HD := xab (doc_ok s ts hp w hg)
 have HW := xab (docWrite_any _ (catT ts) (Nat.lt_succ_self _) (xh1 s ts hp) ⟨_, _, (xlu s ts hp).choose_spec⟩ (by have := text_len hp; rw [xse]; omega))
 rw [xse] at HW
 clear hp hg
 go_enter Tryz.func6, Tryz.ntmps6
 go_wp2_with fail
 refine HD.out.mono ?_
 rintro e w1 ⟨hb, a, n, c, rfl, hk⟩
 have HB := xab (fun o => hb.alloc hb.size o)
 have HC := xab (fun o => HW.out (w1.alloc o) _ a n c (xbu (show Kids w1 _ (.slice a n c) (catT ts).kids from hk) ((Below.refl w1.heap.size w1).alloc (Nat.le_refl _) o)))
 clear hb hk
 go_wp2_with fail
 refine (HC.out _).mono ?_
 rintro e w2 ⟨rfl, hb2⟩
 have HE := xab ((HB.out _).trans (hb2.mono (HB.out _).size))
 clear hb2
 go_wp2
 go_ret3
 exact ⟨rfl, HE.out⟩
theorem docText_any (s : ByteArray) (w : World) (hg : Glob w) : Calls Tryz.prog 6 #[.string s] w fun e w' => e = .returned (.tuple #[.string ⟨(xb8 s).1.toArray⟩, .int .i64 (xb8 s).2.1, .int .i64 ((xb8 s).2.2 : Nat)]) ∧ Below w.heap.size w w' := by
 cases hp : xav s with
 | ok ts =>
  have e : xb8 s = (wrL stC ts, 0, 0) := by unfold xb8; rw [hp]
  rw [e]
  exact docText_ok s ts hp w hg
 | error x =>
  obtain ⟨er, p⟩ := x
  have e : xb8 s = ([], er, p) := by unfold xb8; rw [hp]
  rw [e]
  exact docText_err s er p hp (xfn s er p hp).1 w hg
theorem eql_fault (a b : Int) (w : World) : (binOp .eql 24 (.agg #[.int .i64 a, .int .i64 b]) (.agg #[.int .i64 a, .int .i64 b])).run Tryz.prog w = .ok (.bool true) w := by
 rw [run_eql_struct, run_equal_fault]
 simp
namespace texts
theorem core (s S : ByteArray) (E : Int) (p : Nat) (w : World)
  (HW : Hid (∀ W, Below w.heap.size w W → Calls Tryz.prog 7 #[] W fun e w' => e = .returned (.bool true) ∧ Below W.heap.size W w'))
  (HA : Hid (Calls Tryz.prog 5 #[.string s] w fun e w' => e = .returned (.tuple #[.string S, .agg #[.int .i64 E, .int .i64 p]]) ∧ Below w.heap.size w w'))
  (HD : Hid (∀ W, Below w.heap.size w W → Calls Tryz.prog 6 #[.string s] W fun e w' => e = .returned (.tuple #[.string S, .int .i64 E, .int .i64 p]) ∧ Below W.heap.size W w')) :
  Calls Tryz.prog 3 #[.string s] w fun e w' => e = .returned (.bool true) ∧ Below w.heap.size w w' := by
 have heq := fun W => eql_fault E (p : Int) W
 go_enter Tryz.func3, Tryz.ntmps3
 go_wp2_with fail
 refine HA.out.mono ?_
 rintro e w1 ⟨rfl, hb1⟩
 have B1 := xab (hb1.alloc hb1.size (.cells #[.int .i64 E, .int .i64 p] 24))
 clear hb1
 go_wp2_with fail
 refine (HD.out _ B1.out).mono ?_
 rintro e w2 ⟨rfl, hb2⟩
 have B2 := xab (And.intro (B1.out.trans (hb2.mono B1.out.size)) ((hb2.block w1.heap.size (by rw [World.size_alloc]; omega)).trans (heap_alloc_new w1 (.cells #[.int .i64 E, .int .i64 p] 24))))
 clear hb2
 go_wp2_with fail
 refine (HW.out _ B2.out.1).mono ?_
 rintro e w3 ⟨rfl, hb3⟩
 have v1 := (hb3.block _ (Array.getElem?_eq_some_iff.1 B2.out.2).1).trans B2.out.2
 have c0 : w3.cell? ⟨w1.heap.size, 0, none⟩ = some (.int .i64 E) := by simp [World.cell?, v1]
 have c1 : w3.cell? ⟨w1.heap.size, 1, none⟩ = some (.int .i64 p) := by simp [World.cell?, v1]
 have HB := xab (B2.out.1.trans (hb3.mono B2.out.1.size))
 clear hb3 v1
 go_wp2
 go_ret
 exact ⟨by simp, HB.out⟩
theorem walk (s : ByteArray) (w : World) (hg : Glob w) (ht : Tab w) : Calls Tryz.prog 3 #[.string s] w fun e w' => e = .returned (.bool true) ∧ Below w.heap.size w w' := by
 have hG := fun (W : World) (h : Below w.heap.size w W) => hg.below h (Nat.le_refl _)
 have hT := fun (W : World) (h : Below w.heap.size w W) => ht.below h (Nat.le_refl _)
 exact core s ⟨(xb8 s).1.toArray⟩ (xb8 s).2.1 (xb8 s).2.2 w (xab fun W h => xqp W (hG W h) (hT W h)) (xab (xdm s w hg ht)) (xab fun W h => docText_any s W (hG W h))
end texts
end Go.Proofs.YtaapmphdnholaaaGreatDoor
