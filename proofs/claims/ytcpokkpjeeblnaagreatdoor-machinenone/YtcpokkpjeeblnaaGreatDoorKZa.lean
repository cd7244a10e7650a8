/- scan, the program's: within, isBlank, isDigit. -/
import Derived.Test.YtcpokkpjeeblnaaGreatDoorKBa
import Derived.Test.YtcpokkpjeeblnaaGreatDoorKUk
import Derived.Test.YtcpokkpjeeblnaaGreatDoorKSa
import Derived.Test.YtcpokkpjeeblnaaGreatDoorKShelf
import Derived.Lib.IndexAny
import Derived.Shelf.Strconv.Clone
import Derived.Shelf.Strings.SlTrimAscii
set_option maxRecDepth 100000
set_option maxHeartbeats 8000000
namespace Go.Proofs.YtcpokkpjeeblnaaGreatDoor
open Go.RowKit
open scanP
variable {P : Prop}
theorem bza0 (h : P := by
 go_wp2_with fail
 refine (xbc R0.out (by omega) 92 _ rfl).mono ?_;rintro e w1 ⟨rfl, hb1⟩;have B1 := hideT hb1;clear hb1
 go_wp2_with fail
 refine (xbc B1.out (by simp; omega) (s[k + 1]'hlt2) _ rfl).mono ?_;rintro e w2 ⟨rfl, hb2⟩;have B2 := hideT hb2;clear hb2 B1;go_wp2;exact ⟨⟨k + 2, t ++ [92] ++ [s[k + 1]'hlt2], by omega, by go_num, B2.out, by simp; omega, HN2⟩, by simp [intOf]; omega⟩) : P := h
theorem bza1 (h : P := by
 by_cases hD0 : j = 0
 ·have t1 : ((k0 : Int) + (j : Int) == (k0 : Int)) = true := by rw [beq_iff_eq]; omega
  have e : numR s.data.toList k0 = (0, 0, 5) := by unfold numR; simp only; rw [if_pos (HD.out ▸ hD0)]
  have HN := hideT e;clear e hD0;go_wp2
  go_ret3
  exact ⟨by rw [HN.out]; rfl, rfl⟩
 ·have t1 : ((k0 : Int) + (j : Int) == (k0 : Int)) = false := qn;have e : numR s.data.toList k0 = (dgV ((s.data.toList.drop k0).take j), k0 + j, 0) := by unfold numR; simp only; rw [<- HD.out, if_neg hD0, if_neg (by omega)]
  have HN := hideT e;clear e hD0;go_wp2
  go_ret3
  exact ⟨by rw [HN.out]; show _ = Ending.returned (.tuple #[_, .int .i64 ((k0 + j : Nat) : Int), _]); rw [Int.natCast_add]; rfl, rfl⟩) : P := h
theorem bza2 (h : P := by
 have HSQ := hideT hsp;clear he hsp HN HK HE
 go_wp2_with fail
 refine (HSP.out _).mono ?_;rintro e w0 ⟨rfl, rfl⟩;rw [HSQ.out]
 go_wp2_with fail
 refine (xbc R0.out (by omega) (s[k + 1]'hlt2) _ rfl).mono ?_;rintro e w2 ⟨rfl, hb2⟩;have B2 := hideT hb2;clear hb2;go_wp2;exact ⟨⟨k + 2, t ++ [s[k + 1]'hlt2], by omega, by go_num, B2.out, by simp; omega, HN2⟩, by simp [intOf]; omega⟩) : P := h
theorem bza3 (h : P := by
 go_wp2_with fail
 refine (xbc R0.out (by omega) 10 _ rfl).mono ?_;rintro e w3 ⟨rfl, hb2⟩;have B2 := hideT hb2;clear hb2
 go_wp2_with fail
 refine (xj7 B2.out).mono ?_;rintro e w4 ⟨rfl, hb3⟩;have B3 := hideT hb3;clear hb3
 go_wp2_with fail
 refine (HW.out _ _).mono ?_;rintro e w5 ⟨rfl, rfl⟩;rw [HY.out];go_wp2
 go_ret3
 exact ⟨by rw [HN.out]; rfl, B3.out⟩) : P := h
theorem bza4 (h : P := by
 have hx := HX.out;have s1 : (f0 : Int) <= (f0 : Int) + (k : Int) := by omega
 have s2 : (f0 : Int) + (k : Int) <= (s.size : Int) := by omega
 go_wp2_with fail
 refine (HC.out _).mono ?_;rintro e w3 ⟨rfl, hb⟩;have B := hideT hb;clear hb;go_wp2
 go_ret2
 exact ⟨by rw [Int.natCast_add]; rfl, B.out⟩) : P := h
theorem bza5 (h : P := by
 go_enter Tryz.func257, Tryz.ntmps257;go_wp2
 go_ret3
 exact ⟨by rw [HN.out]; rfl, Below.refl _ _⟩) : P := h
theorem bza6 (h : P := by
 go_enter Tryz.func208, Tryz.ntmps208
 go_wp2_with fail
 refine (HI.out _).mono ?_;rintro e w1 ⟨rfl, rfl⟩
 go_wp2_with fail
 refine (HP.out _).mono ?_;rintro e w2 ⟨rfl, rfl⟩;go_wp2
 go_ret3
 exact ⟨by rw [HN.out]; rfl, Below.refl _ _⟩) : P := h
theorem bza7 (h : P := by
 have HSQ := hideT hsp;clear he hsp HN HK HE
 go_wp2_with fail
 refine (HSP.out _).mono ?_;rintro e w0 ⟨rfl, rfl⟩;rw [HSQ.out];exact bza0) : P := h
theorem bza8 (h : P := by
 go_wp2
 go_ret3
 exact ⟨by rw [HN.out]; rfl, R0.out.2⟩) : P := h
theorem bza9 (h : P := by
 rw [e];go_enter Tryz.func299, Tryz.ntmps299;go_wp2;go_ret;exact ⟨rfl, rfl⟩) : P := h
theorem bza10 (h : P := by
 go_enter Tryz.func207, Tryz.ntmps207;go_wp2;go_ret;exact ⟨rfl, rfl⟩) : P := h
namespace prg
theorem xes (s : ByteArray) (i : Int) (hs : s.size <= 140737488355000) (w : World) : Calls Tryz.prog 206 #[.string s, .int .i64 i] w fun e w' => e = .returned (.int .i64 (insN s.size i : Nat)) /\ w' = w := by
 go_enter Tryz.func206, Tryz.ntmps206;go_wp2
 all_goals (go_ret; exact ⟨congrArg (fun z : Int => Ending.returned (.int .i64 z)) (by unfold insN; omega), rfl⟩)
theorem xj6 (c : UInt8) (w : World) : Calls Tryz.prog 207 #[.int .u8 c.toNat] w fun e w' => e = .returned (.bool (decide (c = 32 \/ c = 9))) /\ w' = w := by
 by_cases h1 : c = 32
 ·have c1 := xc3 (z := 32) rfl h1;rw [decide_eq_true (show c = 32 \/ c = 9 from .inl h1)];clear h1;exact bza10
 ·have c1 := xam (z := 32) rfl h1;by_cases h2 : c = 9
  ·have c2 := xc3 (z := 9) rfl h2;rw [decide_eq_true (show c = 32 \/ c = 9 from .inr h2)];clear h1 h2;exact bza10
  ·have c2 := xam (z := 9) rfl h2;rw [decide_eq_false (show ¬ (c = 32 \/ c = 9) from fun h => h.elim h1 h2)];clear h1 h2;exact bza10
theorem blanks_doc (s : ByteArray) (i : Int) (hs : s.size <= 140737488355000) (w : World) : Calls Tryz.prog 169 #[.string s, .int .i64 i] w fun e w' => e = .returned (.int .i64 (xab s.data.toList (insN s.size i) : Nat)) /\ w' = w := by
 have HI := hideT (xes s i hs);have HB := hideT xj6;have hk0 := xlo s.size i;generalize insN s.size i = k0 at *;go_enter Tryz.func169, Tryz.ntmps169
 go_wp2_with fail
 refine (HI.out _).mono ?_;rintro e w1 ⟨rfl, rfl⟩
 go_wp2_with fail
 go_loopw [1] (fun v wr => ∃ k : Nat, k <= s.size /\ v = .int .i64 k /\ Hid (k + blkN (s.data.toList.drop k) = xab s.data.toList k0) /\ wr = w1) (fun v _ => s.size - (intOf v).toNat)
 case atStart => exact ⟨k0, hk0, rfl, hideT rfl, rfl⟩
 case round =>
  obtain ⟨k, hk, rfl, HE, rfl⟩ := hrel;by_cases hlt : k < s.size
  ·have i1 : (k : Int) < (s.size : Int) := by omega
   have i2 : (0 : Int) <= (k : Int) := by omega
   have hst := xhh (l := s.data.toList) (k := k) hlt;rw [xe6 s k hlt] at hst;have HS := hideT hst;clear hst;by_cases hc : s[k]'hlt = 32 \/ s[k]'hlt = 9
   ·have HR := hideT (show k + 1 + blkN (s.data.toList.drop (k + 1)) = xab s.data.toList k0 by
     have h := HE.out;rw [HS.out, if_pos hc] at h;omega)
    have HC := hideT (decide_eq_true hc);clear hc
    go_wp2_with fail
    refine (HB.out _ _).mono ?_;rintro e w2 ⟨rfl, rfl⟩;rw [HC.out];go_wp2;exact ⟨⟨k + 1, by omega, by go_num, HR, by simp⟩, by simp [intOf]; omega⟩
   ·have HR := hideT (show k = xab s.data.toList k0 by
     have h := HE.out;rw [HS.out, if_neg hc] at h;omega)
    have HC := hideT (decide_eq_false hc);clear hc
    go_wp2_with fail
    refine (HB.out _ _).mono ?_;rintro e w2 ⟨rfl, rfl⟩;rw [HC.out];go_wp2;go_ret;exact ⟨congrArg (fun n : Nat => Ending.returned (.int .i64 (n : Int))) HR.out, rfl⟩
  ·have i1 : ((k : Int) < (s.size : Int)) = False := qg;have HR := hideT (show k = xab s.data.toList k0 by
    have h := HE.out;rw [blk_end (by show s.size <= k; omega)] at h;omega)
   go_wp2;go_ret;exact ⟨congrArg (fun n : Nat => Ending.returned (.int .i64 (n : Int))) HR.out, rfl⟩
theorem xoc (l : List UInt8) (c : UInt8) (h : l.contains c = false) : Lib.indexByte l c < 0 := by
 rw [Lib.contains_iff_indexByte, decide_eq_false_iff_not] at h;omega
theorem xod (l : List UInt8) (c : UInt8) (h : l.contains c = true) : 0 <= Lib.indexByte l c := by
 rw [Lib.contains_iff_indexByte, decide_eq_true_iff] at h;exact h
theorem all_two (l : List UInt8) : (l.all fun b => decide (b ≠ 10) && decide (b ≠ 0)) = (!l.contains 10 && !l.contains 0) := by
 induction l with
 | nil => rfl
 | cons b r ih =>
  rw [List.all_cons, ih, List.contains_cons, List.contains_cons];by_cases h1 : b = 10
  ·simp [h1]
  ·by_cases h2 : b = 0
   ·simp [h2]
   ·have h3 : ((10 : UInt8) == b) = false := by rw [beq_eq_false_iff_ne]; exact fun h => h1 h.symm
    have h4 : ((0 : UInt8) == b) = false := by rw [beq_eq_false_iff_ne]; exact fun h => h2 h.symm
    simp [h1, h2, h3, h4]
theorem name_doc (s : ByteArray) (w : World) : Calls Tryz.prog 68 #[.string s] w fun e w' => e = .returned (.bool (xfy s.data.toList)) /\ w' = w := by
 have hsz : s.data.toList.length = s.size := rfl;by_cases h1 : s.size < 1
 ·have e : xfy s.data.toList = false := by unfold xfy; rw [hsz, decide_eq_false (by omega)]; rfl
  have x0 : s.toList = [] := by rw [ByteArray.toList_eq]; exact List.eq_nil_of_length_eq_zero (by omega)
  have x1 : s.toList.isEmpty = true := by rw [x0]; rfl
  rw [e];clear e;go_enter Tryz.func68, Tryz.ntmps68;go_wp2;go_ret;exact ⟨rfl, rfl⟩
 ·have x0 : (s.toList = []) = False := by
   rw [eq_iff_iff, iff_false, ByteArray.toList_eq];intro h;have e := congrArg List.length h;rw [hsz] at e;have : s.size = 0 := e;omega
  have x1 : s.toList.isEmpty = false := by
   rw [List.isEmpty_eq_false_iff];exact fun h => (x0 ▸ h : False)
  by_cases h2 : 64 < s.size
  ·have e : xfy s.data.toList = false := by unfold xfy; rw [hsz, decide_eq_false (show ¬ s.size <= 64 by omega)]; simp
   have x2 : (64 : Int) < (s.size : Int) := by omega
   rw [e];clear e;go_enter Tryz.func68, Tryz.ntmps68;go_wp2;go_ret;exact ⟨rfl, rfl⟩
  ·have x2 : ((64 : Int) < (s.size : Int)) = False := qg;have e : xfy s.data.toList = (!s.data.toList.contains 10 && !s.data.toList.contains 0) := by
    unfold xfy;rw [hsz, decide_eq_true (by omega), decide_eq_true (by omega), all_two];rfl
   have E := hideT e;clear e;generalize xfy s.data.toList = nb at *;have H := hideT (Tryz.strings_IndexByte s);have P := hideT (xod s.data.toList);have N := hideT (xoc s.data.toList);go_enter Tryz.func68, Tryz.ntmps68
   go_wp2_with fail
   refine (H.out _ _).mono ?_;rintro e w1 ⟨rfl, rfl⟩;cases h10 : s.data.toList.contains 10 with
   | true =>
    have E2 := hideT (show nb = false by rw [E.out, h10]; rfl);have q := P.out 10 h10;clear h10 E
    go_wp2_with fail
    go_ret;exact ⟨by rw [E2.out]; rfl, rfl⟩
   | false =>
    have E2 := hideT (show nb = !s.data.toList.contains 0 by rw [E.out, h10]; rfl);have q := N.out 10 h10;clear h10 E
    go_wp2_with fail
    refine (H.out _ _).mono ?_;rintro e w2 ⟨rfl, rfl⟩;cases h0 : s.data.toList.contains 0 with
    | true =>
     have E3 := hideT (show nb = false by rw [E2.out, h0]; rfl);have q2 := P.out 0 h0;clear h0 E2
     go_wp2_with fail
     go_ret;exact ⟨by rw [E3.out]; exact congrArg (fun b => Ending.returned (Value.bool b)) (decide_eq_false (by omega)), rfl⟩
    | false =>
     have E3 := hideT (show nb = true by rw [E2.out, h0]; rfl);have q2 := N.out 0 h0;clear h0 E2
     go_wp2_with fail
     go_ret;exact ⟨by rw [E3.out]; rfl, rfl⟩
theorem xof : ∀ (l : List UInt8) (h : dgN l < l.length), isDg (l[dgN l]'h) = false
 | [], h => by simp [dgN] at h
 | b :: r, h => by
  by_cases hb : isDg b = true
  ·have e : dgN (b :: r) = dgN r + 1 := by rw [dgN, if_pos hb]
   have h2 : dgN r < r.length := by rw [e, List.length_cons] at h; omega
   have := xof r h2;simp only [e, List.getElem_cons_succ];exact this
  ·have e : dgN (b :: r) = 0 := by rw [dgN, if_neg hb]
   simp only [e, List.getElem_cons_zero];simpa using hb
theorem isDigit_any (c : UInt8) (w : World) : Calls Tryz.prog 299 #[.int .u8 c.toNat] w fun e w' => e = .returned (.bool (isDg c)) /\ w' = w := by
 by_cases h1 : 48 <= c.toNat
 ·have c1 : (48 : Int) <= (c.toNat : Int) := by omega
  by_cases h2 : c.toNat <= 57
  ·have c2 : (c.toNat : Int) <= 57 := by omega
   have e : isDg c = true := by unfold isDg; simp [h1, h2]
   exact bza9
  ·have c2 : ((c.toNat : Int) <= 57) = False := qg;have e : isDg c = false := by unfold isDg; simp [h2]
   exact bza9
 ·have c1 : ((48 : Int) <= (c.toNat : Int)) = False := qg;have e : isDg c = false := by unfold isDg; simp [h1]
  exact bza9
theorem number_doc (s : ByteArray) (i : Int) (hs : s.size <= 140737488355000) (w : World) : Calls Tryz.prog 254 #[.string s, .int .i64 i] w fun e w' => e = .returned (.tuple #[.int .i64 ((numR s.data.toList (insN s.size i)).1 : Nat), .int .i64 ((numR s.data.toList (insN s.size i)).2.1 : Nat), .int .i64 ((numR s.data.toList (insN s.size i)).2.2 : Nat)]) /\ w' = w := by
 have HI := hideT (xes s i hs);have HB := hideT isDigit_any;have hk0 := xlo s.size i;generalize insN s.size i = k0 at *;obtain ⟨D, hD⟩ : ∃ D, D = dgN (s.data.toList.drop k0) := ⟨_, rfl⟩;have hDs : k0 + D <= s.size := by
  have h := dg_le (s.data.toList.drop k0);rw [<- hD, List.length_drop] at h;have : s.data.toList.length = s.size := rfl;omega
 have HD := hideT hD;clear hD;have HLT := hideT (dgV_lt (s.data.toList.drop k0) D (by rw [HD.out]; exact Nat.le_refl _));have HDG := hideT (fun j (h : j < D) => dg_at (s.data.toList.drop k0) j (by rw [<- HD.out]; exact h));have HST := hideT (show ∀ h : k0 + D < s.size, isDg (s[k0 + D]'h) = false from fun h => by
  have hsz : s.data.toList.length = s.size := rfl;have hl : dgN (s.data.toList.drop k0) < (s.data.toList.drop k0).length := by rw [<- HD.out, List.length_drop]; omega
  have := xof _ hl;rw [List.getElem_drop] at this;have e2 : s.data.toList[k0 + dgN (s.data.toList.drop k0)]'(by rw [<- HD.out]; exact h) = s[k0 + D]'h := by
   simp only [<- HD.out]; rfl
  rw [<- e2]; exact this)
 go_enter Tryz.func254, Tryz.ntmps254
 go_wp2_with fail
 refine (HI.out _).mono ?_;rintro e w1 ⟨rfl, rfl⟩
 go_wp2_with fail
 go_loopw [8, 9] (fun n v wr => ∃ j : Nat, j <= D /\ j <= 9 /\ n = .int .i64 ((dgV ((s.data.toList.drop k0).take j) : Nat) : Int) /\ v = .int .i64 ((k0 : Int) + (j : Int)) /\ wr = w1) (fun _ v _ => k0 + D - (intOf v).toNat)
 case atStart => exact ⟨0, by omega, by omega, rfl, by simp, rfl⟩
 case round =>
  obtain ⟨j, hj, hj9, rfl, rfl, rfl⟩ := hrel;clear HI;by_cases hjl : j < D
  ·obtain ⟨c, hc1, hc2⟩ := HDG.out j hjl;have hml : k0 + j < s.size := by omega
   have hcc : c = s[k0 + j]'hml := by
    rw [List.getElem?_drop, List.getElem?_eq_getElem (show k0 + j < s.data.toList.length from hml)] at hc1;exact (Option.some.inj hc1).symm
   have hsn : dgV ((s.data.toList.drop k0).take (j + 1)) = 10 * dgV ((s.data.toList.drop k0).take j) + ((s[k0 + j]'hml).toNat - 48) := by
    obtain ⟨hl, e⟩ := List.getElem?_eq_some_iff.1 hc1;rw [List.take_succ_eq_append_getElem hl, xlr, e, hcc]
   have hlt := HLT.out j hj;have hp := pow_nine j (by omega);have HQ := hideT (hcc ▸ hc2);unfold isDg at hc2;rw [Bool.and_eq_true, decide_eq_true_iff, decide_eq_true_iff, hcc] at hc2;have HSN := hideT hsn;have HC := hideT hc2;generalize dgV ((s.data.toList.drop k0).take j) = n at *;have b1 : (n : Int) <= 1000000000 := by omega
   have b2 : (0 : Int) <= (n : Int) := by omega
   have g1 : (k0 : Int) + (j : Int) < (s.size : Int) := by omega
   have g3 : (0 : Int) <= (k0 : Int) + (j : Int) := by omega
   clear hsn hlt hp hc1 hc2 hcc
   go_wp2_with fail
   refine (HB.out _ _).mono ?_;rintro e w2 ⟨rfl, rfl⟩;rw [HQ.out];by_cases h9 : j = 9
   ·have t9 : ((k0 : Int) + (j : Int) - (k0 : Int) == 9) = true := by rw [beq_iff_eq]; omega
    have HN := hideT (show numR s.data.toList k0 = (0, 0, 1) by unfold numR; simp only; rw [<- HD.out, if_neg (by omega), if_pos (by omega)]);clear h9;go_wp2
    go_ret3
    exact ⟨by rw [HN.out]; rfl, rfl⟩
   ·have t9 : ((k0 : Int) + (j : Int) - (k0 : Int) == 9) = false := qn;have hc := HC.out;have q1 : (48 : Int) <= ((s[k0 + j]'hml).toNat : Int) := by omega
    have q2 : ((s[k0 + j]'hml).toNat : Int) <= 57 := by omega
    go_wp2_with fail
    exact ⟨⟨j + 1, by omega, by omega, by rw [HSN.out]; congr 1; omega, by congr 1, trivial⟩, by simp [intOf]; omega⟩
  ·obtain rfl : j = D := by omega
   have HR := 0;by_cases hml : k0 + j < s.size
   ·have g1 : (k0 : Int) + (j : Int) < (s.size : Int) := by omega
    have g3 : (0 : Int) <= (k0 : Int) + (j : Int) := by omega
    have HQ := hideT (HST.out hml)
    go_wp2_with fail
    refine (HB.out _ _).mono ?_;rintro e w2 ⟨rfl, rfl⟩;rw [HQ.out];exact bza1
   ·have g1 : ((k0 : Int) + (j : Int) < (s.size : Int)) = False := qg;exact bza1
end prg
end Go.Proofs.YtcpokkpjeeblnaaGreatDoor
namespace Go.Proofs.YtcpokkpjeeblnaaGreatDoor
open Go.RowKit Go.Shelf
open scanP
namespace prg
def xj9 : Go.Shelf.Ren := ⟨fun | 316 => 50 | n => n, fun | 37 => 77 | 127 => 119 | n => n, fun | n => n⟩
theorem lays316 : Go.Proofs.LaysM.n316 Tryz.prog xj9 := {
 mixed := by kernel_rfl
 f316 := Tryz.func50.trans (congrArg some (by kernel_rfl))
 t0 := Tryz.underlying0
 a0 := Tryz.isAgg0
 z0 := Tryz.sizeOf0
 v0 := Tryz.zeroValue0
 t3 := Tryz.underlying3
 a3 := Tryz.isAgg3
 z3 := Tryz.sizeOf3
 v3 := Tryz.zeroValue3
 t4 := Tryz.underlying4
 a4 := Tryz.isAgg4
 z4 := Tryz.sizeOf4
 v4 := Tryz.zeroValue4
 t9 := Tryz.underlying9
 a9 := Tryz.isAgg9
 z9 := Tryz.sizeOf9
 v9 := Tryz.zeroValue9
 t37 := Tryz.underlying77
 a37 := Tryz.isAgg77
 z37 := Tryz.sizeOf77
 v37 := Tryz.zeroValue77
 t127 := Tryz.underlying119
 a127 := Tryz.isAgg119
 z127 := Tryz.sizeOf119
 v127 := Tryz.zeroValue119
 t5 := Tryz.underlying5
 a5 := Tryz.isAgg5
 z5 := Tryz.sizeOf5
 v5 := Tryz.zeroValue5
 i0 := by kernel_rfl
 i3 := by kernel_rfl
 i4 := by kernel_rfl
 i5 := by kernel_rfl
 i9 := by kernel_rfl
 i37 := by kernel_rfl
 i127 := by kernel_rfl }
theorem clone_any (s : ByteArray) (w : World) (hs : s.size <= 140737488355000) : Calls Tryz.prog 34 #[.string s] w fun e w' => e = .returned (.string s) /\ Below w.heap.size w w' := by
 have H := hideT (fun w => Any.stringslite_Clone lays316 s w (by omega));go_enter Tryz.func34, Tryz.ntmps34
 go_wp2_with fail
 refine (H.out _).mono ?_;rintro e w1 ⟨rfl, hb⟩;have B := hideT hb;clear hb;go_wp2;go_ret;exact ⟨rfl, B.out⟩
theorem xiq : ∀ (n : Nat) (l : List UInt8), n <= l.length -> Lib.trimRightS (l.take n) [32, 9] = l.take (rtN n l)
 | 0, l, _ => by simp [Lib.trimRightS, rtN]
 | n + 1, l, h => by
  have hl : n < l.length := by omega
  have e1 : l.take (n + 1) = l.take n ++ [l[n]] := List.take_succ_eq_append_getElem hl;have e2 : l[n]? = some l[n] := List.getElem?_eq_getElem hl;unfold rtN;rw [e2];by_cases hb : l[n] = 32 \/ l[n] = 9
  ·rw [if_pos (hb.imp (fun h => by rw [h]) (fun h => by rw [h])), <- xiq n l (by omega), e1];unfold Lib.trimRightS;rw [List.reverse_append, List.reverse_singleton, List.singleton_append, List.dropWhile_cons, if_pos (by rcases hb with h | h <;> rw [h] <;> rfl)]
  ·rw [if_neg (by rintro (h | h); exact hb (.inl (Option.some.inj h)); exact hb (.inr (Option.some.inj h))), e1];unfold Lib.trimRightS;have hc : ([32, 9] : List UInt8).contains l[n] = false := by
    simp only [List.contains_cons, List.contains_nil, Bool.or_false, Bool.or_eq_false_iff, beq_eq_false_iff_ne];exact ⟨fun h => hb (.inl h), fun h => hb (.inr h)⟩
   rw [List.reverse_append, List.reverse_singleton, List.singleton_append, List.dropWhile_cons, if_neg (by rw [hc]; simp), List.reverse_cons, List.reverse_reverse]
theorem trim_any (s : ByteArray) (w : World) (hs : s.size <= 140737488355000) : Calls Tryz.prog 256 #[.string s, .string ⟨#[32, 9]⟩] w fun e w' => e = .returned (.string (bst (Lib.trimRightS s.data.toList [32, 9]))) /\ Below w.heap.size w w' :=
 Any.strings_TrimRight_laid Tryz.lays162 (by kernel_rfl) s ⟨#[32, 9]⟩ w (by omega) (by decide) (ascii_of_all (by decide))
def upN (E : List UInt8) : List UInt8 -> Nat
 | [] => 0
 | b :: r => if E.contains b then 0 else upN E r + 1
theorem up_step {E l : List UInt8} {k : Nat} (h : k < l.length) : upN E (l.drop k) = if E.contains l[k] then 0 else upN E (l.drop (k + 1)) + 1 := by
 rw [List.drop_eq_getElem_cons h]; rfl
theorem up_le (E : List UInt8) : ∀ l : List UInt8, upN E l <= l.length
 | [] => Nat.le_refl _
 | b :: r => by
  have h := up_le E r;unfold upN;split
  ·omega
  ·rw [List.length_cons]; omega
theorem up_ln : ∀ l : List UInt8, upN [10] l = lnN l
 | [] => rfl
 | b :: r => by
  unfold upN lnN;rw [up_ln r];by_cases h : b = 10
  ·rw [if_pos h, if_pos (by rw [h]; rfl)]
  ·rw [if_neg h, if_neg (by simp [h])]
theorem up_wd : ∀ l : List UInt8, upN [10, 59] l = wdN l
 | [] => rfl
 | b :: r => by
  unfold upN wdN;rw [up_wd r];by_cases h : b = 10 \/ b = 59
  ·rw [if_pos h, if_pos (by rcases h with h | h <;> rw [h] <;> rfl)]
  ·rw [if_neg h, if_neg (by simp only [List.contains_cons, List.contains_nil, Bool.or_false, Bool.or_eq_true, beq_iff_eq]; exact h)]
theorem xlv (s E : ByteArray) (i : Int) (hs : s.size <= 140737488355000) (w : World) : Calls Tryz.prog 167 #[.string s, .int .i64 i, .string E] w fun e w' => e = .returned (.tuple #[.string (bst ((s.data.toList.drop (xab s.data.toList (insN s.size i))).take (upN E.data.toList (s.data.toList.drop (xab s.data.toList (insN s.size i)))))), .int .i64 ((xab s.data.toList (insN s.size i) + upN E.data.toList (s.data.toList.drop (xab s.data.toList (insN s.size i))) : Nat) : Int)]) /\ Below w.heap.size w w' := by
 have hsz : s.data.toList.length = s.size := rfl;have HI := hideT (blanks_doc s i hs);have hf0 := xao s.data.toList (insN s.size i) (xlo s.size i);rw [hsz] at hf0;generalize xab s.data.toList (insN s.size i) = f0 at *;obtain ⟨U, hU⟩ : ∃ U, U = upN E.data.toList (s.data.toList.drop f0) := ⟨_, rfl⟩;have hUl : f0 + U <= s.size := by
  have h := up_le E.data.toList (s.data.toList.drop f0);rw [<- hU, List.length_drop, hsz] at h;omega
 rw [<- hU];have HU := hideT hU;clear hU;have HB := hideT (fun (c : UInt8) w => (Tryz.strings_IndexByte E (c.toNat : Nat) w).mono fun e w' h => (show e = .returned (.int .i64 (Lib.indexByte E.data.toList c)) /\ w' = w from ⟨by rw [h.1, Int.toNat_natCast]; simp, h.2⟩));have HC := hideT (fun w => clone_any (bst ((s.data.toList.drop f0).take U)) w (by rw [xbt, List.length_take]; omega));have HX := hideT (ext_bst s f0 U);generalize bst ((s.data.toList.drop f0).take U) = st at *;have b0 : (0 : Int) <= (f0 : Int) := by omega
 go_enter Tryz.func167, Tryz.ntmps167
 go_wp2_with fail
 refine (HI.out _).mono ?_;rintro e w1 ⟨rfl, rfl⟩
 go_wp2_with fail
 go_loopw [9] (fun v wr => ∃ k : Nat, k <= U /\ v = .int .i64 ((f0 : Int) + (k : Int)) /\ Hid (k + upN E.data.toList (s.data.toList.drop (f0 + k)) = U) /\ wr = w1) (fun v _ => f0 + U - (intOf v).toNat)
 case atStart => exact ⟨0, by omega, by simp, hideT (by rw [HU.out]; simp), rfl⟩
 case round =>
  obtain ⟨k, hk, rfl, HE, rfl⟩ := hrel;by_cases hlt : f0 + k < s.size
  ·have i1 : (f0 : Int) + (k : Int) < (s.size : Int) := by omega
   have i2 : (0 : Int) <= (f0 : Int) + (k : Int) := by omega
   have hst := up_step (E := E.data.toList) (l := s.data.toList) (k := f0 + k) hlt;rw [xe6 s (f0 + k) hlt] at hst;have HS := hideT hst;clear hst;cases hc : E.data.toList.contains (s[f0 + k]'hlt) with
   | false =>
    have HR := hideT (show k + 1 + upN E.data.toList (s.data.toList.drop (f0 + (k + 1))) = U by
     have h := HE.out;rw [HS.out, hc] at h;simp only [Bool.false_eq_true, if_false] at h;rw [<- Nat.add_assoc f0 k 1];omega)
    have q := xoc _ _ hc;have hk2 : k + 1 <= U := by have := HR.out; omega
    clear hc HS HE
    go_wp2_with fail
    refine (HB.out _ _).mono ?_;rintro e w2 ⟨rfl, rfl⟩;go_wp2;exact ⟨⟨k + 1, hk2, by congr 1, HR, by simp⟩, by simp [intOf]; omega⟩
   | true =>
    have hkU : k = U := by
     have h := HE.out;rw [HS.out, hc] at h;simpa using h
    have q := xod _ _ hc;clear hc HS HE;subst hkU
    go_wp2_with fail
    refine (HB.out _ _).mono ?_;rintro e w2 ⟨rfl, rfl⟩;exact bza4
  ·have hkU : k = U := by omega
   have i1 : ((f0 : Int) + (k : Int) < (s.size : Int)) = False := qg;subst hkU;exact bza4
theorem line_doc (s : ByteArray) (i : Int) (hs : s.size <= 140737488355000) (w : World) : Calls Tryz.prog 134 #[.string s, .int .i64 i] w fun e w' => e = .returned (.tuple #[.string (bst (xbi s.data.toList (insN s.size i)).1), .int .i64 ((xbi s.data.toList (insN s.size i)).2 : Nat)]) /\ Below w.heap.size w w' := by
 have h := fun w => xlv s ⟨#[10]⟩ i hs w;simp only [up_ln] at h;have H := hideT h;clear h;unfold xbi;simp only;generalize bst ((s.data.toList.drop (xab s.data.toList (insN s.size i))).take (lnN (s.data.toList.drop (xab s.data.toList (insN s.size i))))) = st at *;generalize xab s.data.toList (insN s.size i) + lnN (s.data.toList.drop (xab s.data.toList (insN s.size i))) = z at *;go_enter Tryz.func134, Tryz.ntmps134
 go_wp2_with fail
 refine (H.out _).mono ?_;rintro e w1 ⟨rfl, hb⟩;have B := hideT hb;clear hb;go_wp2
 go_ret2
 exact ⟨rfl, B.out⟩
theorem word_doc (s : ByteArray) (i : Int) (hs : s.size <= 140737488355000) (w : World) : Calls Tryz.prog 210 #[.string s, .int .i64 i] w fun e w' => e = .returned (.tuple #[.string (bst (xcw s.data.toList (insN s.size i)).1), .int .i64 ((xcw s.data.toList (insN s.size i)).2 : Nat)]) /\ Below w.heap.size w w' := by
 have hsz : s.data.toList.length = s.size := rfl;have h := fun w => xlv s ⟨#[10, 59]⟩ i hs w;simp only [up_wd] at h;have H := hideT h;clear h;unfold xcw;simp only;generalize xab s.data.toList (insN s.size i) = f0 at *;have hwl : wdN (s.data.toList.drop f0) <= (s.data.toList.drop f0).length := Nat.le_trans (wd_le _) (xhg _);have ht := fun w => trim_any (bst ((s.data.toList.drop f0).take (wdN (s.data.toList.drop f0)))) w (by rw [xbt, List.length_take, List.length_drop, hsz]; omega);simp only [xbu, xiq _ _ hwl] at ht;have HT := hideT ht;clear ht hwl;generalize bst ((s.data.toList.drop f0).take (wdN (s.data.toList.drop f0))) = st at *;generalize bst ((s.data.toList.drop f0).take (rtN (wdN (s.data.toList.drop f0)) (s.data.toList.drop f0))) = st2 at *;generalize f0 + wdN (s.data.toList.drop f0) = z at *;go_enter Tryz.func210, Tryz.ntmps210
 go_wp2_with fail
 refine (H.out _).mono ?_;rintro e w1 ⟨rfl, hb⟩;have B := hideT hb;clear hb
 go_wp2_with fail
 refine (HT.out _).mono ?_;rintro e w2 ⟨rfl, hb2⟩;have B2 := hideT (B.out.trans (hb2.mono B.out.size));clear hb2;go_wp2
 go_ret2
 exact ⟨rfl, B2.out⟩
end prg
end Go.Proofs.YtcpokkpjeeblnaaGreatDoor
namespace Go.Proofs.YtcpokkpjeeblnaaGreatDoor
open Go.RowKit
open scanP
namespace prg
def UnB (w W : World) (t : List UInt8) : Prop := Lib.IsBuilder 79 5 w.heap.size w.heap.size (Lib.byteCells t) W /\ Below w.heap.size w W
theorem un_new (w : World) : UnB w (w.alloc (.cells #[.pointer none, .slice none 0 0] 79)) [] :=
 ⟨Lib.fresh_isBuilder 79 5 w, Bal w _⟩
variable {w W : World} {t : List UInt8}
theorem xbc (h : UnB w W t) (ht : t.length <= 140737488355000) (c : UInt8) (z : Int) (hz : (c.toNat : Int) = z) : Calls Tryz.prog 195 #[.pointer (some ⟨w.heap.size, 0, none⟩), .int .u8 z] W fun e w' => e = .returned .nilIface /\ UnB w w' (t ++ [c]) := by
 refine (xb6 w.heap.size w.heap.size _ z W h.1 (by rw [Lib.byteCells_length]; omega) h.2.size).mono ?_;rintro e w1 ⟨rfl, h1, hb1, _⟩;refine ⟨rfl, .inr ?_, h.2.trans hb1⟩;subst hz;rw [cells_app];exact h1
theorem xj7 (h : UnB w W t) : Calls Tryz.prog 38 #[.pointer (some ⟨w.heap.size, 0, none⟩)] W fun e w' => e = .returned (.string (bst t)) /\ Below w.heap.size w w' := by
 refine (xcv w.heap.size w.heap.size t W h.1 h.2.size).mono ?_;rintro e w1 ⟨rfl, hb1⟩;exact ⟨rfl, h.2.trans hb1⟩
def xm3 (d : UInt8) : Bool := [46, 91, 42, 94, 36, 38].contains d
theorem kept_eq (d c : UInt8) : xgp d c = (decide (c ≠ d) || xm3 d) := by
 unfold xgp xm3;by_cases h : c = d
 ·subst h;simp [Bool.or_assoc]
 ·simp [h]
theorem xj8 (d : UInt8) (w : World) : Calls Tryz.prog 305 #[.int .u8 d.toNat] w fun e w' => e = .returned (.bool (xm3 d)) /\ w' = w := by
 have H := hideT (Tryz.strings_IndexByte ⟨#[46, 91, 42, 94, 36, 38]⟩ (d.toNat : Nat));have ed : (((d.toNat : Nat) : Int).toNat.toUInt8) = d := by simp
 rw [ed] at H;have e : (⟨#[46, 91, 42, 94, 36, 38]⟩ : ByteArray).data.toList = [46, 91, 42, 94, 36, 38] := rfl;rw [e] at H;have E := hideT (show xm3 d = decide (0 <= Lib.indexByte [46, 91, 42, 94, 36, 38] d) from Lib.contains_iff_indexByte _ _);clear ed e;generalize Lib.indexByte [46, 91, 42, 94, 36, 38] d = z at *;go_enter Tryz.func305, Tryz.ntmps305
 go_wp2_with fail
 refine (H.out _).mono ?_;rintro e w1 ⟨rfl, rfl⟩;go_wp2;go_ret;exact ⟨by rw [E.out]; rfl, rfl⟩
theorem xoe (s : ByteArray) (a0 : Nat) (d : UInt8) (ln : Bool) (ha : a0 <= s.size) (h10d : d ≠ 10) (h92d : d ≠ 92) (hs : s.size <= 140737488355000) (w : World) : Calls Tryz.prog 257 #[.string s, .int .i64 a0, .int .u8 d.toNat, .bool ln] w fun e w' => e = .returned (.tuple #[.string (bst (unR d ln (s.data.toList.drop a0) a0 []).1), .int .i64 ((unR d ln (s.data.toList.drop a0) a0 []).2.1 : Nat), .int .i64 ((unR d ln (s.data.toList.drop a0) a0 []).2.2 : Nat)]) /\ Below w.heap.size w w' := by
 have HSP := hideT (xj8 d);have x1 : ((a0 : Int) < 0) = False := qg;have x2 : ((s.size : Int) < (a0 : Int)) = False := qg;have x3 := xam (z := 10) rfl h10d;have x4 := xam (z := 92) rfl h92d;have HN0 := hideT (un_new w);generalize hRR : unR d ln (s.data.toList.drop a0) a0 [] = RR;have HRR := hideT hRR;have H10 := hideT h10d;have H92 := hideT h92d;clear hRR h10d h92d;go_enter Tryz.func257, Tryz.ntmps257
 go_wp2_with fail
 clear x1 x2 x3 x4
 go_loopw [1] (fun v wr => ∃ (k : Nat) (t : List UInt8), k <= s.size /\ v = .int .i64 k /\ UnB w wr t /\ t.length <= k /\ Hid (unR d ln (s.data.toList.drop k) k t = RR)) (fun v _ => s.size - (intOf v).toNat)
 case atStart => exact ⟨a0, [], ha, rfl, HN0.out, by simp, HRR⟩
 case round =>
  obtain ⟨k, t, hk, rfl, hB, htk, HE⟩ := hrel;clear HRR HN0;have R0 := hideT hB;clear hB;by_cases hlt : k < s.size
  ·have i1 : (k : Int) < (s.size : Int) := by omega
   have i2 : (0 : Int) <= (k : Int) := by omega
   by_cases hd : s[k]'hlt = d
   ·have HN := hideT (show RR = (t, k + 1, 0) by rw [<- HE.out, un_hit (l := s.data.toList) (k := k) hlt (by rw [xe6 s k hlt]; exact hd)]);have c1 : (((s[k]'hlt).toNat : Int) == (d.toNat : Int)) = true := by rw [hd]; exact beq_self_eq_true _
    clear hd
    go_wp2_with fail
    refine (xj7 R0.out).mono ?_;rintro e w1 ⟨rfl, hb1⟩;have B1 := hideT hb1;clear hb1;go_wp2
    go_ret3
    exact ⟨by rw [HN.out]; rfl, B1.out⟩
   ·have c1 : (((s[k]'hlt).toNat : Int) == (d.toNat : Int)) = false := xam rfl hd;by_cases h10 : s[k]'hlt = 10
    ·have c2 := xc3 (z := 10) rfl h10;have HN := hideT (show RR = ([], 0, 6) by rw [<- HE.out, un_line (l := s.data.toList) (k := k) hlt (by rw [xe6 s k hlt]; exact hd) (by rw [xe6 s k hlt]; exact h10)]);clear hd h10;exact bza8
    ·have c2 := xam (z := 10) rfl h10;by_cases h92 : s[k]'hlt = 92
     ·have c3 := xlq (z := 92) rfl h92;by_cases hl : k + 1 = s.size
      ·have c4 : ((k : Int) == (s.size : Int) - 1) = true := by rw [beq_iff_eq]; omega
       have HN := hideT (show RR = ([], 0, 6) by rw [<- HE.out, un_last (l := s.data.toList) (k := k) hl (by rw [xe6 s k hlt]; exact hd)]);clear hd h10 h92;exact bza8
      ·have hlt2 : k + 1 < s.size := by omega
       have c4 : ((k : Int) == (s.size : Int) - 1) = false := qn;have j1 : (0 : Int) <= (k : Int) + 1 := by omega
       have j2 : (k : Int) + 1 < (s.size : Int) := by omega
       have e92 : s.data.toList[k]'hlt = 92 := h92;have ed : s.data.toList[k]'hlt ≠ d := hd;by_cases h4 : s[k + 1]'hlt2 = 10 /\ ln = false
       ·obtain ⟨h4, rfl⟩ := h4;have c5 := xc3 (z := 10) rfl h4;have HN := hideT (show RR = ([], 0, 6) by rw [<- HE.out, un_stop (l := s.data.toList) (k := k) hlt2 ed e92 h4]);clear hd h10 h92 h4 e92 ed;exact bza8
       ·have HN := hideT (show unR d ln (s.data.toList.drop (k + 2)) (k + 2) (t ++ ((if xgp d (s[k + 1]'hlt2) then [92] else []) ++ [s[k + 1]'hlt2])) = RR by
         rw [<- HE.out, un_pair (l := s.data.toList) (k := k) hlt2 ed e92 (by
          by_cases h : s[k + 1]'hlt2 = 10
          ·right; cases ln with
           | true => rfl
           | false => exact absurd ⟨h, rfl⟩ h4
          ·exact .inl h)]
         rfl)
        have HK := hideT (kept_eq d (s[k + 1]'hlt2));by_cases h5 : s[k + 1]'hlt2 = 10
        ·have c5 := xc3 (z := 10) rfl h5;have hln : ln = true := by
          cases ln with
          | true => rfl
          | false => exact absurd ⟨h5, rfl⟩ h4
         subst hln;clear hd h10 h92 h4 e92 ed h5;by_cases he : s[k + 1]'hlt2 = d
         ·have c6 : (((s[k + 1]'hlt2).toNat : Int) != (d.toNat : Int)) = false := xlq rfl he;cases hsp : xm3 d with
          | true =>
           have HN2 := hideT (show unR d true (s.data.toList.drop (k + 2)) (k + 2) (t ++ [92] ++ [s[k + 1]'hlt2]) = RR by rw [<- HN.out, HK.out, hsp, Bool.or_true, if_pos rfl, List.append_assoc]);exact bza7
          | false =>
           have HN2 := hideT (show unR d true (s.data.toList.drop (k + 2)) (k + 2) (t ++ [s[k + 1]'hlt2]) = RR by rw [<- HN.out, HK.out, hsp, he]; simp);exact bza2
         ·have c6 : (((s[k + 1]'hlt2).toNat : Int) != (d.toNat : Int)) = true := xlp rfl he;have HN2 := hideT (show unR d true (s.data.toList.drop (k + 2)) (k + 2) (t ++ [92] ++ [s[k + 1]'hlt2]) = RR by rw [<- HN.out, HK.out, decide_eq_true he, Bool.true_or, if_pos rfl, List.append_assoc]);clear he HN HK HE;exact bza0
        ·have c5 := xam (z := 10) rfl h5;clear hd h10 h92 h4 e92 ed h5;by_cases he : s[k + 1]'hlt2 = d
         ·have c6 : (((s[k + 1]'hlt2).toNat : Int) != (d.toNat : Int)) = false := xlq rfl he;cases hsp : xm3 d with
          | true =>
           have HN2 := hideT (show unR d ln (s.data.toList.drop (k + 2)) (k + 2) (t ++ [92] ++ [s[k + 1]'hlt2]) = RR by rw [<- HN.out, HK.out, hsp, Bool.or_true, if_pos rfl, List.append_assoc]);exact bza7
          | false =>
           have HN2 := hideT (show unR d ln (s.data.toList.drop (k + 2)) (k + 2) (t ++ [s[k + 1]'hlt2]) = RR by rw [<- HN.out, HK.out, hsp, he]; simp);exact bza2
         ·have c6 : (((s[k + 1]'hlt2).toNat : Int) != (d.toNat : Int)) = true := xlp rfl he;have HN2 := hideT (show unR d ln (s.data.toList.drop (k + 2)) (k + 2) (t ++ [92] ++ [s[k + 1]'hlt2]) = RR by rw [<- HN.out, HK.out, decide_eq_true he, Bool.true_or, if_pos rfl, List.append_assoc]);clear he HN HK HE;exact bza0
     ·have c3 := xlp (z := 92) rfl h92;have HN := hideT (show unR d ln (s.data.toList.drop (k + 1)) (k + 1) (t ++ [s[k]'hlt]) = RR by rw [<- HE.out, un_step (l := s.data.toList) (k := k) hlt hd h10 h92]; rfl);clear hd h10 h92
      go_wp2_with fail
      refine (xbc R0.out (by omega) (s[k]'hlt) _ rfl).mono ?_;rintro e w1 ⟨rfl, hb1⟩;have B1 := hideT hb1;clear hb1;go_wp2;exact ⟨⟨k + 1, t ++ [s[k]'hlt], by omega, by go_num, B1.out, by simp; omega, HN⟩, by simp [intOf]; omega⟩
  ·have i1 : ((k : Int) < (s.size : Int)) = False := qg;have HN := hideT (show RR = ([], 0, 6) by rw [<- HE.out, un_end (by show s.size <= k; omega)]);exact bza8
theorem until_doc (s : ByteArray) (i : Int) (d : UInt8) (ln : Bool) (hs : s.size <= 140737488355000) (w : World) : Calls Tryz.prog 257 #[.string s, .int .i64 i, .int .u8 d.toNat, .bool ln] w fun e w' => e = .returned (.tuple #[.string (bst (xau s.data.toList i d ln).1), .int .i64 ((xau s.data.toList i d ln).2.1 : Nat), .int .i64 ((xau s.data.toList i d ln).2.2 : Nat)]) /\ Below w.heap.size w w' := by
 have hsz : s.data.toList.length = s.size := rfl;by_cases h0 : i < 0
 ·have HN := hideT (show xau s.data.toList i d ln = ([], 0, 1) by unfold xau; rw [if_pos (.inl h0)]);exact bza5
 ·have x1 : (i < 0) = False := by rw [eq_iff_iff, iff_false]; exact h0
  by_cases h1 : (s.size : Int) < i
  ·have HN := hideT (show xau s.data.toList i d ln = ([], 0, 1) by unfold xau; rw [if_pos (.inr (.inl h1))]);exact bza5
  ·have x2 : ((s.size : Int) < i) = False := by rw [eq_iff_iff, iff_false]; exact h1
   by_cases h2 : d = 10
   ·have HN := hideT (show xau s.data.toList i d ln = ([], 0, 1) by unfold xau; rw [if_pos (.inr (.inr (.inl h2)))]);have x3 := xc3 (z := 10) rfl h2;clear h2;exact bza5
   ·by_cases h3 : d = 92
    ·have HN := hideT (show xau s.data.toList i d ln = ([], 0, 1) by unfold xau; rw [if_pos (.inr (.inr (.inr h3)))]);have x3 := xam (z := 10) rfl h2;have x4 := xc3 (z := 92) rfl h3;clear h2 h3;exact bza5
    ·obtain ⟨a0, rfl⟩ := Int.eq_ofNat_of_zero_le (show 0 <= i by omega);have e : xau s.data.toList (a0 : Int) d ln = unR d ln (s.data.toList.drop a0) a0 [] := by
      unfold xau;rw [if_neg (by rintro (h | h | h | h); exact h0 h; exact h1 h; exact h2 h; exact h3 h), Int.toNat_natCast]
     rw [e];exact xoe s a0 d ln (by omega) h2 h3 hs w
theorem pre_two (l : List UInt8) : Lib.hasPrefix l [92, 10] = (match l with | b :: c :: _ => decide (b = 92 /\ c = 10) | _ => false) := by
 unfold Lib.hasPrefix
 match l with
 | [] => rfl
 | [b] => simp [List.isPrefixOf]
 | b :: c :: r =>
  simp only [List.isPrefixOf, Bool.and_true];by_cases h1 : b = 92
  ·by_cases h2 : c = 10
   ·simp [h1, h2]
   ·have : ((10 : UInt8) == c) = false := by rw [beq_eq_false_iff_ne]; exact fun h => h2 h.symm
    simp [h1, h2, this]
  ·have : ((92 : UInt8) == b) = false := by rw [beq_eq_false_iff_ne]; exact fun h => h1 h.symm
   simp [h1, this]
theorem text_doc (s : ByteArray) (i : Int) (hs : s.size <= 140737488355000) (w : World) : Calls Tryz.prog 208 #[.string s, .int .i64 i] w fun e w' => e = .returned (.tuple #[.string (bst (textR s.data.toList (insN s.size i)).1), .int .i64 ((textR s.data.toList (insN s.size i)).2.1 : Nat), .int .i64 ((textR s.data.toList (insN s.size i)).2.2 : Nat)]) /\ Below w.heap.size w w' := by
 have hsz : s.data.toList.length = s.size := rfl;have HI := hideT (blanks_doc s i (by omega));have HW := hideT (fun i => xes s i (by omega));have hf0 := xao s.data.toList (insN s.size i) (xlo s.size i);rw [hsz] at hf0;have hT : textR s.data.toList (insN s.size i) = (match s.data.toList.drop (xab s.data.toList (insN s.size i)) with
  | b :: c :: r => if b = 92 /\ c = 10 then (if r = [] then ([], 0, 6) else txR r (xab s.data.toList (insN s.size i) + 2) []) else ([], 0, 19)
  | _ => ([], 0, 19)) := rfl
 have HT := hideT hT;clear hT;generalize xab s.data.toList (insN s.size i) = f0 at *;generalize textR s.data.toList (insN s.size i) = RR at *;have HP := hideT (Tryz.strings_HasPrefix (s.extract f0 s.size) ⟨#[92, 10]⟩);have ep : Lib.hasPrefix (s.extract f0 s.size).data.toList (⟨#[92, 10]⟩ : ByteArray).data.toList = (match s.data.toList.drop f0 with | b :: c :: _ => decide (b = 92 /\ c = 10) | _ => false) := by
  rw [Lib.extract_to_end];exact pre_two _
 rw [ep] at HP;clear ep;have HN0 := hideT (fun w => un_new w);have b0 : (0 : Int) <= (f0 : Int) := by omega
 have b1 : (f0 : Int) <= (s.size : Int) := by omega
 by_cases hpre : ∃ r, s.data.toList.drop f0 = 92 :: 10 :: r
 ·obtain ⟨r, hr⟩ := hpre;have hrl : f0 + 2 + r.length = s.size := by
   have := congrArg List.length hr;rw [List.length_drop, hsz] at this;simp at this;omega
  have hr2 : s.data.toList.drop (f0 + 2) = r := by rw [<- List.drop_drop, hr]; rfl
  have HT2 := hideT (show RR = (if r = [] then ([], 0, 6) else txR r (f0 + 2) []) by rw [HT.out, hr]; simp);have HQ := hideT (show (match s.data.toList.drop f0 with | b :: c :: _ => decide (b = 92 /\ c = 10) | _ => false) = true by rw [hr]; simp);rw [HQ.out] at HP;clear HT HQ;by_cases h2 : f0 + 2 = s.size
  ·have HN := hideT (show RR = ([], 0, 6) by rw [HT2.out, if_pos (List.eq_nil_of_length_eq_zero (by omega))]);have a2 : ((f0 : Int) + 2 == (s.size : Int)) = true := by rw [beq_iff_eq]; omega
   clear hr hr2;exact bza6
  ·have HX := hideT (show txR (s.data.toList.drop (f0 + 2)) (f0 + 2) [] = RR by rw [HT2.out, if_neg (by intro h; rw [h] at hrl; simp at hrl; omega), hr2]);have a2 : ((f0 : Int) + 2 == (s.size : Int)) = false := qn;clear hr hr2 HT2;go_enter Tryz.func208, Tryz.ntmps208
   go_wp2_with fail
   refine (HI.out _).mono ?_;rintro e w1 ⟨rfl, rfl⟩
   go_wp2_with fail
   refine (HP.out _).mono ?_;rintro e w2 ⟨rfl, rfl⟩;clear HP HI
   go_wp2_with fail
   go_loopw [1] (fun v wr => ∃ (k : Nat) (t : List UInt8), k <= s.size /\ v = .int .i64 k /\ UnB w2 wr t /\ t.length <= k /\ Hid (txR (s.data.toList.drop k) k t = RR)) (fun v _ => s.size - (intOf v).toNat)
   case atStart => exact ⟨f0 + 2, [], by omega, rfl, HN0.out _, by simp, HX⟩
   case round =>
    obtain ⟨k, t, hk, rfl, hB, htk, HE⟩ := hrel;clear HX HN0 a2 b0 b1;have R0 := hideT hB;clear hB;by_cases hlt : k < s.size
    ·have i1 : (k : Int) < (s.size : Int) := by omega
     have i2 : (0 : Int) <= (k : Int) := by omega
     by_cases h10 : s[k]'hlt = 10
     ·have c1 := xlq (z := 10) rfl h10;have HN := hideT (show RR = (t ++ [10], k + 1, 0) by rw [<- HE.out, tx_line (l := s.data.toList) (k := k) hlt h10]);have HY := hideT (show insN s.size ((k : Int) + 1) = k + 1 by unfold insN; omega);clear h10 HE;exact bza3
     ·have c1 := xlp (z := 10) rfl h10;by_cases h92 : s[k]'hlt = 92
      ·have c2 := xc3 (z := 92) rfl h92;by_cases hlt2 : k + 1 < s.size
       ·have j1 : (0 : Int) <= (k : Int) + 1 := by omega
        have j2 : (k : Int) + 1 < (s.size : Int) := by omega
        have j3 : ((k : Int) + 1 == (s.size : Int)) = false := qn;have HN := hideT (show txR (s.data.toList.drop (k + 2)) (k + 2) (t ++ [s[k + 1]'hlt2]) = RR by rw [<- HE.out, tx_pair (l := s.data.toList) (k := k) hlt2 h92]; rfl);clear h10 h92 HE
        go_wp2_with fail
        refine (xbc R0.out (by omega) (s[k + 1]'hlt2) _ rfl).mono ?_;rintro e w3 ⟨rfl, hb2⟩;have B2 := hideT hb2;clear hb2;go_wp2;exact ⟨⟨k + 2, t ++ [s[k + 1]'hlt2], by omega, by go_num, B2.out, by simp; omega, HN⟩, by simp [intOf]; omega⟩
       ·have j3 : ((k : Int) + 1 == (s.size : Int)) = true := by rw [beq_iff_eq]; omega
        have HN := hideT (show RR = ([], 0, 6) by rw [<- HE.out, tx_last (l := s.data.toList) (k := k) (by show k + 1 = s.size; omega) h92]);clear h10 h92 HE;exact bza8
      ·have c2 := xam (z := 92) rfl h92;have HN := hideT (show txR (s.data.toList.drop (k + 1)) (k + 1) (t ++ [s[k]'hlt]) = RR by rw [<- HE.out, tx_step (l := s.data.toList) (k := k) hlt h10 h92]; rfl);clear h10 h92 HE
       go_wp2_with fail
       refine (xbc R0.out (by omega) (s[k]'hlt) _ rfl).mono ?_;rintro e w3 ⟨rfl, hb2⟩;have B2 := hideT hb2;clear hb2;go_wp2;exact ⟨⟨k + 1, t ++ [s[k]'hlt], by omega, by go_num, B2.out, by simp; omega, HN⟩, by simp [intOf]; omega⟩
    ·have i1 : ((k : Int) < (s.size : Int)) = False := qg;have HN := hideT (show RR = (t ++ [10], k, 0) by rw [<- HE.out, tx_end (by show s.size <= k; omega)]);have HY := hideT (show insN s.size ((k : Int) + 1) = k by unfold insN; omega);clear HE;exact bza3
 ·have hq : (match s.data.toList.drop f0 with | b :: c :: _ => decide (b = 92 /\ c = 10) | _ => false) = false /\ RR = ([], 0, 19) := by
   rw [HT.out]
   match hl : s.data.toList.drop f0 with
   | [] => exact ⟨rfl, rfl⟩
   | [b] => exact ⟨rfl, rfl⟩
   | b :: c :: r =>
    have hn : ¬ (b = 92 /\ c = 10) := by
     rintro ⟨rfl, rfl⟩;exact hpre ⟨r, hl⟩
    exact ⟨decide_eq_false hn, if_neg hn⟩
  rw [hq.1] at HP;have HN := hideT hq.2;clear hq hpre;exact bza6
end prg
end Go.Proofs.YtcpokkpjeeblnaaGreatDoor
