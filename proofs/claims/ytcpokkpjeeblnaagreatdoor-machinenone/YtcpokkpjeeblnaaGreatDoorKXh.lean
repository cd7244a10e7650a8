/- script: address. -/
import Derived.Test.YtcpokkpjeeblnaaGreatDoorKBa
import Derived.Test.YtcpokkpjeeblnaaGreatDoorKXa
set_option maxRecDepth 100000
set_option maxHeartbeats 4000000
namespace Go.Proofs.YtcpokkpjeeblnaaGreatDoor
open Go.RowKit
open scanP scrP tpl ytb
variable {P : Prop} {G : Gr} {b i n m k : Nat} {s : ByteArray} {W : World} {x y z x' y' z' : Value}
theorem bxh0 (h : P := by
 rw [hq] at HL;have H1 := hideT HL;clear HL hq
 go_wp2_with fail
 refine H1.out.mono ?_;rintro y w2 ⟨rfl, hr, ht⟩;have T3 := hideT (T1.out.more ht);have N3 := hideT (N1.out.stay ht (fun e => hbn e.symm));have R3 := hideT hr;clear ht hr H1;simp only [adV];obtain ⟨n0, n1, n2⟩ := N3.out.cs;have g0 := N3.out.fz 0;have g1 := N3.out.fz 1;have g2 := N3.out.fz 2;go_wp2;refine bodyPost_ret (xbq rfl rfl (N3.out.put _ _ _)) rfl ?_;exact ⟨rfl, ((R3.out.far hbn _ _).far hbn _ _).far hbn _ _, ((T3.out.new qr _ _).new qr _ _).new qr _ _⟩) : P := h
theorem bxh1 (h : P := by
 rw [hq] at HL;have H1 := hideT HL;clear HL hq
 go_wp2_with fail
 refine H1.out.mono ?_;rintro y w2 ⟨rfl, ht⟩;have T3 := hideT (T1.out.more ht);clear ht;go_wp2;exact ⟨rfl, rfl, T3.out⟩) : P := h
theorem xa5 (hG : xf2 G) (w : World) (h : RAt w b s i) (hi : i <= s.size) (hs : s.size <= 4096) (hg : Gl w) (hb1 : 1 < b) : Calls Tryz.prog 168 #[.pointer (some ⟨b, 0, none⟩)] w (PR b s w adV (oneA G s.data.toList i)) := by
 have hA := Bal w (.cells Zq 68);have HR := hideT (h.move hA);have HN : Hid (AdAt (w.alloc (.cells Zq 68)) w.heap.size (.int .i64 0) (.int .i64 0) (.string ⟨#[]⟩)) := hideT (heap_alloc_new w _);have HT := hideT (Tch.of (F := (· = b)) hA);have hbn := Nat.ne_of_lt h.lt;have HG := hideT (hg.stay (Tch.of (F := fun _ => False) hA) (fun _ h => h.elim));clear hA h hg;have HQ := hideT hG;clear hG;unfold oneA;by_cases e0 : mtB s.data.toList i dgS = true
 ·have E0 := hideT e0;rw [if_pos e0];clear e0;rcases hq : linR s.data.toList i with x | ⟨⟨ak, al, ar⟩, k⟩
  ·have c1 := HR.out.c1;go_enter Tryz.func168, Tryz.ntmps168
   go_wp2_with fail
   generalize w.alloc (.cells Zq 68) = X at *;refine (xae ⟨#[48, 49, 50, 51, 52, 53, 54, 55, 56, 57]⟩ _ HR.out hi).mono ?_;rintro x w1 ⟨rfl, m0, rfl⟩;rw [show mtB s.data.toList i (⟨#[48, 49, 50, 51, 52, 53, 54, 55, 56, 57]⟩ : ByteArray).data.toList = true from E0.out];have T1 := hideT (HT.out.more (Tch.drewN _ _ (m0)));have N1 : Hid (AdAt (X.drewN (m0)) w.heap.size (.int .i64 0) (.int .i64 0) (.string ⟨#[]⟩)) := hideT HN.out;have HL := xlw (X.drewN (m0)) (show RAt _ b s i from HR.out) hi hs;exact bxh1
  ·have c1 := HR.out.c1;go_enter Tryz.func168, Tryz.ntmps168
   go_wp2_with fail
   generalize w.alloc (.cells Zq 68) = X at *;refine (xae ⟨#[48, 49, 50, 51, 52, 53, 54, 55, 56, 57]⟩ _ HR.out hi).mono ?_;rintro x w1 ⟨rfl, m0, rfl⟩;rw [show mtB s.data.toList i (⟨#[48, 49, 50, 51, 52, 53, 54, 55, 56, 57]⟩ : ByteArray).data.toList = true from E0.out];have T1 := hideT (HT.out.more (Tch.drewN _ _ (m0)));have N1 : Hid (AdAt (X.drewN (m0)) w.heap.size (.int .i64 0) (.int .i64 0) (.string ⟨#[]⟩)) := hideT HN.out;have HL := xlw (X.drewN (m0)) (show RAt _ b s i from HR.out) hi hs;exact bxh0
 ·have E0 := hideT (Bool.eq_false_iff.2 e0);rw [if_neg e0];clear e0;by_cases e1 : mtB s.data.toList i [36] = true
  ·have E1 := hideT e1;rw [if_pos e1];clear e1;have hlt : i < s.size := by
    rcases Nat.lt_or_ge i s.size with h | h
    ·exact h
    ·have := E1.out; rw [xe7 h] at this; cases this
   have c1 := HR.out.c1;go_enter Tryz.func168, Tryz.ntmps168
   go_wp2_with fail
   generalize w.alloc (.cells Zq 68) = X at *;refine (xae ⟨#[48, 49, 50, 51, 52, 53, 54, 55, 56, 57]⟩ _ HR.out hi).mono ?_;rintro x w1 ⟨rfl, m0, rfl⟩;rw [show mtB s.data.toList i (⟨#[48, 49, 50, 51, 52, 53, 54, 55, 56, 57]⟩ : ByteArray).data.toList = false from E0.out]
   go_wp2_with fail
   refine (xae ⟨#[36]⟩ _ (HR.out.drew (m0)) hi).mono ?_;rintro x w1 ⟨rfl, m1, rfl⟩;rw [show mtB s.data.toList i (⟨#[36]⟩ : ByteArray).data.toList = true from E1.out];have c2 := (show RAt (X.drewN (m0 + m1)) b s i from HR.out).c1;have f2 := (show RAt (X.drewN (m0 + m1)) b s i from HR.out).fz 1;have wi : IntKind.i64.wrap ((i : Int) + 1) = (i : Int) + 1 := by rw [IntKind.wrap_i64]; omega
   obtain ⟨n0, n1, n2⟩ := HN.out.cs;have g0 := HN.out.fz 0;have g1 := HN.out.fz 1;have g2 := HN.out.fz 2;obtain ⟨n, hnn⟩ : ∃ n, n = w.heap.size := ⟨_, rfl⟩;have hn : w.heap.size <= n := by omega
   rw [<- hnn] at n0 n1 n2 g0 g1 g2 hbn HN ⊢;clear hnn;go_wp2;refine bodyPost_ret (xbq rfl rfl (AdAt.put (W := (X.drewN (m0 + m1)).setCell ⟨b, 1, none⟩ (.int .i64 ((i : Int) + 1))) ((put_far (X.drewN (m0 + m1)) b 1 _ (fun e => hbn e.symm)).trans HN.out) _ _ _)) rfl ?_;exact ⟨rfl, ((((HR.out.drew (m0 + m1)).put (i + 1) _ (by omega)).far hbn _ _).far hbn _ _).far hbn _ _, ((((HT.out.more (Tch.drewN _ _ (m0 + m1))).put1 _ _).new hn _ _).new hn _ _).new hn _ _⟩
  ·have E1 := hideT (Bool.eq_false_iff.2 e1);rw [if_neg e1];clear e1;by_cases e2 : mtB s.data.toList i [47] = true
   ·have E2 := hideT e2;rw [if_pos e2];clear e2;rcases hq : matR G s.data.toList i i with x | ⟨⟨ak, al, ar⟩, k⟩
    ·have c1 := HR.out.c1;go_enter Tryz.func168, Tryz.ntmps168
     go_wp2_with fail
     generalize w.alloc (.cells Zq 68) = X at *;refine (xae ⟨#[48, 49, 50, 51, 52, 53, 54, 55, 56, 57]⟩ _ HR.out hi).mono ?_;rintro x w1 ⟨rfl, m0, rfl⟩;rw [show mtB s.data.toList i (⟨#[48, 49, 50, 51, 52, 53, 54, 55, 56, 57]⟩ : ByteArray).data.toList = false from E0.out]
     go_wp2_with fail
     refine (xae ⟨#[36]⟩ _ (HR.out.drew (m0)) hi).mono ?_;rintro x w1 ⟨rfl, m1, rfl⟩;rw [show mtB s.data.toList i (⟨#[36]⟩ : ByteArray).data.toList = false from E1.out]
     go_wp2_with fail
     refine (xae ⟨#[47]⟩ _ (HR.out.drew (m0 + m1)) hi).mono ?_;rintro x w1 ⟨rfl, m2, rfl⟩;rw [show mtB s.data.toList i (⟨#[47]⟩ : ByteArray).data.toList = true from E2.out];have T1 := hideT (HT.out.more (Tch.drewN _ _ (m0 + m1 + m2)));have N1 : Hid (AdAt (X.drewN (m0 + m1 + m2)) w.heap.size (.int .i64 0) (.int .i64 0) (.string ⟨#[]⟩)) := hideT HN.out;have HL := xd8 HQ.out i (X.drewN (m0 + m1 + m2)) (show RAt _ b s i from HR.out) hi hs (show Gl _ from HG.out) hb1;exact bxh1
    ·have c1 := HR.out.c1;go_enter Tryz.func168, Tryz.ntmps168
     go_wp2_with fail
     generalize w.alloc (.cells Zq 68) = X at *;refine (xae ⟨#[48, 49, 50, 51, 52, 53, 54, 55, 56, 57]⟩ _ HR.out hi).mono ?_;rintro x w1 ⟨rfl, m0, rfl⟩;rw [show mtB s.data.toList i (⟨#[48, 49, 50, 51, 52, 53, 54, 55, 56, 57]⟩ : ByteArray).data.toList = false from E0.out]
     go_wp2_with fail
     refine (xae ⟨#[36]⟩ _ (HR.out.drew (m0)) hi).mono ?_;rintro x w1 ⟨rfl, m1, rfl⟩;rw [show mtB s.data.toList i (⟨#[36]⟩ : ByteArray).data.toList = false from E1.out]
     go_wp2_with fail
     refine (xae ⟨#[47]⟩ _ (HR.out.drew (m0 + m1)) hi).mono ?_;rintro x w1 ⟨rfl, m2, rfl⟩;rw [show mtB s.data.toList i (⟨#[47]⟩ : ByteArray).data.toList = true from E2.out];have T1 := hideT (HT.out.more (Tch.drewN _ _ (m0 + m1 + m2)));have N1 : Hid (AdAt (X.drewN (m0 + m1 + m2)) w.heap.size (.int .i64 0) (.int .i64 0) (.string ⟨#[]⟩)) := hideT HN.out;have HL := xd8 HQ.out i (X.drewN (m0 + m1 + m2)) (show RAt _ b s i from HR.out) hi hs (show Gl _ from HG.out) hb1;exact bxh0
   ·have E2 := hideT (Bool.eq_false_iff.2 e2);rw [if_neg e2];clear e2;by_cases e3 : mtB s.data.toList i [92] = true
    ·have E3 := hideT e3;rw [if_pos e3];clear e3;have hlt : i < s.size := by
      rcases Nat.lt_or_ge i s.size with h | h
      ·exact h
      ·have := E3.out; rw [xe7 h] at this; cases this
     rcases hq : matR G s.data.toList i (i + 1) with x | ⟨⟨ak, al, ar⟩, k⟩
     ·have c1 := HR.out.c1;go_enter Tryz.func168, Tryz.ntmps168
      go_wp2_with fail
      generalize w.alloc (.cells Zq 68) = X at *;refine (xae ⟨#[48, 49, 50, 51, 52, 53, 54, 55, 56, 57]⟩ _ HR.out hi).mono ?_;rintro x w1 ⟨rfl, m0, rfl⟩;rw [show mtB s.data.toList i (⟨#[48, 49, 50, 51, 52, 53, 54, 55, 56, 57]⟩ : ByteArray).data.toList = false from E0.out]
      go_wp2_with fail
      refine (xae ⟨#[36]⟩ _ (HR.out.drew (m0)) hi).mono ?_;rintro x w1 ⟨rfl, m1, rfl⟩;rw [show mtB s.data.toList i (⟨#[36]⟩ : ByteArray).data.toList = false from E1.out]
      go_wp2_with fail
      refine (xae ⟨#[47]⟩ _ (HR.out.drew (m0 + m1)) hi).mono ?_;rintro x w1 ⟨rfl, m2, rfl⟩;rw [show mtB s.data.toList i (⟨#[47]⟩ : ByteArray).data.toList = false from E2.out]
      go_wp2_with fail
      refine (xae ⟨#[92]⟩ _ (HR.out.drew (m0 + m1 + m2)) hi).mono ?_;rintro x w1 ⟨rfl, m3, rfl⟩;rw [show mtB s.data.toList i (⟨#[92]⟩ : ByteArray).data.toList = true from E3.out];have c2 := (show RAt (X.drewN (m0 + m1 + m2 + m3)) b s i from HR.out).c1;have f2 := (show RAt (X.drewN (m0 + m1 + m2 + m3)) b s i from HR.out).fz 1;have wi : IntKind.i64.wrap ((i : Int) + 1) = (i : Int) + 1 := by rw [IntKind.wrap_i64]; omega
      have R1 := hideT ((HR.out.drew (m0 + m1 + m2 + m3)).put (i + 1) ((i : Int) + 1) (by omega));have T1 := hideT ((HT.out.more (Tch.drewN _ _ (m0 + m1 + m2 + m3))).put1 1 (.int .i64 ((i : Int) + 1)));have G1 := hideT ((show Gl (X.drewN (m0 + m1 + m2 + m3)) from HG.out).stay ((Tch.refl (· = b) _).put1 1 (.int .i64 ((i : Int) + 1))) (fun k e => by subst e; exact hb1));have N1 : Hid (AdAt ((X.drewN (m0 + m1 + m2 + m3)).setCell ⟨b, 1, none⟩ (.int .i64 ((i : Int) + 1))) w.heap.size (.int .i64 0) (.int .i64 0) (.string ⟨#[]⟩)) := hideT ((put_far (X.drewN (m0 + m1 + m2 + m3)) b 1 _ (fun e => hbn e.symm)).trans HN.out);have HL := xd8 HQ.out i _ R1.out (by omega) hs G1.out hb1;exact bxh1
     ·have c1 := HR.out.c1;go_enter Tryz.func168, Tryz.ntmps168
      go_wp2_with fail
      generalize w.alloc (.cells Zq 68) = X at *;refine (xae ⟨#[48, 49, 50, 51, 52, 53, 54, 55, 56, 57]⟩ _ HR.out hi).mono ?_;rintro x w1 ⟨rfl, m0, rfl⟩;rw [show mtB s.data.toList i (⟨#[48, 49, 50, 51, 52, 53, 54, 55, 56, 57]⟩ : ByteArray).data.toList = false from E0.out]
      go_wp2_with fail
      refine (xae ⟨#[36]⟩ _ (HR.out.drew (m0)) hi).mono ?_;rintro x w1 ⟨rfl, m1, rfl⟩;rw [show mtB s.data.toList i (⟨#[36]⟩ : ByteArray).data.toList = false from E1.out]
      go_wp2_with fail
      refine (xae ⟨#[47]⟩ _ (HR.out.drew (m0 + m1)) hi).mono ?_;rintro x w1 ⟨rfl, m2, rfl⟩;rw [show mtB s.data.toList i (⟨#[47]⟩ : ByteArray).data.toList = false from E2.out]
      go_wp2_with fail
      refine (xae ⟨#[92]⟩ _ (HR.out.drew (m0 + m1 + m2)) hi).mono ?_;rintro x w1 ⟨rfl, m3, rfl⟩;rw [show mtB s.data.toList i (⟨#[92]⟩ : ByteArray).data.toList = true from E3.out];have c2 := (show RAt (X.drewN (m0 + m1 + m2 + m3)) b s i from HR.out).c1;have f2 := (show RAt (X.drewN (m0 + m1 + m2 + m3)) b s i from HR.out).fz 1;have wi : IntKind.i64.wrap ((i : Int) + 1) = (i : Int) + 1 := by rw [IntKind.wrap_i64]; omega
      have R1 := hideT ((HR.out.drew (m0 + m1 + m2 + m3)).put (i + 1) ((i : Int) + 1) (by omega));have T1 := hideT ((HT.out.more (Tch.drewN _ _ (m0 + m1 + m2 + m3))).put1 1 (.int .i64 ((i : Int) + 1)));have G1 := hideT ((show Gl (X.drewN (m0 + m1 + m2 + m3)) from HG.out).stay ((Tch.refl (· = b) _).put1 1 (.int .i64 ((i : Int) + 1))) (fun k e => by subst e; exact hb1));have N1 : Hid (AdAt ((X.drewN (m0 + m1 + m2 + m3)).setCell ⟨b, 1, none⟩ (.int .i64 ((i : Int) + 1))) w.heap.size (.int .i64 0) (.int .i64 0) (.string ⟨#[]⟩)) := hideT ((put_far (X.drewN (m0 + m1 + m2 + m3)) b 1 _ (fun e => hbn e.symm)).trans HN.out);have HL := xd8 HQ.out i _ R1.out (by omega) hs G1.out hb1;exact bxh0
    ·have E3 := hideT (Bool.eq_false_iff.2 e3);rw [if_neg e3];clear e3;have c1 := HR.out.c1;go_enter Tryz.func168, Tryz.ntmps168
     go_wp2_with fail
     generalize w.alloc (.cells Zq 68) = X at *;refine (xae ⟨#[48, 49, 50, 51, 52, 53, 54, 55, 56, 57]⟩ _ HR.out hi).mono ?_;rintro x w1 ⟨rfl, m0, rfl⟩;rw [show mtB s.data.toList i (⟨#[48, 49, 50, 51, 52, 53, 54, 55, 56, 57]⟩ : ByteArray).data.toList = false from E0.out]
     go_wp2_with fail
     refine (xae ⟨#[36]⟩ _ (HR.out.drew (m0)) hi).mono ?_;rintro x w1 ⟨rfl, m1, rfl⟩;rw [show mtB s.data.toList i (⟨#[36]⟩ : ByteArray).data.toList = false from E1.out]
     go_wp2_with fail
     refine (xae ⟨#[47]⟩ _ (HR.out.drew (m0 + m1)) hi).mono ?_;rintro x w1 ⟨rfl, m2, rfl⟩;rw [show mtB s.data.toList i (⟨#[47]⟩ : ByteArray).data.toList = false from E2.out]
     go_wp2_with fail
     refine (xae ⟨#[92]⟩ _ (HR.out.drew (m0 + m1 + m2)) hi).mono ?_;rintro x w1 ⟨rfl, m3, rfl⟩;rw [show mtB s.data.toList i (⟨#[92]⟩ : ByteArray).data.toList = false from E3.out];obtain ⟨n0, n1, n2⟩ := HN.out.cs;have g0 := HN.out.fz 0;have g1 := HN.out.fz 1;have g2 := HN.out.fz 2;go_wp2;refine bodyPost_ret (xbq rfl rfl (AdAt.put (W := X.drewN (m0 + m1 + m2 + m3)) HN.out _ _ _)) rfl ?_;exact ⟨rfl, (((HR.out.drew (m0 + m1 + m2 + m3)).far hbn _ _).far hbn _ _).far hbn _ _, (((HT.out.more (Tch.drewN _ _ (m0 + m1 + m2 + m3))).new qr _ _).new qr _ _).new qr _ _⟩
def ad2V (x : Adr × Adr) : Value := .tuple #[adV x.1, adV x.2]
def PR2 (b : Nat) (s : ByteArray) (w : World) (r : Rd (Adr × Adr × Nat)) (e : Ending) (w' : World) : Prop := match r with
 | .error x => e = gvX x /\ Tch (· = b) w w'
 | .ok (a, c, k) => e = .returned (ad2V (a, c)) /\ RAt w' b s k /\ Tch (· = b) w w'
theorem xdy {fn : Func} {r r' b' : Nat} {tmps : Array Value} (hf : fn.results = #[.cell r 68, .cell r' 68]) (hr : tmps[r]?.getD undef = .pointer (some ⟨b, 0, none⟩)) (hr' : tmps[r']?.getD undef = .pointer (some ⟨b', 0, none⟩)) (h : AdAt W b x y z) (h' : AdAt W b' x' y' z') : (results fn tmps).run Tryz.prog W = .ok (.tuple #[.agg #[x, y, z], .agg #[x', y', z']]) W := by
 have := run_loadVar_mid (P := Tryz.prog) W b 0 68 [x, y, z] _ (range_block h) Tryz.underlying68 rfl (by rw [infoA]; rfl);have := run_loadVar_mid (P := Tryz.prog) W b' 0 68 [x', y', z'] _ (range_block h') Tryz.underlying68 rfl (by rw [infoA]; rfl);simp [results, asAddr, *]
theorem AdAt.far (h : AdAt W n x y z) (hn : n ≠ m) (k : Nat) (u : Value) : AdAt (W.setCell ⟨m, k, none⟩ u) n x y z := (put_far W m k u (j := n) hn).trans h
theorem AdAt.dn (h : AdAt W n x y z) (m : Nat) : AdAt (W.drewN m) n x y z := h
theorem AdAt.d (h : AdAt W n x y z) : AdAt W.drew n x y z := h
theorem Tch.dr {F : Nat -> Prop} {W' : World} (h : Tch F W W') : Tch F W W'.drew := ⟨h.os, h.tape, h.output, h.size, h.block⟩
theorem xev {X w : World} (hN : AdAt X n x y z) (hM : AdAt X m x' y' z') (hR : RAt X b s k) (hT : Tch (· = b) w X) (hnm : n ≠ m) (hbn : b ≠ n) (hbm : b ≠ m) (h1 : w.heap.size <= n) (h2 : w.heap.size <= m) (X' : World) (hX : X' = ((((((X.setCell ⟨n, 0, none⟩ x).setCell ⟨n, 1, none⟩ y).setCell ⟨n, 2, none⟩ z).setCell ⟨m, 0, none⟩ x').setCell ⟨m, 1, none⟩ y').setCell ⟨m, 2, none⟩ z').drew) : AdAt X' n x y z /\ AdAt X' m x' y' z' /\ RAt X' b s k /\ Tch (· = b) w X' := by
 subst hX;refine ⟨?_, ?_, ?_, ?_⟩
 ·exact (((AdAt.far (AdAt.put hN x y z) hnm 0 x').far hnm 1 y').far hnm 2 z').d
 ·exact (((hM.far hnm.symm 0 x).far hnm.symm 1 y).far hnm.symm 2 z).put x' y' z' |>.d
 ·exact ((((((hR.far hbn 0 x).far hbn 1 y).far hbn 2 z).far hbm 0 x').far hbm 1 y').far hbm 2 z').d
 ·exact ((((((hT.new h1 0 x).new h1 1 y).new h1 2 z).new h2 0 x').new h2 1 y').new h2 2 z').dr
theorem xew {l : List UInt8} {a : Adr} (h : oneA G l i = .ok (a, k)) (hi : i <= l.length) : k <= l.length := by
 have mlt : ∀ S, mtB l i S = true -> i < l.length := fun S hm => by
  unfold mtB at hm;split at hm
  ·cases hm
  ·rename_i hb; exact (List.getElem?_eq_some_iff.1 hb).1
 have mat : ∀ p j, j <= l.length -> matR G l p j = .ok (a, k) -> k <= l.length := fun p j hj hm => by
  unfold matR at hm;split at hm
  ·cases hm
  ·rename_i d j' hd;split at hm
   ·cases hm
   ·rename_i t k' hp;split at hm
    ·cases hm
    ·cases hm;exact (xbd hp (xb4 hd).2.1).2
 unfold oneA at h;split at h
 ·unfold linR at h;split at h
  ·cases h
  ·rename_i hn;cases h;exact xeu hi (Decidable.not_not.1 fun e => hn (.inl e))
 ·split at h
  ·rename_i hm;cases h;exact mlt _ hm
  ·split at h
   ·exact mat _ _ hi h
   ·split at h
    ·rename_i hm;exact mat _ _ (mlt _ hm) h
    ·cases h; exact hi
theorem xhl (hG : xf2 G) (w : World) (h : RAt w b s i) (hi : i <= s.size) (hs : s.size <= 4096) (hg : Gl w) (hb1 : 1 < b) : Calls Tryz.prog 135 #[.pointer (some ⟨b, 0, none⟩)] w (PR2 b s w (twoA G s.data.toList i)) := by
 have hA := Bal w (.cells Zq 68);have hB := hA.trans (((Below.refl (w.alloc (.cells Zq 68)).heap.size (w.alloc (.cells Zq 68))).alloc qr (.cells Zq 68)).mono hA.size);have HR := hideT (h.move hB);have e1 : (w.alloc (.cells Zq 68)).heap.size = w.heap.size + 1 := by simp
 have N0 : AdAt (w.alloc (.cells Zq 68)) w.heap.size (.int .i64 0) (.int .i64 0) (.string ⟨#[]⟩) := heap_alloc_new w _;have HN : Hid (AdAt ((w.alloc (.cells Zq 68)).alloc (.cells Zq 68)) w.heap.size (.int .i64 0) (.int .i64 0) (.string ⟨#[]⟩)) := hideT ((((Below.refl (w.alloc (.cells Zq 68)).heap.size (w.alloc (.cells Zq 68))).alloc qr (.cells Zq 68)).block _ (by rw [e1]; omega)).trans N0);have HM : Hid (AdAt ((w.alloc (.cells Zq 68)).alloc (.cells Zq 68)) (w.heap.size + 1) (.int .i64 0) (.int .i64 0) (.string ⟨#[]⟩)) := hideT (by rw [<- e1]; exact heap_alloc_new _ _);have HT := hideT (Tch.of (F := (· = b)) hB);have HG := hideT (hg.stay (Tch.of (F := fun _ => False) hB) (fun _ h => h.elim));have HZ := hideT hg;have hbl := h.lt;have hbn : b ≠ w.heap.size := by omega
 have hbm : b ≠ w.heap.size + 1 := by omega
 have hmn : w.heap.size + 1 ≠ w.heap.size := by omega
 have hnm : w.heap.size ≠ w.heap.size + 1 := by omega
 have hn1 : w.heap.size <= w.heap.size := by omega
 have hn3 : w.heap.size <= w.heap.size + 1 := by omega
 have HQ := hideT hG;clear hA hB h hg hG N0 e1;have BL := hideT (fun k h => xao s.data.toList k h);unfold twoA;rcases h1 : oneA G s.data.toList i with x | ⟨⟨ak, al, ar⟩, k⟩
 ·go_enter Tryz.func135, Tryz.ntmps135
  go_wp2_with fail
  generalize (w.alloc (.cells Zq 68)).alloc (.cells Zq 68) = Y at *;have HL := xa5 HQ.out Y HR.out hi hs HG.out hb1;rw [h1] at HL;have H1 := hideT HL;clear HL h1;refine H1.out.mono ?_;rintro y w2 ⟨rfl, ht⟩;have T3 := hideT (HT.out.more ht);clear ht;go_wp2;exact ⟨rfl, rfl, T3.out⟩
 ·have hk := xew h1 hi;simp only;by_cases ha : ak = 0
  ·rw [if_pos ha];have a0 : ((ak : Int) == 0) = true := by rw [beq_iff_eq]; omega
   clear ha;go_enter Tryz.func135, Tryz.ntmps135
   go_wp2_with fail
   generalize (w.alloc (.cells Zq 68)).alloc (.cells Zq 68) = Y at *;have HL := xa5 HQ.out Y HR.out hi hs HG.out hb1;rw [h1] at HL;have H1 := hideT HL;clear HL h1;refine H1.out.mono ?_;rintro y w2 ⟨rfl, hr, ht⟩;have TA := hideT (((HT.out.more ht).new hn1 0 (.int .i64 ak)).new hn1 1 (.int .i64 al) |>.new hn1 2 (.string (bst ar)));have RA := hideT (((hr.far hbn 0 (.int .i64 ak)).far hbn 1 (.int .i64 al)).far hbn 2 (.string (bst ar)));have N0 := HN.out.stay ht (fun e => hbn e.symm);have M0 := HM.out.stay ht (fun e => hbm e.symm);have NA := hideT (N0.put (.int .i64 ak) (.int .i64 al) (.string (bst ar)));have MA := hideT (((M0.far hmn 0 (.int .i64 ak)).far hmn 1 (.int .i64 al)).far hmn 2 (.string (bst ar)));have GA := hideT (HZ.out.stay TA.out (fun k e => by subst e; exact hb1));obtain ⟨n0, n1, n2⟩ := N0.cs;have g0 := N0.fz 0;have g1 := N0.fz 1;have g2 := N0.fz 2;clear ht hr H1 N0 M0;simp only [adV]
   go_wp2_with fail
   clear n0 n1 n2 g0 g1 g2;generalize ((w2.setCell ⟨w.heap.size, 0, none⟩ (.int .i64 ak)).setCell ⟨w.heap.size, 1, none⟩ (.int .i64 al)).setCell ⟨w.heap.size, 2, none⟩ (.string (bst ar)) = X1 at *;obtain ⟨p0, p1, p2⟩ := NA.out.cs;obtain ⟨q0, q1, q2⟩ := MA.out.cs;have y0 := NA.out.fz 0;have y1 := NA.out.fz 1;have y2 := NA.out.fz 2;have z0 := MA.out.fz 0;have z1 := MA.out.fz 1;have z2 := MA.out.fz 2;have hmn2 : ¬ w.heap.size + 1 = w.heap.size := by omega
   go_region
   all_goals
    go_wp2;obtain ⟨a1, a2, a3, a4⟩ := xev (X := X1) NA.out MA.out RA.out TA.out hnm hbn hbm hn1 hn3 _ rfl;exact bodyPost_ret (xdy rfl rfl rfl a1 a2) rfl ⟨rfl, a3, a4⟩
  ·rw [if_neg ha];have a0 : ((ak : Int) == 0) = false := qn;clear ha;have hk2 : xab s.data.toList k <= s.size := BL.out k hk;by_cases hc : mtB s.data.toList (xab s.data.toList k) [44] = true
   ·rw [if_pos hc];have EC := hideT hc;have hlt : xab s.data.toList k + 1 <= s.size := by
     rcases Nat.lt_or_ge (xab s.data.toList k) s.size with h | h
     ·exact h
     ·rw [xe7 h] at hc; cases hc
    have hjl : xab s.data.toList (xab s.data.toList k + 1) <= s.size := BL.out _ hlt;clear hc;rcases h2 : oneA G s.data.toList (xab s.data.toList (xab s.data.toList k + 1)) with x | ⟨⟨bk, bl, br⟩, m⟩
    ·go_enter Tryz.func135, Tryz.ntmps135
     go_wp2_with fail
     generalize (w.alloc (.cells Zq 68)).alloc (.cells Zq 68) = Y at *;have HL := xa5 HQ.out Y HR.out hi hs HG.out hb1;rw [h1] at HL;have H1 := hideT HL;clear HL h1;refine H1.out.mono ?_;rintro y w2 ⟨rfl, hr, ht⟩;have TA := hideT (((HT.out.more ht).new hn1 0 (.int .i64 ak)).new hn1 1 (.int .i64 al) |>.new hn1 2 (.string (bst ar)));have RA := hideT (((hr.far hbn 0 (.int .i64 ak)).far hbn 1 (.int .i64 al)).far hbn 2 (.string (bst ar)));have N0 := HN.out.stay ht (fun e => hbn e.symm);have M0 := HM.out.stay ht (fun e => hbm e.symm);have NA := hideT (N0.put (.int .i64 ak) (.int .i64 al) (.string (bst ar)));have MA := hideT (((M0.far hmn 0 (.int .i64 ak)).far hmn 1 (.int .i64 al)).far hmn 2 (.string (bst ar)));have GA := hideT (HZ.out.stay TA.out (fun k e => by subst e; exact hb1));obtain ⟨n0, n1, n2⟩ := N0.cs;have g0 := N0.fz 0;have g1 := N0.fz 1;have g2 := N0.fz 2;clear ht hr H1 N0 M0;simp only [adV]
     go_wp2_with fail
     clear n0 n1 n2 g0 g1 g2;generalize ((w2.setCell ⟨w.heap.size, 0, none⟩ (.int .i64 ak)).setCell ⟨w.heap.size, 1, none⟩ (.int .i64 al)).setCell ⟨w.heap.size, 2, none⟩ (.string (bst ar)) = X1 at *;refine (xa0 X1 RA.out hk hs).mono ?_;rintro y w3 ⟨rfl, m1, rfl⟩;have RB := hideT ((RA.out.drew m1).put (xab s.data.toList k) _ rfl);have TB := hideT ((TA.out.more (Tch.drewN _ _ m1)).put1 1 (.int .i64 (xab s.data.toList k : Nat)));have NB := hideT (AdAt.far (W := X1.drewN m1) NA.out (fun e => hbn e.symm) 1 (.int .i64 (xab s.data.toList k : Nat)));have MB := hideT (AdAt.far (W := X1.drewN m1) MA.out (fun e => hbm e.symm) 1 (.int .i64 (xab s.data.toList k : Nat)));have GB := hideT ((show Gl (X1.drewN m1) from GA.out).stay ((Tch.refl (· = b) _).put1 1 (.int .i64 (xab s.data.toList k : Nat))) (fun k e => by subst e; exact hb1));generalize (X1.drewN m1).setCell ⟨b, 1, none⟩ (.int .i64 (xab s.data.toList k : Nat)) = X2 at *;clear NA MA RA TA GA
     go_wp2_with fail
     refine (xae ⟨#[44]⟩ X2 RB.out hk2).mono ?_;rintro y w3 ⟨rfl, m2, rfl⟩;rw [show mtB s.data.toList (xab s.data.toList k) (⟨#[44]⟩ : ByteArray).data.toList = true from EC.out];have c1 := (show RAt (X2.drewN m2) b s _ from RB.out).c1;have f1 := (show RAt (X2.drewN m2) b s _ from RB.out).fz 1;have wi : IntKind.i64.wrap ((xab s.data.toList k : Int) + 1) = (xab s.data.toList k : Int) + 1 := by rw [IntKind.wrap_i64]; omega
     have RD := hideT ((RB.out.drew m2).put (xab s.data.toList k + 1) ((xab s.data.toList k : Int) + 1) (by omega));have TD := hideT ((TB.out.more (Tch.drewN _ _ m2)).put1 1 (.int .i64 ((xab s.data.toList k : Int) + 1)));have ND := hideT (AdAt.far (W := X2.drewN m2) NB.out (fun e => hbn e.symm) 1 (.int .i64 ((xab s.data.toList k : Int) + 1)));have MD := hideT (AdAt.far (W := X2.drewN m2) MB.out (fun e => hbm e.symm) 1 (.int .i64 ((xab s.data.toList k : Int) + 1)));have GD := hideT ((show Gl (X2.drewN m2) from GB.out).stay ((Tch.refl (· = b) _).put1 1 (.int .i64 ((xab s.data.toList k : Int) + 1))) (fun k e => by subst e; exact hb1))
     go_wp2_with fail
     clear c1 f1 wi;generalize (X2.drewN m2).setCell ⟨b, 1, none⟩ (.int .i64 ((xab s.data.toList k : Int) + 1)) = X3 at *;clear NB MB RB TB GB;refine (xa0 X3 RD.out hlt hs).mono ?_;rintro y w3 ⟨rfl, m3, rfl⟩;generalize xab s.data.toList (xab s.data.toList k + 1) = j at *;have RE := hideT ((RD.out.drew m3).put j _ rfl);have TE := hideT ((TD.out.more (Tch.drewN _ _ m3)).put1 1 (.int .i64 j));have NE := hideT (AdAt.far (W := X3.drewN m3) ND.out (fun e => hbn e.symm) 1 (.int .i64 j));have ME := hideT (AdAt.far (W := X3.drewN m3) MD.out (fun e => hbm e.symm) 1 (.int .i64 j));have GE := hideT ((show Gl (X3.drewN m3) from GD.out).stay ((Tch.refl (· = b) _).put1 1 (.int .i64 j)) (fun k e => by subst e; exact hb1));generalize (X3.drewN m3).setCell ⟨b, 1, none⟩ (.int .i64 j) = X4 at *;clear ND MD RD TD GD;have HL := xa5 HQ.out X4 RE.out hjl hs GE.out hb1;rw [h2] at HL;have H2 := hideT HL;clear HL h2
     go_wp2_with fail
     refine H2.out.mono ?_;rintro y w2 ⟨rfl, ht⟩;have T3 := hideT (TE.out.more ht);clear ht;go_wp2;exact ⟨rfl, rfl, T3.out⟩
    ·simp only;by_cases hb : bk = 0
     ·rw [if_pos hb];have b0 : ((bk : Int) == 0) = true := by rw [beq_iff_eq]; omega
      clear hb;go_enter Tryz.func135, Tryz.ntmps135
      go_wp2_with fail
      generalize (w.alloc (.cells Zq 68)).alloc (.cells Zq 68) = Y at *;have HL := xa5 HQ.out Y HR.out hi hs HG.out hb1;rw [h1] at HL;have H1 := hideT HL;clear HL h1;refine H1.out.mono ?_;rintro y w2 ⟨rfl, hr, ht⟩;have TA := hideT (((HT.out.more ht).new hn1 0 (.int .i64 ak)).new hn1 1 (.int .i64 al) |>.new hn1 2 (.string (bst ar)));have RA := hideT (((hr.far hbn 0 (.int .i64 ak)).far hbn 1 (.int .i64 al)).far hbn 2 (.string (bst ar)));have N0 := HN.out.stay ht (fun e => hbn e.symm);have M0 := HM.out.stay ht (fun e => hbm e.symm);have NA := hideT (N0.put (.int .i64 ak) (.int .i64 al) (.string (bst ar)));have MA := hideT (((M0.far hmn 0 (.int .i64 ak)).far hmn 1 (.int .i64 al)).far hmn 2 (.string (bst ar)));have GA := hideT (HZ.out.stay TA.out (fun k e => by subst e; exact hb1));obtain ⟨n0, n1, n2⟩ := N0.cs;have g0 := N0.fz 0;have g1 := N0.fz 1;have g2 := N0.fz 2;clear ht hr H1 N0 M0;simp only [adV]
      go_wp2_with fail
      clear n0 n1 n2 g0 g1 g2;generalize ((w2.setCell ⟨w.heap.size, 0, none⟩ (.int .i64 ak)).setCell ⟨w.heap.size, 1, none⟩ (.int .i64 al)).setCell ⟨w.heap.size, 2, none⟩ (.string (bst ar)) = X1 at *;refine (xa0 X1 RA.out hk hs).mono ?_;rintro y w3 ⟨rfl, m1, rfl⟩;have RB := hideT ((RA.out.drew m1).put (xab s.data.toList k) _ rfl);have TB := hideT ((TA.out.more (Tch.drewN _ _ m1)).put1 1 (.int .i64 (xab s.data.toList k : Nat)));have NB := hideT (AdAt.far (W := X1.drewN m1) NA.out (fun e => hbn e.symm) 1 (.int .i64 (xab s.data.toList k : Nat)));have MB := hideT (AdAt.far (W := X1.drewN m1) MA.out (fun e => hbm e.symm) 1 (.int .i64 (xab s.data.toList k : Nat)));have GB := hideT ((show Gl (X1.drewN m1) from GA.out).stay ((Tch.refl (· = b) _).put1 1 (.int .i64 (xab s.data.toList k : Nat))) (fun k e => by subst e; exact hb1));generalize (X1.drewN m1).setCell ⟨b, 1, none⟩ (.int .i64 (xab s.data.toList k : Nat)) = X2 at *;clear NA MA RA TA GA
      go_wp2_with fail
      refine (xae ⟨#[44]⟩ X2 RB.out hk2).mono ?_;rintro y w3 ⟨rfl, m2, rfl⟩;rw [show mtB s.data.toList (xab s.data.toList k) (⟨#[44]⟩ : ByteArray).data.toList = true from EC.out];have c1 := (show RAt (X2.drewN m2) b s _ from RB.out).c1;have f1 := (show RAt (X2.drewN m2) b s _ from RB.out).fz 1;have wi : IntKind.i64.wrap ((xab s.data.toList k : Int) + 1) = (xab s.data.toList k : Int) + 1 := by rw [IntKind.wrap_i64]; omega
      have RD := hideT ((RB.out.drew m2).put (xab s.data.toList k + 1) ((xab s.data.toList k : Int) + 1) (by omega));have TD := hideT ((TB.out.more (Tch.drewN _ _ m2)).put1 1 (.int .i64 ((xab s.data.toList k : Int) + 1)));have ND := hideT (AdAt.far (W := X2.drewN m2) NB.out (fun e => hbn e.symm) 1 (.int .i64 ((xab s.data.toList k : Int) + 1)));have MD := hideT (AdAt.far (W := X2.drewN m2) MB.out (fun e => hbm e.symm) 1 (.int .i64 ((xab s.data.toList k : Int) + 1)));have GD := hideT ((show Gl (X2.drewN m2) from GB.out).stay ((Tch.refl (· = b) _).put1 1 (.int .i64 ((xab s.data.toList k : Int) + 1))) (fun k e => by subst e; exact hb1))
      go_wp2_with fail
      clear c1 f1 wi;generalize (X2.drewN m2).setCell ⟨b, 1, none⟩ (.int .i64 ((xab s.data.toList k : Int) + 1)) = X3 at *;clear NB MB RB TB GB;refine (xa0 X3 RD.out hlt hs).mono ?_;rintro y w3 ⟨rfl, m3, rfl⟩;generalize xab s.data.toList (xab s.data.toList k + 1) = j at *;have RE := hideT ((RD.out.drew m3).put j _ rfl);have TE := hideT ((TD.out.more (Tch.drewN _ _ m3)).put1 1 (.int .i64 j));have NE := hideT (AdAt.far (W := X3.drewN m3) ND.out (fun e => hbn e.symm) 1 (.int .i64 j));have ME := hideT (AdAt.far (W := X3.drewN m3) MD.out (fun e => hbm e.symm) 1 (.int .i64 j));have GE := hideT ((show Gl (X3.drewN m3) from GD.out).stay ((Tch.refl (· = b) _).put1 1 (.int .i64 j)) (fun k e => by subst e; exact hb1));generalize (X3.drewN m3).setCell ⟨b, 1, none⟩ (.int .i64 j) = X4 at *;clear ND MD RD TD GD;have HL := xa5 HQ.out X4 RE.out hjl hs GE.out hb1;rw [h2] at HL;have H2 := hideT HL;clear HL h2
      go_wp2_with fail
      refine H2.out.mono ?_;rintro y w5 ⟨rfl, hr, ht⟩;have TF := hideT (((TE.out.more ht).new hn3 0 (.int .i64 bk)).new hn3 1 (.int .i64 bl) |>.new hn3 2 (.string (bst br)));have RF := hideT (((hr.far hbm 0 (.int .i64 bk)).far hbm 1 (.int .i64 bl)).far hbm 2 (.string (bst br)));have N0 := NE.out.stay ht (fun e => hbn e.symm);have M0 := ME.out.stay ht (fun e => hbm e.symm);have MF := hideT (M0.put (.int .i64 bk) (.int .i64 bl) (.string (bst br)));have NF := hideT (((N0.far hnm 0 (.int .i64 bk)).far hnm 1 (.int .i64 bl)).far hnm 2 (.string (bst br)));obtain ⟨n0, n1, n2⟩ := M0.cs;have g0 := M0.fz 0;have g1 := M0.fz 1;have g2 := M0.fz 2;clear ht hr H2 N0 M0 NE ME RE TE GE;simp only [adV];have c1 := RF.out.c1
      go_wp2_with fail
      clear n0 n1 n2 g0 g1 g2;generalize ((w5.setCell ⟨w.heap.size + 1, 0, none⟩ (.int .i64 bk)).setCell ⟨w.heap.size + 1, 1, none⟩ (.int .i64 bl)).setCell ⟨w.heap.size + 1, 2, none⟩ (.string (bst br)) = X5 at *;refine (xaw 17 m X5).mono ?_;rintro y w6 ⟨rfl, rfl⟩;go_wp2;exact ⟨rfl, rfl, TF.out⟩
     ·rw [if_neg hb];have b0 : ((bk : Int) == 0) = false := qn;clear hb;go_enter Tryz.func135, Tryz.ntmps135
      go_wp2_with fail
      generalize (w.alloc (.cells Zq 68)).alloc (.cells Zq 68) = Y at *;have HL := xa5 HQ.out Y HR.out hi hs HG.out hb1;rw [h1] at HL;have H1 := hideT HL;clear HL h1;refine H1.out.mono ?_;rintro y w2 ⟨rfl, hr, ht⟩;have TA := hideT (((HT.out.more ht).new hn1 0 (.int .i64 ak)).new hn1 1 (.int .i64 al) |>.new hn1 2 (.string (bst ar)));have RA := hideT (((hr.far hbn 0 (.int .i64 ak)).far hbn 1 (.int .i64 al)).far hbn 2 (.string (bst ar)));have N0 := HN.out.stay ht (fun e => hbn e.symm);have M0 := HM.out.stay ht (fun e => hbm e.symm);have NA := hideT (N0.put (.int .i64 ak) (.int .i64 al) (.string (bst ar)));have MA := hideT (((M0.far hmn 0 (.int .i64 ak)).far hmn 1 (.int .i64 al)).far hmn 2 (.string (bst ar)));have GA := hideT (HZ.out.stay TA.out (fun k e => by subst e; exact hb1));obtain ⟨n0, n1, n2⟩ := N0.cs;have g0 := N0.fz 0;have g1 := N0.fz 1;have g2 := N0.fz 2;clear ht hr H1 N0 M0;simp only [adV]
      go_wp2_with fail
      clear n0 n1 n2 g0 g1 g2;generalize ((w2.setCell ⟨w.heap.size, 0, none⟩ (.int .i64 ak)).setCell ⟨w.heap.size, 1, none⟩ (.int .i64 al)).setCell ⟨w.heap.size, 2, none⟩ (.string (bst ar)) = X1 at *;refine (xa0 X1 RA.out hk hs).mono ?_;rintro y w3 ⟨rfl, m1, rfl⟩;have RB := hideT ((RA.out.drew m1).put (xab s.data.toList k) _ rfl);have TB := hideT ((TA.out.more (Tch.drewN _ _ m1)).put1 1 (.int .i64 (xab s.data.toList k : Nat)));have NB := hideT (AdAt.far (W := X1.drewN m1) NA.out (fun e => hbn e.symm) 1 (.int .i64 (xab s.data.toList k : Nat)));have MB := hideT (AdAt.far (W := X1.drewN m1) MA.out (fun e => hbm e.symm) 1 (.int .i64 (xab s.data.toList k : Nat)));have GB := hideT ((show Gl (X1.drewN m1) from GA.out).stay ((Tch.refl (· = b) _).put1 1 (.int .i64 (xab s.data.toList k : Nat))) (fun k e => by subst e; exact hb1));generalize (X1.drewN m1).setCell ⟨b, 1, none⟩ (.int .i64 (xab s.data.toList k : Nat)) = X2 at *;clear NA MA RA TA GA
      go_wp2_with fail
      refine (xae ⟨#[44]⟩ X2 RB.out hk2).mono ?_;rintro y w3 ⟨rfl, m2, rfl⟩;rw [show mtB s.data.toList (xab s.data.toList k) (⟨#[44]⟩ : ByteArray).data.toList = true from EC.out];have c1 := (show RAt (X2.drewN m2) b s _ from RB.out).c1;have f1 := (show RAt (X2.drewN m2) b s _ from RB.out).fz 1;have wi : IntKind.i64.wrap ((xab s.data.toList k : Int) + 1) = (xab s.data.toList k : Int) + 1 := by rw [IntKind.wrap_i64]; omega
      have RD := hideT ((RB.out.drew m2).put (xab s.data.toList k + 1) ((xab s.data.toList k : Int) + 1) (by omega));have TD := hideT ((TB.out.more (Tch.drewN _ _ m2)).put1 1 (.int .i64 ((xab s.data.toList k : Int) + 1)));have ND := hideT (AdAt.far (W := X2.drewN m2) NB.out (fun e => hbn e.symm) 1 (.int .i64 ((xab s.data.toList k : Int) + 1)));have MD := hideT (AdAt.far (W := X2.drewN m2) MB.out (fun e => hbm e.symm) 1 (.int .i64 ((xab s.data.toList k : Int) + 1)));have GD := hideT ((show Gl (X2.drewN m2) from GB.out).stay ((Tch.refl (· = b) _).put1 1 (.int .i64 ((xab s.data.toList k : Int) + 1))) (fun k e => by subst e; exact hb1))
      go_wp2_with fail
      clear c1 f1 wi;generalize (X2.drewN m2).setCell ⟨b, 1, none⟩ (.int .i64 ((xab s.data.toList k : Int) + 1)) = X3 at *;clear NB MB RB TB GB;refine (xa0 X3 RD.out hlt hs).mono ?_;rintro y w3 ⟨rfl, m3, rfl⟩;generalize xab s.data.toList (xab s.data.toList k + 1) = j at *;have RE := hideT ((RD.out.drew m3).put j _ rfl);have TE := hideT ((TD.out.more (Tch.drewN _ _ m3)).put1 1 (.int .i64 j));have NE := hideT (AdAt.far (W := X3.drewN m3) ND.out (fun e => hbn e.symm) 1 (.int .i64 j));have ME := hideT (AdAt.far (W := X3.drewN m3) MD.out (fun e => hbm e.symm) 1 (.int .i64 j));have GE := hideT ((show Gl (X3.drewN m3) from GD.out).stay ((Tch.refl (· = b) _).put1 1 (.int .i64 j)) (fun k e => by subst e; exact hb1));generalize (X3.drewN m3).setCell ⟨b, 1, none⟩ (.int .i64 j) = X4 at *;clear ND MD RD TD GD;have HL := xa5 HQ.out X4 RE.out hjl hs GE.out hb1;rw [h2] at HL;have H2 := hideT HL;clear HL h2
      go_wp2_with fail
      refine H2.out.mono ?_;rintro y w5 ⟨rfl, hr, ht⟩;have TF := hideT (((TE.out.more ht).new hn3 0 (.int .i64 bk)).new hn3 1 (.int .i64 bl) |>.new hn3 2 (.string (bst br)));have RF := hideT (((hr.far hbm 0 (.int .i64 bk)).far hbm 1 (.int .i64 bl)).far hbm 2 (.string (bst br)));have N0 := NE.out.stay ht (fun e => hbn e.symm);have M0 := ME.out.stay ht (fun e => hbm e.symm);have MF := hideT (M0.put (.int .i64 bk) (.int .i64 bl) (.string (bst br)));have NF := hideT (((N0.far hnm 0 (.int .i64 bk)).far hnm 1 (.int .i64 bl)).far hnm 2 (.string (bst br)));obtain ⟨n0, n1, n2⟩ := M0.cs;have g0 := M0.fz 0;have g1 := M0.fz 1;have g2 := M0.fz 2;clear ht hr H2 N0 M0 NE ME RE TE GE;simp only [adV]
      go_wp2_with fail
      clear n0 n1 n2 g0 g1 g2;generalize ((w5.setCell ⟨w.heap.size + 1, 0, none⟩ (.int .i64 bk)).setCell ⟨w.heap.size + 1, 1, none⟩ (.int .i64 bl)).setCell ⟨w.heap.size + 1, 2, none⟩ (.string (bst br)) = X5 at *;obtain ⟨p0, p1, p2⟩ := NF.out.cs;obtain ⟨q0, q1, q2⟩ := MF.out.cs;have y0 := NF.out.fz 0;have y1 := NF.out.fz 1;have y2 := NF.out.fz 2;have z0 := MF.out.fz 0;have z1 := MF.out.fz 1;have z2 := MF.out.fz 2;have hmn2 : ¬ w.heap.size + 1 = w.heap.size := by omega
      go_region
      all_goals
       go_wp2;obtain ⟨a1, a2, a3, a4⟩ := xev (X := X5) NF.out MF.out RF.out TF.out hnm hbn hbm hn1 hn3 _ rfl;exact bodyPost_ret (xdy rfl rfl rfl a1 a2) rfl ⟨rfl, a3, a4⟩
   ·rw [if_neg hc];have EC := hideT (Bool.eq_false_iff.2 hc);clear hc;go_enter Tryz.func135, Tryz.ntmps135
    go_wp2_with fail
    generalize (w.alloc (.cells Zq 68)).alloc (.cells Zq 68) = Y at *;have HL := xa5 HQ.out Y HR.out hi hs HG.out hb1;rw [h1] at HL;have H1 := hideT HL;clear HL h1;refine H1.out.mono ?_;rintro y w2 ⟨rfl, hr, ht⟩;have TA := hideT (((HT.out.more ht).new hn1 0 (.int .i64 ak)).new hn1 1 (.int .i64 al) |>.new hn1 2 (.string (bst ar)));have RA := hideT (((hr.far hbn 0 (.int .i64 ak)).far hbn 1 (.int .i64 al)).far hbn 2 (.string (bst ar)));have N0 := HN.out.stay ht (fun e => hbn e.symm);have M0 := HM.out.stay ht (fun e => hbm e.symm);have NA := hideT (N0.put (.int .i64 ak) (.int .i64 al) (.string (bst ar)));have MA := hideT (((M0.far hmn 0 (.int .i64 ak)).far hmn 1 (.int .i64 al)).far hmn 2 (.string (bst ar)));have GA := hideT (HZ.out.stay TA.out (fun k e => by subst e; exact hb1));obtain ⟨n0, n1, n2⟩ := N0.cs;have g0 := N0.fz 0;have g1 := N0.fz 1;have g2 := N0.fz 2;clear ht hr H1 N0 M0;simp only [adV]
    go_wp2_with fail
    clear n0 n1 n2 g0 g1 g2;generalize ((w2.setCell ⟨w.heap.size, 0, none⟩ (.int .i64 ak)).setCell ⟨w.heap.size, 1, none⟩ (.int .i64 al)).setCell ⟨w.heap.size, 2, none⟩ (.string (bst ar)) = X1 at *;refine (xa0 X1 RA.out hk hs).mono ?_;rintro y w3 ⟨rfl, m1, rfl⟩;have RB := hideT ((RA.out.drew m1).put (xab s.data.toList k) _ rfl);have TB := hideT ((TA.out.more (Tch.drewN _ _ m1)).put1 1 (.int .i64 (xab s.data.toList k : Nat)));have NB := hideT (AdAt.far (W := X1.drewN m1) NA.out (fun e => hbn e.symm) 1 (.int .i64 (xab s.data.toList k : Nat)));have MB := hideT (AdAt.far (W := X1.drewN m1) MA.out (fun e => hbm e.symm) 1 (.int .i64 (xab s.data.toList k : Nat)));have GB := hideT ((show Gl (X1.drewN m1) from GA.out).stay ((Tch.refl (· = b) _).put1 1 (.int .i64 (xab s.data.toList k : Nat))) (fun k e => by subst e; exact hb1));generalize (X1.drewN m1).setCell ⟨b, 1, none⟩ (.int .i64 (xab s.data.toList k : Nat)) = X2 at *;clear NA MA RA TA GA
    go_wp2_with fail
    refine (xae ⟨#[44]⟩ X2 RB.out hk2).mono ?_;rintro y w3 ⟨rfl, m2, rfl⟩;rw [show mtB s.data.toList (xab s.data.toList k) (⟨#[44]⟩ : ByteArray).data.toList = false from EC.out]
    go_wp2_with fail
    have NC := hideT (NB.out.dn m2);have MC := hideT (MB.out.dn m2);have RC := hideT (RB.out.drew m2);have TC := hideT (TB.out.more (Tch.drewN _ _ m2));clear NB MB RB TB;generalize X2.drewN m2 = X3 at *;obtain ⟨p0, p1, p2⟩ := NC.out.cs;obtain ⟨q0, q1, q2⟩ := MC.out.cs;have y0 := NC.out.fz 0;have y1 := NC.out.fz 1;have y2 := NC.out.fz 2;have z0 := MC.out.fz 0;have z1 := MC.out.fz 1;have z2 := MC.out.fz 2;have hmn2 : ¬ w.heap.size + 1 = w.heap.size := by omega
    go_region
    all_goals
     go_wp2;obtain ⟨a1, a2, a3, a4⟩ := xev (X := X3) NC.out MC.out RC.out TC.out hnm hbn hbm hn1 hn3 _ rfl;exact bodyPost_ret (xdy rfl rfl rfl a1 a2) rfl ⟨rfl, a3, a4⟩
end Go.Proofs.YtcpokkpjeeblnaaGreatDoor
