/- bre: the document's reader: see. -/
import Derived.Test.YtaapmphdnholaaaGreatDoorKTk
import Derived.Test.YtaapmphdnholaaaGreatDoorKClose
import Derived.Deep.QuietTactic
import Derived.OwnWalk
set_option maxRecDepth 100000
set_option maxHeartbeats 2000000
namespace Go.Proofs.YtaapmphdnholaaaGreatDoor
open Go.RowKit
def seeB (s sub : ByteArray) (i : Nat) : Bool := decide (i + sub.size ≤ s.size) && (s.extract i (i + sub.size)).toList == sub.toList
theorem xa0 (s sub : ByteArray) (hs : s.size ≤ 1073741824) (hsub : sub.size ≤ 100) (r : Rd) (hr : r.pos ≤ s.size) (b : Nat) (w : World) (h : IsRd w b s r) :
  Calls Tryz.prog 24 #[.pointer (some ⟨b, 0, none⟩), .string sub] w fun x w' => x = .returned (.bool (seeB s sub r.pos)) ∧ ∃ n, w' = w.drewN n := by
 obtain ⟨c0, f0⟩ := h.cell 0 _ rfl
 obtain ⟨c1, f1⟩ := h.cell 1 _ rfl
 have k1 : IntKind.i64.wrap ((r.pos : Int) + (sub.size : Int)) = (r.pos : Int) + (sub.size : Int) := by rw [IntKind.wrap_i64]; omega
 generalize r.pos = p at *
 unfold seeB
 by_cases hle : p + sub.size ≤ s.size
 ·have k2 : (p : Int) + (sub.size : Int) ≤ (s.size : Int) := by omega
  have k3 : (p : Int) ≤ (p : Int) + (sub.size : Int) := by omega
  have k4 : (0 : Int) ≤ (p : Int) := by omega
  have k5 : (0 : Int) ≤ (p : Int) + (sub.size : Int) := by omega
  have k6 : ((p : Int) + (sub.size : Int)).toNat = p + sub.size := by omega
  rw [decide_eq_true hle, Bool.true_and]
  go_enter Tryz.func24, Tryz.ntmps24
  go_wp2_with fail
  go_quiet (fail)
  go_wp2
  go_ret
  exact ⟨rfl, _, rfl⟩
 ·have k2 : ((p : Int) + (sub.size : Int) ≤ (s.size : Int)) = False := eq_false (by omega)
  rw [decide_eq_false hle, Bool.false_and]
  go_enter Tryz.func24, Tryz.ntmps24
  go_wp2_with fail
  go_quiet (fail)
  go_wp2
  go_ret
  exact ⟨rfl, _, rfl⟩
def dgF (n : Int) (b : Int) : Int := if 255 < 10 * (if n < 0 then 0 else n) + (b - 48) then 256 else 10 * (if n < 0 then 0 else n) + (b - 48)
def dgR (s : ByteArray) : Nat → Nat → Int → Nat × Int
 | 0, p, n => (p, n)
 | f + 1, p, n => if digB (xac s p) then dgR s f (p + 1) (dgF n (xac s p)) else (p, n)
def dgAt (s : ByteArray) (p : Nat) : Nat × Int := dgR s (s.size + 1 - p) p (-1)
theorem IsRd.drew {W : World} {b : Nat} {s : ByteArray} {r : Rd} (h : IsRd W b s r) (n : Nat) : IsRd (W.drewN n) b s r := h
theorem xbz (W : World) (n : Nat) (o : Option Nat) : W.grownBy (W.drewN n) o := ⟨rfl, rfl, rfl, Nat.le_refl _, fun _ _ _ => rfl⟩
theorem xd6 {W : World} {b : Nat} {s : ByteArray} {r : Rd} {k : Nat} (h : IsRd W b s { r with pos := k }) (q : Nat) (m : Nat) :
  IsRd ((W.drewN q).setCell ⟨b, 1, none⟩ (.int .i64 ((k : Int) + (m : Int)))) b s { r with pos := k + m } :=
 IsRd.put (h.drew q) 1 _ (by simp [Rd.cells])
theorem xoj {W : World} {b : Nat} {s : ByteArray} {r : Rd} (h : IsRd W b s r) : (intOf ((W.cell? ⟨b, 1, none⟩).getD (.bool false))).toNat = r.pos := by
 rw [(h.cell 1 _ rfl).1]; simp [intOf]
theorem xhq {W W' : World} {b : Nat} {s : ByteArray} {r r' : Rd} (h : IsRd W b s r) (h' : IsRd W' b s r') (hlt : r.pos < r'.pos) (hs : r.pos < s.size) :
  s.size - (intOf ((W'.cell? ⟨b, 1, none⟩).getD (.bool false))).toNat < s.size - (intOf ((W.cell? ⟨b, 1, none⟩).getD (.bool false))).toNat := by
 rw [xoj h, xoj h']; omega
theorem xi5 (s : ByteArray) (hs : s.size ≤ 1073741824) (r : Rd) (hr : r.pos ≤ s.size) (b : Nat) (w : World) (h : IsRd w b s r) :
  Calls Tryz.prog 67 #[.pointer (some ⟨b, 0, none⟩)] w fun x w' => x = .returned (.int .i64 (dgAt s r.pos).2) ∧ IsRd w' b s { r with pos := (dgAt s r.pos).1 } ∧ w.grownBy w' (some b) := by
 generalize hR : dgAt s r.pos = R
 go_enter Tryz.func67, Tryz.ntmps67
 go_wp2_with fail
 go_loopw [3] (fun n wr => ∃ (k f : Nat) (m : Int), n = .int .i64 m ∧ -1 ≤ m ∧ m ≤ 256 ∧ k ≤ s.size ∧ s.size + 1 - k ≤ f ∧ Hid (dgR s f k m = R) ∧ Hid (IsRd wr b s { r with pos := k }) ∧ Hid (w.grownBy wr (some b))) (fun _ wr => s.size - (intOf ((wr.cell? ⟨b, 1, none⟩).getD (.bool false))).toNat)
 case atStart => exact ⟨r.pos, s.size + 1 - r.pos, -1, rfl, by omega, by omega, hr, Nat.le_refl _, hR, h, ⟨rfl, rfl, rfl, Nat.le_refl _, fun _ _ _ => rfl⟩⟩
 case round =>
  obtain ⟨k, f, m, rfl, hm1, hm2, hk, hf, HR, HI, HG⟩ := hrel
  obtain ⟨c0, f0⟩ := HI.out.cell 0 _ rfl
  obtain ⟨c1, f1⟩ := HI.out.cell 1 _ rfl
  obtain ⟨f, rfl⟩ : ∃ g, f = g + 1 := ⟨f - 1, by omega⟩
  by_cases hlt : k < s.size
  ·have hx : dgR s (f + 1) k m = if digB (s[k].toNat : Int) then dgR s f (k + 1) (dgF m (s[k].toNat : Int)) else (k, m) := by rw [dgR, xah hlt]
   have hb := s[k].toNat_lt
   have k1 : (0 : Int) ≤ (k : Int) := by omega
   have k2 : (k : Int) < (s.size : Int) := by omega
   by_cases d1 : 48 ≤ (s[k].toNat : Int)
   ·by_cases d2 : (s[k].toNat : Int) ≤ 57
    ·rw [if_pos (by simp [digB, d1, d2])] at hx
     rw [hx] at HR
     clear hx
     have m1 : IntKind.u8.wrap ((s[k].toNat : Int) - 48) = (s[k].toNat : Int) - 48 := by rw [IntKind.wrap_u8]; omega
     by_cases hneg : m < 0
     ·have hd : dgF m (s[k].toNat : Int) = (s[k].toNat : Int) - 48 := by unfold dgF; rw [if_pos hneg, if_neg (by omega)]; omega
      rw [hd] at HR
      clear hd
      go_wp2_with fail
      go_quiet (fail)
      go_wp2_with fail
      go_quiet (fail)
      go_wp2
      exact ⟨⟨k + 1, f, _, rfl, by omega, by omega, by omega, by omega, HR, xd6 HI.out _ 1, xag HG.out (xag (xbz _ _ _) (xal _ b 1 _))⟩, xhq HI.out (xd6 HI.out _ 1) (Nat.lt_succ_self k) hlt⟩
     ·by_cases hbig : 255 < 10 * m + ((s[k].toNat : Int) - 48)
      ·have hd : dgF m (s[k].toNat : Int) = 256 := by unfold dgF; rw [if_neg hneg, if_pos hbig]
       rw [hd] at HR
       clear hd
       go_wp2_with fail
       go_quiet (fail)
       go_wp2_with fail
       go_quiet (fail)
       go_wp2
       exact ⟨⟨k + 1, f, _, rfl, by omega, by omega, by omega, by omega, HR, xd6 HI.out _ 1, xag HG.out (xag (xbz _ _ _) (xal _ b 1 _))⟩, xhq HI.out (xd6 HI.out _ 1) (Nat.lt_succ_self k) hlt⟩
      ·have hd : dgF m (s[k].toNat : Int) = 10 * m + ((s[k].toNat : Int) - 48) := by unfold dgF; rw [if_neg hneg, if_neg hbig]
       rw [hd] at HR
       clear hd
       go_wp2_with fail
       go_quiet (fail)
       go_wp2_with fail
       go_quiet (fail)
       go_wp2
       exact ⟨⟨k + 1, f, _, rfl, by omega, by omega, by omega, by omega, HR, xd6 HI.out _ 1, xag HG.out (xag (xbz _ _ _) (xal _ b 1 _))⟩, xhq HI.out (xd6 HI.out _ 1) (Nat.lt_succ_self k) hlt⟩
    ·rw [if_neg (by simp [digB, d1, d2])] at hx
     rw [hx] at HR
     clear hx
     have d2' : ((s[k].toNat : Int) ≤ 57) = False := eq_false d2
     go_wp2_with fail
     go_quiet (fail)
     go_wp2
     go_ret
     rw [← HR.out]
     exact ⟨rfl, IsRd.drew HI.out _, xag HG.out (xbz _ _ _)⟩
   ·rw [if_neg (by simp [digB, d1])] at hx
    rw [hx] at HR
    clear hx
    have d1' : (48 ≤ (s[k].toNat : Int)) = False := eq_false d1
    go_wp2_with fail
    go_quiet (fail)
    go_wp2
    go_ret
    rw [← HR.out]
    exact ⟨rfl, IsRd.drew HI.out _, xag HG.out (xbz _ _ _)⟩
  ·have hx : dgR s (f + 1) k m = (k, m) := by rw [dgR, xbc (by omega)]; rfl
   rw [hx] at HR
   clear hx
   have k2 : ((k : Int) < (s.size : Int)) = False := eq_false (by omega)
   go_wp2_with fail
   go_quiet (fail)
   go_wp2
   go_ret
   rw [← HR.out]
   exact ⟨rfl, IsRd.drew HI.out _, xag HG.out (xbz _ _ _)⟩
theorem dgR_bd (s : ByteArray) (f p : Nat) (n : Int) (hp : p ≤ s.size) (h1 : -1 ≤ n) (h2 : n ≤ 256) : p ≤ (dgR s f p n).1 ∧ (dgR s f p n).1 ≤ s.size ∧ -1 ≤ (dgR s f p n).2 ∧ (dgR s f p n).2 ≤ 256 := by
 induction f generalizing p n with
 | zero => exact ⟨Nat.le_refl _, hp, h1, h2⟩
 | succ f ih =>
  rw [dgR]
  by_cases hd : digB (xac s p) = true
  ·rw [if_pos hd]
   have hlt : p < s.size := by
    by_cases h : p < s.size
    ·exact h
    ·rw [xbc (by omega)] at hd; exact absurd hd (by decide)
   have hb : 48 ≤ xac s p ∧ xac s p ≤ 57 := by simpa [digB] using hd
   have hv : -1 ≤ dgF n (xac s p) ∧ dgF n (xac s p) ≤ 256 := by unfold dgF; split <;> split <;> omega
   obtain ⟨a, b, c, d⟩ := ih (p + 1) (dgF n (xac s p)) hlt hv.1 hv.2
   exact ⟨by omega, b, c, d⟩
  ·rw [if_neg hd]; exact ⟨Nat.le_refl _, hp, h1, h2⟩
theorem xj6 (s : ByteArray) (p : Nat) (hp : p ≤ s.size) : p ≤ (dgAt s p).1 ∧ (dgAt s p).1 ≤ s.size ∧ -1 ≤ (dgAt s p).2 ∧ (dgAt s p).2 ≤ 256 := dgR_bd s _ p (-1) hp (by omega) (by omega)
theorem xdf {s sub : ByteArray} {p : Nat} (h : seeB s sub p = true) : p + sub.size ≤ s.size := by
 unfold seeB at h; simp at h; exact h.1
def ivHi (s : ByteArray) (p : Nat) (lo : Int) : Nat × Int := if seeB s ⟨#[44]⟩ p then dgAt s (p + 1) else (p, lo)
def xdw (lo hi : Int) : Bool := decide (lo < 0) || decide (255 < lo) || decide (255 < hi) || (!(hi == -1) && decide (hi < lo))
def ivAt (s : ByteArray) (p : Nat) : Nat × Int × Int × Bool :=
 let a := dgAt s p
 let c := ivHi s a.1 a.2
 if xdw a.2 c.2 || !seeB s ⟨#[92, 125]⟩ c.1 then (c.1, 0, 0, false) else (c.1 + 2, a.2, c.2, true)
theorem xd1 {s : ByteArray} {p p1 p2 : Nat} {lo hi : Int} (hA : dgAt s p = (p1, lo)) (hH : ivHi s p1 lo = (p2, hi)) (hb : (xdw lo hi || !seeB s ⟨#[92, 125]⟩ p2) = true) : ivAt s p = (p2, 0, 0, false) := by
 unfold ivAt; simp only [hA, hH, hb, if_true]
theorem xnb {s : ByteArray} {p p1 p2 : Nat} {lo hi : Int} (hA : dgAt s p = (p1, lo)) (hH : ivHi s p1 lo = (p2, hi)) (hb : (xdw lo hi || !seeB s ⟨#[92, 125]⟩ p2) = false) : ivAt s p = (p2 + 2, lo, hi, true) := by
 unfold ivAt; simp only [hA, hH, hb]; rfl
theorem xci {A B : World} {b : Nat} (h : A.grownBy B (some b)) (n : Nat) : A.grownBy (B.drewN n) (some b) := xag h (xbz _ _ _)
theorem xlk (s : ByteArray) (hs : s.size ≤ 1073741824) (r : Rd) (hr : r.pos ≤ s.size) (b : Nat) (w : World) (h : IsRd w b s r) :
  Calls Tryz.prog 46 #[.pointer (some ⟨b, 0, none⟩)] w fun x w' => x = .returned (.tuple #[.int .i64 (ivAt s r.pos).2.1, .int .i64 (ivAt s r.pos).2.2.1, .bool (ivAt s r.pos).2.2.2]) ∧ IsRd w' b s { r with pos := (ivAt s r.pos).1 } ∧ w.grownBy w' (some b) := by
 have hd := xi5 s hs r hr b w h
 have hbd := xj6 s r.pos hr
 generalize hA : dgAt s r.pos = A at *
 obtain ⟨p1, lo⟩ := A
 obtain ⟨hb1, hb2, hb3, hb4⟩ := hbd
 simp only [] at hd hb1 hb2 hb3 hb4
 generalize hV : ivAt s r.pos = V
 have HV := xab hV
 clear hV
 go_enter Tryz.func46, Tryz.ntmps46
 go_wp2_with fail
 refine hd.mono ?_
 rintro e1 w1 ⟨rfl, hI1, hG1⟩
 have HG1 := xab hG1
 have HI1 := xab hI1
 have HA := xab hA
 clear hd hG1 hA h
 have hsee := xa0 s ⟨#[44]⟩ hs (by decide) { r with pos := p1 } hb2 b w1 hI1
 clear hI1
 cases hc : seeB s ⟨#[44]⟩ p1
 ·have HH := xab (show ivHi s p1 lo = (p1, lo) by rw [ivHi, hc]; rfl)
  have HC := xab hc
  simp only [hc] at hsee
  clear hc
  go_wp2_with fail
  refine hsee.mono ?_
  rintro e2 w2 ⟨rfl, n2, rfl⟩
  clear hsee
  have HI2 := xab (IsRd.drew HI1.out n2)
  have HG2 := xab (xci HG1.out n2)
  clear HI1 HG1
  generalize w1.drewN n2 = w2 at *
  have hp2 : p1 ≤ s.size := by omega
  by_cases l1 : lo < 0
  ·have l1' := eq_true l1
   have hv := HV.out.symm.trans (xd1 HA.out HH.out (by simp [xdw]; omega))
   subst hv
   go_wp2
   go_ret3
   exact ⟨rfl, HI2.out, HG2.out⟩
  have l1' := eq_false l1
  by_cases l2 : 255 < lo
  ·have l2' := eq_true l2
   have hv := HV.out.symm.trans (xd1 HA.out HH.out (by simp [xdw]; omega))
   subst hv
   go_wp2
   go_ret3
   exact ⟨rfl, HI2.out, HG2.out⟩
  have l2' := eq_false l2
  have l5 : (lo == -1) = false := by simp; omega
  have l6 : (lo != -1) = true := by simp; omega
  have hbad : xdw lo lo = false := by simp [xdw]; omega
  have HB := xab hbad
  clear hbad
  have hs2 := xa0 s ⟨#[92, 125]⟩ hs (by decide) { r with pos := p1 } hp2 b _ HI2.out
  cases hc2 : seeB s ⟨#[92, 125]⟩ p1
  ·have hv := HV.out.symm.trans (xd1 HA.out HH.out (by rw [HB.out, hc2]; rfl))
   subst hv
   simp only [hc2] at hs2
   clear hc2
   go_wp2_with (refine hs2.mono ?_; rintro e3 w3 ⟨rfl, n3, rfl⟩)
   go_ret3
   exact ⟨rfl, IsRd.drew HI2.out n3, xci HG2.out n3⟩
  ·have hv := HV.out.symm.trans (xnb HA.out HH.out (by rw [HB.out, hc2]; rfl))
   have hle : p1 + 2 ≤ s.size := xdf hc2
   subst hv
   simp only [hc2] at hs2
   clear hc2
   obtain ⟨c1, f1⟩ := HI2.out.cell 1 _ rfl
   go_wp2_with (refine hs2.mono ?_; rintro e3 w3 ⟨rfl, n3, rfl⟩)
   go_ret3
   exact ⟨rfl, xd6 HI2.out n3 2, xag (xci HG2.out n3) (xal _ b 1 _)⟩
 ·have hlt : p1 + 1 ≤ s.size := xdf hc
  have hH : ivHi s p1 lo = dgAt s (p1 + 1) := by rw [ivHi, hc]; rfl
  have hbd := xj6 s (p1 + 1) hlt
  simp only [hc] at hsee
  clear hc
  obtain ⟨c1, f1⟩ := HI1.out.cell 1 _ rfl
  have hd2 := fun n2 => xi5 s hs { r with pos := p1 + 1 } hlt b _ (xd6 HI1.out n2 1)
  simp only [] at hd2
  generalize dgAt s (p1 + 1) = A at *
  obtain ⟨p2, hi⟩ := A
  obtain ⟨hb5, hb6, hb7, hb8⟩ := hbd
  have HH := xab hH
  clear hH
  simp only [] at hd2 hb5 hb6 hb7 hb8
  go_wp2_with fail
  refine hsee.mono ?_
  rintro e2 w2 ⟨rfl, n2, rfl⟩
  clear hsee
  go_wp2_with fail
  refine (hd2 n2).mono ?_
  rintro e3 w2 ⟨rfl, hI2, hG2⟩
  have HI2 := xab hI2
  have HG2 := xab (xag (xag (xci HG1.out n2) (xal _ b 1 _)) hG2)
  clear HI1 HG1 hd2 hI2 hG2 c1 f1
  have hp2 : p2 ≤ s.size := by omega
  by_cases l1 : lo < 0
  ·have l1' := eq_true l1
   have hv := HV.out.symm.trans (xd1 HA.out HH.out (by simp [xdw]; omega))
   subst hv
   go_wp2
   go_ret3
   exact ⟨rfl, HI2.out, HG2.out⟩
  have l1' := eq_false l1
  by_cases l2 : 255 < lo
  ·have l2' := eq_true l2
   have hv := HV.out.symm.trans (xd1 HA.out HH.out (by simp [xdw]; omega))
   subst hv
   go_wp2
   go_ret3
   exact ⟨rfl, HI2.out, HG2.out⟩
  have l2' := eq_false l2
  by_cases l3 : 255 < hi
  ·have l3' := eq_true l3
   have hv := HV.out.symm.trans (xd1 HA.out HH.out (by simp [xdw]; omega))
   subst hv
   go_wp2
   go_ret3
   exact ⟨rfl, HI2.out, HG2.out⟩
  have l3' := eq_false l3
  by_cases l4 : hi = -1
  ·subst l4
   have hbad : xdw lo (-1) = false := by simp [xdw]; omega
   have HB := xab hbad
   clear hbad
   have hs2 := xa0 s ⟨#[92, 125]⟩ hs (by decide) { r with pos := p2 } hp2 b _ HI2.out
   cases hc2 : seeB s ⟨#[92, 125]⟩ p2
   ·have hv := HV.out.symm.trans (xd1 HA.out HH.out (by rw [HB.out, hc2]; rfl))
    subst hv
    simp only [hc2] at hs2
    clear hc2
    go_wp2_with (refine hs2.mono ?_; rintro e3 w3 ⟨rfl, n3, rfl⟩)
    go_ret3
    exact ⟨rfl, IsRd.drew HI2.out n3, xci HG2.out n3⟩
   ·have hv := HV.out.symm.trans (xnb HA.out HH.out (by rw [HB.out, hc2]; rfl))
    have hle : p2 + 2 ≤ s.size := xdf hc2
    subst hv
    simp only [hc2] at hs2
    clear hc2
    obtain ⟨c1, f1⟩ := HI2.out.cell 1 _ rfl
    go_wp2_with (refine hs2.mono ?_; rintro e3 w3 ⟨rfl, n3, rfl⟩)
    go_ret3
    exact ⟨rfl, xd6 HI2.out n3 2, xag (xci HG2.out n3) (xal _ b 1 _)⟩
  have l5 : (hi == -1) = false := by simp [l4]
  have l6 : (hi != -1) = true := by simp [l4]
  by_cases l7 : hi < lo
  ·have l7' := eq_true l7
   have hv := HV.out.symm.trans (xd1 HA.out HH.out (by simp [xdw]; omega))
   subst hv
   go_wp2
   go_ret3
   exact ⟨rfl, HI2.out, HG2.out⟩
  have l7' := eq_false l7
  have hbad : xdw lo hi = false := by simp [xdw]; omega
  have HB := xab hbad
  clear hbad
  have hs2 := xa0 s ⟨#[92, 125]⟩ hs (by decide) { r with pos := p2 } hp2 b _ HI2.out
  cases hc2 : seeB s ⟨#[92, 125]⟩ p2
  ·have hv := HV.out.symm.trans (xd1 HA.out HH.out (by rw [HB.out, hc2]; rfl))
   subst hv
   simp only [hc2] at hs2
   clear hc2
   go_wp2_with (refine hs2.mono ?_; rintro e3 w3 ⟨rfl, n3, rfl⟩)
   go_ret3
   exact ⟨rfl, IsRd.drew HI2.out n3, xci HG2.out n3⟩
  ·have hv := HV.out.symm.trans (xnb HA.out HH.out (by rw [HB.out, hc2]; rfl))
   have hle : p2 + 2 ≤ s.size := xdf hc2
   subst hv
   simp only [hc2] at hs2
   clear hc2
   obtain ⟨c1, f1⟩ := HI2.out.cell 1 _ rfl
   go_wp2_with (refine hs2.mono ?_; rintro e3 w3 ⟨rfl, n3, rfl⟩)
   go_ret3
   exact ⟨rfl, xd6 HI2.out n3 2, xag (xci HG2.out n3) (xal _ b 1 _)⟩
def lead (l : List UInt8) : List UInt8 := l.takeWhile fun b => digB b.toNat
theorem xhr (l : List UInt8) : digs (lead l) = true := by
 unfold digs lead
 induction l with
 | nil => rfl
 | cons b l ih =>
  rw [List.takeWhile_cons]
  split
  ·next h => rw [List.all_cons, h, ih]; rfl
  ·rfl
theorem xdq (s : ByteArray) (p : Nat) (h : p < s.size) : s.data.toList.drop p = s[p] :: s.data.toList.drop (p + 1) := by
 rw [List.drop_eq_getElem_cons (by simpa using h)]; rfl
theorem dgR_lead (s : ByteArray) (f p : Nat) (n : Int) (hf : s.size + 1 - p ≤ f) (hp : p ≤ s.size) :
  dgR s f p n = (p + (lead (s.data.toList.drop p)).length, (lead (s.data.toList.drop p)).foldl (fun m b => dgF m (b.toNat : Int)) n) := by
 induction f generalizing p n with
 | zero => omega
 | succ f ih =>
  rw [dgR]
  by_cases h : p < s.size
  ·rw [xah h, xdq s p h, lead, List.takeWhile_cons]
   by_cases hd : digB (s[p].toNat : Int) = true
   ·rw [if_pos hd, if_pos hd, ih (p + 1) _ (by omega) h]
    simp only [List.length_cons, List.foldl_cons, lead]
    congr 1; omega
   ·rw [if_neg hd, if_neg hd]; rfl
  ·rw [xbc (by omega), if_neg (by decide), List.drop_eq_nil_of_le (by simpa using Nat.le_of_not_lt h)]; rfl
theorem xrp (n : Nat) (b : UInt8) (h : digB b.toNat = true) : dgF (n : Int) (b.toNat : Int) = (numF n b : Nat) := by
 have hb : 48 ≤ (b.toNat : Int) ∧ (b.toNat : Int) ≤ 57 := by simpa [digB] using h
 unfold dgF numF
 rw [if_neg (by omega : ¬ (n : Int) < 0)]
 split <;> omega
theorem fold_num (l : List UInt8) (n : Nat) (h : digs l = true) : l.foldl (fun m b => dgF m (b.toNat : Int)) (n : Int) = (l.foldl numF n : Nat) := by
 induction l generalizing n with
 | nil => rfl
 | cons b l ih =>
  simp only [digs, List.all_cons, Bool.and_eq_true] at h
  rw [List.foldl_cons, List.foldl_cons, xrp n b h.1]
  exact ih _ h.2
theorem xhs (s : ByteArray) (p : Nat) (hp : p ≤ s.size) :
  dgAt s p = (p + (lead (s.data.toList.drop p)).length, if (lead (s.data.toList.drop p)).isEmpty then -1 else (numN (lead (s.data.toList.drop p)) : Int)) := by
 rw [dgAt, dgR_lead s _ p _ (Nat.le_refl _) hp]
 have hd := xhr (s.data.toList.drop p)
 generalize lead (s.data.toList.drop p) = l at *
 cases l with
 | nil => rfl
 | cons b l =>
  simp only [digs, List.all_cons, Bool.and_eq_true] at hd
  have h0 : dgF (-1) (b.toNat : Int) = dgF ((0 : Nat) : Int) (b.toNat : Int) := by unfold dgF; rfl
  show (_, _) = (_, _)
  rw [List.foldl_cons, h0, xrp 0 b hd.1, fold_num l _ hd.2]
  rfl
theorem xll (s : ByteArray) (p k : Nat) : (s.extract p (p + k)).data.toList = (s.data.toList.drop p).take k := by
 rw [ByteArray.data_extract, Array.toList_extract, List.extract_eq_take_drop]
 congr 1; omega
theorem xd2 (s sub : ByteArray) (p : Nat) (hp : p ≤ s.size) : seeB s sub p = sub.data.toList.isPrefixOf (s.data.toList.drop p) := by
 rw [Bool.eq_iff_iff, List.isPrefixOf_iff_prefix, List.prefix_iff_eq_take, seeB, Bool.and_eq_true, decide_eq_true_iff, beq_iff_eq, ByteArray.toList_eq, ByteArray.toList_eq, xll]
 have hl : sub.data.toList.length = sub.size := by simp
 rw [hl]
 constructor
 ·rintro ⟨_, h⟩; exact h.symm
 ·intro h
  refine ⟨?_, h.symm⟩
  have h2 := congrArg List.length h
  rw [hl, List.length_take, List.length_drop] at h2
  have h3 : s.data.toList.length = s.size := by simp
  rw [h3] at h2
  omega
theorem lead_app (a r : List UInt8) (c : UInt8) (ha : digs a = true) (hc : digB c.toNat = false) : lead (a ++ c :: r) = a := by
 induction a with
 | nil => rw [List.nil_append, lead, List.takeWhile_cons, hc]; rfl
 | cons b a ih =>
  simp only [digs, List.all_cons, Bool.and_eq_true] at ha
  rw [List.cons_append, lead, List.takeWhile_cons, if_pos ha.1]
  exact congrArg (b :: ·) (ih ha.2)
theorem xok (l : List UInt8) : lead l ++ l.drop (lead l).length = l := by
 have : lead l <+: l := List.takeWhile_prefix _
 obtain ⟨r, hr⟩ := this
 generalize lead l = a at *
 subst hr
 simp
theorem xrq (a r : List UInt8) (x : UInt8) (t : List UInt8) (ha : ∀ b ∈ a, b ≠ x) : Lib.index (a ++ (x :: t ++ r)) (x :: t) = (a.length : Int) := by
 induction a with
 | nil =>
  have : (x :: t).isPrefixOf (x :: t ++ r) = true := by rw [List.isPrefixOf_iff_prefix]; exact List.prefix_append _ _
  rw [List.nil_append]
  rw [List.cons_append] at this ⊢
  rw [Lib.index, if_pos this]; rfl
 | cons b a ih =>
  have hb : (x :: t).isPrefixOf (b :: (a ++ (x :: t ++ r))) = false := by
   rw [List.isPrefixOf, Bool.and_eq_false_iff]; left
   rw [beq_eq_false_iff_ne]; exact fun e => ha b (by simp) e.symm
  rw [List.cons_append, Lib.index, if_neg (by rw [hb]; decide), ih (fun c hc => ha c (by simp [hc]))]
  rw [if_neg (by simp)]
  simp
theorem xf9 (a r : List UInt8) (x : UInt8) (t : List UInt8) (ha : ∀ b ∈ a, b ≠ x) : Lib.cut (a ++ (x :: t ++ r)) (x :: t) = (a, r, true) := by
 rw [Lib.cut, xrq a r x t ha, if_pos (by omega), Int.toNat_natCast, List.take_left, ← List.drop_drop, List.drop_left, List.drop_left]
theorem xrr (l sub : List UInt8) (h : 0 ≤ Lib.index l sub) : sub <+: l.drop (Lib.index l sub).toNat := by
 induction l with
 | nil =>
  rw [Lib.index] at h ⊢
  cases sub with
  | nil => exact List.nil_prefix
  | cons x t => simp at h
 | cons b l ih =>
  rw [Lib.index] at h ⊢
  by_cases hp : sub.isPrefixOf (b :: l) = true
  ·rw [if_pos hp]; exact List.isPrefixOf_iff_prefix.1 hp
  ·rw [if_neg hp] at h ⊢
   by_cases hn : (Lib.index l sub == -1) = true
   ·rw [if_pos hn] at h; omega
   ·rw [if_neg hn] at h ⊢
    have hge := Lib.index_ge l sub
    have hne : Lib.index l sub ≠ -1 := by simpa using hn
    have h0 : 0 ≤ Lib.index l sub := by omega
    rw [show (Lib.index l sub + 1).toNat = (Lib.index l sub).toNat + 1 by omega, List.drop_succ_cons]
    exact ih h0
theorem xht (l sub : List UInt8) (h : (Lib.cut l sub).2.2 = true) : l = (Lib.cut l sub).1 ++ (sub ++ (Lib.cut l sub).2.1) := by
 unfold Lib.cut at h ⊢
 by_cases h0 : 0 ≤ Lib.index l sub
 ·rw [if_pos h0] at h ⊢
  obtain ⟨r, hr⟩ := xrr l sub h0
  show l = l.take _ ++ (sub ++ l.drop _)
  rw [← List.drop_drop, ← hr, List.drop_left, hr, List.take_append_drop]
 ·rw [if_neg h0] at h; cases h
theorem xp2 (l sub : List UInt8) (h : (Lib.cut l sub).2.2 = false) : Lib.cut l sub = (l, [], false) := by
 unfold Lib.cut at h ⊢
 by_cases h0 : 0 ≤ Lib.index l sub
 ·rw [if_pos h0] at h; cases h
 ·rw [if_neg h0]
theorem index_no (a : List UInt8) (x : UInt8) (t : List UInt8) (ha : ∀ b ∈ a, b ≠ x) : Lib.index a (x :: t) = -1 := by
 induction a with
 | nil => rfl
 | cons b a ih =>
  have hb : (x :: t).isPrefixOf (b :: a) = false := by
   rw [List.isPrefixOf, Bool.and_eq_false_iff]; left
   rw [beq_eq_false_iff_ne]; exact fun e => ha b (by simp) e.symm
  rw [Lib.index, if_neg (by rw [hb]; decide), ih (fun c hc => ha c (by simp [hc]))]
  rfl
theorem cut_no (a : List UInt8) (x : UInt8) (t : List UInt8) (ha : ∀ b ∈ a, b ≠ x) : Lib.cut a (x :: t) = (a, [], false) := by
 rw [Lib.cut, index_no a x t ha]; rfl
theorem xhu {a : List UInt8} (h : digs a = true) (x : UInt8) (hx : digB x.toNat = false) : ∀ b ∈ a, b ≠ x := by
 intro b hb e
 subst e
 have := List.all_eq_true.1 h b hb
 rw [hx] at this; cases this
end Go.Proofs.YtaapmphdnholaaaGreatDoor
