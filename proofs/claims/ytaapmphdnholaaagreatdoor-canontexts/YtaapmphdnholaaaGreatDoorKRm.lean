/- bre: the interval: the program's token and the document's reading, joined. -/
import Derived.Test.YtaapmphdnholaaaGreatDoorKTkd
import Derived.Test.YtaapmphdnholaaaGreatDoorKRe
import Derived.Test.YtaapmphdnholaaaGreatDoorKQf
set_option maxRecDepth 100000
set_option maxHeartbeats 1000000
namespace Go.Proofs.YtaapmphdnholaaaGreatDoor
def xfz (s : ByteArray) (i : Nat) : Tk :=
 if (ivAt s (i + 2)).2.2.2 then ⟨7, i, (ivAt s (i + 2)).1, 0, xad, 0, (ivAt s (i + 2)).2.1, (ivAt s (i + 2)).2.2.1⟩ else xax 9 i
theorem xfi {s : ByteArray} {p : Nat} {a r : List UInt8} (hp : p ≤ s.size) (hl : s.data.toList.drop p = a ++ r) : p + a.length ≤ s.size ∧ s.data.toList.drop (p + a.length) = r := by
 constructor
 ·have := congrArg List.length hl
  rw [List.length_drop, List.length_append] at this
  have h3 : s.data.toList.length = s.size := by simp
  omega
 ·rw [← List.drop_drop, hl, List.drop_left]
def numD (a : List UInt8) : Int := if a.isEmpty then -1 else (numN a : Int)
theorem xkg {s : ByteArray} {p : Nat} {a r : List UInt8} {c : UInt8} (hp : p ≤ s.size) (hl : s.data.toList.drop p = a ++ c :: r) (ha : digs a = true) (hc : digB c.toNat = false) : dgAt s p = (p + a.length, numD a) := by
 rw [xhs s p hp, hl, lead_app a r c ha hc]; rfl
theorem join_one {s : ByteArray} {i : Nat} {a r : List UInt8} (hp : i + 2 ≤ s.size) (hl : s.data.toList.drop (i + 2) = a ++ ([92, 125] ++ r)) (ha : digs a = true) : xa6 s i = xfz s i := by
 have hA := xkg hp hl ha rfl
 obtain ⟨h1, h2⟩ := xfi hp hl
 have hS : seeB s ⟨#[44]⟩ (i + 2 + a.length) = false := by rw [xd2 _ _ _ h1, h2]; rfl
 have hE : seeB s ⟨#[92, 125]⟩ (i + 2 + a.length) = true := by rw [xd2 _ _ _ h1, h2]; rfl
 have hH : ivHi s (i + 2 + a.length) (numD a) = (i + 2 + a.length, numD a) := by rw [ivHi, hS]; rfl
 have hle := xjo a
 have hP : xa6 s i = ivlT i a true := by unfold xa6; rw [hl, xf9 a r 92 [125] (xhu ha 92 rfl)]
 have hC : Lib.cut a [44] = (a, [], false) := cut_no a 44 [] (xhu ha 44 rfl)
 rw [hP]
 unfold ivlT xfz
 simp only [hC, upper, numS, ha, if_true]
 by_cases hg : (!a.isEmpty && decide (numN a ≤ 255)) = true
 ·have he : a.isEmpty = false := by simp at hg; simp [hg.1]
  have hn : numN a ≤ 255 := by simp at hg; exact hg.2
  have hd : numD a = (numN a : Int) := by rw [numD, he]; rfl
  have hok := xnb hA hH (by rw [hE, hd]; simp [xdw]; omega)
  rw [hok, hg, hd]
  simp
  omega
 ·have hbad := xd1 hA hH (by
   rw [hE]
   by_cases he : a.isEmpty = true
   ·rw [numD, he]; rfl
   ·have hd : numD a = (numN a : Int) := by rw [numD, if_neg he]
    simp [he] at hg
    rw [hd]; simp [xdw]; omega)
  rw [hbad]
  simp only [Bool.not_eq_true] at hg
  simp [hg]
theorem xnk {s sub : ByteArray} {p : Nat} (hp : p ≤ s.size) (h : seeB s sub p = true) : ∃ r, s.data.toList.drop p = sub.data.toList ++ r := by
 rw [xd2 _ _ _ hp, List.isPrefixOf_iff_prefix] at h
 obtain ⟨r, hr⟩ := h
 exact ⟨r, hr.symm⟩
theorem join_two {s : ByteArray} {i : Nat} {a d r : List UInt8} (hp : i + 2 ≤ s.size) (hl : s.data.toList.drop (i + 2) = a ++ ([44] ++ (d ++ ([92, 125] ++ r)))) (ha : digs a = true) (hdd : digs d = true) : xa6 s i = xfz s i := by
 have hA := xkg hp hl ha rfl
 obtain ⟨h1, h2⟩ := xfi hp hl
 have hS : seeB s ⟨#[44]⟩ (i + 2 + a.length) = true := by rw [xd2 _ _ _ h1, h2]; rfl
 obtain ⟨h3, h4⟩ := xfi h1 h2
 have hD := xkg h3 h4 hdd rfl
 obtain ⟨h5, h6⟩ := xfi h3 h4
 have hE : seeB s ⟨#[92, 125]⟩ (i + 2 + a.length + 1 + d.length) = true := by
  have h5' : i + 2 + a.length + 1 + d.length ≤ s.size := h5
  have h6' : s.data.toList.drop (i + 2 + a.length + 1 + d.length) = _ := h6
  rw [xd2 _ _ _ h5', h6']; rfl
 have hH : ivHi s (i + 2 + a.length) (numD a) = (i + 2 + a.length + 1 + d.length, numD d) := by rw [ivHi, hS]; exact hD
 have hle := xjo a
 have hle2 := xjo d
 have hne : ∀ b ∈ a ++ ([44] ++ d), b ≠ 92 := by
  intro b hb
  simp only [List.mem_append, List.mem_singleton] at hb
  rcases hb with hb | hb | hb
  ·exact xhu ha 92 rfl b hb
  ·subst hb; decide
  ·exact xhu hdd 92 rfl b hb
 have hP : xa6 s i = ivlT i (a ++ ([44] ++ d)) true := by
  unfold xa6
  rw [hl, show a ++ ([44] ++ (d ++ ([92, 125] ++ r))) = (a ++ ([44] ++ d)) ++ (92 :: [125] ++ r) by simp, xf9 _ r 92 [125] hne]
 have hC : Lib.cut (a ++ ([44] ++ d)) [44] = (a, d, true) := xf9 a d 44 [] (xhu ha 44 rfl)
 rw [hP]
 unfold ivlT xfz
 simp only [hC, upper, numS, ha, hdd, if_true]
 by_cases hg : (!a.isEmpty && decide (numN a ≤ 255)) = true
 ·have he : a.isEmpty = false := by simp at hg; simp [hg.1]
  have hn : numN a ≤ 255 := by simp at hg; exact hg.2
  have hd : numD a = (numN a : Int) := by rw [numD, he]; rfl
  rw [hg]
  by_cases hde : d.isEmpty = true
  ·have hd2 : numD d = -1 := by rw [numD, hde]; rfl
   have hok := xnb hA hH (by rw [hE, hd, hd2]; simp [xdw]; omega)
   rw [hok, hd, hd2, if_pos hde]
   simp
   omega
  ·rw [if_neg hde]
   have hd2 : numD d = (numN d : Int) := by rw [numD, if_neg hde]
   have hde' : d.isEmpty = false := by simpa using hde
   by_cases hk : numN d ≤ 255 ∧ numN a ≤ numN d
   ·have hok := xnb hA hH (by rw [hE, hd, hd2]; simp [xdw]; omega)
    rw [hok, hd, hd2]
    simp [hde', hk.1, hk.2]
    omega
   ·have hbad := xd1 hA hH (by rw [hE, hd, hd2]; simp [xdw]; omega)
    rw [hbad]
    have : (decide (numN d ≤ 255) && decide (numN a ≤ numN d)) = false := by simp; omega
    rw [Bool.and_assoc, Bool.and_assoc, this]
    simp
 ·have hbad := xd1 hA hH (by
   rw [hE]
   by_cases he : a.isEmpty = true
   ·rw [numD, he]; rfl
   ·have hd : numD a = (numN a : Int) := by rw [numD, if_neg he]
    simp [he] at hg
    rw [hd]; simp [xdw]; omega)
  rw [hbad]
  simp only [Bool.not_eq_true] at hg
  rw [hg]
  by_cases hde : d.isEmpty = true
  ·rw [if_pos hde]; rfl
  ·rw [if_neg hde]; rfl
theorem xr5 {s : ByteArray} {i : Nat} (hp : i + 2 ≤ s.size)
  (n1 : ∀ a r, s.data.toList.drop (i + 2) = a ++ ([92, 125] ++ r) → digs a = false)
  (n2 : ∀ a d r, s.data.toList.drop (i + 2) = a ++ ([44] ++ (d ++ ([92, 125] ++ r))) → digs a = true → digs d = false) : xa6 s i = xfz s i := by
 have hdoc : xfz s i = xax 9 i := by
  have hA := xhs s (i + 2) hp
  have hl := (xok (s.data.toList.drop (i + 2))).symm
  have hdl := xhr (s.data.toList.drop (i + 2))
  generalize lead (s.data.toList.drop (i + 2)) = a at *
  obtain ⟨h1, h2⟩ := xfi hp hl
  generalize (s.data.toList.drop (i + 2)).drop a.length = r1 at *
  have hfin : ∀ p2 hi, ivHi s (i + 2 + a.length) (numD a) = (p2, hi) → seeB s ⟨#[92, 125]⟩ p2 = false → xfz s i = xax 9 i := by
   intro p2 hi hH hE
   have hbad := xd1 hA hH (by rw [hE]; simp)
   unfold xfz; rw [hbad]; rfl
  cases hS : seeB s ⟨#[44]⟩ (i + 2 + a.length) with
  | false =>
   refine hfin (i + 2 + a.length) (numD a) (by rw [ivHi, hS]; rfl) ?_
   cases hE : seeB s ⟨#[92, 125]⟩ (i + 2 + a.length) with
   | false => rfl
   | true =>
    obtain ⟨r, hr⟩ := xnk h1 hE
    have := n1 a r (by rw [hl, ← h2, hr])
    rw [hdl] at this; cases this
  | true =>
   obtain ⟨r2, hr2⟩ := xnk h1 hS
   obtain ⟨h3, h4⟩ := xfi h1 hr2
   have h3' : i + 2 + a.length + 1 ≤ s.size := h3
   have h4' : s.data.toList.drop (i + 2 + a.length + 1) = r2 := h4
   have hD := xhs s (i + 2 + a.length + 1) h3'
   rw [h4'] at hD
   have hl2 := (xok r2).symm
   have hdl2 := xhr r2
   generalize lead r2 = d at *
   obtain ⟨h5, h6⟩ := xfi h3' (h4'.trans hl2)
   refine hfin (i + 2 + a.length + 1 + d.length) (numD d) (by rw [ivHi, hS]; exact hD) ?_
   cases hE : seeB s ⟨#[92, 125]⟩ (i + 2 + a.length + 1 + d.length) with
   | false => rfl
   | true =>
    obtain ⟨r, hr⟩ := xnk h5 hE
    have := n2 a d r (by rw [hl, ← h2, hr2, hl2, ← h6, hr]) hdl
    rw [hdl2] at this; cases this
 rw [hdoc]
 unfold xa6
 generalize s.data.toList.drop (i + 2) = l at *
 cases hc : (Lib.cut l [92, 125]).2.2 with
 | false => unfold ivlT; simp
 | true =>
  have hf := xht l [92, 125] hc
  generalize (Lib.cut l [92, 125]).1 = inn at *
  generalize (Lib.cut l [92, 125]).2.1 = r at *
  have hu : (upper (Lib.cut inn [44]).2.2 (Lib.cut inn [44]).2.1 (numS (Lib.cut inn [44]).1)).2 = false := by
   cases h2 : (Lib.cut inn [44]).2.2 with
   | false =>
    rw [xp2 inn [44] h2]
    have := n1 inn r hf
    simp [upper, numS, this]
   | true =>
    have hf2 := xht inn [44] h2
    generalize (Lib.cut inn [44]).1 = a at *
    generalize (Lib.cut inn [44]).2.1 = d at *
    cases ha : digs a with
    | false =>
     unfold upper
     by_cases hde : d.isEmpty = true
     ·rw [if_pos rfl, if_pos hde]; simp [numS, ha]
     ·rw [if_pos rfl, if_neg hde]; simp [numS, ha]
    | true =>
     have := n2 a d r (by rw [hf, hf2]; simp) ha
     have hde : ¬ d.isEmpty = true := by
      intro e; rw [List.isEmpty_iff] at e; subst e; cases this
     unfold upper
     rw [if_pos rfl, if_neg hde]; simp [numS, this]
  unfold ivlT
  simp only [hu]
  rfl
theorem xkh (s : ByteArray) (i : Nat) (hp : i + 2 ≤ s.size) : xa6 s i = xfz s i := by
 by_cases h1 : ∃ a r, s.data.toList.drop (i + 2) = a ++ ([92, 125] ++ r) ∧ digs a = true
 ·obtain ⟨a, r, hl, ha⟩ := h1; exact join_one hp hl ha
 ·by_cases h2 : ∃ a d r, s.data.toList.drop (i + 2) = a ++ ([44] ++ (d ++ ([92, 125] ++ r))) ∧ digs a = true ∧ digs d = true
  ·obtain ⟨a, d, r, hl, ha, hd⟩ := h2; exact join_two hp hl ha hd
  ·refine xr5 hp (fun a r hl => ?_) (fun a d r hl ha => ?_)
   ·cases e : digs a with
    | false => rfl
    | true => exact absurd ⟨a, r, hl, e⟩ h1
   ·cases e : digs d with
    | false => rfl
    | true => exact absurd ⟨a, d, r, hl, ha, e⟩ h2
open Go.RowKit
abbrev xdc (k : Int) (q : Nat → Bool) (g : Int) : Value := .agg #[.int .i64 k, .int .u64 (wd q 0), .int .u64 (wd q 1), .int .u64 (wd q 2), .int .u64 (wd q 3), .int .i64 0, .int .i64 0, .int .i64 g, .slice none 0 0]
def Blk9 (W : World) (b : Nat) (vs : List Value) : Prop := vs.length = 9 ∧ W.heap[b]? = some (.cells vs.toArray 36)
def xek : List Value := [.int .i64 0, .int .u64 0, .int .u64 0, .int .u64 0, .int .u64 0, .int .i64 0, .int .i64 0, .int .i64 0, .slice none 0 0]
theorem Blk9.cell {W : World} {b : Nat} {vs : List Value} (h : Blk9 W b vs) (k : Nat) (v : Value) (hk : vs[k]? = some v) : W.cell? ⟨b, k, none⟩ = some v ∧ W.frozen? ⟨b, k, none⟩ = false := by
 have h2 := h.2
 exact ⟨by simp [World.cell?, h2, hk], by simp [World.frozen?, h2]⟩
theorem Blk9.new (w : World) : Blk9 (w.alloc (.cells #[.int .i64 0, .int .u64 0, .int .u64 0, .int .u64 0, .int .u64 0, .int .i64 0, .int .i64 0, .int .i64 0, .slice none 0 0] 36)) w.heap.size xek := ⟨rfl, heap_alloc_new w _⟩
theorem Blk9.below {W W' : World} {b : Nat} {vs : List Value} (h : Blk9 W b vs) {B : Nat} (hb : Below B W W') (hB : W.heap.size ≤ B) : Blk9 W' b vs := ⟨h.1, (hb.block b (Nat.lt_of_lt_of_le (Array.getElem?_eq_some_iff.1 h.2).1 hB)).trans h.2⟩
theorem xbx {B : Nat} {a w : World} (h : Below B a w) {b : Nat} (hb : B ≤ b) (v0 v1 v2 v3 v4 v5 v6 v7 v8 : Value) : Below B a (((((((((w.setCell ⟨b, 0, none⟩ v0).setCell ⟨b, 1, none⟩ v1).setCell ⟨b, 2, none⟩ v2).setCell ⟨b, 3, none⟩ v3).setCell ⟨b, 4, none⟩ v4).setCell ⟨b, 5, none⟩ v5).setCell ⟨b, 6, none⟩ v6).setCell ⟨b, 7, none⟩ v7).setCell ⟨b, 8, none⟩ v8) :=
 (((((((((h.setCell (p := ⟨b, 0, none⟩) hb _).setCell (p := ⟨b, 1, none⟩) hb _).setCell (p := ⟨b, 2, none⟩) hb _).setCell (p := ⟨b, 3, none⟩) hb _).setCell (p := ⟨b, 4, none⟩) hb _).setCell (p := ⟨b, 5, none⟩) hb _).setCell (p := ⟨b, 6, none⟩) hb _).setCell (p := ⟨b, 7, none⟩) hb _).setCell (p := ⟨b, 8, none⟩) hb _)
theorem xb5 (b : Nat) (w : World) : Calls Tryz.prog 45 #[.int .u8 (b : Int)] w fun r w' => r = .returned (xdc 1 (xaw b) 0) ∧ Below w.heap.size w w' := by
 have hconv := xjp (w.alloc (.cells #[.int .i64 0, .int .u64 0, .int .u64 0, .int .u64 0, .int .u64 0, .int .i64 0, .int .i64 0, .int .i64 0, .slice none 0 0] 36)) b
 rw [World.size_alloc] at hconv
 go_enter Tryz.func45, Tryz.ntmps45
 go_wp2_with fail
 have hB0 : Below w.heap.size w ((w.alloc (.cells #[.int .i64 0, .int .u64 0, .int .u64 0, .int .u64 0, .int .u64 0, .int .i64 0, .int .i64 0, .int .i64 0, .slice none 0 0] 36)).alloc (.cells #[.int .u8 (b : Int)] 5)) := ((Below.refl _ _).alloc (Nat.le_refl _) _).alloc (by simp) _
 have hz0 : Blk9 ((w.alloc (.cells #[.int .i64 0, .int .u64 0, .int .u64 0, .int .u64 0, .int .u64 0, .int .i64 0, .int .i64 0, .int .i64 0, .slice none 0 0] 36)).alloc (.cells #[.int .u8 (b : Int)] 5)) w.heap.size xek := (Blk9.new w).below ((Below.refl _ _).alloc (Nat.le_refl _) _) (Nat.le_refl _)
 refine (xcw _ (by unfold maxLen; show 1 ≤ _; omega) _).mono ?_
 rintro e' w1 ⟨rfl, hb1⟩
 have hz := hz0.below hb1 (Nat.le_refl _)
 have hB1 := hB0.trans (hb1.mono hB0.size)
 obtain ⟨c0, f0⟩ := hz.cell 0 _ rfl
 obtain ⟨c1, f1⟩ := hz.cell 1 _ rfl
 obtain ⟨c2, f2⟩ := hz.cell 2 _ rfl
 obtain ⟨c3, f3⟩ := hz.cell 3 _ rfl
 obtain ⟨c4, f4⟩ := hz.cell 4 _ rfl
 obtain ⟨c5, f5⟩ := hz.cell 5 _ rfl
 obtain ⟨c6, f6⟩ := hz.cell 6 _ rfl
 obtain ⟨c7, f7⟩ := hz.cell 7 _ rfl
 obtain ⟨c8, f8⟩ := hz.cell 8 _ rfl
 clear hz hz0 hconv
 go_wp2
 exact bodyPost_ret (v := xdc 1 (xaw b) 0) (by simp [results, Tryz.results45, go_sem, xaw, c0, c1, c2, c3, c4, c5, c6, c7, c8]) rfl ⟨rfl, xbx hB1 (Nat.le_refl _) _ _ _ _ _ _ _ _ _⟩
theorem xar {A B : World} (h : Below A.heap.size A B) (o : Option Nat) : A.grownBy B o := ⟨h.os, h.tape, h.output, h.size, fun j hj _ => h.block j hj⟩
theorem xbo {A B C : World} {o : Option Nat} (g : A.grownBy B o) (k : Below A.heap.size B C) : A.grownBy C o :=
 ⟨k.os.trans g.os, k.tape.trans g.tape, k.output.trans g.output, Nat.le_trans g.size k.size, fun j hj hr => (k.block j hj).trans (g.block j hj hr)⟩
theorem Blk9.grown {W W' : World} {b c : Nat} {vs : List Value} (h : Blk9 W c vs) (g : W.grownBy W' (some b)) (hne : c ≠ b) : Blk9 W' c vs :=
 ⟨h.1, (g.block c (Array.getElem?_eq_some_iff.1 h.2).1 (fun e => hne (by injection e))).trans h.2⟩
theorem IsRd.below {W W' : World} {b B : Nat} {s : ByteArray} {r : Rd} (h : IsRd W b s r) (k : Below B W W') (hb : b < B) : IsRd W' b s r := (k.block b hb).trans h
def W9 (w : World) : World := w.alloc (.cells #[.int .i64 0, .int .u64 0, .int .u64 0, .int .u64 0, .int .u64 0, .int .i64 0, .int .i64 0, .int .i64 0, .slice none 0 0] 36)
theorem xbb (w : World) : Below w.heap.size w (W9 w) := (Below.refl _ _).alloc (Nat.le_refl _) _
theorem docEsc_n (s : ByteArray) (hs : s.size ≤ 1073741824) (r : Rd) (hr : r.pos + 1 < s.size) (hz : 0 ≤ r.size ∧ r.size ≤ 1000000000) (b : Nat) (w : World) (h : IsRd w b s r) (hn : (s[r.pos + 1].toNat : Int) = 110) :
  Calls Tryz.prog 41 #[.pointer (some ⟨b, 0, none⟩)] w fun x w' => x = .returned (xdc 1 (xaw 10) 0) ∧ IsRd w' b s (({ r with pos := r.pos + 2 } : Rd).grow 1 r.pos) ∧ w.grownBy w' (some b) := by
 have hlt := h.lt
 have h0 : IsRd (W9 w) b s r := h.below (xbb w) hlt
 obtain ⟨c0, f0⟩ := h0.cell 0 _ rfl
 obtain ⟨c1, f1⟩ := h0.cell 1 _ rfl
 have h1 : IsRd ((W9 w).setCell ⟨b, 1, none⟩ (.int .i64 ((r.pos : Int) + 2))) b s { r with pos := r.pos + 2 } := IsRd.put h0 1 _ (by simp [Rd.cells])
 obtain ⟨c01, f01⟩ := h1.cell 0 _ rfl
 have hz1 : Blk9 ((W9 w).setCell ⟨b, 1, none⟩ (.int .i64 ((r.pos : Int) + 2))) w.heap.size xek := (Blk9.new w).grown (xal _ b 1 _) (by omega)
 have hg := xbe s { r with pos := r.pos + 2 } b 1 r.pos (by omega) hz _ h1
 have hG1 := xag (xar (xbb w) (some b)) (xal (W9 w) b 1 (.int .i64 ((r.pos : Int) + 2)))
 have HH := xab (And.intro hz1 (And.intro hg hG1))
 have HLT := xab hlt
 clear h h0 h1 hg hG1 hz1 hlt
 unfold W9 at c0 f0 c1 f1 c01 f01 HH
 have k1 : IntKind.i64.wrap ((r.pos : Int) + 1) = (r.pos : Int) + 1 := by rw [IntKind.wrap_i64]; omega
 have k2 : IntKind.i64.wrap ((r.pos : Int) + 2) = (r.pos : Int) + 2 := by rw [IntKind.wrap_i64]; omega
 have k3 : (((r.pos : Int) + 1) == (s.size : Int)) = false := by rw [beq_eq_false_iff_ne]; omega
 have k4 : (0 : Int) ≤ (r.pos : Int) + 1 := by omega
 have k5 : (r.pos : Int) + 1 < (s.size : Int) := by omega
 have k6 : ((r.pos : Int) + 1).toNat = r.pos + 1 := by omega
 go_enter Tryz.func41, Tryz.ntmps41
 go_wp2_with fail
 refine HH.out.2.1.mono ?_
 rintro e' w1 ⟨⟨v, rfl⟩, hI1, hgr1⟩
 have hz1 := HH.out.1.grown hgr1 (by have := HLT.out; omega)
 have hG2 := xag HH.out.2.2 hgr1
 clear HH c0 f0 c1 f1 c01 f01
 go_wp2_with fail
 refine (xb5 10 _).mono ?_
 rintro e' w2 ⟨rfl, hb2⟩
 have hz2 := hz1.below hb2 (Nat.le_refl _)
 have hI2 := hI1.below hb2 hI1.lt
 have hG3 := xag hG2 (xar hb2 (some b))
 have HF := xab (And.intro hI2 hG3)
 clear hI1 hI2 hG2 hG3 hgr1 hb2 hz1
 obtain ⟨d0, g0⟩ := hz2.cell 0 _ rfl
 obtain ⟨d1, g1⟩ := hz2.cell 1 _ rfl
 obtain ⟨d2, g2⟩ := hz2.cell 2 _ rfl
 obtain ⟨d3, g3⟩ := hz2.cell 3 _ rfl
 obtain ⟨d4, g4⟩ := hz2.cell 4 _ rfl
 obtain ⟨d5, g5⟩ := hz2.cell 5 _ rfl
 obtain ⟨d6, g6⟩ := hz2.cell 6 _ rfl
 obtain ⟨d7, g7⟩ := hz2.cell 7 _ rfl
 obtain ⟨d8, g8⟩ := hz2.cell 8 _ rfl
 clear hz2
 go_wp2
 exact bodyPost_ret (v := xdc 1 (xaw 10) 0) (by simp [results, Tryz.results41, go_sem, d0, d1, d2, d3, d4, d5, d6, d7, d8]) rfl ⟨rfl, HF.out.1.below (xbx (Below.refl _ _) (Nat.le_refl _) _ _ _ _ _ _ _ _ _) HLT.out, xbo HF.out.2 (xbx (Below.refl _ _) (Nat.le_refl _) _ _ _ _ _ _ _ _ _)⟩
theorem docEsc_a (s : ByteArray) (hs : s.size ≤ 1073741824) (r : Rd) (hr : r.pos + 1 < s.size) (hz : 0 ≤ r.size ∧ r.size ≤ 1000000000) (b : Nat) (w : World) (h : IsRd w b s r) (hlo : 0 ≤ (s[r.pos + 1].toNat : Int)) (hhi : (s[r.pos + 1].toNat : Int) ≤ 47) (hne : (s[r.pos + 1].toNat : Int) ≠ 110) :
  Calls Tryz.prog 41 #[.pointer (some ⟨b, 0, none⟩)] w fun x w' => x = .returned (xdc 1 (xaw s[r.pos + 1].toNat) 0) ∧ IsRd w' b s (({ r with pos := r.pos + 2 } : Rd).grow 1 r.pos) ∧ w.grownBy w' (some b) := by
 have hlt := h.lt
 have h0 : IsRd (W9 w) b s r := h.below (xbb w) hlt
 obtain ⟨c0, f0⟩ := h0.cell 0 _ rfl
 obtain ⟨c1, f1⟩ := h0.cell 1 _ rfl
 have h1 : IsRd ((W9 w).setCell ⟨b, 1, none⟩ (.int .i64 ((r.pos : Int) + 2))) b s ({ r with pos := r.pos + 2 } : Rd) := IsRd.put h0 1 _ (by simp [Rd.cells])
 obtain ⟨c01, f01⟩ := h1.cell 0 _ rfl
 have hz1 : Blk9 ((W9 w).setCell ⟨b, 1, none⟩ (.int .i64 ((r.pos : Int) + 2))) w.heap.size xek := (Blk9.new w).grown (xal _ b 1 _) (by omega)
 have hG1 := xag (xar (xbb w) (some b)) (xal (W9 w) b 1 (.int .i64 ((r.pos : Int) + 2)))
 have hg := xbe s ({ r with pos := r.pos + 2 } : Rd) b 1 r.pos (by omega) hz _ h1
 have HH := xab (And.intro hz1 (And.intro hg hG1))
 have HLT := xab hlt
 have HZ := xab hz
 have HE := xab hne
 have q0 : (49 ≤ (s[r.pos + 1].toNat : Int)) = False := eq_false (by omega)
 have q1 : (97 ≤ (s[r.pos + 1].toNat : Int)) = False := eq_false (by omega)
 have q2 : (65 ≤ (s[r.pos + 1].toNat : Int)) = False := eq_false (by omega)
 have t0 : ((s[r.pos + 1].toNat : Int) ≤ 57) = True := eq_true (by omega)
 have t1 : ((s[r.pos + 1].toNat : Int) ≤ 122) = True := eq_true (by omega)
 have t2 : ((s[r.pos + 1].toNat : Int) ≤ 90) = True := eq_true (by omega)
 have u0 : ((s[r.pos + 1].toNat : Int) == 110) = false := by rw [beq_eq_false_iff_ne]; exact hne
 have u1 : ((s[r.pos + 1].toNat : Int) == 48) = false := by rw [beq_eq_false_iff_ne]; omega
 clear h h0 h1 hg hG1 hz1 hlt hz hne
 unfold W9 at c0 f0 c1 f1 c01 f01 HH
 have k1 : IntKind.i64.wrap ((r.pos : Int) + 1) = (r.pos : Int) + 1 := by rw [IntKind.wrap_i64]; omega
 have k2 : IntKind.i64.wrap ((r.pos : Int) + 2) = (r.pos : Int) + 2 := by rw [IntKind.wrap_i64]; omega
 have k3 : (((r.pos : Int) + 1) == (s.size : Int)) = false := by rw [beq_eq_false_iff_ne]; omega
 have k4 : (0 : Int) ≤ (r.pos : Int) + 1 := by omega
 have k5 : (r.pos : Int) + 1 < (s.size : Int) := by omega
 have k6 : ((r.pos : Int) + 1).toNat = r.pos + 1 := by omega
 go_enter Tryz.func41, Tryz.ntmps41
 go_wp2_with fail
 refine HH.out.2.1.mono ?_
 rintro e' w1 ⟨⟨v, rfl⟩, hI1, hgr1⟩
 have hz1 := HH.out.1.grown hgr1 (by have := HLT.out; omega)
 have hG2 := xag HH.out.2.2 hgr1
 clear HH c0 f0 c1 f1 c01 f01
 go_wp2_with fail
 refine (xb5 s[r.pos + 1].toNat _).mono ?_
 rintro e' w2 ⟨rfl, hb2⟩
 have hz2 := hz1.below hb2 (Nat.le_refl _)
 have hI2 := hI1.below hb2 hI1.lt
 have hG3 := xag hG2 (xar hb2 (some b))
 have HF := xab (And.intro hI2 hG3)
 clear hI1 hI2 hG2 hG3 hgr1 hb2 hz1
 obtain ⟨d0, g0⟩ := hz2.cell 0 _ rfl
 obtain ⟨d1, g1⟩ := hz2.cell 1 _ rfl
 obtain ⟨d2, g2⟩ := hz2.cell 2 _ rfl
 obtain ⟨d3, g3⟩ := hz2.cell 3 _ rfl
 obtain ⟨d4, g4⟩ := hz2.cell 4 _ rfl
 obtain ⟨d5, g5⟩ := hz2.cell 5 _ rfl
 obtain ⟨d6, g6⟩ := hz2.cell 6 _ rfl
 obtain ⟨d7, g7⟩ := hz2.cell 7 _ rfl
 obtain ⟨d8, g8⟩ := hz2.cell 8 _ rfl
 clear hz2
 go_wp2
 exact bodyPost_ret (v := xdc 1 (xaw s[r.pos + 1].toNat) 0) (by simp [results, Tryz.results41, go_sem, d0, d1, d2, d3, d4, d5, d6, d7, d8]) rfl ⟨rfl, HF.out.1.below (xbx (Below.refl _ _) (Nat.le_refl _) _ _ _ _ _ _ _ _ _) HLT.out, xbo HF.out.2 (xbx (Below.refl _ _) (Nat.le_refl _) _ _ _ _ _ _ _ _ _)⟩
theorem docEsc_b (s : ByteArray) (hs : s.size ≤ 1073741824) (r : Rd) (hr : r.pos + 1 < s.size) (hz : 0 ≤ r.size ∧ r.size ≤ 1000000000) (b : Nat) (w : World) (h : IsRd w b s r) (hlo : 58 ≤ (s[r.pos + 1].toNat : Int)) (hhi : (s[r.pos + 1].toNat : Int) ≤ 64) (hne : (s[r.pos + 1].toNat : Int) ≠ 110) :
  Calls Tryz.prog 41 #[.pointer (some ⟨b, 0, none⟩)] w fun x w' => x = .returned (xdc 1 (xaw s[r.pos + 1].toNat) 0) ∧ IsRd w' b s (({ r with pos := r.pos + 2 } : Rd).grow 1 r.pos) ∧ w.grownBy w' (some b) := by
 have hlt := h.lt
 have h0 : IsRd (W9 w) b s r := h.below (xbb w) hlt
 obtain ⟨c0, f0⟩ := h0.cell 0 _ rfl
 obtain ⟨c1, f1⟩ := h0.cell 1 _ rfl
 have h1 : IsRd ((W9 w).setCell ⟨b, 1, none⟩ (.int .i64 ((r.pos : Int) + 2))) b s ({ r with pos := r.pos + 2 } : Rd) := IsRd.put h0 1 _ (by simp [Rd.cells])
 obtain ⟨c01, f01⟩ := h1.cell 0 _ rfl
 have hz1 : Blk9 ((W9 w).setCell ⟨b, 1, none⟩ (.int .i64 ((r.pos : Int) + 2))) w.heap.size xek := (Blk9.new w).grown (xal _ b 1 _) (by omega)
 have hG1 := xag (xar (xbb w) (some b)) (xal (W9 w) b 1 (.int .i64 ((r.pos : Int) + 2)))
 have hg := xbe s ({ r with pos := r.pos + 2 } : Rd) b 1 r.pos (by omega) hz _ h1
 have HH := xab (And.intro hz1 (And.intro hg hG1))
 have HLT := xab hlt
 have HZ := xab hz
 have HE := xab hne
 have q0 : (49 ≤ (s[r.pos + 1].toNat : Int)) = True := eq_true (by omega)
 have q1 : (97 ≤ (s[r.pos + 1].toNat : Int)) = False := eq_false (by omega)
 have q2 : (65 ≤ (s[r.pos + 1].toNat : Int)) = False := eq_false (by omega)
 have t0 : ((s[r.pos + 1].toNat : Int) ≤ 57) = False := eq_false (by omega)
 have t1 : ((s[r.pos + 1].toNat : Int) ≤ 122) = True := eq_true (by omega)
 have t2 : ((s[r.pos + 1].toNat : Int) ≤ 90) = True := eq_true (by omega)
 have u0 : ((s[r.pos + 1].toNat : Int) == 110) = false := by rw [beq_eq_false_iff_ne]; exact hne
 have u1 : ((s[r.pos + 1].toNat : Int) == 48) = false := by rw [beq_eq_false_iff_ne]; omega
 clear h h0 h1 hg hG1 hz1 hlt hz hne
 unfold W9 at c0 f0 c1 f1 c01 f01 HH
 have k1 : IntKind.i64.wrap ((r.pos : Int) + 1) = (r.pos : Int) + 1 := by rw [IntKind.wrap_i64]; omega
 have k2 : IntKind.i64.wrap ((r.pos : Int) + 2) = (r.pos : Int) + 2 := by rw [IntKind.wrap_i64]; omega
 have k3 : (((r.pos : Int) + 1) == (s.size : Int)) = false := by rw [beq_eq_false_iff_ne]; omega
 have k4 : (0 : Int) ≤ (r.pos : Int) + 1 := by omega
 have k5 : (r.pos : Int) + 1 < (s.size : Int) := by omega
 have k6 : ((r.pos : Int) + 1).toNat = r.pos + 1 := by omega
 go_enter Tryz.func41, Tryz.ntmps41
 go_wp2_with fail
 refine HH.out.2.1.mono ?_
 rintro e' w1 ⟨⟨v, rfl⟩, hI1, hgr1⟩
 have hz1 := HH.out.1.grown hgr1 (by have := HLT.out; omega)
 have hG2 := xag HH.out.2.2 hgr1
 clear HH c0 f0 c1 f1 c01 f01
 go_wp2_with fail
 refine (xb5 s[r.pos + 1].toNat _).mono ?_
 rintro e' w2 ⟨rfl, hb2⟩
 have hz2 := hz1.below hb2 (Nat.le_refl _)
 have hI2 := hI1.below hb2 hI1.lt
 have hG3 := xag hG2 (xar hb2 (some b))
 have HF := xab (And.intro hI2 hG3)
 clear hI1 hI2 hG2 hG3 hgr1 hb2 hz1
 obtain ⟨d0, g0⟩ := hz2.cell 0 _ rfl
 obtain ⟨d1, g1⟩ := hz2.cell 1 _ rfl
 obtain ⟨d2, g2⟩ := hz2.cell 2 _ rfl
 obtain ⟨d3, g3⟩ := hz2.cell 3 _ rfl
 obtain ⟨d4, g4⟩ := hz2.cell 4 _ rfl
 obtain ⟨d5, g5⟩ := hz2.cell 5 _ rfl
 obtain ⟨d6, g6⟩ := hz2.cell 6 _ rfl
 obtain ⟨d7, g7⟩ := hz2.cell 7 _ rfl
 obtain ⟨d8, g8⟩ := hz2.cell 8 _ rfl
 clear hz2
 go_wp2
 exact bodyPost_ret (v := xdc 1 (xaw s[r.pos + 1].toNat) 0) (by simp [results, Tryz.results41, go_sem, d0, d1, d2, d3, d4, d5, d6, d7, d8]) rfl ⟨rfl, HF.out.1.below (xbx (Below.refl _ _) (Nat.le_refl _) _ _ _ _ _ _ _ _ _) HLT.out, xbo HF.out.2 (xbx (Below.refl _ _) (Nat.le_refl _) _ _ _ _ _ _ _ _ _)⟩
theorem docEsc_c (s : ByteArray) (hs : s.size ≤ 1073741824) (r : Rd) (hr : r.pos + 1 < s.size) (hz : 0 ≤ r.size ∧ r.size ≤ 1000000000) (b : Nat) (w : World) (h : IsRd w b s r) (hlo : 91 ≤ (s[r.pos + 1].toNat : Int)) (hhi : (s[r.pos + 1].toNat : Int) ≤ 96) (hne : (s[r.pos + 1].toNat : Int) ≠ 110) :
  Calls Tryz.prog 41 #[.pointer (some ⟨b, 0, none⟩)] w fun x w' => x = .returned (xdc 1 (xaw s[r.pos + 1].toNat) 0) ∧ IsRd w' b s (({ r with pos := r.pos + 2 } : Rd).grow 1 r.pos) ∧ w.grownBy w' (some b) := by
 have hlt := h.lt
 have h0 : IsRd (W9 w) b s r := h.below (xbb w) hlt
 obtain ⟨c0, f0⟩ := h0.cell 0 _ rfl
 obtain ⟨c1, f1⟩ := h0.cell 1 _ rfl
 have h1 : IsRd ((W9 w).setCell ⟨b, 1, none⟩ (.int .i64 ((r.pos : Int) + 2))) b s ({ r with pos := r.pos + 2 } : Rd) := IsRd.put h0 1 _ (by simp [Rd.cells])
 obtain ⟨c01, f01⟩ := h1.cell 0 _ rfl
 have hz1 : Blk9 ((W9 w).setCell ⟨b, 1, none⟩ (.int .i64 ((r.pos : Int) + 2))) w.heap.size xek := (Blk9.new w).grown (xal _ b 1 _) (by omega)
 have hG1 := xag (xar (xbb w) (some b)) (xal (W9 w) b 1 (.int .i64 ((r.pos : Int) + 2)))
 have hg := xbe s ({ r with pos := r.pos + 2 } : Rd) b 1 r.pos (by omega) hz _ h1
 have HH := xab (And.intro hz1 (And.intro hg hG1))
 have HLT := xab hlt
 have HZ := xab hz
 have HE := xab hne
 have q0 : (49 ≤ (s[r.pos + 1].toNat : Int)) = True := eq_true (by omega)
 have q1 : (97 ≤ (s[r.pos + 1].toNat : Int)) = False := eq_false (by omega)
 have q2 : (65 ≤ (s[r.pos + 1].toNat : Int)) = True := eq_true (by omega)
 have t0 : ((s[r.pos + 1].toNat : Int) ≤ 57) = False := eq_false (by omega)
 have t1 : ((s[r.pos + 1].toNat : Int) ≤ 122) = True := eq_true (by omega)
 have t2 : ((s[r.pos + 1].toNat : Int) ≤ 90) = False := eq_false (by omega)
 have u0 : ((s[r.pos + 1].toNat : Int) == 110) = false := by rw [beq_eq_false_iff_ne]; exact hne
 have u1 : ((s[r.pos + 1].toNat : Int) == 48) = false := by rw [beq_eq_false_iff_ne]; omega
 clear h h0 h1 hg hG1 hz1 hlt hz hne
 unfold W9 at c0 f0 c1 f1 c01 f01 HH
 have k1 : IntKind.i64.wrap ((r.pos : Int) + 1) = (r.pos : Int) + 1 := by rw [IntKind.wrap_i64]; omega
 have k2 : IntKind.i64.wrap ((r.pos : Int) + 2) = (r.pos : Int) + 2 := by rw [IntKind.wrap_i64]; omega
 have k3 : (((r.pos : Int) + 1) == (s.size : Int)) = false := by rw [beq_eq_false_iff_ne]; omega
 have k4 : (0 : Int) ≤ (r.pos : Int) + 1 := by omega
 have k5 : (r.pos : Int) + 1 < (s.size : Int) := by omega
 have k6 : ((r.pos : Int) + 1).toNat = r.pos + 1 := by omega
 go_enter Tryz.func41, Tryz.ntmps41
 go_wp2_with fail
 refine HH.out.2.1.mono ?_
 rintro e' w1 ⟨⟨v, rfl⟩, hI1, hgr1⟩
 have hz1 := HH.out.1.grown hgr1 (by have := HLT.out; omega)
 have hG2 := xag HH.out.2.2 hgr1
 clear HH c0 f0 c1 f1 c01 f01
 go_wp2_with fail
 refine (xb5 s[r.pos + 1].toNat _).mono ?_
 rintro e' w2 ⟨rfl, hb2⟩
 have hz2 := hz1.below hb2 (Nat.le_refl _)
 have hI2 := hI1.below hb2 hI1.lt
 have hG3 := xag hG2 (xar hb2 (some b))
 have HF := xab (And.intro hI2 hG3)
 clear hI1 hI2 hG2 hG3 hgr1 hb2 hz1
 obtain ⟨d0, g0⟩ := hz2.cell 0 _ rfl
 obtain ⟨d1, g1⟩ := hz2.cell 1 _ rfl
 obtain ⟨d2, g2⟩ := hz2.cell 2 _ rfl
 obtain ⟨d3, g3⟩ := hz2.cell 3 _ rfl
 obtain ⟨d4, g4⟩ := hz2.cell 4 _ rfl
 obtain ⟨d5, g5⟩ := hz2.cell 5 _ rfl
 obtain ⟨d6, g6⟩ := hz2.cell 6 _ rfl
 obtain ⟨d7, g7⟩ := hz2.cell 7 _ rfl
 obtain ⟨d8, g8⟩ := hz2.cell 8 _ rfl
 clear hz2
 go_wp2
 exact bodyPost_ret (v := xdc 1 (xaw s[r.pos + 1].toNat) 0) (by simp [results, Tryz.results41, go_sem, d0, d1, d2, d3, d4, d5, d6, d7, d8]) rfl ⟨rfl, HF.out.1.below (xbx (Below.refl _ _) (Nat.le_refl _) _ _ _ _ _ _ _ _ _) HLT.out, xbo HF.out.2 (xbx (Below.refl _ _) (Nat.le_refl _) _ _ _ _ _ _ _ _ _)⟩
theorem docEsc_d (s : ByteArray) (hs : s.size ≤ 1073741824) (r : Rd) (hr : r.pos + 1 < s.size) (hz : 0 ≤ r.size ∧ r.size ≤ 1000000000) (b : Nat) (w : World) (h : IsRd w b s r) (hlo : 123 ≤ (s[r.pos + 1].toNat : Int)) (hhi : (s[r.pos + 1].toNat : Int) ≤ 255) (hne : (s[r.pos + 1].toNat : Int) ≠ 110) :
  Calls Tryz.prog 41 #[.pointer (some ⟨b, 0, none⟩)] w fun x w' => x = .returned (xdc 1 (xaw s[r.pos + 1].toNat) 0) ∧ IsRd w' b s (({ r with pos := r.pos + 2 } : Rd).grow 1 r.pos) ∧ w.grownBy w' (some b) := by
 have hlt := h.lt
 have h0 : IsRd (W9 w) b s r := h.below (xbb w) hlt
 obtain ⟨c0, f0⟩ := h0.cell 0 _ rfl
 obtain ⟨c1, f1⟩ := h0.cell 1 _ rfl
 have h1 : IsRd ((W9 w).setCell ⟨b, 1, none⟩ (.int .i64 ((r.pos : Int) + 2))) b s ({ r with pos := r.pos + 2 } : Rd) := IsRd.put h0 1 _ (by simp [Rd.cells])
 obtain ⟨c01, f01⟩ := h1.cell 0 _ rfl
 have hz1 : Blk9 ((W9 w).setCell ⟨b, 1, none⟩ (.int .i64 ((r.pos : Int) + 2))) w.heap.size xek := (Blk9.new w).grown (xal _ b 1 _) (by omega)
 have hG1 := xag (xar (xbb w) (some b)) (xal (W9 w) b 1 (.int .i64 ((r.pos : Int) + 2)))
 have hg := xbe s ({ r with pos := r.pos + 2 } : Rd) b 1 r.pos (by omega) hz _ h1
 have HH := xab (And.intro hz1 (And.intro hg hG1))
 have HLT := xab hlt
 have HZ := xab hz
 have HE := xab hne
 have q0 : (49 ≤ (s[r.pos + 1].toNat : Int)) = True := eq_true (by omega)
 have q1 : (97 ≤ (s[r.pos + 1].toNat : Int)) = True := eq_true (by omega)
 have q2 : (65 ≤ (s[r.pos + 1].toNat : Int)) = True := eq_true (by omega)
 have t0 : ((s[r.pos + 1].toNat : Int) ≤ 57) = False := eq_false (by omega)
 have t1 : ((s[r.pos + 1].toNat : Int) ≤ 122) = False := eq_false (by omega)
 have t2 : ((s[r.pos + 1].toNat : Int) ≤ 90) = False := eq_false (by omega)
 have u0 : ((s[r.pos + 1].toNat : Int) == 110) = false := by rw [beq_eq_false_iff_ne]; exact hne
 have u1 : ((s[r.pos + 1].toNat : Int) == 48) = false := by rw [beq_eq_false_iff_ne]; omega
 clear h h0 h1 hg hG1 hz1 hlt hz hne
 unfold W9 at c0 f0 c1 f1 c01 f01 HH
 have k1 : IntKind.i64.wrap ((r.pos : Int) + 1) = (r.pos : Int) + 1 := by rw [IntKind.wrap_i64]; omega
 have k2 : IntKind.i64.wrap ((r.pos : Int) + 2) = (r.pos : Int) + 2 := by rw [IntKind.wrap_i64]; omega
 have k3 : (((r.pos : Int) + 1) == (s.size : Int)) = false := by rw [beq_eq_false_iff_ne]; omega
 have k4 : (0 : Int) ≤ (r.pos : Int) + 1 := by omega
 have k5 : (r.pos : Int) + 1 < (s.size : Int) := by omega
 have k6 : ((r.pos : Int) + 1).toNat = r.pos + 1 := by omega
 go_enter Tryz.func41, Tryz.ntmps41
 go_wp2_with fail
 refine HH.out.2.1.mono ?_
 rintro e' w1 ⟨⟨v, rfl⟩, hI1, hgr1⟩
 have hz1 := HH.out.1.grown hgr1 (by have := HLT.out; omega)
 have hG2 := xag HH.out.2.2 hgr1
 clear HH c0 f0 c1 f1 c01 f01
 go_wp2_with fail
 refine (xb5 s[r.pos + 1].toNat _).mono ?_
 rintro e' w2 ⟨rfl, hb2⟩
 have hz2 := hz1.below hb2 (Nat.le_refl _)
 have hI2 := hI1.below hb2 hI1.lt
 have hG3 := xag hG2 (xar hb2 (some b))
 have HF := xab (And.intro hI2 hG3)
 clear hI1 hI2 hG2 hG3 hgr1 hb2 hz1
 obtain ⟨d0, g0⟩ := hz2.cell 0 _ rfl
 obtain ⟨d1, g1⟩ := hz2.cell 1 _ rfl
 obtain ⟨d2, g2⟩ := hz2.cell 2 _ rfl
 obtain ⟨d3, g3⟩ := hz2.cell 3 _ rfl
 obtain ⟨d4, g4⟩ := hz2.cell 4 _ rfl
 obtain ⟨d5, g5⟩ := hz2.cell 5 _ rfl
 obtain ⟨d6, g6⟩ := hz2.cell 6 _ rfl
 obtain ⟨d7, g7⟩ := hz2.cell 7 _ rfl
 obtain ⟨d8, g8⟩ := hz2.cell 8 _ rfl
 clear hz2
 go_wp2
 exact bodyPost_ret (v := xdc 1 (xaw s[r.pos + 1].toNat) 0) (by simp [results, Tryz.results41, go_sem, d0, d1, d2, d3, d4, d5, d6, d7, d8]) rfl ⟨rfl, HF.out.1.below (xbx (Below.refl _ _) (Nat.le_refl _) _ _ _ _ _ _ _ _ _) HLT.out, xbo HF.out.2 (xbx (Below.refl _ _) (Nat.le_refl _) _ _ _ _ _ _ _ _ _)⟩
theorem docEsc_e (s : ByteArray) (hs : s.size ≤ 1073741824) (r : Rd) (hr : r.pos + 1 < s.size) (hz : 0 ≤ r.size ∧ r.size ≤ 1000000000) (b : Nat) (w : World) (h : IsRd w b s r) (hlo : 48 ≤ (s[r.pos + 1].toNat : Int)) (hhi : (s[r.pos + 1].toNat : Int) ≤ 48) (hne : (s[r.pos + 1].toNat : Int) ≠ 110) :
  Calls Tryz.prog 41 #[.pointer (some ⟨b, 0, none⟩)] w fun x w' => x = .returned (xdc 1 (xaw s[r.pos + 1].toNat) 0) ∧ IsRd w' b s ((({ r with pos := r.pos + 2 } : Rd).failed 12 r.pos).grow 1 r.pos) ∧ w.grownBy w' (some b) := by
 have hlt := h.lt
 have h0 : IsRd (W9 w) b s r := h.below (xbb w) hlt
 obtain ⟨c0, f0⟩ := h0.cell 0 _ rfl
 obtain ⟨c1, f1⟩ := h0.cell 1 _ rfl
 have h1 : IsRd ((W9 w).setCell ⟨b, 1, none⟩ (.int .i64 ((r.pos : Int) + 2))) b s ({ r with pos := r.pos + 2 } : Rd) := IsRd.put h0 1 _ (by simp [Rd.cells])
 obtain ⟨c01, f01⟩ := h1.cell 0 _ rfl
 have hz1 : Blk9 ((W9 w).setCell ⟨b, 1, none⟩ (.int .i64 ((r.pos : Int) + 2))) w.heap.size xek := (Blk9.new w).grown (xal _ b 1 _) (by omega)
 have hG1 := xag (xar (xbb w) (some b)) (xal (W9 w) b 1 (.int .i64 ((r.pos : Int) + 2)))
 have hg := xb6 s ({ r with pos := r.pos + 2 } : Rd) b 12 r.pos _ h1
 have HH := xab (And.intro hz1 (And.intro hg hG1))
 have HLT := xab hlt
 have HZ := xab hz
 have HE := xab hne
 have q0 : (49 ≤ (s[r.pos + 1].toNat : Int)) = False := eq_false (by omega)
 have q1 : (97 ≤ (s[r.pos + 1].toNat : Int)) = False := eq_false (by omega)
 have q2 : (65 ≤ (s[r.pos + 1].toNat : Int)) = False := eq_false (by omega)
 have t0 : ((s[r.pos + 1].toNat : Int) ≤ 57) = True := eq_true (by omega)
 have t1 : ((s[r.pos + 1].toNat : Int) ≤ 122) = True := eq_true (by omega)
 have t2 : ((s[r.pos + 1].toNat : Int) ≤ 90) = True := eq_true (by omega)
 have u0 : ((s[r.pos + 1].toNat : Int) == 110) = false := by rw [beq_eq_false_iff_ne]; exact hne
 have u1 : ((s[r.pos + 1].toNat : Int) == 48) = true := by rw [beq_iff_eq]; omega
 clear h h0 h1 hg hG1 hz1 hlt hz hne
 unfold W9 at c0 f0 c1 f1 c01 f01 HH
 have k1 : IntKind.i64.wrap ((r.pos : Int) + 1) = (r.pos : Int) + 1 := by rw [IntKind.wrap_i64]; omega
 have k2 : IntKind.i64.wrap ((r.pos : Int) + 2) = (r.pos : Int) + 2 := by rw [IntKind.wrap_i64]; omega
 have k3 : (((r.pos : Int) + 1) == (s.size : Int)) = false := by rw [beq_eq_false_iff_ne]; omega
 have k4 : (0 : Int) ≤ (r.pos : Int) + 1 := by omega
 have k5 : (r.pos : Int) + 1 < (s.size : Int) := by omega
 have k6 : ((r.pos : Int) + 1).toNat = r.pos + 1 := by omega
 go_enter Tryz.func41, Tryz.ntmps41
 go_wp2_with fail
 refine HH.out.2.1.mono ?_
 rintro e' w1 ⟨⟨v, rfl⟩, hI1, hgr1⟩
 have hz1 := HH.out.1.grown hgr1 (by have := HLT.out; omega)
 have hG2 := xag HH.out.2.2 hgr1
 clear HH c0 f0 c1 f1 c01 f01
 have hI1' : IsRd w1 b s (({ r with pos := r.pos + 2 } : Rd).failed 12 r.pos) := hI1
 have hg2 := xbe s (({ r with pos := r.pos + 2 } : Rd).failed 12 r.pos) b 1 r.pos (by omega) (by have := HZ.out; unfold Rd.failed; split <;> exact this) _ hI1'
 have H2 := xab (And.intro hg2 (And.intro hz1 hG2))
 clear hI1 hI1' hg2 hz1 hG2 hgr1
 go_wp2_with fail
 refine H2.out.1.mono ?_
 rintro e' w1' ⟨⟨v, rfl⟩, hI1, hgr1⟩
 have hz1 := H2.out.2.1.grown hgr1 (by have := HLT.out; omega)
 have hG2 := xag H2.out.2.2 hgr1
 clear H2
 go_wp2_with fail
 refine (xb5 s[r.pos + 1].toNat _).mono ?_
 rintro e' w2 ⟨rfl, hb2⟩
 have hz2 := hz1.below hb2 (Nat.le_refl _)
 have hI2 := hI1.below hb2 hI1.lt
 have hG3 := xag hG2 (xar hb2 (some b))
 have HF := xab (And.intro hI2 hG3)
 clear hI1 hI2 hG2 hG3 hgr1 hb2 hz1
 obtain ⟨d0, g0⟩ := hz2.cell 0 _ rfl
 obtain ⟨d1, g1⟩ := hz2.cell 1 _ rfl
 obtain ⟨d2, g2⟩ := hz2.cell 2 _ rfl
 obtain ⟨d3, g3⟩ := hz2.cell 3 _ rfl
 obtain ⟨d4, g4⟩ := hz2.cell 4 _ rfl
 obtain ⟨d5, g5⟩ := hz2.cell 5 _ rfl
 obtain ⟨d6, g6⟩ := hz2.cell 6 _ rfl
 obtain ⟨d7, g7⟩ := hz2.cell 7 _ rfl
 obtain ⟨d8, g8⟩ := hz2.cell 8 _ rfl
 clear hz2
 go_wp2
 exact bodyPost_ret (v := xdc 1 (xaw s[r.pos + 1].toNat) 0) (by simp [results, Tryz.results41, go_sem, d0, d1, d2, d3, d4, d5, d6, d7, d8]) rfl ⟨rfl, HF.out.1.below (xbx (Below.refl _ _) (Nat.le_refl _) _ _ _ _ _ _ _ _ _) HLT.out, xbo HF.out.2 (xbx (Below.refl _ _) (Nat.le_refl _) _ _ _ _ _ _ _ _ _)⟩
theorem docEsc_f (s : ByteArray) (hs : s.size ≤ 1073741824) (r : Rd) (hr : r.pos + 1 < s.size) (hz : 0 ≤ r.size ∧ r.size ≤ 1000000000) (b : Nat) (w : World) (h : IsRd w b s r) (hlo : 65 ≤ (s[r.pos + 1].toNat : Int)) (hhi : (s[r.pos + 1].toNat : Int) ≤ 90) (hne : (s[r.pos + 1].toNat : Int) ≠ 110) :
  Calls Tryz.prog 41 #[.pointer (some ⟨b, 0, none⟩)] w fun x w' => x = .returned (xdc 1 (xaw s[r.pos + 1].toNat) 0) ∧ IsRd w' b s ((({ r with pos := r.pos + 2 } : Rd).failed 12 r.pos).grow 1 r.pos) ∧ w.grownBy w' (some b) := by
 have hlt := h.lt
 have h0 : IsRd (W9 w) b s r := h.below (xbb w) hlt
 obtain ⟨c0, f0⟩ := h0.cell 0 _ rfl
 obtain ⟨c1, f1⟩ := h0.cell 1 _ rfl
 have h1 : IsRd ((W9 w).setCell ⟨b, 1, none⟩ (.int .i64 ((r.pos : Int) + 2))) b s ({ r with pos := r.pos + 2 } : Rd) := IsRd.put h0 1 _ (by simp [Rd.cells])
 obtain ⟨c01, f01⟩ := h1.cell 0 _ rfl
 have hz1 : Blk9 ((W9 w).setCell ⟨b, 1, none⟩ (.int .i64 ((r.pos : Int) + 2))) w.heap.size xek := (Blk9.new w).grown (xal _ b 1 _) (by omega)
 have hG1 := xag (xar (xbb w) (some b)) (xal (W9 w) b 1 (.int .i64 ((r.pos : Int) + 2)))
 have hg := xb6 s ({ r with pos := r.pos + 2 } : Rd) b 12 r.pos _ h1
 have HH := xab (And.intro hz1 (And.intro hg hG1))
 have HLT := xab hlt
 have HZ := xab hz
 have HE := xab hne
 have q0 : (49 ≤ (s[r.pos + 1].toNat : Int)) = True := eq_true (by omega)
 have q1 : (97 ≤ (s[r.pos + 1].toNat : Int)) = False := eq_false (by omega)
 have q2 : (65 ≤ (s[r.pos + 1].toNat : Int)) = True := eq_true (by omega)
 have t0 : ((s[r.pos + 1].toNat : Int) ≤ 57) = False := eq_false (by omega)
 have t1 : ((s[r.pos + 1].toNat : Int) ≤ 122) = True := eq_true (by omega)
 have t2 : ((s[r.pos + 1].toNat : Int) ≤ 90) = True := eq_true (by omega)
 have u0 : ((s[r.pos + 1].toNat : Int) == 110) = false := by rw [beq_eq_false_iff_ne]; exact hne
 have u1 : ((s[r.pos + 1].toNat : Int) == 48) = false := by rw [beq_eq_false_iff_ne]; omega
 clear h h0 h1 hg hG1 hz1 hlt hz hne
 unfold W9 at c0 f0 c1 f1 c01 f01 HH
 have k1 : IntKind.i64.wrap ((r.pos : Int) + 1) = (r.pos : Int) + 1 := by rw [IntKind.wrap_i64]; omega
 have k2 : IntKind.i64.wrap ((r.pos : Int) + 2) = (r.pos : Int) + 2 := by rw [IntKind.wrap_i64]; omega
 have k3 : (((r.pos : Int) + 1) == (s.size : Int)) = false := by rw [beq_eq_false_iff_ne]; omega
 have k4 : (0 : Int) ≤ (r.pos : Int) + 1 := by omega
 have k5 : (r.pos : Int) + 1 < (s.size : Int) := by omega
 have k6 : ((r.pos : Int) + 1).toNat = r.pos + 1 := by omega
 go_enter Tryz.func41, Tryz.ntmps41
 go_wp2_with fail
 refine HH.out.2.1.mono ?_
 rintro e' w1 ⟨⟨v, rfl⟩, hI1, hgr1⟩
 have hz1 := HH.out.1.grown hgr1 (by have := HLT.out; omega)
 have hG2 := xag HH.out.2.2 hgr1
 clear HH c0 f0 c1 f1 c01 f01
 have hI1' : IsRd w1 b s (({ r with pos := r.pos + 2 } : Rd).failed 12 r.pos) := hI1
 have hg2 := xbe s (({ r with pos := r.pos + 2 } : Rd).failed 12 r.pos) b 1 r.pos (by omega) (by have := HZ.out; unfold Rd.failed; split <;> exact this) _ hI1'
 have H2 := xab (And.intro hg2 (And.intro hz1 hG2))
 clear hI1 hI1' hg2 hz1 hG2 hgr1
 go_wp2_with fail
 refine H2.out.1.mono ?_
 rintro e' w1' ⟨⟨v, rfl⟩, hI1, hgr1⟩
 have hz1 := H2.out.2.1.grown hgr1 (by have := HLT.out; omega)
 have hG2 := xag H2.out.2.2 hgr1
 clear H2
 go_wp2_with fail
 refine (xb5 s[r.pos + 1].toNat _).mono ?_
 rintro e' w2 ⟨rfl, hb2⟩
 have hz2 := hz1.below hb2 (Nat.le_refl _)
 have hI2 := hI1.below hb2 hI1.lt
 have hG3 := xag hG2 (xar hb2 (some b))
 have HF := xab (And.intro hI2 hG3)
 clear hI1 hI2 hG2 hG3 hgr1 hb2 hz1
 obtain ⟨d0, g0⟩ := hz2.cell 0 _ rfl
 obtain ⟨d1, g1⟩ := hz2.cell 1 _ rfl
 obtain ⟨d2, g2⟩ := hz2.cell 2 _ rfl
 obtain ⟨d3, g3⟩ := hz2.cell 3 _ rfl
 obtain ⟨d4, g4⟩ := hz2.cell 4 _ rfl
 obtain ⟨d5, g5⟩ := hz2.cell 5 _ rfl
 obtain ⟨d6, g6⟩ := hz2.cell 6 _ rfl
 obtain ⟨d7, g7⟩ := hz2.cell 7 _ rfl
 obtain ⟨d8, g8⟩ := hz2.cell 8 _ rfl
 clear hz2
 go_wp2
 exact bodyPost_ret (v := xdc 1 (xaw s[r.pos + 1].toNat) 0) (by simp [results, Tryz.results41, go_sem, d0, d1, d2, d3, d4, d5, d6, d7, d8]) rfl ⟨rfl, HF.out.1.below (xbx (Below.refl _ _) (Nat.le_refl _) _ _ _ _ _ _ _ _ _) HLT.out, xbo HF.out.2 (xbx (Below.refl _ _) (Nat.le_refl _) _ _ _ _ _ _ _ _ _)⟩
theorem docEsc_g (s : ByteArray) (hs : s.size ≤ 1073741824) (r : Rd) (hr : r.pos + 1 < s.size) (hz : 0 ≤ r.size ∧ r.size ≤ 1000000000) (b : Nat) (w : World) (h : IsRd w b s r) (hlo : 97 ≤ (s[r.pos + 1].toNat : Int)) (hhi : (s[r.pos + 1].toNat : Int) ≤ 122) (hne : (s[r.pos + 1].toNat : Int) ≠ 110) :
  Calls Tryz.prog 41 #[.pointer (some ⟨b, 0, none⟩)] w fun x w' => x = .returned (xdc 1 (xaw s[r.pos + 1].toNat) 0) ∧ IsRd w' b s ((({ r with pos := r.pos + 2 } : Rd).failed 12 r.pos).grow 1 r.pos) ∧ w.grownBy w' (some b) := by
 have hlt := h.lt
 have h0 : IsRd (W9 w) b s r := h.below (xbb w) hlt
 obtain ⟨c0, f0⟩ := h0.cell 0 _ rfl
 obtain ⟨c1, f1⟩ := h0.cell 1 _ rfl
 have h1 : IsRd ((W9 w).setCell ⟨b, 1, none⟩ (.int .i64 ((r.pos : Int) + 2))) b s ({ r with pos := r.pos + 2 } : Rd) := IsRd.put h0 1 _ (by simp [Rd.cells])
 obtain ⟨c01, f01⟩ := h1.cell 0 _ rfl
 have hz1 : Blk9 ((W9 w).setCell ⟨b, 1, none⟩ (.int .i64 ((r.pos : Int) + 2))) w.heap.size xek := (Blk9.new w).grown (xal _ b 1 _) (by omega)
 have hG1 := xag (xar (xbb w) (some b)) (xal (W9 w) b 1 (.int .i64 ((r.pos : Int) + 2)))
 have hg := xb6 s ({ r with pos := r.pos + 2 } : Rd) b 12 r.pos _ h1
 have HH := xab (And.intro hz1 (And.intro hg hG1))
 have HLT := xab hlt
 have HZ := xab hz
 have HE := xab hne
 have q0 : (49 ≤ (s[r.pos + 1].toNat : Int)) = True := eq_true (by omega)
 have q1 : (97 ≤ (s[r.pos + 1].toNat : Int)) = True := eq_true (by omega)
 have q2 : (65 ≤ (s[r.pos + 1].toNat : Int)) = True := eq_true (by omega)
 have t0 : ((s[r.pos + 1].toNat : Int) ≤ 57) = False := eq_false (by omega)
 have t1 : ((s[r.pos + 1].toNat : Int) ≤ 122) = True := eq_true (by omega)
 have t2 : ((s[r.pos + 1].toNat : Int) ≤ 90) = False := eq_false (by omega)
 have u0 : ((s[r.pos + 1].toNat : Int) == 110) = false := by rw [beq_eq_false_iff_ne]; exact hne
 have u1 : ((s[r.pos + 1].toNat : Int) == 48) = false := by rw [beq_eq_false_iff_ne]; omega
 clear h h0 h1 hg hG1 hz1 hlt hz hne
 unfold W9 at c0 f0 c1 f1 c01 f01 HH
 have k1 : IntKind.i64.wrap ((r.pos : Int) + 1) = (r.pos : Int) + 1 := by rw [IntKind.wrap_i64]; omega
 have k2 : IntKind.i64.wrap ((r.pos : Int) + 2) = (r.pos : Int) + 2 := by rw [IntKind.wrap_i64]; omega
 have k3 : (((r.pos : Int) + 1) == (s.size : Int)) = false := by rw [beq_eq_false_iff_ne]; omega
 have k4 : (0 : Int) ≤ (r.pos : Int) + 1 := by omega
 have k5 : (r.pos : Int) + 1 < (s.size : Int) := by omega
 have k6 : ((r.pos : Int) + 1).toNat = r.pos + 1 := by omega
 go_enter Tryz.func41, Tryz.ntmps41
 go_wp2_with fail
 refine HH.out.2.1.mono ?_
 rintro e' w1 ⟨⟨v, rfl⟩, hI1, hgr1⟩
 have hz1 := HH.out.1.grown hgr1 (by have := HLT.out; omega)
 have hG2 := xag HH.out.2.2 hgr1
 clear HH c0 f0 c1 f1 c01 f01
 have hI1' : IsRd w1 b s (({ r with pos := r.pos + 2 } : Rd).failed 12 r.pos) := hI1
 have hg2 := xbe s (({ r with pos := r.pos + 2 } : Rd).failed 12 r.pos) b 1 r.pos (by omega) (by have := HZ.out; unfold Rd.failed; split <;> exact this) _ hI1'
 have H2 := xab (And.intro hg2 (And.intro hz1 hG2))
 clear hI1 hI1' hg2 hz1 hG2 hgr1
 go_wp2_with fail
 refine H2.out.1.mono ?_
 rintro e' w1' ⟨⟨v, rfl⟩, hI1, hgr1⟩
 have hz1 := H2.out.2.1.grown hgr1 (by have := HLT.out; omega)
 have hG2 := xag H2.out.2.2 hgr1
 clear H2
 go_wp2_with fail
 refine (xb5 s[r.pos + 1].toNat _).mono ?_
 rintro e' w2 ⟨rfl, hb2⟩
 have hz2 := hz1.below hb2 (Nat.le_refl _)
 have hI2 := hI1.below hb2 hI1.lt
 have hG3 := xag hG2 (xar hb2 (some b))
 have HF := xab (And.intro hI2 hG3)
 clear hI1 hI2 hG2 hG3 hgr1 hb2 hz1
 obtain ⟨d0, g0⟩ := hz2.cell 0 _ rfl
 obtain ⟨d1, g1⟩ := hz2.cell 1 _ rfl
 obtain ⟨d2, g2⟩ := hz2.cell 2 _ rfl
 obtain ⟨d3, g3⟩ := hz2.cell 3 _ rfl
 obtain ⟨d4, g4⟩ := hz2.cell 4 _ rfl
 obtain ⟨d5, g5⟩ := hz2.cell 5 _ rfl
 obtain ⟨d6, g6⟩ := hz2.cell 6 _ rfl
 obtain ⟨d7, g7⟩ := hz2.cell 7 _ rfl
 obtain ⟨d8, g8⟩ := hz2.cell 8 _ rfl
 clear hz2
 go_wp2
 exact bodyPost_ret (v := xdc 1 (xaw s[r.pos + 1].toNat) 0) (by simp [results, Tryz.results41, go_sem, d0, d1, d2, d3, d4, d5, d6, d7, d8]) rfl ⟨rfl, HF.out.1.below (xbx (Below.refl _ _) (Nat.le_refl _) _ _ _ _ _ _ _ _ _) HLT.out, xbo HF.out.2 (xbx (Below.refl _ _) (Nat.le_refl _) _ _ _ _ _ _ _ _ _)⟩
theorem xqa (s : ByteArray) (hs : s.size ≤ 1073741824) (r : Rd) (hr : r.pos + 1 = s.size) (b : Nat) (w : World) (h : IsRd w b s r) :
  Calls Tryz.prog 41 #[.pointer (some ⟨b, 0, none⟩)] w fun x w' => x = .returned (xdc 0 xad 0) ∧ IsRd w' b s (r.failed 6 r.pos) ∧ w.grownBy w' (some b) := by
 have z0 : wd xad 0 = 0 := xaa 0
 have z1 : wd xad 1 = 0 := xaa 1
 have z2 : wd xad 2 = 0 := xaa 2
 have z3 : wd xad 3 = 0 := xaa 3
 simp only [xdc, z0, z1, z2, z3, Int.ofNat_zero]
 clear z0 z1 z2 z3
 have hlt := h.lt
 have h0 : IsRd (W9 w) b s r := h.below (xbb w) hlt
 obtain ⟨c0, f0⟩ := h0.cell 0 _ rfl
 obtain ⟨c1, f1⟩ := h0.cell 1 _ rfl
 have hg := xb6 s r b 6 r.pos _ h0
 have HH := xab (And.intro (Blk9.new w) (And.intro hg (xar (xbb w) (some b))))
 have HLT := xab hlt
 clear h h0 hg hlt
 unfold W9 at c0 f0 c1 f1 HH
 have k1 : IntKind.i64.wrap ((r.pos : Int) + 1) = (r.pos : Int) + 1 := by rw [IntKind.wrap_i64]; omega
 have k3 : (((r.pos : Int) + 1) == (s.size : Int)) = true := by rw [beq_iff_eq]; omega
 go_enter Tryz.func41, Tryz.ntmps41
 go_wp2_with fail
 refine HH.out.2.1.mono ?_
 rintro e' w1 ⟨⟨v, rfl⟩, hI1, hgr1⟩
 have hz2 := HH.out.1.grown hgr1 (by have := HLT.out; omega)
 have hG2 := xag HH.out.2.2 hgr1
 have HF := xab (And.intro hI1 hG2)
 clear HH c0 f0 c1 f1 hI1 hG2 hgr1
 obtain ⟨d0, g0⟩ := hz2.cell 0 _ rfl
 obtain ⟨d1, g1⟩ := hz2.cell 1 _ rfl
 obtain ⟨d2, g2⟩ := hz2.cell 2 _ rfl
 obtain ⟨d3, g3⟩ := hz2.cell 3 _ rfl
 obtain ⟨d4, g4⟩ := hz2.cell 4 _ rfl
 obtain ⟨d5, g5⟩ := hz2.cell 5 _ rfl
 obtain ⟨d6, g6⟩ := hz2.cell 6 _ rfl
 obtain ⟨d7, g7⟩ := hz2.cell 7 _ rfl
 obtain ⟨d8, g8⟩ := hz2.cell 8 _ rfl
 clear hz2
 go_wp2
 exact bodyPost_ret (v := .agg #[.int .i64 0, .int .u64 0, .int .u64 0, .int .u64 0, .int .u64 0, .int .i64 0, .int .i64 0, .int .i64 0, .slice none 0 0]) (by simp [results, Tryz.results41, go_sem, d0, d1, d2, d3, d4, d5, d6, d7, d8]) rfl ⟨rfl, HF.out.1.below (xbx (Below.refl _ _) (Nat.le_refl _) _ _ _ _ _ _ _ _ _) HLT.out, xbo HF.out.2 (xbx (Below.refl _ _) (Nat.le_refl _) _ _ _ _ _ _ _ _ _)⟩
theorem docEsc_h (s : ByteArray) (hs : s.size ≤ 1073741824) (r : Rd) (hr : r.pos + 1 < s.size) (hz : 0 ≤ r.size ∧ r.size ≤ 1000000000) (b : Nat) (w : World) (h : IsRd w b s r) (hlo : 49 ≤ (s[r.pos + 1].toNat : Int)) (hhi : (s[r.pos + 1].toNat : Int) ≤ 57) (hsh : r.shut (s[r.pos + 1].toNat - 48) = true) (hne : (s[r.pos + 1].toNat : Int) ≠ 110) :
  Calls Tryz.prog 41 #[.pointer (some ⟨b, 0, none⟩)] w fun x w' => x = .returned (xdc 6 xad ((s[r.pos + 1].toNat : Int) - 48)) ∧ IsRd w' b s (({ r with pos := r.pos + 2 } : Rd).grow 1 r.pos) ∧ w.grownBy w' (some b) := by
 have z0 : wd xad 0 = 0 := xaa 0
 have z1 : wd xad 1 = 0 := xaa 1
 have z2 : wd xad 2 = 0 := xaa 2
 have z3 : wd xad 3 = 0 := xaa 3
 simp only [xdc, z0, z1, z2, z3, Int.ofNat_zero]
 clear z0 z1 z2 z3
 have hlt := h.lt
 have h0 : IsRd (W9 w) b s r := h.below (xbb w) hlt
 obtain ⟨c0, f0⟩ := h0.cell 0 _ rfl
 obtain ⟨c1, f1⟩ := h0.cell 1 _ rfl
 have h1 : IsRd ((W9 w).setCell ⟨b, 1, none⟩ (.int .i64 ((r.pos : Int) + 2))) b s ({ r with pos := r.pos + 2 } : Rd) := IsRd.put h0 1 _ (by simp [Rd.cells])
 obtain ⟨c01, f01⟩ := h1.cell 0 _ rfl
 have hcell : ∀ k, 1 ≤ k → k ≤ 9 → (({ r with pos := r.pos + 2 } : Rd).cells s)[5 + k]? = some (.bool (r.shut k)) := by
  intro k h1 h2
  obtain rfl | rfl | rfl | rfl | rfl | rfl | rfl | rfl | rfl : k = 1 ∨ k = 2 ∨ k = 3 ∨ k = 4 ∨ k = 5 ∨ k = 6 ∨ k = 7 ∨ k = 8 ∨ k = 9 := by omega
  all_goals rfl
 obtain ⟨ck, fk⟩ := h1.cell _ _ (hcell (s[r.pos + 1].toNat - 48) (by omega) (by omega))
 rw [hsh] at ck
 clear hcell
 have m1 : IntKind.u8.wrap ((s[r.pos + 1].toNat : Int) - 48) = (s[r.pos + 1].toNat : Int) - 48 := by rw [IntKind.wrap_u8]; omega
 have m2 : (0 : Int) ≤ (s[r.pos + 1].toNat : Int) - 48 := by omega
 have m3 : (s[r.pos + 1].toNat : Int) - 48 < 10 := by omega
 have m4 : ((s[r.pos + 1].toNat : Int) - 48).toNat = s[r.pos + 1].toNat - 48 := by omega
 have hz1 : Blk9 ((W9 w).setCell ⟨b, 1, none⟩ (.int .i64 ((r.pos : Int) + 2))) w.heap.size xek := (Blk9.new w).grown (xal _ b 1 _) (by omega)
 have hG1 := xag (xar (xbb w) (some b)) (xal (W9 w) b 1 (.int .i64 ((r.pos : Int) + 2)))
 have hg := xbe s ({ r with pos := r.pos + 2 } : Rd) b 1 r.pos (by omega) hz _ h1
 have HH := xab (And.intro hz1 (And.intro hg hG1))
 have HLT := xab hlt
 have HZ := xab hz
 have HE := xab hne
 have q0 : (49 ≤ (s[r.pos + 1].toNat : Int)) = True := eq_true (by omega)
 have q1 : (97 ≤ (s[r.pos + 1].toNat : Int)) = False := eq_false (by omega)
 have q2 : (65 ≤ (s[r.pos + 1].toNat : Int)) = False := eq_false (by omega)
 have t0 : ((s[r.pos + 1].toNat : Int) ≤ 57) = True := eq_true (by omega)
 have t1 : ((s[r.pos + 1].toNat : Int) ≤ 122) = True := eq_true (by omega)
 have t2 : ((s[r.pos + 1].toNat : Int) ≤ 90) = True := eq_true (by omega)
 have u0 : ((s[r.pos + 1].toNat : Int) == 110) = false := by rw [beq_eq_false_iff_ne]; exact hne
 have u1 : ((s[r.pos + 1].toNat : Int) == 48) = false := by rw [beq_eq_false_iff_ne]; omega
 clear h h0 h1 hg hG1 hz1 hlt hz hne
 unfold W9 at c0 f0 c1 f1 c01 f01 ck fk HH
 have k1 : IntKind.i64.wrap ((r.pos : Int) + 1) = (r.pos : Int) + 1 := by rw [IntKind.wrap_i64]; omega
 have k2 : IntKind.i64.wrap ((r.pos : Int) + 2) = (r.pos : Int) + 2 := by rw [IntKind.wrap_i64]; omega
 have k3 : (((r.pos : Int) + 1) == (s.size : Int)) = false := by rw [beq_eq_false_iff_ne]; omega
 have k4 : (0 : Int) ≤ (r.pos : Int) + 1 := by omega
 have k5 : (r.pos : Int) + 1 < (s.size : Int) := by omega
 have k6 : ((r.pos : Int) + 1).toNat = r.pos + 1 := by omega
 go_enter Tryz.func41, Tryz.ntmps41
 go_wp2_with fail
 refine HH.out.2.1.mono ?_
 rintro e' w1 ⟨⟨v, rfl⟩, hI1, hgr1⟩
 have hz1 := HH.out.1.grown hgr1 (by have := HLT.out; omega)
 have hG2 := xag HH.out.2.2 hgr1
 clear HH c0 f0 c1 f1 c01 f01 ck fk
 have hz2 := hz1
 have HF := xab (And.intro hI1 hG2)
 clear hI1 hG2 hgr1 hz1
 obtain ⟨d0, g0⟩ := hz2.cell 0 _ rfl
 obtain ⟨d1, g1⟩ := hz2.cell 1 _ rfl
 obtain ⟨d2, g2⟩ := hz2.cell 2 _ rfl
 obtain ⟨d3, g3⟩ := hz2.cell 3 _ rfl
 obtain ⟨d4, g4⟩ := hz2.cell 4 _ rfl
 obtain ⟨d5, g5⟩ := hz2.cell 5 _ rfl
 obtain ⟨d6, g6⟩ := hz2.cell 6 _ rfl
 obtain ⟨d7, g7⟩ := hz2.cell 7 _ rfl
 obtain ⟨d8, g8⟩ := hz2.cell 8 _ rfl
 clear hz2
 go_wp2
 exact bodyPost_ret (v := .agg #[.int .i64 6, .int .u64 0, .int .u64 0, .int .u64 0, .int .u64 0, .int .i64 0, .int .i64 0, .int .i64 ((s[r.pos + 1].toNat : Int) - 48), .slice none 0 0]) (by simp [results, Tryz.results41, go_sem, d0, d1, d2, d3, d4, d5, d6, d7, d8]) rfl ⟨rfl, HF.out.1.below (xbx (Below.refl _ _) (Nat.le_refl _) _ _ _ _ _ _ _ _ _) HLT.out, xbo HF.out.2 (xbx (Below.refl _ _) (Nat.le_refl _) _ _ _ _ _ _ _ _ _)⟩
theorem docEsc_i (s : ByteArray) (hs : s.size ≤ 1073741824) (r : Rd) (hr : r.pos + 1 < s.size) (hz : 0 ≤ r.size ∧ r.size ≤ 1000000000) (b : Nat) (w : World) (h : IsRd w b s r) (hlo : 49 ≤ (s[r.pos + 1].toNat : Int)) (hhi : (s[r.pos + 1].toNat : Int) ≤ 57) (hsh : r.shut (s[r.pos + 1].toNat - 48) = false) (hne : (s[r.pos + 1].toNat : Int) ≠ 110) :
  Calls Tryz.prog 41 #[.pointer (some ⟨b, 0, none⟩)] w fun x w' => x = .returned (xdc 6 xad ((s[r.pos + 1].toNat : Int) - 48)) ∧ IsRd w' b s ((({ r with pos := r.pos + 2 } : Rd).failed 11 r.pos).grow 1 r.pos) ∧ w.grownBy w' (some b) := by
 have z0 : wd xad 0 = 0 := xaa 0
 have z1 : wd xad 1 = 0 := xaa 1
 have z2 : wd xad 2 = 0 := xaa 2
 have z3 : wd xad 3 = 0 := xaa 3
 simp only [xdc, z0, z1, z2, z3, Int.ofNat_zero]
 clear z0 z1 z2 z3
 have hlt := h.lt
 have h0 : IsRd (W9 w) b s r := h.below (xbb w) hlt
 obtain ⟨c0, f0⟩ := h0.cell 0 _ rfl
 obtain ⟨c1, f1⟩ := h0.cell 1 _ rfl
 have h1 : IsRd ((W9 w).setCell ⟨b, 1, none⟩ (.int .i64 ((r.pos : Int) + 2))) b s ({ r with pos := r.pos + 2 } : Rd) := IsRd.put h0 1 _ (by simp [Rd.cells])
 obtain ⟨c01, f01⟩ := h1.cell 0 _ rfl
 have hcell : ∀ k, 1 ≤ k → k ≤ 9 → (({ r with pos := r.pos + 2 } : Rd).cells s)[5 + k]? = some (.bool (r.shut k)) := by
  intro k h1 h2
  obtain rfl | rfl | rfl | rfl | rfl | rfl | rfl | rfl | rfl : k = 1 ∨ k = 2 ∨ k = 3 ∨ k = 4 ∨ k = 5 ∨ k = 6 ∨ k = 7 ∨ k = 8 ∨ k = 9 := by omega
  all_goals rfl
 obtain ⟨ck, fk⟩ := h1.cell _ _ (hcell (s[r.pos + 1].toNat - 48) (by omega) (by omega))
 rw [hsh] at ck
 clear hcell
 have m1 : IntKind.u8.wrap ((s[r.pos + 1].toNat : Int) - 48) = (s[r.pos + 1].toNat : Int) - 48 := by rw [IntKind.wrap_u8]; omega
 have m2 : (0 : Int) ≤ (s[r.pos + 1].toNat : Int) - 48 := by omega
 have m3 : (s[r.pos + 1].toNat : Int) - 48 < 10 := by omega
 have m4 : ((s[r.pos + 1].toNat : Int) - 48).toNat = s[r.pos + 1].toNat - 48 := by omega
 have hz1 : Blk9 ((W9 w).setCell ⟨b, 1, none⟩ (.int .i64 ((r.pos : Int) + 2))) w.heap.size xek := (Blk9.new w).grown (xal _ b 1 _) (by omega)
 have hG1 := xag (xar (xbb w) (some b)) (xal (W9 w) b 1 (.int .i64 ((r.pos : Int) + 2)))
 have hg := xb6 s ({ r with pos := r.pos + 2 } : Rd) b 11 r.pos _ h1
 have HH := xab (And.intro hz1 (And.intro hg hG1))
 have HLT := xab hlt
 have HZ := xab hz
 have HE := xab hne
 have q0 : (49 ≤ (s[r.pos + 1].toNat : Int)) = True := eq_true (by omega)
 have q1 : (97 ≤ (s[r.pos + 1].toNat : Int)) = False := eq_false (by omega)
 have q2 : (65 ≤ (s[r.pos + 1].toNat : Int)) = False := eq_false (by omega)
 have t0 : ((s[r.pos + 1].toNat : Int) ≤ 57) = True := eq_true (by omega)
 have t1 : ((s[r.pos + 1].toNat : Int) ≤ 122) = True := eq_true (by omega)
 have t2 : ((s[r.pos + 1].toNat : Int) ≤ 90) = True := eq_true (by omega)
 have u0 : ((s[r.pos + 1].toNat : Int) == 110) = false := by rw [beq_eq_false_iff_ne]; exact hne
 have u1 : ((s[r.pos + 1].toNat : Int) == 48) = false := by rw [beq_eq_false_iff_ne]; omega
 clear h h0 h1 hg hG1 hz1 hlt hz hne
 unfold W9 at c0 f0 c1 f1 c01 f01 ck fk HH
 have k1 : IntKind.i64.wrap ((r.pos : Int) + 1) = (r.pos : Int) + 1 := by rw [IntKind.wrap_i64]; omega
 have k2 : IntKind.i64.wrap ((r.pos : Int) + 2) = (r.pos : Int) + 2 := by rw [IntKind.wrap_i64]; omega
 have k3 : (((r.pos : Int) + 1) == (s.size : Int)) = false := by rw [beq_eq_false_iff_ne]; omega
 have k4 : (0 : Int) ≤ (r.pos : Int) + 1 := by omega
 have k5 : (r.pos : Int) + 1 < (s.size : Int) := by omega
 have k6 : ((r.pos : Int) + 1).toNat = r.pos + 1 := by omega
 go_enter Tryz.func41, Tryz.ntmps41
 go_wp2_with fail
 refine HH.out.2.1.mono ?_
 rintro e' w1 ⟨⟨v, rfl⟩, hI1, hgr1⟩
 have hz1 := HH.out.1.grown hgr1 (by have := HLT.out; omega)
 have hG2 := xag HH.out.2.2 hgr1
 clear HH c0 f0 c1 f1 c01 f01 ck fk
 have hI1' : IsRd w1 b s (({ r with pos := r.pos + 2 } : Rd).failed 11 r.pos) := hI1
 have hg2 := xbe s (({ r with pos := r.pos + 2 } : Rd).failed 11 r.pos) b 1 r.pos (by omega) (by have := HZ.out; unfold Rd.failed; split <;> exact this) _ hI1'
 have H2 := xab (And.intro hg2 (And.intro hz1 hG2))
 clear hI1 hI1' hg2 hz1 hG2 hgr1
 go_wp2_with fail
 refine H2.out.1.mono ?_
 rintro e' w1' ⟨⟨v, rfl⟩, hI1, hgr1⟩
 have hz1 := H2.out.2.1.grown hgr1 (by have := HLT.out; omega)
 have hG2 := xag H2.out.2.2 hgr1
 clear H2
 have hz2 := hz1
 have HF := xab (And.intro hI1 hG2)
 clear hI1 hG2 hgr1 hz1
 obtain ⟨d0, g0⟩ := hz2.cell 0 _ rfl
 obtain ⟨d1, g1⟩ := hz2.cell 1 _ rfl
 obtain ⟨d2, g2⟩ := hz2.cell 2 _ rfl
 obtain ⟨d3, g3⟩ := hz2.cell 3 _ rfl
 obtain ⟨d4, g4⟩ := hz2.cell 4 _ rfl
 obtain ⟨d5, g5⟩ := hz2.cell 5 _ rfl
 obtain ⟨d6, g6⟩ := hz2.cell 6 _ rfl
 obtain ⟨d7, g7⟩ := hz2.cell 7 _ rfl
 obtain ⟨d8, g8⟩ := hz2.cell 8 _ rfl
 clear hz2
 go_wp2
 exact bodyPost_ret (v := .agg #[.int .i64 6, .int .u64 0, .int .u64 0, .int .u64 0, .int .u64 0, .int .i64 0, .int .i64 0, .int .i64 ((s[r.pos + 1].toNat : Int) - 48), .slice none 0 0]) (by simp [results, Tryz.results41, go_sem, d0, d1, d2, d3, d4, d5, d6, d7, d8]) rfl ⟨rfl, HF.out.1.below (xbx (Below.refl _ _) (Nat.le_refl _) _ _ _ _ _ _ _ _ _) HLT.out, xbo HF.out.2 (xbx (Below.refl _ _) (Nat.le_refl _) _ _ _ _ _ _ _ _ _)⟩
def escR (s : ByteArray) (r : Rd) : Rd × Int × (Nat → Bool) × Int :=
 if r.pos + 1 = s.size then (r.failed 6 r.pos, 0, xad, 0)
 else if xac s (r.pos + 1) = 110 then (({ r with pos := r.pos + 2 } : Rd).grow 1 r.pos, 1, xaw 10, 0)
 else if 49 ≤ xac s (r.pos + 1) ∧ xac s (r.pos + 1) ≤ 57 then
  ((if r.shut ((xac s (r.pos + 1)).toNat - 48) then ({ r with pos := r.pos + 2 } : Rd) else ({ r with pos := r.pos + 2 } : Rd).failed 11 r.pos).grow 1 r.pos, 6, xad, xac s (r.pos + 1) - 48)
 else if xac s (r.pos + 1) = 48 ∨ letB (xac s (r.pos + 1)) = true then ((({ r with pos := r.pos + 2 } : Rd).failed 12 r.pos).grow 1 r.pos, 1, xaw (xac s (r.pos + 1)).toNat, 0)
 else (({ r with pos := r.pos + 2 } : Rd).grow 1 r.pos, 1, xaw (xac s (r.pos + 1)).toNat, 0)
theorem xqb (s : ByteArray) (hs : s.size ≤ 1073741824) (r : Rd) (hr : r.pos < s.size) (hz : 0 ≤ r.size ∧ r.size ≤ 1000000000) (b : Nat) (w : World) (h : IsRd w b s r) :
  Calls Tryz.prog 41 #[.pointer (some ⟨b, 0, none⟩)] w fun x w' => x = .returned (xdc (escR s r).2.1 (escR s r).2.2.1 (escR s r).2.2.2) ∧ IsRd w' b s (escR s r).1 ∧ w.grownBy w' (some b) := by
 unfold escR
 by_cases he : r.pos + 1 = s.size
 ·rw [if_pos he]; exact xqa s hs r he b w h
 ·rw [if_neg he]
  have hlt : r.pos + 1 < s.size := by omega
  rw [xah hlt]
  have h255 := s[r.pos + 1].toNat_lt
  by_cases hn : (s[r.pos + 1].toNat : Int) = 110
  ·rw [if_pos hn]; exact docEsc_n s hs r hlt hz b w h hn
  ·rw [if_neg hn, Int.toNat_natCast]
   by_cases hd : 49 ≤ (s[r.pos + 1].toNat : Int) ∧ (s[r.pos + 1].toNat : Int) ≤ 57
   ·rw [if_pos hd]
    cases hsh : r.shut (s[r.pos + 1].toNat - 48) with
    | true => exact docEsc_h s hs r hlt hz b w h hd.1 hd.2 hsh hn
    | false => exact docEsc_i s hs r hlt hz b w h hd.1 hd.2 hsh hn
   ·rw [if_neg hd]
    by_cases hf : (s[r.pos + 1].toNat : Int) = 48 ∨ letB (s[r.pos + 1].toNat : Int) = true
    ·rw [if_pos hf]
     rcases hf with hf | hf
     ·exact docEsc_e s hs r hlt hz b w h (by omega) (by omega) hn
     ·simp only [letB, Bool.or_eq_true, Bool.and_eq_true, decide_eq_true_eq] at hf
      rcases hf with hf | hf
      ·exact docEsc_g s hs r hlt hz b w h hf.1 hf.2 hn
      ·exact docEsc_f s hs r hlt hz b w h hf.1 hf.2 hn
    ·rw [if_neg hf]
     simp only [letB, Bool.or_eq_true, Bool.and_eq_true, decide_eq_true_eq] at hf
     by_cases a1 : (s[r.pos + 1].toNat : Int) ≤ 47
     ·exact docEsc_a s hs r hlt hz b w h (by omega) a1 hn
     ·by_cases a2 : (s[r.pos + 1].toNat : Int) ≤ 64
      ·exact docEsc_b s hs r hlt hz b w h (by omega) a2 hn
      ·by_cases a3 : (s[r.pos + 1].toNat : Int) ≤ 96
       ·exact docEsc_c s hs r hlt hz b w h (by omega) a3 hn
       ·exact docEsc_d s hs r hlt hz b w h (by omega) (by omega) hn
theorem xdy {s : ByteArray} {P : Ps} {i k : Nat} (hi : i < s.size) (h0 : (P.take (xaf s i k)).1 = 0) : (xaf s i k).kind ≠ 0 ∧ i < (xaf s i k).to ∧ (xaf s i k).to ≤ s.size := by
 have hta := xbd s i k hi
 have hk : (xaf s i k).kind ≠ 0 := fun e => by
  have h9 : (P.take (xaf s i k)).1 = (xaf s i k).e := by simp only [Ps.take, e]
  rw [h0] at h9
  exact hta.fault e h9.symm
 exact ⟨hk, hta.next hk⟩
theorem xf0 (s : ByteArray) (f i k : Nat) (P : Ps) (hi : s.size ≤ i) : runT s f i k P = .ok P := by
 cases f with
 | zero => rfl
 | succ f => rw [runT, if_neg (by omega)]
theorem xlv (s : ByteArray) : ∀ (f g i k : Nat) (P : Ps), s.size + 1 - i ≤ f → s.size + 1 - i ≤ g → runT s f i k P = runT s g i k P
 | 0, g, i, k, P, h1, h2 => by rw [xf0 s 0 i k P (by omega), xf0 s g i k P (by omega)]
 | f + 1, 0, i, k, P, h1, h2 => by rw [xf0 s _ i k P (by omega), xf0 s 0 i k P (by omega)]
 | f + 1, g + 1, i, k, P, h1, h2 => by
  rw [runT, runT]
  by_cases hi : i < s.size
  ·rw [if_pos hi, if_pos hi]
   by_cases h0 : (P.take (xaf s i k)).1 = 0
   ·rw [if_pos h0, if_pos h0]
    have := xdy hi h0
    exact xlv s f g _ _ _ (by omega) (by omega)
   ·rw [if_neg h0, if_neg h0]
  ·rw [if_neg hi, if_neg hi]
noncomputable def runA (s : ByteArray) (i k : Nat) (P : Ps) : Except (Int × Nat) Ps := runT s (s.size + 1 - i) i k P
def finT (x : Except (Int × Nat) Ps) : Except (Int × Nat) (List Tr) :=
 match x with
 | .error x => .error x
 | .ok P => if P.outer.length = 0 then .ok P.top.parts else .error (10, P.top.pos)
theorem xe5 (s : ByteArray) (hs : s.size ≤ 512) : xav s = finT (runA s 0 4 Ps.start) := by
 unfold xav finT runA
 rw [if_neg (by omega)]
 rfl
theorem xb7 (s : ByteArray) (i k : Nat) (P : Ps) (h : s.size ≤ i) : runA s i k P = .ok P := xf0 s _ i k P h
theorem xcv {s : ByteArray} {i k : Nat} {P : Ps} (hi : i < s.size) (h0 : (P.take (xaf s i k)).1 = 0) : runA s i k P = runA s (xaf s i k).to (xaf s i k).kind (P.take (xaf s i k)).2 := by
 have h1 := xdy hi h0
 unfold runA
 rw [show s.size + 1 - i = (s.size - i) + 1 by omega, runT, if_pos hi, if_pos h0]
 exact xlv s _ _ _ _ _ (by omega) (by omega)
theorem xe6 {s : ByteArray} {i k : Nat} {P : Ps} (hi : i < s.size) (h0 : (P.take (xaf s i k)).1 ≠ 0) : runA s i k P = .error ((P.take (xaf s i k)).1, i) := by
 unfold runA
 rw [show s.size + 1 - i = (s.size - i) + 1 by omega, runT, if_pos hi, if_neg h0]
structure Sim (s : ByteArray) (r : Rd) (P : Ps) (k : Nat) : Prop where
 e : r.e = 0
 g : r.groups = P.groups
 c : r.shut = P.shut
 z : r.size = P.size
 le : r.pos ≤ s.size
 well : Well P k r.pos
 one : k = 4 → P.top.parts = []
structure Fails (s : ByteArray) (i k : Nat) (P : Ps) (r : Rd) : Prop where
 e : r.e ≠ 0
 run : finT (runA s i k P) = .error (r.e, r.place)
structure Goes (s : ByteArray) (i k : Nat) (P : Ps) (r' : Rd) (P' : Ps) (k' : Nat) (ts : List Tr) : Prop where
 sim : Sim s r' P' k'
 run : runA s i k P = runA s r'.pos k' P'
 outer : P'.outer = P.outer
 top : P'.top = { P.top with parts := ts }
 on : i ≤ r'.pos
theorem Fails.keep {s : ByteArray} {i k : Nat} {P : Ps} {r r' : Rd} (h : Fails s i k P r) (h1 : r'.e = r.e) (h2 : r'.place = r.place) : Fails s i k P r' := ⟨by rw [h1]; exact h.e, by rw [h1, h2]; exact h.run⟩
theorem Goes.fails {s : ByteArray} {i k k1 : Nat} {P P1 : Ps} {r1 r' : Rd} {ts : List Tr} (h : Goes s i k P r1 P1 k1 ts) (h2 : Fails s r1.pos k1 P1 r') : Fails s i k P r' := ⟨h2.e, by rw [h.run]; exact h2.run⟩
theorem Goes.trans {s : ByteArray} {i k k1 k2 : Nat} {P P1 P2 : Ps} {r1 r2 : Rd} {ts us : List Tr} (h : Goes s i k P r1 P1 k1 ts) (h2 : Goes s r1.pos k1 P1 r2 P2 k2 us) : Goes s i k P r2 P2 k2 us :=
 ⟨h2.sim, h.run.trans h2.run, h2.outer.trans h.outer, by rw [h2.top, h.top], Nat.le_trans h.on h2.on⟩
theorem Goes.start {s : ByteArray} {k : Nat} {P : Ps} {r : Rd} (h : Sim s r P k) : Goes s r.pos k P r P k P.top.parts := ⟨h, rfl, rfl, rfl, Nat.le_refl _⟩
theorem xc5 {r : Rd} (h : r.e = 0) (e : Int) (i : Nat) : (r.failed e i).e = e ∧ (r.failed e i).place = i := by
 unfold Rd.failed
 rw [if_pos h]
 exact ⟨rfl, rfl⟩
theorem xf1 {s : ByteArray} {r r' : Rd} {P : Ps} {k : Nat} (hi : r.pos < s.size) (he : (P.take (xaf s r.pos k)).1 ≠ 0) (h1 : r'.e = (P.take (xaf s r.pos k)).1) (h2 : r'.place = r.pos) : Fails s r.pos k P r' :=
 ⟨by rw [h1]; exact he, by rw [xe6 hi he, h1, h2]; rfl⟩
theorem xki {s : ByteArray} (hs : s.size ≤ 512) {r r' : Rd} {P : Ps} {k : Nat} (h : Sim s r P k) (hi : r.pos < s.size) (h0 : (P.take (xaf s r.pos k)).1 = 0) (h4 : (xaf s r.pos k).kind ≠ 4) {ts : List Tr}
  (ho : (P.take (xaf s r.pos k)).2.outer = P.outer) (ht : (P.take (xaf s r.pos k)).2.top = { P.top with parts := ts })
  (e : r'.e = 0) (p : r'.pos = (xaf s r.pos k).to) (g : r'.groups = (P.take (xaf s r.pos k)).2.groups) (c : r'.shut = (P.take (xaf s r.pos k)).2.shut) (z : r'.size = (P.take (xaf s r.pos k)).2.size) :
  Goes s r.pos k P r' (P.take (xaf s r.pos k)).2 (xaf s r.pos k).kind ts := by
 obtain ⟨w1, w2, w3⟩ := xct hi hs h.well h0
 exact ⟨⟨e, g, c, z, by rw [p]; exact w3, by rw [p]; exact w1, fun h9 => absurd h9 h4⟩, by rw [p]; exact xcv hi h0, ho, ht, by rw [p]; omega⟩
theorem u8_eq (a c : UInt8) : (c == a) = decide ((a.toNat : Int) = (c.toNat : Int)) := by
 by_cases h : c = a
 ·rw [h]; simp
 ·have hn : ¬ ((a.toNat : Int) = (c.toNat : Int)) := fun e => h (UInt8.toNat_inj.1 (by omega))
  simp [h, hn]
theorem see1 (s : ByteArray) (c : UInt8) (p : Nat) : seeB s ⟨#[c]⟩ p = decide (p < s.size ∧ xac s p = c.toNat) := by
 by_cases h : p < s.size
 ·rw [xd2 _ _ _ (by omega), xdq s p h, xah h]
  show (c == s[p] && true) = _
  rw [u8_eq]
  simp [h]
 ·have : ¬ seeB s ⟨#[c]⟩ p = true := fun e => by have := xdf e; have : p + 1 ≤ s.size := this; omega
  rw [Bool.not_eq_true] at this
  rw [this]
  simp [h]
theorem see2 (s : ByteArray) (c d : UInt8) (p : Nat) : seeB s ⟨#[c, d]⟩ p = decide (p + 1 < s.size ∧ xac s p = c.toNat ∧ xac s (p + 1) = d.toNat) := by
 by_cases h : p + 1 < s.size
 ·have h0 : p < s.size := by omega
  rw [xd2 _ _ _ (by omega), xdq s p h0, xdq s (p + 1) h, xah h, xah h0]
  show (c == s[p] && (d == s[p + 1] && true)) = _
  rw [u8_eq, u8_eq]
  simp [h]
 ·have : ¬ seeB s ⟨#[c, d]⟩ p = true := fun e => by have := xdf e; have : p + 2 ≤ s.size := this; omega
  rw [Bool.not_eq_true] at this
  rw [this]
  simp [h]
theorem tok_same (s : ByteArray) (i k : Nat) (h4 : k ≠ 4) (hq : repB k = true → seeB s ⟨#[42]⟩ i = false ∧ seeB s ⟨#[92, 123]⟩ i = false) (hi : i < s.size) : xaf s i k = xaf s i 2 := by
 cases hk : repB k with
 | false =>
  have : k = 2 := by
   simp only [repB, Bool.and_eq_false_iff, Bool.not_eq_false', beq_iff_eq] at hk
   rcases hk with hk | hk
   ·exact absurd hk h4
   ·exact hk
  rw [this]
 | true =>
  obtain ⟨q1, q2⟩ := hq hk
  rw [see1] at q1
  rw [see2] at q2
  have q1' : ¬ xac s i = 42 := fun e => by simp [hi, e] at q1
  unfold xaf
  split
  ·rename_i h92
   unfold xbr
   split
   ·rfl
   ·rename_i hl
    have q2' : ¬ xac s (i + 1) = 123 := fun e => by simp [show i + 1 < s.size by omega, h92, e] at q2
    have q3 : ¬ (xac s (i + 1)).toNat = 123 := fun e => q2' (by omega)
    simp only [escB, q3, false_and, false_or, if_false]
  ·simp only [q1', h4, show ¬ (2 : Nat) = 4 by omega, false_and, and_false, if_false]
end Go.Proofs.YtaapmphdnholaaaGreatDoor
