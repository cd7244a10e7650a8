/- bre: the interval: the program's token and the document's reading, joined. -/
import Derived.Test.YtgpciekpmdihnaaKTkd
import Derived.Test.YtgpciekpmdihnaaKRe
namespace Go.Proofs.Ytgpciekpmdihnaa
def ivTok (s : ByteArray) (i : Nat) : Tk :=
  if (ivAt s (i + 2)).2.2.2 then ⟨7, i, (ivAt s (i + 2)).1, 0, noneP, 0, (ivAt s (i + 2)).2.1, (ivAt s (i + 2)).2.2.1⟩ else faultT 9 i
theorem at_drop {s : ByteArray} {p : Nat} {a r : List UInt8} (hp : p ≤ s.size) (hl : s.data.toList.drop p = a ++ r) : p + a.length ≤ s.size ∧ s.data.toList.drop (p + a.length) = r := by
  constructor
  · have := congrArg List.length hl
    rw [List.length_drop, List.length_append] at this
    have h3 : s.data.toList.length = s.size := by simp
    omega
  · rw [← List.drop_drop, hl, List.drop_left]
def numD (a : List UInt8) : Int := if a.isEmpty then -1 else (numN a : Int)
theorem dgAt_app {s : ByteArray} {p : Nat} {a r : List UInt8} {c : UInt8} (hp : p ≤ s.size) (hl : s.data.toList.drop p = a ++ c :: r) (ha : digs a = true) (hc : digB c.toNat = false) : dgAt s p = (p + a.length, numD a) := by
  rw [dgAt_lead s p hp, hl, lead_app a r c ha hc]; rfl
theorem join_one {s : ByteArray} {i : Nat} {a r : List UInt8} (hp : i + 2 ≤ s.size) (hl : s.data.toList.drop (i + 2) = a ++ ([92, 125] ++ r)) (ha : digs a = true) : intervalT s i = ivTok s i := by
  have hA := dgAt_app hp hl ha rfl
  obtain ⟨h1, h2⟩ := at_drop hp hl
  have hS : seeB s ⟨#[44]⟩ (i + 2 + a.length) = false := by rw [seeB_pre _ _ _ h1, h2]; rfl
  have hE : seeB s ⟨#[92, 125]⟩ (i + 2 + a.length) = true := by rw [seeB_pre _ _ _ h1, h2]; rfl
  have hH : ivHi s (i + 2 + a.length) (numD a) = (i + 2 + a.length, numD a) := by rw [ivHi, hS]; rfl
  have hle := numN_le a
  have hP : intervalT s i = ivlT i a true := by unfold intervalT; rw [hl, cut_app a r 92 [125] (digs_ne ha 92 rfl)]
  have hC : Lib.cut a [44] = (a, [], false) := cut_no a 44 [] (digs_ne ha 44 rfl)
  rw [hP]
  unfold ivlT ivTok
  simp only [hC, upper, numS, ha, if_true]
  by_cases hg : (!a.isEmpty && decide (numN a ≤ 255)) = true
  · have he : a.isEmpty = false := by simp at hg; simp [hg.1]
    have hn : numN a ≤ 255 := by simp at hg; exact hg.2
    have hd : numD a = (numN a : Int) := by rw [numD, he]; rfl
    have hok := iv_ok hA hH (by rw [hE, hd]; simp [ivBad]; omega)
    rw [hok, hg, hd]
    simp
    omega
  · have hbad := iv_bad hA hH (by
      rw [hE]
      by_cases he : a.isEmpty = true
      · rw [numD, he]; rfl
      · have hd : numD a = (numN a : Int) := by rw [numD, if_neg he]
        simp [he] at hg
        rw [hd]; simp [ivBad]; omega)
    rw [hbad]
    simp only [Bool.not_eq_true] at hg
    simp [hg]
end Go.Proofs.Ytgpciekpmdihnaa
/- bre: the interval, joined: two numbers; neither form. -/
namespace Go.Proofs.Ytgpciekpmdihnaa
theorem see_pre {s sub : ByteArray} {p : Nat} (hp : p ≤ s.size) (h : seeB s sub p = true) : ∃ r, s.data.toList.drop p = sub.data.toList ++ r := by
  rw [seeB_pre _ _ _ hp, List.isPrefixOf_iff_prefix] at h
  obtain ⟨r, hr⟩ := h
  exact ⟨r, hr.symm⟩
theorem join_two {s : ByteArray} {i : Nat} {a d r : List UInt8} (hp : i + 2 ≤ s.size) (hl : s.data.toList.drop (i + 2) = a ++ ([44] ++ (d ++ ([92, 125] ++ r)))) (ha : digs a = true) (hdd : digs d = true) : intervalT s i = ivTok s i := by
  have hA := dgAt_app hp hl ha rfl
  obtain ⟨h1, h2⟩ := at_drop hp hl
  have hS : seeB s ⟨#[44]⟩ (i + 2 + a.length) = true := by rw [seeB_pre _ _ _ h1, h2]; rfl
  obtain ⟨h3, h4⟩ := at_drop h1 h2
  have hD := dgAt_app h3 h4 hdd rfl
  obtain ⟨h5, h6⟩ := at_drop h3 h4
  have hE : seeB s ⟨#[92, 125]⟩ (i + 2 + a.length + 1 + d.length) = true := by
    have h5' : i + 2 + a.length + 1 + d.length ≤ s.size := h5
    have h6' : s.data.toList.drop (i + 2 + a.length + 1 + d.length) = _ := h6
    rw [seeB_pre _ _ _ h5', h6']; rfl
  have hH : ivHi s (i + 2 + a.length) (numD a) = (i + 2 + a.length + 1 + d.length, numD d) := by rw [ivHi, hS]; exact hD
  have hle := numN_le a
  have hle2 := numN_le d
  have hne : ∀ b ∈ a ++ ([44] ++ d), b ≠ 92 := by
    intro b hb
    simp only [List.mem_append, List.mem_singleton] at hb
    rcases hb with hb | hb | hb
    · exact digs_ne ha 92 rfl b hb
    · subst hb; decide
    · exact digs_ne hdd 92 rfl b hb
  have hP : intervalT s i = ivlT i (a ++ ([44] ++ d)) true := by
    unfold intervalT
    rw [hl, show a ++ ([44] ++ (d ++ ([92, 125] ++ r))) = (a ++ ([44] ++ d)) ++ (92 :: [125] ++ r) by simp, cut_app _ r 92 [125] hne]
  have hC : Lib.cut (a ++ ([44] ++ d)) [44] = (a, d, true) := cut_app a d 44 [] (digs_ne ha 44 rfl)
  rw [hP]
  unfold ivlT ivTok
  simp only [hC, upper, numS, ha, hdd, if_true]
  by_cases hg : (!a.isEmpty && decide (numN a ≤ 255)) = true
  · have he : a.isEmpty = false := by simp at hg; simp [hg.1]
    have hn : numN a ≤ 255 := by simp at hg; exact hg.2
    have hd : numD a = (numN a : Int) := by rw [numD, he]; rfl
    rw [hg]
    by_cases hde : d.isEmpty = true
    · have hd2 : numD d = -1 := by rw [numD, hde]; rfl
      have hok := iv_ok hA hH (by rw [hE, hd, hd2]; simp [ivBad]; omega)
      rw [hok, hd, hd2, if_pos hde]
      simp
      omega
    · rw [if_neg hde]
      have hd2 : numD d = (numN d : Int) := by rw [numD, if_neg hde]
      have hde' : d.isEmpty = false := by simpa using hde
      by_cases hk : numN d ≤ 255 ∧ numN a ≤ numN d
      · have hok := iv_ok hA hH (by rw [hE, hd, hd2]; simp [ivBad]; omega)
        rw [hok, hd, hd2]
        simp [hde', hk.1, hk.2]
        omega
      · have hbad := iv_bad hA hH (by rw [hE, hd, hd2]; simp [ivBad]; omega)
        rw [hbad]
        have : (decide (numN d ≤ 255) && decide (numN a ≤ numN d)) = false := by simp; omega
        rw [Bool.and_assoc, Bool.and_assoc, this]
        simp
  · have hbad := iv_bad hA hH (by
      rw [hE]
      by_cases he : a.isEmpty = true
      · rw [numD, he]; rfl
      · have hd : numD a = (numN a : Int) := by rw [numD, if_neg he]
        simp [he] at hg
        rw [hd]; simp [ivBad]; omega)
    rw [hbad]
    simp only [Bool.not_eq_true] at hg
    rw [hg]
    by_cases hde : d.isEmpty = true
    · rw [if_pos hde]; rfl
    · rw [if_neg hde]; rfl
theorem join_none {s : ByteArray} {i : Nat} (hp : i + 2 ≤ s.size)
    (n1 : ∀ a r, s.data.toList.drop (i + 2) = a ++ ([92, 125] ++ r) → digs a = false)
    (n2 : ∀ a d r, s.data.toList.drop (i + 2) = a ++ ([44] ++ (d ++ ([92, 125] ++ r))) → digs a = true → digs d = false) : intervalT s i = ivTok s i := by
  have hdoc : ivTok s i = faultT 9 i := by
    have hA := dgAt_lead s (i + 2) hp
    have hl := (lead_pre (s.data.toList.drop (i + 2))).symm
    have hdl := digs_lead (s.data.toList.drop (i + 2))
    generalize lead (s.data.toList.drop (i + 2)) = a at *
    obtain ⟨h1, h2⟩ := at_drop hp hl
    generalize (s.data.toList.drop (i + 2)).drop a.length = r1 at *
    have hfin : ∀ p2 hi, ivHi s (i + 2 + a.length) (numD a) = (p2, hi) → seeB s ⟨#[92, 125]⟩ p2 = false → ivTok s i = faultT 9 i := by
      intro p2 hi hH hE
      have hbad := iv_bad hA hH (by rw [hE]; simp)
      unfold ivTok; rw [hbad]; rfl
    cases hS : seeB s ⟨#[44]⟩ (i + 2 + a.length) with
    | false =>
      refine hfin (i + 2 + a.length) (numD a) (by rw [ivHi, hS]; rfl) ?_
      cases hE : seeB s ⟨#[92, 125]⟩ (i + 2 + a.length) with
      | false => rfl
      | true =>
        obtain ⟨r, hr⟩ := see_pre h1 hE
        have := n1 a r (by rw [hl, ← h2, hr])
        rw [hdl] at this; cases this
    | true =>
      obtain ⟨r2, hr2⟩ := see_pre h1 hS
      obtain ⟨h3, h4⟩ := at_drop h1 hr2
      have h3' : i + 2 + a.length + 1 ≤ s.size := h3
      have h4' : s.data.toList.drop (i + 2 + a.length + 1) = r2 := h4
      have hD := dgAt_lead s (i + 2 + a.length + 1) h3'
      rw [h4'] at hD
      have hl2 := (lead_pre r2).symm
      have hdl2 := digs_lead r2
      generalize lead r2 = d at *
      obtain ⟨h5, h6⟩ := at_drop h3' (h4'.trans hl2)
      refine hfin (i + 2 + a.length + 1 + d.length) (numD d) (by rw [ivHi, hS]; exact hD) ?_
      cases hE : seeB s ⟨#[92, 125]⟩ (i + 2 + a.length + 1 + d.length) with
      | false => rfl
      | true =>
        obtain ⟨r, hr⟩ := see_pre h5 hE
        have := n2 a d r (by rw [hl, ← h2, hr2, hl2, ← h6, hr]) hdl
        rw [hdl2] at this; cases this
  rw [hdoc]
  unfold intervalT
  generalize s.data.toList.drop (i + 2) = l at *
  cases hc : (Lib.cut l [92, 125]).2.2 with
  | false => unfold ivlT; simp
  | true =>
    have hf := cut_found l [92, 125] hc
    generalize (Lib.cut l [92, 125]).1 = inn at *
    generalize (Lib.cut l [92, 125]).2.1 = r at *
    have hu : (upper (Lib.cut inn [44]).2.2 (Lib.cut inn [44]).2.1 (numS (Lib.cut inn [44]).1)).2 = false := by
      cases h2 : (Lib.cut inn [44]).2.2 with
      | false =>
        rw [cut_missed inn [44] h2]
        have := n1 inn r hf
        simp [upper, numS, this]
      | true =>
        have hf2 := cut_found inn [44] h2
        generalize (Lib.cut inn [44]).1 = a at *
        generalize (Lib.cut inn [44]).2.1 = d at *
        cases ha : digs a with
        | false =>
          unfold upper
          by_cases hde : d.isEmpty = true
          · rw [if_pos rfl, if_pos hde]; simp [numS, ha]
          · rw [if_pos rfl, if_neg hde]; simp [numS, ha]
        | true =>
          have := n2 a d r (by rw [hf, hf2]; simp) ha
          have hde : ¬ d.isEmpty = true := by
            intro e; rw [List.isEmpty_iff] at e; subst e; cases this
          unfold upper
          rw [if_pos rfl, if_neg hde]; simp [numS, this]
    unfold ivlT
    simp only [hu]
    rfl
theorem interval_join (s : ByteArray) (i : Nat) (hp : i + 2 ≤ s.size) : intervalT s i = ivTok s i := by
  by_cases h1 : ∃ a r, s.data.toList.drop (i + 2) = a ++ ([92, 125] ++ r) ∧ digs a = true
  · obtain ⟨a, r, hl, ha⟩ := h1; exact join_one hp hl ha
  · by_cases h2 : ∃ a d r, s.data.toList.drop (i + 2) = a ++ ([44] ++ (d ++ ([92, 125] ++ r))) ∧ digs a = true ∧ digs d = true
    · obtain ⟨a, d, r, hl, ha, hd⟩ := h2; exact join_two hp hl ha hd
    · refine join_none hp (fun a r hl => ?_) (fun a d r hl ha => ?_)
      · cases e : digs a with
        | false => rfl
        | true => exact absurd ⟨a, r, hl, e⟩ h1
      · cases e : digs d with
        | false => rfl
        | true => exact absurd ⟨a, d, r, hl, ha, e⟩ h2
end Go.Proofs.Ytgpciekpmdihnaa
/- bre: a node's nine cells; the document's reader: a part of one byte. -/
namespace Go.Proofs.Ytgpciekpmdihnaa
open Go.RowKit
abbrev leafV (k : Int) (q : Nat → Bool) (g : Int) : Value := .agg #[.int .i64 k, .int .u64 (wd q 0 : Nat), .int .u64 (wd q 1 : Nat), .int .u64 (wd q 2 : Nat), .int .u64 (wd q 3 : Nat), .int .i64 0, .int .i64 0, .int .i64 g, .slice none 0 0]
def Blk9 (W : World) (b : Nat) (vs : List Value) : Prop := vs.length = 9 ∧ W.heap[b]? = some (.cells vs.toArray 27 (0, 0))
def zero9 : List Value := [.int .i64 0, .int .u64 0, .int .u64 0, .int .u64 0, .int .u64 0, .int .i64 0, .int .i64 0, .int .i64 0, .slice none 0 0]
theorem Blk9.cell {W : World} {b : Nat} {vs : List Value} (h : Blk9 W b vs) (k : Nat) (v : Value) (hk : vs[k]? = some v) : W.cell? ⟨b, k, none⟩ = some v ∧ W.frozen? ⟨b, k, none⟩ = false := by
  have h2 := h.2
  exact ⟨by simp [World.cell?, h2, hk], by simp [World.frozen?, h2]⟩
theorem Blk9.new (w : World) : Blk9 (w.alloc (.cells #[.int .i64 0, .int .u64 0, .int .u64 0, .int .u64 0, .int .u64 0, .int .i64 0, .int .i64 0, .int .i64 0, .slice none 0 0] 27)) w.heap.size zero9 := ⟨rfl, heap_alloc_new w _⟩
theorem Blk9.below {W W' : World} {b : Nat} {vs : List Value} (h : Blk9 W b vs) {B : Nat} (hb : Below B W W') (hB : W.heap.size ≤ B) : Blk9 W' b vs := ⟨h.1, (hb.block b (Nat.lt_of_lt_of_le (Array.getElem?_eq_some_iff.1 h.2).1 hB)).trans h.2⟩
theorem below9 {B : Nat} {a w : World} (h : Below B a w) {b : Nat} (hb : B ≤ b) (v0 v1 v2 v3 v4 v5 v6 v7 v8 : Value) : Below B a (((((((((w.setCell ⟨b, 0, none⟩ v0).setCell ⟨b, 1, none⟩ v1).setCell ⟨b, 2, none⟩ v2).setCell ⟨b, 3, none⟩ v3).setCell ⟨b, 4, none⟩ v4).setCell ⟨b, 5, none⟩ v5).setCell ⟨b, 6, none⟩ v6).setCell ⟨b, 7, none⟩ v7).setCell ⟨b, 8, none⟩ v8) :=
  (((((((((h.setCell (p := ⟨b, 0, none⟩) hb _).setCell (p := ⟨b, 1, none⟩) hb _).setCell (p := ⟨b, 2, none⟩) hb _).setCell (p := ⟨b, 3, none⟩) hb _).setCell (p := ⟨b, 4, none⟩) hb _).setCell (p := ⟨b, 5, none⟩) hb _).setCell (p := ⟨b, 6, none⟩) hb _).setCell (p := ⟨b, 7, none⟩) hb _).setCell (p := ⟨b, 8, none⟩) hb _)
set_option maxRecDepth 100000 in
set_option maxHeartbeats 400000 in
theorem bytes_any (b : Nat) (w : World) : Calls Try.prog 52 #[.int .u8 (b : Int)] w fun r w' => r = .returned (leafV 1 (selfP b) 0) ∧ Below w.heap.size w w' := by
  have hconv := conv_one (w.alloc (.cells #[.int .i64 0, .int .u64 0, .int .u64 0, .int .u64 0, .int .u64 0, .int .i64 0, .int .i64 0, .int .i64 0, .slice none 0 0] 27)) b
  rw [World.size_alloc] at hconv
  go_enter Try.func52, Try.ntmps52
  go_wp2_with fail
  have hB0 : Below w.heap.size w ((w.alloc (.cells #[.int .i64 0, .int .u64 0, .int .u64 0, .int .u64 0, .int .u64 0, .int .i64 0, .int .i64 0, .int .i64 0, .slice none 0 0] 27)).alloc (.cells #[.int .u8 (b : Int)] 5)) := ((Below.refl _ _).alloc (Nat.le_refl _) _).alloc (by simp) _
  have hz0 : Blk9 ((w.alloc (.cells #[.int .i64 0, .int .u64 0, .int .u64 0, .int .u64 0, .int .u64 0, .int .i64 0, .int .i64 0, .int .i64 0, .slice none 0 0] 27)).alloc (.cells #[.int .u8 (b : Int)] 5)) w.heap.size zero9 := (Blk9.new w).below ((Below.refl _ _).alloc (Nat.le_refl _) _) (Nat.le_refl _)
  refine (refOfD _ (by unfold maxLen; show 1 ≤ _; omega) _).mono ?_
  rintro e' w1 ⟨rfl, hb1⟩
  have hz := hz0.below hb1 (Nat.le_refl _)
  have hB1 := hB0.trans (hb1.mono hB0.size)
  obtain ⟨c0, f0⟩ := hz.cell 0 _ rfl
  obtain ⟨c1, f1⟩ := hz.cell 1 _ rfl
  obtain ⟨c2, f2⟩ := hz.cell 2 _ rfl
  obtain ⟨c3, f3⟩ := hz.cell 3 _ rfl
  obtain ⟨c4, f4⟩ := hz.cell 4 _ rfl
  obtain ⟨c5, f5⟩ := hz.cell 5 _ rfl
  obtain ⟨c6, f6⟩ := hz.cell 6 _ rfl
  obtain ⟨c7, f7⟩ := hz.cell 7 _ rfl
  obtain ⟨c8, f8⟩ := hz.cell 8 _ rfl
  clear hz hz0 hconv
  go_wp2
  exact bodyPost_ret (v := leafV 1 (selfP b) 0) (by simp [results, Try.results52, go_sem, selfP, c0, c1, c2, c3, c4, c5, c6, c7, c8]) rfl ⟨rfl, below9 hB1 (Nat.le_refl _) _ _ _ _ _ _ _ _ _⟩
end Go.Proofs.Ytgpciekpmdihnaa
/- bre: the document's reader: escape, at an n; how blocks last. -/
namespace Go.Proofs.Ytgpciekpmdihnaa
open Go.RowKit
theorem grown_below {A B : World} (h : Below A.heap.size A B) (o : Option Nat) : A.grownBy B o := ⟨h.os, h.tape, h.output, h.size, fun j hj _ => h.block j hj⟩
theorem grown_then {A B C : World} {o : Option Nat} (g : A.grownBy B o) (k : Below A.heap.size B C) : A.grownBy C o :=
  ⟨k.os.trans g.os, k.tape.trans g.tape, k.output.trans g.output, Nat.le_trans g.size k.size, fun j hj hr => (k.block j hj).trans (g.block j hj hr)⟩
theorem Blk9.grown {W W' : World} {b c : Nat} {vs : List Value} (h : Blk9 W c vs) (g : W.grownBy W' (some b)) (hne : c ≠ b) : Blk9 W' c vs :=
  ⟨h.1, (g.block c (Array.getElem?_eq_some_iff.1 h.2).1 (fun e => hne (by injection e))).trans h.2⟩
theorem IsRd.below {W W' : World} {b B : Nat} {s : ByteArray} {r : Rd} (h : IsRd W b s r) (k : Below B W W') (hb : b < B) : IsRd W' b s r := (k.block b hb).trans h
def W9 (w : World) : World := w.alloc (.cells #[.int .i64 0, .int .u64 0, .int .u64 0, .int .u64 0, .int .u64 0, .int .i64 0, .int .i64 0, .int .i64 0, .slice none 0 0] 27)
theorem W9_below (w : World) : Below w.heap.size w (W9 w) := (Below.refl _ _).alloc (Nat.le_refl _) _
set_option maxRecDepth 100000 in
set_option maxHeartbeats 1000000 in
theorem docEsc_n (s : ByteArray) (hs : s.size ≤ 1073741824) (r : Rd) (hr : r.pos + 1 < s.size) (hz : 0 ≤ r.size ∧ r.size ≤ 1000000000) (b : Nat) (w : World) (h : IsRd w b s r) (hn : (s[r.pos + 1].toNat : Int) = 110) :
    Calls Try.prog 48 #[.pointer (some ⟨b, 0, none⟩)] w fun x w' => x = .returned (leafV 1 (selfP 10) 0) ∧ IsRd w' b s (({ r with pos := r.pos + 2 } : Rd).grow 1 r.pos) ∧ w.grownBy w' (some b) := by
  have hlt := h.lt
  have h0 : IsRd (W9 w) b s r := h.below (W9_below w) hlt
  obtain ⟨c0, f0⟩ := h0.cell 0 _ rfl
  obtain ⟨c1, f1⟩ := h0.cell 1 _ rfl
  have h1 : IsRd ((W9 w).setCell ⟨b, 1, none⟩ (.int .i64 ((r.pos : Int) + 2))) b s { r with pos := r.pos + 2 } := IsRd.put h0 1 _ (by simp [Rd.cells])
  obtain ⟨c01, f01⟩ := h1.cell 0 _ rfl
  have hz1 : Blk9 ((W9 w).setCell ⟨b, 1, none⟩ (.int .i64 ((r.pos : Int) + 2))) w.heap.size zero9 := (Blk9.new w).grown (grown_put _ b 1 _) (by omega)
  have hg := grown_any s { r with pos := r.pos + 2 } b 1 r.pos (by omega) hz _ h1
  have hG1 := grown_trans (grown_below (W9_below w) (some b)) (grown_put (W9 w) b 1 (.int .i64 ((r.pos : Int) + 2)))
  have HH := hideT (And.intro hz1 (And.intro hg hG1))
  have HLT := hideT hlt
  clear h h0 h1 hg hG1 hz1 hlt
  unfold W9 at c0 f0 c1 f1 c01 f01 HH
  have k1 : IntKind.i64.wrap ((r.pos : Int) + 1) = (r.pos : Int) + 1 := by rw [IntKind.wrap_i64]; omega
  have k2 : IntKind.i64.wrap ((r.pos : Int) + 2) = (r.pos : Int) + 2 := by rw [IntKind.wrap_i64]; omega
  have k3 : (((r.pos : Int) + 1) == (s.size : Int)) = false := by rw [beq_eq_false_iff_ne]; omega
  have k4 : (0 : Int) ≤ (r.pos : Int) + 1 := by omega
  have k5 : (r.pos : Int) + 1 < (s.size : Int) := by omega
  have k6 : ((r.pos : Int) + 1).toNat = r.pos + 1 := by omega
  go_enter Try.func48, Try.ntmps48
  go_wp2_with fail
  refine HH.out.2.1.mono ?_
  rintro e' w1 ⟨⟨v, rfl⟩, hI1, hgr1⟩
  have hz1 := HH.out.1.grown hgr1 (by have := HLT.out; omega)
  have hG2 := grown_trans HH.out.2.2 hgr1
  clear HH c0 f0 c1 f1 c01 f01
  go_wp2_with fail
  refine (bytes_any 10 _).mono ?_
  rintro e' w2 ⟨rfl, hb2⟩
  have hz2 := hz1.below hb2 (Nat.le_refl _)
  have hI2 := hI1.below hb2 hI1.lt
  have hG3 := grown_trans hG2 (grown_below hb2 (some b))
  have HF := hideT (And.intro hI2 hG3)
  clear hI1 hI2 hG2 hG3 hgr1 hb2 hz1
  obtain ⟨d0, g0⟩ := hz2.cell 0 _ rfl
  obtain ⟨d1, g1⟩ := hz2.cell 1 _ rfl
  obtain ⟨d2, g2⟩ := hz2.cell 2 _ rfl
  obtain ⟨d3, g3⟩ := hz2.cell 3 _ rfl
  obtain ⟨d4, g4⟩ := hz2.cell 4 _ rfl
  obtain ⟨d5, g5⟩ := hz2.cell 5 _ rfl
  obtain ⟨d6, g6⟩ := hz2.cell 6 _ rfl
  obtain ⟨d7, g7⟩ := hz2.cell 7 _ rfl
  obtain ⟨d8, g8⟩ := hz2.cell 8 _ rfl
  clear hz2
  go_wp2
  exact bodyPost_ret (v := leafV 1 (selfP 10) 0) (by simp [results, Try.results48, go_sem, d0, d1, d2, d3, d4, d5, d6, d7, d8]) rfl ⟨rfl, HF.out.1.below (below9 (Below.refl _ _) (Nat.le_refl _) _ _ _ _ _ _ _ _ _) HLT.out, grown_then HF.out.2 (below9 (Below.refl _ _) (Nat.le_refl _) _ _ _ _ _ _ _ _ _)⟩
end Go.Proofs.Ytgpciekpmdihnaa
/- bre: the document's reader: escape, at a byte that stands for itself or may not be escaped. -/
namespace Go.Proofs.Ytgpciekpmdihnaa
open Go.RowKit
set_option maxRecDepth 100000 in
set_option maxHeartbeats 1000000 in
theorem docEsc_a (s : ByteArray) (hs : s.size ≤ 1073741824) (r : Rd) (hr : r.pos + 1 < s.size) (hz : 0 ≤ r.size ∧ r.size ≤ 1000000000) (b : Nat) (w : World) (h : IsRd w b s r) (hlo : 0 ≤ (s[r.pos + 1].toNat : Int)) (hhi : (s[r.pos + 1].toNat : Int) ≤ 47) (hne : (s[r.pos + 1].toNat : Int) ≠ 110) :
    Calls Try.prog 48 #[.pointer (some ⟨b, 0, none⟩)] w fun x w' => x = .returned (leafV 1 (selfP s[r.pos + 1].toNat) 0) ∧ IsRd w' b s (({ r with pos := r.pos + 2 } : Rd).grow 1 r.pos) ∧ w.grownBy w' (some b) := by
  have hlt := h.lt
  have h0 : IsRd (W9 w) b s r := h.below (W9_below w) hlt
  obtain ⟨c0, f0⟩ := h0.cell 0 _ rfl
  obtain ⟨c1, f1⟩ := h0.cell 1 _ rfl
  have h1 : IsRd ((W9 w).setCell ⟨b, 1, none⟩ (.int .i64 ((r.pos : Int) + 2))) b s ({ r with pos := r.pos + 2 } : Rd) := IsRd.put h0 1 _ (by simp [Rd.cells])
  obtain ⟨c01, f01⟩ := h1.cell 0 _ rfl
  have hz1 : Blk9 ((W9 w).setCell ⟨b, 1, none⟩ (.int .i64 ((r.pos : Int) + 2))) w.heap.size zero9 := (Blk9.new w).grown (grown_put _ b 1 _) (by omega)
  have hG1 := grown_trans (grown_below (W9_below w) (some b)) (grown_put (W9 w) b 1 (.int .i64 ((r.pos : Int) + 2)))
  have hg := grown_any s ({ r with pos := r.pos + 2 } : Rd) b 1 r.pos (by omega) hz _ h1
  have HH := hideT (And.intro hz1 (And.intro hg hG1))
  have HLT := hideT hlt
  have HZ := hideT hz
  have HE := hideT hne
  have q0 : (49 ≤ (s[r.pos + 1].toNat : Int)) = False := eq_false (by omega)
  have q1 : (97 ≤ (s[r.pos + 1].toNat : Int)) = False := eq_false (by omega)
  have q2 : (65 ≤ (s[r.pos + 1].toNat : Int)) = False := eq_false (by omega)
  have t0 : ((s[r.pos + 1].toNat : Int) ≤ 57) = True := eq_true (by omega)
  have t1 : ((s[r.pos + 1].toNat : Int) ≤ 122) = True := eq_true (by omega)
  have t2 : ((s[r.pos + 1].toNat : Int) ≤ 90) = True := eq_true (by omega)
  have u0 : ((s[r.pos + 1].toNat : Int) == 110) = false := by rw [beq_eq_false_iff_ne]; exact hne
  have u1 : ((s[r.pos + 1].toNat : Int) == 48) = false := by rw [beq_eq_false_iff_ne]; omega
  clear h h0 h1 hg hG1 hz1 hlt hz hne
  unfold W9 at c0 f0 c1 f1 c01 f01 HH
  have k1 : IntKind.i64.wrap ((r.pos : Int) + 1) = (r.pos : Int) + 1 := by rw [IntKind.wrap_i64]; omega
  have k2 : IntKind.i64.wrap ((r.pos : Int) + 2) = (r.pos : Int) + 2 := by rw [IntKind.wrap_i64]; omega
  have k3 : (((r.pos : Int) + 1) == (s.size : Int)) = false := by rw [beq_eq_false_iff_ne]; omega
  have k4 : (0 : Int) ≤ (r.pos : Int) + 1 := by omega
  have k5 : (r.pos : Int) + 1 < (s.size : Int) := by omega
  have k6 : ((r.pos : Int) + 1).toNat = r.pos + 1 := by omega
  go_enter Try.func48, Try.ntmps48
  go_wp2_with fail
  refine HH.out.2.1.mono ?_
  rintro e' w1 ⟨⟨v, rfl⟩, hI1, hgr1⟩
  have hz1 := HH.out.1.grown hgr1 (by have := HLT.out; omega)
  have hG2 := grown_trans HH.out.2.2 hgr1
  clear HH c0 f0 c1 f1 c01 f01
  go_wp2_with fail
  refine (bytes_any s[r.pos + 1].toNat _).mono ?_
  rintro e' w2 ⟨rfl, hb2⟩
  have hz2 := hz1.below hb2 (Nat.le_refl _)
  have hI2 := hI1.below hb2 hI1.lt
  have hG3 := grown_trans hG2 (grown_below hb2 (some b))
  have HF := hideT (And.intro hI2 hG3)
  clear hI1 hI2 hG2 hG3 hgr1 hb2 hz1
  obtain ⟨d0, g0⟩ := hz2.cell 0 _ rfl
  obtain ⟨d1, g1⟩ := hz2.cell 1 _ rfl
  obtain ⟨d2, g2⟩ := hz2.cell 2 _ rfl
  obtain ⟨d3, g3⟩ := hz2.cell 3 _ rfl
  obtain ⟨d4, g4⟩ := hz2.cell 4 _ rfl
  obtain ⟨d5, g5⟩ := hz2.cell 5 _ rfl
  obtain ⟨d6, g6⟩ := hz2.cell 6 _ rfl
  obtain ⟨d7, g7⟩ := hz2.cell 7 _ rfl
  obtain ⟨d8, g8⟩ := hz2.cell 8 _ rfl
  clear hz2
  go_wp2
  exact bodyPost_ret (v := leafV 1 (selfP s[r.pos + 1].toNat) 0) (by simp [results, Try.results48, go_sem, d0, d1, d2, d3, d4, d5, d6, d7, d8]) rfl ⟨rfl, HF.out.1.below (below9 (Below.refl _ _) (Nat.le_refl _) _ _ _ _ _ _ _ _ _) HLT.out, grown_then HF.out.2 (below9 (Below.refl _ _) (Nat.le_refl _) _ _ _ _ _ _ _ _ _)⟩
set_option maxRecDepth 100000 in
set_option maxHeartbeats 1000000 in
theorem docEsc_b (s : ByteArray) (hs : s.size ≤ 1073741824) (r : Rd) (hr : r.pos + 1 < s.size) (hz : 0 ≤ r.size ∧ r.size ≤ 1000000000) (b : Nat) (w : World) (h : IsRd w b s r) (hlo : 58 ≤ (s[r.pos + 1].toNat : Int)) (hhi : (s[r.pos + 1].toNat : Int) ≤ 64) (hne : (s[r.pos + 1].toNat : Int) ≠ 110) :
    Calls Try.prog 48 #[.pointer (some ⟨b, 0, none⟩)] w fun x w' => x = .returned (leafV 1 (selfP s[r.pos + 1].toNat) 0) ∧ IsRd w' b s (({ r with pos := r.pos + 2 } : Rd).grow 1 r.pos) ∧ w.grownBy w' (some b) := by
  have hlt := h.lt
  have h0 : IsRd (W9 w) b s r := h.below (W9_below w) hlt
  obtain ⟨c0, f0⟩ := h0.cell 0 _ rfl
  obtain ⟨c1, f1⟩ := h0.cell 1 _ rfl
  have h1 : IsRd ((W9 w).setCell ⟨b, 1, none⟩ (.int .i64 ((r.pos : Int) + 2))) b s ({ r with pos := r.pos + 2 } : Rd) := IsRd.put h0 1 _ (by simp [Rd.cells])
  obtain ⟨c01, f01⟩ := h1.cell 0 _ rfl
  have hz1 : Blk9 ((W9 w).setCell ⟨b, 1, none⟩ (.int .i64 ((r.pos : Int) + 2))) w.heap.size zero9 := (Blk9.new w).grown (grown_put _ b 1 _) (by omega)
  have hG1 := grown_trans (grown_below (W9_below w) (some b)) (grown_put (W9 w) b 1 (.int .i64 ((r.pos : Int) + 2)))
  have hg := grown_any s ({ r with pos := r.pos + 2 } : Rd) b 1 r.pos (by omega) hz _ h1
  have HH := hideT (And.intro hz1 (And.intro hg hG1))
  have HLT := hideT hlt
  have HZ := hideT hz
  have HE := hideT hne
  have q0 : (49 ≤ (s[r.pos + 1].toNat : Int)) = True := eq_true (by omega)
  have q1 : (97 ≤ (s[r.pos + 1].toNat : Int)) = False := eq_false (by omega)
  have q2 : (65 ≤ (s[r.pos + 1].toNat : Int)) = False := eq_false (by omega)
  have t0 : ((s[r.pos + 1].toNat : Int) ≤ 57) = False := eq_false (by omega)
  have t1 : ((s[r.pos + 1].toNat : Int) ≤ 122) = True := eq_true (by omega)
  have t2 : ((s[r.pos + 1].toNat : Int) ≤ 90) = True := eq_true (by omega)
  have u0 : ((s[r.pos + 1].toNat : Int) == 110) = false := by rw [beq_eq_false_iff_ne]; exact hne
  have u1 : ((s[r.pos + 1].toNat : Int) == 48) = false := by rw [beq_eq_false_iff_ne]; omega
  clear h h0 h1 hg hG1 hz1 hlt hz hne
  unfold W9 at c0 f0 c1 f1 c01 f01 HH
  have k1 : IntKind.i64.wrap ((r.pos : Int) + 1) = (r.pos : Int) + 1 := by rw [IntKind.wrap_i64]; omega
  have k2 : IntKind.i64.wrap ((r.pos : Int) + 2) = (r.pos : Int) + 2 := by rw [IntKind.wrap_i64]; omega
  have k3 : (((r.pos : Int) + 1) == (s.size : Int)) = false := by rw [beq_eq_false_iff_ne]; omega
  have k4 : (0 : Int) ≤ (r.pos : Int) + 1 := by omega
  have k5 : (r.pos : Int) + 1 < (s.size : Int) := by omega
  have k6 : ((r.pos : Int) + 1).toNat = r.pos + 1 := by omega
  go_enter Try.func48, Try.ntmps48
  go_wp2_with fail
  refine HH.out.2.1.mono ?_
  rintro e' w1 ⟨⟨v, rfl⟩, hI1, hgr1⟩
  have hz1 := HH.out.1.grown hgr1 (by have := HLT.out; omega)
  have hG2 := grown_trans HH.out.2.2 hgr1
  clear HH c0 f0 c1 f1 c01 f01
  go_wp2_with fail
  refine (bytes_any s[r.pos + 1].toNat _).mono ?_
  rintro e' w2 ⟨rfl, hb2⟩
  have hz2 := hz1.below hb2 (Nat.le_refl _)
  have hI2 := hI1.below hb2 hI1.lt
  have hG3 := grown_trans hG2 (grown_below hb2 (some b))
  have HF := hideT (And.intro hI2 hG3)
  clear hI1 hI2 hG2 hG3 hgr1 hb2 hz1
  obtain ⟨d0, g0⟩ := hz2.cell 0 _ rfl
  obtain ⟨d1, g1⟩ := hz2.cell 1 _ rfl
  obtain ⟨d2, g2⟩ := hz2.cell 2 _ rfl
  obtain ⟨d3, g3⟩ := hz2.cell 3 _ rfl
  obtain ⟨d4, g4⟩ := hz2.cell 4 _ rfl
  obtain ⟨d5, g5⟩ := hz2.cell 5 _ rfl
  obtain ⟨d6, g6⟩ := hz2.cell 6 _ rfl
  obtain ⟨d7, g7⟩ := hz2.cell 7 _ rfl
  obtain ⟨d8, g8⟩ := hz2.cell 8 _ rfl
  clear hz2
  go_wp2
  exact bodyPost_ret (v := leafV 1 (selfP s[r.pos + 1].toNat) 0) (by simp [results, Try.results48, go_sem, d0, d1, d2, d3, d4, d5, d6, d7, d8]) rfl ⟨rfl, HF.out.1.below (below9 (Below.refl _ _) (Nat.le_refl _) _ _ _ _ _ _ _ _ _) HLT.out, grown_then HF.out.2 (below9 (Below.refl _ _) (Nat.le_refl _) _ _ _ _ _ _ _ _ _)⟩
set_option maxRecDepth 100000 in
set_option maxHeartbeats 1000000 in
theorem docEsc_c (s : ByteArray) (hs : s.size ≤ 1073741824) (r : Rd) (hr : r.pos + 1 < s.size) (hz : 0 ≤ r.size ∧ r.size ≤ 1000000000) (b : Nat) (w : World) (h : IsRd w b s r) (hlo : 91 ≤ (s[r.pos + 1].toNat : Int)) (hhi : (s[r.pos + 1].toNat : Int) ≤ 96) (hne : (s[r.pos + 1].toNat : Int) ≠ 110) :
    Calls Try.prog 48 #[.pointer (some ⟨b, 0, none⟩)] w fun x w' => x = .returned (leafV 1 (selfP s[r.pos + 1].toNat) 0) ∧ IsRd w' b s (({ r with pos := r.pos + 2 } : Rd).grow 1 r.pos) ∧ w.grownBy w' (some b) := by
  have hlt := h.lt
  have h0 : IsRd (W9 w) b s r := h.below (W9_below w) hlt
  obtain ⟨c0, f0⟩ := h0.cell 0 _ rfl
  obtain ⟨c1, f1⟩ := h0.cell 1 _ rfl
  have h1 : IsRd ((W9 w).setCell ⟨b, 1, none⟩ (.int .i64 ((r.pos : Int) + 2))) b s ({ r with pos := r.pos + 2 } : Rd) := IsRd.put h0 1 _ (by simp [Rd.cells])
  obtain ⟨c01, f01⟩ := h1.cell 0 _ rfl
  have hz1 : Blk9 ((W9 w).setCell ⟨b, 1, none⟩ (.int .i64 ((r.pos : Int) + 2))) w.heap.size zero9 := (Blk9.new w).grown (grown_put _ b 1 _) (by omega)
  have hG1 := grown_trans (grown_below (W9_below w) (some b)) (grown_put (W9 w) b 1 (.int .i64 ((r.pos : Int) + 2)))
  have hg := grown_any s ({ r with pos := r.pos + 2 } : Rd) b 1 r.pos (by omega) hz _ h1
  have HH := hideT (And.intro hz1 (And.intro hg hG1))
  have HLT := hideT hlt
  have HZ := hideT hz
  have HE := hideT hne
  have q0 : (49 ≤ (s[r.pos + 1].toNat : Int)) = True := eq_true (by omega)
  have q1 : (97 ≤ (s[r.pos + 1].toNat : Int)) = False := eq_false (by omega)
  have q2 : (65 ≤ (s[r.pos + 1].toNat : Int)) = True := eq_true (by omega)
  have t0 : ((s[r.pos + 1].toNat : Int) ≤ 57) = False := eq_false (by omega)
  have t1 : ((s[r.pos + 1].toNat : Int) ≤ 122) = True := eq_true (by omega)
  have t2 : ((s[r.pos + 1].toNat : Int) ≤ 90) = False := eq_false (by omega)
  have u0 : ((s[r.pos + 1].toNat : Int) == 110) = false := by rw [beq_eq_false_iff_ne]; exact hne
  have u1 : ((s[r.pos + 1].toNat : Int) == 48) = false := by rw [beq_eq_false_iff_ne]; omega
  clear h h0 h1 hg hG1 hz1 hlt hz hne
  unfold W9 at c0 f0 c1 f1 c01 f01 HH
  have k1 : IntKind.i64.wrap ((r.pos : Int) + 1) = (r.pos : Int) + 1 := by rw [IntKind.wrap_i64]; omega
  have k2 : IntKind.i64.wrap ((r.pos : Int) + 2) = (r.pos : Int) + 2 := by rw [IntKind.wrap_i64]; omega
  have k3 : (((r.pos : Int) + 1) == (s.size : Int)) = false := by rw [beq_eq_false_iff_ne]; omega
  have k4 : (0 : Int) ≤ (r.pos : Int) + 1 := by omega
  have k5 : (r.pos : Int) + 1 < (s.size : Int) := by omega
  have k6 : ((r.pos : Int) + 1).toNat = r.pos + 1 := by omega
  go_enter Try.func48, Try.ntmps48
  go_wp2_with fail
  refine HH.out.2.1.mono ?_
  rintro e' w1 ⟨⟨v, rfl⟩, hI1, hgr1⟩
  have hz1 := HH.out.1.grown hgr1 (by have := HLT.out; omega)
  have hG2 := grown_trans HH.out.2.2 hgr1
  clear HH c0 f0 c1 f1 c01 f01
  go_wp2_with fail
  refine (bytes_any s[r.pos + 1].toNat _).mono ?_
  rintro e' w2 ⟨rfl, hb2⟩
  have hz2 := hz1.below hb2 (Nat.le_refl _)
  have hI2 := hI1.below hb2 hI1.lt
  have hG3 := grown_trans hG2 (grown_below hb2 (some b))
  have HF := hideT (And.intro hI2 hG3)
  clear hI1 hI2 hG2 hG3 hgr1 hb2 hz1
  obtain ⟨d0, g0⟩ := hz2.cell 0 _ rfl
  obtain ⟨d1, g1⟩ := hz2.cell 1 _ rfl
  obtain ⟨d2, g2⟩ := hz2.cell 2 _ rfl
  obtain ⟨d3, g3⟩ := hz2.cell 3 _ rfl
  obtain ⟨d4, g4⟩ := hz2.cell 4 _ rfl
  obtain ⟨d5, g5⟩ := hz2.cell 5 _ rfl
  obtain ⟨d6, g6⟩ := hz2.cell 6 _ rfl
  obtain ⟨d7, g7⟩ := hz2.cell 7 _ rfl
  obtain ⟨d8, g8⟩ := hz2.cell 8 _ rfl
  clear hz2
  go_wp2
  exact bodyPost_ret (v := leafV 1 (selfP s[r.pos + 1].toNat) 0) (by simp [results, Try.results48, go_sem, d0, d1, d2, d3, d4, d5, d6, d7, d8]) rfl ⟨rfl, HF.out.1.below (below9 (Below.refl _ _) (Nat.le_refl _) _ _ _ _ _ _ _ _ _) HLT.out, grown_then HF.out.2 (below9 (Below.refl _ _) (Nat.le_refl _) _ _ _ _ _ _ _ _ _)⟩
set_option maxRecDepth 100000 in
set_option maxHeartbeats 1000000 in
theorem docEsc_d (s : ByteArray) (hs : s.size ≤ 1073741824) (r : Rd) (hr : r.pos + 1 < s.size) (hz : 0 ≤ r.size ∧ r.size ≤ 1000000000) (b : Nat) (w : World) (h : IsRd w b s r) (hlo : 123 ≤ (s[r.pos + 1].toNat : Int)) (hhi : (s[r.pos + 1].toNat : Int) ≤ 255) (hne : (s[r.pos + 1].toNat : Int) ≠ 110) :
    Calls Try.prog 48 #[.pointer (some ⟨b, 0, none⟩)] w fun x w' => x = .returned (leafV 1 (selfP s[r.pos + 1].toNat) 0) ∧ IsRd w' b s (({ r with pos := r.pos + 2 } : Rd).grow 1 r.pos) ∧ w.grownBy w' (some b) := by
  have hlt := h.lt
  have h0 : IsRd (W9 w) b s r := h.below (W9_below w) hlt
  obtain ⟨c0, f0⟩ := h0.cell 0 _ rfl
  obtain ⟨c1, f1⟩ := h0.cell 1 _ rfl
  have h1 : IsRd ((W9 w).setCell ⟨b, 1, none⟩ (.int .i64 ((r.pos : Int) + 2))) b s ({ r with pos := r.pos + 2 } : Rd) := IsRd.put h0 1 _ (by simp [Rd.cells])
  obtain ⟨c01, f01⟩ := h1.cell 0 _ rfl
  have hz1 : Blk9 ((W9 w).setCell ⟨b, 1, none⟩ (.int .i64 ((r.pos : Int) + 2))) w.heap.size zero9 := (Blk9.new w).grown (grown_put _ b 1 _) (by omega)
  have hG1 := grown_trans (grown_below (W9_below w) (some b)) (grown_put (W9 w) b 1 (.int .i64 ((r.pos : Int) + 2)))
  have hg := grown_any s ({ r with pos := r.pos + 2 } : Rd) b 1 r.pos (by omega) hz _ h1
  have HH := hideT (And.intro hz1 (And.intro hg hG1))
  have HLT := hideT hlt
  have HZ := hideT hz
  have HE := hideT hne
  have q0 : (49 ≤ (s[r.pos + 1].toNat : Int)) = True := eq_true (by omega)
  have q1 : (97 ≤ (s[r.pos + 1].toNat : Int)) = True := eq_true (by omega)
  have q2 : (65 ≤ (s[r.pos + 1].toNat : Int)) = True := eq_true (by omega)
  have t0 : ((s[r.pos + 1].toNat : Int) ≤ 57) = False := eq_false (by omega)
  have t1 : ((s[r.pos + 1].toNat : Int) ≤ 122) = False := eq_false (by omega)
  have t2 : ((s[r.pos + 1].toNat : Int) ≤ 90) = False := eq_false (by omega)
  have u0 : ((s[r.pos + 1].toNat : Int) == 110) = false := by rw [beq_eq_false_iff_ne]; exact hne
  have u1 : ((s[r.pos + 1].toNat : Int) == 48) = false := by rw [beq_eq_false_iff_ne]; omega
  clear h h0 h1 hg hG1 hz1 hlt hz hne
  unfold W9 at c0 f0 c1 f1 c01 f01 HH
  have k1 : IntKind.i64.wrap ((r.pos : Int) + 1) = (r.pos : Int) + 1 := by rw [IntKind.wrap_i64]; omega
  have k2 : IntKind.i64.wrap ((r.pos : Int) + 2) = (r.pos : Int) + 2 := by rw [IntKind.wrap_i64]; omega
  have k3 : (((r.pos : Int) + 1) == (s.size : Int)) = false := by rw [beq_eq_false_iff_ne]; omega
  have k4 : (0 : Int) ≤ (r.pos : Int) + 1 := by omega
  have k5 : (r.pos : Int) + 1 < (s.size : Int) := by omega
  have k6 : ((r.pos : Int) + 1).toNat = r.pos + 1 := by omega
  go_enter Try.func48, Try.ntmps48
  go_wp2_with fail
  refine HH.out.2.1.mono ?_
  rintro e' w1 ⟨⟨v, rfl⟩, hI1, hgr1⟩
  have hz1 := HH.out.1.grown hgr1 (by have := HLT.out; omega)
  have hG2 := grown_trans HH.out.2.2 hgr1
  clear HH c0 f0 c1 f1 c01 f01
  go_wp2_with fail
  refine (bytes_any s[r.pos + 1].toNat _).mono ?_
  rintro e' w2 ⟨rfl, hb2⟩
  have hz2 := hz1.below hb2 (Nat.le_refl _)
  have hI2 := hI1.below hb2 hI1.lt
  have hG3 := grown_trans hG2 (grown_below hb2 (some b))
  have HF := hideT (And.intro hI2 hG3)
  clear hI1 hI2 hG2 hG3 hgr1 hb2 hz1
  obtain ⟨d0, g0⟩ := hz2.cell 0 _ rfl
  obtain ⟨d1, g1⟩ := hz2.cell 1 _ rfl
  obtain ⟨d2, g2⟩ := hz2.cell 2 _ rfl
  obtain ⟨d3, g3⟩ := hz2.cell 3 _ rfl
  obtain ⟨d4, g4⟩ := hz2.cell 4 _ rfl
  obtain ⟨d5, g5⟩ := hz2.cell 5 _ rfl
  obtain ⟨d6, g6⟩ := hz2.cell 6 _ rfl
  obtain ⟨d7, g7⟩ := hz2.cell 7 _ rfl
  obtain ⟨d8, g8⟩ := hz2.cell 8 _ rfl
  clear hz2
  go_wp2
  exact bodyPost_ret (v := leafV 1 (selfP s[r.pos + 1].toNat) 0) (by simp [results, Try.results48, go_sem, d0, d1, d2, d3, d4, d5, d6, d7, d8]) rfl ⟨rfl, HF.out.1.below (below9 (Below.refl _ _) (Nat.le_refl _) _ _ _ _ _ _ _ _ _) HLT.out, grown_then HF.out.2 (below9 (Below.refl _ _) (Nat.le_refl _) _ _ _ _ _ _ _ _ _)⟩
end Go.Proofs.Ytgpciekpmdihnaa
/- bre: the document's reader: escape, at a byte that stands for itself or may not be escaped. -/
namespace Go.Proofs.Ytgpciekpmdihnaa
open Go.RowKit
set_option maxRecDepth 100000 in
set_option maxHeartbeats 1000000 in
theorem docEsc_e (s : ByteArray) (hs : s.size ≤ 1073741824) (r : Rd) (hr : r.pos + 1 < s.size) (hz : 0 ≤ r.size ∧ r.size ≤ 1000000000) (b : Nat) (w : World) (h : IsRd w b s r) (hlo : 48 ≤ (s[r.pos + 1].toNat : Int)) (hhi : (s[r.pos + 1].toNat : Int) ≤ 48) (hne : (s[r.pos + 1].toNat : Int) ≠ 110) :
    Calls Try.prog 48 #[.pointer (some ⟨b, 0, none⟩)] w fun x w' => x = .returned (leafV 1 (selfP s[r.pos + 1].toNat) 0) ∧ IsRd w' b s ((({ r with pos := r.pos + 2 } : Rd).failed 12 r.pos).grow 1 r.pos) ∧ w.grownBy w' (some b) := by
  have hlt := h.lt
  have h0 : IsRd (W9 w) b s r := h.below (W9_below w) hlt
  obtain ⟨c0, f0⟩ := h0.cell 0 _ rfl
  obtain ⟨c1, f1⟩ := h0.cell 1 _ rfl
  have h1 : IsRd ((W9 w).setCell ⟨b, 1, none⟩ (.int .i64 ((r.pos : Int) + 2))) b s ({ r with pos := r.pos + 2 } : Rd) := IsRd.put h0 1 _ (by simp [Rd.cells])
  obtain ⟨c01, f01⟩ := h1.cell 0 _ rfl
  have hz1 : Blk9 ((W9 w).setCell ⟨b, 1, none⟩ (.int .i64 ((r.pos : Int) + 2))) w.heap.size zero9 := (Blk9.new w).grown (grown_put _ b 1 _) (by omega)
  have hG1 := grown_trans (grown_below (W9_below w) (some b)) (grown_put (W9 w) b 1 (.int .i64 ((r.pos : Int) + 2)))
  have hg := fail_any s ({ r with pos := r.pos + 2 } : Rd) b 12 r.pos _ h1
  have HH := hideT (And.intro hz1 (And.intro hg hG1))
  have HLT := hideT hlt
  have HZ := hideT hz
  have HE := hideT hne
  have q0 : (49 ≤ (s[r.pos + 1].toNat : Int)) = False := eq_false (by omega)
  have q1 : (97 ≤ (s[r.pos + 1].toNat : Int)) = False := eq_false (by omega)
  have q2 : (65 ≤ (s[r.pos + 1].toNat : Int)) = False := eq_false (by omega)
  have t0 : ((s[r.pos + 1].toNat : Int) ≤ 57) = True := eq_true (by omega)
  have t1 : ((s[r.pos + 1].toNat : Int) ≤ 122) = True := eq_true (by omega)
  have t2 : ((s[r.pos + 1].toNat : Int) ≤ 90) = True := eq_true (by omega)
  have u0 : ((s[r.pos + 1].toNat : Int) == 110) = false := by rw [beq_eq_false_iff_ne]; exact hne
  have u1 : ((s[r.pos + 1].toNat : Int) == 48) = true := by rw [beq_iff_eq]; omega
  clear h h0 h1 hg hG1 hz1 hlt hz hne
  unfold W9 at c0 f0 c1 f1 c01 f01 HH
  have k1 : IntKind.i64.wrap ((r.pos : Int) + 1) = (r.pos : Int) + 1 := by rw [IntKind.wrap_i64]; omega
  have k2 : IntKind.i64.wrap ((r.pos : Int) + 2) = (r.pos : Int) + 2 := by rw [IntKind.wrap_i64]; omega
  have k3 : (((r.pos : Int) + 1) == (s.size : Int)) = false := by rw [beq_eq_false_iff_ne]; omega
  have k4 : (0 : Int) ≤ (r.pos : Int) + 1 := by omega
  have k5 : (r.pos : Int) + 1 < (s.size : Int) := by omega
  have k6 : ((r.pos : Int) + 1).toNat = r.pos + 1 := by omega
  go_enter Try.func48, Try.ntmps48
  go_wp2_with fail
  refine HH.out.2.1.mono ?_
  rintro e' w1 ⟨⟨v, rfl⟩, hI1, hgr1⟩
  have hz1 := HH.out.1.grown hgr1 (by have := HLT.out; omega)
  have hG2 := grown_trans HH.out.2.2 hgr1
  clear HH c0 f0 c1 f1 c01 f01
  have hI1' : IsRd w1 b s (({ r with pos := r.pos + 2 } : Rd).failed 12 r.pos) := hI1
  have hg2 := grown_any s (({ r with pos := r.pos + 2 } : Rd).failed 12 r.pos) b 1 r.pos (by omega) (by have := HZ.out; unfold Rd.failed; split <;> exact this) _ hI1'
  have H2 := hideT (And.intro hg2 (And.intro hz1 hG2))
  clear hI1 hI1' hg2 hz1 hG2 hgr1
  go_wp2_with fail
  refine H2.out.1.mono ?_
  rintro e' w1' ⟨⟨v, rfl⟩, hI1, hgr1⟩
  have hz1 := H2.out.2.1.grown hgr1 (by have := HLT.out; omega)
  have hG2 := grown_trans H2.out.2.2 hgr1
  clear H2
  go_wp2_with fail
  refine (bytes_any s[r.pos + 1].toNat _).mono ?_
  rintro e' w2 ⟨rfl, hb2⟩
  have hz2 := hz1.below hb2 (Nat.le_refl _)
  have hI2 := hI1.below hb2 hI1.lt
  have hG3 := grown_trans hG2 (grown_below hb2 (some b))
  have HF := hideT (And.intro hI2 hG3)
  clear hI1 hI2 hG2 hG3 hgr1 hb2 hz1
  obtain ⟨d0, g0⟩ := hz2.cell 0 _ rfl
  obtain ⟨d1, g1⟩ := hz2.cell 1 _ rfl
  obtain ⟨d2, g2⟩ := hz2.cell 2 _ rfl
  obtain ⟨d3, g3⟩ := hz2.cell 3 _ rfl
  obtain ⟨d4, g4⟩ := hz2.cell 4 _ rfl
  obtain ⟨d5, g5⟩ := hz2.cell 5 _ rfl
  obtain ⟨d6, g6⟩ := hz2.cell 6 _ rfl
  obtain ⟨d7, g7⟩ := hz2.cell 7 _ rfl
  obtain ⟨d8, g8⟩ := hz2.cell 8 _ rfl
  clear hz2
  go_wp2
  exact bodyPost_ret (v := leafV 1 (selfP s[r.pos + 1].toNat) 0) (by simp [results, Try.results48, go_sem, d0, d1, d2, d3, d4, d5, d6, d7, d8]) rfl ⟨rfl, HF.out.1.below (below9 (Below.refl _ _) (Nat.le_refl _) _ _ _ _ _ _ _ _ _) HLT.out, grown_then HF.out.2 (below9 (Below.refl _ _) (Nat.le_refl _) _ _ _ _ _ _ _ _ _)⟩
set_option maxRecDepth 100000 in
set_option maxHeartbeats 1000000 in
theorem docEsc_f (s : ByteArray) (hs : s.size ≤ 1073741824) (r : Rd) (hr : r.pos + 1 < s.size) (hz : 0 ≤ r.size ∧ r.size ≤ 1000000000) (b : Nat) (w : World) (h : IsRd w b s r) (hlo : 65 ≤ (s[r.pos + 1].toNat : Int)) (hhi : (s[r.pos + 1].toNat : Int) ≤ 90) (hne : (s[r.pos + 1].toNat : Int) ≠ 110) :
    Calls Try.prog 48 #[.pointer (some ⟨b, 0, none⟩)] w fun x w' => x = .returned (leafV 1 (selfP s[r.pos + 1].toNat) 0) ∧ IsRd w' b s ((({ r with pos := r.pos + 2 } : Rd).failed 12 r.pos).grow 1 r.pos) ∧ w.grownBy w' (some b) := by
  have hlt := h.lt
  have h0 : IsRd (W9 w) b s r := h.below (W9_below w) hlt
  obtain ⟨c0, f0⟩ := h0.cell 0 _ rfl
  obtain ⟨c1, f1⟩ := h0.cell 1 _ rfl
  have h1 : IsRd ((W9 w).setCell ⟨b, 1, none⟩ (.int .i64 ((r.pos : Int) + 2))) b s ({ r with pos := r.pos + 2 } : Rd) := IsRd.put h0 1 _ (by simp [Rd.cells])
  obtain ⟨c01, f01⟩ := h1.cell 0 _ rfl
  have hz1 : Blk9 ((W9 w).setCell ⟨b, 1, none⟩ (.int .i64 ((r.pos : Int) + 2))) w.heap.size zero9 := (Blk9.new w).grown (grown_put _ b 1 _) (by omega)
  have hG1 := grown_trans (grown_below (W9_below w) (some b)) (grown_put (W9 w) b 1 (.int .i64 ((r.pos : Int) + 2)))
  have hg := fail_any s ({ r with pos := r.pos + 2 } : Rd) b 12 r.pos _ h1
  have HH := hideT (And.intro hz1 (And.intro hg hG1))
  have HLT := hideT hlt
  have HZ := hideT hz
  have HE := hideT hne
  have q0 : (49 ≤ (s[r.pos + 1].toNat : Int)) = True := eq_true (by omega)
  have q1 : (97 ≤ (s[r.pos + 1].toNat : Int)) = False := eq_false (by omega)
  have q2 : (65 ≤ (s[r.pos + 1].toNat : Int)) = True := eq_true (by omega)
  have t0 : ((s[r.pos + 1].toNat : Int) ≤ 57) = False := eq_false (by omega)
  have t1 : ((s[r.pos + 1].toNat : Int) ≤ 122) = True := eq_true (by omega)
  have t2 : ((s[r.pos + 1].toNat : Int) ≤ 90) = True := eq_true (by omega)
  have u0 : ((s[r.pos + 1].toNat : Int) == 110) = false := by rw [beq_eq_false_iff_ne]; exact hne
  have u1 : ((s[r.pos + 1].toNat : Int) == 48) = false := by rw [beq_eq_false_iff_ne]; omega
  clear h h0 h1 hg hG1 hz1 hlt hz hne
  unfold W9 at c0 f0 c1 f1 c01 f01 HH
  have k1 : IntKind.i64.wrap ((r.pos : Int) + 1) = (r.pos : Int) + 1 := by rw [IntKind.wrap_i64]; omega
  have k2 : IntKind.i64.wrap ((r.pos : Int) + 2) = (r.pos : Int) + 2 := by rw [IntKind.wrap_i64]; omega
  have k3 : (((r.pos : Int) + 1) == (s.size : Int)) = false := by rw [beq_eq_false_iff_ne]; omega
  have k4 : (0 : Int) ≤ (r.pos : Int) + 1 := by omega
  have k5 : (r.pos : Int) + 1 < (s.size : Int) := by omega
  have k6 : ((r.pos : Int) + 1).toNat = r.pos + 1 := by omega
  go_enter Try.func48, Try.ntmps48
  go_wp2_with fail
  refine HH.out.2.1.mono ?_
  rintro e' w1 ⟨⟨v, rfl⟩, hI1, hgr1⟩
  have hz1 := HH.out.1.grown hgr1 (by have := HLT.out; omega)
  have hG2 := grown_trans HH.out.2.2 hgr1
  clear HH c0 f0 c1 f1 c01 f01
  have hI1' : IsRd w1 b s (({ r with pos := r.pos + 2 } : Rd).failed 12 r.pos) := hI1
  have hg2 := grown_any s (({ r with pos := r.pos + 2 } : Rd).failed 12 r.pos) b 1 r.pos (by omega) (by have := HZ.out; unfold Rd.failed; split <;> exact this) _ hI1'
  have H2 := hideT (And.intro hg2 (And.intro hz1 hG2))
  clear hI1 hI1' hg2 hz1 hG2 hgr1
  go_wp2_with fail
  refine H2.out.1.mono ?_
  rintro e' w1' ⟨⟨v, rfl⟩, hI1, hgr1⟩
  have hz1 := H2.out.2.1.grown hgr1 (by have := HLT.out; omega)
  have hG2 := grown_trans H2.out.2.2 hgr1
  clear H2
  go_wp2_with fail
  refine (bytes_any s[r.pos + 1].toNat _).mono ?_
  rintro e' w2 ⟨rfl, hb2⟩
  have hz2 := hz1.below hb2 (Nat.le_refl _)
  have hI2 := hI1.below hb2 hI1.lt
  have hG3 := grown_trans hG2 (grown_below hb2 (some b))
  have HF := hideT (And.intro hI2 hG3)
  clear hI1 hI2 hG2 hG3 hgr1 hb2 hz1
  obtain ⟨d0, g0⟩ := hz2.cell 0 _ rfl
  obtain ⟨d1, g1⟩ := hz2.cell 1 _ rfl
  obtain ⟨d2, g2⟩ := hz2.cell 2 _ rfl
  obtain ⟨d3, g3⟩ := hz2.cell 3 _ rfl
  obtain ⟨d4, g4⟩ := hz2.cell 4 _ rfl
  obtain ⟨d5, g5⟩ := hz2.cell 5 _ rfl
  obtain ⟨d6, g6⟩ := hz2.cell 6 _ rfl
  obtain ⟨d7, g7⟩ := hz2.cell 7 _ rfl
  obtain ⟨d8, g8⟩ := hz2.cell 8 _ rfl
  clear hz2
  go_wp2
  exact bodyPost_ret (v := leafV 1 (selfP s[r.pos + 1].toNat) 0) (by simp [results, Try.results48, go_sem, d0, d1, d2, d3, d4, d5, d6, d7, d8]) rfl ⟨rfl, HF.out.1.below (below9 (Below.refl _ _) (Nat.le_refl _) _ _ _ _ _ _ _ _ _) HLT.out, grown_then HF.out.2 (below9 (Below.refl _ _) (Nat.le_refl _) _ _ _ _ _ _ _ _ _)⟩
set_option maxRecDepth 100000 in
set_option maxHeartbeats 1000000 in
theorem docEsc_g (s : ByteArray) (hs : s.size ≤ 1073741824) (r : Rd) (hr : r.pos + 1 < s.size) (hz : 0 ≤ r.size ∧ r.size ≤ 1000000000) (b : Nat) (w : World) (h : IsRd w b s r) (hlo : 97 ≤ (s[r.pos + 1].toNat : Int)) (hhi : (s[r.pos + 1].toNat : Int) ≤ 122) (hne : (s[r.pos + 1].toNat : Int) ≠ 110) :
    Calls Try.prog 48 #[.pointer (some ⟨b, 0, none⟩)] w fun x w' => x = .returned (leafV 1 (selfP s[r.pos + 1].toNat) 0) ∧ IsRd w' b s ((({ r with pos := r.pos + 2 } : Rd).failed 12 r.pos).grow 1 r.pos) ∧ w.grownBy w' (some b) := by
  have hlt := h.lt
  have h0 : IsRd (W9 w) b s r := h.below (W9_below w) hlt
  obtain ⟨c0, f0⟩ := h0.cell 0 _ rfl
  obtain ⟨c1, f1⟩ := h0.cell 1 _ rfl
  have h1 : IsRd ((W9 w).setCell ⟨b, 1, none⟩ (.int .i64 ((r.pos : Int) + 2))) b s ({ r with pos := r.pos + 2 } : Rd) := IsRd.put h0 1 _ (by simp [Rd.cells])
  obtain ⟨c01, f01⟩ := h1.cell 0 _ rfl
  have hz1 : Blk9 ((W9 w).setCell ⟨b, 1, none⟩ (.int .i64 ((r.pos : Int) + 2))) w.heap.size zero9 := (Blk9.new w).grown (grown_put _ b 1 _) (by omega)
  have hG1 := grown_trans (grown_below (W9_below w) (some b)) (grown_put (W9 w) b 1 (.int .i64 ((r.pos : Int) + 2)))
  have hg := fail_any s ({ r with pos := r.pos + 2 } : Rd) b 12 r.pos _ h1
  have HH := hideT (And.intro hz1 (And.intro hg hG1))
  have HLT := hideT hlt
  have HZ := hideT hz
  have HE := hideT hne
  have q0 : (49 ≤ (s[r.pos + 1].toNat : Int)) = True := eq_true (by omega)
  have q1 : (97 ≤ (s[r.pos + 1].toNat : Int)) = True := eq_true (by omega)
  have q2 : (65 ≤ (s[r.pos + 1].toNat : Int)) = True := eq_true (by omega)
  have t0 : ((s[r.pos + 1].toNat : Int) ≤ 57) = False := eq_false (by omega)
  have t1 : ((s[r.pos + 1].toNat : Int) ≤ 122) = True := eq_true (by omega)
  have t2 : ((s[r.pos + 1].toNat : Int) ≤ 90) = False := eq_false (by omega)
  have u0 : ((s[r.pos + 1].toNat : Int) == 110) = false := by rw [beq_eq_false_iff_ne]; exact hne
  have u1 : ((s[r.pos + 1].toNat : Int) == 48) = false := by rw [beq_eq_false_iff_ne]; omega
  clear h h0 h1 hg hG1 hz1 hlt hz hne
  unfold W9 at c0 f0 c1 f1 c01 f01 HH
  have k1 : IntKind.i64.wrap ((r.pos : Int) + 1) = (r.pos : Int) + 1 := by rw [IntKind.wrap_i64]; omega
  have k2 : IntKind.i64.wrap ((r.pos : Int) + 2) = (r.pos : Int) + 2 := by rw [IntKind.wrap_i64]; omega
  have k3 : (((r.pos : Int) + 1) == (s.size : Int)) = false := by rw [beq_eq_false_iff_ne]; omega
  have k4 : (0 : Int) ≤ (r.pos : Int) + 1 := by omega
  have k5 : (r.pos : Int) + 1 < (s.size : Int) := by omega
  have k6 : ((r.pos : Int) + 1).toNat = r.pos + 1 := by omega
  go_enter Try.func48, Try.ntmps48
  go_wp2_with fail
  refine HH.out.2.1.mono ?_
  rintro e' w1 ⟨⟨v, rfl⟩, hI1, hgr1⟩
  have hz1 := HH.out.1.grown hgr1 (by have := HLT.out; omega)
  have hG2 := grown_trans HH.out.2.2 hgr1
  clear HH c0 f0 c1 f1 c01 f01
  have hI1' : IsRd w1 b s (({ r with pos := r.pos + 2 } : Rd).failed 12 r.pos) := hI1
  have hg2 := grown_any s (({ r with pos := r.pos + 2 } : Rd).failed 12 r.pos) b 1 r.pos (by omega) (by have := HZ.out; unfold Rd.failed; split <;> exact this) _ hI1'
  have H2 := hideT (And.intro hg2 (And.intro hz1 hG2))
  clear hI1 hI1' hg2 hz1 hG2 hgr1
  go_wp2_with fail
  refine H2.out.1.mono ?_
  rintro e' w1' ⟨⟨v, rfl⟩, hI1, hgr1⟩
  have hz1 := H2.out.2.1.grown hgr1 (by have := HLT.out; omega)
  have hG2 := grown_trans H2.out.2.2 hgr1
  clear H2
  go_wp2_with fail
  refine (bytes_any s[r.pos + 1].toNat _).mono ?_
  rintro e' w2 ⟨rfl, hb2⟩
  have hz2 := hz1.below hb2 (Nat.le_refl _)
  have hI2 := hI1.below hb2 hI1.lt
  have hG3 := grown_trans hG2 (grown_below hb2 (some b))
  have HF := hideT (And.intro hI2 hG3)
  clear hI1 hI2 hG2 hG3 hgr1 hb2 hz1
  obtain ⟨d0, g0⟩ := hz2.cell 0 _ rfl
  obtain ⟨d1, g1⟩ := hz2.cell 1 _ rfl
  obtain ⟨d2, g2⟩ := hz2.cell 2 _ rfl
  obtain ⟨d3, g3⟩ := hz2.cell 3 _ rfl
  obtain ⟨d4, g4⟩ := hz2.cell 4 _ rfl
  obtain ⟨d5, g5⟩ := hz2.cell 5 _ rfl
  obtain ⟨d6, g6⟩ := hz2.cell 6 _ rfl
  obtain ⟨d7, g7⟩ := hz2.cell 7 _ rfl
  obtain ⟨d8, g8⟩ := hz2.cell 8 _ rfl
  clear hz2
  go_wp2
  exact bodyPost_ret (v := leafV 1 (selfP s[r.pos + 1].toNat) 0) (by simp [results, Try.results48, go_sem, d0, d1, d2, d3, d4, d5, d6, d7, d8]) rfl ⟨rfl, HF.out.1.below (below9 (Below.refl _ _) (Nat.le_refl _) _ _ _ _ _ _ _ _ _) HLT.out, grown_then HF.out.2 (below9 (Below.refl _ _) (Nat.le_refl _) _ _ _ _ _ _ _ _ _)⟩
end Go.Proofs.Ytgpciekpmdihnaa
/- bre: the document's reader: escape, at the end, at a digit. -/
namespace Go.Proofs.Ytgpciekpmdihnaa
open Go.RowKit
set_option maxRecDepth 100000 in
set_option maxHeartbeats 1000000 in
theorem docEsc_end (s : ByteArray) (hs : s.size ≤ 1073741824) (r : Rd) (hr : r.pos + 1 = s.size) (b : Nat) (w : World) (h : IsRd w b s r) :
    Calls Try.prog 48 #[.pointer (some ⟨b, 0, none⟩)] w fun x w' => x = .returned (leafV 0 noneP 0) ∧ IsRd w' b s (r.failed 6 r.pos) ∧ w.grownBy w' (some b) := by
  have z0 : wd noneP 0 = 0 := wd_none 0
  have z1 : wd noneP 1 = 0 := wd_none 1
  have z2 : wd noneP 2 = 0 := wd_none 2
  have z3 : wd noneP 3 = 0 := wd_none 3
  simp only [leafV, z0, z1, z2, z3, Int.ofNat_zero]
  clear z0 z1 z2 z3
  have hlt := h.lt
  have h0 : IsRd (W9 w) b s r := h.below (W9_below w) hlt
  obtain ⟨c0, f0⟩ := h0.cell 0 _ rfl
  obtain ⟨c1, f1⟩ := h0.cell 1 _ rfl
  have hg := fail_any s r b 6 r.pos _ h0
  have HH := hideT (And.intro (Blk9.new w) (And.intro hg (grown_below (W9_below w) (some b))))
  have HLT := hideT hlt
  clear h h0 hg hlt
  unfold W9 at c0 f0 c1 f1 HH
  have k1 : IntKind.i64.wrap ((r.pos : Int) + 1) = (r.pos : Int) + 1 := by rw [IntKind.wrap_i64]; omega
  have k3 : (((r.pos : Int) + 1) == (s.size : Int)) = true := by rw [beq_iff_eq]; omega
  go_enter Try.func48, Try.ntmps48
  go_wp2_with fail
  refine HH.out.2.1.mono ?_
  rintro e' w1 ⟨⟨v, rfl⟩, hI1, hgr1⟩
  have hz2 := HH.out.1.grown hgr1 (by have := HLT.out; omega)
  have hG2 := grown_trans HH.out.2.2 hgr1
  have HF := hideT (And.intro hI1 hG2)
  clear HH c0 f0 c1 f1 hI1 hG2 hgr1
  obtain ⟨d0, g0⟩ := hz2.cell 0 _ rfl
  obtain ⟨d1, g1⟩ := hz2.cell 1 _ rfl
  obtain ⟨d2, g2⟩ := hz2.cell 2 _ rfl
  obtain ⟨d3, g3⟩ := hz2.cell 3 _ rfl
  obtain ⟨d4, g4⟩ := hz2.cell 4 _ rfl
  obtain ⟨d5, g5⟩ := hz2.cell 5 _ rfl
  obtain ⟨d6, g6⟩ := hz2.cell 6 _ rfl
  obtain ⟨d7, g7⟩ := hz2.cell 7 _ rfl
  obtain ⟨d8, g8⟩ := hz2.cell 8 _ rfl
  clear hz2
  go_wp2
  exact bodyPost_ret (v := .agg #[.int .i64 0, .int .u64 0, .int .u64 0, .int .u64 0, .int .u64 0, .int .i64 0, .int .i64 0, .int .i64 0, .slice none 0 0]) (by simp [results, Try.results48, go_sem, d0, d1, d2, d3, d4, d5, d6, d7, d8]) rfl ⟨rfl, HF.out.1.below (below9 (Below.refl _ _) (Nat.le_refl _) _ _ _ _ _ _ _ _ _) HLT.out, grown_then HF.out.2 (below9 (Below.refl _ _) (Nat.le_refl _) _ _ _ _ _ _ _ _ _)⟩
set_option maxRecDepth 100000 in
set_option maxHeartbeats 1000000 in
theorem docEsc_h (s : ByteArray) (hs : s.size ≤ 1073741824) (r : Rd) (hr : r.pos + 1 < s.size) (hz : 0 ≤ r.size ∧ r.size ≤ 1000000000) (b : Nat) (w : World) (h : IsRd w b s r) (hlo : 49 ≤ (s[r.pos + 1].toNat : Int)) (hhi : (s[r.pos + 1].toNat : Int) ≤ 57) (hsh : r.shut (s[r.pos + 1].toNat - 48) = true) (hne : (s[r.pos + 1].toNat : Int) ≠ 110) :
    Calls Try.prog 48 #[.pointer (some ⟨b, 0, none⟩)] w fun x w' => x = .returned (leafV 6 noneP ((s[r.pos + 1].toNat : Int) - 48)) ∧ IsRd w' b s (({ r with pos := r.pos + 2 } : Rd).grow 1 r.pos) ∧ w.grownBy w' (some b) := by
  have z0 : wd noneP 0 = 0 := wd_none 0
  have z1 : wd noneP 1 = 0 := wd_none 1
  have z2 : wd noneP 2 = 0 := wd_none 2
  have z3 : wd noneP 3 = 0 := wd_none 3
  simp only [leafV, z0, z1, z2, z3, Int.ofNat_zero]
  clear z0 z1 z2 z3
  have hlt := h.lt
  have h0 : IsRd (W9 w) b s r := h.below (W9_below w) hlt
  obtain ⟨c0, f0⟩ := h0.cell 0 _ rfl
  obtain ⟨c1, f1⟩ := h0.cell 1 _ rfl
  have h1 : IsRd ((W9 w).setCell ⟨b, 1, none⟩ (.int .i64 ((r.pos : Int) + 2))) b s ({ r with pos := r.pos + 2 } : Rd) := IsRd.put h0 1 _ (by simp [Rd.cells])
  obtain ⟨c01, f01⟩ := h1.cell 0 _ rfl
  have hcell : ∀ k, 1 ≤ k → k ≤ 9 → (({ r with pos := r.pos + 2 } : Rd).cells s)[5 + k]? = some (.bool (r.shut k)) := by
    intro k h1 h2
    obtain rfl | rfl | rfl | rfl | rfl | rfl | rfl | rfl | rfl : k = 1 ∨ k = 2 ∨ k = 3 ∨ k = 4 ∨ k = 5 ∨ k = 6 ∨ k = 7 ∨ k = 8 ∨ k = 9 := by omega
    all_goals rfl
  obtain ⟨ck, fk⟩ := h1.cell _ _ (hcell (s[r.pos + 1].toNat - 48) (by omega) (by omega))
  rw [hsh] at ck
  clear hcell
  have m1 : IntKind.u8.wrap ((s[r.pos + 1].toNat : Int) - 48) = (s[r.pos + 1].toNat : Int) - 48 := by rw [IntKind.wrap_u8]; omega
  have m2 : (0 : Int) ≤ (s[r.pos + 1].toNat : Int) - 48 := by omega
  have m3 : (s[r.pos + 1].toNat : Int) - 48 < 10 := by omega
  have m4 : ((s[r.pos + 1].toNat : Int) - 48).toNat = s[r.pos + 1].toNat - 48 := by omega
  have hz1 : Blk9 ((W9 w).setCell ⟨b, 1, none⟩ (.int .i64 ((r.pos : Int) + 2))) w.heap.size zero9 := (Blk9.new w).grown (grown_put _ b 1 _) (by omega)
  have hG1 := grown_trans (grown_below (W9_below w) (some b)) (grown_put (W9 w) b 1 (.int .i64 ((r.pos : Int) + 2)))
  have hg := grown_any s ({ r with pos := r.pos + 2 } : Rd) b 1 r.pos (by omega) hz _ h1
  have HH := hideT (And.intro hz1 (And.intro hg hG1))
  have HLT := hideT hlt
  have HZ := hideT hz
  have HE := hideT hne
  have q0 : (49 ≤ (s[r.pos + 1].toNat : Int)) = True := eq_true (by omega)
  have q1 : (97 ≤ (s[r.pos + 1].toNat : Int)) = False := eq_false (by omega)
  have q2 : (65 ≤ (s[r.pos + 1].toNat : Int)) = False := eq_false (by omega)
  have t0 : ((s[r.pos + 1].toNat : Int) ≤ 57) = True := eq_true (by omega)
  have t1 : ((s[r.pos + 1].toNat : Int) ≤ 122) = True := eq_true (by omega)
  have t2 : ((s[r.pos + 1].toNat : Int) ≤ 90) = True := eq_true (by omega)
  have u0 : ((s[r.pos + 1].toNat : Int) == 110) = false := by rw [beq_eq_false_iff_ne]; exact hne
  have u1 : ((s[r.pos + 1].toNat : Int) == 48) = false := by rw [beq_eq_false_iff_ne]; omega
  clear h h0 h1 hg hG1 hz1 hlt hz hne
  unfold W9 at c0 f0 c1 f1 c01 f01 ck fk HH
  have k1 : IntKind.i64.wrap ((r.pos : Int) + 1) = (r.pos : Int) + 1 := by rw [IntKind.wrap_i64]; omega
  have k2 : IntKind.i64.wrap ((r.pos : Int) + 2) = (r.pos : Int) + 2 := by rw [IntKind.wrap_i64]; omega
  have k3 : (((r.pos : Int) + 1) == (s.size : Int)) = false := by rw [beq_eq_false_iff_ne]; omega
  have k4 : (0 : Int) ≤ (r.pos : Int) + 1 := by omega
  have k5 : (r.pos : Int) + 1 < (s.size : Int) := by omega
  have k6 : ((r.pos : Int) + 1).toNat = r.pos + 1 := by omega
  go_enter Try.func48, Try.ntmps48
  go_wp2_with fail
  refine HH.out.2.1.mono ?_
  rintro e' w1 ⟨⟨v, rfl⟩, hI1, hgr1⟩
  have hz1 := HH.out.1.grown hgr1 (by have := HLT.out; omega)
  have hG2 := grown_trans HH.out.2.2 hgr1
  clear HH c0 f0 c1 f1 c01 f01 ck fk
  have hz2 := hz1
  have HF := hideT (And.intro hI1 hG2)
  clear hI1 hG2 hgr1 hz1
  obtain ⟨d0, g0⟩ := hz2.cell 0 _ rfl
  obtain ⟨d1, g1⟩ := hz2.cell 1 _ rfl
  obtain ⟨d2, g2⟩ := hz2.cell 2 _ rfl
  obtain ⟨d3, g3⟩ := hz2.cell 3 _ rfl
  obtain ⟨d4, g4⟩ := hz2.cell 4 _ rfl
  obtain ⟨d5, g5⟩ := hz2.cell 5 _ rfl
  obtain ⟨d6, g6⟩ := hz2.cell 6 _ rfl
  obtain ⟨d7, g7⟩ := hz2.cell 7 _ rfl
  obtain ⟨d8, g8⟩ := hz2.cell 8 _ rfl
  clear hz2
  go_wp2
  exact bodyPost_ret (v := .agg #[.int .i64 6, .int .u64 0, .int .u64 0, .int .u64 0, .int .u64 0, .int .i64 0, .int .i64 0, .int .i64 ((s[r.pos + 1].toNat : Int) - 48), .slice none 0 0]) (by simp [results, Try.results48, go_sem, d0, d1, d2, d3, d4, d5, d6, d7, d8]) rfl ⟨rfl, HF.out.1.below (below9 (Below.refl _ _) (Nat.le_refl _) _ _ _ _ _ _ _ _ _) HLT.out, grown_then HF.out.2 (below9 (Below.refl _ _) (Nat.le_refl _) _ _ _ _ _ _ _ _ _)⟩
set_option maxRecDepth 100000 in
set_option maxHeartbeats 1000000 in
theorem docEsc_i (s : ByteArray) (hs : s.size ≤ 1073741824) (r : Rd) (hr : r.pos + 1 < s.size) (hz : 0 ≤ r.size ∧ r.size ≤ 1000000000) (b : Nat) (w : World) (h : IsRd w b s r) (hlo : 49 ≤ (s[r.pos + 1].toNat : Int)) (hhi : (s[r.pos + 1].toNat : Int) ≤ 57) (hsh : r.shut (s[r.pos + 1].toNat - 48) = false) (hne : (s[r.pos + 1].toNat : Int) ≠ 110) :
    Calls Try.prog 48 #[.pointer (some ⟨b, 0, none⟩)] w fun x w' => x = .returned (leafV 6 noneP ((s[r.pos + 1].toNat : Int) - 48)) ∧ IsRd w' b s ((({ r with pos := r.pos + 2 } : Rd).failed 11 r.pos).grow 1 r.pos) ∧ w.grownBy w' (some b) := by
  have z0 : wd noneP 0 = 0 := wd_none 0
  have z1 : wd noneP 1 = 0 := wd_none 1
  have z2 : wd noneP 2 = 0 := wd_none 2
  have z3 : wd noneP 3 = 0 := wd_none 3
  simp only [leafV, z0, z1, z2, z3, Int.ofNat_zero]
  clear z0 z1 z2 z3
  have hlt := h.lt
  have h0 : IsRd (W9 w) b s r := h.below (W9_below w) hlt
  obtain ⟨c0, f0⟩ := h0.cell 0 _ rfl
  obtain ⟨c1, f1⟩ := h0.cell 1 _ rfl
  have h1 : IsRd ((W9 w).setCell ⟨b, 1, none⟩ (.int .i64 ((r.pos : Int) + 2))) b s ({ r with pos := r.pos + 2 } : Rd) := IsRd.put h0 1 _ (by simp [Rd.cells])
  obtain ⟨c01, f01⟩ := h1.cell 0 _ rfl
  have hcell : ∀ k, 1 ≤ k → k ≤ 9 → (({ r with pos := r.pos + 2 } : Rd).cells s)[5 + k]? = some (.bool (r.shut k)) := by
    intro k h1 h2
    obtain rfl | rfl | rfl | rfl | rfl | rfl | rfl | rfl | rfl : k = 1 ∨ k = 2 ∨ k = 3 ∨ k = 4 ∨ k = 5 ∨ k = 6 ∨ k = 7 ∨ k = 8 ∨ k = 9 := by omega
    all_goals rfl
  obtain ⟨ck, fk⟩ := h1.cell _ _ (hcell (s[r.pos + 1].toNat - 48) (by omega) (by omega))
  rw [hsh] at ck
  clear hcell
  have m1 : IntKind.u8.wrap ((s[r.pos + 1].toNat : Int) - 48) = (s[r.pos + 1].toNat : Int) - 48 := by rw [IntKind.wrap_u8]; omega
  have m2 : (0 : Int) ≤ (s[r.pos + 1].toNat : Int) - 48 := by omega
  have m3 : (s[r.pos + 1].toNat : Int) - 48 < 10 := by omega
  have m4 : ((s[r.pos + 1].toNat : Int) - 48).toNat = s[r.pos + 1].toNat - 48 := by omega
  have hz1 : Blk9 ((W9 w).setCell ⟨b, 1, none⟩ (.int .i64 ((r.pos : Int) + 2))) w.heap.size zero9 := (Blk9.new w).grown (grown_put _ b 1 _) (by omega)
  have hG1 := grown_trans (grown_below (W9_below w) (some b)) (grown_put (W9 w) b 1 (.int .i64 ((r.pos : Int) + 2)))
  have hg := fail_any s ({ r with pos := r.pos + 2 } : Rd) b 11 r.pos _ h1
  have HH := hideT (And.intro hz1 (And.intro hg hG1))
  have HLT := hideT hlt
  have HZ := hideT hz
  have HE := hideT hne
  have q0 : (49 ≤ (s[r.pos + 1].toNat : Int)) = True := eq_true (by omega)
  have q1 : (97 ≤ (s[r.pos + 1].toNat : Int)) = False := eq_false (by omega)
  have q2 : (65 ≤ (s[r.pos + 1].toNat : Int)) = False := eq_false (by omega)
  have t0 : ((s[r.pos + 1].toNat : Int) ≤ 57) = True := eq_true (by omega)
  have t1 : ((s[r.pos + 1].toNat : Int) ≤ 122) = True := eq_true (by omega)
  have t2 : ((s[r.pos + 1].toNat : Int) ≤ 90) = True := eq_true (by omega)
  have u0 : ((s[r.pos + 1].toNat : Int) == 110) = false := by rw [beq_eq_false_iff_ne]; exact hne
  have u1 : ((s[r.pos + 1].toNat : Int) == 48) = false := by rw [beq_eq_false_iff_ne]; omega
  clear h h0 h1 hg hG1 hz1 hlt hz hne
  unfold W9 at c0 f0 c1 f1 c01 f01 ck fk HH
  have k1 : IntKind.i64.wrap ((r.pos : Int) + 1) = (r.pos : Int) + 1 := by rw [IntKind.wrap_i64]; omega
  have k2 : IntKind.i64.wrap ((r.pos : Int) + 2) = (r.pos : Int) + 2 := by rw [IntKind.wrap_i64]; omega
  have k3 : (((r.pos : Int) + 1) == (s.size : Int)) = false := by rw [beq_eq_false_iff_ne]; omega
  have k4 : (0 : Int) ≤ (r.pos : Int) + 1 := by omega
  have k5 : (r.pos : Int) + 1 < (s.size : Int) := by omega
  have k6 : ((r.pos : Int) + 1).toNat = r.pos + 1 := by omega
  go_enter Try.func48, Try.ntmps48
  go_wp2_with fail
  refine HH.out.2.1.mono ?_
  rintro e' w1 ⟨⟨v, rfl⟩, hI1, hgr1⟩
  have hz1 := HH.out.1.grown hgr1 (by have := HLT.out; omega)
  have hG2 := grown_trans HH.out.2.2 hgr1
  clear HH c0 f0 c1 f1 c01 f01 ck fk
  have hI1' : IsRd w1 b s (({ r with pos := r.pos + 2 } : Rd).failed 11 r.pos) := hI1
  have hg2 := grown_any s (({ r with pos := r.pos + 2 } : Rd).failed 11 r.pos) b 1 r.pos (by omega) (by have := HZ.out; unfold Rd.failed; split <;> exact this) _ hI1'
  have H2 := hideT (And.intro hg2 (And.intro hz1 hG2))
  clear hI1 hI1' hg2 hz1 hG2 hgr1
  go_wp2_with fail
  refine H2.out.1.mono ?_
  rintro e' w1' ⟨⟨v, rfl⟩, hI1, hgr1⟩
  have hz1 := H2.out.2.1.grown hgr1 (by have := HLT.out; omega)
  have hG2 := grown_trans H2.out.2.2 hgr1
  clear H2
  have hz2 := hz1
  have HF := hideT (And.intro hI1 hG2)
  clear hI1 hG2 hgr1 hz1
  obtain ⟨d0, g0⟩ := hz2.cell 0 _ rfl
  obtain ⟨d1, g1⟩ := hz2.cell 1 _ rfl
  obtain ⟨d2, g2⟩ := hz2.cell 2 _ rfl
  obtain ⟨d3, g3⟩ := hz2.cell 3 _ rfl
  obtain ⟨d4, g4⟩ := hz2.cell 4 _ rfl
  obtain ⟨d5, g5⟩ := hz2.cell 5 _ rfl
  obtain ⟨d6, g6⟩ := hz2.cell 6 _ rfl
  obtain ⟨d7, g7⟩ := hz2.cell 7 _ rfl
  obtain ⟨d8, g8⟩ := hz2.cell 8 _ rfl
  clear hz2
  go_wp2
  exact bodyPost_ret (v := .agg #[.int .i64 6, .int .u64 0, .int .u64 0, .int .u64 0, .int .u64 0, .int .i64 0, .int .i64 0, .int .i64 ((s[r.pos + 1].toNat : Int) - 48), .slice none 0 0]) (by simp [results, Try.results48, go_sem, d0, d1, d2, d3, d4, d5, d6, d7, d8]) rfl ⟨rfl, HF.out.1.below (below9 (Below.refl _ _) (Nat.le_refl _) _ _ _ _ _ _ _ _ _) HLT.out, grown_then HF.out.2 (below9 (Below.refl _ _) (Nat.le_refl _) _ _ _ _ _ _ _ _ _)⟩
end Go.Proofs.Ytgpciekpmdihnaa
/- bre: the document's reader: escape, whole. -/
namespace Go.Proofs.Ytgpciekpmdihnaa
open Go.RowKit
def escR (s : ByteArray) (r : Rd) : Rd × Int × (Nat → Bool) × Int :=
  if r.pos + 1 = s.size then (r.failed 6 r.pos, 0, noneP, 0)
  else if byteAt s (r.pos + 1) = 110 then (({ r with pos := r.pos + 2 } : Rd).grow 1 r.pos, 1, selfP 10, 0)
  else if 49 ≤ byteAt s (r.pos + 1) ∧ byteAt s (r.pos + 1) ≤ 57 then
    ((if r.shut ((byteAt s (r.pos + 1)).toNat - 48) then ({ r with pos := r.pos + 2 } : Rd) else ({ r with pos := r.pos + 2 } : Rd).failed 11 r.pos).grow 1 r.pos, 6, noneP, byteAt s (r.pos + 1) - 48)
  else if byteAt s (r.pos + 1) = 48 ∨ letB (byteAt s (r.pos + 1)) = true then ((({ r with pos := r.pos + 2 } : Rd).failed 12 r.pos).grow 1 r.pos, 1, selfP (byteAt s (r.pos + 1)).toNat, 0)
  else (({ r with pos := r.pos + 2 } : Rd).grow 1 r.pos, 1, selfP (byteAt s (r.pos + 1)).toNat, 0)
theorem docEsc_any (s : ByteArray) (hs : s.size ≤ 1073741824) (r : Rd) (hr : r.pos < s.size) (hz : 0 ≤ r.size ∧ r.size ≤ 1000000000) (b : Nat) (w : World) (h : IsRd w b s r) :
    Calls Try.prog 48 #[.pointer (some ⟨b, 0, none⟩)] w fun x w' => x = .returned (leafV (escR s r).2.1 (escR s r).2.2.1 (escR s r).2.2.2) ∧ IsRd w' b s (escR s r).1 ∧ w.grownBy w' (some b) := by
  unfold escR
  by_cases he : r.pos + 1 = s.size
  · rw [if_pos he]; exact docEsc_end s hs r he b w h
  · rw [if_neg he]
    have hlt : r.pos + 1 < s.size := by omega
    rw [byteAt_in hlt]
    have h255 := s[r.pos + 1].toNat_lt
    by_cases hn : (s[r.pos + 1].toNat : Int) = 110
    · rw [if_pos hn]; exact docEsc_n s hs r hlt hz b w h hn
    · rw [if_neg hn, Int.toNat_natCast]
      by_cases hd : 49 ≤ (s[r.pos + 1].toNat : Int) ∧ (s[r.pos + 1].toNat : Int) ≤ 57
      · rw [if_pos hd]
        cases hsh : r.shut (s[r.pos + 1].toNat - 48) with
        | true => exact docEsc_h s hs r hlt hz b w h hd.1 hd.2 hsh hn
        | false => exact docEsc_i s hs r hlt hz b w h hd.1 hd.2 hsh hn
      · rw [if_neg hd]
        by_cases hf : (s[r.pos + 1].toNat : Int) = 48 ∨ letB (s[r.pos + 1].toNat : Int) = true
        · rw [if_pos hf]
          rcases hf with hf | hf
          · exact docEsc_e s hs r hlt hz b w h (by omega) (by omega) hn
          · simp only [letB, Bool.or_eq_true, Bool.and_eq_true, decide_eq_true_eq] at hf
            rcases hf with hf | hf
            · exact docEsc_g s hs r hlt hz b w h hf.1 hf.2 hn
            · exact docEsc_f s hs r hlt hz b w h hf.1 hf.2 hn
        · rw [if_neg hf]
          simp only [letB, Bool.or_eq_true, Bool.and_eq_true, decide_eq_true_eq] at hf
          by_cases a1 : (s[r.pos + 1].toNat : Int) ≤ 47
          · exact docEsc_a s hs r hlt hz b w h (by omega) a1 hn
          · by_cases a2 : (s[r.pos + 1].toNat : Int) ≤ 64
            · exact docEsc_b s hs r hlt hz b w h (by omega) a2 hn
            · by_cases a3 : (s[r.pos + 1].toNat : Int) ≤ 96
              · exact docEsc_c s hs r hlt hz b w h (by omega) a3 hn
              · exact docEsc_d s hs r hlt hz b w h (by omega) (by omega) hn
end Go.Proofs.Ytgpciekpmdihnaa
