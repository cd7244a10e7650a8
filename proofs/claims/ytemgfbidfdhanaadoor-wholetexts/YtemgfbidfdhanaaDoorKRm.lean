/- bre: the interval: the program's token and the document's reading, joined. -/
import Derived.Test.YtemgfbidfdhanaaDoorKTkd
import Derived.Test.YtemgfbidfdhanaaDoorKRe
import Derived.Test.YtemgfbidfdhanaaDoorKQf
namespace Go.Proofs.YtemgfbidfdhanaaDoor

/-- The token that the document's reading comes to. -/
def ivTok (s : ByteArray) (i : Nat) : Tk :=
  if (ivAt s (i + 2)).2.2.2 then ⟨7, i, (ivAt s (i + 2)).1, 0, noneP, 0, (ivAt s (i + 2)).2.1, (ivAt s (i + 2)).2.2.1⟩ else faultT 9 i

theorem at_drop {s : ByteArray} {p : Nat} {a r : List UInt8} (hp : p ≤ s.size) (hl : s.data.toList.drop p = a ++ r) : p + a.length ≤ s.size ∧ s.data.toList.drop (p + a.length) = r := by
  constructor
  · have := congrArg List.length hl
    rw [List.length_drop, List.length_append] at this
    have h3 : s.data.toList.length = s.size := by simp
    omega
  · rw [← List.drop_drop, hl, List.drop_left]

def numD (a : List UInt8) : Int := if a.isEmpty then -1 else (numN a : Int)

theorem dgAt_app {s : ByteArray} {p : Nat} {a r : List UInt8} {c : UInt8} (hp : p ≤ s.size) (hl : s.data.toList.drop p = a ++ c :: r) (ha : digs a = true) (hc : digB c.toNat = false) : dgAt s p = (p + a.length, numD a) := by
  rw [dgAt_lead s p hp, hl, lead_app a r c ha hc]; rfl

theorem join_one {s : ByteArray} {i : Nat} {a r : List UInt8} (hp : i + 2 ≤ s.size) (hl : s.data.toList.drop (i + 2) = a ++ ([92, 125] ++ r)) (ha : digs a = true) : intervalT s i = ivTok s i := by
  have hA := dgAt_app hp hl ha rfl
  obtain ⟨h1, h2⟩ := at_drop hp hl
  have hS : seeB s ⟨#[44]⟩ (i + 2 + a.length) = false := by rw [seeB_pre _ _ _ h1, h2]; rfl
  have hE : seeB s ⟨#[92, 125]⟩ (i + 2 + a.length) = true := by rw [seeB_pre _ _ _ h1, h2]; rfl
  have hH : ivHi s (i + 2 + a.length) (numD a) = (i + 2 + a.length, numD a) := by rw [ivHi, hS]; rfl
  have hle := numN_le a
  have hP : intervalT s i = ivlT i a true := by unfold intervalT; rw [hl, cut_app a r 92 [125] (digs_ne ha 92 rfl)]
  have hC : Lib.cut a [44] = (a, [], false) := cut_no a 44 [] (digs_ne ha 44 rfl)
  rw [hP]
  unfold ivlT ivTok
  simp only [hC, upper, numS, ha, if_true]
  by_cases hg : (!a.isEmpty && decide (numN a ≤ 255)) = true
  · have he : a.isEmpty = false := by simp at hg; simp [hg.1]
    have hn : numN a ≤ 255 := by simp at hg; exact hg.2
    have hd : numD a = (numN a : Int) := by rw [numD, he]; rfl
    have hok := iv_ok hA hH (by rw [hE, hd]; simp [ivBad]; omega)
    rw [hok, hg, hd]
    simp
    omega
  · have hbad := iv_bad hA hH (by
      rw [hE]
      by_cases he : a.isEmpty = true
      · rw [numD, he]; rfl
      · have hd : numD a = (numN a : Int) := by rw [numD, if_neg he]
        simp [he] at hg
        rw [hd]; simp [ivBad]; omega)
    rw [hbad]
    simp only [Bool.not_eq_true] at hg
    simp [hg]
end Go.Proofs.YtemgfbidfdhanaaDoor

/- bre: the interval, joined: two numbers; neither form. -/
namespace Go.Proofs.YtemgfbidfdhanaaDoor

theorem see_pre {s sub : ByteArray} {p : Nat} (hp : p ≤ s.size) (h : seeB s sub p = true) : ∃ r, s.data.toList.drop p = sub.data.toList ++ r := by
  rw [seeB_pre _ _ _ hp, List.isPrefixOf_iff_prefix] at h
  obtain ⟨r, hr⟩ := h
  exact ⟨r, hr.symm⟩

theorem join_two {s : ByteArray} {i : Nat} {a d r : List UInt8} (hp : i + 2 ≤ s.size) (hl : s.data.toList.drop (i + 2) = a ++ ([44] ++ (d ++ ([92, 125] ++ r)))) (ha : digs a = true) (hdd : digs d = true) : intervalT s i = ivTok s i := by
  have hA := dgAt_app hp hl ha rfl
  obtain ⟨h1, h2⟩ := at_drop hp hl
  have hS : seeB s ⟨#[44]⟩ (i + 2 + a.length) = true := by rw [seeB_pre _ _ _ h1, h2]; rfl
  obtain ⟨h3, h4⟩ := at_drop h1 h2
  have hD := dgAt_app h3 h4 hdd rfl
  obtain ⟨h5, h6⟩ := at_drop h3 h4
  have hE : seeB s ⟨#[92, 125]⟩ (i + 2 + a.length + 1 + d.length) = true := by
    have h5' : i + 2 + a.length + 1 + d.length ≤ s.size := h5
    have h6' : s.data.toList.drop (i + 2 + a.length + 1 + d.length) = _ := h6
    rw [seeB_pre _ _ _ h5', h6']; rfl
  have hH : ivHi s (i + 2 + a.length) (numD a) = (i + 2 + a.length + 1 + d.length, numD d) := by rw [ivHi, hS]; exact hD
  have hle := numN_le a
  have hle2 := numN_le d
  have hne : ∀ b ∈ a ++ ([44] ++ d), b ≠ 92 := by
    intro b hb
    simp only [List.mem_append, List.mem_singleton] at hb
    rcases hb with hb | hb | hb
    · exact digs_ne ha 92 rfl b hb
    · subst hb; decide
    · exact digs_ne hdd 92 rfl b hb
  have hP : intervalT s i = ivlT i (a ++ ([44] ++ d)) true := by
    unfold intervalT
    rw [hl, show a ++ ([44] ++ (d ++ ([92, 125] ++ r))) = (a ++ ([44] ++ d)) ++ (92 :: [125] ++ r) by simp, cut_app _ r 92 [125] hne]
  have hC : Lib.cut (a ++ ([44] ++ d)) [44] = (a, d, true) := cut_app a d 44 [] (digs_ne ha 44 rfl)
  rw [hP]
  unfold ivlT ivTok
  simp only [hC, upper, numS, ha, hdd, if_true]
  by_cases hg : (!a.isEmpty && decide (numN a ≤ 255)) = true
  · have he : a.isEmpty = false := by simp at hg; simp [hg.1]
    have hn : numN a ≤ 255 := by simp at hg; exact hg.2
    have hd : numD a = (numN a : Int) := by rw [numD, he]; rfl
    rw [hg]
    by_cases hde : d.isEmpty = true
    · have hd2 : numD d = -1 := by rw [numD, hde]; rfl
      have hok := iv_ok hA hH (by rw [hE, hd, hd2]; simp [ivBad]; omega)
      rw [hok, hd, hd2, if_pos hde]
      simp
      omega
    · rw [if_neg hde]
      have hd2 : numD d = (numN d : Int) := by rw [numD, if_neg hde]
      have hde' : d.isEmpty = false := by simpa using hde
      by_cases hk : numN d ≤ 255 ∧ numN a ≤ numN d
      · have hok := iv_ok hA hH (by rw [hE, hd, hd2]; simp [ivBad]; omega)
        rw [hok, hd, hd2]
        simp [hde', hk.1, hk.2]
        omega
      · have hbad := iv_bad hA hH (by rw [hE, hd, hd2]; simp [ivBad]; omega)
        rw [hbad]
        have : (decide (numN d ≤ 255) && decide (numN a ≤ numN d)) = false := by simp; omega
        rw [Bool.and_assoc, Bool.and_assoc, this]
        simp
  · have hbad := iv_bad hA hH (by
      rw [hE]
      by_cases he : a.isEmpty = true
      · rw [numD, he]; rfl
      · have hd : numD a = (numN a : Int) := by rw [numD, if_neg he]
        simp [he] at hg
        rw [hd]; simp [ivBad]; omega)
    rw [hbad]
    simp only [Bool.not_eq_true] at hg
    rw [hg]
    by_cases hde : d.isEmpty = true
    · rw [if_pos hde]; rfl
    · rw [if_neg hde]; rfl

theorem join_none {s : ByteArray} {i : Nat} (hp : i + 2 ≤ s.size)
    (n1 : ∀ a r, s.data.toList.drop (i + 2) = a ++ ([92, 125] ++ r) → digs a = false)
    (n2 : ∀ a d r, s.data.toList.drop (i + 2) = a ++ ([44] ++ (d ++ ([92, 125] ++ r))) → digs a = true → digs d = false) : intervalT s i = ivTok s i := by
  have hdoc : ivTok s i = faultT 9 i := by
    have hA := dgAt_lead s (i + 2) hp
    have hl := (lead_pre (s.data.toList.drop (i + 2))).symm
    have hdl := digs_lead (s.data.toList.drop (i + 2))
    generalize lead (s.data.toList.drop (i + 2)) = a at *
    obtain ⟨h1, h2⟩ := at_drop hp hl
    generalize (s.data.toList.drop (i + 2)).drop a.length = r1 at *
    have hfin : ∀ p2 hi, ivHi s (i + 2 + a.length) (numD a) = (p2, hi) → seeB s ⟨#[92, 125]⟩ p2 = false → ivTok s i = faultT 9 i := by
      intro p2 hi hH hE
      have hbad := iv_bad hA hH (by rw [hE]; simp)
      unfold ivTok; rw [hbad]; rfl
    cases hS : seeB s ⟨#[44]⟩ (i + 2 + a.length) with
    | false =>
      refine hfin (i + 2 + a.length) (numD a) (by rw [ivHi, hS]; rfl) ?_
      cases hE : seeB s ⟨#[92, 125]⟩ (i + 2 + a.length) with
      | false => rfl
      | true =>
        obtain ⟨r, hr⟩ := see_pre h1 hE
        have := n1 a r (by rw [hl, ← h2, hr])
        rw [hdl] at this; cases this
    | true =>
      obtain ⟨r2, hr2⟩ := see_pre h1 hS
      obtain ⟨h3, h4⟩ := at_drop h1 hr2
      have h3' : i + 2 + a.length + 1 ≤ s.size := h3
      have h4' : s.data.toList.drop (i + 2 + a.length + 1) = r2 := h4
      have hD := dgAt_lead s (i + 2 + a.length + 1) h3'
      rw [h4'] at hD
      have hl2 := (lead_pre r2).symm
      have hdl2 := digs_lead r2
      generalize lead r2 = d at *
      obtain ⟨h5, h6⟩ := at_drop h3' (h4'.trans hl2)
      refine hfin (i + 2 + a.length + 1 + d.length) (numD d) (by rw [ivHi, hS]; exact hD) ?_
      cases hE : seeB s ⟨#[92, 125]⟩ (i + 2 + a.length + 1 + d.length) with
      | false => rfl
      | true =>
        obtain ⟨r, hr⟩ := see_pre h5 hE
        have := n2 a d r (by rw [hl, ← h2, hr2, hl2, ← h6, hr]) hdl
        rw [hdl2] at this; cases this
  rw [hdoc]
  unfold intervalT
  generalize s.data.toList.drop (i + 2) = l at *
  cases hc : (Lib.cut l [92, 125]).2.2 with
  | false => unfold ivlT; simp
  | true =>
    have hf := cut_found l [92, 125] hc
    generalize (Lib.cut l [92, 125]).1 = inn at *
    generalize (Lib.cut l [92, 125]).2.1 = r at *
    have hu : (upper (Lib.cut inn [44]).2.2 (Lib.cut inn [44]).2.1 (numS (Lib.cut inn [44]).1)).2 = false := by
      cases h2 : (Lib.cut inn [44]).2.2 with
      | false =>
        rw [cut_missed inn [44] h2]
        have := n1 inn r hf
        simp [upper, numS, this]
      | true =>
        have hf2 := cut_found inn [44] h2
        generalize (Lib.cut inn [44]).1 = a at *
        generalize (Lib.cut inn [44]).2.1 = d at *
        cases ha : digs a with
        | false =>
          unfold upper
          by_cases hde : d.isEmpty = true
          · rw [if_pos rfl, if_pos hde]; simp [numS, ha]
          · rw [if_pos rfl, if_neg hde]; simp [numS, ha]
        | true =>
          have := n2 a d r (by rw [hf, hf2]; simp) ha
          have hde : ¬ d.isEmpty = true := by
            intro e; rw [List.isEmpty_iff] at e; subst e; cases this
          unfold upper
          rw [if_pos rfl, if_neg hde]; simp [numS, this]
    unfold ivlT
    simp only [hu]
    rfl

/-- **The interval: the program's token is the document's.** -/
theorem interval_join (s : ByteArray) (i : Nat) (hp : i + 2 ≤ s.size) : intervalT s i = ivTok s i := by
  by_cases h1 : ∃ a r, s.data.toList.drop (i + 2) = a ++ ([92, 125] ++ r) ∧ digs a = true
  · obtain ⟨a, r, hl, ha⟩ := h1; exact join_one hp hl ha
  · by_cases h2 : ∃ a d r, s.data.toList.drop (i + 2) = a ++ ([44] ++ (d ++ ([92, 125] ++ r))) ∧ digs a = true ∧ digs d = true
    · obtain ⟨a, d, r, hl, ha, hd⟩ := h2; exact join_two hp hl ha hd
    · refine join_none hp (fun a r hl => ?_) (fun a d r hl ha => ?_)
      · cases e : digs a with
        | false => rfl
        | true => exact absurd ⟨a, r, hl, e⟩ h1
      · cases e : digs d with
        | false => rfl
        | true => exact absurd ⟨a, d, r, hl, ha, e⟩ h2
end Go.Proofs.YtemgfbidfdhanaaDoor

/- bre: a node's nine cells; the document's reader: a part of one byte. -/
namespace Go.Proofs.YtemgfbidfdhanaaDoor
open Go.RowKit

/-- A node without kids: its kind, its set, its group. -/
abbrev leafV (k : Int) (q : Nat → Bool) (g : Int) : Value := .agg #[.int .i64 k, .int .u64 (wd q 0 : Nat), .int .u64 (wd q 1 : Nat), .int .u64 (wd q 2 : Nat), .int .u64 (wd q 3 : Nat), .int .i64 0, .int .i64 0, .int .i64 g, .slice none 0 0]

/-- A block of nine cells, cell by cell. -/
def Blk9 (W : World) (b : Nat) (vs : List Value) : Prop := vs.length = 9 ∧ W.heap[b]? = some (.cells vs.toArray 27 (0, 0))
def zero9 : List Value := [.int .i64 0, .int .u64 0, .int .u64 0, .int .u64 0, .int .u64 0, .int .i64 0, .int .i64 0, .int .i64 0, .slice none 0 0]

theorem Blk9.cell {W : World} {b : Nat} {vs : List Value} (h : Blk9 W b vs) (k : Nat) (v : Value) (hk : vs[k]? = some v) : W.cell? ⟨b, k, none⟩ = some v ∧ W.frozen? ⟨b, k, none⟩ = false := by
  have h2 := h.2
  exact ⟨by simp [World.cell?, h2, hk], by simp [World.frozen?, h2]⟩
theorem Blk9.new (w : World) : Blk9 (w.alloc (.cells #[.int .i64 0, .int .u64 0, .int .u64 0, .int .u64 0, .int .u64 0, .int .i64 0, .int .i64 0, .int .i64 0, .slice none 0 0] 27)) w.heap.size zero9 := ⟨rfl, heap_alloc_new w _⟩
theorem Blk9.below {W W' : World} {b : Nat} {vs : List Value} (h : Blk9 W b vs) {B : Nat} (hb : Below B W W') (hB : W.heap.size ≤ B) : Blk9 W' b vs := ⟨h.1, (hb.block b (Nat.lt_of_lt_of_le (Array.getElem?_eq_some_iff.1 h.2).1 hB)).trans h.2⟩

theorem below9 {B : Nat} {a w : World} (h : Below B a w) {b : Nat} (hb : B ≤ b) (v0 v1 v2 v3 v4 v5 v6 v7 v8 : Value) : Below B a (((((((((w.setCell ⟨b, 0, none⟩ v0).setCell ⟨b, 1, none⟩ v1).setCell ⟨b, 2, none⟩ v2).setCell ⟨b, 3, none⟩ v3).setCell ⟨b, 4, none⟩ v4).setCell ⟨b, 5, none⟩ v5).setCell ⟨b, 6, none⟩ v6).setCell ⟨b, 7, none⟩ v7).setCell ⟨b, 8, none⟩ v8) :=
  (((((((((h.setCell (p := ⟨b, 0, none⟩) hb _).setCell (p := ⟨b, 1, none⟩) hb _).setCell (p := ⟨b, 2, none⟩) hb _).setCell (p := ⟨b, 3, none⟩) hb _).setCell (p := ⟨b, 4, none⟩) hb _).setCell (p := ⟨b, 5, none⟩) hb _).setCell (p := ⟨b, 6, none⟩) hb _).setCell (p := ⟨b, 7, none⟩) hb _).setCell (p := ⟨b, 8, none⟩) hb _)

end Go.Proofs.YtemgfbidfdhanaaDoor

/- bre: the document's reader: escape, at an n; how blocks last. -/
namespace Go.Proofs.YtemgfbidfdhanaaDoor
open Go.RowKit

theorem grown_below {A B : World} (h : Below A.heap.size A B) (o : Option Nat) : A.grownBy B o := ⟨h.os, h.tape, h.output, h.size, fun j hj _ => h.block j hj⟩
theorem grown_then {A B C : World} {o : Option Nat} (g : A.grownBy B o) (k : Below A.heap.size B C) : A.grownBy C o :=
  ⟨k.os.trans g.os, k.tape.trans g.tape, k.output.trans g.output, Nat.le_trans g.size k.size, fun j hj hr => (k.block j hj).trans (g.block j hj hr)⟩
theorem Blk9.grown {W W' : World} {b c : Nat} {vs : List Value} (h : Blk9 W c vs) (g : W.grownBy W' (some b)) (hne : c ≠ b) : Blk9 W' c vs :=
  ⟨h.1, (g.block c (Array.getElem?_eq_some_iff.1 h.2).1 (fun e => hne (by injection e))).trans h.2⟩
theorem IsRd.below {W W' : World} {b B : Nat} {s : ByteArray} {r : Rd} (h : IsRd W b s r) (k : Below B W W') (hb : b < B) : IsRd W' b s r := (k.block b hb).trans h

/-- The world with a node for the answer. -/
def W9 (w : World) : World := w.alloc (.cells #[.int .i64 0, .int .u64 0, .int .u64 0, .int .u64 0, .int .u64 0, .int .i64 0, .int .i64 0, .int .i64 0, .slice none 0 0] 27)
theorem W9_below (w : World) : Below w.heap.size w (W9 w) := (Below.refl _ _).alloc (Nat.le_refl _) _

end Go.Proofs.YtemgfbidfdhanaaDoor

/- bre: the document's reader: escape, at a byte that stands for itself or may not be escaped. -/
namespace Go.Proofs.YtemgfbidfdhanaaDoor
open Go.RowKit

end Go.Proofs.YtemgfbidfdhanaaDoor

/- bre: the document's reader: escape, at a byte that stands for itself or may not be escaped. -/
namespace Go.Proofs.YtemgfbidfdhanaaDoor
open Go.RowKit

end Go.Proofs.YtemgfbidfdhanaaDoor

/- bre: the document's reader: escape, at the end, at a digit. -/
namespace Go.Proofs.YtemgfbidfdhanaaDoor
open Go.RowKit

end Go.Proofs.YtemgfbidfdhanaaDoor

/- bre: the document's reader: escape, whole. -/
namespace Go.Proofs.YtemgfbidfdhanaaDoor
open Go.RowKit

/-- What escape answers and where it leaves the reader: the reader, the node's kind, set, group. -/
def escR (s : ByteArray) (r : Rd) : Rd × Int × (Nat → Bool) × Int :=
  if r.pos + 1 = s.size then (r.failed 6 r.pos, 0, noneP, 0)
  else if byteAt s (r.pos + 1) = 110 then (({ r with pos := r.pos + 2 } : Rd).grow 1 r.pos, 1, selfP 10, 0)
  else if 49 ≤ byteAt s (r.pos + 1) ∧ byteAt s (r.pos + 1) ≤ 57 then
    ((if r.shut ((byteAt s (r.pos + 1)).toNat - 48) then ({ r with pos := r.pos + 2 } : Rd) else ({ r with pos := r.pos + 2 } : Rd).failed 11 r.pos).grow 1 r.pos, 6, noneP, byteAt s (r.pos + 1) - 48)
  else if byteAt s (r.pos + 1) = 48 ∨ letB (byteAt s (r.pos + 1)) = true then ((({ r with pos := r.pos + 2 } : Rd).failed 12 r.pos).grow 1 r.pos, 1, selfP (byteAt s (r.pos + 1)).toNat, 0)
  else (({ r with pos := r.pos + 2 } : Rd).grow 1 r.pos, 1, selfP (byteAt s (r.pos + 1)).toNat, 0)

end Go.Proofs.YtemgfbidfdhanaaDoor

/- bre: the document's reader beside the parser: what both come to. -/
namespace Go.Proofs.YtemgfbidfdhanaaDoor
open Go.RowKit

theorem take_kind {s : ByteArray} {P : Ps} {i k : Nat} (hi : i < s.size) (h0 : (P.take (tokenT s i k)).1 = 0) : (tokenT s i k).kind ≠ 0 ∧ i < (tokenT s i k).to ∧ (tokenT s i k).to ≤ s.size := by
  have hta := tokAt_token s i k hi
  have hk : (tokenT s i k).kind ≠ 0 := fun e => by
    have h9 : (P.take (tokenT s i k)).1 = (tokenT s i k).e := by simp only [Ps.take, e]
    rw [h0] at h9
    exact hta.fault e h9.symm
  exact ⟨hk, hta.next hk⟩

theorem runT_far (s : ByteArray) (f i k : Nat) (P : Ps) (hi : s.size ≤ i) : runT s f i k P = .ok P := by
  cases f with
  | zero => rfl
  | succ f => rw [runT, if_neg (by omega)]

theorem runT_fuel (s : ByteArray) : ∀ (f g i k : Nat) (P : Ps), s.size + 1 - i ≤ f → s.size + 1 - i ≤ g → runT s f i k P = runT s g i k P
  | 0, g, i, k, P, h1, h2 => by rw [runT_far s 0 i k P (by omega), runT_far s g i k P (by omega)]
  | f + 1, 0, i, k, P, h1, h2 => by rw [runT_far s _ i k P (by omega), runT_far s 0 i k P (by omega)]
  | f + 1, g + 1, i, k, P, h1, h2 => by
    rw [runT, runT]
    by_cases hi : i < s.size
    · rw [if_pos hi, if_pos hi]
      by_cases h0 : (P.take (tokenT s i k)).1 = 0
      · rw [if_pos h0, if_pos h0]
        have := take_kind hi h0
        exact runT_fuel s f g _ _ _ (by omega) (by omega)
      · rw [if_neg h0, if_neg h0]
    · rw [if_neg hi, if_neg hi]

/-- The parser from a place on. -/
noncomputable def runA (s : ByteArray) (i k : Nat) (P : Ps) : Except (Int × Nat) Ps := runT s (s.size + 1 - i) i k P
/-- What is answered at the end. -/
def finT (x : Except (Int × Nat) Ps) : Except (Int × Nat) (List Tr) :=
  match x with
  | .error x => .error x
  | .ok P => if P.outer.length = 0 then .ok P.top.parts else .error (10, P.top.pos)

theorem parseT_run (s : ByteArray) (hs : s.size ≤ 512) : parseT s = finT (runA s 0 4 Ps.start) := by
  unfold parseT finT runA
  rw [if_neg (by omega)]
  rfl
theorem runA_end (s : ByteArray) (i k : Nat) (P : Ps) (h : s.size ≤ i) : runA s i k P = .ok P := runT_far s _ i k P h
theorem runA_step {s : ByteArray} {i k : Nat} {P : Ps} (hi : i < s.size) (h0 : (P.take (tokenT s i k)).1 = 0) : runA s i k P = runA s (tokenT s i k).to (tokenT s i k).kind (P.take (tokenT s i k)).2 := by
  have h1 := take_kind hi h0
  unfold runA
  rw [show s.size + 1 - i = (s.size - i) + 1 by omega, runT, if_pos hi, if_pos h0]
  exact runT_fuel s _ _ _ _ _ (by omega) (by omega)
theorem runA_err {s : ByteArray} {i k : Nat} {P : Ps} (hi : i < s.size) (h0 : (P.take (tokenT s i k)).1 ≠ 0) : runA s i k P = .error ((P.take (tokenT s i k)).1, i) := by
  unfold runA
  rw [show s.size + 1 - i = (s.size - i) + 1 by omega, runT, if_pos hi, if_neg h0]

/-- The reader r and the parser P have read the same. -/
structure Sim (s : ByteArray) (r : Rd) (P : Ps) (k : Nat) : Prop where
  e : r.e = 0
  g : r.groups = P.groups
  c : r.shut = P.shut
  z : r.size = P.size
  le : r.pos ≤ s.size
  well : Well P k r.pos
  one : k = 4 → P.top.parts = []

/-- The reader has a fault, and the parser comes to it. -/
structure Fails (s : ByteArray) (i k : Nat) (P : Ps) (r : Rd) : Prop where
  e : r.e ≠ 0
  run : finT (runA s i k P) = .error (r.e, r.place)

/-- Reader and parser have come on: the innermost level has these parts. -/
structure Goes (s : ByteArray) (i k : Nat) (P : Ps) (r' : Rd) (P' : Ps) (k' : Nat) (ts : List Tr) : Prop where
  sim : Sim s r' P' k'
  run : runA s i k P = runA s r'.pos k' P'
  outer : P'.outer = P.outer
  top : P'.top = { P.top with parts := ts }
  on : i ≤ r'.pos

theorem Fails.keep {s : ByteArray} {i k : Nat} {P : Ps} {r r' : Rd} (h : Fails s i k P r) (h1 : r'.e = r.e) (h2 : r'.place = r.place) : Fails s i k P r' := ⟨by rw [h1]; exact h.e, by rw [h1, h2]; exact h.run⟩
theorem Goes.fails {s : ByteArray} {i k k1 : Nat} {P P1 : Ps} {r1 r' : Rd} {ts : List Tr} (h : Goes s i k P r1 P1 k1 ts) (h2 : Fails s r1.pos k1 P1 r') : Fails s i k P r' := ⟨h2.e, by rw [h.run]; exact h2.run⟩
theorem Goes.trans {s : ByteArray} {i k k1 k2 : Nat} {P P1 P2 : Ps} {r1 r2 : Rd} {ts us : List Tr} (h : Goes s i k P r1 P1 k1 ts) (h2 : Goes s r1.pos k1 P1 r2 P2 k2 us) : Goes s i k P r2 P2 k2 us :=
  ⟨h2.sim, h.run.trans h2.run, h2.outer.trans h.outer, by rw [h2.top, h.top], Nat.le_trans h.on h2.on⟩
theorem Goes.start {s : ByteArray} {k : Nat} {P : Ps} {r : Rd} (h : Sim s r P k) : Goes s r.pos k P r P k P.top.parts := ⟨h, rfl, rfl, rfl, Nat.le_refl _⟩

theorem failed_e {r : Rd} (h : r.e = 0) (e : Int) (i : Nat) : (r.failed e i).e = e ∧ (r.failed e i).place = i := by
  unfold Rd.failed
  rw [if_pos h]
  exact ⟨rfl, rfl⟩

/-- A token that is a fault. -/
theorem fails_tok {s : ByteArray} {r r' : Rd} {P : Ps} {k : Nat} (hi : r.pos < s.size) (he : (P.take (tokenT s r.pos k)).1 ≠ 0) (h1 : r'.e = (P.take (tokenT s r.pos k)).1) (h2 : r'.place = r.pos) : Fails s r.pos k P r' :=
  ⟨by rw [h1]; exact he, by rw [runA_err hi he, h1, h2]; rfl⟩

/-- A token that is taken, within one level. -/
theorem goes_tok {s : ByteArray} (hs : s.size ≤ 512) {r r' : Rd} {P : Ps} {k : Nat} (h : Sim s r P k) (hi : r.pos < s.size) (h0 : (P.take (tokenT s r.pos k)).1 = 0) (h4 : (tokenT s r.pos k).kind ≠ 4) {ts : List Tr}
    (ho : (P.take (tokenT s r.pos k)).2.outer = P.outer) (ht : (P.take (tokenT s r.pos k)).2.top = { P.top with parts := ts })
    (e : r'.e = 0) (p : r'.pos = (tokenT s r.pos k).to) (g : r'.groups = (P.take (tokenT s r.pos k)).2.groups) (c : r'.shut = (P.take (tokenT s r.pos k)).2.shut) (z : r'.size = (P.take (tokenT s r.pos k)).2.size) :
    Goes s r.pos k P r' (P.take (tokenT s r.pos k)).2 (tokenT s r.pos k).kind ts := by
  obtain ⟨w1, w2, w3⟩ := well_take hi hs h.well h0
  exact ⟨⟨e, g, c, z, by rw [p]; exact w3, by rw [p]; exact w1, fun h9 => absurd h9 h4⟩, by rw [p]; exact runA_step hi h0, ho, ht, by rw [p]; omega⟩

theorem u8_eq (a c : UInt8) : (c == a) = decide ((a.toNat : Int) = (c.toNat : Int)) := by
  by_cases h : c = a
  · rw [h]; simp
  · have hn : ¬ ((a.toNat : Int) = (c.toNat : Int)) := fun e => h (UInt8.toNat_inj.1 (by omega))
    simp [h, hn]

theorem see1 (s : ByteArray) (c : UInt8) (p : Nat) : seeB s ⟨#[c]⟩ p = decide (p < s.size ∧ byteAt s p = c.toNat) := by
  by_cases h : p < s.size
  · rw [seeB_pre _ _ _ (by omega), drop_consB s p h, byteAt_in h]
    show (c == s[p] && true) = _
    rw [u8_eq]
    simp [h]
  · have : ¬ seeB s ⟨#[c]⟩ p = true := fun e => by have := see_lt e; have : p + 1 ≤ s.size := this; omega
    rw [Bool.not_eq_true] at this
    rw [this]
    simp [h]

theorem see2 (s : ByteArray) (c d : UInt8) (p : Nat) : seeB s ⟨#[c, d]⟩ p = decide (p + 1 < s.size ∧ byteAt s p = c.toNat ∧ byteAt s (p + 1) = d.toNat) := by
  by_cases h : p + 1 < s.size
  · have h0 : p < s.size := by omega
    rw [seeB_pre _ _ _ (by omega), drop_consB s p h0, drop_consB s (p + 1) h, byteAt_in h, byteAt_in h0]
    show (c == s[p] && (d == s[p + 1] && true)) = _
    rw [u8_eq, u8_eq]
    simp [h]
  · have : ¬ seeB s ⟨#[c, d]⟩ p = true := fun e => by have := see_lt e; have : p + 2 ≤ s.size := this; omega
    rw [Bool.not_eq_true] at this
    rw [this]
    simp [h]

/-- Where no repeat stands, a token hangs on what is ahead of it only at the beginning of a row. -/
theorem tok_same (s : ByteArray) (i k : Nat) (h4 : k ≠ 4) (hq : repB k = true → seeB s ⟨#[42]⟩ i = false ∧ seeB s ⟨#[92, 123]⟩ i = false) (hi : i < s.size) : tokenT s i k = tokenT s i 2 := by
  cases hk : repB k with
  | false =>
    have : k = 2 := by
      simp only [repB, Bool.and_eq_false_iff, Bool.not_eq_false', beq_iff_eq] at hk
      rcases hk with hk | hk
      · exact absurd hk h4
      · exact hk
    rw [this]
  | true =>
    obtain ⟨q1, q2⟩ := hq hk
    rw [see1] at q1
    rw [see2] at q2
    have q1' : ¬ byteAt s i = 42 := fun e => by simp [hi, e] at q1
    unfold tokenT
    split
    · rename_i h92
      unfold escapeT
      split
      · rfl
      · rename_i hl
        have q2' : ¬ byteAt s (i + 1) = 123 := fun e => by simp [show i + 1 < s.size by omega, h92, e] at q2
        have q3 : ¬ (byteAt s (i + 1)).toNat = 123 := fun e => q2' (by omega)
        simp only [escB, q3, false_and, false_or, if_false]
    · simp only [q1', h4, show ¬ (2 : Nat) = 4 by omega, false_and, and_false, if_false]
end Go.Proofs.YtemgfbidfdhanaaDoor
