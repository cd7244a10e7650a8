/- measure: what is known of a tree, and how the numbers lie to one another. -/
import Derived.Test.YtolpakpdkheanaaKQf
import Derived.Test.YtolpakpdkheanaaKMe
set_option maxRecDepth 100000
set_option maxHeartbeats 1000000
namespace Go.Proofs.Ytolpakpdkheanaa.br
open Go.RowKit
structure OkM (m : Ms) : Prop where
 least : 0 ≤ m.least
 pos : m.least ≤ m.pos
 most : -1 ≤ m.most
 top : m.most ≤ m.pos
 mid : 0 ≤ m.most → m.least ≤ m.most
theorem xcr : OkM .zero := ⟨by decide, by decide, by decide, by decide, by decide⟩
theorem xml {a m : Ms} (h : OkM a) (k : OkM m) : OkM (a.both m) := by
 obtain ⟨a1, a2, a3, a4, a5⟩ := h
 obtain ⟨m1, m2, m3, m4, m5⟩ := k
 have e : (a.both m).most = sumM a.most m.most := rfl
 refine ⟨?_, ?_, ?_, ?_, fun h0 => ?_⟩
 ·show 0 ≤ a.least + m.least; omega
 ·show a.least + m.least ≤ a.pos + m.pos; omega
 ·rw [e]; unfold sumM; split <;> omega
 ·rw [e]; show _ ≤ a.pos + m.pos; unfold sumM; split <;> omega
 ·rw [e] at h0 ⊢
  show a.least + m.least ≤ _
  unfold sumM at h0 ⊢
  split at h0
  ·omega
  ·rename_i h9
   rw [if_neg h9]
   have := a5 (by omega)
   have := m5 (by omega)
   omega
theorem okM_grp {m : Ms} (h : OkM m) : OkM m.grp := ⟨h.least, h.pos, h.most, h.top, h.mid⟩
theorem wrM_ge {lo hi : Int} (hl : 0 ≤ lo) (hh : hi = -1 ∨ lo ≤ hi) : lo ≤ wrM lo hi ∧ 0 ≤ wrM lo hi := by
 unfold wrM
 split <;> omega
theorem okM_rep {m : Ms} (h : OkM m) {lo hi : Int} (hl : 0 ≤ lo) (hh : hi = -1 ∨ lo ≤ hi) : OkM (m.rep lo hi) := by
 obtain ⟨m1, m2, m3, m4, m5⟩ := h
 obtain ⟨w1, w2⟩ := wrM_ge hl hh
 have e : (m.rep lo hi).most = xdh hi m.most := rfl
 have hp : 0 ≤ m.pos * wrM lo hi := Int.mul_nonneg (by omega) w2
 refine ⟨Int.mul_nonneg m1 hl, Int.mul_le_mul m2 w1 hl (by omega), ?_, ?_, fun h0 => ?_⟩
 ·rw [e]
  unfold xdh
  split
  ·omega
  ·split
   ·omega
   ·have : 0 ≤ hi * m.most := Int.mul_nonneg (by omega) (by omega)
    omega
 ·rw [e]
  show xdh hi m.most ≤ m.pos * wrM lo hi
  unfold xdh
  split
  ·exact hp
  ·split
   ·omega
   ·rename_i h1 h2
    have e2 : wrM lo hi = hi := by unfold wrM; rw [if_neg (by omega)]
    rw [e2, Int.mul_comm hi]
    exact Int.mul_le_mul_of_nonneg_right m4 (by omega)
 ·rw [e] at h0 ⊢
  show m.least * lo ≤ xdh hi m.most
  unfold xdh at h0 ⊢
  split
  ·rename_i h1
   rcases h1 with h1 | h1
   ·have : lo = 0 := by omega
    rw [this, Int.mul_zero]; exact Int.le_refl _
   ·have := m5 (by omega)
    have : m.least = 0 := by omega
    rw [this, Int.zero_mul]; exact Int.le_refl _
  ·rename_i h1
   rw [if_neg h1] at h0
   split at h0
   ·omega
   ·rename_i h2
    rw [if_neg h2, Int.mul_comm hi]
    have := m5 (by omega)
    exact Int.mul_le_mul this (by omega) hl (by omega)
theorem rep_pos {lo hi : Int} (hl : 0 ≤ lo) (hh : hi = -1 ∨ lo ≤ hi) (p : Int) : p * wrM lo hi = if 0 ≤ hi then p * hi else if 0 < lo then p * lo else p := by
 unfold wrM
 rcases hh with rfl | hh
 ·rw [if_pos rfl, if_neg (by omega)]
  by_cases h : 0 < lo
  ·rw [if_pos h, show max lo 1 = lo by omega]
  ·rw [if_neg h, show max lo 1 = 1 by omega, Int.mul_one]
 ·rw [if_neg (by omega), if_pos (by omega)]
mutual
theorem ms_ok : ∀ (t : Tr) (s s' : Sh), ShT t s s' → OkM (msT t) ∧ (msT t).pos = posT t ∧ (msT t).groups = (s'.1 : Int) - (s.1 : Int) ∧ s.1 ≤ s'.1 ∧ (s.1 ≤ 9 → s'.1 ≤ 9)
 | .mk k q lo hi g kids, s, s', h => by
  rcases h with ⟨rfl, _, _, _, _, h⟩ | ⟨hk, rfl, rfl, _, rfl, rfl⟩ | ⟨rfl, _, rfl, rfl, rfl, _, _, _, rfl⟩ | ⟨rfl, _, _, _, hg, hg9, _, s1, h, rfl⟩ | ⟨rfl, _, _, hlo, hhi, _, h⟩
  ·obtain ⟨h1, h2, h3, h4, h5⟩ := xmm kids .zero s s' xcr h
   have e : msT (.mk 0 q lo hi g kids) = msF .zero kids := by simp [msT]
   have e2 : posT (.mk 0 q lo hi g kids) = posL kids := by simp [posT]
   rw [e, e2]
   refine ⟨h1, ?_, ?_, h4, h5⟩
   ·rw [h2]; show 0 + posL kids = _; omega
   ·rw [h3]; show 0 + _ = _; omega
  ·rcases hk with rfl | ⟨rfl | rfl, _⟩
   ·refine ⟨?_, by simp [msT, posT], by simp [msT], Nat.le_refl _, id⟩
    simp only [msT]; exact ⟨by decide, by decide, by decide, by decide, by decide⟩
   ·refine ⟨?_, by simp [msT, posT, posL], by simp [msT], Nat.le_refl _, id⟩
    simp only [msT]; exact ⟨by decide, by decide, by decide, by decide, by decide⟩
   ·refine ⟨?_, by simp [msT, posT, posL], by simp [msT], Nat.le_refl _, id⟩
    simp only [msT]; exact ⟨by decide, by decide, by decide, by decide, by decide⟩
  ·refine ⟨?_, by simp [msT, posT], by simp [msT], Nat.le_refl _, id⟩
   simp only [msT]; exact ⟨by decide, by decide, by decide, by decide, by decide⟩
  ·obtain ⟨h1, h2, h3, h4, h5⟩ := xmm kids .zero _ s1 xcr h
   have e : msT (.mk 4 q lo hi g kids) = (msF .zero kids).grp := by simp [msT]
   have e2 : posT (.mk 4 q lo hi g kids) = posL kids := by simp [posT]
   rw [e, e2]
   have h4' : s.1 + 1 ≤ s1.1 := h4
   have h3' : (msF .zero kids).groups = 0 + ((s1.1 : Int) - ((s.1 + 1 : Nat) : Int)) := h3
   refine ⟨okM_grp h1, ?_, ?_, ?_, ?_⟩
   ·show (msF .zero kids).pos = _; rw [h2]; show 0 + posL kids = _; omega
   ·show (msF .zero kids).groups + 1 = (s1.1 : Int) - (s.1 : Int); rw [h3']; omega
   ·show s.1 ≤ s1.1; omega
   ·intro _; show s1.1 ≤ 9; exact h5 (by show s.1 + 1 ≤ 9; omega)
  ·obtain ⟨h1, h2, h3, h4, h5⟩ := xmm kids .zero s s' xcr h
   have e : msT (.mk 5 q lo hi g kids) = (msF .zero kids).rep lo hi := by simp [msT]
   have hh : hi = -1 ∨ lo ≤ hi := hhi.imp id And.left
   have e2 : posT (.mk 5 q lo hi g kids) = posL kids * wrM lo hi := by rw [rep_pos hlo.1 hh]; simp [posT]
   rw [e, e2]
   refine ⟨okM_rep h1 hlo.1 hh, ?_, ?_, h4, h5⟩
   ·show (msF .zero kids).pos * wrM lo hi = _
    rw [h2]; show (0 + posL kids) * _ = _; rw [Int.zero_add]
   ·show (msF .zero kids).groups = _; rw [h3]; show 0 + _ = _; omega
theorem xmm : ∀ (ts : List Tr) (m : Ms) (s s' : Sh), OkM m → ShL ts s s' → OkM (msF m ts) ∧ (msF m ts).pos = m.pos + posL ts ∧ (msF m ts).groups = m.groups + ((s'.1 : Int) - (s.1 : Int)) ∧ s.1 ≤ s'.1 ∧ (s.1 ≤ 9 → s'.1 ≤ 9)
 | [], m, s, s', hm, h => by
  have h' : s' = s := h
  subst h'
  simp only [msF, posL]
  exact ⟨hm, by omega, by omega, Nat.le_refl _, id⟩
 | t :: ts, m, s, s', hm, h => by
  obtain ⟨s1, h1, h2⟩ := h
  obtain ⟨a1, a2, a3, a4, a5⟩ := ms_ok t s s1 h1
  obtain ⟨b1, b2, b3, b4, b5⟩ := xmm ts (m.both (msT t)) s1 s' (xml hm a1) h2
  simp only [msF, posL]
  refine ⟨b1, ?_, ?_, by omega, fun h => b5 (a5 h)⟩
  ·rw [b2]; show m.pos + (msT t).pos + posL ts = _; omega
  ·rw [b3]; show m.groups + (msT t).groups + _ = _; omega
end
theorem parse_measure (s : ByteArray) (ts : List Tr) (h : parseT s = .ok ts) : OkM (msF .zero ts) ∧ (msF .zero ts).pos ≤ 256 ∧ 0 ≤ (msF .zero ts).groups ∧ (msF .zero ts).groups ≤ 9 := by
 obtain ⟨s', hs⟩ := xfg s ts h
 obtain ⟨h1, h2, h3, h4, h5⟩ := ms_ok _ _ _ hs
 have e : msT (catT ts) = msF .zero ts := by simp [catT, msT]
 rw [e] at h1 h2 h3
 have h6 := (xdo _ (xgk s ts h)).2.1
 have h7 := h5 (Nat.zero_le _)
 refine ⟨h1, by omega, ?_, ?_⟩
 ·rw [h3]; show 0 ≤ (s'.1 : Int) - ((0 : Nat) : Int); omega
 ·rw [h3]; show (s'.1 : Int) - ((0 : Nat) : Int) ≤ 9; omega
theorem xjv {m : Ms} (h : OkM m) (hp : m.pos ≤ 256) (hg : 0 ≤ m.groups ∧ m.groups ≤ 9) : FitM m := by
 obtain ⟨h1, h2, h3, h4, h5⟩ := h
 exact ⟨⟨by omega, by omega⟩, ⟨by omega, by omega⟩, ⟨by omega, by omega⟩, ⟨by omega, by omega⟩⟩
mutual
theorem fit_ok : ∀ (t : Tr) (s s' : Sh), ShT t s s' → xcj t → s.1 ≤ 9 → fitT t
 | .mk k q lo hi g kids, s, s', h, hs, h9 => by
  obtain ⟨a1, a2, a3, a4, a5⟩ := ms_ok _ _ _ h
  obtain ⟨p1, p2, ⟨p3, p4⟩, p5⟩ := hs
  have a6 := a5 h9
  refine ⟨xjv a1 (by omega) (by omega), ?_, p4, ?_⟩
  ·rcases h with ⟨rfl, _⟩ | ⟨hk, _⟩ | ⟨rfl, _⟩ | ⟨rfl, _⟩ | ⟨rfl, _, _, hlo, _⟩
   ·intro e; omega
   ·intro e; omega
   ·intro e; omega
   ·intro e; omega
   ·intro _; exact hlo
  ·rcases h with ⟨rfl, _, _, _, _, h⟩ | ⟨hk, rfl, rfl, _, rfl, rfl⟩ | ⟨rfl, _, rfl, rfl, rfl, _, _, _, rfl⟩ | ⟨rfl, _, _, _, hg, hg9, _, s1, h, rfl⟩ | ⟨rfl, _, _, hlo, hhi, _, h⟩
   ·exact xia kids .zero s s' xcr ⟨Int.le_refl _, by show (0 : Int) ≤ _; omega⟩ (by show 0 + posL kids ≤ 256; omega) h p5 h9
   ·exact xjv xcr (by decide) (by decide)
   ·exact xjv xcr (by decide) (by decide)
   ·exact xia kids .zero _ s1 xcr ⟨Int.le_refl _, by show (0 : Int) ≤ _; omega⟩ (by show 0 + posL kids ≤ 256; omega) h p5 (by show s.1 + 1 ≤ 9; omega)
   ·exact xia kids .zero s s' xcr ⟨Int.le_refl _, by show (0 : Int) ≤ _; omega⟩ (by show 0 + posL kids ≤ 256; omega) h p5 h9
theorem xia : ∀ (ts : List Tr) (m : Ms) (s s' : Sh), OkM m → (0 ≤ m.groups ∧ m.groups ≤ (s.1 : Int)) → m.pos + posL ts ≤ 256 → ShL ts s s' → xc0 ts → s.1 ≤ 9 → fitF m ts
 | [], m, s, s', hm, hg, hp, h, hs, h9 => by
  have e : posL [] = 0 := by simp [posL]
  exact xjv hm (by omega) ⟨hg.1, by omega⟩
 | t :: ts, m, s, s', hm, hg, hp, h, hs, h9 => by
  obtain ⟨s1, h1, h2⟩ := h
  obtain ⟨a1, a2, a3, a4, a5⟩ := ms_ok t s s1 h1
  have e : posL (t :: ts) = posT t + posL ts := by simp [posL]
  have q1 := (xdo t hs.1).1
  have q2 := xck ts hs.2
  refine ⟨xjv hm (by omega) ⟨hg.1, by omega⟩, fit_ok t s s1 h1 hs.1 h9, xia ts _ s1 s' (xml hm a1) ?_ ?_ h2 hs.2 (a5 h9)⟩
  ·show 0 ≤ m.groups + (msT t).groups ∧ m.groups + (msT t).groups ≤ (s1.1 : Int)
   omega
  ·show m.pos + (msT t).pos + posL ts ≤ 256
   omega
end
theorem xp6 (s : ByteArray) (ts : List Tr) (h : parseT s = .ok ts) : fitT (catT ts) := by
 obtain ⟨s', hs⟩ := xfg s ts h
 exact fit_ok _ _ _ hs (xgk s ts h) (Nat.zero_le _)
noncomputable def ofM (s : ByteArray) : Ms × Int × Nat :=
 match parseT s with
 | .ok ts => (msF .zero ts, 0, 0)
 | .error (e, p) => (.zero, e, p)
theorem xmn {W w : World} {b : Nat} (M : Ms) (e p : Int) (h1 : W.heap[b]? = some (.cells Ms.zero.arr 50 (0, 0))) (h2 : W.heap[b + 1]? = some (.cells #[.int .i64 0, .int .i64 0] 43)) (hB : Below b w W) :
  (((put7 W b M).setCell ⟨b + 1, 0, none⟩ (.int .i64 e)).setCell ⟨b + 1, 1, none⟩ (.int .i64 p)).heap[b]? = some (.cells M.arr 50 (0, 0)) ∧
  (((put7 W b M).setCell ⟨b + 1, 0, none⟩ (.int .i64 e)).setCell ⟨b + 1, 1, none⟩ (.int .i64 p)).heap[b + 1]? = some (.cells #[.int .i64 e, .int .i64 p] 43) ∧
  Below b w (((put7 W b M).setCell ⟨b + 1, 0, none⟩ (.int .i64 e)).setCell ⟨b + 1, 1, none⟩ (.int .i64 p)) := by
 refine ⟨?_, ?_, ?_⟩
 ·rw [put_far _ _ _ _ (by omega), put_far _ _ _ _ (by omega)]
  exact xd4 M h1
 ·have h3 := (xh7 W M (show b + 1 ≠ b by omega)).trans h2
  have h4 := xai _ (b + 1) 0 (.int .i64 e) h3
  exact (xai _ (b + 1) 1 (.int .i64 p) h4).trans (by simp)
 ·exact ((xbs hB (Nat.le_refl _) M).setCell (p := ⟨b + 1, 0, none⟩) (by show b ≤ b + 1; omega) _).setCell (p := ⟨b + 1, 1, none⟩) (by show b ≤ b + 1; omega) _
theorem mOf_any (s : ByteArray) (w : World) (hg : Glob w) :
  Calls Try.prog 17 #[.string s] w fun e w' => e = .returned (.tuple #[.agg (ofM s).1.arr, .agg #[.int .i64 (ofM s).2.1, .int .i64 ((ofM s).2.2 : Nat)]]) ∧ Below w.heap.size w w' := by
 cases hp : parseT s with
 | ok ts =>
  have hft := xp6 s ts hp
  have hs : s.size ≤ 1073741824 := by
   have h9 := hp
   unfold parseT at h9
   split at h9
   ·cases h9
   ·omega
  have hM : ofM s = (msF .zero ts, 0, 0) := by unfold ofM; rw [hp]
  rw [hM]
  have HF := xbj hft
  clear hft hM
  go_enter Try.func17, Try.ntmps17
  go_wp2_with fail
  obtain ⟨X, hX⟩ : ∃ X, X = (w.alloc (.cells #[.int .i64 0, .int .i64 0, .int .i64 0, .int .i64 0, .bool false, .bool false, .bool false] 50)).alloc (.cells #[.int .i64 0, .int .i64 0] 43) := ⟨_, rfl⟩
  have hXs : X.heap.size = w.heap.size + 1 + 1 := by rw [hX, World.size_alloc, World.size_alloc]
  have xb1 : X.heap[w.heap.size]? = some (.cells Ms.zero.arr 50 (0, 0)) := by
   rw [hX, Below.heap_alloc _ _ _ (by rw [World.size_alloc]; omega)]
   exact heap_alloc_new w _
  have xb2 : X.heap[w.heap.size + 1]? = some (.cells #[.int .i64 0, .int .i64 0] 43) := by
   rw [hX, ← World.size_alloc w (.cells #[.int .i64 0, .int .i64 0, .int .i64 0, .int .i64 0, .bool false, .bool false, .bool false] 50)]
   exact heap_alloc_new _ _
  have hBX : Below w.heap.size w X := by
   rw [hX]
   exact ((Below.refl _ _).alloc (Nat.le_refl _) _).alloc (by rw [World.size_alloc]; omega) _
  rw [← hX]
  clear hX
  refine (parse_ok s hs ts hp X (hg.below hBX (Nat.le_refl _))).mono ?_
  rintro e w1 ⟨hB1, a, n, c, rfl, hk⟩
  have hsz := hB1.size
  obtain ⟨V, hV⟩ : ∃ V, V = (w1.alloc (.cells #[.int .i64 0, .int .u64 0, .int .u64 0, .int .u64 0, .int .u64 0, .int .i64 0, .int .i64 0, .int .i64 0, .slice a n c] 41)).alloc (.cells #[.int .i64 0, .int .i64 0] 43) := ⟨_, rfl⟩
  have hBV1 : Below w1.heap.size w1 V := by rw [hV]; exact ((Below.refl _ _).alloc (Nat.le_refl _) _).alloc (by rw [World.size_alloc]; omega) _
  have hVs : V.heap.size = w1.heap.size + 1 + 1 := by rw [hV, World.size_alloc, World.size_alloc]
  have v1 : V.heap[w.heap.size]? = some (.cells Ms.zero.arr 50 (0, 0)) := by rw [hBV1.block _ (by omega), hB1.block _ (by omega)]; exact xb1
  have v2 : V.heap[w.heap.size + 1]? = some (.cells #[.int .i64 0, .int .i64 0] 43) := by rw [hBV1.block _ (by omega), hB1.block _ (by omega)]; exact xb2
  have v3 : V.heap[w1.heap.size]? = some (.cells #[.int .i64 0, .int .u64 0, .int .u64 0, .int .u64 0, .int .u64 0, .int .i64 0, .int .i64 0, .int .i64 0, .slice a n c] 41) := by
   rw [hV, Below.heap_alloc _ _ _ (by rw [World.size_alloc]; omega)]
   exact heap_alloc_new w1 _
  have v4 : V.heap[w1.heap.size + 1]? = some (.cells #[.int .i64 0, .int .i64 0] 43) := by
   rw [hV, ← World.size_alloc w1 (.cells #[.int .i64 0, .int .u64 0, .int .u64 0, .int .u64 0, .int .u64 0, .int .i64 0, .int .i64 0, .int .i64 0, .slice a n c] 41)]
   exact heap_alloc_new _ _
  have hBV : Below w.heap.size w V := (hBX.trans (hB1.mono (by omega))).trans (hBV1.mono (by omega))
  have hic := fun (W : World) (hW : Below V.heap.size V W) => xha _ (catT ts) (Nat.lt_succ_self _) HF.out W _ a n c (xc1 (xc1 (show Kids w1 _ (.slice a n c) (catT ts).kids from hk) hBV1) hW)
  have y0 : V.cell? ⟨w1.heap.size + 1, 0, none⟩ = some (.int .i64 0) := by simp [World.cell?, v4]
  have t0 : V.cell? ⟨w1.heap.size, 0, none⟩ = some (.int .i64 0) := by simp [World.cell?, v3]
  have t1 : V.cell? ⟨w1.heap.size, 1, none⟩ = some (.int .u64 0) := by simp [World.cell?, v3]
  have t2 : V.cell? ⟨w1.heap.size, 2, none⟩ = some (.int .u64 0) := by simp [World.cell?, v3]
  have t3 : V.cell? ⟨w1.heap.size, 3, none⟩ = some (.int .u64 0) := by simp [World.cell?, v3]
  have t4 : V.cell? ⟨w1.heap.size, 4, none⟩ = some (.int .u64 0) := by simp [World.cell?, v3]
  have t5 : V.cell? ⟨w1.heap.size, 5, none⟩ = some (.int .i64 0) := by simp [World.cell?, v3]
  have t6 : V.cell? ⟨w1.heap.size, 6, none⟩ = some (.int .i64 0) := by simp [World.cell?, v3]
  have t7 : V.cell? ⟨w1.heap.size, 7, none⟩ = some (.int .i64 0) := by simp [World.cell?, v3]
  have t8 : V.cell? ⟨w1.heap.size, 8, none⟩ = some (.slice a n c) := by simp [World.cell?, v3]
  have HD := xbj (And.intro v1 (And.intro v2 (And.intro hBV (And.intro hic (And.intro hsz (And.intro hXs hVs))))))
  clear v1 v2 v3 v4 hBV hic hsz hXs hVs hBV1 hB1 hk xb1 xb2 hBX HF
  go_upto_region 2 with fail
  rw [← hV]
  clear hV
  go_wp2_with fail
  refine (HD.out.2.2.2.1 V (Below.refl _ _)).mono ?_
  rintro e w3 ⟨rfl, hb3⟩
  obtain ⟨M, hM⟩ : ∃ M, M = msF .zero ts := ⟨_, rfl⟩
  have hM2 : msT (catT ts) = M := by rw [hM]; simp [catT, msT]
  rw [hM2]
  have hsz := HD.out.2.2.2.2.1
  have hXs := HD.out.2.2.2.2.2.1
  have hVs := HD.out.2.2.2.2.2.2
  have u1 := (hb3.block w.heap.size (by omega)).trans HD.out.1
  have u2 := (hb3.block (w.heap.size + 1) (by omega)).trans HD.out.2.1
  have uB := HD.out.2.2.1.trans (hb3.mono (by omega))
  have r0 : w3.cell? ⟨w.heap.size, 0, none⟩ = some (.int .i64 0) := by simp [World.cell?, u1, Ms.zero]
  have rf0 : w3.frozen? ⟨w.heap.size, 0, none⟩ = false := by simp [World.frozen?, u1]
  have r1 : w3.cell? ⟨w.heap.size, 1, none⟩ = some (.int .i64 0) := by simp [World.cell?, u1, Ms.zero]
  have rf1 : w3.frozen? ⟨w.heap.size, 1, none⟩ = false := by simp [World.frozen?, u1]
  have r2 : w3.cell? ⟨w.heap.size, 2, none⟩ = some (.int .i64 0) := by simp [World.cell?, u1, Ms.zero]
  have rf2 : w3.frozen? ⟨w.heap.size, 2, none⟩ = false := by simp [World.frozen?, u1]
  have r3 : w3.cell? ⟨w.heap.size, 3, none⟩ = some (.int .i64 0) := by simp [World.cell?, u1, Ms.zero]
  have rf3 : w3.frozen? ⟨w.heap.size, 3, none⟩ = false := by simp [World.frozen?, u1]
  have r4 : w3.cell? ⟨w.heap.size, 4, none⟩ = some (.bool false) := by simp [World.cell?, u1, Ms.zero]
  have rf4 : w3.frozen? ⟨w.heap.size, 4, none⟩ = false := by simp [World.frozen?, u1]
  have r5 : w3.cell? ⟨w.heap.size, 5, none⟩ = some (.bool false) := by simp [World.cell?, u1, Ms.zero]
  have rf5 : w3.frozen? ⟨w.heap.size, 5, none⟩ = false := by simp [World.frozen?, u1]
  have r6 : w3.cell? ⟨w.heap.size, 6, none⟩ = some (.bool false) := by simp [World.cell?, u1, Ms.zero]
  have rf6 : w3.frozen? ⟨w.heap.size, 6, none⟩ = false := by simp [World.frozen?, u1]
  have q0 : w3.cell? ⟨w.heap.size + 1, 0, none⟩ = some (.int .i64 0) := by simp [World.cell?, u2]
  have qf0 : w3.frozen? ⟨w.heap.size + 1, 0, none⟩ = false := by simp [World.frozen?, u2]
  have q1 : w3.cell? ⟨w.heap.size + 1, 1, none⟩ = some (.int .i64 0) := by simp [World.cell?, u2]
  have qf1 : w3.frozen? ⟨w.heap.size + 1, 1, none⟩ = false := by simp [World.frozen?, u2]
  have HU := xbj (And.intro u1 (And.intro u2 (And.intro uB hM)))
  clear u1 u2 uB hM hM2 hsz hXs hVs hb3 y0 t0 t1 t2 t3 t4 t5 t6 t7 t8
  go_wp2
  obtain ⟨Y, hY⟩ : ∃ Y, Y = ((((((((w3.setCell ⟨w.heap.size, 0, none⟩ (.int .i64 M.pos)).setCell ⟨w.heap.size, 1, none⟩ (.int .i64 M.groups)).setCell ⟨w.heap.size, 2, none⟩ (.int .i64 M.least)).setCell ⟨w.heap.size, 3, none⟩ (.int .i64 M.most)).setCell ⟨w.heap.size, 4, none⟩ (.bool M.back)).setCell ⟨w.heap.size, 5, none⟩ (.bool M.bol)).setCell ⟨w.heap.size, 6, none⟩ (.bool M.eol)).setCell ⟨w.heap.size + 1, 0, none⟩ (.int .i64 0)).setCell ⟨w.heap.size + 1, 1, none⟩ (.int .i64 0) := ⟨_, rfl⟩
  have hY2 : Y.heap[w.heap.size]? = some (.cells M.arr 50 (0, 0)) ∧ Y.heap[w.heap.size + 1]? = some (.cells #[.int .i64 0, .int .i64 0] 43) ∧ Below w.heap.size w Y := by rw [hY]; exact xmn M 0 0 HU.out.1 HU.out.2.1 HU.out.2.2.1
  obtain ⟨yb, yc, yB⟩ := hY2
  rw [← hY]
  clear hY
  have o0 : Y.cell? ⟨w.heap.size, 0, none⟩ = some (.int .i64 M.pos) := by simp [World.cell?, yb]
  have o1 : Y.cell? ⟨w.heap.size, 1, none⟩ = some (.int .i64 M.groups) := by simp [World.cell?, yb]
  have o2 : Y.cell? ⟨w.heap.size, 2, none⟩ = some (.int .i64 M.least) := by simp [World.cell?, yb]
  have o3 : Y.cell? ⟨w.heap.size, 3, none⟩ = some (.int .i64 M.most) := by simp [World.cell?, yb]
  have o4 : Y.cell? ⟨w.heap.size, 4, none⟩ = some (.bool M.back) := by simp [World.cell?, yb]
  have o5 : Y.cell? ⟨w.heap.size, 5, none⟩ = some (.bool M.bol) := by simp [World.cell?, yb]
  have o6 : Y.cell? ⟨w.heap.size, 6, none⟩ = some (.bool M.eol) := by simp [World.cell?, yb]
  have o7 : Y.cell? ⟨w.heap.size + 1, 0, none⟩ = some (.int .i64 0) := by simp [World.cell?, yc]
  have o8 : Y.cell? ⟨w.heap.size + 1, 1, none⟩ = some (.int .i64 0) := by simp [World.cell?, yc]
  refine bodyPost_ret (v := .tuple #[.agg M.arr, .agg #[.int .i64 0, .int .i64 0]]) (by simp [results, Try.results17, go_sem, o0, o1, o2, o3, o4, o5, o6, o7, o8]; try rfl) rfl ?_
  exact ⟨by rw [HU.out.2.2.2]; rfl, yB⟩
 | error x =>
  obtain ⟨e, p⟩ := x
  have hM : ofM s = (.zero, e, p) := by unfold ofM; rw [hp]
  rw [hM]
  clear hM
  go_enter Try.func17, Try.ntmps17
  go_wp2_with fail
  obtain ⟨X, hX⟩ : ∃ X, X = (w.alloc (.cells #[.int .i64 0, .int .i64 0, .int .i64 0, .int .i64 0, .bool false, .bool false, .bool false] 50)).alloc (.cells #[.int .i64 0, .int .i64 0] 43) := ⟨_, rfl⟩
  have hXs : X.heap.size = w.heap.size + 1 + 1 := by rw [hX, World.size_alloc, World.size_alloc]
  have xb1 : X.heap[w.heap.size]? = some (.cells Ms.zero.arr 50 (0, 0)) := by
   rw [hX, Below.heap_alloc _ _ _ (by rw [World.size_alloc]; omega)]
   exact heap_alloc_new w _
  have xb2 : X.heap[w.heap.size + 1]? = some (.cells #[.int .i64 0, .int .i64 0] 43) := by
   rw [hX, ← World.size_alloc w (.cells #[.int .i64 0, .int .i64 0, .int .i64 0, .int .i64 0, .bool false, .bool false, .bool false] 50)]
   exact heap_alloc_new _ _
  have hBX : Below w.heap.size w X := by
   rw [hX]
   exact ((Below.refl _ _).alloc (Nat.le_refl _) _).alloc (by rw [World.size_alloc]; omega) _
  rw [← hX]
  clear hX
  refine (xla s e p hp X (hg.below hBX (Nat.le_refl _))).mono ?_
  rintro e' w1 ⟨rfl, hB1⟩
  have hne : (e != 0) = true := by simpa using (xk9 s e p hp).1
  have hsz := hB1.size
  obtain ⟨V, hV⟩ : ∃ V, V = (w1.alloc (.cells #[.int .i64 0, .int .u64 0, .int .u64 0, .int .u64 0, .int .u64 0, .int .i64 0, .int .i64 0, .int .i64 0, .slice none 0 0] 41)).alloc (.cells #[.int .i64 e, .int .i64 p] 43) := ⟨_, rfl⟩
  have hBV1 : Below w1.heap.size w1 V := by rw [hV]; exact ((Below.refl _ _).alloc (Nat.le_refl _) _).alloc (by rw [World.size_alloc]; omega) _
  have hVs : V.heap.size = w1.heap.size + 1 + 1 := by rw [hV, World.size_alloc, World.size_alloc]
  have v1 : V.heap[w.heap.size]? = some (.cells Ms.zero.arr 50 (0, 0)) := by rw [hBV1.block _ (by omega), hB1.block _ (by omega)]; exact xb1
  have v2 : V.heap[w.heap.size + 1]? = some (.cells #[.int .i64 0, .int .i64 0] 43) := by rw [hBV1.block _ (by omega), hB1.block _ (by omega)]; exact xb2
  have v4 : V.heap[w1.heap.size + 1]? = some (.cells #[.int .i64 e, .int .i64 p] 43) := by
   rw [hV, ← World.size_alloc w1 (.cells #[.int .i64 0, .int .u64 0, .int .u64 0, .int .u64 0, .int .u64 0, .int .i64 0, .int .i64 0, .int .i64 0, .slice none 0 0] 41)]
   exact heap_alloc_new _ _
  have hBV : Below w.heap.size w V := (hBX.trans (hB1.mono (by omega))).trans (hBV1.mono (by omega))
  have y0 : V.cell? ⟨w1.heap.size + 1, 0, none⟩ = some (.int .i64 e) := by simp [World.cell?, v4]
  have y1 : V.cell? ⟨w1.heap.size + 1, 1, none⟩ = some (.int .i64 p) := by simp [World.cell?, v4]
  have r0 : V.cell? ⟨w.heap.size, 0, none⟩ = some (.int .i64 0) := by simp [World.cell?, v1, Ms.zero]
  have rf0 : V.frozen? ⟨w.heap.size, 0, none⟩ = false := by simp [World.frozen?, v1]
  have r1 : V.cell? ⟨w.heap.size, 1, none⟩ = some (.int .i64 0) := by simp [World.cell?, v1, Ms.zero]
  have rf1 : V.frozen? ⟨w.heap.size, 1, none⟩ = false := by simp [World.frozen?, v1]
  have r2 : V.cell? ⟨w.heap.size, 2, none⟩ = some (.int .i64 0) := by simp [World.cell?, v1, Ms.zero]
  have rf2 : V.frozen? ⟨w.heap.size, 2, none⟩ = false := by simp [World.frozen?, v1]
  have r3 : V.cell? ⟨w.heap.size, 3, none⟩ = some (.int .i64 0) := by simp [World.cell?, v1, Ms.zero]
  have rf3 : V.frozen? ⟨w.heap.size, 3, none⟩ = false := by simp [World.frozen?, v1]
  have r4 : V.cell? ⟨w.heap.size, 4, none⟩ = some (.bool false) := by simp [World.cell?, v1, Ms.zero]
  have rf4 : V.frozen? ⟨w.heap.size, 4, none⟩ = false := by simp [World.frozen?, v1]
  have r5 : V.cell? ⟨w.heap.size, 5, none⟩ = some (.bool false) := by simp [World.cell?, v1, Ms.zero]
  have rf5 : V.frozen? ⟨w.heap.size, 5, none⟩ = false := by simp [World.frozen?, v1]
  have r6 : V.cell? ⟨w.heap.size, 6, none⟩ = some (.bool false) := by simp [World.cell?, v1, Ms.zero]
  have rf6 : V.frozen? ⟨w.heap.size, 6, none⟩ = false := by simp [World.frozen?, v1]
  have q0 : V.cell? ⟨w.heap.size + 1, 0, none⟩ = some (.int .i64 0) := by simp [World.cell?, v2]
  have qf0 : V.frozen? ⟨w.heap.size + 1, 0, none⟩ = false := by simp [World.frozen?, v2]
  have q1 : V.cell? ⟨w.heap.size + 1, 1, none⟩ = some (.int .i64 0) := by simp [World.cell?, v2]
  have qf1 : V.frozen? ⟨w.heap.size + 1, 1, none⟩ = false := by simp [World.frozen?, v2]
  have n1 : (w.heap.size = w1.heap.size + 1) = False := eq_false (by omega)
  have n2 : (w.heap.size + 1 = w1.heap.size + 1) = False := eq_false (by omega)
  have n3 : (w1.heap.size + 1 = w.heap.size) = False := eq_false (by omega)
  have n4 : (w1.heap.size + 1 = w.heap.size + 1) = False := eq_false (by omega)
  have HD := xbj (And.intro v1 (And.intro v2 hBV))
  clear v1 v2 v4 hBV hsz hXs hVs hBV1 hB1 xb1 xb2 hBX
  go_upto_region 2 with fail
  rw [← hV]
  clear hV
  go_wp2_with fail
  go_region
  obtain ⟨Y, hY⟩ : ∃ Y, Y = ((((((((V.setCell ⟨w.heap.size, 0, none⟩ (.int .i64 0)).setCell ⟨w.heap.size, 1, none⟩ (.int .i64 0)).setCell ⟨w.heap.size, 2, none⟩ (.int .i64 0)).setCell ⟨w.heap.size, 3, none⟩ (.int .i64 0)).setCell ⟨w.heap.size, 4, none⟩ (.bool false)).setCell ⟨w.heap.size, 5, none⟩ (.bool false)).setCell ⟨w.heap.size, 6, none⟩ (.bool false)).setCell ⟨w.heap.size + 1, 0, none⟩ (.int .i64 e)).setCell ⟨w.heap.size + 1, 1, none⟩ (.int .i64 p) := ⟨_, rfl⟩
  have hY2 : Y.heap[w.heap.size]? = some (.cells Ms.zero.arr 50 (0, 0)) ∧ Y.heap[w.heap.size + 1]? = some (.cells #[.int .i64 e, .int .i64 p] 43) ∧ Below w.heap.size w Y := by rw [hY]; exact xmn Ms.zero e (p : Nat) HD.out.1 HD.out.2.1 HD.out.2.2
  obtain ⟨yb, yc, yB⟩ := hY2
  rw [← hY]
  clear hY
  go_wp2
  have o0 : Y.cell? ⟨w.heap.size, 0, none⟩ = some (.int .i64 0) := by simp [World.cell?, yb, Ms.zero]
  have o1 : Y.cell? ⟨w.heap.size, 1, none⟩ = some (.int .i64 0) := by simp [World.cell?, yb, Ms.zero]
  have o2 : Y.cell? ⟨w.heap.size, 2, none⟩ = some (.int .i64 0) := by simp [World.cell?, yb, Ms.zero]
  have o3 : Y.cell? ⟨w.heap.size, 3, none⟩ = some (.int .i64 0) := by simp [World.cell?, yb, Ms.zero]
  have o4 : Y.cell? ⟨w.heap.size, 4, none⟩ = some (.bool false) := by simp [World.cell?, yb, Ms.zero]
  have o5 : Y.cell? ⟨w.heap.size, 5, none⟩ = some (.bool false) := by simp [World.cell?, yb, Ms.zero]
  have o6 : Y.cell? ⟨w.heap.size, 6, none⟩ = some (.bool false) := by simp [World.cell?, yb, Ms.zero]
  have o7 : Y.cell? ⟨w.heap.size + 1, 0, none⟩ = some (.int .i64 e) := by simp [World.cell?, yc]
  have o8 : Y.cell? ⟨w.heap.size + 1, 1, none⟩ = some (.int .i64 p) := by simp [World.cell?, yc]
  refine bodyPost_ret (v := .tuple #[.agg Ms.zero.arr, .agg #[.int .i64 e, .int .i64 p]]) (by simp [results, Try.results17, go_sem, o0, o1, o2, o3, o4, o5, o6, o7, o8, Ms.zero]; try rfl) rfl ?_
  exact ⟨rfl, yB.drew⟩
end Go.Proofs.Ytolpakpdkheanaa.br
