/- bre: Positions of a repeat of a small tree. -/
import Derived.Test.YtemgfbidfdhanaaDoorKQf
import Derived.Test.YtemgfbidfdhanaaDoorKRm
import Derived.Deep.Cut
import Derived.Handy
namespace Go.Proofs.YtemgfbidfdhanaaDoor
open Go.RowKit

end Go.Proofs.YtemgfbidfdhanaaDoor

/- bre: the document's reader: a repeat is read by both alike; what the reader's own memory looks like meanwhile. -/
namespace Go.Proofs.YtemgfbidfdhanaaDoor
open Go.RowKit

theorem grow_cases (r : Rd) (n : Int) (i : Nat) (h : r.e = 0) : (256 < r.size + n ∧ (r.grow n i).e = 13 ∧ (r.grow n i).place = i) ∨ (r.size + n ≤ 256 ∧ r.grow n i = { r with size := r.size + n }) := by
  unfold Rd.grow
  by_cases hg : r.size + n > 256
  · rw [if_pos hg]
    have := failed_e (r := { r with size := r.size + n }) h 13 i
    exact .inl ⟨hg, this.1, this.2⟩
  · rw [if_neg hg]
    exact .inr ⟨by omega, rfl⟩

/-- A repeat is taken. -/
theorem docRep_step {s : ByteArray} (hs : s.size ≤ 512) {i k k1 : Nat} {P P1 : Ps} {r : Rd} {ts : List Tr} {t : Tr} (h : Goes s i k P r P1 k1 (ts ++ [t])) (hi : r.pos < s.size) (h7 : (tokenT s r.pos k1).kind = 7) :
    Fails s i k P (({ r with pos := (tokenT s r.pos k1).to } : Rd).grow (posT (repT (tokenT s r.pos k1).lo (tokenT s r.pos k1).hi t) - posT t) r.pos) ∨
    ∃ P2, Goes s i k P (({ r with pos := (tokenT s r.pos k1).to } : Rd).grow (posT (repT (tokenT s r.pos k1).lo (tokenT s r.pos k1).hi t) - posT t) r.pos) P2 7 (ts ++ [repT (tokenT s r.pos k1).lo (tokenT s r.pos k1).hi t]) := by
  obtain ⟨T, hT⟩ : ∃ T, T = tokenT s r.pos k1 := ⟨_, rfl⟩
  have hla : P1.top.parts.getLast? = some t := by rw [h.top]; simp
  have hdl : P1.top.parts.dropLast = ts := by rw [h.top]; simp
  have e : P1.take T = (P1.rep ts t T.lo T.hi).grown := by
    rw [← hT] at h7
    obtain ⟨kd, fr, to, er, q, gp, lo, hi⟩ := T
    have h7' : kd = 7 := h7
    subst h7'
    simp only [Ps.take, hla, hdl]
  have hl := h.sim.well.counts.last t hla
  have hn : P1.size + P1.last * (timesOf T.lo T.hi - 1) = r.size + (posT (repT T.lo T.hi t) - posT t) := by
    rw [pos_rep, hl, h.sim.z, Int.mul_sub, Int.mul_one]
  rw [← hT]
  have hsz : (P1.rep ts t T.lo T.hi).size = P1.size + P1.last * (timesOf T.lo T.hi - 1) := rfl
  rcases grow_cases ({ r with pos := T.to } : Rd) (posT (repT T.lo T.hi t) - posT t) r.pos h.sim.e with ⟨g1, g2, g3⟩ | ⟨g1, g2⟩
  · refine .inl (h.fails (fails_tok hi ?_ ?_ g3))
    · rw [← hT, e]; show bigE (P1.rep ts t T.lo T.hi).size ≠ 0
      rw [hsz, hn]; unfold bigE; rw [if_pos g1]; decide
    · rw [g2, ← hT, e]; show (13 : Int) = bigE (P1.rep ts t T.lo T.hi).size
      rw [hsz, hn]; unfold bigE; rw [if_pos g1]
  · refine .inr ⟨(P1.take T).2, h.trans ?_⟩
    have h0 : (P1.take T).1 = 0 := by
      rw [e]; show bigE (P1.rep ts t T.lo T.hi).size = 0
      rw [hsz, hn]; unfold bigE; rw [if_neg (by have : r.size + (posT (repT T.lo T.hi t) - posT t) ≤ 256 := g1; omega)]
    rw [g2]
    have hk7 : T.kind = 7 := by rw [hT]; exact h7
    have := goes_tok (r' := { ({ r with pos := T.to } : Rd) with size := r.size + (posT (repT T.lo T.hi t) - posT t) }) (ts := ts ++ [repT T.lo T.hi t]) hs h.sim hi (by rw [← hT]; exact h0) (by rw [h7]; omega)
      (by rw [← hT, e]; rfl) (by rw [← hT, e]; rfl) h.sim.e (by rw [← hT]) (by rw [← hT, e]; exact h.sim.g) (by rw [← hT, e]; exact h.sim.c) (by rw [← hT, e]; exact hn.symm)
    rw [h7, ← hT] at this
    exact this

/-- While repeats runs: the reader, the tree in its block, the block of the answer. -/
structure RI (s : ByteArray) (b : Nat) (w : World) (ok : Nat → Prop) (W : World) (r : Rd) (t : Tr) (u : Value) : Prop where
  rd : IsRd W b s r
  tb : Blk9 W w.heap.size (nodeV t u)
  zb : Blk9 W (w.heap.size + 1) zero9
  kids : Kids W (fun g => (ok g ∧ g ≠ b ∧ g < w.heap.size) ∨ w.heap.size + 2 ≤ g) u t.kids
  gr : w.grownBy W (some b)
  old : b < w.heap.size

theorem Blk9.lt {W : World} {c : Nat} {vs : List Value} (h : Blk9 W c vs) : c < W.heap.size := (Array.getElem?_eq_some_iff.1 h.2).1
theorem Blk9.far {W W' : World} {c : Nat} {vs : List Value} (h : Blk9 W c vs) (k : W'.heap[c]? = W.heap[c]?) : Blk9 W' c vs := ⟨h.1, k.trans h.2⟩
theorem kids_blk {W : World} {ok : Nat → Prop} {v : Value} {ts : List Tr} (h : Kids W ok v ts) : Kids W (fun g => ok g ∧ g < W.heap.size) v ts := by
  induction h with
  | mk v ts vs hl own hok _ ih => exact .mk v ts vs hl own (fun g hg => ⟨hok g hg, (owns_blk own hg).2.1⟩) ih

theorem RI.step {s : ByteArray} {b : Nat} {w : World} {ok : Nat → Prop} {W W' : World} {r r' : Rd} {t : Tr} {u : Value} (h : RI s b w ok W r t u) (g : W.grownBy W' (some b)) (hr : IsRd W' b s r') : RI s b w ok W' r' t u := by
  have ho := h.old
  have hz := h.zb.lt
  refine ⟨hr, h.tb.far (g.block _ (by omega) (fun e => by cases e; omega)), h.zb.far (g.block _ hz (fun e => by cases e; omega)), ?_, grown_trans h.gr g, ho⟩
  refine (kids_blk h.kids).keep (fun x hx => g.block x hx.2 (fun e => by cases e; rcases hx.1 with h1 | h1; exact h1.2.1 rfl; omega)) (fun x hx => hx.1)
theorem RI.below {s : ByteArray} {b : Nat} {w : World} {ok : Nat → Prop} {W W' : World} {r : Rd} {t : Tr} {u : Value} (h : RI s b w ok W r t u) (g : Below W.heap.size W W') : RI s b w ok W' r t u :=
  h.step (grown_below g _) (h.rd.below g h.rd.lt)
theorem RI.drew {s : ByteArray} {b : Nat} {w : World} {ok : Nat → Prop} {W : World} {r : Rd} {t : Tr} {u : Value} (h : RI s b w ok W r t u) (n : Nat) : RI s b w ok (W.drewN n) r t u := h.step (grown_drew _ _ _) (h.rd.drew n)
theorem RI.place {s : ByteArray} {b : Nat} {w : World} {ok : Nat → Prop} {W : World} {r : Rd} {t : Tr} {u : Value} (h : RI s b w ok W r t u) (p : Nat) : RI s b w ok (W.setCell ⟨b, 1, none⟩ (.int .i64 (p : Nat))) { r with pos := p } t u :=
  h.step (grown_put _ _ _ _) (IsRd.put h.rd 1 _ rfl)

/-- Nine cells written. -/
abbrev nine (W : World) (c : Nat) (x0 x1 x2 x3 x4 x5 x6 x7 x8 : Value) : World := ((((((((W.setCell ⟨c, 0, none⟩ x0).setCell ⟨c, 1, none⟩ x1).setCell ⟨c, 2, none⟩ x2).setCell ⟨c, 3, none⟩ x3).setCell ⟨c, 4, none⟩ x4).setCell ⟨c, 5, none⟩ x5).setCell ⟨c, 6, none⟩ x6).setCell ⟨c, 7, none⟩ x7).setCell ⟨c, 8, none⟩ x8
theorem nine_far (W : World) {c : Nat} (x0 x1 x2 x3 x4 x5 x6 x7 x8 : Value) {j : Nat} (h : j ≠ c) : (nine W c x0 x1 x2 x3 x4 x5 x6 x7 x8).heap[j]? = W.heap[j]? := by
  exact (put_far _ c 8 _ h).trans ((put_far _ c 7 _ h).trans ((put_far _ c 6 _ h).trans ((put_far _ c 5 _ h).trans ((put_far _ c 4 _ h).trans ((put_far _ c 3 _ h).trans ((put_far _ c 2 _ h).trans ((put_far _ c 1 _ h).trans (put_far _ c 0 _ h))))))))
theorem nine_at {W : World} {c : Nat} {vs : List Value} (h : Blk9 W c vs) (x0 x1 x2 x3 x4 x5 x6 x7 x8 : Value) : Blk9 (nine W c x0 x1 x2 x3 x4 x5 x6 x7 x8) c [x0, x1, x2, x3, x4, x5, x6, x7, x8] := by
  refine ⟨rfl, ?_⟩
  obtain ⟨hl, hb⟩ := h
  obtain ⟨y0, y1, y2, y3, y4, y5, y6, y7, y8, rfl⟩ : ∃ y0 y1 y2 y3 y4 y5 y6 y7 y8, vs = [y0, y1, y2, y3, y4, y5, y6, y7, y8] := by
    match vs, hl with
    | [y0, y1, y2, y3, y4, y5, y6, y7, y8], _ => exact ⟨_, _, _, _, _, _, _, _, _, rfl⟩
  have h0 := put_same W c 0 x0 hb
  have h1 := put_same _ c 1 x1 h0
  have h2 := put_same _ c 2 x2 h1
  have h3 := put_same _ c 3 x3 h2
  have h4 := put_same _ c 4 x4 h3
  have h5 := put_same _ c 5 x5 h4
  have h6 := put_same _ c 6 x6 h5
  have h7 := put_same _ c 7 x7 h6
  have h8 := put_same _ c 8 x8 h7
  exact h8.trans (by simp)
theorem nine_grown (W : World) (c : Nat) (x0 x1 x2 x3 x4 x5 x6 x7 x8 : Value) : W.grownBy (nine W c x0 x1 x2 x3 x4 x5 x6 x7 x8) (some c) :=
  grown_trans (grown_trans (grown_trans (grown_trans (grown_trans (grown_trans (grown_trans (grown_trans (grown_put W c 0 _) (grown_put _ c 1 _)) (grown_put _ c 2 _)) (grown_put _ c 3 _)) (grown_put _ c 4 _)) (grown_put _ c 5 _)) (grown_put _ c 6 _)) (grown_put _ c 7 _)) (grown_put _ c 8 _)

/-- What has grown but for a block that wasn't there is grown. -/
theorem grown_new {w A B : World} {o : Option Nat} {c : Nat} (h : w.grownBy A o) (k : A.grownBy B (some c)) (hc : w.heap.size ≤ c) : w.grownBy B o :=
  ⟨k.os.trans h.os, k.tape.trans h.tape, k.output.trans h.output, Nat.le_trans h.size k.size, fun j hj hr => (k.block j (Nat.lt_of_lt_of_le hj h.size) (fun e => by cases e; omega)).trans (h.block j hj hr)⟩

theorem set_size (W : World) (a k : Nat) (v : Value) : (W.setCell ⟨a, k, none⟩ v).heap.size = W.heap.size := by
  show (W.heap.modify a _).size = _
  rw [Array.size_modify]
theorem nine_size (W : World) (c : Nat) (x0 x1 x2 x3 x4 x5 x6 x7 x8 : Value) : (nine W c x0 x1 x2 x3 x4 x5 x6 x7 x8).heap.size = W.heap.size := by
  simp only [nine, set_size]

/-- The tree is wrapped: it lies in a new block, its own block holds what repeats it. -/
theorem RI.wrap {s : ByteArray} {b : Nat} {w : World} {ok : Nat → Prop} {W : World} {r : Rd} {t : Tr} {u : Value} (h : RI s b w ok W r t u) (lo hi : Int) :
    RI s b w ok ((nine W w.heap.size (.int .i64 5) (.int .u64 0) (.int .u64 0) (.int .u64 0) (.int .u64 0) (.int .i64 lo) (.int .i64 hi) (.int .i64 0) (.slice (some ⟨W.heap.size, 0, none⟩) 1 1)).alloc (.cells (nodeV t u).toArray 27)) r (repT lo hi t) (.slice (some ⟨W.heap.size, 0, none⟩) 1 1) := by
  have ho := h.old
  have hz := h.zb.lt
  have ht := h.tb.lt
  obtain ⟨V, hV⟩ : ∃ V, V = nine W w.heap.size (.int .i64 5) (.int .u64 0) (.int .u64 0) (.int .u64 0) (.int .u64 0) (.int .i64 lo) (.int .i64 hi) (.int .i64 0) (.slice (some ⟨W.heap.size, 0, none⟩) 1 1) := ⟨_, rfl⟩
  have hVs : V.heap.size = W.heap.size := by rw [hV]; exact nine_size _ _ _ _ _ _ _ _ _ _ _
  have hVf : ∀ j, j ≠ w.heap.size → V.heap[j]? = W.heap[j]? := fun j hj => by rw [hV]; exact nine_far _ _ _ _ _ _ _ _ _ _ hj
  have hVt : Blk9 V w.heap.size [.int .i64 5, .int .u64 0, .int .u64 0, .int .u64 0, .int .u64 0, .int .i64 lo, .int .i64 hi, .int .i64 0, .slice (some ⟨W.heap.size, 0, none⟩) 1 1] := by rw [hV]; exact nine_at h.tb _ _ _ _ _ _ _ _ _
  have hVg : W.grownBy V (some w.heap.size) := by rw [hV]; exact nine_grown _ _ _ _ _ _ _ _ _ _ _
  rw [← hV]
  clear hV
  have hb2 : Blk9 (V.alloc (.cells (nodeV t u).toArray 27)) W.heap.size (nodeV t u) := ⟨rfl, by rw [← hVs]; exact heap_alloc_new V _⟩
  have ha : ∀ j, j < W.heap.size → (V.alloc (.cells (nodeV t u).toArray 27)).heap[j]? = V.heap[j]? := fun j hj => Below.heap_alloc _ _ _ (by omega)
  refine ⟨?_, ?_, ?_, ?_, ?_, ho⟩
  · have h2 : _ = _ := h.rd
    show (V.alloc _).heap[b]? = _
    rw [ha b (by omega), hVf b (by omega)]
    exact h2
  · rw [nodeV_rep]
    exact hVt.far (ha _ (by omega))
  · exact h.zb.far ((ha _ (by omega)).trans (hVf _ (by omega)))
  · refine kids_one (b := W.heap.size) (t := t) (u := u) hb2.2 (.inr (by omega)) ?_
    refine (kids_blk h.kids).keep (fun g hg => (ha g hg.2).trans (hVf g (fun e => ?_))) (fun _ hg => hg.1)
    rcases hg.1 with hg | hg <;> omega
  · exact grown_then (grown_new h.gr hVg (Nat.le_refl _)) ((Below.refl _ _).alloc (by rw [hVs]; exact h.gr.size) _)
end Go.Proofs.YtemgfbidfdhanaaDoor
