/- tally: a link's edges. -/
import Derived.Test.YtolpakpdkheanaaKTb
import Derived.Deep.RegionHeld3
set_option maxRecDepth 100000
set_option maxHeartbeats 4000000
namespace Go.Proofs.Ytolpakpdkheanaa.tly
open Go.RowKit Go.Proofs.Ytolpakpdkheanaa.br
/-- blocks from B on, below E -/
abbrev Sb (B E : Nat) : Nat → Prop := fun x => B ≤ x ∧ x < E
theorem stR_new {W : World} {B n : Nat} {v : Value} {l : Stp} (h : W.ownsRow B 95 2 v n (stV l)) : StR W (Sb B W.heap.size) v l := StR.of_own h _ fun _ hg => ⟨(row_blk h hg).1, (row_blk h hg).2.1⟩
theorem StR.grow {W W' : World} {B B' E : Nat} {v : Value} {l : Stp} (h : StR W (Sb B E) v l) (hb : Below W.heap.size W W') (hE : E ≤ W.heap.size) (hB : B' ≤ B) : StR W' (Sb B' W'.heap.size) v l :=
 h.keep (fun g hg => hb.block g (Nat.lt_of_lt_of_le hg.2 hE)) fun _ hg => ⟨Nat.le_trans hB hg.1, Nat.lt_of_lt_of_le hg.2 (Nat.le_trans hE hb.size)⟩
theorem cells_at {W : World} {b : Nat} {cs : List Value} {t : TypeId} (h : W.heap[b]? = some (.cells cs.toArray t (0, 0))) {j : Nat} {v : Value} (hj : cs[j]? = some v) : W.cell? ⟨b, j, none⟩ = some v ∧ W.frozen? ⟨b, j, none⟩ = false := by
 refine ⟨?_, by simp [World.frozen?, h]⟩
 simp only [World.cell?, h]
 simpa using hj
theorem cells_set {W : World} {b : Nat} {cs : List Value} {t : TypeId} (h : W.heap[b]? = some (.cells cs.toArray t (0, 0))) (j : Nat) (v : Value) : (W.setCell ⟨b, j, none⟩ v).heap[b]? = some (.cells (cs.set j v).toArray t (0, 0)) := by
 obtain ⟨hlt, hk⟩ := Array.getElem?_eq_some_iff.1 h
 show (W.heap.modify b _)[b]? = _
 rw [Array.getElem?_eq_getElem (by rw [Array.size_modify]; exact hlt), Array.getElem_modify_self, hk]
 simp
theorem EsR.one {W : World} {S : Nat → Prop} {u : Nat → Value} {es : List Ed} (h : EsR W S u es) {j : Nat} (hj : j < 12) : (u j).oneCell' = true := by
 obtain ⟨k, hk, hr⟩ : ∃ k, k < 4 ∧ (j = k * 3 ∨ j = k * 3 + 1 ∨ j = k * 3 + 2) := ⟨j / 3, by omega, by omega⟩
 rcases hr with rfl | rfl | rfl
 · rw [h.no k hk]; rfl
 · obtain ⟨a, c, e⟩ := (h.fi k hk).shape; rw [e]; rfl
 · obtain ⟨a, c, e⟩ := (h.la k hk).shape; rw [e]; rfl
theorem pt_cells {W : World} {c k g sz : Nat} {vl : Value} {ag : Bool} {q : Nat → Bool} {u : Nat → Value} (hp : W.heap[c]? = some (.cells (ptV k g vl ag q sz u).toArray 87 (0, 0))) {j : Nat} (hj : j < 12) : W.cell? ⟨c, 9 + j, none⟩ = some (u j) := by
 refine (cells_at hp ?_).1
 show (_ ++ lst12 u)[9 + j]? = _
 rw [List.getElem?_append_right (by simp)]
 show (lst12 u)[9 + j - 9]? = _
 rw [show 9 + j - 9 = j by omega]
 exact lst12_get u hj
theorem info_eds : (Try.prog.info? 85).map (·.size) = some 12 := by kernel_rfl
theorem und_eds : Try.prog.underlying 85 = some (.array 4 83) := by kernel_rfl
/-- A part is handed back: its block's cells. -/
theorem part_result {fn : Func} {W : World} {r b : Nat} {tmps : Array Value} {cs : List Value} {fr : Nat × Nat} (hf : fn.results = #[.cell r 85]) (hr : tmps[r]?.getD undef = .pointer (some ⟨b, 0, none⟩)) (h : W.heap[b]? = some (.cells cs.toArray 85 fr)) (hl : cs.length = 12) : (results fn tmps).run Try.prog W = .ok (.agg cs.toArray) W := by
  have := run_loadVar_mid (P := Try.prog) W b 0 85 cs _ (range_block h) und_eds rfl (by rw [info_eds, hl])
  simp [results, hf, asAddr, hr, this]
/-- The end of a function that hands a part back: it is copied into its result's block. -/
theorem ret_part {fn : Func} {R : Ending → World → Prop} {id s d r b b' : Nat} {ps ps' : String} {af af' : Array Edge} {ty ty' : TypeId} {a : Act} {W : World} {cs zs : List Value} {K : Act → World → Prop} {Q : Exit → Act → World → Prop} (hQ : Q = bodyPost Try.prog fn R) (hK : ∀ a w, Code.ret.wp Try.prog Q a w → K a w) (hs : a.eval (.tmp s) = .pointer (some ⟨b, 0, none⟩)) (hr : a.eval (.tmp r) = .pointer (some ⟨b', 0, none⟩)) (hsr : r ≠ d) (hd : (a.put (some d) (.agg cs.toArray)).eval (.tmp d) = .agg cs.toArray) (h : W.heap[b]? = some (.cells cs.toArray 85 (0, 0))) (h' : W.heap[b']? = some (.cells zs.toArray 85 (0, 0))) (hl : cs.length = 12) (hz : zs.length = 12) (ho : cs.toArray.all (·.oneCell') = true) (hf : fn.results = #[.cell r 85]) (hdf : a.defers = []) (hR : R (.returned (.agg cs.toArray)) (W.setCells b' 0 cs)) :
    (Code.region id #[{ dst := some d, op := .load 85 (.tmp s), type := ty, pos := ps, after := af, guard := none }, { dst := none, op := .store 85 (.tmp r) (.tmp d), type := ty', pos := ps', after := af', guard := none }] false).wp Try.prog (Exit.then K Q) a W := by
  refine wp_region_lit (l := [_, _]) ?_
  refine wpList_load_mid rfl 85 _ rfl b 0 hs cs _ (range_block h) und_eds rfl (by rw [info_eds, hl]) ?_
  have hr2 : (a.put (some d) (.agg cs.toArray)).eval (.tmp r) = .pointer (some ⟨b', 0, none⟩) := by
    rw [← hr]
    exact Act.eval_put (fun e he hh => by cases he; cases hh; exact hsr rfl)
  refine wpList_store_mid rfl 85 _ _ rfl b' 0 cs.toArray hr2 hd (by rw [List.size_toArray]; exact there_block h' _ (by omega)) (by rw [info_eds, List.size_toArray, hl]) ho ?_
  refine wpList_nil ?_
  refine hK _ _ (wp_ret ?_)
  rw [hQ]
  exact bodyPost_ret (part_result hf (by simpa [Act.eval, Act.put] using hr2) (setCells_whole cs h' (by omega)) hl) hdf hR

/-- A part is stored into a block, as the last of a region. -/
theorem store_part {ops : Array Oper} {op : Oper} {r d b : Nat} {a : Act} {W : World} {cs zs : List Value} {K : Act → World → Prop} {Q : Exit → Act → World → Prop} (hg : op.guard = none) (ho : op.op = .store 85 (.tmp r) (.tmp d)) (hr : a.eval (.tmp r) = .pointer (some ⟨b, 0, none⟩)) (hd : a.eval (.tmp d) = .agg cs.toArray) (h' : W.heap[b]? = some (.cells zs.toArray 85 (0, 0))) (hl : cs.length = 12) (hz : zs.length = 12) (h1 : cs.toArray.all (·.oneCell') = true) (h : K (a.put op.dst undef) (W.setCells b 0 cs)) : wpList Try.prog ops (Exit.then K Q) [op] a W := by
  refine wpList_store_mid hg 85 _ _ ho b 0 cs.toArray hr hd (by rw [List.size_toArray]; exact there_block h' _ (by omega)) (by rw [info_eds, List.size_toArray, hl]) h1 ?_
  exact wpList_nil h
/-- The return behind it. -/
theorem ret_of {fn : Func} {R : Ending → World → Prop} {r b : Nat} {a : Act} {W : World} {cs : List Value} {fr : Nat × Nat} {K : Act → World → Prop} {Q : Exit → Act → World → Prop} (hQ : Q = bodyPost Try.prog fn R) (hK : ∀ a w, Code.ret.wp Try.prog Q a w → K a w) (hr : a.eval (.tmp r) = .pointer (some ⟨b, 0, none⟩)) (h : W.heap[b]? = some (.cells cs.toArray 85 fr)) (hl : cs.length = 12) (hf : fn.results = #[.cell r 85]) (hdf : a.defers = []) (hR : R (.returned (.agg cs.toArray)) W) : K a W := by
  refine hK _ _ (wp_ret ?_)
  rw [hQ]
  exact bodyPost_ret (part_result hf (by simpa [Act.eval] using hr) h hl) hdf hR
abbrev z12 : Obj := .cells #[.bool false, .slice none 0 0, .slice none 0 0, .bool false, .slice none 0 0, .slice none 0 0, .bool false, .slice none 0 0, .slice none 0 0, .bool false, .slice none 0 0, .slice none 0 0] 85
/-- a copy of twelve cells is laid -/
theorem copy12 {w0 X : World} {u : Nat → Value} (hb : Below w0.heap.size w0 X) : (X.alloc z12).there X.heap.size 0 12 ∧ Below w0.heap.size w0 ((X.alloc z12).setCells X.heap.size 0 (lst12 u)) ∧ Below X.heap.size X ((X.alloc z12).setCells X.heap.size 0 (lst12 u)) ∧ ((X.alloc z12).setCells X.heap.size 0 (lst12 u)).heap[X.heap.size]? = some (.cells (lst12 u).toArray 85 (0, 0)) := by
 have hn : (X.alloc z12).heap[X.heap.size]? = some z12 := World.alloc_heap_new X _
 refine ⟨there_block (cs := [.bool false, .slice none 0 0, .slice none 0 0, .bool false, .slice none 0 0, .slice none 0 0, .bool false, .slice none 0 0, .slice none 0 0, .bool false, .slice none 0 0, .slice none 0 0]) hn 12 rfl, below_setCells _ hb.size _ _ _ (hb.alloc hb.size _), below_setCells _ (Nat.le_refl _) _ _ _ ((Below.refl _ X).alloc (Nat.le_refl _) _), ?_⟩
 exact setCells_whole (cs := [.bool false, .slice none 0 0, .slice none 0 0, .bool false, .slice none 0 0, .slice none 0 0, .bool false, .slice none 0 0, .slice none 0 0, .bool false, .slice none 0 0, .slice none 0 0]) (lst12 u) hn rfl
theorem EsR.all {W : World} {S : Nat → Prop} {u : Nat → Value} {es : List Ed} (h : EsR W S u es) : (lst12 u).toArray.all (·.oneCell') = true :=
 all_oneCell_toArray fun v hv => by
  obtain ⟨j, hj⟩ := List.getElem?_of_mem hv
  have h12 : j < 12 := (List.getElem?_eq_some_iff.1 hj).1
  rw [lst12_get u h12] at hj
  cases hj
  exact h.one h12
/-- what edges keeps -/
structure EgR (w : World) (u : Nat → Value) (es : List Ed) (base b k1 k2 : Nat) (W : World) : Prop where
 blk : ∃ uu, W.heap[b]? = some (.cells (lst12 uu).toArray 85 (0, 0)) ∧ (∀ j, j < 4 → uu (j * 3) = .bool (eat es j).no) ∧
  (∀ j, j < 4 → if j < k1 then StR W (Sb w.heap.size W.heap.size) (uu (j * 3 + 1)) (upS (eat es j).fi base) else uu (j * 3 + 1) = u (j * 3 + 1)) ∧
  (∀ j, j < 4 → if j < k2 then StR W (Sb w.heap.size W.heap.size) (uu (j * 3 + 2)) (upS (eat es j).la base) else uu (j * 3 + 2) = u (j * 3 + 2))
 res : W.heap[w.heap.size]? = some z12
 bel : Below w.heap.size w W
 far : w.heap.size < b
/-- a cell of a block of another type is written -/
theorem StR.over {W : World} {S : Nat → Prop} {b j : Nat} {x v : Value} {l : Stp} {t : TypeId} {cs : Array Value} (h : StR W S v l) (ht : W.heap[b]? = some (.cells cs t (0, 0))) (hne : t ≠ 95) : StR (W.setCell ⟨b, j, none⟩ x) S v l := by
 rcases h with h | ⟨g, o, c, h1, h2, h3, ⟨cur, h5⟩, h4⟩
 · exact .inl h
 · have hgb : g ≠ b := by rintro rfl; rw [ht] at h5; simp only [Option.some.injEq, Obj.cells.injEq] at h5; exact hne h5.2.1
   have hk := Below.heap_setCell W ⟨b, j, none⟩ x g hgb
   exact .inr ⟨g, o, c, h1, h2, h3, ⟨cur, hk.trans h5⟩, fun i y hi => ⟨(World.cell?_of_block (a := ⟨g, _, none⟩) hk).trans (h4 i y hi).1, (World.cell?_of_block (a := ⟨g, _, none⟩) hk).trans (h4 i y hi).2⟩⟩
theorem StR.far {W W' : World} {S : Nat → Prop} {b : Nat} {v : Value} {l : Stp} {t : TypeId} {cs : Array Value} (h : StR W S v l) (ht : W.heap[b]? = some (.cells cs t (0, 0))) (hne : t ≠ 95) (hk : ∀ g, g ≠ b → W'.heap[g]? = W.heap[g]?) : StR W' S v l := by
 rcases h with h | ⟨g, o, c, h1, h2, h3, ⟨cur, h5⟩, h4⟩
 · exact .inl h
 · have hgb : g ≠ b := by rintro rfl; rw [ht] at h5; simp only [Option.some.injEq, Obj.cells.injEq] at h5; exact hne h5.2.1
   exact .inr ⟨g, o, c, h1, h2, h3, ⟨cur, (hk g hgb).trans h5⟩, fun i y hi => ⟨(World.cell?_of_block (a := ⟨g, _, none⟩) (hk g hgb)).trans (h4 i y hi).1, (World.cell?_of_block (a := ⟨g, _, none⟩) (hk g hgb)).trans (h4 i y hi).2⟩⟩
theorem eat_map (f : Ed → Ed) {es : List Ed} {k : Nat} (h : k < es.length) : eat (es.map f) k = f (eat es k) := by
 unfold eat
 rw [List.getD_eq_getElem?_getD, List.getD_eq_getElem?_getD, List.getElem?_map, List.getElem?_eq_getElem h]
 rfl
abbrev zl12 : List Value := [.bool false, .slice none 0 0, .slice none 0 0, .bool false, .slice none 0 0, .slice none 0 0, .bool false, .slice none 0 0, .slice none 0 0, .bool false, .slice none 0 0, .slice none 0 0]
/-- twelve cells, as edges, behind the copy into the result's block -/
theorem EgR.done {w W : World} {u : Nat → Value} {es : List Ed} {base b : Nat} (h : EgR w u es base b 4 4 W) (hl : es.length = 4) : ∃ uu, W.heap[b]? = some (.cells (lst12 uu).toArray 85 (0, 0)) ∧ (lst12 uu).toArray.all (·.oneCell') = true ∧ EsR (W.setCells w.heap.size 0 (lst12 uu)) (Sb w.heap.size (W.setCells w.heap.size 0 (lst12 uu)).heap.size) uu (es.map fun e => ⟨e.no, upS e.fi base, upS e.la base⟩) ∧ Below w.heap.size w (W.setCells w.heap.size 0 (lst12 uu)) := by
 obtain ⟨uu, hbk, hno, hfi, hla⟩ := h.blk
 have hE : EsR W (Sb w.heap.size W.heap.size) uu (es.map fun e => ⟨e.no, upS e.fi base, upS e.la base⟩) := by
  refine ⟨fun k hk => ?_, fun k hk => ?_, fun k hk => ?_⟩
  · rw [eat_map _ (by omega)]; exact hno k hk
  · have := hfi k hk
    rw [if_pos hk] at this
    rw [eat_map _ (by omega)]; exact this
  · have := hla k hk
    rw [if_pos hk] at this
    rw [eat_map _ (by omega)]; exact this
 refine ⟨uu, hbk, hE.all, ?_, below_setCells _ (Nat.le_refl _) _ _ _ h.bel⟩
 rw [setCells_size]
 have hf : ∀ g, g ≠ w.heap.size → (W.setCells w.heap.size 0 (lst12 uu)).heap[g]? = W.heap[g]? := fun g hg => setCells_far W _ hg _ _
 exact ⟨hE.no, fun k hk => (hE.fi k hk).far h.res (by decide) hf, fun k hk => (hE.la k hk).far h.res (by decide) hf⟩
theorem StR.sub {W : World} {S S' : Nat → Prop} {v : Value} {l : Stp} (h : StR W S v l) (hm : ∀ g, S g → S' g) : StR W S' v l := h.keep (fun _ _ => rfl) hm
theorem EgR.fi {w W W1 : World} {u : Nat → Value} {es : List Ed} {base b k : Nat} (h : EgR w u es base b k k W) (hk : k < 4) (hb : Below W.heap.size W W1) {v : Value} {n : Nat} (ho : W1.ownsRow W.heap.size 95 2 v n (stV (upS (eat es k).fi base))) : EgR w u es base b (k + 1) k (W1.setCell ⟨b, k * 3 + 1, none⟩ v) := by
 obtain ⟨uu, hbk, hno, hfi, hla⟩ := h.blk
 have hbl : b < W.heap.size := (Array.getElem?_eq_some_iff.1 hbk).1
 have hb1 := (hb.block b hbl).trans hbk
 have hsz : (W1.setCell ⟨b, k * 3 + 1, none⟩ v).heap.size = W1.heap.size := by simp
 have hset := cells_set hb1 (k * 3 + 1) v
 rw [lst12_set uu (show k * 3 + 1 < 12 by omega)] at hset
 have far := h.far
 have mv : ∀ {x : Value} {l : Stp}, StR W (Sb w.heap.size W.heap.size) x l → StR (W1.setCell ⟨b, k * 3 + 1, none⟩ v) (Sb w.heap.size (W1.setCell ⟨b, k * 3 + 1, none⟩ v).heap.size) x l := fun hx => by
  rw [hsz]
  exact (hx.grow hb (Nat.le_refl _) (Nat.le_refl _)).over hb1 (by decide)
 refine ⟨⟨_, hset, fun j hj => ?_, fun j hj => ?_, fun j hj => ?_⟩, ?_, ?_, h.far⟩
 · rw [setU_other _ _ (by omega)]; exact hno j hj
 · by_cases e : j = k
   · subst e
     rw [if_pos (by omega), setU_same, hsz]
     exact ((stR_new ho).over hb1 (by decide)).sub fun g hg => ⟨Nat.le_trans h.bel.size hg.1, hg.2⟩
   · rw [setU_other _ _ (by omega)]
     have := hfi j hj
     by_cases e2 : j < k
     · rw [if_pos e2] at this
       rw [if_pos (by omega)]
       exact mv this
     · rw [if_neg e2] at this
       rw [if_neg (by omega)]
       exact this
 · rw [setU_other _ _ (by omega)]
   have := hla j hj
   by_cases e2 : j < k
   · rw [if_pos e2] at this ⊢
     exact mv this
   · rw [if_neg e2] at this ⊢
     exact this
 · exact (Below.heap_setCell W1 ⟨b, k * 3 + 1, none⟩ v _ (show w.heap.size ≠ b by omega)).trans ((hb.block _ (by omega)).trans h.res)
 · exact (h.bel.trans (hb.mono h.bel.size)).setCell (p := ⟨b, k * 3 + 1, none⟩) (show w.heap.size ≤ b by omega) v
theorem EgR.la {w W W1 : World} {u : Nat → Value} {es : List Ed} {base b k : Nat} (h : EgR w u es base b (k + 1) k W) (hk : k < 4) (hb : Below W.heap.size W W1) {v : Value} {n : Nat} (ho : W1.ownsRow W.heap.size 95 2 v n (stV (upS (eat es k).la base))) : EgR w u es base b (k + 1) (k + 1) (W1.setCell ⟨b, k * 3 + 2, none⟩ v) := by
 obtain ⟨uu, hbk, hno, hfi, hla⟩ := h.blk
 have hbl : b < W.heap.size := (Array.getElem?_eq_some_iff.1 hbk).1
 have hb1 := (hb.block b hbl).trans hbk
 have hsz : (W1.setCell ⟨b, k * 3 + 2, none⟩ v).heap.size = W1.heap.size := by simp
 have hset := cells_set hb1 (k * 3 + 2) v
 rw [lst12_set uu (show k * 3 + 2 < 12 by omega)] at hset
 have far := h.far
 have mv : ∀ {x : Value} {l : Stp}, StR W (Sb w.heap.size W.heap.size) x l → StR (W1.setCell ⟨b, k * 3 + 2, none⟩ v) (Sb w.heap.size (W1.setCell ⟨b, k * 3 + 2, none⟩ v).heap.size) x l := fun hx => by
  rw [hsz]
  exact (hx.grow hb (Nat.le_refl _) (Nat.le_refl _)).over hb1 (by decide)
 refine ⟨⟨_, hset, fun j hj => ?_, fun j hj => ?_, fun j hj => ?_⟩, ?_, ?_, h.far⟩
 · rw [setU_other _ _ (by omega)]; exact hno j hj
 · rw [setU_other _ _ (by omega)]
   have := hfi j hj
   by_cases e2 : j < k + 1
   · rw [if_pos e2] at this ⊢
     exact mv this
   · rw [if_neg e2] at this ⊢
     exact this
 · by_cases e : j = k
   · subst e
     rw [if_pos (by omega), setU_same, hsz]
     exact ((stR_new ho).over hb1 (by decide)).sub fun g hg => ⟨Nat.le_trans h.bel.size hg.1, hg.2⟩
   · rw [setU_other _ _ (by omega)]
     have := hla j hj
     by_cases e2 : j < k
     · rw [if_pos e2] at this
       rw [if_pos (by omega)]
       exact mv this
     · rw [if_neg e2] at this
       rw [if_neg (by omega)]
       exact this
 · exact (Below.heap_setCell W1 ⟨b, k * 3 + 2, none⟩ v _ (show w.heap.size ≠ b by omega)).trans ((hb.block _ (by omega)).trans h.res)
 · exact (h.bel.trans (hb.mono h.bel.size)).setCell (p := ⟨b, k * 3 + 2, none⟩) (show w.heap.size ≤ b by omega) v
theorem edges_any {w : World} {S : Nat → Prop} {lb o c base n : Nat} {k g sz : Nat} {vl : Value} {ag : Bool} {q : Nat → Bool} {u : Nat → Value} {es : List Ed} (c0 : w.cell? ⟨lb, o, none⟩ = some (.pointer (some ⟨c, 0, none⟩))) (c1 : w.cell? ⟨lb, o + 1, none⟩ = some (.int .i64 (base : Nat)))
  (hp : w.heap[c]? = some (.cells (ptV k g vl ag q sz u).toArray 87 (0, 0))) (he : EsR w S u es) (hS : ∀ g, S g → g < w.heap.size) (ho : EsOk n es) (hn : n ≤ 100000) (hb : base ≤ 100000) :
  Calls Try.prog 63 #[.pointer (some ⟨lb, o, none⟩)] w fun e w' => ∃ u', e = .returned (.agg (lst12 u').toArray) ∧ EsR w' (Sb w.heap.size w'.heap.size) u' (es.map fun e => ⟨e.no, upS e.fi base, upS e.la base⟩) ∧ Below w.heap.size w w' := by
 go_enter Try.func63, Try.ntmps63
 go_upto_region 1 with fail
 have hc : c < w.heap.size := (Array.getElem?_eq_some_iff.1 hp).1
 have hB0 := (Below.refl w.heap.size w).alloc (Nat.le_refl _) (.cells #[.bool false, .slice none 0 0, .slice none 0 0, .bool false, .slice none 0 0, .slice none 0 0, .bool false, .slice none 0 0, .slice none 0 0, .bool false, .slice none 0 0, .slice none 0 0] 85)
 have hX : (w.alloc (.cells #[.bool false, .slice none 0 0, .slice none 0 0, .bool false, .slice none 0 0, .slice none 0 0, .bool false, .slice none 0 0, .slice none 0 0, .bool false, .slice none 0 0, .slice none 0 0] 85)).heap[w.heap.size]? = some (.cells #[.bool false, .slice none 0 0, .slice none 0 0, .bool false, .slice none 0 0, .slice none 0 0, .bool false, .slice none 0 0, .slice none 0 0, .bool false, .slice none 0 0, .slice none 0 0] 85) := World.alloc_heap_new _ _
 have hs := World.size_alloc w (.cells #[.bool false, .slice none 0 0, .slice none 0 0, .bool false, .slice none 0 0, .slice none 0 0, .bool false, .slice none 0 0, .slice none 0 0, .bool false, .slice none 0 0, .slice none 0 0] 85)
 generalize w.alloc (.cells #[.bool false, .slice none 0 0, .slice none 0 0, .bool false, .slice none 0 0, .slice none 0 0, .bool false, .slice none 0 0, .slice none 0 0, .bool false, .slice none 0 0, .slice none 0 0] 85) = X at *
 have hp1 := (hB0.block c hc).trans hp
 have d1 := c1
 replace c0 := keep_cell hB0 c0
 replace c1 := keep_cell hB0 c1
 have p0 := pt_cells hp1 (j := 0) (by decide)
 have p1 := pt_cells hp1 (j := 1) (by decide)
 have p2 := pt_cells hp1 (j := 2) (by decide)
 have p3 := pt_cells hp1 (j := 3) (by decide)
 have p4 := pt_cells hp1 (j := 4) (by decide)
 have p5 := pt_cells hp1 (j := 5) (by decide)
 have p6 := pt_cells hp1 (j := 6) (by decide)
 have p7 := pt_cells hp1 (j := 7) (by decide)
 have p8 := pt_cells hp1 (j := 8) (by decide)
 have p9 := pt_cells hp1 (j := 9) (by decide)
 have p10 := pt_cells hp1 (j := 10) (by decide)
 have p11 := pt_cells hp1 (j := 11) (by decide)
 have hcp := copy12 (u := u) hB0
 have HC := hideT (And.intro hcp he.all)
 clear hcp
 have HP := hideT (And.intro hp (And.intro he (And.intro hS (And.intro ho hn))))
 have HX := hideT (And.intro hB0 (And.intro hX hs))
 clear hp he hS ho hn hp1 hB0 hX hs
 go_upto_region 2 with (refine wpList_store_mid (by rfl) 85 _ _ (by rfl) X.heap.size 0 (lst12 u).toArray (by rfl) (by rfl) HC.out.1.1 (by rw [info_eds]; rfl) HC.out.2 ?_)
 obtain ⟨Y, hY⟩ : ∃ Y, Y = (X.alloc z12).setCells X.heap.size 0 (lst12 u) := ⟨_, rfl⟩
 have HY := hideT (show EgR w u es base X.heap.size 0 0 Y by
  rw [hY]
  refine ⟨⟨u, HC.out.1.2.2.2, HP.out.2.1.no, fun j _ => by rw [if_neg (by omega)], fun j _ => by rw [if_neg (by omega)]⟩, ?_, HC.out.1.2.1, ?_⟩
  · exact (HC.out.1.2.2.1.block _ (by have := HX.out.2.2; omega)).trans HX.out.2.1
  · have := HX.out.2.2; omega)
 have y0 : Y.cell? ⟨lb, o + 1, none⟩ = some (.int .i64 (base : Nat)) := by rw [hY]; exact keep_cell HC.out.1.2.2.1 c1
 have hlb : ∀ V : World, Below w.heap.size w V → V.cell? ⟨lb, o + 1, none⟩ = some (.int .i64 (base : Nat)) := fun V hV => keep_cell hV d1
 have HLB := hideT hlb
 simp only [Act.put]
 show Code.wp _ _ _ _ ((X.alloc z12).setCells X.heap.size 0 (lst12 u))
 rw [← hY]
 have hCX : w.heap.size < X.heap.size := by have := HX.out.2.2; omega
 generalize X.heap.size = C at *
 clear hY c0 c1 y0 hlb HC HX p0 p1 p2 p3 p4 p5 p6 p7 p8 p9 p10 p11
 go_wp2_with fail
 go_loopw [12] (fun iv wr => ∃ k : Nat, k ≤ 4 ∧ iv = .int .i64 k ∧ Hid (EgR w u es base C k k wr)) (fun iv _ => (4 - intOf iv).toNat)
 case atStart => exact ⟨0, by omega, rfl, HY⟩
 case round =>
  obtain ⟨k, hk, rfl, HR⟩ := hrel
  by_cases hlt : k < 4
  · obtain ⟨uu, hbk, hno, hfi, hla⟩ := HR.out.blk
    have i1 : (k : Int) < 4 := by omega
    have i2 : (0 : Int) ≤ (k : Int) := by omega
    have HR1 := HR
    have m1 : wr.cell? ⟨C, k * 3 + 1, none⟩ = some (u (k * 3 + 1)) := by
     have := hfi k hlt
     rw [if_neg (by omega)] at this
     rw [← this]
     exact (cells_at hbk (lst12_get uu (show k * 3 + 1 < 12 by omega))).1
    have m2 := (cells_at hbk (lst12_get uu (show k * 3 + 1 < 12 by omega))).2
    have HI := hideT hlt
    clear hlt hk hbk hno hfi hla
    go_upto_region 5 with fail
    rename_i K1 hK1
    have hbd : Below w.heap.size w wr.drew := HR1.out.bel.trans (drew_below _ _)
    have hS0 : wr.drew.cell? ⟨lb, o + 1, none⟩ = some (.int .i64 (base : Nat)) := HLB.out wr.drew hbd
    have n1 : wr.drew.cell? ⟨C, k * 3 + 1, none⟩ = some (u (k * 3 + 1)) := m1
    have n2 : wr.drew.frozen? ⟨C, k * 3 + 1, none⟩ = false := m2
    refine wp_region_held (S := fun V : World => V.cell? ⟨lb, o + 1, none⟩ = some (.int .i64 (base : Nat))) (by kernel_rfl) ?_
    refine tq 0 15 hS0 ?_
    refine tq 1 16 hS0 ?_
    refine tq 2 17 hS0 ?_
    refine tq 3 18 hS0 ?_
    refine tq 5 20 hS0 ?_
    refine tq 6 21 hS0 ?_
    refine tq 7 22 hS0 ?_
    refine tq 8 23 hS0 ?_
    refine wpAnyH_all (rs := [4]) (by kernel_rfl) (by simp) (fun j hj => ?_)
    obtain rfl : j = 4 := List.mem_singleton.1 hj
    clear hj
    refine op_value (some 19) rfl rfl (by rfl) (v := u (k * 3 + 1)) (by go_simp; (try with_reducible rfl)) ⟨hS0, ?_⟩
    simp only [Act.put, List.setIfInBounds_toArray, List.set_cons_zero, List.set_cons_succ]
    refine wpAnyH_all (rs := [9]) (by kernel_rfl) (by simp) (fun j hj => ?_)
    obtain rfl : j = 9 := List.mem_singleton.1 hj
    clear hj
    have hup := up_any ((HP.out.2.1.fi k HI.out).keep (fun g hg => hbd.block g (HP.out.2.2.1 g hg)) fun _ h => h) (fun g hg => Nat.lt_of_lt_of_le (HP.out.2.2.1 g hg) hbd.size) (HP.out.2.2.2.1.at k).1 HP.out.2.2.2.2 hb
    refine op_call (R := fun v w1 => w1.ownsRow wr.heap.size 95 2 v (eat es k).fi.length (stV (upS (eat es k).fi base)) ∧ Below wr.heap.size wr.drew w1) (f := 46) (some 24) rfl rfl (by rfl) (by go_simp; (try with_reducible rfl)) (hup.mono ?_) ?_
    · rintro e w1 ⟨v, rfl, h1, h2⟩
      exact ⟨_, rfl, h1, h2⟩
    rintro v w1 ⟨h1, h2⟩
    obtain ⟨va, vc, rfl⟩ := row_shape h1
    have l1 := keep_cell h2 n1
    have l2 := keep_frozen h2 (World.block_lt_of_cell? _ _ n1) n2
    have hS1 := keep_cell h2 hS0
    refine ⟨hS1, ?_⟩
    have HN1 := hideT (HR1.out.fi HI.out ((drew_below _ wr).trans h2) h1)
    clear hup hbd h1 h2 hS0 n1 n2 m1 m2
    simp only [Act.put, List.setIfInBounds_toArray, List.set_cons_zero, List.set_cons_succ]
    refine tq 10 25 hS1 ?_
    refine tq 11 26 hS1 ?_
    simp only [Act.put, List.setIfInBounds_toArray, List.set_cons_zero, List.set_cons_succ]
    refine wpAnyH_all (rs := [12]) (by kernel_rfl) (by simp) (fun j hj => ?_)
    obtain rfl : j = 12 := List.mem_singleton.1 hj
    clear hj
    refine op_skip rfl rfl (by rfl) (w' := w1.setCell ⟨C, k * 3 + 1, none⟩ (.slice va (eat es k).fi.length vc)) (by go_simp; (try with_reducible rfl)) ⟨HLB.out _ HN1.out.bel, ?_⟩
    refine wpAnyH_done (by kernel_rfl) (hK1 _ _ ?_) _
    clear l1 l2 hS1 hK1
    simp only [Act.put]
    generalize w1.setCell ⟨C, k * 3 + 1, none⟩ (.slice va (eat es k).fi.length vc) = Z1 at *
    have HR2 := HN1
    obtain ⟨uu, hbk, hno, hfi, hla⟩ := HN1.out.blk
    have m1 : Z1.cell? ⟨C, k * 3 + 2, none⟩ = some (u (k * 3 + 2)) := by
     have := hla k HI.out
     rw [if_neg (by omega)] at this
     rw [← this]
     exact (cells_at hbk (lst12_get uu (show k * 3 + 2 < 12 by have := HI.out; omega))).1
    have m2 := (cells_at hbk (lst12_get uu (show k * 3 + 2 < 12 by have := HI.out; omega))).2
    clear hbk hno hfi hla
    go_upto_region 6 with fail
    rename_i K2 hK2
    have hbd : Below w.heap.size w Z1.drew := HR2.out.bel.trans (drew_below _ _)
    have hS0 : Z1.drew.cell? ⟨lb, o + 1, none⟩ = some (.int .i64 (base : Nat)) := HLB.out Z1.drew hbd
    have n1 : Z1.drew.cell? ⟨C, k * 3 + 2, none⟩ = some (u (k * 3 + 2)) := m1
    have n2 : Z1.drew.frozen? ⟨C, k * 3 + 2, none⟩ = false := m2
    refine wp_region_held (S := fun V : World => V.cell? ⟨lb, o + 1, none⟩ = some (.int .i64 (base : Nat))) (by kernel_rfl) ?_
    refine tq 0 27 hS0 ?_
    refine tq 1 28 hS0 ?_
    refine tq 2 29 hS0 ?_
    refine tq 3 30 hS0 ?_
    refine tq 5 32 hS0 ?_
    refine tq 6 33 hS0 ?_
    refine tq 7 34 hS0 ?_
    refine tq 8 35 hS0 ?_
    refine wpAnyH_all (rs := [4]) (by kernel_rfl) (by simp) (fun j hj => ?_)
    obtain rfl : j = 4 := List.mem_singleton.1 hj
    clear hj
    refine op_value (some 31) rfl rfl (by rfl) (v := u (k * 3 + 2)) (by go_simp; (try with_reducible rfl)) ⟨hS0, ?_⟩
    simp only [Act.put, List.setIfInBounds_toArray, List.set_cons_zero, List.set_cons_succ]
    refine wpAnyH_all (rs := [9]) (by kernel_rfl) (by simp) (fun j hj => ?_)
    obtain rfl : j = 9 := List.mem_singleton.1 hj
    clear hj
    have hup := up_any ((HP.out.2.1.la k HI.out).keep (fun g hg => hbd.block g (HP.out.2.2.1 g hg)) fun _ h => h) (fun g hg => Nat.lt_of_lt_of_le (HP.out.2.2.1 g hg) hbd.size) (HP.out.2.2.2.1.at k).2 HP.out.2.2.2.2 hb
    refine op_call (R := fun v w1 => w1.ownsRow Z1.heap.size 95 2 v (eat es k).la.length (stV (upS (eat es k).la base)) ∧ Below Z1.heap.size Z1.drew w1) (f := 46) (some 36) rfl rfl (by rfl) (by go_simp; (try with_reducible rfl)) (hup.mono ?_) ?_
    · rintro e w1 ⟨v, rfl, h1, h2⟩
      exact ⟨_, rfl, h1, h2⟩
    rintro v w2 ⟨h1, h2⟩
    obtain ⟨va, vc, rfl⟩ := row_shape h1
    have l1 := keep_cell h2 n1
    have l2 := keep_frozen h2 (World.block_lt_of_cell? _ _ n1) n2
    have hS1 := keep_cell h2 hS0
    refine ⟨hS1, ?_⟩
    have HN2 := hideT (HR2.out.la HI.out ((drew_below _ Z1).trans h2) h1)
    clear hup hbd h1 h2 hS0 n1 n2 m1 m2
    simp only [Act.put, List.setIfInBounds_toArray, List.set_cons_zero, List.set_cons_succ]
    refine tq 10 37 hS1 ?_
    refine tq 11 38 hS1 ?_
    simp only [Act.put, List.setIfInBounds_toArray, List.set_cons_zero, List.set_cons_succ]
    refine wpAnyH_all (rs := [12]) (by kernel_rfl) (by simp) (fun j hj => ?_)
    obtain rfl : j = 12 := List.mem_singleton.1 hj
    clear hj
    refine op_skip rfl rfl (by rfl) (w' := w2.setCell ⟨C, k * 3 + 2, none⟩ (.slice va (eat es k).la.length vc)) (by go_simp; (try with_reducible rfl)) ⟨HLB.out _ HN2.out.bel, ?_⟩
    refine wpAnyH_done (by kernel_rfl) (hK2 _ _ ?_) _
    clear l1 l2 hS1 hK2
    simp only [Act.put]
    generalize w2.setCell ⟨C, k * 3 + 2, none⟩ (.slice va (eat es k).la.length vc) = Z2 at *
    go_wp2_with fail
    exact ⟨⟨k + 1, HI.out, by go_num, HN2⟩, by simp [intOf]; have := HI.out; omega⟩
  · obtain rfl : k = 4 := by omega
    obtain ⟨uu, h1, h2, h3, h4⟩ := HR.out.done HP.out.2.2.2.1.len
    have h5 := HR.out.res
    have H3 := hideT (And.intro h3 h4)
    clear h3 h4 hlt hk HLB
    go_upto_region 8 with fail
    refine ret_part (b := C) (b' := w.heap.size) (cs := lst12 uu) (zs := zl12) rfl (by assumption) rfl rfl (by decide) rfl h1 h5 rfl rfl h2 rfl rfl ⟨uu, rfl, H3.out.1, H3.out.2⟩
end Go.Proofs.Ytolpakpdkheanaa.tly
