/- tally: the table while its positions are tied. -/
import Derived.Test.YtolpakpdkheanaaKTf
import Derived.Deep.CutBlock
set_option maxRecDepth 100000
set_option maxHeartbeats 4000000
namespace Go.Proofs.Ytolpakpdkheanaa.tly
open Go.RowKit Go.Proofs.Ytolpakpdkheanaa.br
def wd4 (q : Nat → Bool) : List Value := [.int .u64 (wd q 0 : Nat), .int .u64 (wd q 1 : Nat), .int .u64 (wd q 2 : Nat), .int .u64 (wd q 3 : Nat)]
/-- the cells of sets of bytes -/
def tkV : List (Nat → Bool) → List Value
 | [] => []
 | q :: l => wd4 q ++ tkV l
theorem tkV_len : ∀ l : List (Nat → Bool), (tkV l).length = l.length * 4
 | [] => rfl
 | q :: l => by rw [tkV, List.length_append, tkV_len l, List.length_cons]; show 4 + _ = _; omega
theorem tkV_app : ∀ a b : List (Nat → Bool), tkV (a ++ b) = tkV a ++ tkV b
 | [], _ => rfl
 | q :: a, b => by rw [List.cons_append, tkV, tkV, tkV_app a b, List.append_assoc]
theorem tkV_set {l : List (Nat → Bool)} {i : Nat} (q : Nat → Bool) (h : i < l.length) : tkV (l.set i q) = tkV (l.take i) ++ (wd4 q ++ tkV (l.drop (i + 1))) := by
 rw [List.set_eq_take_append_cons_drop, if_pos h, tkV_app]; rfl
theorem tkV_split {l : List (Nat → Bool)} {i : Nat} (h : i < l.length) : tkV l = tkV (l.take i) ++ (wd4 l[i] ++ tkV (l.drop (i + 1))) := by
 have := tkV_set l[i] h
 rwa [List.set_getElem_self] at this
theorem tkV_at {l : List (Nat → Bool)} {i : Nat} {q : Nat → Bool} (h : l[i]? = some q) (j : Nat) (hj : j < 4) : (tkV l)[i * 4 + j]? = (wd4 q)[j]? := by
 obtain ⟨hi, e⟩ := List.getElem?_eq_some_iff.1 h
 rw [tkV_split hi, e]
 have hl : (tkV (l.take i)).length = i * 4 := by rw [tkV_len, List.length_take]; omega
 rw [List.getElem?_append_right (by omega), hl, show i * 4 + j - i * 4 = j by omega, List.getElem?_append_left (by exact hj)]
/-- the table at block T while its positions are tied: what they take at gt, what follows them at gn -/
structure TiV (W : World) (X T gt gn N : Nat) (a : TN) : Prop where
 c2 : ∃ c, W.cell? ⟨T, 2, none⟩ = some (.slice (some ⟨gt, 0, none⟩) N c)
 c3 : ∃ c, W.cell? ⟨T, 3, none⟩ = some (.slice (some ⟨gn, 0, none⟩) N c)
 tk : W.heap[gt]? = some (.cells (tkV a.1).toArray 38 (0, 0)) ∧ a.1.length = N
 nx : ∃ vs : List Value, W.heap[gn]? = some (.cells vs.toArray 81 (0, 0)) ∧ vs.length = N ∧ a.2.length = N ∧ ∀ (i : Nat) (l : Stp), a.2[i]? = some l → StOk N l ∧ ∃ v, vs[i]? = some v ∧ StR W (Sb X W.heap.size) v l
 ne : gt ≠ gn ∧ T ≠ gt ∧ T ≠ gn ∧ X ≤ gt ∧ X ≤ gn
/-- all but gt and gn is as it was -/
structure TiF (gt gn : Nat) (W W' : World) : Prop where
 os : W'.os = W.os
 tape : W'.tape = W.tape
 output : W'.output = W.output
 size : W.heap.size ≤ W'.heap.size
 block : ∀ k, k < W.heap.size → k ≠ gt → k ≠ gn → W'.heap[k]? = W.heap[k]?
theorem TiF.refl (gt gn : Nat) (W : World) : TiF gt gn W W := ⟨rfl, rfl, rfl, Nat.le_refl _, fun _ _ _ _ => rfl⟩
theorem TiF.trans {gt gn : Nat} {X Y Z : World} (h : TiF gt gn X Y) (k : TiF gt gn Y Z) : TiF gt gn X Z := ⟨k.os.trans h.os, k.tape.trans h.tape, k.output.trans h.output, Nat.le_trans h.size k.size, fun i hi h1 h2 => (k.block i (Nat.lt_of_lt_of_le hi h.size) h1 h2).trans (h.block i hi h1 h2)⟩
theorem TiF.of {gt gn : Nat} {X Y : World} (h : Below X.heap.size X Y) : TiF gt gn X Y := ⟨h.os, h.tape, h.output, h.size, fun k hk _ _ => h.block k hk⟩
variable {W W' : World} {X T gt gn N : Nat} {a : TN}
theorem TiV.lt (h : TiV W X T gt gn N a) : T < W.heap.size ∧ gt < W.heap.size ∧ gn < W.heap.size := by
 obtain ⟨c, hc⟩ := h.c2
 obtain ⟨vs, hv, _⟩ := h.nx
 exact ⟨World.block_lt_of_cell? W _ hc, (Array.getElem?_eq_some_iff.1 h.tk.1).1, (Array.getElem?_eq_some_iff.1 hv).1⟩
theorem TiV.below (h : TiV W X T gt gn N a) (hb : Below W.heap.size W W') : TiV W' X T gt gn N a := by
 obtain ⟨h1, h2, h3⟩ := h.lt
 obtain ⟨c, hc⟩ := h.c2
 obtain ⟨d, hd⟩ := h.c3
 obtain ⟨vs, v1, v2, v3, v4⟩ := h.nx
 exact ⟨⟨c, keep_cell hb hc⟩, ⟨d, keep_cell hb hd⟩, ⟨(hb.block _ h2).trans h.tk.1, h.tk.2⟩, ⟨vs, (hb.block _ h3).trans v1, v2, v3, fun i l hl => ⟨(v4 i l hl).1, by obtain ⟨v, e, r⟩ := (v4 i l hl).2; exact ⟨v, e, r.grow' hb⟩⟩⟩, h.ne⟩
/-- a position takes other bytes -/
theorem TiV.setTk (h : TiV W X T gt gn N a) {i : Nat} (hi : i < N) (q : Nat → Bool) : TiV (W.setCells gt (i * 4) (wd4 q)) X T gt gn N (a.1.set i q, a.2) ∧ TiF gt gn W (W.setCells gt (i * 4) (wd4 q)) := by
 obtain ⟨c, hc⟩ := h.c2
 obtain ⟨d, hd⟩ := h.c3
 obtain ⟨vs, v1, v2, v3, v4⟩ := h.nx
 have hia : i < a.1.length := by rw [h.tk.2]; exact hi
 have hspl : W.heap[gt]? = some (.cells (tkV (a.1.take i) ++ (wd4 a.1[i] ++ tkV (a.1.drop (i + 1)))).toArray 38 (0, 0)) := by rw [← tkV_split hia]; exact h.tk.1
 have hpl : (tkV (a.1.take i)).length = i * 4 := by rw [tkV_len, List.length_take]; omega
 obtain ⟨w4, hw4⟩ : ∃ w4, w4 = wd4 q := ⟨_, rfl⟩
 have hw4l : (wd4 a.1[i]).length = w4.length := by rw [hw4]; rfl
 have hset : (W.setCells gt (i * 4) w4).heap[gt]? = some (.cells (tkV (a.1.set i q)).toArray 38 (0, 0)) := by
  rw [tkV_set q hia, ← hw4]
  exact setCells_at gt 38 (0, 0) w4 _ _ _ W (i * 4) hspl hpl hw4l
 rw [← hw4]
 clear hspl hpl hw4l
 have far : ∀ k, k ≠ gt → (W.setCells gt (i * 4) w4).heap[k]? = W.heap[k]? := fun k hk => setCells_far W gt hk _ _
 have hsz := setCells_size gt w4 W (i * 4)
 have h5 := setCells_os gt w4 W (i * 4)
 have h6 := setCells_tape gt w4 W (i * 4)
 have h7 := setCells_output gt w4 W (i * 4)
 generalize W.setCells gt (i * 4) w4 = Z at *
 exact ⟨⟨⟨c, (World.cell?_of_block (a := ⟨T, 2, none⟩) (far T h.ne.2.1)).trans hc⟩, ⟨d, (World.cell?_of_block (a := ⟨T, 3, none⟩) (far T h.ne.2.1)).trans hd⟩, ⟨hset, by simp [h.tk.2]⟩, ⟨vs, (far gn (Ne.symm h.ne.1)).trans v1, v2, v3, fun j l hl => ⟨(v4 j l hl).1, by
  obtain ⟨v, e, r⟩ := (v4 j l hl).2
  rw [hsz]
  exact ⟨v, e, r.far h.tk.1 (by decide) far⟩⟩⟩, h.ne⟩, ⟨h5, h6, h7, by rw [hsz]; exact Nat.le_refl _, fun k _ h1 _ => far k h1⟩⟩
/-- other steps follow a position -/
theorem TiV.setNx (h : TiV W X T gt gn N a) (hb : Below W.heap.size W W') {i : Nat} (hi : i < N) {l : Stp} {v : Value} {nx' : List Stp} (hl : StOk N l) (hv : StR W' (Sb X W'.heap.size) v l) (e1 : nx'.length = a.2.length) (e2 : nx'[i]? = some l) (e3 : ∀ j, j ≠ i → nx'[j]? = a.2[j]?) : TiV (W'.setCell ⟨gn, i, none⟩ v) X T gt gn N (a.1, nx') ∧ TiF gt gn W (W'.setCell ⟨gn, i, none⟩ v) := by
 have h' := h.below hb
 obtain ⟨c, hc⟩ := h'.c2
 obtain ⟨d, hd⟩ := h'.c3
 obtain ⟨vs, v1, v2, v3, v4⟩ := h'.nx
 have far : ∀ k, k ≠ gn → (W'.setCell ⟨gn, i, none⟩ v).heap[k]? = W'.heap[k]? := fun k hk => Below.heap_setCell W' ⟨gn, i, none⟩ v k hk
 have hsz : (W'.setCell ⟨gn, i, none⟩ v).heap.size = W'.heap.size := by simp
 refine ⟨⟨⟨c, (World.cell?_of_block (a := ⟨T, 2, none⟩) (far T h.ne.2.2.1)).trans hc⟩, ⟨d, (World.cell?_of_block (a := ⟨T, 3, none⟩) (far T h.ne.2.2.1)).trans hd⟩, ⟨(far gt h.ne.1).trans h'.tk.1, h'.tk.2⟩, ⟨vs.set i v, cells_set v1 i v, by simp [v2], by rw [e1]; exact v3, fun j x hx => ?_⟩, h.ne⟩, ⟨hb.os, hb.tape, hb.output, by rw [hsz]; exact hb.size, fun k hk _ h2 => (far k h2).trans (hb.block k hk)⟩⟩
 rw [hsz]
 by_cases e : j = i
 · subst e
   have hx : nx'[j]? = some x := hx
   rw [e2] at hx
   cases hx
   exact ⟨hl, v, by rw [List.getElem?_set]; simp [v2, hi], hv.far v1 (by decide) far⟩
 · have hx : nx'[j]? = some x := hx
   rw [e3 j e] at hx
   obtain ⟨w1, y, w2, w3⟩ := v4 j x hx
   exact ⟨w1, y, by rw [List.getElem?_set]; rw [if_neg (Ne.symm e)]; exact w2, w3.far v1 (by decide) far⟩
theorem modify_facts (nx : List Stp) (i : Nat) (f : Stp → Stp) {l : Stp} (h : nx[i]? = some l) : (nx.modify i f).length = nx.length ∧ (nx.modify i f)[i]? = some (f l) ∧ ∀ j, j ≠ i → (nx.modify i f)[j]? = nx[j]? := by
 refine ⟨List.length_modify _ _ _, ?_, fun j hj => ?_⟩
 · rw [List.getElem?_modify_eq, h]; rfl
 · rw [List.getElem?_modify]
   cases nx[j]? with
   | none => rfl
   | some x => show some (if i = j then f x else x) = some x; rw [if_neg (Ne.symm hj)]
/-- the cells of the steps that follow a position -/
theorem TiV.at (h : TiV W X T gt gn N a) {i : Nat} (hi : i < N) : ∃ l v, a.2[i]? = some l ∧ StOk N l ∧ StR W (Sb X W.heap.size) v l ∧ W.cell? ⟨gn, i, none⟩ = some v ∧ W.frozen? ⟨gn, i, none⟩ = false := by
 obtain ⟨vs, v1, v2, v3, v4⟩ := h.nx
 have hl : a.2[i]? = some a.2[i] := List.getElem?_eq_getElem (by omega)
 obtain ⟨e1, v, e2, e3⟩ := v4 i _ hl
 exact ⟨_, v, hl, e1, e3, cells_at v1 e2⟩
end Go.Proofs.Ytolpakpdkheanaa.tly
