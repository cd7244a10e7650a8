/- tally: what New makes: slices of its own, the lasts, the rows that live. tally: the states of New. -/
import Derived.Test.YtolpakpdkheanaaKNb
set_option maxRecDepth 100000
set_option maxHeartbeats 4000000
namespace Go.Proofs.Ytolpakpdkheanaa.tly
open Go.RowKit Go.Maps Go.WideMaps Go.Proofs.Ytolpakpdkheanaa.br
abbrev slN : Value := .slice none 0 0
theorem wd_xad : ∀ j, j < 4 → wd xad j = 0 := by decide +kernel
theorem tkV_xad : ∀ n : Nat, tkV (List.replicate n xad) = List.replicate (n * 4) (.int .u64 0)
 | 0 => rfl
 | n + 1 => by
  rw [List.replicate_succ, tkV, tkV_xad n, wd4, wd_xad 0 (by omega), wd_xad 1 (by omega), wd_xad 2 (by omega), wd_xad 3 (by omega), show (n + 1) * 4 = n * 4 + 1 + 1 + 1 + 1 by omega, List.replicate_succ, List.replicate_succ, List.replicate_succ, List.replicate_succ]; rfl
theorem info_se : (Try.prog.info? 38).map (fun i => (i.zero, i.size, i.bytes)) = some (some (.agg #[.int .u64 0, .int .u64 0, .int .u64 0, .int .u64 0]), 4, 32) := by kernel_rfl
theorem und_se : Try.prog.underlying 79 = some (.slice 38) := by kernel_rfl
theorem make_se (n : Nat) (hc : n ≤ 1000000) (V : World) : (Instr.makeSlice 79 (.int .i64 (n : Nat)) (.int .i64 (n : Nat))).run Try.prog V = .ok (.slice (some ⟨V.heap.size, 0, none⟩) n n) (V.alloc (.cells (tkV (List.replicate n xad)).toArray 38)) := by
 obtain ⟨i0, hi, hz0, hz1, hz2⟩ := info_parts info_se
 have := run_makeSlice (P := Try.prog) (w := V) 79 38 i0 _ und_se hi hz0 .i64 .i64 n n (by omega) (by omega) (by rw [hz1, Int.toNat_natCast]; omega) (by rw [hz2]; omega) (by omega)
 rw [hz1, Int.toNat_natCast] at this
 rw [this, made_one _ (.int .u64 0) (fun i => ?_)]
 · rw [tkV_xad]
 · have h4 : i % 4 < 4 := Nat.mod_lt _ (by omega)
   show (#[.int .u64 0, .int .u64 0, .int .u64 0, .int .u64 0] : Array Value)[i % 4]! = _
   match i % 4, h4 with
   | 0, _ => rfl
   | 1, _ => rfl
   | 2, _ => rfl
   | 3, _ => rfl
theorem info_ss : (Try.prog.info? 81).map (fun i => (i.zero, i.size, i.bytes)) = some (some (.slice none 0 0), 1, 24) := by kernel_rfl
theorem und_ss : Try.prog.underlying 88 = some (.slice 81) := by kernel_rfl
theorem make_ss (n : Nat) (hc : n ≤ 1000000) (V : World) : (Instr.makeSlice 88 (.int .i64 (n : Nat)) (.int .i64 (n : Nat))).run Try.prog V = .ok (.slice (some ⟨V.heap.size, 0, none⟩) n n) (V.alloc (.cells (List.replicate n (.slice none 0 0)).toArray 81)) := by
 obtain ⟨i0, hi, hz0, hz1, hz2⟩ := info_parts info_ss
 have := run_makeSlice (P := Try.prog) (w := V) 88 81 i0 _ und_ss hi hz0 .i64 .i64 n n (by omega) (by omega) (by rw [hz1, Int.toNat_natCast]; omega) (by rw [hz2]; omega) (by omega)
 rw [hz1, Int.toNat_natCast, Nat.mul_one] at this
 rw [this, made_one _ (.slice none 0 0) (fun i => ?_)]
 have h4 : i % 1 < 1 := Nat.mod_lt _ (by omega)
 show (#[.slice none 0 0] : Array Value)[i % 1]! = _
 rw [show i % 1 = 0 by omega]; rfl
theorem info_sb : (Try.prog.info? 97).map (fun i => (i.zero, i.size, i.bytes)) = some (some (.slice none 0 0), 1, 24) := by kernel_rfl
theorem und_sb : Try.prog.underlying 89 = some (.slice 97) := by kernel_rfl
theorem make_sb (n : Nat) (hc : n ≤ 1000000) (V : World) : (Instr.makeSlice 89 (.int .i64 (n : Nat)) (.int .i64 (n : Nat))).run Try.prog V = .ok (.slice (some ⟨V.heap.size, 0, none⟩) n n) (V.alloc (.cells (List.replicate n (.slice none 0 0)).toArray 97)) := by
 obtain ⟨i0, hi, hz0, hz1, hz2⟩ := info_parts info_sb
 have := run_makeSlice (P := Try.prog) (w := V) 89 97 i0 _ und_sb hi hz0 .i64 .i64 n n (by omega) (by omega) (by rw [hz1, Int.toNat_natCast]; omega) (by rw [hz2]; omega) (by omega)
 rw [hz1, Int.toNat_natCast, Nat.mul_one] at this
 rw [this, made_one _ (.slice none 0 0) (fun i => ?_)]
 have h4 : i % 1 < 1 := Nat.mod_lt _ (by omega)
 show (#[.slice none 0 0] : Array Value)[i % 1]! = _
 rw [show i % 1 = 0 by omega]; rfl
theorem info_si : (Try.prog.info? 3).map (fun i => (i.zero, i.size, i.bytes)) = some (some (.int .i64 0), 1, 8) := by kernel_rfl
theorem und_si : Try.prog.underlying 54 = some (.slice 3) := by kernel_rfl
theorem make_si (n : Nat) (hc : n ≤ 1000000) (V : World) : (Instr.makeSlice 54 (.int .i64 (n : Nat)) (.int .i64 (n : Nat))).run Try.prog V = .ok (.slice (some ⟨V.heap.size, 0, none⟩) n n) (V.alloc (.cells (List.replicate n (.int .i64 0)).toArray 3)) := by
 obtain ⟨i0, hi, hz0, hz1, hz2⟩ := info_parts info_si
 have := run_makeSlice (P := Try.prog) (w := V) 54 3 i0 _ und_si hi hz0 .i64 .i64 n n (by omega) (by omega) (by rw [hz1, Int.toNat_natCast]; omega) (by rw [hz2]; omega) (by omega)
 rw [hz1, Int.toNat_natCast, Nat.mul_one] at this
 rw [this, made_one _ (.int .i64 0) (fun i => ?_)]
 have h4 : i % 1 < 1 := Nat.mod_lt _ (by omega)
 show (#[.int .i64 0] : Array Value)[i % 1]! = _
 rw [show i % 1 = 0 by omega]; rfl
def inV (l : List Nat) : List Value := l.map fun n => .int .i64 (n : Nat)
theorem inV_len (l : List Nat) : (inV l).length = l.length := List.length_map _
theorem inV_set (l : List Nat) (i x : Nat) : (inV l).set i (.int .i64 (x : Nat)) = inV (l.set i x) := by
 unfold inV
 rw [List.map_set]
def lastI (n : Nat) (l : Stp) (i : Nat) : List Nat := (l.take i).foldl (fun r s => r.set s.1 s.2) (List.replicate n 0)
theorem lastI_step {n : Nat} {l : Stp} {i : Nat} {x : Nat × Nat} (h : l[i]? = some x) : (lastI n l i).set x.1 x.2 = lastI n l (i + 1) := by
 obtain ⟨h1, h2⟩ := List.getElem?_eq_some_iff.1 h
 rw [lastI, lastI, List.take_succ_eq_append_getElem h1, h2, List.foldl_append]; rfl
theorem lastI_all (n : Nat) (l : Stp) : lastI n l l.length = lastR n l := by rw [lastI, List.take_length]; rfl
theorem lastI_zero (n : Nat) (l : Stp) : lastI n l 0 = List.replicate n 0 := rfl
theorem foldl_set_len (n : Nat) : ∀ (l : Stp) (r : List Nat), r.length = n → (l.foldl (fun r s => r.set s.1 s.2) r).length = n
 | [], r, h => h
 | x :: l, r, h => foldl_set_len n l _ (by rw [List.length_set]; exact h)
theorem lastI_len (n : Nat) (l : Stp) (i : Nat) : (lastI n l i).length = n := foldl_set_len n _ _ (by simp)
theorem foldl_set_le : ∀ (l : Stp) (r : List Nat), (∀ s ∈ l, s.2 ≤ 4097) → (∀ x ∈ r, x ≤ 4097) → ∀ x ∈ l.foldl (fun r s => r.set s.1 s.2) r, x ≤ 4097
 | [], r, _, h => h
 | y :: l, r, hl, h => foldl_set_le l _ (fun s hs => hl s (List.mem_cons_of_mem _ hs)) (fun x hx => by
  rcases List.mem_or_eq_of_mem_set hx with h1 | h1
  · exact h x h1
  · rw [h1]; exact hl y List.mem_cons_self)
theorem lastR_le {n : Nat} {l : Stp} (h : StOk n l) (i : Nat) : (lastR n l).getD i 0 ≤ 4097 := by
 rw [List.getD_eq_getElem?_getD]
 cases e : (lastR n l)[i]? with
 | none => exact Nat.zero_le _
 | some x => exact foldl_set_le l _ (fun s hs => (h.lt s hs).2) (fun x hx => by rw [(List.mem_replicate.1 hx).2]; exact Nat.zero_le _) x (List.mem_of_getElem? e)
theorem lastI_rep {n : Nat} (i : Nat) : inV (lastI n [] i) = List.replicate n (.int .i64 0) := by simp [inV, lastI]
theorem rep_inV (n : Nat) (l : Stp) : (List.replicate n (.int .i64 0) : List Value) = inV (lastI n l 0) := by simp [inV, lastI]
theorem inV_at {l : List Nat} {i : Nat} (h : i < l.length) : (inV l)[i]? = some (.int .i64 (l.getD i 0 : Nat)) := by
 rw [inV, List.getElem?_map, List.getElem?_eq_getElem h, List.getD_eq_getElem?_getD, List.getElem?_eq_getElem h]; rfl
end Go.Proofs.Ytolpakpdkheanaa.tly
namespace Go.Proofs.Ytolpakpdkheanaa.tly
open Go.RowKit Go.Maps Go.WideMaps Go.Proofs.Ytolpakpdkheanaa.br
theorem mk_step (V : World) (o : Obj) : ∃ (g : Nat) (V' : World), V' = V.alloc o ∧ g = V.heap.size ∧ V'.heap[g]? = some o ∧ Below V.heap.size V V' :=
 ⟨_, _, rfl, rfl, World.alloc_heap_new V o, (Below.refl _ V).alloc (Nat.le_refl _) o⟩
theorem below_put {B : Nat} {X V : World} (hb : Below B X V) {b : Nat} (h : B ≤ b) (i : Nat) (v : Value) : Below B X (V.setCell ⟨b, i, none⟩ v) := below_setCells b h [v] V i hb
theorem keep_blk {V V' : World} {g : Nat} {o : Obj} (hb : Below V.heap.size V V') (h : V.heap[g]? = some o) : V'.heap[g]? = some o := (hb.block g (Array.getElem?_eq_some_iff.1 h).1).trans h
theorem mks_yield {P : Program} {o : Oper} {t : TypeId} {x y : Operand} {ev : Operand → Value} {l : Int} {r : Value} {V V' : World} (ho : o.op = .makeSlice t x y) (hx : ev x = .int .i64 l) (hy : ev y = .int .i64 l) (h : (Instr.makeSlice t (.int .i64 l) (.int .i64 l)).run P V = .ok r V') : (execOp ev o).run P V = .ok (.value r) V' := by
 simp [execOp, ho, hx, hy, h, Result.andThen]
theorem mkm_yield {P : Program} {o : Oper} {t : TypeId} {ev : Operand → Value} {V : World} (ho : o.op = .makeMap t none) : (execOp ev o).run P V = .ok (.value (.map (some V.heap.size))) (V.alloc (.map #[] 0)) := by
 have h := run_makeMap (P := P) t V
 simp [execOp, ho, h, Result.andThen]
def tbV (c : Nat) (s : ByteArray) (gt gn N : Nat) (es : List Value) (gl M : Nat) : List Value := [.pointer (some ⟨c, 0, none⟩), .string s, .slice (some ⟨gt, 0, none⟩) N N, .slice (some ⟨gn, 0, none⟩) N N] ++ es ++ [.slice (some ⟨gl, 0, none⟩) (s.size + 1) (s.size + 1), .map (some M)]
structure NwA (W V : World) (N : Nat) (s : ByteArray) (c T gt gn gl M : Nat) (es : List Value) : Prop where
 tk : V.heap[gt]? = some (.cells (tkV (List.replicate N xad)).toArray 38 (0, 0))
 nx : V.heap[gn]? = some (.cells (List.replicate N slN).toArray 81 (0, 0))
 lv : V.heap[gl]? = some (.cells (List.replicate (s.size + 1) slN).toArray 97 (0, 0))
 mp : V.heap[M]? = some (.map #[] 0)
 tb : V.heap[T]? = some (.cells (tbV c s gt gn N es gl M).toArray 93 (0, 0))
 be : Below W.heap.size W V
 ge : W.heap.size ≤ gt ∧ W.heap.size ≤ gn ∧ W.heap.size ≤ gl ∧ W.heap.size ≤ M ∧ W.heap.size ≤ T
theorem ne_ty {V : World} {a b : Nat} {x y : Array Value} {t u : TypeId} {f g : Nat × Nat} (ha : V.heap[a]? = some (.cells x t f)) (hb : V.heap[b]? = some (.cells y u g)) (h : t ≠ u) : a ≠ b := fun e => by
 subst e
 rw [ha] at hb
 injection hb with hb
 injection hb with _ h1 _
 exact h h1
theorem ne_mp {V : World} {a b : Nat} {x : Array Value} {t : TypeId} {f : Nat × Nat} {es : Array MapEntry} {c : Nat} (ha : V.heap[a]? = some (.cells x t f)) (hb : V.heap[b]? = some (.map es c)) : a ≠ b := fun e => by
 subst e
 rw [ha] at hb
 cases hb
variable {W V V' : World} {N : Nat} {s : ByteArray} {c T gt gn gl M : Nat} {es : List Value}
theorem tb_at (he : es.length = 4) {k : Nat} (hk : k < 4) : (tbV c s gt gn N es gl M)[4 + k]? = es[k]? := by
 unfold tbV
 rw [List.append_assoc, List.getElem?_append_right (by simp), List.getElem?_append_left (by simp [he]; omega)]
 simp
theorem tb_set (he : es.length = 4) {k : Nat} (hk : k < 4) (v : Value) : (tbV c s gt gn N es gl M).set (4 + k) v = tbV c s gt gn N (es.set k v) gl M := by
 unfold tbV
 rw [List.append_assoc, List.set_append_right _ _ (by simp), List.set_append_left _ _ (by simp [he]; omega), List.append_assoc]
 simp
theorem tb_8 (he : es.length = 4) : (tbV c s gt gn N es gl M)[8]? = some (.slice (some ⟨gl, 0, none⟩) (s.size + 1) (s.size + 1)) := by
 unfold tbV
 rw [List.getElem?_append_right (by simp [he])]
 simp [he]
theorem tb_9 (he : es.length = 4) : (tbV c s gt gn N es gl M)[9]? = some (.map (some M)) := by
 unfold tbV
 rw [List.getElem?_append_right (by simp [he])]
 simp [he]
theorem NwA.below (h : NwA W V N s c T gt gn gl M es) (hb : Below V.heap.size V V') : NwA W V' N s c T gt gn gl M es :=
 ⟨keep_blk hb h.tk, keep_blk hb h.nx, keep_blk hb h.lv, keep_blk hb h.mp, keep_blk hb h.tb, h.be.trans (hb.mono h.be.size), h.ge⟩
theorem NwA.ne (h : NwA W V N s c T gt gn gl M es) : gt ≠ gn ∧ T ≠ gt ∧ T ≠ gn ∧ T ≠ gl ∧ gt ≠ gl ∧ gn ≠ gl ∧ T ≠ M ∧ gt ≠ M ∧ gn ≠ M ∧ gl ≠ M :=
 ⟨ne_ty h.tk h.nx (by decide), ne_ty h.tb h.tk (by decide), ne_ty h.tb h.nx (by decide), ne_ty h.tb h.lv (by decide), ne_ty h.tk h.lv (by decide), ne_ty h.nx h.lv (by decide), ne_mp h.tb h.mp, ne_mp h.tk h.mp, ne_mp h.nx h.mp, ne_mp h.lv h.mp⟩
theorem NwA.lt (h : NwA W V N s c T gt gn gl M es) : gt < V.heap.size ∧ gn < V.heap.size ∧ gl < V.heap.size ∧ M < V.heap.size ∧ T < V.heap.size :=
 ⟨(Array.getElem?_eq_some_iff.1 h.tk).1, (Array.getElem?_eq_some_iff.1 h.nx).1, (Array.getElem?_eq_some_iff.1 h.lv).1, (Array.getElem?_eq_some_iff.1 h.mp).1, (Array.getElem?_eq_some_iff.1 h.tb).1⟩
theorem NwA.setE (h : NwA W V N s c T gt gn gl M es) (he : es.length = 4) {k : Nat} (hk : k < 4) (v : Value) : NwA W (V.setCell ⟨T, 4 + k, none⟩ v) N s c T gt gn gl M (es.set k v) := by
 have far : ∀ j, j ≠ T → (V.setCell ⟨T, 4 + k, none⟩ v).heap[j]? = V.heap[j]? := fun j hj => Below.heap_setCell V ⟨T, 4 + k, none⟩ v j hj
 obtain ⟨n1, n2, n3, n4, n5, n6, n7, n8, n9, n10⟩ := h.ne
 exact ⟨(far _ n2.symm).trans h.tk, (far _ n3.symm).trans h.nx, (far _ n4.symm).trans h.lv, (far _ n7.symm).trans h.mp, by rw [cells_set h.tb, tb_set he hk], below_put h.be h.ge.2.2.2.2 _ _, h.ge⟩
theorem NwA.setO (h : NwA W V N s c T gt gn gl M es) {g i : Nat} {cs : Array Value} (hg : V.heap[g]? = some (.cells cs 3 (0, 0))) (hgW : W.heap.size ≤ g) (v : Value) : NwA W (V.setCell ⟨g, i, none⟩ v) N s c T gt gn gl M es := by
 have far : ∀ j, j ≠ g → (V.setCell ⟨g, i, none⟩ v).heap[j]? = V.heap[j]? := fun j hj => Below.heap_setCell V ⟨g, i, none⟩ v j hj
 exact ⟨(far _ (ne_ty h.tk hg (by decide))).trans h.tk, (far _ (ne_ty h.nx hg (by decide))).trans h.nx, (far _ (ne_ty h.lv hg (by decide))).trans h.lv, (far _ (Ne.symm (ne_mp hg h.mp))).trans h.mp, (far _ (ne_ty h.tb hg (by decide))).trans h.tb, below_put h.be hgW _ _, h.ge⟩
structure NwB (W V : World) (N : Nat) (s : ByteArray) (c T gt gn gl M : Nat) (es : List Value) (ge : Nat → Nat) (p : Tp) (k : Nat) : Prop where
 na : NwA W V N s c T gt gn gl M es
 el : es.length = 4
 ls : ∀ j, j < k → es[j]? = some (.slice (some ⟨ge j, 0, none⟩) N N) ∧ V.heap[ge j]? = some (.cells (inV (lastR N (eat p.eds j).la)).toArray 3 (0, 0)) ∧ W.heap.size ≤ ge j
structure NwC (W V : World) (N : Nat) (s : ByteArray) (c T gt gn gl M : Nat) (es : List Value) (ge : Nat → Nat) (p : Tp) (k g i : Nat) : Prop where
 nb : NwB W V N s c T gt gn gl M es ge p k
 ek : es[k]? = some (.slice (some ⟨g, 0, none⟩) N N)
 gk : V.heap[g]? = some (.cells (inV (lastI N (eat p.eds k).la i)).toArray 3 (0, 0)) ∧ W.heap.size ≤ g ∧ ∀ j, j < k → ge j ≠ g
variable {ge : Nat → Nat} {p : Tp} {k g i : Nat}
theorem NwB.below (h : NwB W V N s c T gt gn gl M es ge p k) (hb : Below V.heap.size V V') : NwB W V' N s c T gt gn gl M es ge p k :=
 ⟨h.na.below hb, h.el, fun j hj => ⟨(h.ls j hj).1, keep_blk hb (h.ls j hj).2.1, (h.ls j hj).2.2⟩⟩
theorem NwC.below (h : NwC W V N s c T gt gn gl M es ge p k g i) (hb : Below V.heap.size V V') : NwC W V' N s c T gt gn gl M es ge p k g i :=
 ⟨h.nb.below hb, h.ek, keep_blk hb h.gk.1, h.gk.2⟩
theorem NwB.begin (h : NwB W V N s c T gt gn gl M es ge p k) (hk : k < 4) (hb : Below V.heap.size V V') (hg : V'.heap[g]? = some (.cells (List.replicate N (.int .i64 0)).toArray 3 (0, 0))) (hgV : V.heap.size ≤ g) : NwC W (V'.setCell ⟨T, 4 + k, none⟩ (.slice (some ⟨g, 0, none⟩) N N)) N s c T gt gn gl M (es.set k (.slice (some ⟨g, 0, none⟩) N N)) ge p k g 0 := by
 have h' := h.below hb
 have far : ∀ j, j ≠ T → (V'.setCell ⟨T, 4 + k, none⟩ (.slice (some ⟨g, 0, none⟩) N N)).heap[j]? = V'.heap[j]? := fun j hj => Below.heap_setCell V' ⟨T, 4 + k, none⟩ _ j hj
 refine ⟨⟨h'.na.setE h'.el hk _, by rw [List.length_set]; exact h'.el, fun j hj => ⟨?_, (far _ (Ne.symm (ne_ty h'.na.tb (h'.ls j hj).2.1 (by decide)))).trans (h'.ls j hj).2.1, (h'.ls j hj).2.2⟩⟩, ?_, ?_, Nat.le_trans h.na.be.size hgV, fun j hj e => ?_⟩
 · rw [List.getElem?_set_ne (by omega)]; exact (h'.ls j hj).1
 · rw [List.getElem?_set_self (by rw [h'.el]; exact hk)]
 · rw [far _ (Ne.symm (ne_ty h'.na.tb hg (by decide))), hg, rep_inV N (eat p.eds k).la]
 · have := (Array.getElem?_eq_some_iff.1 (h.ls j hj).2.1).1
   omega
theorem NwC.step (h : NwC W V N s c T gt gn gl M es ge p k g i) {x : Nat × Nat} (hx : (eat p.eds k).la[i]? = some x) : NwC W (V.setCell ⟨g, x.1, none⟩ (.int .i64 (x.2 : Nat))) N s c T gt gn gl M es ge p k g (i + 1) := by
 have far : ∀ j, j ≠ g → (V.setCell ⟨g, x.1, none⟩ (.int .i64 (x.2 : Nat))).heap[j]? = V.heap[j]? := fun j hj => Below.heap_setCell V ⟨g, x.1, none⟩ _ j hj
 refine ⟨⟨h.nb.na.setO h.gk.1 h.gk.2.1 _, h.nb.el, fun j hj => ⟨(h.nb.ls j hj).1, (far _ (h.gk.2.2 j hj)).trans (h.nb.ls j hj).2.1, (h.nb.ls j hj).2.2⟩⟩, h.ek, ?_, h.gk.2⟩
 rw [cells_set h.gk.1, inV_set, lastI_step hx]
theorem NwC.done (h : NwC W V N s c T gt gn gl M es ge p k g i) (hi : i = (eat p.eds k).la.length) : NwB W V N s c T gt gn gl M es (fun j => bif Nat.beq j k then g else ge j) p (k + 1) := by
 refine ⟨h.nb.na, h.nb.el, fun j hj => ?_⟩
 by_cases e : j = k
 · subst e
   rw [Nat.beq_refl, cond_true]
   refine ⟨h.ek, ?_, h.gk.2.1⟩
   rw [h.gk.1, hi, lastI_all]
 · have : Nat.beq j k = false := by cases e' : Nat.beq j k with | false => rfl | true => exact absurd (Nat.eq_of_beq_eq_true e') e
   rw [this, cond_false]
   exact h.nb.ls j (by omega)
theorem NwC.there (h : NwC W V N s c T gt gn gl M es ge p k g i) {x : Nat} (hx : x < N) : (∃ v, V.cell? ⟨g, x, none⟩ = some v) ∧ V.frozen? ⟨g, x, none⟩ = false := by
 have hl : x < (lastI N (eat p.eds k).la i).length := by rw [lastI_len]; exact hx
 obtain ⟨h1, h2⟩ := cells_at h.gk.1 (inV_at hl)
 exact ⟨⟨_, h1⟩, h2⟩
theorem tiv_zero (h : NwA W V N s c T gt gn gl M es) (_he : es.length = 4) : TiV V W.heap.size T gt gn N (List.replicate N xad, List.replicate N []) := by
 obtain ⟨n1, n2, n3, _⟩ := h.ne
 refine ⟨⟨N, (cells_at h.tb (j := 2) rfl).1⟩, ⟨N, (cells_at h.tb (j := 3) rfl).1⟩, ⟨h.tk, by simp⟩, ⟨_, h.nx, by simp, by simp, fun i l hl => ?_⟩, n1, n2, n3, h.ge.1, h.ge.2.1⟩
 obtain ⟨hi, e⟩ := List.getElem?_eq_some_iff.1 hl
 simp only [List.length_replicate] at hi
 rw [List.getElem_replicate] at e
 subst e
 exact ⟨StOk.nil _, slN, by rw [List.getElem?_replicate, if_pos hi], .inl ⟨rfl, rfl⟩⟩
structure NwL (V0 V : World) (X T : Nat) (s : ByteArray) (B : Tb) (gt gn gl : Nat) (ge : Nat → Nat) (pl : Nat) : Prop where
 ta : TaV V X T s B gt gn gl ge pl
 lg : ∃ vs : List Value, V.heap[gl]? = some (.cells vs.toArray 97 (0, 0)) ∧ vs.length = s.size + 1 ∧ ∀ v ∈ vs, ∃ a n c, v = .slice a n c
 fr : TiF gl gl V0 V
theorem NwL.below {V0 V V' : World} {X T : Nat} {s : ByteArray} {B : Tb} {gt gn gl : Nat} {ge : Nat → Nat} {pl : Nat} (h : NwL V0 V X T s B gt gn gl ge pl) (hb : Below V.heap.size V V') : NwL V0 V' X T s B gt gn gl ge pl := by
 obtain ⟨vs, v1, v2, v3⟩ := h.lg
 exact ⟨h.ta.below hb, ⟨vs, keep_blk hb v1, v2, v3⟩, h.fr.trans (.of hb)⟩
theorem ne_gl {V : World} {gl : Nat} {vs : List Value} (h1 : V.heap[gl]? = some (.cells vs.toArray 97 (0, 0))) (h3 : ∀ v ∈ vs, ∃ a n c, v = .slice a n c) {g i : Nat} {v : Value} (h : V.cell? ⟨g, i, none⟩ = some v) (hv : ∀ a n c, v ≠ .slice a n c) : g ≠ gl := fun e => by
 subst e
 unfold World.cell? at h
 rw [h1] at h
 simp only [List.getElem?_toArray] at h
 obtain ⟨a, n, c, e⟩ := h3 v (List.mem_of_getElem? (by simpa using h))
 exact hv a n c e
theorem bnS_size (s : ByteArray) : (bnS s).length = s.size := bnS_len s
theorem NwL.put {V0 V V' : World} {X T : Nat} {s : ByteArray} {B : Tb} {gt gn gl : Nat} {ge : Nat → Nat} {m : Nat} (h : NwL V0 V X T s B gt gn gl ge (m + 1)) (hne : T ≠ gl ∧ gt ≠ gl ∧ gn ≠ gl) (hm : m < s.size) (hb : Below V.heap.size V V') {v : Value} (hv : V'.ownsRow V.heap.size 4 1 v B.takes.length (boV (rowF B (bnS s) (m + 1) (nxtF B s (m + 1))))) (hN : v ≠ .slice none 0 0) : NwL V0 (V'.setCell ⟨gl, m + 1, none⟩ v) X T s B gt gn gl ge m := by
 have h' := h.below hb
 obtain ⟨vs, v1, v2, v3⟩ := h'.lg
 have far : ∀ j, j ≠ gl → (V'.setCell ⟨gl, m + 1, none⟩ v).heap[j]? = V'.heap[j]? := fun j hj => Below.heap_setCell V' ⟨gl, m + 1, none⟩ v j hj
 have fc : ∀ {g i : Nat} {u : Value}, g ≠ gl → V'.cell? ⟨g, i, none⟩ = some u → (V'.setCell ⟨gl, m + 1, none⟩ v).cell? ⟨g, i, none⟩ = some u := fun {g i u} hg hu => (World.cell?_of_block (a := ⟨g, i, none⟩) (far g hg)).trans hu
 have hsz : (V'.setCell ⟨gl, m + 1, none⟩ v).heap.size = V'.heap.size := by simp
 have ti := h'.ta.ti
 obtain ⟨c2, t2⟩ := ti.c2
 obtain ⟨c3, t3⟩ := ti.c3
 obtain ⟨ws, w1, w2, w3, w4⟩ := ti.nx
 obtain ⟨c8, t8⟩ := h'.ta.c8
 obtain ⟨a, cc, rfl⟩ := row_shape hv
 refine ⟨⟨⟨⟨c2, fc hne.1 t2⟩, ⟨c3, fc hne.1 t3⟩, ⟨(far _ hne.2.1).trans ti.tk.1, ti.tk.2⟩, ⟨ws, (far _ hne.2.2).trans w1, w2, w3, fun i l hl => ⟨(w4 i l hl).1, ?_⟩⟩, ti.ne⟩, fc hne.1 h'.ta.c1, ⟨c8, fc hne.1 t8⟩, fun k hk => ⟨?_, fun i hi => ?_⟩, fun q hq1 hq2 => ?_⟩, ⟨_, cells_set v1 (m + 1) _, by rw [List.length_set]; exact v2, fun u hu => ?_⟩, h'.fr.trans ⟨rfl, rfl, rfl, by simp, fun k hk h1 _ => far k h1⟩⟩
 · obtain ⟨u, e, r⟩ := (w4 i l hl).2
   rw [hsz]
   exact ⟨u, e, r.far v1 (by decide) far⟩
 · obtain ⟨ce, hce⟩ := (h'.ta.la k hk).1
   exact ⟨ce, fc hne.1 hce⟩
 · have := (h'.ta.la k hk).2 i hi
   exact fc (ne_gl v1 v3 this (fun _ _ _ e => by cases e)) this
 · by_cases hqm : m + 1 < q
   · obtain ⟨gr, rc, r1, r2⟩ := h'.ta.li q hqm hq2
     refine ⟨gr, rc, ?_, fun i b hb' => ?_⟩
     · have hge : (⟨gl, q, none⟩ : Addr) ≠ ⟨gl, m + 1, none⟩ := fun e => by injection e; omega
       have hcs := cells_set v1 (m + 1) (.slice a B.takes.length cc)
       have hq : vs[q]? = some (.slice (some ⟨gr, 0, none⟩) B.takes.length rc) := by
        unfold World.cell? at r1
        rw [v1] at r1
        simpa using r1
       exact (cells_at hcs (j := q) (by rw [List.getElem?_set_ne (by omega)]; exact hq)).1
     · have := r2 i b hb'
       exact fc (ne_gl v1 v3 this (fun _ _ _ e => by cases e)) this
   · obtain rfl : q = m + 1 := by omega
     have hcs := cells_set v1 (m + 1) (.slice a B.takes.length cc)
     obtain ⟨gr, rfl⟩ : ∃ gr, a = some ⟨gr, 0, none⟩ := by
      rcases hv.2 with ⟨e, h0⟩ | ⟨g, cap, cur, e, _⟩
      · injection e with e1 e2 e3
        exact absurd (by rw [e1, e2, e3]) hN
      · injection e with e1 _ _
        exact ⟨g, e1⟩
     refine ⟨gr, cc, (cells_at hcs (j := m + 1) (by rw [List.getElem?_set_self (by omega)])).1, fun i b hb' => ?_⟩
     have hb2 : (rowF B (bnS s) (m + 1) (nxtF B s (m + 1)))[i]? = some b := by
      rw [← hb']
      have hl : liveF B (bnS s) (s.size - (m + 1)) = rowF B (bnS s) (m + 1) (nxtF B s (m + 1)) := by
       unfold nxtF
       by_cases e : m + 1 = s.size
       · rw [e, Nat.sub_self, liveF, bnS_len, Nat.beq_refl, cond_true]
       · obtain ⟨r, hr⟩ : ∃ r, s.size - (m + 1) = r + 1 := ⟨s.size - (m + 1) - 1, by omega⟩
         have hbq : Nat.beq (m + 1) s.size = false := by cases e' : Nat.beq (m + 1) s.size with | false => rfl | true => exact absurd (Nat.eq_of_beq_eq_true e') e
         rw [hr, liveF, bnS_len, hbq, cond_false, show s.size - (r + 1) = m + 1 by omega, show r + 1 - 1 = r by omega]
      rw [hl]
     have hlt : i < B.takes.length := by rw [← rowF_len B (bnS s) (m + 1) (nxtF B s (m + 1))]; exact (List.getElem?_eq_some_iff.1 hb2).1
     have hown : V'.cell? ⟨gr, i, none⟩ = some (.bool b) := by
      obtain ⟨hl, h2⟩ := hv
      rcases h2 with ⟨e, h0⟩ | ⟨g, cap, cur, e, hbb, hh, hnn, hc, hs, ht⟩
      · injection e with e1 _ _; cases e1
      · injection e with e1 _ e3
        injection e1 with e1
        injection e1 with e1 _ _
        subst e1
        have h4 : (boV (rowF B (bnS s) (m + 1) (nxtF B s (m + 1))))[i]? = some (.bool b) := by rw [boV, List.getElem?_map, hb2]; rfl
        rw [← ht, List.getElem?_take_of_lt (by omega)] at h4
        simp only [World.cell?, hh]
        simpa using h4
     exact fc (ne_gl v1 v3 hown (fun _ _ _ e => by cases e)) hown
 · rcases List.mem_or_eq_of_mem_set hu with h1 | h1
   · exact v3 u h1
   · exact ⟨_, _, _, h1⟩
def slA : Value → Option Addr
 | .slice a _ _ => a
 | _ => none
def slC : Value → Nat
 | .slice _ _ c => c
 | _ => 0
theorem EsR.fn {W : World} {S : Nat → Prop} {u : Nat → Value} {es : List Ed} (h : EsR W S u es) : ∃ (fa la : Nat → Option Addr) (fc lc : Nat → Nat), ∀ k, k < 4 → u (k * 3) = .bool (eat es k).no ∧ u (k * 3 + 1) = .slice (fa k) (eat es k).fi.length (fc k) ∧ u (k * 3 + 2) = .slice (la k) (eat es k).la.length (lc k) ∧ StR W S (.slice (fa k) (eat es k).fi.length (fc k)) (eat es k).fi ∧ StR W S (.slice (la k) (eat es k).la.length (lc k)) (eat es k).la := by
 refine ⟨fun k => slA (u (k * 3 + 1)), fun k => slA (u (k * 3 + 2)), fun k => slC (u (k * 3 + 1)), fun k => slC (u (k * 3 + 2)), fun k hk => ?_⟩
 have h1 := h.fi k hk
 have h2 := h.la k hk
 obtain ⟨a, c, e1⟩ := h1.shape
 obtain ⟨b, d, e2⟩ := h2.shape
 rw [e1] at h1
 rw [e2] at h2
 refine ⟨h.no k hk, by dsimp only; rw [e1]; rfl, by dsimp only; rw [e2]; rfl, by dsimp only; rw [e1]; exact h1, by dsimp only; rw [e2]; exact h2⟩
theorem idx_0 (n : Nat → Bool) (fa la : Nat → Option Addr) (F L fc lc : Nat → Nat) (V : World) : (Instr.index 85 (.agg #[.bool (n 0), .slice (fa 0) (F 0) (fc 0), .slice (la 0) (L 0) (lc 0), .bool (n 1), .slice (fa 1) (F 1) (fc 1), .slice (la 1) (L 1) (lc 1), .bool (n 2), .slice (fa 2) (F 2) (fc 2), .slice (la 2) (L 2) (lc 2), .bool (n 3), .slice (fa 3) (F 3) (fc 3), .slice (la 3) (L 3) (lc 3)]) (.int .i64 (0 : Nat))).run Try.prog V = .ok (.agg #[.bool (n 0), .slice (fa 0) (F 0) (fc 0), .slice (la 0) (L 0) (lc 0)]) V := by kernel_rfl
theorem idx_1 (n : Nat → Bool) (fa la : Nat → Option Addr) (F L fc lc : Nat → Nat) (V : World) : (Instr.index 85 (.agg #[.bool (n 0), .slice (fa 0) (F 0) (fc 0), .slice (la 0) (L 0) (lc 0), .bool (n 1), .slice (fa 1) (F 1) (fc 1), .slice (la 1) (L 1) (lc 1), .bool (n 2), .slice (fa 2) (F 2) (fc 2), .slice (la 2) (L 2) (lc 2), .bool (n 3), .slice (fa 3) (F 3) (fc 3), .slice (la 3) (L 3) (lc 3)]) (.int .i64 (1 : Nat))).run Try.prog V = .ok (.agg #[.bool (n 1), .slice (fa 1) (F 1) (fc 1), .slice (la 1) (L 1) (lc 1)]) V := by kernel_rfl
theorem idx_2 (n : Nat → Bool) (fa la : Nat → Option Addr) (F L fc lc : Nat → Nat) (V : World) : (Instr.index 85 (.agg #[.bool (n 0), .slice (fa 0) (F 0) (fc 0), .slice (la 0) (L 0) (lc 0), .bool (n 1), .slice (fa 1) (F 1) (fc 1), .slice (la 1) (L 1) (lc 1), .bool (n 2), .slice (fa 2) (F 2) (fc 2), .slice (la 2) (L 2) (lc 2), .bool (n 3), .slice (fa 3) (F 3) (fc 3), .slice (la 3) (L 3) (lc 3)]) (.int .i64 (2 : Nat))).run Try.prog V = .ok (.agg #[.bool (n 2), .slice (fa 2) (F 2) (fc 2), .slice (la 2) (L 2) (lc 2)]) V := by kernel_rfl
theorem idx_3 (n : Nat → Bool) (fa la : Nat → Option Addr) (F L fc lc : Nat → Nat) (V : World) : (Instr.index 85 (.agg #[.bool (n 0), .slice (fa 0) (F 0) (fc 0), .slice (la 0) (L 0) (lc 0), .bool (n 1), .slice (fa 1) (F 1) (fc 1), .slice (la 1) (L 1) (lc 1), .bool (n 2), .slice (fa 2) (F 2) (fc 2), .slice (la 2) (L 2) (lc 2), .bool (n 3), .slice (fa 3) (F 3) (fc 3), .slice (la 3) (L 3) (lc 3)]) (.int .i64 (3 : Nat))).run Try.prog V = .ok (.agg #[.bool (n 3), .slice (fa 3) (F 3) (fc 3), .slice (la 3) (L 3) (lc 3)]) V := by kernel_rfl
theorem idx_eds (n : Nat → Bool) (fa la : Nat → Option Addr) (F L fc lc : Nat → Nat) (k : Nat) (hk : k < 4) (V : World) : (Instr.index 85 (.agg #[.bool (n 0), .slice (fa 0) (F 0) (fc 0), .slice (la 0) (L 0) (lc 0), .bool (n 1), .slice (fa 1) (F 1) (fc 1), .slice (la 1) (L 1) (lc 1), .bool (n 2), .slice (fa 2) (F 2) (fc 2), .slice (la 2) (L 2) (lc 2), .bool (n 3), .slice (fa 3) (F 3) (fc 3), .slice (la 3) (L 3) (lc 3)]) (.int .i64 (k : Nat))).run Try.prog V = .ok (.agg #[.bool (n k), .slice (fa k) (F k) (fc k), .slice (la k) (L k) (lc k)]) V := by
 have h : k = 0 ∨ k = 1 ∨ k = 2 ∨ k = 3 := by omega
 rcases h with rfl | rfl | rfl | rfl
 · exact idx_0 n fa la F L fc lc V
 · exact idx_1 n fa la F L fc lc V
 · exact idx_2 n fa la F L fc lc V
 · exact idx_3 n fa la F L fc lc V
theorem cov_zero {V : World} {M : Nat} (h : V.heap[M]? = some (.map #[] 0)) (B : Tb) (s : ByteArray) (lo : Nat) : CoV V B s lo M :=
 ⟨0, .map [], ⟨#[], 0, h, ⟨by simp, MapKept.stamped_empty 0, by simp⟩, Nat.le_refl _, rfl⟩, isMap_empty, by have h1 := free_le (.map []); have h0 : Maps.size (DataW.map [] : DataW Unit) = 0 := rfl; rw [h0, Nat.zero_add]; exact h1, fun _ _ _ _ _ h => nomatch h⟩
theorem tab_last (p : Tp) {k : Nat} (hk : k < 4) : (tabT p).last.getD k [] = lastR p.size (eat p.eds k).la := by
 match k, hk with
 | 0, _ => rfl
 | 1, _ => rfl
 | 2, _ => rfl
 | 3, _ => rfl
theorem lastR_len (n : Nat) (l : Stp) : (lastR n l).length = n := by rw [← lastI_all]; exact lastI_len n l _
theorem NwB.live {W V V' : World} {N : Nat} {s : ByteArray} {c T gt gn gl M : Nat} {es : List Value} {ge : Nat → Nat} {p : Tp} (h : NwB W V N s c T gt gn gl M es ge p 4) (hN : N = p.size) (hTi : TiV V' W.heap.size T gt gn N ((tabT p).takes, (tabT p).next)) (hTf : TiF gt gn V V') :
 NwL V' V' W.heap.size T s (tabT p) gt gn gl ge s.size ∧ V'.heap[M]? = some (.map #[] 0) ∧ V'.cell? ⟨T, 0, none⟩ = some (.pointer (some ⟨c, 0, none⟩)) ∧ V'.cell? ⟨T, 9, none⟩ = some (.map (some M)) := by
 obtain ⟨n1, n2, n3, n4, n5, n6, n7, n8, n9, n10⟩ := h.na.ne
 obtain ⟨l1, l2, l3, l4, l5⟩ := h.na.lt
 have hT : V'.heap[T]? = some (.cells (tbV c s gt gn N es gl M).toArray 93 (0, 0)) := (hTf.block T l5 n2 n3).trans h.na.tb
 have hLn : (tabT p).takes.length = N := hTi.tk.2
 refine ⟨⟨⟨by rw [hLn]; exact hTi, (cells_at hT (j := 1) rfl).1, ⟨s.size + 1, (cells_at hT (tb_8 h.el)).1⟩, fun k hk => ⟨?_, fun i hi => ?_⟩, fun q h1 h2 => absurd h1 (by omega)⟩, ⟨_, (hTf.block gl l3 (Ne.symm n5) (Ne.symm n6)).trans h.na.lv, by simp, fun v hv => ⟨none, 0, 0, (List.mem_replicate.1 hv).2⟩⟩, TiF.refl _ _ _⟩, (hTf.block M l4 (Ne.symm n8) (Ne.symm n9)).trans h.na.mp, (cells_at hT (j := 0) rfl).1, (cells_at hT (tb_9 h.el)).1⟩
 · refine ⟨N, ?_⟩
   rw [hLn]
   exact (cells_at hT ((tb_at h.el hk).trans (h.ls k hk).1)).1
 · obtain ⟨e1, e2, e3⟩ := h.ls k hk
   have hg : V'.heap[ge k]? = some (.cells (inV (lastR N (eat p.eds k).la)).toArray 3 (0, 0)) := (hTf.block _ (Array.getElem?_eq_some_iff.1 e2).1 (Ne.symm (ne_ty h.na.tk e2 (by decide))) (Ne.symm (ne_ty h.na.nx e2 (by decide)))).trans e2
   rw [tab_last p hk, ← hN]
   exact (cells_at hg (inV_at (by rw [lastR_len, ← hLn]; exact hi))).1
theorem fitB_tab {p : Tp} (hp : OkP p) {s : ByteArray} (hs : s.size ≤ 1024) (hN : (tabT p).takes.length = p.size) : FitB (tabT p) s :=
 ⟨by rw [hN]; exact hp.len, hs, fun k i => by
  by_cases hk : k < 4
  · rw [tab_last p hk]
    exact lastR_le (hp.ed.at k).2 i
  · have : (tabT p).last.getD k [] = [] := by
     rw [List.getD_eq_getElem?_getD, List.getElem?_eq_none (by show 4 ≤ k; omega)]; rfl
    rw [this]
    exact Nat.zero_le _⟩
theorem TiF.low {gt gn B : Nat} {V0 V V' : World} (h : TiF gt gn V V') (hb : Below B V0 V) (h1 : B ≤ gt) (h2 : B ≤ gn) (hB : B ≤ V.heap.size) : Below B V0 V' := ⟨h.os.trans hb.os, h.tape.trans hb.tape, h.output.trans hb.output, Nat.le_trans hb.size h.size, fun k hk => (h.block k (by omega) (by omega) (by omega)).trans (hb.block k hk)⟩
end Go.Proofs.Ytolpakpdkheanaa.tly
