/- check: the document's Check. -/
import Derived.Test.YtdlceppiblodmaaCq
namespace Go.Proofs.Ytdlceppiblodmaa
open Go.RowKit
open chkP

/-- A slice that reads as these commands, all of their cells. -/
def FRow (W : World) (v : Value) (l : List (Cm × Rst)) : Prop := ∃ a cp, v = .slice a l.length cp ∧ ∀ (k : Nat) (p : Cm × Rst), l[k]? = some p → ∃ g o, a = some ⟨g, o, none⟩ ∧ W.rangeAt g (o + k * 19) (cmV p.1 p.2) ∧ p.1.lb.length ≤ 1000000000000000
theorem cat_range {W : World} {g o : Nat} {c : Cm} {r : Rst} (h : W.rangeAt g o (cmV c r)) : CAt W g o c :=
  ⟨h 0 _ rfl, h 1 _ rfl, h 4 _ rfl, h 7 _ rfl, h 8 _ rfl, h 9 _ rfl⟩
theorem FRow.crow {W : World} {v : Value} {l : List (Cm × Rst)} (h : FRow W v l) : CRow W v (l.map Prod.fst) := by
  obtain ⟨a, cp, rfl, hr⟩ := h
  refine ⟨a, cp, by rw [List.length_map], fun k x hx => ?_⟩
  rw [List.getElem?_map] at hx
  obtain ⟨p, hp, rfl⟩ := Option.map_eq_some_iff.1 hx
  obtain ⟨g, o, h1, h2, h3⟩ := hr k p hp
  exact ⟨g, o, h1, cat_range h2, h3⟩
theorem range_keep {W W' : World} {g o : Nat} {cs : List Value} (h : W.rangeAt g o cs) (hb : W'.heap[g]? = W.heap[g]?) : W'.rangeAt g o cs := fun j v hv => (World.cell?_of_block (a := ⟨g, o + j, none⟩) hb).trans (h j v hv)
theorem range_lt {W : World} {g o : Nat} {c : Cm} {r : Rst} (h : W.rangeAt g o (cmV c r)) : g < W.heap.size := World.block_lt_of_cell? W _ (h 0 _ rfl)
theorem FRow.step {W W' : World} {v : Value} {l : List (Cm × Rst)} (h : FRow W v l) (hb : Below W.heap.size W W') : FRow W' v l := by
  obtain ⟨a, cp, h1, hr⟩ := h
  refine ⟨a, cp, h1, fun k p hp => ?_⟩
  obtain ⟨g, o, h2, h3, h4⟩ := hr k p hp
  exact ⟨g, o, h2, range_keep h3 (hb.block g (range_lt h3)), h4⟩

theorem range_block {W : World} {b : Nat} {cs : List Value} {t : TypeId} {fr : Nat × Nat} (h : W.heap[b]? = some (.cells cs.toArray t fr)) : W.rangeAt b 0 cs := fun j v hv => by
  simp only [World.cell?, h, Nat.zero_add]
  simpa using hv
theorem there_block {W : World} {b : Nat} {cs : List Value} {t : TypeId} (h : W.heap[b]? = some (.cells cs.toArray t (0, 0))) (n : Nat) (hn : cs.length = n) : W.there b 0 n := fun j hj => by
  have e : cs[j]? = some cs[j] := List.getElem?_eq_getElem (by omega)
  refine ⟨?_, ?_⟩
  · simp [World.cell?, h, e]
  · simp [World.frozen?, h]
theorem setCells_far (W : World) (b : Nat) {j : Nat} (h : j ≠ b) : ∀ (vs : List Value) (o : Nat), (W.setCells b o vs).heap[j]? = W.heap[j]? := by
  intro vs
  induction vs generalizing W with
  | nil => intro o; rfl
  | cons v vs ih =>
    intro o
    rw [World.setCells, ih]
    exact Below.heap_setCell W ⟨b, o, none⟩ v j h
theorem setCells_at (b : Nat) (t : TypeId) (fr : Nat × Nat) : ∀ (vs pre cs suf : List Value) (W : World) (o : Nat), W.heap[b]? = some (.cells (pre ++ (cs ++ suf)).toArray t fr) → pre.length = o → cs.length = vs.length → (W.setCells b o vs).heap[b]? = some (.cells (pre ++ (vs ++ suf)).toArray t fr)
  | [], pre, cs, suf, W, o, h, hp, hc => by
    obtain rfl : cs = [] := List.eq_nil_of_length_eq_zero hc
    exact h
  | v :: vs, pre, [], suf, W, o, h, hp, hc => by simp at hc
  | v :: vs, pre, c :: cs, suf, W, o, h, hp, hc => by
    rw [World.setCells]
    have h1 : (W.setCell ⟨b, o, none⟩ v).heap[b]? = some (.cells ((pre ++ [v]) ++ (cs ++ suf)).toArray t fr) := by
      obtain ⟨hlt, hk⟩ := Array.getElem?_eq_some_iff.1 h
      show (W.heap.modify b _)[b]? = _
      rw [Array.getElem?_eq_getElem (by rw [Array.size_modify]; exact hlt), Array.getElem_modify_self, hk]
      simp [hp.symm]
    have := setCells_at b t fr vs (pre ++ [v]) cs suf _ (o + 1) h1 (by simp [hp]) (by simpa using hc)
    simpa using this
theorem setCells_whole {W : World} {b : Nat} {t : TypeId} {fr : Nat × Nat} {cs : List Value} (vs : List Value) (h : W.heap[b]? = some (.cells cs.toArray t fr)) (hl : cs.length = vs.length) : (W.setCells b 0 vs).heap[b]? = some (.cells vs.toArray t fr) := by
  have := setCells_at b t fr vs [] cs [] W 0 (by simpa using h) rfl hl
  simpa using this
theorem below_setCells {B : Nat} {X : World} (b : Nat) (hb : B ≤ b) : ∀ (vs : List Value) (W : World) (o : Nat), Below B X W → Below B X (W.setCells b o vs)
  | [], _, _, h => h
  | v :: vs, W, o, h => by
    rw [World.setCells]
    exact below_setCells b hb vs _ _ (h.setCell (p := ⟨b, o, none⟩) hb v)

theorem und_cmd : Try.prog.underlying 27 = some (.struct (Try.prog.fieldsOf 27)) := by kernel_rfl
theorem info_cmd : (Try.prog.info? 27).map (·.size) = some 19 := by kernel_rfl
theorem cmV_all (c : Cm) (r : Rst) : (cmV c r).toArray.all (·.oneCell') = true := by
  rw [Array.all_eq_true_iff_forall_mem]
  intro u hu
  exact cmV_one c r u (by simpa using hu)
def zc : List Value := cmV (cm 0 0) rst0
/-- A command is loaded. -/
theorem load_cmd {ops : Array Oper} {rest : List Oper} {op : Oper} {a : Act} {w : World} {Q : Exit → Act → World → Prop} (hgd : op.guard = none) (x : Operand) (ho : op.op = .load 27 x) (g o : Nat) (hx : a.eval x = .pointer (some ⟨g, o, none⟩)) (c : Cm) (r : Rst) (hc : w.rangeAt g o (cmV c r)) (h : wpList Try.prog ops Q rest (a.put op.dst (.agg (cmV c r).toArray)) w) : wpList Try.prog ops Q (op :: rest) a w :=
  wpList_load_mid hgd 27 x ho g o hx (cmV c r) _ hc und_cmd rfl (by rw [info_cmd]; rfl) h
/-- A command is stored into a block of its own. -/
theorem store_cmd {ops : Array Oper} {rest : List Oper} {op : Oper} {a : Act} {w : World} {Q : Exit → Act → World → Prop} (hgd : op.guard = none) (x y : Operand) (ho : op.op = .store 27 x y) (b : Nat) (c : Cm) (r : Rst) (hx : a.eval x = .pointer (some ⟨b, 0, none⟩)) (hy : a.eval y = .agg (cmV c r).toArray) (zs : List Value) (hz : zs.length = 19) (hb : w.heap[b]? = some (.cells zs.toArray 27 (0, 0))) (h : ∀ w', w'.heap[b]? = some (.cells (cmV c r).toArray 27 (0, 0)) → (∀ B X, B ≤ b → Below B X w → Below B X w') → (∀ k, k ≠ b → w'.heap[k]? = w.heap[k]?) → wpList Try.prog ops Q rest (a.put op.dst undef) w') : wpList Try.prog ops Q (op :: rest) a w := by
  refine wpList_store_mid hgd 27 x y ho b 0 (cmV c r).toArray hx hy (by rw [List.size_toArray]; exact there_block hb _ (by rw [hz]; rfl)) (by rw [info_cmd]; rfl) (cmV_all c r) ?_
  exact h _ (setCells_whole (cmV c r) hb (by rw [hz]; rfl)) (fun B X hB hX => below_setCells b hB _ _ _ hX) (fun k hk => setCells_far w b hk _ _)
end Go.Proofs.Ytdlceppiblodmaa
