/- check: shuts, label. -/
import Derived.Test.YtdlceppiblodmaaCe
namespace Go.Proofs.Ytdlceppiblodmaa
open Go.RowKit
open chkP

/-- A row of one's own, without its last element. -/
theorem owns_init {W : World} {B g cap n : Nat} {e : TypeId} {x : Value} {xs : List Value} (h : W.ownsRow B e 1 (.slice (some ⟨g, 0, none⟩) (n + 1) cap) (n + 1) (xs ++ [x])) : W.ownsRow B e 1 (.slice (some ⟨g, 0, none⟩) n cap) n xs := by
  obtain ⟨hl, h2⟩ := h
  rcases h2 with ⟨h2, _⟩ | ⟨g', cap', cur, he, hb, hh, hn, hc, hs, ht⟩
  · cases h2
  · cases he
    simp only [List.length_append, List.length_singleton, Nat.mul_one] at hl
    refine ⟨by omega, .inr ⟨g, cap, cur, rfl, hb, hh, by omega, hc, hs, ?_⟩⟩
    have h3 := congrArg (List.take n) ht
    rw [List.take_take, Nat.min_eq_left (by omega), List.take_left' (by omega)] at h3
    rw [Nat.mul_one]
    exact h3

set_option maxRecDepth 100000 in
set_option maxHeartbeats 2000000 in
theorem shuts_none {W : World} {B m mb : Nat} {v : Value} {D : DataW Unit} {n : Nat} (h : Sof W B m mb v [] D n) : Calls Try.prog 21 #[.pointer (some ⟨m, 0, none⟩)] W fun e w' => e = .returned (.int .i64 23) ∧ w' = W := by
  obtain ⟨c0, f0⟩ := h.c0
  rcases h.own.2 with ⟨rfl, h0⟩ | ⟨g, cap, cur, rfl, _⟩
  all_goals
    (try simp only [List.length_nil] at c0)
    clear h
    go_enter Try.func21, Try.ntmps21
    go_wp2
    go_ret
    exact ⟨rfl, rfl⟩
set_option maxRecDepth 100000 in
set_option maxHeartbeats 2000000 in
theorem shuts_some {W : World} {B m mb : Nat} {v : Value} {st : List Int} {p : Int} {D : DataW Unit} {n : Nat} (h : Sof W B m mb v (st ++ [p]) D n) (hst : st.length ≤ 16) : Calls Try.prog 21 #[.pointer (some ⟨m, 0, none⟩)] W fun e w' => e = .returned (.int .i64 0) ∧ Below B W w' ∧ ∃ v2, Sof w' B m mb v2 st D n := by
  obtain ⟨c0, f0⟩ := h.c0
  have own := h.own
  rw [List.length_append, List.length_singleton, intsV_app] at own
  obtain ⟨N, hN⟩ : ∃ N : Nat, N = st.length := ⟨_, rfl⟩
  rw [← hN] at own
  rcases own.2 with ⟨rfl, h0⟩ | ⟨g, cap, cur, rfl, _, _, hcap, hmx, _⟩
  · omega
  · have own2 := owns_init own
    have hne : g ≠ m := (h.rowNe rfl).1
    have HP := hideT (show Below B W (W.drew.setCell ⟨m, 0, none⟩ (.slice (some ⟨g, 0, none⟩) N cap)) ∧ Sof (W.drew.setCell ⟨m, 0, none⟩ (.slice (some ⟨g, 0, none⟩) N cap)) B m mb (.slice (some ⟨g, 0, none⟩) N cap) st D n from ⟨below_put ((Below.refl B W).drew) h.hm _ _, sof_row h ((Below.refl _ W).drew) (by rw [← hN]; exact own2) ⟨rfl, rfl, rfl, Nat.le_refl _, fun _ _ _ => rfl⟩ (fun g' hg' => by cases hg'; exact hne)⟩)
    have q0 : ((N : Int) + 1 == 0) = false := by rw [beq_eq_false_iff_ne]; omega
    have q1 : IntKind.i64.wrap ((N : Int) + 1 - 1) = (N : Int) := by rw [IntKind.wrap_i64]; omega
    have q1' : IntKind.i64.wrap (N : Int) = (N : Int) := by rw [IntKind.wrap_i64]; omega
    have q2 : (0 : Int) ≤ (N : Int) := by omega
    have q3 : (N : Int) ≤ (cap : Int) := by omega
    have q4 : ((cap : Int) < (N : Int)) = False := by rw [eq_iff_iff, iff_false]; omega
    have q5 : ((N : Int) < 0) = False := by rw [eq_iff_iff, iff_false]; omega
    clear h own own2 hne hcap hmx hN hst
    go_enter Try.func21, Try.ntmps21
    go_wp2_with fail
    go_region
    all_goals
      go_wp2
      go_ret
      exact ⟨rfl, HP.out.1, _, HP.out.2⟩

theorem op_value {P : Program} {ops : Array Oper} {Q : Exit → Act → World → Prop} {i : Nat} {o : Oper} {K : Act → World → Prop} {a : Act} {w w' : World} {v : Value} (d : Option Tmp) (hi : ops[i]? = some o) (hd : o.dst = d) (hw : Region.wanted o (yielded ops a.tmps) = true) (hx : (execOp a.eval o).run P w = .ok (.value v) w') (h : K (a.put d v) w') : wpOp P ops Q i K a w := by
  subst hd
  unfold wpOp
  rw [hi]
  dsimp only
  rw [if_pos hw]
  refine .inl ?_
  unfold Oper.wp
  rw [hx]
  exact h
theorem op_skip {P : Program} {ops : Array Oper} {Q : Exit → Act → World → Prop} {i : Nat} {o : Oper} {K : Act → World → Prop} {a : Act} {w w' : World} (hi : ops[i]? = some o) (hd : o.dst = none) (hw : Region.wanted o (yielded ops a.tmps) = true) (hx : (execOp a.eval o).run P w = .ok .skip w') (h : K (a.put none undef) w') : wpOp P ops Q i K a w := by
  rw [← hd] at h
  unfold wpOp
  rw [hi]
  dsimp only
  rw [if_pos hw]
  refine .inl ?_
  unfold Oper.wp
  rw [hx]
  exact h
theorem take_d {P : Program} {ops : Array Oper} {Q : Exit → Act → World → Prop} {S : World → Prop} {md : Region.Mode} (i : Nat) (d : Option Tmp) {oi : Oper} {v : Value} {fuel : Nat} {listed : Array Bool} {a : Act} {w : World} (hi : ops[i]? = some oi) (hd : oi.dst = d)
    (hs : Region.noSelect ops = true) (hf : Region.free md ops listed i = true) (hr : (Region.ready md ops listed).contains i = true)
    (hQ : ∀ c a w, Q (.panic c) (a.put d v) w → Q (.panic c) a w) (hw : Region.wanted oi (yielded ops a.tmps) = true) (hS : S w) (hy : ∀ w, S w → (execOp a.eval oi).run P w = .ok (.value v) w)
    (h : wpAnyH P md ops Q S fuel (listed.setIfInBounds i true) (a.put d v) w) : wpAnyH P md ops Q S (fuel + 1) listed a w := by
  subst hd
  exact wpAnyH_take hi hs hf hr hQ (Or.inl ⟨hw, hy⟩) hS h
theorem wanted_none {o : Oper} (h : o.guard = none) (y : Nat → Option Bool) : Region.wanted o y = true := by simp [Region.wanted, h]
theorem look_yield {P : Program} {o : Oper} {t : TypeId} {m x : Operand} {ev : Operand → Value} {mv kv r : Value} {V : World} (ho : o.op = .lookup t m x true) (hm : ev m = mv) (hx : ev x = kv) (h : (Instr.lookup t mv kv true).run P V = .ok r V) : (execOp ev o).run P V = .ok (.value r) V := by
  simp [execOp, ho, hm, hx, h, Result.andThen]
theorem zeroUnit (w : World) : (zeroValue 58).run Try.prog w = .ok (.agg #[]) w := Try.zeroValue58 w
/-- A label is looked for. -/
theorem sof_look {W V : World} {B m mb : Nat} {v : Value} {st : List Int} {D : DataW Unit} {n : Nat} (h : Sof W B m mb v st D n) (hb : V.heap[mb]? = W.heap[mb]?) (s : List UInt8) (hs : s.length ≤ maxLen) : (Instr.lookup 42 (.map (some mb)) (.string ⟨s.toArray⟩) true).run Try.prog V = .ok (.tuple #[.agg #[], .bool (Maps.has D (.string s))]) V := by
  obtain ⟨u, ps, h1, h2⟩ := (map_keep h.map hb).look_ok (Maps.string_keyed Try.underlying9) Try.underlying42 (zeroUnit V) (zd := .agg []) (zp := []) unitElem_mk (Go.WideMaps.keyOf_string_mk Try.underlying9 (s := ⟨s.toArray⟩) hs)
  obtain ⟨rfl, _⟩ := unitElem_inv h2
  exact h1
end Go.Proofs.Ytdlceppiblodmaa
