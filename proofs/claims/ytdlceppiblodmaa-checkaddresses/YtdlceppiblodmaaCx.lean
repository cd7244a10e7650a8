/- CheckAddresses: the walk. -/
import Derived.Test.YtdlceppiblodmaaCu
import Derived.Test.YtdlceppiblodmaaCc
import Derived.Deep.CutRange
namespace Go.Proofs.Ytdlceppiblodmaa
open Go.RowKit
open chkP

theorem is_byte (b : UInt8) (k : Nat) (h : b.toNat = k) : ((b.toNat : Int) == (k : Int)) = true := by rw [h]; exact beq_self_eq_true _
theorem no_byte (b : UInt8) (k : Nat) (h : ¬ b.toNat = k) : ((b.toNat : Int) == (k : Int)) = false := by rw [beq_eq_false_iff_ne]; omega
theorem most_rest (q : UInt8) (h58 : ¬ q.toNat = 58) (h125 : ¬ q.toNat = 125) (h97 : ¬ q.toNat = 97) (h105 : ¬ q.toNat = 105) (h114 : ¬ q.toNat = 114) (h113 : ¬ q.toNat = 113) (h61 : ¬ q.toNat = 61) (h123 : ¬ q.toNat = 123) (h98 : ¬ q.toNat = 98) (h99 : ¬ q.toNat = 99) (h100 : ¬ q.toNat = 100) (h68 : ¬ q.toNat = 68) (h103 : ¬ q.toNat = 103) (h71 : ¬ q.toNat = 71) (h104 : ¬ q.toNat = 104) (h72 : ¬ q.toNat = 72) (h108 : ¬ q.toNat = 108) (h110 : ¬ q.toNat = 110) (h78 : ¬ q.toNat = 78) (h112 : ¬ q.toNat = 112) (h80 : ¬ q.toNat = 80) (h115 : ¬ q.toNat = 115) (h116 : ¬ q.toNat = 116) (h119 : ¬ q.toNat = 119) (h120 : ¬ q.toNat = 120) (h121 : ¬ q.toNat = 121) : mostR q = -1 := by
  have e : ∀ k : Nat, k < 256 → ¬ q.toNat = k → q ≠ UInt8.ofNat k := fun k hk h e => h (by rw [e]; simp; omega)
  have e58 := e 58 (by decide) h58
  have e125 := e 125 (by decide) h125
  have e97 := e 97 (by decide) h97
  have e105 := e 105 (by decide) h105
  have e114 := e 114 (by decide) h114
  have e113 := e 113 (by decide) h113
  have e61 := e 61 (by decide) h61
  have e123 := e 123 (by decide) h123
  have e98 := e 98 (by decide) h98
  have e99 := e 99 (by decide) h99
  have e100 := e 100 (by decide) h100
  have e68 := e 68 (by decide) h68
  have e103 := e 103 (by decide) h103
  have e71 := e 71 (by decide) h71
  have e104 := e 104 (by decide) h104
  have e72 := e 72 (by decide) h72
  have e108 := e 108 (by decide) h108
  have e110 := e 110 (by decide) h110
  have e78 := e 78 (by decide) h78
  have e112 := e 112 (by decide) h112
  have e80 := e 80 (by decide) h80
  have e115 := e 115 (by decide) h115
  have e116 := e 116 (by decide) h116
  have e119 := e 119 (by decide) h119
  have e120 := e 120 (by decide) h120
  have e121 := e 121 (by decide) h121
  unfold mostR
  have c0 : ([58, 125] : List UInt8).contains q = false := by rw [List.contains_eq_mem]; simp only [List.mem_cons, List.not_mem_nil, or_false, decide_eq_false_iff_not, not_or]; exact ⟨e58, e125⟩
  have c1 : ([97, 105, 114, 113, 61] : List UInt8).contains q = false := by rw [List.contains_eq_mem]; simp only [List.mem_cons, List.not_mem_nil, or_false, decide_eq_false_iff_not, not_or]; exact ⟨e97, e105, e114, e113, e61⟩
  have c2 : ([123, 98, 99, 100, 68, 103, 71, 104, 72, 108, 110, 78, 112, 80, 115, 116, 119, 120, 121] : List UInt8).contains q = false := by rw [List.contains_eq_mem]; simp only [List.mem_cons, List.not_mem_nil, or_false, decide_eq_false_iff_not, not_or]; exact ⟨e123, e98, e99, e100, e68, e103, e71, e104, e72, e108, e110, e78, e112, e80, e115, e116, e119, e120, e121⟩
  rw [c0, c1, c2]
  rfl

/-- Four copies of a command, in blocks of their own. -/
structure Four (wc w' : World) (x6 x7 x8 x9 : Cm) (r : Rst) (b6 b7 b8 b9 : Nat) : Prop where
  below : Below wc.heap.size wc w'
  g6 : wc.heap.size ≤ b6
  g7 : wc.heap.size ≤ b7
  g8 : wc.heap.size ≤ b8
  g9 : wc.heap.size ≤ b9
  n67 : b6 ≠ b7
  n68 : b6 ≠ b8
  n69 : b6 ≠ b9
  n78 : b7 ≠ b8
  n79 : b7 ≠ b9
  n89 : b8 ≠ b9
  k6 : w'.heap[b6]? = some (.cells (cmV x6 r).toArray 27 (0, 0))
  k7 : w'.heap[b7]? = some (.cells (cmV x7 r).toArray 27 (0, 0))
  k8 : w'.heap[b8]? = some (.cells (cmV x8 r).toArray 27 (0, 0))
  k9 : w'.heap[b9]? = some (.cells (cmV x9 r).toArray 27 (0, 0))
theorem alloc_to {a : Act} {op : Oper} {V V' : World} {n : Nat} (ho : op.op = .alloc 27) (hV : V' = V.alloc (.cells zc.toArray 27)) (hn : V.heap.size = n) : (execOp a.eval op).run Try.prog V = .ok (.value (.pointer (some ⟨n, 0, none⟩))) V' := by
  obtain ⟨i0, hi, hz0, hz1, hz2⟩ := info_parts infoCmd
  subst hV hn
  go_simp
  rfl
theorem op_store_cmd {ops : Array Oper} {Q : Exit → Act → World → Prop} {i : Nat} {op : Oper} {K : Act → World → Prop} {a : Act} {w : World} (hi : ops[i]? = some op) (hgd : op.guard = none) (hd : op.dst = none) (x y : Operand) (ho : op.op = .store 27 x y) (b : Nat) (c : Cm) (r : Rst) (hx : a.eval x = .pointer (some ⟨b, 0, none⟩)) (hy : a.eval y = .agg (cmV c r).toArray) (zs : List Value) (hz : zs.length = 19) (hb : w.heap[b]? = some (.cells zs.toArray 27 (0, 0))) (h : ∀ w', w'.heap[b]? = some (.cells (cmV c r).toArray 27 (0, 0)) → (∀ B X, B ≤ b → Below B X w → Below B X w') → (∀ k, k ≠ b → w'.heap[k]? = w.heap[k]?) → K (a.put none undef) w') : wpOp Try.prog ops Q i K a w := by
  unfold wpOp
  rw [hi]
  dsimp only
  rw [if_pos (wanted_none hgd _)]
  refine .inl ?_
  refine wp_store_mid 27 x y ho b 0 (cmV c r).toArray hx hy (by rw [List.size_toArray]; exact there_block hb _ (by rw [hz]; rfl)) (by rw [info_cmd]; rfl) (cmV_all c r) ?_
  rw [hd]
  exact h _ (setCells_whole (cmV c r) hb (by rw [hz]; rfl)) (fun B X hB hX => below_setCells b hB _ _ _ hX) (fun k hk => setCells_far w b hk _ _)

theorem Four.step {wc w' w2 : World} {x6 x7 x8 x9 : Cm} {r : Rst} {b6 b7 b8 b9 : Nat} (h : Four wc w' x6 x7 x8 x9 r b6 b7 b8 b9) (hb : Below w'.heap.size w' w2) : Four wc w2 x6 x7 x8 x9 r b6 b7 b8 b9 :=
  { h with
    below := h.below.trans (hb.mono h.below.size)
    k6 := (hb.block b6 (Array.getElem?_eq_some_iff.1 h.k6).1).trans h.k6
    k7 := (hb.block b7 (Array.getElem?_eq_some_iff.1 h.k7).1).trans h.k7
    k8 := (hb.block b8 (Array.getElem?_eq_some_iff.1 h.k8).1).trans h.k8
    k9 := (hb.block b9 (Array.getElem?_eq_some_iff.1 h.k9).1).trans h.k9 }
theorem Four.set6 {wc w' w2 : World} {x6 x7 x8 x9 y : Cm} {r : Rst} {b6 b7 b8 b9 : Nat} (h : Four wc w' x6 x7 x8 x9 r b6 b7 b8 b9) (hk : w2.heap[b6]? = some (.cells (cmV y r).toArray 27 (0, 0))) (hb : ∀ B X, B ≤ b6 → Below B X w' → Below B X w2) (hf : ∀ k, k ≠ b6 → w2.heap[k]? = w'.heap[k]?) : Four wc w2 y x7 x8 x9 r b6 b7 b8 b9 :=
  { h with
    below := hb _ _ h.g6 h.below
    k6 := hk
    k7 := (hf b7 h.n67.symm).trans h.k7
    k8 := (hf b8 h.n68.symm).trans h.k8
    k9 := (hf b9 h.n69.symm).trans h.k9 }
theorem Four.set7 {wc w' w2 : World} {x6 x7 x8 x9 y : Cm} {r : Rst} {b6 b7 b8 b9 : Nat} (h : Four wc w' x6 x7 x8 x9 r b6 b7 b8 b9) (hk : w2.heap[b7]? = some (.cells (cmV y r).toArray 27 (0, 0))) (hb : ∀ B X, B ≤ b7 → Below B X w' → Below B X w2) (hf : ∀ k, k ≠ b7 → w2.heap[k]? = w'.heap[k]?) : Four wc w2 x6 y x8 x9 r b6 b7 b8 b9 :=
  { h with
    below := hb _ _ h.g7 h.below
    k6 := (hf b6 h.n67).trans h.k6
    k7 := hk
    k8 := (hf b8 h.n78.symm).trans h.k8
    k9 := (hf b9 h.n79.symm).trans h.k9 }
theorem Four.set8 {wc w' w2 : World} {x6 x7 x8 x9 y : Cm} {r : Rst} {b6 b7 b8 b9 : Nat} (h : Four wc w' x6 x7 x8 x9 r b6 b7 b8 b9) (hk : w2.heap[b8]? = some (.cells (cmV y r).toArray 27 (0, 0))) (hb : ∀ B X, B ≤ b8 → Below B X w' → Below B X w2) (hf : ∀ k, k ≠ b8 → w2.heap[k]? = w'.heap[k]?) : Four wc w2 x6 x7 y x9 r b6 b7 b8 b9 :=
  { h with
    below := hb _ _ h.g8 h.below
    k6 := (hf b6 h.n68).trans h.k6
    k7 := (hf b7 h.n78).trans h.k7
    k8 := hk
    k9 := (hf b9 h.n89.symm).trans h.k9 }
theorem Four.set9 {wc w' w2 : World} {x6 x7 x8 x9 y : Cm} {r : Rst} {b6 b7 b8 b9 : Nat} (h : Four wc w' x6 x7 x8 x9 r b6 b7 b8 b9) (hk : w2.heap[b9]? = some (.cells (cmV y r).toArray 27 (0, 0))) (hb : ∀ B X, B ≤ b9 → Below B X w' → Below B X w2) (hf : ∀ k, k ≠ b9 → w2.heap[k]? = w'.heap[k]?) : Four wc w2 x6 x7 x8 y r b6 b7 b8 b9 :=
  { h with
    below := hb _ _ h.g9 h.below
    k6 := (hf b6 h.n69).trans h.k6
    k7 := (hf b7 h.n79).trans h.k7
    k8 := (hf b8 h.n89).trans h.k8
    k9 := hk }
theorem wl_value {P : Program} {ops : Array Oper} {rest : List Oper} {op : Oper} {a : Act} {w w' : World} {Q : Exit → Act → World → Prop} {v : Value} (hgd : op.guard = none) (hx : (execOp a.eval op).run P w = .ok (.value v) w') (h : wpList P ops Q rest (a.put op.dst v) w') : wpList P ops Q (op :: rest) a w := by
  refine wpList_plain hgd fun K hK => ?_
  unfold Oper.wp
  rw [hx]
  exact hK _ _ h
set_option maxRecDepth 100000 in
set_option maxHeartbeats 1000000 in
theorem build4 {ev : Operand → Value} {op : Oper} {w : World} (x0 x1 x2 x3 : Operand) (ho : op.op = .buildSlice 22 4 #[(0, x0), (1, x1), (2, x2), (3, x3)]) (c0 c1 c2 c3 : Cm) (h0 : ev x0 = .agg (cmV c0 rst0).toArray) (h1 : ev x1 = .agg (cmV c1 rst0).toArray) (h2 : ev x2 = .agg (cmV c2 rst0).toArray) (h3 : ev x3 = .agg (cmV c3 rst0).toArray) : (execOp ev op).run Try.prog w = .ok (.value (.slice (some ⟨w.heap.size, 0, none⟩) 4 4)) (w.alloc (.cells (cmX [(c0, rst0), (c1, rst0), (c2, rst0), (c3, rst0)]).toArray 27)) := by
  obtain ⟨i0, hi, hz0, hz1, hz2⟩ := info_parts infoCmd
  unfold cmV at h0 h1 h2 h3
  go_simp
  rfl
set_option maxRecDepth 100000 in
set_option maxHeartbeats 1000000 in
theorem build1 {ev : Operand → Value} {op : Oper} {w : World} (x0 : Operand) (ho : op.op = .buildSlice 22 1 #[(0, x0)]) (c0 : Cm) (h0 : ev x0 = .agg (cmV c0 rst0).toArray) : (execOp ev op).run Try.prog w = .ok (.value (.slice (some ⟨w.heap.size, 0, none⟩) 1 1)) (w.alloc (.cells (cmV c0 rst0).toArray 27)) := by
  obtain ⟨i0, hi, hz0, hz1, hz2⟩ := info_parts infoCmd
  unfold cmV at h0
  go_simp
  rfl
theorem allocF {ev : Operand → Value} {op : Oper} {w : World} (ho : op.op = .alloc 30) : (execOp ev op).run Try.prog w = .ok (.value (.pointer (some ⟨w.heap.size, 0, none⟩))) (w.alloc (.cells #[.int .i64 0, .int .i64 0] 30)) := by
  go_simp
theorem grow2 {ev : Operand → Value} {op : Oper} {V : World} (s x : Operand) (ho : op.op = .call { callee := .builtin .append, args := #[s, x], argTypes := #[22, 22] }) (g b : Nat) (hs : ev s = .slice (some ⟨g, 0, none⟩) 1 1) (hx : ev x = .slice (some ⟨b, 0, none⟩) 1 1) (c d : Cm) (hc : c.lb.length ≤ 1000000000000000) (hd : d.lb.length ≤ 1000000000000000) (hg : V.rangeAt g 0 (cmV c rst0)) (hb : V.rangeAt b 0 (cmV d rst0)) : ∃ cap w', (execOp ev op).run Try.prog V = .ok (.value (.slice (some ⟨V.heap.size, 0, none⟩) 2 cap)) w' ∧ Below V.heap.size V w' ∧ CRow w' (.slice (some ⟨V.heap.size, 0, none⟩) 2 cap) [c, d] := by
  obtain ⟨i0, hi, hz0, hz1, hz2⟩ := info_parts infoCmd
  have hadd : ∀ g j, (⟨g, 0, none⟩ : Addr).add j = ⟨g, 0 + j, none⟩ := fun g j => by unfold Addr.add; split <;> simp_all
  have hr := run_append_grow (P := Try.prog) V 22 op.type 27 i0 _ Try.underlying22 hi hz0 ⟨g, 0, none⟩ 1 1 (cmV c rst0) (by rw [hz1]; rfl) (fun j v hv => by rw [hadd]; exact hg j v hv) ⟨b, 0, none⟩ 1 1 (cmV d rst0) (by rw [hz1]; rfl) (fun j v hv => by rw [hadd]; exact hb j v hv) (by omega) (by decide) (growslice_fits (by omega) (by rw [hz2]; omega))
  generalize grownCap V (1 + 1) 1 27 = cap at hr
  generalize Builtin.zeroCells _ (cap - (1 + 1)) = Z at hr
  refine ⟨cap, V.drew.alloc (.cells ((cmV c rst0).toArray ++ (cmV d rst0).toArray ++ Z) 27), ?_, ((Below.refl _ V).drew).alloc (Nat.le_refl _) _, ?_⟩
  · unfold execOp
    simp only [ho, resolve, invoke, builtin, Sem.run_bind, Sem.run_pure, Result.andThen_ok, List.map_toArray, List.map_cons, List.map_nil, hs, hx, hr]
  · refine crow_lies (l := [(c, rst0), (d, rst0)]) (lies_block (heap_alloc_new V.drew _) ?_) (fun p hp => ?_)
    · simp only [Array.toList_append, cmX, List.append_nil, List.append_assoc]
      rw [← List.append_assoc, List.take_left' (by rfl)]
    · simp only [List.mem_cons, List.not_mem_nil, or_false] at hp
      rcases hp with rfl | rfl
      · exact hc
      · exact hd
theorem four_ok {q : UInt8} (h : addrB 2 q = true) (j : Nat) (x : Cm) (f : Bool) (hx : (fourR 2 q)[j]? = some x) (hf : (fitR q)[j]? = some f) : ((decide ((chkR [cm 123 0, x]).1 = 17) || decide ((chkR [cm 123 0, x]).1 = 18)) = !f) ∧ (decide ((chkR [cm 123 0, x]).1 = 18) = decide (mostR q < 0)) := by
  have h1 := List.all_eq_true.1 h (x, f) (List.mem_of_getElem? (i := j) (by rw [List.getElem?_zip_eq_some]; exact ⟨hx, hf⟩))
  simp only [Bool.and_eq_true, bne_iff_ne, beq_iff_eq] at h1
  obtain ⟨h2, h3⟩ := h1
  refine ⟨?_, h3⟩
  revert h2
  cases (decide ((chkR [cm 123 0, x]).1 = 17) || decide ((chkR [cm 123 0, x]).1 = 18)) <;> cases f <;> simp
theorem op_grow {ops : Array Oper} {Q : Exit → Act → World → Prop} {i : Nat} {op : Oper} {K : Act → World → Prop} {a : Act} {V : World} (d : Option Tmp) (hi : ops[i]? = some op) (hd : op.dst = d) (hgd : op.guard = none) (s x : Operand) (ho : op.op = .call { callee := .builtin .append, args := #[s, x], argTypes := #[22, 22] }) (g b : Nat) (hs : a.eval s = .slice (some ⟨g, 0, none⟩) 1 1) (hx : a.eval x = .slice (some ⟨b, 0, none⟩) 1 1) (c y : Cm) (hc : c.lb.length ≤ 1000000000000000) (hy : y.lb.length ≤ 1000000000000000) (hg : V.rangeAt g 0 (cmV c rst0)) (hb : V.rangeAt b 0 (cmV y rst0)) (n : Nat) (hn : V.heap.size = n) (h : ∀ cap w', Below V.heap.size V w' → CRow w' (.slice (some ⟨n, 0, none⟩) 2 cap) [c, y] → K (a.put d (.slice (some ⟨n, 0, none⟩) 2 cap)) w') : wpOp Try.prog ops Q i K a V := by
  subst hn
  obtain ⟨cap, w', h1, h2, h3⟩ := grow2 (ev := a.eval) (op := op) s x ho g b hs hx c y hc hy hg hb
  exact op_value d hi hd (wanted_none hgd _) h1 (h cap w' h2 h3)
theorem info_adr : (Try.prog.info? 24).map (·.size) = some 3 := by kernel_rfl
theorem there_at {W : World} {b : Nat} {pre cs suf : List Value} {t : TypeId} (h : W.heap[b]? = some (.cells (pre ++ (cs ++ suf)).toArray t (0, 0))) : W.there b pre.length cs.length := fun j hj => by
  have e : (pre ++ (cs ++ suf))[pre.length + j]? = some cs[j] := by
    rw [List.getElem?_append_right (by omega), Nat.add_sub_cancel_left, List.getElem?_append_left hj, List.getElem?_eq_getElem hj]
  refine ⟨?_, ?_⟩
  · simp only [World.cell?, h]
    simp [e]
  · simp [World.frozen?, h]
/-- An address is stored into a command. -/
theorem store_adr {ops : Array Oper} {rest : List Oper} {op : Oper} {a : Act} {w : World} {Q : Exit → Act → World → Prop} (hgd : op.guard = none) (x y : Operand) (ho : op.op = .store 24 x y) (b o : Nat) (hx : a.eval x = .pointer (some ⟨b, o, none⟩)) (hy : a.eval y = .agg #[.int .i64 2, .int .i64 0, .string ⟨#[]⟩]) (pre cs suf : List Value) (c c' : Cm) (h1 : cmV c rst0 = pre ++ (cs ++ suf)) (h2 : cmV c' rst0 = pre ++ ([.int .i64 2, .int .i64 0, .string ⟨#[]⟩] ++ suf)) (hp : pre.length = o) (hc : cs.length = 3) (hb : w.heap[b]? = some (.cells (cmV c rst0).toArray 27 (0, 0))) (h : ∀ w', w'.heap[b]? = some (.cells (cmV c' rst0).toArray 27 (0, 0)) → (∀ B X, B ≤ b → Below B X w → Below B X w') → (∀ k, k ≠ b → w'.heap[k]? = w.heap[k]?) → wpList Try.prog ops Q rest (a.put op.dst undef) w') : wpList Try.prog ops Q (op :: rest) a w := by
  rw [h1] at hb
  refine wpList_store_mid hgd 24 x y ho b o #[.int .i64 2, .int .i64 0, .string ⟨#[]⟩] hx hy (by have := there_at hb; rw [hp, hc] at this; exact this) (by rw [info_adr]; rfl) (by simp [Value.oneCell']) ?_
  exact h _ (by rw [h2]; exact setCells_at b _ _ _ pre cs suf w o hb hp (by rw [hc]; rfl)) (fun B X hB hX => below_setCells b hB _ _ _ hX) (fun k hk => setCells_far w b hk _ _)
end Go.Proofs.Ytdlceppiblodmaa
