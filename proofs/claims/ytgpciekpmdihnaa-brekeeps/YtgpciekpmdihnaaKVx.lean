/- bre: lists of nodes that are wiped: what stays. -/
import Derived.Test.YtgpciekpmdihnaaKPa
import Derived.Test.YtgpciekpmdihnaaKQf
import Derived.Test.YtgpciekpmdihnaaKDp
import Derived.Deep.RegionLaw
namespace Go.Proofs.Ytgpciekpmdihnaa
open Go.RowKit
def RowW (W : World) (ok : Nat → Prop) (P : Value → Prop) (v : Value) : Prop :=
  v = .slice none 0 0 ∨ ∃ g n cap cur, v = .slice (some ⟨g, 0, none⟩) n cap ∧ ok g ∧ W.heap[g]? = some (.cells cur 27 (0, 0)) ∧ n ≤ cap ∧ cap ≤ maxLen ∧ n ≤ 1000000 ∧ cur.size = cap * 9 ∧ ∀ i, i < n → ∃ u, cur[i * 9 + 8]? = some u ∧ P u
def Wf (W : World) (ok : Nat → Prop) : Nat → Value → Prop
  | 0 => fun v => v = .slice none 0 0
  | d + 1 => RowW W ok (Wf W ok d)
theorem Wf.nil (W : World) (ok : Nat → Prop) : ∀ d, Wf W ok d (.slice none 0 0)
  | 0 => rfl
  | _ + 1 => .inl rfl
structure Dull (ok : Nat → Prop) (W W' : World) : Prop where
  os : W'.os = W.os
  tape : W'.tape = W.tape
  output : W'.output = W.output
  size : W.heap.size ≤ W'.heap.size
  out : ∀ k, k < W.heap.size → ¬ ok k → W'.heap[k]? = W.heap[k]?
  inn : ∀ k cur, ok k → W.heap[k]? = some (.cells cur 27 (0, 0)) → ∃ cur' : Array Value, W'.heap[k]? = some (.cells cur' 27 (0, 0)) ∧ cur'.size = cur.size ∧ ∀ i : Nat, cur'[i * 9 + 8]? = cur[i * 9 + 8]? ∨ (cur'[i * 9 + 8]? = some (.slice none 0 0) ∧ i * 9 + 8 < cur.size)
theorem Dull.refl (ok : Nat → Prop) (W : World) : Dull ok W W := ⟨rfl, rfl, rfl, Nat.le_refl _, fun _ _ _ => rfl, fun _ cur _ h => ⟨cur, h, rfl, fun _ => .inl rfl⟩⟩
theorem Dull.trans {ok : Nat → Prop} {X Y Z : World} (h : Dull ok X Y) (k : Dull ok Y Z) : Dull ok X Z :=
  ⟨k.os.trans h.os, k.tape.trans h.tape, k.output.trans h.output, Nat.le_trans h.size k.size, fun i hi ho => (k.out i (Nat.lt_of_lt_of_le hi h.size) ho).trans (h.out i hi ho), fun i cur ho hc => by
    obtain ⟨c1, h1, s1, q1⟩ := h.inn i cur ho hc
    obtain ⟨c2, h2, s2, q2⟩ := k.inn i c1 ho h1
    refine ⟨c2, h2, s2.trans s1, fun j => ?_⟩
    rcases q2 j with e | ⟨e, l⟩
    · rcases q1 j with f | ⟨f, l⟩
      · exact .inl (e.trans f)
      · exact .inr ⟨e.trans f, l⟩
    · exact .inr ⟨e, by omega⟩⟩
theorem Dull.below {ok : Nat → Prop} {W W' : World} (h : Below W.heap.size W W') : Dull ok W W' :=
  ⟨h.os, h.tape, h.output, h.size, fun k hk _ => h.block k hk, fun k cur _ hc => ⟨cur, (h.block k (Array.getElem?_eq_some_iff.1 hc).1).trans hc, rfl, fun _ => .inl rfl⟩⟩
theorem Wf.dull {ok : Nat → Prop} {W W' : World} (h : Dull ok W W') : ∀ (d : Nat) (v : Value), Wf W ok d v → Wf W' ok d v
  | 0, _, hv => hv
  | d + 1, v, hv => by
    rcases hv with rfl | ⟨g, n, cap, cur, rfl, ho, hc, h1, h2, h3, h4, h5⟩
    · exact .inl rfl
    · obtain ⟨c1, g1, s1, q1⟩ := h.inn g cur ho hc
      refine .inr ⟨g, n, cap, c1, rfl, ho, g1, h1, h2, h3, s1.trans h4, fun i hi => ?_⟩
      obtain ⟨u, hu, pu⟩ := h5 i hi
      rcases q1 i with e | ⟨e, _⟩
      · exact ⟨u, e.trans hu, Wf.dull h d u pu⟩
      · exact ⟨_, e, Wf.nil _ _ d⟩
theorem Wf.shape {ok : Nat → Prop} {W : World} {d : Nat} {v : Value} (h : Wf W ok d v) : ∃ a n c, v = .slice a n c := by
  cases d with
  | zero => exact ⟨_, _, _, h⟩
  | succ d =>
    rcases h with rfl | ⟨g, n, cap, _, rfl, _⟩
    · exact ⟨_, _, _, rfl⟩
    · exact ⟨_, _, _, rfl⟩
theorem Dull.put {ok : Nat → Prop} {X Y : World} (h : Dull ok X Y) {g : Nat} (ho : ok g) (k : Nat) (u : Value) (hu : k % 9 = 8 → u = .slice none 0 0) : Dull ok X (Y.setCell ⟨g, k, none⟩ u) := by
  refine h.trans ⟨rfl, rfl, rfl, Nat.le_of_eq (put_size _ _ _ _).symm, fun i _ hn => put_far _ _ _ _ (fun e => hn (e ▸ ho)), fun i cur hi hc => ?_⟩
  by_cases e : i = g
  · subst e
    refine ⟨_, put_same _ _ _ _ hc, Array.size_setIfInBounds, fun j => ?_⟩
    by_cases ej : k = j * 9 + 8
    · have hz := hu (by omega)
      subst hz
      by_cases hl : k < cur.size
      · right
        rw [← ej]
        exact ⟨by rw [Array.getElem?_setIfInBounds_self_of_lt hl], hl⟩
      · left
        rw [Array.getElem?_setIfInBounds, ← ej]
        simp [hl]
    · left
      rw [Array.getElem?_setIfInBounds_ne ej]
  · exact ⟨cur, (put_far _ _ _ _ e).trans hc, rfl, fun _ => .inl rfl⟩
theorem Dull.put9 {ok : Nat → Prop} {X Y : World} (h : Dull ok X Y) {g : Nat} (ho : ok g) (i : Nat) (v0 v1 v2 v3 v4 v5 v6 v7 : Value) : Dull ok X (set9 Y g (i * 9) v0 v1 v2 v3 v4 v5 v6 v7 (.slice none 0 0)) :=
  ((((((((h.put ho _ _ (by omega)).put ho _ _ (by omega)).put ho _ _ (by omega)).put ho _ _ (by omega)).put ho _ _ (by omega)).put ho _ _ (by omega)).put ho _ _ (by omega)).put ho _ _ (by omega)).put ho _ _ (fun _ => rfl)
theorem Dull.alloc {ok : Nat → Prop} {X Y : World} (h : Dull ok X Y) (o : Obj) : Dull ok X (Y.alloc o) := h.trans (Dull.below ((Below.refl _ _).alloc (Nat.le_refl _) o))
theorem Dull.drew {ok : Nat → Prop} {X Y : World} (h : Dull ok X Y) : Dull ok X Y.drew := ⟨h.os, h.tape, h.output, h.size, h.out, h.inn⟩
end Go.Proofs.Ytgpciekpmdihnaa
/- bre: append onto a list of nodes: what stays. -/
namespace Go.Proofs.Ytgpciekpmdihnaa
open Go.RowKit
theorem run_append_dull {P : Program} (w : World) (ok : Nat → Prop) (Q : Value → Prop) (t ty : TypeId) (i : TypeInfo) (z : Value) (ht : P.underlying t = some (.slice 27)) (hi : P.info? 27 = some i) (hz : i.zero = some z) (hsize : i.size = 9) (hby : i.bytes = 88)
    (v : Value) (hv : RowW w ok Q v) (ad : Addr) (c : Nat) (news : List Value) (hl : news.length = 9) (h8 : news[8]? = some (.slice none 0 0)) (hnews : ∀ j u, news[j]? = some u → w.cell? (ad.add j) = some u) (h1 : ∀ u ∈ news, u.oneCell' = true) :
    ∃ g n cap w', (Builtin.append_ #[t, t] ty #[v, .slice (some ad) 1 c]).run P w = .ok (.slice (some ⟨g, 0, none⟩) (n + 1) cap) w' ∧ n ≤ 1000000 ∧ Dull ok w w' := by
  have hl' : news.length = 1 * i.size := by rw [hl, hsize]
  rcases hv with rfl | ⟨g, n, cap, cur, rfl, ho, hc, hn, hcm, hn6, hs, _⟩
  · have hr := run_append_nil (P := P) w t ty 27 i z ht hi hz ad 1 c news hl' hnews (by omega) (by omega) (by rw [hby]; omega)
    exact ⟨_, 0, _, _, hr, by omega, ((Dull.refl ok w).drew).alloc _⟩
  · by_cases hroom : n + 1 ≤ cap
    · have hfit : n * i.size + news.length ≤ cur.size := by rw [hl, hsize, hs]; omega
      have hr := run_append_room (P := P) w t ty 27 i ht hi g n cap cur hc ad 1 c news hl' hnews h1 hroom hfit
      refine ⟨g, n, cap, _, hr, hn6, ⟨rfl, rfl, rfl, by simp, fun k _ hk => setRow_other w g k _ (fun e => hk (e ▸ ho)), fun k cur' hk hc' => ?_⟩⟩
      by_cases e : k = g
      · subst e
        rw [hc] at hc'
        cases hc'
        refine ⟨_, setRow_heap w k cur _ 27 _ hc, ?_, fun j => ?_⟩
        · simp only [List.size_toArray, List.length_append, List.length_take, List.length_drop, Array.length_toList]
          omega
        · rw [hsize, hl, List.getElem?_toArray]
          rcases Nat.lt_trichotomy j n with hj | hj | hj
          · left
            rw [List.append_assoc, List.getElem?_append_left (by rw [List.length_take, Array.length_toList]; omega), List.getElem?_take_of_lt (by omega), Array.getElem?_toList]
          · right
            subst hj
            refine ⟨?_, by omega⟩
            rw [List.append_assoc, List.getElem?_append_right (by rw [List.length_take, Array.length_toList]; omega), List.length_take, Array.length_toList, Nat.min_eq_left (by omega), Nat.add_sub_cancel_left, List.getElem?_append_left (by omega), h8]
          · left
            rw [List.getElem?_append_right (by rw [List.length_append, List.length_take, Array.length_toList]; omega), List.length_append, List.length_take, Array.length_toList, Nat.min_eq_left (by omega), List.getElem?_drop, hl, Array.getElem?_toList]
            congr 1
            omega
      · exact ⟨cur', (setRow_other w g k _ e).trans hc', rfl, fun _ => .inl rfl⟩
    · obtain rfl : n = cap := by omega
      have hlo : (cur.toList.take (n * 9)).length = n * i.size := by rw [List.length_take, Array.length_toList, hsize]; omega
      have holds : ∀ j u, (cur.toList.take (n * 9))[j]? = some u → w.cell? ((⟨g, 0, none⟩ : Addr).add j) = some u := fun j u hu => by
        refine World.news_of_block hc j u ?_
        have hj : j < n * 9 := by
          have := (List.getElem?_eq_some_iff.1 hu).1
          rw [hlo, hsize] at this
          exact this
        rwa [List.getElem?_take_of_lt hj] at hu
      have hr := run_append_grow (P := P) w t ty 27 i z ht hi hz ⟨g, 0, none⟩ n n _ hlo holds ad 1 c news hl' hnews (by omega) (by omega) (growslice_fits (by omega) (by rw [hby]; omega))
      exact ⟨_, n, _, _, hr, hn6, ((Dull.refl ok w).drew).alloc _⟩
theorem wp_append_dull {P : Program} {w : World} (ok : Nat → Prop) (F : Value → Prop) {o : Oper} {a : Act} {K : Act → World → Prop} {Q : Exit → Act → World → Prop} (s x : Operand) (t : TypeId)
    (ho : o.op = .call { callee := .builtin .append, args := #[s, x], argTypes := #[t, t] }) (i : TypeInfo) (z : Value) (ht : P.underlying t = some (.slice 27)) (hi : P.info? 27 = some i) (hz : i.zero = some z) (hsize : i.size = 9) (hby : i.bytes = 88)
    (v : Value) (hs : a.eval s = v) (hv : RowW w ok F v) (ad : Addr) (c : Nat) (news : List Value) (hx : a.eval x = .slice (some ad) 1 c) (hl : news.length = 9) (h8 : news[8]? = some (.slice none 0 0)) (hnews : ∀ j u, news[j]? = some u → w.cell? (ad.add j) = some u) (h1 : ∀ u ∈ news, u.oneCell' = true)
    (h : ∀ g n cap w', n ≤ 1000000 → Dull ok w w' → K (a.put o.dst (.slice (some ⟨g, 0, none⟩) (n + 1) cap)) w') : o.wp P a w K Q := by
  obtain ⟨g, n, cap, w', hr, h2, h3⟩ := run_append_dull (P := P) w ok F t o.type i z ht hi hz hsize hby v hv ad c news hl h8 hnews h1
  unfold Oper.wp execOp
  simp only [ho, resolve, invoke, builtin, Sem.run_bind, Sem.run_pure, Result.andThen_ok, List.map_toArray, List.map_cons, List.map_nil, hs, hx, hr]
  exact h g n cap w' h2 h3
theorem wpList_append_dull {P : Program} {w : World} (ok : Nat → Prop) (F : Value → Prop) {ops : Array Oper} {rest : List Oper} {o : Oper} {a : Act} {Q : Exit → Act → World → Prop} (hgd : o.guard = none) (s x : Operand) (t : TypeId)
    (ho : o.op = .call { callee := .builtin .append, args := #[s, x], argTypes := #[t, t] }) (i : TypeInfo) (z : Value) (ht : P.underlying t = some (.slice 27)) (hi : P.info? 27 = some i) (hz : i.zero = some z) (hsize : i.size = 9) (hby : i.bytes = 88)
    (v : Value) (hs : a.eval s = v) (hv : RowW w ok F v) (ad : Addr) (c : Nat) (news : List Value) (hx : a.eval x = .slice (some ad) 1 c) (hl : news.length = 9) (h8 : news[8]? = some (.slice none 0 0)) (hnews : ∀ j u, news[j]? = some u → w.cell? (ad.add j) = some u) (h1 : ∀ u ∈ news, u.oneCell' = true)
    (h : ∀ g n cap w', n ≤ 1000000 → Dull ok w w' → wpList P ops Q rest (a.put o.dst (.slice (some ⟨g, 0, none⟩) (n + 1) cap)) w') : wpList P ops Q (o :: rest) a w :=
  wpList_plain hgd fun _ hK => wp_append_dull ok F s x t ho i z ht hi hz hsize hby v hs hv ad c news hx hl h8 hnews h1 fun g n cap w' h2 h3 => hK _ _ (h g n cap w' h2 h3)
end Go.Proofs.Ytgpciekpmdihnaa
/- bre: wipe. -/
namespace Go.Proofs.Ytgpciekpmdihnaa
open Go.RowKit
open Go.Sort
set_option maxRecDepth 100000 in
set_option maxHeartbeats 4000000 in
theorem wipe_nil (ok : Nat → Prop) (x0 x1 x2 x3 x4 x5 x6 x7 : Value) (w : World) : Calls Try.prog 15 #[.agg #[x0, x1, x2, x3, x4, x5, x6, x7, .slice none 0 0]] w fun e w' => (∃ v, e = .returned v) ∧ Dull ok w w' := by
  obtain ⟨i0, hi, hz0, hz1, hz2⟩ := info_parts info27
  obtain ⟨F, hF⟩ : ∃ F : Value → Prop, F = fun _ => True := ⟨_, rfl⟩
  go_enter Try.func15, Try.ntmps15
  go_upto_region 1 with fail
  obtain ⟨X, hX⟩ : ∃ X, X = w.alloc (.cells #[x0, x1, x2, x3, x4, x5, x6, x7, .slice none 0 0] 27) := ⟨_, rfl⟩
  rw [← hX]
  have z8 : X.cell? ⟨w.heap.size, 8, none⟩ = some (.slice none 0 0) := by rw [hX]; exact (new_cell w _ 27 _ rfl 8 _ rfl).1
  have HX : Hid (Dull ok w X) := hideT (by rw [hX]; exact (Dull.refl ok w).alloc _)
  have hr0 : RowW (X.alloc (.cells #[.int .i64 78, .int .u64 0, .int .u64 0, .int .u64 0, .int .u64 0, .int .i64 0, .int .i64 0, .int .i64 0, .slice none 0 0] 27)) ok F (.slice none 0 0) := .inl rfl
  have HR := hideT hr0
  clear hX hr0
  go_wp2_with fail
  refine wp_loop_rounds 1 ?_
  rw [rounds_succ]
  go_wp2
  go_end0
  exact ⟨⟨_, rfl⟩, ((HX.out.alloc _).drew).alloc _⟩
end Go.Proofs.Ytgpciekpmdihnaa
/- bre: wipe, of a list. -/
namespace Go.Proofs.Ytgpciekpmdihnaa
open Go.RowKit
open Go.Sort
theorem row_cells {W : World} {g k cap : Nat} {cur : Array Value} (h : W.heap[g]? = some (.cells cur 27 (0, 0))) (hs : cur.size = cap * 9) (hk : k < cap) :
    ∃ y0 y1 y2 y3 y4 y5 y6 y7 y8, cur[k * 9 + 8]? = some y8 ∧ W.cell? ⟨g, k * 9, none⟩ = some y0 ∧ W.frozen? ⟨g, k * 9, none⟩ = false ∧ W.cell? ⟨g, k * 9 + 1, none⟩ = some y1 ∧ W.frozen? ⟨g, k * 9 + 1, none⟩ = false ∧ W.cell? ⟨g, k * 9 + 2, none⟩ = some y2 ∧ W.frozen? ⟨g, k * 9 + 2, none⟩ = false ∧ W.cell? ⟨g, k * 9 + 3, none⟩ = some y3 ∧ W.frozen? ⟨g, k * 9 + 3, none⟩ = false ∧ W.cell? ⟨g, k * 9 + 4, none⟩ = some y4 ∧ W.frozen? ⟨g, k * 9 + 4, none⟩ = false ∧ W.cell? ⟨g, k * 9 + 5, none⟩ = some y5 ∧ W.frozen? ⟨g, k * 9 + 5, none⟩ = false ∧ W.cell? ⟨g, k * 9 + 6, none⟩ = some y6 ∧ W.frozen? ⟨g, k * 9 + 6, none⟩ = false ∧ W.cell? ⟨g, k * 9 + 7, none⟩ = some y7 ∧ W.frozen? ⟨g, k * 9 + 7, none⟩ = false ∧ W.cell? ⟨g, k * 9 + 8, none⟩ = some y8 ∧ W.frozen? ⟨g, k * 9 + 8, none⟩ = false := by
  have hc : ∀ j, j < 9 → cur[k * 9 + j]? = some (cur[k * 9 + j]!) := fun j hj => by
    have hl : k * 9 + j < cur.size := by omega
    rw [Array.getElem?_eq_getElem hl, getElem!_pos cur (k * 9 + j) hl]
  have hw : ∀ j, j < 9 → W.cell? ⟨g, k * 9 + j, none⟩ = some (cur[k * 9 + j]!) ∧ W.frozen? ⟨g, k * 9 + j, none⟩ = false := fun j hj => ⟨by simp only [World.cell?, h]; exact hc j hj, by simp [World.frozen?, h]⟩
  exact ⟨_, _, _, _, _, _, _, _, _, hc 8 (by omega), (hw 0 (by omega)).1, (hw 0 (by omega)).2, (hw 1 (by omega)).1, (hw 1 (by omega)).2, (hw 2 (by omega)).1, (hw 2 (by omega)).2, (hw 3 (by omega)).1, (hw 3 (by omega)).2, (hw 4 (by omega)).1, (hw 4 (by omega)).2, (hw 5 (by omega)).1, (hw 5 (by omega)).2, (hw 6 (by omega)).1, (hw 6 (by omega)).2, (hw 7 (by omega)).1, (hw 7 (by omega)).2, (hw 8 (by omega)).1, (hw 8 (by omega)).2⟩
theorem wf_block {W : World} {ok : Nat → Prop} {d g n cap : Nat} (h : Wf W ok (d + 1) (.slice (some ⟨g, 0, none⟩) n cap)) : ∃ cur, ok g ∧ W.heap[g]? = some (.cells cur 27 (0, 0)) ∧ n ≤ cap ∧ n ≤ 1000000 ∧ cur.size = cap * 9 ∧ ∀ i, i < n → ∃ u, cur[i * 9 + 8]? = some u ∧ Wf W ok d u := by
  rcases h with h | ⟨g', n', cap', cur, h, a, b, c, _, e, f, i⟩
  · cases h
  · cases h
    exact ⟨cur, a, b, c, e, f, i⟩
set_option maxRecDepth 100000 in
set_option maxHeartbeats 4000000 in
theorem wipe_row (ok : Nat → Prop) (d : Nat) (ih : ∀ (x0 x1 x2 x3 x4 x5 x6 x7 u : Value) (W : World), (∀ g, ok g → g < W.heap.size) → Wf W ok d u → Calls Try.prog 15 #[.agg #[x0, x1, x2, x3, x4, x5, x6, x7, u]] W fun e w' => (∃ v, e = .returned v) ∧ Dull ok W w')
    (x0 x1 x2 x3 x4 x5 x6 x7 : Value) (w : World) (hok : ∀ g, ok g → g < w.heap.size) (g n cap : Nat) (hv : Wf w ok (d + 1) (.slice (some ⟨g, 0, none⟩) n cap)) : Calls Try.prog 15 #[.agg #[x0, x1, x2, x3, x4, x5, x6, x7, .slice (some ⟨g, 0, none⟩) n cap]] w fun e w' => (∃ v, e = .returned v) ∧ Dull ok w w' := by
  obtain ⟨i0, hi, hz0, hz1, hz2⟩ := info_parts info27
  obtain ⟨_, hog, _, _, hn6, _, _⟩ := wf_block hv
  have HA := hideT (And.intro ih (And.intro hok (And.intro hv hog)))
  have hne : g ≠ w.heap.size := by have := hok g hog; omega
  have hne2 : w.heap.size ≠ g := fun e => hne e.symm
  clear ih hok hv hog
  go_enter Try.func15, Try.ntmps15
  go_upto_region 1 with fail
  obtain ⟨X, hX⟩ : ∃ X, X = w.alloc (.cells #[x0, x1, x2, x3, x4, x5, x6, x7, .slice (some ⟨g, 0, none⟩) n cap] 27) := ⟨_, rfl⟩
  rw [← hX]
  have xb : X.heap[w.heap.size]? = some (.cells #[x0, x1, x2, x3, x4, x5, x6, x7, .slice (some ⟨g, 0, none⟩) n cap] 27 (0, 0)) := by rw [hX]; exact heap_alloc_new w _
  have z8 : X.cell? ⟨w.heap.size, 8, none⟩ = some (.slice (some ⟨g, 0, none⟩) n cap) := by simp [World.cell?, xb]
  have hDX : Dull ok w X := by rw [hX]; exact (Dull.refl ok w).alloc _
  have HX := hideT (And.intro xb hDX)
  clear hX xb hDX
  go_wp2_with fail
  go_loopw [7] (fun iv wr => ∃ k : Nat, k ≤ n ∧ iv = .int .i64 k ∧ wr.heap[w.heap.size]? = some (.cells #[x0, x1, x2, x3, x4, x5, x6, x7, .slice (some ⟨g, 0, none⟩) n cap] 27 (0, 0)) ∧ Dull ok w wr) (fun iv _ => (n - intOf iv).toNat)
  case atStart => exact ⟨0, by omega, rfl, HX.out⟩
  case round =>
    clear HX z8
    obtain ⟨k, hk1, rfl, gb, gD⟩ := hrel
    have z8 : wr.cell? ⟨w.heap.size, 8, none⟩ = some (.slice (some ⟨g, 0, none⟩) n cap) := by simp [World.cell?, gb]
    have hw := HA.out.2.2.1.dull gD
    by_cases hlt : k < n
    · obtain ⟨cur, _, hcur, hnc, _, hcs, hks⟩ := wf_block hw
      obtain ⟨u, hu, wu⟩ := hks k hlt
      obtain ⟨y0, y1, y2, y3, y4, y5, y6, y7, y8, e8, p0, q0, p1, q1, p2, q2, p3, q3, p4, q4, p5, q5, p6, q6, p7, q7, p8, q8⟩ := row_cells hcur hcs (show k < cap by omega)
      obtain rfl : y8 = u := by rw [e8] at hu; injection hu
      obtain ⟨ua, un, uc, rfl⟩ := wu.shape
      have k3 : (k : Int) < (n : Int) := by omega
      have k4 : (0 : Int) ≤ (k : Int) := by omega
      have k5 : IntKind.i64.wrap ((k : Int) + 1) = (k : Int) + 1 := by rw [IntKind.wrap_i64]; omega
      have hcall := HA.out.1 y0 y1 y2 y3 y4 y5 y6 y7 (.slice ua un uc) wr (fun x hx => Nat.lt_of_lt_of_le (HA.out.2.1 x hx) gD.size) wu
      have HC := hideT (And.intro gb (And.intro gD hcall))
      clear gb gD hcall hw hcur hnc hcs hks hu wu e8
      go_wp2_with fail
      refine HC.out.2.2.mono ?_
      rintro e w1 ⟨⟨v, rfl⟩, hD1⟩
      have gb1 : w1.heap[w.heap.size]? = some (.cells #[x0, x1, x2, x3, x4, x5, x6, x7, .slice (some ⟨g, 0, none⟩) n cap] 27 (0, 0)) := (hD1.out _ (Array.getElem?_eq_some_iff.1 HC.out.1).1 (fun h => by have := HA.out.2.1 _ h; omega)).trans HC.out.1
      have gD1 := HC.out.2.1.trans hD1
      obtain ⟨cur1, hog, hcur1, hnc1, _, hcs1, _⟩ := wf_block (HA.out.2.2.1.dull gD1)
      obtain ⟨t0, t1, t2, t3, t4, t5, t6, t7, t8, _, r0, s0, r1, s1, r2, s2, r3, s3, r4, s4, r5, s5, r6, s6, r7, s7, r8, s8⟩ := row_cells hcur1 hcs1 (show k < cap by omega)
      have z8' : w1.cell? ⟨w.heap.size, 8, none⟩ = some (.slice (some ⟨g, 0, none⟩) n cap) := by simp [World.cell?, gb1]
      have HD := hideT (And.intro ((set9_far w1 g (k * 9) (.int .i64 77) (.int .u64 0) (.int .u64 0) (.int .u64 0) (.int .u64 0) (.int .i64 0) (.int .i64 0) (.int .i64 0) (.slice none 0 0) hne2).trans gb1) (gD1.put9 hog k (.int .i64 77) (.int .u64 0) (.int .u64 0) (.int .u64 0) (.int .u64 0) (.int .i64 0) (.int .i64 0) (.int .i64 0)))
      clear hD1 gb1 gD1 hog hcur1 hnc1 hcs1 HC p0 q0 p1 q1 p2 q2 p3 q3 p4 q4 p5 q5 p6 q6 p7 q7 p8 q8 z8
      go_wp2
      exact ⟨⟨k + 1, by omega, by go_num, HD.out⟩, by simp [intOf]; omega⟩
    · obtain rfl : k = n := by omega
      have k3 : ¬ (k : Int) < (k : Int) := by omega
      obtain ⟨Y, hY⟩ : ∃ Y, Y = wr.alloc (.cells #[.int .i64 78, .int .u64 0, .int .u64 0, .int .u64 0, .int .u64 0, .int .i64 0, .int .i64 0, .int .i64 0, .slice none 0 0] 27) := ⟨_, rfl⟩
      have hwY : RowW Y ok (Wf Y ok d) (.slice (some ⟨g, 0, none⟩) k cap) := (HA.out.2.2.1.dull (gD.trans (by rw [hY]; exact (Dull.refl ok wr).alloc _)) : Wf Y ok (d + 1) _)
      obtain ⟨F, hF⟩ : ∃ F : Value → Prop, F = Wf Y ok d := ⟨_, rfl⟩
      rw [← hF, hY] at hwY
      have HB := hideT (And.intro gD hwY)
      clear gb gD hw hwY hY hF
      go_wp2_with (first | (at_builtin; refine wpList_append_dull ok F rfl _ _ 25 rfl i0 (.agg #[.int .i64 0, .int .u64 0, .int .u64 0, .int .u64 0, .int .u64 0, .int .i64 0, .int .i64 0, .int .i64 0, .slice none 0 0]) und25 hi hz0 hz1 hz2 _ rfl HB.out.2 ⟨wr.heap.size, 0, none⟩ 1 [.int .i64 78, .int .u64 0, .int .u64 0, .int .u64 0, .int .u64 0, .int .i64 0, .int .i64 0, .int .i64 0, .slice none 0 0] rfl rfl rfl (World.news_of_block (heap_alloc_new wr _)) (by simp [Value.oneCell']) ?_; intro g2 n2 cap2 w2 hn2 hd2; have kn2 : ((n2 : Int) + 1 == 0) = false := (by rw [beq_eq_false_iff_ne]; omega); have HD2 := hideT hd2; clear hd2) | go_in)
      go_end0
      exact ⟨⟨_, rfl⟩, (HB.out.1.alloc _).trans HD2.out⟩
end Go.Proofs.Ytgpciekpmdihnaa
/- bre: wipe, of every tree; what it leaves as it was. -/
namespace Go.Proofs.Ytgpciekpmdihnaa
open Go.RowKit
open Go.Sort
theorem wipe_any (ok : Nat → Prop) : ∀ (d : Nat) (x0 x1 x2 x3 x4 x5 x6 x7 u : Value) (W : World), (∀ g, ok g → g < W.heap.size) → Wf W ok d u → Calls Try.prog 15 #[.agg #[x0, x1, x2, x3, x4, x5, x6, x7, u]] W fun e w' => (∃ v, e = .returned v) ∧ Dull ok W w'
  | 0, x0, x1, x2, x3, x4, x5, x6, x7, u, W, _, h => by
    obtain rfl : u = .slice none 0 0 := h
    exact wipe_nil ok x0 x1 x2 x3 x4 x5 x6 x7 W
  | d + 1, x0, x1, x2, x3, x4, x5, x6, x7, u, W, hok, h => by
    rcases id h with rfl | ⟨g, n, cap, _, rfl, _⟩
    · exact wipe_nil ok x0 x1 x2 x3 x4 x5 x6 x7 W
    · exact wipe_row ok d (wipe_any ok d) x0 x1 x2 x3 x4 x5 x6 x7 W hok g n cap h
theorem kids_wf {W : World} {ok : Nat → Prop} : ∀ (m : Nat) (v : Value) (ts : List Tr), SizeOf.sizeOf ts ≤ m → Kids W ok v ts → ts.length ≤ 1000000 → smallL ts → Wf W ok m v
  | 0, v, ts, h, _, _, _ => absurd h (by cases ts <;> simp)
  | m + 1, v, ts, h, hk, hl, hs => by
    obtain ⟨v, ts, vs, hvl, own, hok, hkk⟩ := hk
    obtain ⟨hxl, own2⟩ := id own
    rcases own2 with ⟨rfl, _⟩ | ⟨g, cap, cur, rfl, _, hh, hn, hc, hcs, ht⟩
    · exact .inl rfl
    · refine .inr ⟨g, ts.length, cap, cur, rfl, hok g rfl, hh, hn, hc, hl, hcs, fun i hi => ?_⟩
      have hv : i < vs.length := by omega
      have hti : ts[i]? = some ts[i] := List.getElem?_eq_getElem hi
      have hvi : vs[i]? = some vs[i] := List.getElem?_eq_getElem hv
      have hm : ts[i] ∈ ts := List.getElem_mem hi
      have hsm := smallT_pos _ (small_mem ts hs _ hm)
      refine ⟨vs[i], ?_, kids_wf m _ ts[i].kids ?_ (hkk i _ _ hti hvi) hsm.2.2.1.2 hsm.2.2.2⟩
      · have h8 := rowV_get ts[i] vs[i] 8 (by omega) ts vs i hti hvi
        rw [← ht, List.getElem?_take_of_lt (by omega), Array.getElem?_toList] at h8
        rw [h8]
        rfl
      · have h1 := List.sizeOf_lt_of_mem hm
        have h2 : SizeOf.sizeOf ts[i].kids < SizeOf.sizeOf ts[i] := by
          generalize ts[i] = t
          obtain ⟨k, q, lo, hi, gp, ks⟩ := t
          show SizeOf.sizeOf ks < _
          rw [Tr.mk.sizeOf_spec]
          omega
        omega
theorem kids_lt {W : World} {ok : Nat → Prop} {v : Value} {ts : List Tr} (h : Kids W ok v ts) : Kids W (fun g => ok g ∧ g < W.heap.size) v ts := by
  induction h with
  | mk v ts vs hl own hok _ ih => exact .mk v ts vs hl own (fun g hg => ⟨hok g hg, (owns_blk own hg).2.1⟩) ih
theorem kids_dull {W W' : World} {ok ok2 : Nat → Prop} {v : Value} {ts : List Tr} (h : Kids W ok2 v ts) (hD : Dull ok W W') (hne : ∀ g, ok2 g → ¬ ok g) : Kids W' ok2 v ts :=
  (kids_lt h).keep (fun g hg => hD.out g hg.2 (hne g hg.1)) (fun _ hg => hg.1)
theorem dull_below {W W' : World} {ok : Nat → Prop} {B : Nat} (hD : Dull ok W W') (hB : ∀ g, ok g → B ≤ g) (hl : B ≤ W.heap.size) : Below B W W' :=
  ⟨hD.os, hD.tape, hD.output, hD.size, fun k hk => hD.out k (by omega) (fun h => by have := hB k h; omega)⟩
end Go.Proofs.Ytgpciekpmdihnaa
/- BreKeeps: the walk. -/
namespace Go.Proofs.Ytgpciekpmdihnaa
open Go.RowKit
open Go.Sort
namespace keeps
set_option maxRecDepth 100000 in
set_option maxHeartbeats 4000000 in
theorem walk (s : ByteArray) (w : World) (hg : Glob w) : Calls Try.prog 5 #[.string s] w fun e w' => e = .returned (.bool true) ∧ Below w.heap.size w w' := by
  cases hp : parseT s with
  | ok ts =>
    have hs : s.size ≤ 1073741824 := by
      have h9 := hp
      unfold parseT at h9
      split at h9
      · cases h9
      · omega
    have hsm := parse_small s ts hp
    have hsp := smallT_pos _ hsm
    go_enter Try.func5, Try.ntmps5
    go_wp2_with fail
    refine (awake_any w hg).mono ?_
    rintro e w0 ⟨rfl, hBX0⟩
    have hg0 := hg.below hBX0 (Nat.le_refl _)
    go_wp2_with fail
    refine (parse_ok s hs ts hp w0 hg0).mono ?_
    rintro e w1 ⟨hB1, a, n, c, rfl, hk⟩
    have hBw1 := below_next hBX0 hB1
    obtain ⟨X1, hX1⟩ : ∃ X1, X1 = (w1.alloc (.cells #[.int .i64 0, .int .u64 0, .int .u64 0, .int .u64 0, .int .u64 0, .int .i64 0, .int .i64 0, .int .i64 0, .slice a n c] 27)).alloc (.cells #[.int .i64 0, .int .i64 0] 30) := ⟨_, rfl⟩
    have hBY1 : Below w1.heap.size w1 X1 := by rw [hX1]; exact ((Below.refl _ _).alloc (Nat.le_refl _) _).alloc (by rw [World.size_alloc]; omega) _
    have hBX1 := below_next hBw1 hBY1
    have hs1 : X1.heap.size = w1.heap.size + 1 + 1 := by rw [hX1, World.size_alloc, World.size_alloc]
    have hgX1 := hg.below hBX1 (Nat.le_refl _)
    have b1 : X1.heap[w1.heap.size]? = some (.cells #[.int .i64 0, .int .u64 0, .int .u64 0, .int .u64 0, .int .u64 0, .int .i64 0, .int .i64 0, .int .i64 0, .slice a n c] 27 (0, 0)) := by
      rw [hX1, Below.heap_alloc _ _ _ (by rw [World.size_alloc]; omega)]
      exact heap_alloc_new w1 _
    go_wp2_with fail
    rw [← hX1]
    clear hX1
    refine (parse_ok s hs ts hp X1 hgX1).mono ?_
    rintro e w2 ⟨hB2, a2, n2, c2, rfl, hk2⟩
    have hBw2 := below_next hBX1 hB2
    obtain ⟨X2, hX2⟩ : ∃ X2, X2 = (w2.alloc (.cells #[.int .i64 0, .int .u64 0, .int .u64 0, .int .u64 0, .int .u64 0, .int .i64 0, .int .i64 0, .int .i64 0, .slice a2 n2 c2] 27)).alloc (.cells #[.int .i64 0, .int .i64 0] 30) := ⟨_, rfl⟩
    have hBY2 : Below w2.heap.size w2 X2 := by rw [hX2]; exact ((Below.refl _ _).alloc (Nat.le_refl _) _).alloc (by rw [World.size_alloc]; omega) _
    have hBX2 := below_next hBw2 hBY2
    have hs2 : X2.heap.size = w2.heap.size + 1 + 1 := by rw [hX2, World.size_alloc, World.size_alloc]
    have hgX2 := hg.below hBX2 (Nat.le_refl _)
    have b2 : X2.heap[w2.heap.size]? = some (.cells #[.int .i64 0, .int .u64 0, .int .u64 0, .int .u64 0, .int .u64 0, .int .i64 0, .int .i64 0, .int .i64 0, .slice a2 n2 c2] 27 (0, 0)) := by
      rw [hX2, Below.heap_alloc _ _ _ (by rw [World.size_alloc]; omega)]
      exact heap_alloc_new w2 _
    go_wp2_with fail
    rw [← hX2]
    clear hX2
    refine (doc_ok s ts hp X2 hgX2).mono ?_
    rintro e w3 ⟨hB3, a3, n3, c3, rfl, hk3⟩
    have b12 := (hB2.block w1.heap.size (by omega)).trans b1
    have l2 := hB2.size
    have l3 := hB3.size
    have b13 := (hB3.block w1.heap.size (by omega)).trans ((hBY2.block w1.heap.size (by omega)).trans b12)
    have b23 := (hB3.block w2.heap.size (by omega)).trans b2
    have hBw3 := below_next hBX2 hB3
    obtain ⟨X3, hX3⟩ : ∃ X3, X3 = w3.alloc (.cells #[.int .i64 0, .int .u64 0, .int .u64 0, .int .u64 0, .int .u64 0, .int .i64 0, .int .i64 0, .int .i64 0, .slice a3 n3 c3] 27) := ⟨_, rfl⟩
    have hBY3 : Below w3.heap.size w3 X3 := by rw [hX3]; exact (Below.refl _ _).alloc (Nat.le_refl _) _
    have hBX3 := below_next hBw3 hBY3
    have hs3 : X3.heap.size = w3.heap.size + 1 := by rw [hX3, World.size_alloc]
    have hgX3 := hg.below hBX3 (Nat.le_refl _)
    have b3 : X3.heap[w3.heap.size]? = some (.cells #[.int .i64 0, .int .u64 0, .int .u64 0, .int .u64 0, .int .u64 0, .int .i64 0, .int .i64 0, .int .i64 0, .slice a3 n3 c3] 27 (0, 0)) := by rw [hX3]; exact heap_alloc_new w3 _
    have b14 := (hBY3.block w1.heap.size (by omega)).trans b13
    have b24 := (hBY3.block w2.heap.size (by omega)).trans b23
    have p0 : X3.cell? ⟨w1.heap.size, 0, none⟩ = some (.int .i64 0) := by simp [World.cell?, b14]
    have p1 : X3.cell? ⟨w1.heap.size, 1, none⟩ = some (.int .u64 0) := by simp [World.cell?, b14]
    have p2 : X3.cell? ⟨w1.heap.size, 2, none⟩ = some (.int .u64 0) := by simp [World.cell?, b14]
    have p3 : X3.cell? ⟨w1.heap.size, 3, none⟩ = some (.int .u64 0) := by simp [World.cell?, b14]
    have p4 : X3.cell? ⟨w1.heap.size, 4, none⟩ = some (.int .u64 0) := by simp [World.cell?, b14]
    have p5 : X3.cell? ⟨w1.heap.size, 5, none⟩ = some (.int .i64 0) := by simp [World.cell?, b14]
    have p6 : X3.cell? ⟨w1.heap.size, 6, none⟩ = some (.int .i64 0) := by simp [World.cell?, b14]
    have p7 : X3.cell? ⟨w1.heap.size, 7, none⟩ = some (.int .i64 0) := by simp [World.cell?, b14]
    have p8 : X3.cell? ⟨w1.heap.size, 8, none⟩ = some (.slice a n c) := by simp [World.cell?, b14]
    have hok : ∀ g, (w0.heap.size ≤ g ∧ g < w1.heap.size) → g < X3.heap.size := fun g h => by omega
    have hka := kids_below (kids_below (kids_below (kids_below (kids_below (kids_lt hk) hBY1) hB2) hBY2) hB3) hBY3
    have hkb := kids_below (kids_below (kids_below hk2 hBY2) hB3) hBY3
    have hkc := kids_below hk3 hBY3
    have hwf := kids_wf _ _ ts (Nat.le_refl _) hka hsp.2.2.1.2 hsp.2.2.2
    have hcall := wipe_any (fun g => w0.heap.size ≤ g ∧ g < w1.heap.size) _ (.int .i64 0) (.int .u64 0) (.int .u64 0) (.int .u64 0) (.int .u64 0) (.int .i64 0) (.int .i64 0) (.int .i64 0) (.slice a n c) X3 hok hwf
    rw [hX3] at p0 p1 p2 p3 p4 p5 p6 p7 p8
    go_wp2_with fail
    rw [← hX3]
    clear hX3
    refine hcall.mono ?_
    rintro e w4 ⟨⟨v, rfl⟩, hD⟩
    have l1 := hB1.size
    have l0 := hBX0.size
    have hB4 : Below w0.heap.size X3 w4 := dull_below hD (fun g h => h.1) (by omega)
    have hBw4 : Below w.heap.size w w4 := hBX3.trans (hB4.mono (by omega))
    have hg4 := hg.below hBw4 (Nat.le_refl _)
    have l4 := hD.size
    have b25 : w4.heap[w2.heap.size]? = _ := (hD.out w2.heap.size (by omega) (by omega)).trans b24
    have b35 : w4.heap[w3.heap.size]? = _ := (hD.out w3.heap.size (by omega) (by omega)).trans b3
    have hkb4 := kids_dull hkb hD (fun g h1 h2 => by omega)
    have hkc4 := kids_dull hkc hD (fun g h1 h2 => by omega)
    clear hka hkb hkc hwf hcall hok hk hk2 hk3
    have hBX4 := hBw4
    clear hD hB4 b14 b24 b13 b12 b23 b1 b2 b3 p0 p1 p2 p3 p4 p5 p6 p7 p8
    go_wp2_with fail
    refine (parse_ok s hs ts hp w4 hg4).mono ?_
    rintro e w5 ⟨hB5, a5, n5, c5, rfl, hk5⟩
    have hBw5 := below_next hBX4 hB5
    obtain ⟨X5, hX5⟩ : ∃ X5, X5 = (w5.alloc (.cells #[.int .i64 0, .int .u64 0, .int .u64 0, .int .u64 0, .int .u64 0, .int .i64 0, .int .i64 0, .int .i64 0, .slice a5 n5 c5] 27)).alloc (.cells #[.int .i64 0, .int .i64 0] 30) := ⟨_, rfl⟩
    have hBY5 : Below w5.heap.size w5 X5 := by rw [hX5]; exact ((Below.refl _ _).alloc (Nat.le_refl _) _).alloc (by rw [World.size_alloc]; omega) _
    have hBX5 := below_next hBw5 hBY5
    have hs5 : X5.heap.size = w5.heap.size + 1 + 1 := by rw [hX5, World.size_alloc, World.size_alloc]
    have hgX5 := hg.below hBX5 (Nat.le_refl _)
    have b5 : X5.heap[w5.heap.size]? = some (.cells #[.int .i64 0, .int .u64 0, .int .u64 0, .int .u64 0, .int .u64 0, .int .i64 0, .int .i64 0, .int .i64 0, .slice a5 n5 c5] 27 (0, 0)) := by
      rw [hX5, Below.heap_alloc _ _ _ (by rw [World.size_alloc]; omega)]
      exact heap_alloc_new w5 _
    have l5 := hB5.size
    have b26 := (hBY5.block w2.heap.size (by omega)).trans ((hB5.block w2.heap.size (by omega)).trans b25)
    have b36 := (hBY5.block w3.heap.size (by omega)).trans ((hB5.block w3.heap.size (by omega)).trans b35)
    have p0 : X5.cell? ⟨w2.heap.size, 0, none⟩ = some (.int .i64 0) := by simp [World.cell?, b26]
    have p1 : X5.cell? ⟨w2.heap.size, 1, none⟩ = some (.int .u64 0) := by simp [World.cell?, b26]
    have p2 : X5.cell? ⟨w2.heap.size, 2, none⟩ = some (.int .u64 0) := by simp [World.cell?, b26]
    have p3 : X5.cell? ⟨w2.heap.size, 3, none⟩ = some (.int .u64 0) := by simp [World.cell?, b26]
    have p4 : X5.cell? ⟨w2.heap.size, 4, none⟩ = some (.int .u64 0) := by simp [World.cell?, b26]
    have p5 : X5.cell? ⟨w2.heap.size, 5, none⟩ = some (.int .i64 0) := by simp [World.cell?, b26]
    have p6 : X5.cell? ⟨w2.heap.size, 6, none⟩ = some (.int .i64 0) := by simp [World.cell?, b26]
    have p7 : X5.cell? ⟨w2.heap.size, 7, none⟩ = some (.int .i64 0) := by simp [World.cell?, b26]
    have p8 : X5.cell? ⟨w2.heap.size, 8, none⟩ = some (.slice a2 n2 c2) := by simp [World.cell?, b26]
    have q0 : X5.cell? ⟨w3.heap.size, 0, none⟩ = some (.int .i64 0) := by simp [World.cell?, b36]
    have q1 : X5.cell? ⟨w3.heap.size, 1, none⟩ = some (.int .u64 0) := by simp [World.cell?, b36]
    have q2 : X5.cell? ⟨w3.heap.size, 2, none⟩ = some (.int .u64 0) := by simp [World.cell?, b36]
    have q3 : X5.cell? ⟨w3.heap.size, 3, none⟩ = some (.int .u64 0) := by simp [World.cell?, b36]
    have q4 : X5.cell? ⟨w3.heap.size, 4, none⟩ = some (.int .u64 0) := by simp [World.cell?, b36]
    have q5 : X5.cell? ⟨w3.heap.size, 5, none⟩ = some (.int .i64 0) := by simp [World.cell?, b36]
    have q6 : X5.cell? ⟨w3.heap.size, 6, none⟩ = some (.int .i64 0) := by simp [World.cell?, b36]
    have q7 : X5.cell? ⟨w3.heap.size, 7, none⟩ = some (.int .i64 0) := by simp [World.cell?, b36]
    have q8 : X5.cell? ⟨w3.heap.size, 8, none⟩ = some (.slice a3 n3 c3) := by simp [World.cell?, b36]
    have hkb5 := kids_below (kids_below hkb4 hB5) hBY5
    have hkc5 := kids_below (kids_below hkc4 hB5) hBY5
    have hkd5 := kids_below hk5 hBY5
    have hsame := same_any _ (catT ts) (Nat.lt_succ_self _) hsm X5 _ _ a2 a3 n2 c2 n3 c3 hkb5 hkc5
    rw [cat_node, cat_node] at hsame
    rw [hX5] at p0 q0 p1 q1 p2 q2 p3 q3 p4 q4 p5 q5 p6 q6 p7 q7 p8 q8
    go_wp2_with fail
    rw [← hX5]
    clear hX5
    refine hsame.mono ?_
    rintro e w6 ⟨rfl, hB6⟩
    have b37 := (hB6.block w3.heap.size (by omega)).trans b36
    have b57 := (hB6.block w5.heap.size (by omega)).trans b5
    have HB := hideT (below_next hBX5 hB6)
    clear p0 q0 p1 q1 p2 q2 p3 q3 p4 q4 p5 q5 p6 q6 p7 q7 p8 q8
    have q0 : w6.cell? ⟨w3.heap.size, 0, none⟩ = some (.int .i64 0) := by simp [World.cell?, b37]
    have q1 : w6.cell? ⟨w3.heap.size, 1, none⟩ = some (.int .u64 0) := by simp [World.cell?, b37]
    have q2 : w6.cell? ⟨w3.heap.size, 2, none⟩ = some (.int .u64 0) := by simp [World.cell?, b37]
    have q3 : w6.cell? ⟨w3.heap.size, 3, none⟩ = some (.int .u64 0) := by simp [World.cell?, b37]
    have q4 : w6.cell? ⟨w3.heap.size, 4, none⟩ = some (.int .u64 0) := by simp [World.cell?, b37]
    have q5 : w6.cell? ⟨w3.heap.size, 5, none⟩ = some (.int .i64 0) := by simp [World.cell?, b37]
    have q6 : w6.cell? ⟨w3.heap.size, 6, none⟩ = some (.int .i64 0) := by simp [World.cell?, b37]
    have q7 : w6.cell? ⟨w3.heap.size, 7, none⟩ = some (.int .i64 0) := by simp [World.cell?, b37]
    have q8 : w6.cell? ⟨w3.heap.size, 8, none⟩ = some (.slice a3 n3 c3) := by simp [World.cell?, b37]
    have r0 : w6.cell? ⟨w5.heap.size, 0, none⟩ = some (.int .i64 0) := by simp [World.cell?, b57]
    have r1 : w6.cell? ⟨w5.heap.size, 1, none⟩ = some (.int .u64 0) := by simp [World.cell?, b57]
    have r2 : w6.cell? ⟨w5.heap.size, 2, none⟩ = some (.int .u64 0) := by simp [World.cell?, b57]
    have r3 : w6.cell? ⟨w5.heap.size, 3, none⟩ = some (.int .u64 0) := by simp [World.cell?, b57]
    have r4 : w6.cell? ⟨w5.heap.size, 4, none⟩ = some (.int .u64 0) := by simp [World.cell?, b57]
    have r5 : w6.cell? ⟨w5.heap.size, 5, none⟩ = some (.int .i64 0) := by simp [World.cell?, b57]
    have r6 : w6.cell? ⟨w5.heap.size, 6, none⟩ = some (.int .i64 0) := by simp [World.cell?, b57]
    have r7 : w6.cell? ⟨w5.heap.size, 7, none⟩ = some (.int .i64 0) := by simp [World.cell?, b57]
    have r8 : w6.cell? ⟨w5.heap.size, 8, none⟩ = some (.slice a5 n5 c5) := by simp [World.cell?, b57]
    have hsame2 := same_any _ (catT ts) (Nat.lt_succ_self _) hsm w6 _ _ a5 a3 n5 c5 n3 c3 (kids_below hkd5 hB6) (kids_below hkc5 hB6)
    rw [cat_node, cat_node] at hsame2
    clear hkb4 hkc4 hkb5 hkc5 hkd5 hk5
    clear hsame hBw1 hBw2 hBw3 hBw4 hBw5 hBX0 hBX1 hBX2 hBX3 hBX4 hBX5 hBY1 hBY2 hBY3 hBY5 hB1 hB2 hB3 hB5 hB6 b25 b35 b26 b36 b5 b37 b57
    go_wp2_with fail
    refine hsame2.mono ?_
    rintro e w7 ⟨rfl, hB7⟩
    have HE := hideT (below_next HB.out hB7)
    clear q0 r0 q1 r1 q2 r2 q3 r3 q4 r4 q5 r5 q6 r6 q7 r7 q8 r8 hB7 HB
    go_wp2
    go_ret
    exact ⟨rfl, HE.out⟩
  | error x =>
    obtain ⟨er, p⟩ := x
    go_enter Try.func5, Try.ntmps5
    go_wp2_with fail
    refine (awake_any w hg).mono ?_
    rintro e w0 ⟨rfl, hBX0⟩
    have hg0 := hg.below hBX0 (Nat.le_refl _)
    go_wp2_with fail
    refine (parse_fault s er p hp w0 hg0).mono ?_
    rintro e w1 ⟨rfl, hB1⟩
    have hBw1 := below_next hBX0 hB1
    obtain ⟨X1, hX1⟩ : ∃ X1, X1 = (w1.alloc (.cells #[.int .i64 0, .int .u64 0, .int .u64 0, .int .u64 0, .int .u64 0, .int .i64 0, .int .i64 0, .int .i64 0, .slice none 0 0] 27)).alloc (.cells #[.int .i64 er, .int .i64 (p : Nat)] 30) := ⟨_, rfl⟩
    have hBY1 : Below w1.heap.size w1 X1 := by rw [hX1]; exact ((Below.refl _ _).alloc (Nat.le_refl _) _).alloc (by rw [World.size_alloc]; omega) _
    have hBX1 := below_next hBw1 hBY1
    have hs1 : X1.heap.size = w1.heap.size + 1 + 1 := by rw [hX1, World.size_alloc, World.size_alloc]
    have hgX1 := hg.below hBX1 (Nat.le_refl _)
    have b1 : X1.heap[w1.heap.size]? = some (.cells #[.int .i64 0, .int .u64 0, .int .u64 0, .int .u64 0, .int .u64 0, .int .i64 0, .int .i64 0, .int .i64 0, .slice none 0 0] 27 (0, 0)) := by
      rw [hX1, Below.heap_alloc _ _ _ (by rw [World.size_alloc]; omega)]
      exact heap_alloc_new w1 _
    go_wp2_with fail
    rw [← hX1]
    clear hX1
    refine (parse_fault s er p hp X1 hgX1).mono ?_
    rintro e w2 ⟨rfl, hB2⟩
    have hBw2 := below_next hBX1 hB2
    obtain ⟨X2, hX2⟩ : ∃ X2, X2 = (w2.alloc (.cells #[.int .i64 0, .int .u64 0, .int .u64 0, .int .u64 0, .int .u64 0, .int .i64 0, .int .i64 0, .int .i64 0, .slice none 0 0] 27)).alloc (.cells #[.int .i64 er, .int .i64 (p : Nat)] 30) := ⟨_, rfl⟩
    have hBY2 : Below w2.heap.size w2 X2 := by rw [hX2]; exact ((Below.refl _ _).alloc (Nat.le_refl _) _).alloc (by rw [World.size_alloc]; omega) _
    have hBX2 := below_next hBw2 hBY2
    have hs2 : X2.heap.size = w2.heap.size + 1 + 1 := by rw [hX2, World.size_alloc, World.size_alloc]
    have hgX2 := hg.below hBX2 (Nat.le_refl _)
    have b2 : X2.heap[w2.heap.size]? = some (.cells #[.int .i64 0, .int .u64 0, .int .u64 0, .int .u64 0, .int .u64 0, .int .i64 0, .int .i64 0, .int .i64 0, .slice none 0 0] 27 (0, 0)) := by
      rw [hX2, Below.heap_alloc _ _ _ (by rw [World.size_alloc]; omega)]
      exact heap_alloc_new w2 _
    go_wp2_with fail
    rw [← hX2]
    clear hX2
    refine (doc_err s er p hp X2 hgX2).mono ?_
    rintro e w3 ⟨hB3, rfl⟩
    have b12 := (hB2.block w1.heap.size (by omega)).trans b1
    have l2 := hB2.size
    have l3 := hB3.size
    have b13 := (hB3.block w1.heap.size (by omega)).trans ((hBY2.block w1.heap.size (by omega)).trans b12)
    have b23 := (hB3.block w2.heap.size (by omega)).trans b2
    have hBw3 := below_next hBX2 hB3
    obtain ⟨X3, hX3⟩ : ∃ X3, X3 = w3.alloc (.cells #[.int .i64 0, .int .u64 0, .int .u64 0, .int .u64 0, .int .u64 0, .int .i64 0, .int .i64 0, .int .i64 0, .slice none 0 0] 27) := ⟨_, rfl⟩
    have hBY3 : Below w3.heap.size w3 X3 := by rw [hX3]; exact (Below.refl _ _).alloc (Nat.le_refl _) _
    have hBX3 := below_next hBw3 hBY3
    have hs3 : X3.heap.size = w3.heap.size + 1 := by rw [hX3, World.size_alloc]
    have hgX3 := hg.below hBX3 (Nat.le_refl _)
    have b3 : X3.heap[w3.heap.size]? = some (.cells #[.int .i64 0, .int .u64 0, .int .u64 0, .int .u64 0, .int .u64 0, .int .i64 0, .int .i64 0, .int .i64 0, .slice none 0 0] 27 (0, 0)) := by rw [hX3]; exact heap_alloc_new w3 _
    have b14 := (hBY3.block w1.heap.size (by omega)).trans b13
    have b24 := (hBY3.block w2.heap.size (by omega)).trans b23
    have p0 : X3.cell? ⟨w1.heap.size, 0, none⟩ = some (.int .i64 0) := by simp [World.cell?, b14]
    have p1 : X3.cell? ⟨w1.heap.size, 1, none⟩ = some (.int .u64 0) := by simp [World.cell?, b14]
    have p2 : X3.cell? ⟨w1.heap.size, 2, none⟩ = some (.int .u64 0) := by simp [World.cell?, b14]
    have p3 : X3.cell? ⟨w1.heap.size, 3, none⟩ = some (.int .u64 0) := by simp [World.cell?, b14]
    have p4 : X3.cell? ⟨w1.heap.size, 4, none⟩ = some (.int .u64 0) := by simp [World.cell?, b14]
    have p5 : X3.cell? ⟨w1.heap.size, 5, none⟩ = some (.int .i64 0) := by simp [World.cell?, b14]
    have p6 : X3.cell? ⟨w1.heap.size, 6, none⟩ = some (.int .i64 0) := by simp [World.cell?, b14]
    have p7 : X3.cell? ⟨w1.heap.size, 7, none⟩ = some (.int .i64 0) := by simp [World.cell?, b14]
    have p8 : X3.cell? ⟨w1.heap.size, 8, none⟩ = some (.slice none 0 0) := by simp [World.cell?, b14]
    have hcall := wipe_nil (fun g => w0.heap.size ≤ g ∧ g < w1.heap.size) (.int .i64 0) (.int .u64 0) (.int .u64 0) (.int .u64 0) (.int .u64 0) (.int .i64 0) (.int .i64 0) (.int .i64 0) X3
    rw [hX3] at p0 p1 p2 p3 p4 p5 p6 p7 p8
    go_wp2_with fail
    rw [← hX3]
    clear hX3
    refine hcall.mono ?_
    rintro e w4 ⟨⟨v, rfl⟩, hD⟩
    have l1 := hB1.size
    have l0 := hBX0.size
    have hB4 : Below w0.heap.size X3 w4 := dull_below hD (fun g h => h.1) (by omega)
    have hBw4 : Below w.heap.size w w4 := hBX3.trans (hB4.mono (by omega))
    have hg4 := hg.below hBw4 (Nat.le_refl _)
    have l4 := hD.size
    have b25 : w4.heap[w2.heap.size]? = _ := (hD.out w2.heap.size (by omega) (by omega)).trans b24
    have b35 : w4.heap[w3.heap.size]? = _ := (hD.out w3.heap.size (by omega) (by omega)).trans b3
    clear hcall
    have hBX4 := hBw4
    clear hD hB4 b14 b24 b13 b12 b23 b1 b2 b3 p0 p1 p2 p3 p4 p5 p6 p7 p8
    go_wp2_with fail
    refine (parse_fault s er p hp w4 hg4).mono ?_
    rintro e w5 ⟨rfl, hB5⟩
    have hBw5 := below_next hBX4 hB5
    obtain ⟨X5, hX5⟩ : ∃ X5, X5 = (w5.alloc (.cells #[.int .i64 0, .int .u64 0, .int .u64 0, .int .u64 0, .int .u64 0, .int .i64 0, .int .i64 0, .int .i64 0, .slice none 0 0] 27)).alloc (.cells #[.int .i64 er, .int .i64 (p : Nat)] 30) := ⟨_, rfl⟩
    have hBY5 : Below w5.heap.size w5 X5 := by rw [hX5]; exact ((Below.refl _ _).alloc (Nat.le_refl _) _).alloc (by rw [World.size_alloc]; omega) _
    have hBX5 := below_next hBw5 hBY5
    have hs5 : X5.heap.size = w5.heap.size + 1 + 1 := by rw [hX5, World.size_alloc, World.size_alloc]
    have hgX5 := hg.below hBX5 (Nat.le_refl _)
    have b5 : X5.heap[w5.heap.size]? = some (.cells #[.int .i64 0, .int .u64 0, .int .u64 0, .int .u64 0, .int .u64 0, .int .i64 0, .int .i64 0, .int .i64 0, .slice none 0 0] 27 (0, 0)) := by
      rw [hX5, Below.heap_alloc _ _ _ (by rw [World.size_alloc]; omega)]
      exact heap_alloc_new w5 _
    have l5 := hB5.size
    have b26 := (hBY5.block w2.heap.size (by omega)).trans ((hB5.block w2.heap.size (by omega)).trans b25)
    have b36 := (hBY5.block w3.heap.size (by omega)).trans ((hB5.block w3.heap.size (by omega)).trans b35)
    have p0 : X5.cell? ⟨w2.heap.size, 0, none⟩ = some (.int .i64 0) := by simp [World.cell?, b26]
    have p1 : X5.cell? ⟨w2.heap.size, 1, none⟩ = some (.int .u64 0) := by simp [World.cell?, b26]
    have p2 : X5.cell? ⟨w2.heap.size, 2, none⟩ = some (.int .u64 0) := by simp [World.cell?, b26]
    have p3 : X5.cell? ⟨w2.heap.size, 3, none⟩ = some (.int .u64 0) := by simp [World.cell?, b26]
    have p4 : X5.cell? ⟨w2.heap.size, 4, none⟩ = some (.int .u64 0) := by simp [World.cell?, b26]
    have p5 : X5.cell? ⟨w2.heap.size, 5, none⟩ = some (.int .i64 0) := by simp [World.cell?, b26]
    have p6 : X5.cell? ⟨w2.heap.size, 6, none⟩ = some (.int .i64 0) := by simp [World.cell?, b26]
    have p7 : X5.cell? ⟨w2.heap.size, 7, none⟩ = some (.int .i64 0) := by simp [World.cell?, b26]
    have p8 : X5.cell? ⟨w2.heap.size, 8, none⟩ = some (.slice none 0 0) := by simp [World.cell?, b26]
    have q0 : X5.cell? ⟨w3.heap.size, 0, none⟩ = some (.int .i64 0) := by simp [World.cell?, b36]
    have q1 : X5.cell? ⟨w3.heap.size, 1, none⟩ = some (.int .u64 0) := by simp [World.cell?, b36]
    have q2 : X5.cell? ⟨w3.heap.size, 2, none⟩ = some (.int .u64 0) := by simp [World.cell?, b36]
    have q3 : X5.cell? ⟨w3.heap.size, 3, none⟩ = some (.int .u64 0) := by simp [World.cell?, b36]
    have q4 : X5.cell? ⟨w3.heap.size, 4, none⟩ = some (.int .u64 0) := by simp [World.cell?, b36]
    have q5 : X5.cell? ⟨w3.heap.size, 5, none⟩ = some (.int .i64 0) := by simp [World.cell?, b36]
    have q6 : X5.cell? ⟨w3.heap.size, 6, none⟩ = some (.int .i64 0) := by simp [World.cell?, b36]
    have q7 : X5.cell? ⟨w3.heap.size, 7, none⟩ = some (.int .i64 0) := by simp [World.cell?, b36]
    have q8 : X5.cell? ⟨w3.heap.size, 8, none⟩ = some (.slice none 0 0) := by simp [World.cell?, b36]
    have hsame := same_zero X5
    rw [hX5] at p0 q0 p1 q1 p2 q2 p3 q3 p4 q4 p5 q5 p6 q6 p7 q7 p8 q8
    go_wp2_with fail
    rw [← hX5]
    clear hX5
    refine hsame.mono ?_
    rintro e w6 ⟨rfl, hB6⟩
    have b37 := (hB6.block w3.heap.size (by omega)).trans b36
    have b57 := (hB6.block w5.heap.size (by omega)).trans b5
    have HB := hideT (below_next hBX5 hB6)
    clear p0 q0 p1 q1 p2 q2 p3 q3 p4 q4 p5 q5 p6 q6 p7 q7 p8 q8
    have q0 : w6.cell? ⟨w3.heap.size, 0, none⟩ = some (.int .i64 0) := by simp [World.cell?, b37]
    have q1 : w6.cell? ⟨w3.heap.size, 1, none⟩ = some (.int .u64 0) := by simp [World.cell?, b37]
    have q2 : w6.cell? ⟨w3.heap.size, 2, none⟩ = some (.int .u64 0) := by simp [World.cell?, b37]
    have q3 : w6.cell? ⟨w3.heap.size, 3, none⟩ = some (.int .u64 0) := by simp [World.cell?, b37]
    have q4 : w6.cell? ⟨w3.heap.size, 4, none⟩ = some (.int .u64 0) := by simp [World.cell?, b37]
    have q5 : w6.cell? ⟨w3.heap.size, 5, none⟩ = some (.int .i64 0) := by simp [World.cell?, b37]
    have q6 : w6.cell? ⟨w3.heap.size, 6, none⟩ = some (.int .i64 0) := by simp [World.cell?, b37]
    have q7 : w6.cell? ⟨w3.heap.size, 7, none⟩ = some (.int .i64 0) := by simp [World.cell?, b37]
    have q8 : w6.cell? ⟨w3.heap.size, 8, none⟩ = some (.slice none 0 0) := by simp [World.cell?, b37]
    have r0 : w6.cell? ⟨w5.heap.size, 0, none⟩ = some (.int .i64 0) := by simp [World.cell?, b57]
    have r1 : w6.cell? ⟨w5.heap.size, 1, none⟩ = some (.int .u64 0) := by simp [World.cell?, b57]
    have r2 : w6.cell? ⟨w5.heap.size, 2, none⟩ = some (.int .u64 0) := by simp [World.cell?, b57]
    have r3 : w6.cell? ⟨w5.heap.size, 3, none⟩ = some (.int .u64 0) := by simp [World.cell?, b57]
    have r4 : w6.cell? ⟨w5.heap.size, 4, none⟩ = some (.int .u64 0) := by simp [World.cell?, b57]
    have r5 : w6.cell? ⟨w5.heap.size, 5, none⟩ = some (.int .i64 0) := by simp [World.cell?, b57]
    have r6 : w6.cell? ⟨w5.heap.size, 6, none⟩ = some (.int .i64 0) := by simp [World.cell?, b57]
    have r7 : w6.cell? ⟨w5.heap.size, 7, none⟩ = some (.int .i64 0) := by simp [World.cell?, b57]
    have r8 : w6.cell? ⟨w5.heap.size, 8, none⟩ = some (.slice none 0 0) := by simp [World.cell?, b57]
    have hsame2 := same_zero w6
    clear hsame hBw1 hBw2 hBw3 hBw4 hBw5 hBX0 hBX1 hBX2 hBX3 hBX4 hBX5 hBY1 hBY2 hBY3 hBY5 hB1 hB2 hB3 hB5 hB6 b25 b35 b26 b36 b5 b37 b57
    go_wp2_with fail
    refine hsame2.mono ?_
    rintro e w7 ⟨rfl, hB7⟩
    have HE := hideT (below_next HB.out hB7)
    clear q0 r0 q1 r1 q2 r2 q3 r3 q4 r4 q5 r5 q6 r6 q7 r7 q8 r8 hB7 HB
    go_wp2
    go_ret
    exact ⟨rfl, HE.out⟩
end keeps
end Go.Proofs.Ytgpciekpmdihnaa
