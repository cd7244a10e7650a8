/- check: lists of commands that are made; awake. -/
import Derived.Test.YtdlceppiblodmaaCj
import Derived.Laws.AppendOwnNone
namespace Go.Proofs.Ytdlceppiblodmaa
open Go.RowKit
open chkP

/-- The cells of a list of commands. -/
def cmX : List (Cm × Rst) → List Value
  | [] => []
  | p :: l => cmV p.1 p.2 ++ cmX l
theorem cmX_len : ∀ l : List (Cm × Rst), (cmX l).length = l.length * 19
  | [] => rfl
  | p :: l => by simp only [cmX, List.length_append, cmX_len l, cmV_len, List.length_cons]; omega
theorem cmX_app (l m : List (Cm × Rst)) : cmX (l ++ m) = cmX l ++ cmX m := by
  induction l with
  | nil => rfl
  | cons p l ih => simp only [List.cons_append, cmX, ih, List.append_assoc]
theorem cmX_get : ∀ (l : List (Cm × Rst)) (k j : Nat) (p : Cm × Rst), l[k]? = some p → j < 19 → (cmX l)[k * 19 + j]? = (cmV p.1 p.2)[j]?
  | [], k, j, p, h, _ => by simp at h
  | q :: l, 0, j, p, h, hj => by
    simp only [List.getElem?_cons_zero, Option.some.injEq] at h
    subst h
    simp only [cmX, Nat.zero_mul, Nat.zero_add]
    rw [List.getElem?_append_left (by rw [cmV_len]; exact hj)]
  | q :: l, k + 1, j, p, h, hj => by
    have := cmX_get l k j p (by simpa using h) hj
    simp only [cmX]
    rw [List.getElem?_append_right (by rw [cmV_len]; omega), cmV_len, show (k + 1) * 19 + j - 19 = k * 19 + j by omega]
    exact this
theorem cmV_one (c : Cm) (r : Rst) : ∀ u ∈ cmV c r, u.oneCell' = true := by
  intro u hu
  simp only [cmV, List.mem_cons, List.not_mem_nil, or_false] at hu
  rcases hu with h | h | h | h | h | h | h | h | h | h | h | h | h | h | h | h | h | h | h <;> subst h <;> rfl
theorem cmX_one : ∀ (l : List (Cm × Rst)), ∀ u ∈ cmX l, u.oneCell' = true
  | [], u, h => by cases h
  | p :: l, u, h => by
    rcases List.mem_append.1 h with h | h
    · exact cmV_one _ _ u h
    · exact cmX_one l u h
/-- The cells lie there. -/
def LiesAt (W : World) (g o : Nat) (xs : List Value) : Prop := ∀ (j : Nat) (u : Value), xs[j]? = some u → W.cell? ⟨g, o + j, none⟩ = some u
theorem crow_lies {W : World} {g o cap : Nat} {l : List (Cm × Rst)} (h : LiesAt W g o (cmX l)) (hl : ∀ p ∈ l, p.1.lb.length ≤ 1000000000000000) : CRow W (.slice (some ⟨g, o, none⟩) l.length cap) (l.map Prod.fst) := by
  refine ⟨some ⟨g, o, none⟩, cap, by simp, fun k x hx => ?_⟩
  rw [List.getElem?_map] at hx
  obtain ⟨p, hp, rfl⟩ := Option.map_eq_some_iff.1 hx
  have hc : ∀ (j : Nat) (u : Value), j < 19 → (cmV p.1 p.2)[j]? = some u → W.cell? ⟨g, o + (k * 19 + j), none⟩ = some u := fun j u hj hu => h (k * 19 + j) u (by rw [cmX_get l k j p hp hj]; exact hu)
  refine ⟨g, o, rfl, ⟨?_, ?_, ?_, ?_, ?_, ?_⟩, hl p (List.mem_of_getElem? hp)⟩
  · have := hc 0 _ (by decide) rfl
    rw [Nat.add_zero] at this
    exact this
  · rw [Nat.add_assoc]; exact hc 1 _ (by decide) rfl
  · rw [Nat.add_assoc]; exact hc 4 _ (by decide) rfl
  · rw [Nat.add_assoc]; exact hc 7 _ (by decide) rfl
  · rw [Nat.add_assoc]; exact hc 8 _ (by decide) rfl
  · rw [Nat.add_assoc]; exact hc 9 _ (by decide) rfl
theorem crow_nil (W : World) (cap : Nat) (a : Option Addr) : CRow W (.slice a 0 cap) [] := ⟨a, cap, rfl, fun k x h => by simp at h⟩
theorem lies_block {W : World} {g : Nat} {cs : Array Value} {t : TypeId} {fr : Nat × Nat} (h : W.heap[g]? = some (.cells cs t fr)) {xs : List Value} (hx : cs.toList.take xs.length = xs) : LiesAt W g 0 xs := fun j u hu => by
  have hj : j < xs.length := (List.getElem?_eq_some_iff.1 hu).1
  rw [← hx, List.getElem?_take_of_lt hj] at hu
  rw [Nat.zero_add]
  simp only [World.cell?, h]
  simpa using hu
theorem crow_owns {W : World} {B : Nat} {v : Value} {l : List (Cm × Rst)} (h : W.ownsRow B 27 19 v l.length (cmX l)) (hl : ∀ p ∈ l, p.1.lb.length ≤ 1000000000000000) : CRow W v (l.map Prod.fst) := by
  rcases h.2 with ⟨rfl, h0⟩ | ⟨g, cap, cur, rfl, _, hh, _, _, _, ht⟩
  · obtain rfl := List.eq_nil_of_length_eq_zero h0
    exact crow_nil _ _ _
  · refine crow_lies (lies_block hh ?_) hl
    rw [cmX_len]
    exact ht

def rst0 : Rst := ⟨0, ⟨#[]⟩, 0, ⟨#[]⟩, ⟨#[]⟩, ⟨#[]⟩, ⟨#[]⟩, none, 0, 0, 0, false, false, ⟨#[]⟩, ⟨#[]⟩⟩
def zr (l : List Cm) : List (Cm × Rst) := l.map fun c => (c, rst0)
theorem zr_fst (l : List Cm) : (zr l).map Prod.fst = l := by simp [zr, Function.comp_def]
theorem zr_app (l m : List Cm) : zr (l ++ m) = zr l ++ zr m := by simp [zr]
theorem zr_len (l : List Cm) : (zr l).length = l.length := by simp [zr]

theorem infoCmd : (Try.prog.info? 27).map (fun i => (i.zero, i.size, i.bytes)) = some (some (.agg #[.int .i64 0, .int .i64 0, .int .i64 0, .string ⟨#[]⟩, .int .i64 0, .int .i64 0, .string ⟨#[]⟩, .bool false, .int .u8 0, .string ⟨#[]⟩, .string ⟨#[]⟩, .string ⟨#[]⟩, .string ⟨#[]⟩, .slice none 0 0, .int .i64 0, .bool false, .bool false, .string ⟨#[]⟩, .string ⟨#[]⟩]), 19, 216) := by kernel_rfl

/-- append of commands that lie somewhere onto a list of one's own. -/
theorem append_cmds {w : World} {ops : Array Oper} {rest : List Oper} {op : Oper} {a : Act} {Q : Exit → Act → World → Prop} (hgd : op.guard = none) (s x : Operand)
    (ho : op.op = .call { callee := .builtin .append, args := #[s, x], argTypes := #[22, 22] })
    (B : Nat) (v : Value) (l m : List (Cm × Rst)) (hs : a.eval s = v) (hown : w.ownsRow B 27 19 v l.length (cmX l)) (g o c : Nat) (hx : a.eval x = .slice (some ⟨g, o, none⟩) m.length c) (hm : 0 < m.length) (hlies : LiesAt w g o (cmX m)) (hl : l.length + m.length ≤ 1000000000) (hB : B ≤ w.heap.size)
    (h : ∀ g2 cap w', w'.ownsRow B 27 19 (.slice (some ⟨g2, 0, none⟩) (l.length + m.length) cap) (l ++ m).length (cmX (l ++ m)) → w.grownBy w' v.ownBlock → (v.ownBlock = some g2 ∨ g2 = w.heap.size) → wpList Try.prog ops Q rest (a.put op.dst (.slice (some ⟨g2, 0, none⟩) (l.length + m.length) cap)) w') : wpList Try.prog ops Q (op :: rest) a w := by
  obtain ⟨i0, hi, hz0, hz1, hz2⟩ := info_parts infoCmd
  refine wpList_append_lies w hgd s x 22 ho B 27 i0 _ 19 216 Try.underlying22 hi hz0 hz1 hz2 rfl (by decide) v l.length (cmX l) hs hown ⟨g, o, none⟩ m.length c (cmX m) hx (cmX_len m) (fun j u hu => ?_) (cmX_one m) hm (by unfold maxLen; omega) (by omega) hB w.heap.size rfl ?_
  · have hadd : (⟨g, o, none⟩ : Addr).add j = ⟨g, o + j, none⟩ := by unfold Addr.add; split <;> simp_all
    rw [hadd]
    exact hlies j u hu
  · intro g2 cap w' h1 h2 h3 _
    refine h g2 cap w' ?_ h2 h3
    rw [List.length_append, cmX_app]
    exact h1

/-- A list of commands that is made here, all of them new memory. -/
structure CsAt (W wr : World) (v : Value) (l : List Cm) : Prop where
  own : wr.ownsRow W.heap.size 27 19 v (zr l).length (cmX (zr l))
  below : Below W.heap.size W wr
  hnil : l = [] → v = .slice none 0 0
  labs : ∀ c ∈ l, c.lb.length ≤ 1000000000000000
theorem CsAt.row {W wr : World} {v : Value} {l : List Cm} (h : CsAt W wr v l) : CRow wr v l := by
  have := crow_owns h.own (fun p hp => by
    obtain ⟨c, hc, rfl⟩ := List.mem_map.1 hp
    exact h.labs c hc)
  rw [zr_fst] at this
  exact this
theorem CsAt.step {W wr w' : World} {v : Value} {l : List Cm} (h : CsAt W wr v l) (hb : Below wr.heap.size wr w') : CsAt W w' v l := by
  refine ⟨owns_keep h.own (fun g hg => hb.block g (h.own.lt g hg).2), h.below.trans (hb.mono h.below.size), h.hnil, h.labs⟩
theorem CsAt.start (W : World) : CsAt W W (.slice none 0 0) [] := ⟨World.ownsRow_nil _ _ _ _, Below.refl _ _, fun _ => rfl, fun c h => by cases h⟩
theorem CsAt.shape {W wr : World} {v : Value} {l : List Cm} (h : CsAt W wr v l) : (v = .slice none 0 0 ∧ l = []) ∨ ∃ g c, v = .slice (some ⟨g, 0, none⟩) l.length c ∧ 0 < l.length := by
  by_cases hl : l = []
  · exact .inl ⟨h.hnil hl, hl⟩
  · rcases h.own.2 with ⟨_, h0⟩ | ⟨g, cap, cur, h1, _⟩
    · rw [zr_len] at h0
      exact absurd (List.eq_nil_of_length_eq_zero h0) hl
    · rw [zr_len] at h1
      exact .inr ⟨g, cap, h1, List.length_pos_iff.2 hl⟩
theorem CsAt.lies {W wr : World} {g cap : Nat} {l : List Cm} (h : CsAt W wr (.slice (some ⟨g, 0, none⟩) l.length cap) l) : LiesAt wr g 0 (cmX (zr l)) := by
  rcases h.own.2 with ⟨h1, _⟩ | ⟨g', cap', cur, h1, _, hh, _, _, _, ht⟩
  · cases h1
  · rw [zr_len] at h1
    injection h1 with h1
    injection h1 with h1
    injection h1 with h1
    subst h1
    refine lies_block hh ?_
    rw [cmX_len]
    exact ht
/-- A literal's commands are added to it. -/
theorem append_lit {W w V : World} {ops : Array Oper} {rest : List Oper} {op : Oper} {a : Act} {Q : Exit → Act → World → Prop} (hgd : op.guard = none) (s x : Operand)
    (ho : op.op = .call { callee := .builtin .append, args := #[s, x], argTypes := #[22, 22] })
    (v : Value) (l m : List Cm) (cs : Array Value) (hw : w = V.alloc (.cells cs 27)) (hcs : cs.toList = cmX (zr m)) (hs : a.eval s = v) (hA : CsAt W V v l) (c : Nat) (hx : a.eval x = .slice (some ⟨V.heap.size, 0, none⟩) m.length c) (hm : 0 < m.length) (hl : l.length + m.length ≤ 1000000000) (hlab : ∀ c ∈ m, c.lb.length ≤ 1000000000000000)
    (h : ∀ g2 cap w', CsAt W w' (.slice (some ⟨g2, 0, none⟩) (l.length + m.length) cap) (l ++ m) → V.grownBy w' v.ownBlock → wpList Try.prog ops Q rest (a.put op.dst (.slice (some ⟨g2, 0, none⟩) (l.length + m.length) cap)) w') : wpList Try.prog ops Q (op :: rest) a w := by
  subst hw
  refine append_cmds hgd s x ho W.heap.size v (zr l) (zr m) hs (World.ownsRow.alloc hA.own _) V.heap.size 0 c (by rw [zr_len]; exact hx) (by rw [zr_len]; exact hm) (lies_block (heap_alloc_new V _) (by rw [hcs, List.take_length])) (by rw [zr_len, zr_len]; exact hl) (by rw [World.size_alloc]; have := hA.below.size; omega) ?_
  intro g2 cap w' h1 h2 h3
  have h2' : V.grownBy w' v.ownBlock := ⟨h2.os, h2.tape, h2.output, Nat.le_trans (by rw [World.size_alloc]; omega) h2.size, fun k hk hne => (h2.block k (by rw [World.size_alloc]; omega) hne).trans (Below.heap_alloc V _ k hk)⟩
  rw [zr_len, zr_len] at h1 ⊢
  rw [← zr_app] at h1
  refine h g2 cap w' ⟨h1, hA.below.trans (below_grown h2' (fun g hg => (hA.own.lt g hg).1) hA.below.size), fun e => ?_, fun c hc => ?_⟩ h2'
  · have := congrArg List.length e
    rw [List.length_append, List.length_nil] at this
    omega
  · rcases List.mem_append.1 hc with hc | hc
    · exact hA.labs c hc
    · exact hlab c hc

theorem CsAt.beside {W V w' : World} {v : Value} {l : List Cm} {r : Option Nat} (h : CsAt W V v l) (hg : V.grownBy w' r) (hr : ∀ g, r = some g → W.heap.size ≤ g) (hne : ∀ g, v.ownBlock = some g → r ≠ some g) : CsAt W w' v l :=
  ⟨owns_keep h.own (fun g hv => hg.block g (h.own.lt g hv).2 (fun e => hne g hv e.symm)), h.below.trans (below_grown hg hr h.below.size), h.hnil, h.labs⟩
/-- It is copied: append of all of it onto nothing. -/
theorem append_copy {W w : World} {ops : Array Oper} {rest : List Oper} {op : Oper} {a : Act} {Q : Exit → Act → World → Prop} (hgd : op.guard = none) (s x : Operand)
    (ho : op.op = .call { callee := .builtin .append, args := #[s, x], argTypes := #[22, 22] })
    (v : Value) (l : List Cm) (hs : a.eval s = .slice none 0 0) (hA : CsAt W w v l) (hx : a.eval x = v) (hl : l.length ≤ 1000000000)
    (h : ∀ v2 w', CsAt W w' v2 l → (∀ g, v2.ownBlock = some g → w.heap.size ≤ g) → Below w.heap.size w w' → wpList Try.prog ops Q rest (a.put op.dst v2) w') : wpList Try.prog ops Q (op :: rest) a w := by
  rcases hA.shape with ⟨rfl, rfl⟩ | ⟨g, c, rfl, hpos⟩
  · obtain ⟨i0, hi, hz0, hz1, hz2⟩ := info_parts infoCmd
    refine wpList_append_own_none hgd s x 22 ho W.heap.size 27 i0 19 Try.underlying22 hi (.slice none 0 0) 0 [] hs (World.ownsRow_nil _ _ _ _) hx ?_
    exact h _ w hA (fun g e => by cases e) (Below.refl _ _)
  · refine append_cmds hgd s x ho w.heap.size (.slice none 0 0) [] (zr l) hs (World.ownsRow_nil _ _ _ _) g 0 c (by rw [zr_len]; exact hx) (by rw [zr_len]; exact hpos) hA.lies (by rw [zr_len]; simpa using hl) (Nat.le_refl _) ?_
    intro g2 cap w' h1 h2 h3
    have hb : Below w.heap.size w w' := below_grown h2 (fun g e => by cases e) (Nat.le_refl _)
    have hg2 : g2 = w.heap.size := by
      rcases h3 with h3 | h3
      · cases h3
      · exact h3
    simp only [List.length_nil, Nat.zero_add, List.nil_append] at h1 ⊢
    refine h _ w' ⟨?_, hA.below.trans (hb.mono hA.below.size), fun e => ?_, hA.labs⟩ (fun g e => by cases e; exact Nat.le_of_eq hg2.symm) hb
    · obtain ⟨q1, q2⟩ := h1
      refine ⟨q1, ?_⟩
      rcases q2 with q2 | ⟨g', c', cur, q3, q4, q5⟩
      · exact .inl q2
      · exact .inr ⟨g', c', cur, q3, Nat.le_trans hA.below.size q4, q5⟩
    · rw [e] at hpos
      cases hpos

theorem und_flt : Try.prog.underlying 30 = some (.struct (Try.prog.fieldsOf 30)) := by kernel_rfl
theorem held_flt : Try.prog.stoodInHeld 30 = false := by kernel_rfl
theorem fields_flt : (Try.prog.fieldsOf 30).toList.map (fun f => (f.type, f.name, f.offset)) = [(28, "E", 0), (3, "At", 1)] := by kernel_rfl
theorem run_equal_fault (a b c d : Int) (w : World) : (Op.equalIn 10000 30 (.agg #[.int .i64 a, .int .i64 b]) (.agg #[.int .i64 c, .int .i64 d])).run Try.prog w = .ok (decide (a = c) && decide (b = d)) w := by
  rw [run_equalIn_struct w 9999 30 _ _ und_flt held_flt]
  have h := fields_flt
  generalize (Try.prog.fieldsOf 30).toList = L at h
  obtain ⟨f1, L1, rfl, h1, h2⟩ := List.map_eq_cons_iff.1 h
  obtain ⟨f2, L2, rfl, h3, h4⟩ := List.map_eq_cons_iff.1 h2
  obtain rfl := List.map_eq_nil_iff.1 h4
  simp only [Prod.mk.injEq] at h1 h3
  obtain ⟨t1, n1, o1⟩ := h1
  obtain ⟨t2, n2, o2⟩ := h3
  simp [Op.eqFields, t1, n1, o1, t2, n2, o2, go_sem]
  by_cases ha : a = c <;> by_cases hb : b = d <;> simp [ha, hb]

/-- Check of what was made. -/
theorem check_made {W wr : World} {v : Value} {l : List Cm} (h : CsAt W wr v l) (hl : l.length ≤ 1000000000) {e : Nat} {p : Int} (hc : chkR l = (e, p)) : Calls Try.prog 7 #[v] wr fun en w' => en = .returned (.agg #[.int .i64 (e : Nat), .int .i64 p]) ∧ Below wr.heap.size wr w' := by
  have := check_any h.row hl
  simp only [chkV, fltV, hc] at this
  exact this

set_option maxRecDepth 100000 in
set_option maxHeartbeats 2000000 in
theorem awake_any (W : World) : Calls Try.prog 9 #[] W fun e w' => e = .returned (.bool true) ∧ Below W.heap.size W w' := by
  have H1 := hideT (show CRow (W.alloc (.cells (cmX (zr [cm 123 4, cm 112 5])).toArray 27)) (.slice (some ⟨W.heap.size, 0, none⟩) 2 2) [cm 123 4, cm 112 5] from by
    have := crow_lies (cap := 2) (l := zr [cm 123 4, cm 112 5]) (lies_block (heap_alloc_new W (.cells (cmX (zr [cm 123 4, cm 112 5])).toArray 27)) (by simp)) (fun p hp => by
      obtain ⟨c, hc, rfl⟩ := List.mem_map.1 hp
      simp only [List.mem_cons, List.not_mem_nil, or_false] at hc
      rcases hc with rfl | rfl <;> simp [cm])
    rw [zr_fst] at this
    exact this)
  have H2 := hideT (fun V : World => show CRow (V.alloc (.cells (cmX (zr [cm 112 0])).toArray 27)) (.slice (some ⟨V.heap.size, 0, none⟩) 1 1) [cm 112 0] from by
    have := crow_lies (cap := 1) (l := zr [cm 112 0]) (lies_block (heap_alloc_new V (.cells (cmX (zr [cm 112 0])).toArray 27)) (by simp)) (fun p hp => by
      obtain ⟨c, hc, rfl⟩ := List.mem_map.1 hp
      simp only [List.mem_cons, List.not_mem_nil, or_false] at hc
      subst hc
      simp [cm])
    rw [zr_fst] at this
    exact this)
  have hq1 := fun w => run_equal_fault 23 4 23 4 w
  have hq2 := fun w => run_equal_fault 0 0 0 0 w
  have HB := hideT ((Below.refl W.heap.size W).alloc (Nat.le_refl _) (.cells (cmX (zr [cm 123 4, cm 112 5])).toArray 27))
  have HC1 := hideT (check_any H1.out (by simp))
  have HC2 := hideT (fun V => check_any (H2.out V) (by simp))
  have e1 : chkV [cm 123 4, cm 112 5] = .agg #[.int .i64 23, .int .i64 4] := by
    unfold chkV
    rw [ex_open]
    rfl
  have e2 : chkV [cm 112 0] = .agg #[.int .i64 0, .int .i64 0] := by
    unfold chkV
    rw [ex_one]
    rfl
  rw [e1] at HC1
  rw [e2] at HC2
  clear H1 H2 e1 e2
  go_enter Try.func9, Try.ntmps9
  go_wp2_with fail
  refine HC1.out.mono ?_
  rintro e w1 ⟨rfl, hb1⟩
  have HB1 := hideT (HB.out.trans (hb1.mono (by simp)))
  clear hb1 HC1 HB
  go_wp2_with fail
  refine (HC2.out _).mono ?_
  rintro e w2 ⟨rfl, hb2⟩
  have HB2 := hideT (HB1.out.trans ((((Below.refl w1.heap.size w1).alloc (Nat.le_refl _) (.cells (cmX (zr [cm 112 0])).toArray 27)).trans (hb2.mono (by simp))).mono HB1.out.size))
  clear hb2 HC2
  go_wp2
  go_ret
  exact ⟨rfl, HB2.out⟩
end Go.Proofs.Ytdlceppiblodmaa
