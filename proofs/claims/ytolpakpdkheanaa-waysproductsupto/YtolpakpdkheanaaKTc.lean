/- tally: edges of nothing, of an anchor; a part of one position. tally: a part of one position. -/
import Derived.Test.YtolpakpdkheanaaKLf
set_option maxRecDepth 100000
set_option maxHeartbeats 4000000
namespace Go.Proofs.Ytolpakpdkheanaa.tly
open Go.RowKit Go.Proofs.Ytolpakpdkheanaa.br
def esU (f : Nat → Bool) : Nat → Value := fun j => bif Nat.beq (j % 3) 0 then .bool (f (j / 3)) else .slice none 0 0
theorem esU_read (W : World) (S : Nat → Prop) (f : Nat → Bool) {es : List Ed} (h : ∀ k, k < 4 → eat es k = ⟨f k, [], []⟩) : EsR W S (esU f) es := by
 refine ⟨fun k hk => ?_, fun k hk => ?_, fun k hk => ?_⟩
 · rw [h k hk]
   show (bif Nat.beq (k * 3 % 3) 0 then _ else _) = _
   rw [Nat.mul_mod_left, Nat.mul_div_cancel _ (by omega)]
   rfl
 · rw [h k hk]
   refine .inl ⟨?_, rfl⟩
   show (bif Nat.beq ((k * 3 + 1) % 3) 0 then _ else _) = _
   rw [show (k * 3 + 1) % 3 = 1 by omega]
   rfl
 · rw [h k hk]
   refine .inl ⟨?_, rfl⟩
   show (bif Nat.beq ((k * 3 + 2) % 3) 0 then _ else _) = _
   rw [show (k * 3 + 2) % 3 = 2 by omega]
   rfl
theorem esU_one (f : Nat → Bool) : (lst12 (esU f)).toArray.all (·.oneCell') = true := by
 exact (esU_read (⟨#[], default, 0, default, default⟩ : World) (fun _ => True) f (es := [⟨f 0, [], []⟩, ⟨f 1, [], []⟩, ⟨f 2, [], []⟩, ⟨f 3, [], []⟩]) (fun k hk => by
  match k, hk with
  | 0, _ => rfl
  | 1, _ => rfl
  | 2, _ => rfl
  | 3, _ => rfl)).all
theorem no_read (W : World) (S : Nat → Prop) : EsR W S (esU fun _ => true) noE := esU_read W S _ fun k hk => by
 match k, hk with
 | 0, _ => rfl
 | 1, _ => rfl
 | 2, _ => rfl
 | 3, _ => rfl
theorem zero_read (W : World) (S : Nat → Prop) : EsR W S (esU fun _ => false) zeroE := esU_read W S _ fun k hk => by
 match k, hk with
 | 0, _ => rfl
 | 1, _ => rfl
 | 2, _ => rfl
 | 3, _ => rfl
theorem anch_read (W : World) (S : Nat → Prop) (wn : Nat) : EsR W S (esU fun k => !Nat.beq (k &&& wn) 0) (anchE wn) := esU_read W S _ fun k hk => by
 match k, hk with
 | 0, _ => rfl
 | 1, _ => rfl
 | 2, _ => rfl
 | 3, _ => rfl
theorem two_done {fn : Func} {R : Ending → World → Prop} {r : Nat} {tmps : Array Value} {w W : World} {cs : List Value} (hf : fn.results = #[.cell r 85]) (hr : tmps[r]?.getD undef = .pointer (some ⟨w.heap.size, 0, none⟩)) (h : W.heap[w.heap.size]? = some (.cells cs.toArray 85 (0, 0))) (hl : cs.length = 12) (hR : R (.returned (.agg cs.toArray)) W) : bodyPost Try.prog fn R .ret { tmps := tmps, defers := [] } W :=
 bodyPost_ret (part_result hf hr h hl) rfl hR
theorem nothing_any (w : World) : Calls Try.prog 62 #[] w fun e w' => e = .returned (.agg (lst12 (esU fun _ => true)).toArray) ∧ Below w.heap.size w w' := by
 go_enter Try.func62, Try.ntmps62
 go_wp2
 exact two_done (w := w) (cs := lst12 (esU fun _ => true)) rfl rfl (World.alloc_heap_new w _) rfl ⟨rfl, (Below.refl _ w).alloc (Nat.le_refl _) _⟩
theorem anchor_any (wn : Nat) (hw : wn = 1 ∨ wn = 2) (w : World) : Calls Try.prog 42 #[.int .i64 (wn : Nat)] w fun e w' => e = .returned (.agg (lst12 (esU fun k => !Nat.beq (k &&& wn) 0)).toArray) ∧ Below w.heap.size w w' := by
 go_enter Try.func42, Try.ntmps42
 have b0 : bits BinOp.and IntKind.i64 0 1 = 0 := by decide
 have b1 : bits BinOp.and IntKind.i64 1 1 = 1 := by decide
 have b2 : bits BinOp.and IntKind.i64 2 1 = 0 := by decide
 have b3 : bits BinOp.and IntKind.i64 3 1 = 1 := by decide
 have d0 : bits BinOp.and IntKind.i64 0 2 = 0 := by decide
 have d1 : bits BinOp.and IntKind.i64 1 2 = 0 := by decide
 have d2 : bits BinOp.and IntKind.i64 2 2 = 2 := by decide
 have d3 : bits BinOp.and IntKind.i64 3 2 = 2 := by decide
 rcases hw with rfl | rfl
 all_goals go_wp2
 all_goals refine wp_loop_rounds 5 ?_
 all_goals (rw [rounds_succ]; go_wp2)
 all_goals (rw [rounds_succ]; go_wp2)
 all_goals (rw [rounds_succ]; go_wp2)
 all_goals (rw [rounds_succ]; go_wp2)
 all_goals (rw [rounds_succ]; go_wp2)
 · exact two_done (w := w) (cs := lst12 (esU fun k => !Nat.beq (k &&& 1) 0)) rfl rfl ((Below.heap_alloc _ _ _ (by simp)).trans (World.alloc_heap_new w _)) rfl ⟨rfl, ((Below.refl _ w).alloc (Nat.le_refl _) _).alloc (by simp) _⟩
 · exact two_done (w := w) (cs := lst12 (esU fun k => !Nat.beq (k &&& 2) 0)) rfl rfl ((Below.heap_alloc _ _ _ (by simp)).trans (World.alloc_heap_new w _)) rfl ⟨rfl, ((Below.refl _ w).alloc (Nat.le_refl _) _).alloc (by simp) _⟩
end Go.Proofs.Ytolpakpdkheanaa.tly
namespace Go.Proofs.Ytolpakpdkheanaa.tly
open Go.RowKit Go.Proofs.Ytolpakpdkheanaa.br
theorem pa_set {W : World} {b k g n : Nat} {vl : Value} {ag : Bool} {q : Nat → Bool} {u : Nat → Value} (h : W.heap[b]? = some (.cells (ptV k g vl ag q n u).toArray 87 (0, 0))) {j : Nat} (hj : j < 12) (v : Value) : (W.setCell ⟨b, 9 + j, none⟩ v).heap[b]? = some (.cells (ptV k g vl ag q n (setU u j v)).toArray 87 (0, 0)) := by
 rw [cells_set h]
 congr 2
 show ((_ ++ lst12 u).set (9 + j) v).toArray = _
 rw [List.set_append_right _ _ (by simp)]
 show (_ ++ (lst12 u).set (9 + j - 9) v).toArray = _
 rw [show 9 + j - 9 = j by omega, lst12_set u hj]
 rfl
def PaB (W : World) (B b k g : Nat) (vl : Value) (ag : Bool) (q : Nat → Bool) (n : Nat) (es : List Ed) : Prop := ∃ u, W.heap[b]? = some (.cells (ptV k g vl ag q n u).toArray 87 (0, 0)) ∧ EsR W (Sb B W.heap.size) u es ∧ es.length = 4
theorem PaB.lt {W : World} {B b k g : Nat} {vl : Value} {ag : Bool} {q : Nat → Bool} {n : Nat} {es : List Ed} (h : PaB W B b k g vl ag q n es) : b < W.heap.size := by
 obtain ⟨u, h1, _⟩ := h
 exact (Array.getElem?_eq_some_iff.1 h1).1
theorem PaB.below {W W' : World} {B b k g : Nat} {vl : Value} {ag : Bool} {q : Nat → Bool} {n : Nat} {es : List Ed} (h : PaB W B b k g vl ag q n es) (hb : Below W.heap.size W W') : PaB W' B b k g vl ag q n es := by
 have hl := h.lt
 obtain ⟨u, h1, h2, h3⟩ := h
 exact ⟨u, (hb.block b hl).trans h1, h2.grow hb (Nat.le_refl _), h3⟩
theorem EsR.setE {W W' : World} {B k b : Nat} {u : Nat → Value} {es : List Ed} {e : Ed} {vf vl : Value} {t : TypeId} {cs : Array Value} (h : EsR W (Sb B W.heap.size) u es) (hl : es.length = 4) (hk : k < 4) (hf : StR W (Sb B W.heap.size) vf e.fi) (hla : StR W (Sb B W.heap.size) vl e.la) (ht : W.heap[b]? = some (.cells cs t (0, 0))) (hne : t ≠ 95) (hs : W'.heap.size = W.heap.size) (hfar : ∀ g, g ≠ b → W'.heap[g]? = W.heap[g]?) : EsR W' (Sb B W'.heap.size) (setU (setU (setU u (k * 3) (.bool e.no)) (k * 3 + 1) vf) (k * 3 + 2) vl) (es.set k e) := by
 rw [hs]
 refine ⟨fun i hi => ?_, fun i hi => ?_, fun i hi => ?_⟩
 · rw [eat_set (by omega), setU_other _ _ (by omega), setU_other _ _ (by omega)]
   by_cases e1 : i = k
   · subst e1; rw [if_pos rfl, setU_same]
   · rw [if_neg e1, setU_other _ _ (by omega)]; exact h.no i hi
 · rw [eat_set (by omega), setU_other _ _ (by omega)]
   by_cases e1 : i = k
   · subst e1; rw [if_pos rfl, setU_same]; exact hf.far ht hne hfar
   · rw [if_neg e1, setU_other _ _ (by omega), setU_other _ _ (by omega)]; exact (h.fi i hi).far ht hne hfar
 · rw [eat_set (by omega)]
   by_cases e1 : i = k
   · subst e1; rw [if_pos rfl, setU_same]; exact hla.far ht hne hfar
   · rw [if_neg e1, setU_other _ _ (by omega), setU_other _ _ (by omega), setU_other _ _ (by omega)]; exact (h.la i hi).far ht hne hfar
theorem PaB.setE {W : World} {B b k g : Nat} {vl : Value} {ag : Bool} {q : Nat → Bool} {n i : Nat} {es : List Ed} (h : PaB W B b k g vl ag q n es) (hi : i < 4) {e : Ed} {vf va : Value} (hf : StR W (Sb B W.heap.size) vf e.fi) (hla : StR W (Sb B W.heap.size) va e.la) :
  PaB (((W.setCell ⟨b, 9 + i * 3, none⟩ (.bool e.no)).setCell ⟨b, 9 + i * 3 + 1, none⟩ vf).setCell ⟨b, 9 + i * 3 + 2, none⟩ va) B b k g vl ag q n (es.set i e) := by
 obtain ⟨u, hu, hE, hl⟩ := h
 have h1 := pa_set hu (show i * 3 < 12 by omega) (.bool e.no)
 have h2 := pa_set h1 (show i * 3 + 1 < 12 by omega) vf
 have h3 := pa_set h2 (show i * 3 + 2 < 12 by omega) va
 refine ⟨_, h3, hE.setE hl hi hf hla hu (by decide) (by simp) fun x hx => ?_, by rw [List.length_set]; exact hl⟩
 exact (Below.heap_setCell _ ⟨b, _, none⟩ _ x hx).trans ((Below.heap_setCell _ ⟨b, _, none⟩ _ x hx).trans (Below.heap_setCell _ ⟨b, _, none⟩ _ x hx))
theorem PaB.cells {W : World} {B b k g : Nat} {vl : Value} {ag : Bool} {q : Nat → Bool} {n : Nat} {es : List Ed} (h : PaB W B b k g vl ag q n es) {i : Nat} (hi : i < 4) : ∃ v0 vf va, W.cell? ⟨b, 9 + i * 3, none⟩ = some v0 ∧ W.cell? ⟨b, 9 + i * 3 + 1, none⟩ = some vf ∧ W.cell? ⟨b, 9 + i * 3 + 2, none⟩ = some va ∧ v0 = .bool (eat es i).no ∧ StR W (Sb B W.heap.size) vf (eat es i).fi ∧ StR W (Sb B W.heap.size) va (eat es i).la ∧ ∀ j, W.frozen? ⟨b, j, none⟩ = false := by
 obtain ⟨u, hu, hE, hl⟩ := h
 exact ⟨_, _, _, pt_cells hu (show i * 3 < 12 by omega), pt_cells hu (show i * 3 + 1 < 12 by omega), pt_cells hu (show i * 3 + 2 < 12 by omega), hE.no i hi, hE.fi i hi, hE.la i hi, fun j => by simp [World.frozen?, hu]⟩
def leaf1 (no : Bool) : Ed := ⟨no, [(0, 1)], [(0, 1)]⟩
theorem pa_five {W : World} {b k g : Nat} {vl : Value} {ag : Bool} {q : Nat → Bool} {u : Nat → Value} (h : W.heap[b]? = some (.cells (ptV k g vl ag xad 0 u).toArray 87 (0, 0))) : (((((W.setCell ⟨b, 4, none⟩ (.int .u64 (wd q 0 : Nat))).setCell ⟨b, 5, none⟩ (.int .u64 (wd q 1 : Nat))).setCell ⟨b, 6, none⟩ (.int .u64 (wd q 2 : Nat))).setCell ⟨b, 7, none⟩ (.int .u64 (wd q 3 : Nat))).setCell ⟨b, 8, none⟩ (.int .i64 1)).heap[b]? = some (.cells (ptV k g vl ag q 1 u).toArray 87 (0, 0)) :=
 cells_set (cells_set (cells_set (cells_set (cells_set h 4 _) 5 _) 6 _) 7 _) 8 _
theorem below_five {B : Nat} {w W : World} {b : Nat} (h : Below B w W) (hb : B ≤ b) (v4 v5 v6 v7 v8 : Value) : Below B w (((((W.setCell ⟨b, 4, none⟩ v4).setCell ⟨b, 5, none⟩ v5).setCell ⟨b, 6, none⟩ v6).setCell ⟨b, 7, none⟩ v7).setCell ⟨b, 8, none⟩ v8) :=
 ((((h.setCell (p := ⟨b, 4, none⟩) hb v4).setCell (p := ⟨b, 5, none⟩) hb v5).setCell (p := ⟨b, 6, none⟩) hb v6).setCell (p := ⟨b, 7, none⟩) hb v7).setCell (p := ⟨b, 8, none⟩) hb v8
structure TkR (w : World) (B b kd gr : Nat) (q : Nat → Bool) (no : Bool) (k : Nat) (V : World) : Prop where
 pa : ∃ es, PaB V B b kd gr (.slice none 0 0) false q 1 es ∧ ∀ j, j < 4 → eat es j = if j < k then leaf1 no else Ed0
 bel : Below B w V
theorem TkR.next {w V W1 : World} {B b kd gr k : Nat} {q : Nat → Bool} {no : Bool} (h : TkR w B b kd gr q no k V) (hk : k < 4) (hB : B ≤ b) (hBV : B ≤ V.heap.size) (hb : Below V.heap.size V W1) {vf va : Value} (hf : StR W1 (Sb B W1.heap.size) vf [(0, 1)]) (hl : StR W1 (Sb B W1.heap.size) va [(0, 1)]) : TkR w B b kd gr q no (k + 1) (((W1.setCell ⟨b, 9 + k * 3, none⟩ (.bool no)).setCell ⟨b, 9 + k * 3 + 1, none⟩ vf).setCell ⟨b, 9 + k * 3 + 2, none⟩ va) := by
 obtain ⟨es, h1, h2⟩ := h.pa
 have hl4 : es.length = 4 := by obtain ⟨_, _, _, hl⟩ := h1; exact hl
 refine ⟨⟨_, (h1.below hb).setE hk (e := leaf1 no) hf hl, fun j hj => ?_⟩, (((h.bel.trans (hb.mono hBV)).setCell (p := ⟨b, 9 + k * 3, none⟩) hB _).setCell (p := ⟨b, 9 + k * 3 + 1, none⟩) hB _).setCell (p := ⟨b, 9 + k * 3 + 2, none⟩) hB _⟩
 rw [eat_set (by omega)]
 by_cases e : j = k
 · subst e; rw [if_pos rfl, if_pos (by omega)]
 · rw [if_neg e, h2 j hj]
   by_cases e2 : j < k
   · rw [if_pos e2, if_pos (by omega)]
   · rw [if_neg e2, if_neg (by omega)]
theorem take_any {w : World} {B b kd gr : Nat} {q : Nat → Bool} (no : Bool) (hp : w.heap[b]? = some (.cells (ptV kd gr (.slice none 0 0) false xad 0 (esU fun _ => false)).toArray 87 (0, 0))) (hB : B ≤ b) :
  Calls Try.prog 40 #[.pointer (some ⟨b, 0, none⟩), .agg #[.int .u64 (wd q 0 : Nat), .int .u64 (wd q 1 : Nat), .int .u64 (wd q 2 : Nat), .int .u64 (wd q 3 : Nat)], .bool no] w fun e w' => (∃ v, e = .returned v) ∧ PaB w' B b kd gr (.slice none 0 0) false q 1 (leafE no) ∧ Below B w w' := by
 have hbl : b < w.heap.size := (Array.getElem?_eq_some_iff.1 hp).1
 go_enter Try.func40, Try.ntmps40
 go_upto_region 1 with fail
 have hB0 : Below B w (w.alloc (.cells #[.int .u64 (wd q 0 : Nat), .int .u64 (wd q 1 : Nat), .int .u64 (wd q 2 : Nat), .int .u64 (wd q 3 : Nat)] 38)) := (Below.refl B w).alloc (by omega) _
 have hp1 := (Below.heap_alloc w (.cells #[.int .u64 (wd q 0 : Nat), .int .u64 (wd q 1 : Nat), .int .u64 (wd q 2 : Nat), .int .u64 (wd q 3 : Nat)] 38) b hbl).trans hp
 have hn := World.alloc_heap_new w (.cells #[.int .u64 (wd q 0 : Nat), .int .u64 (wd q 1 : Nat), .int .u64 (wd q 2 : Nat), .int .u64 (wd q 3 : Nat)] 38)
 generalize w.alloc (.cells #[.int .u64 (wd q 0 : Nat), .int .u64 (wd q 1 : Nat), .int .u64 (wd q 2 : Nat), .int .u64 (wd q 3 : Nat)] 38) = X at *
 have y0 : X.cell? ⟨w.heap.size, 0, none⟩ = some (.int .u64 (wd q 0 : Nat)) := by simp [World.cell?, hn]
 have y1 : X.cell? ⟨w.heap.size, 1, none⟩ = some (.int .u64 (wd q 1 : Nat)) := by simp [World.cell?, hn]
 have y2 : X.cell? ⟨w.heap.size, 2, none⟩ = some (.int .u64 (wd q 2 : Nat)) := by simp [World.cell?, hn]
 have y3 : X.cell? ⟨w.heap.size, 3, none⟩ = some (.int .u64 (wd q 3 : Nat)) := by simp [World.cell?, hn]
 obtain ⟨x4, f4⟩ := cells_at hp1 (j := 4) (v := .int .u64 (wd xad 0 : Nat)) rfl
 obtain ⟨x5, f5⟩ := cells_at hp1 (j := 5) (v := .int .u64 (wd xad 1 : Nat)) rfl
 obtain ⟨x6, f6⟩ := cells_at hp1 (j := 6) (v := .int .u64 (wd xad 2 : Nat)) rfl
 obtain ⟨x7, f7⟩ := cells_at hp1 (j := 7) (v := .int .u64 (wd xad 3 : Nat)) rfl
 obtain ⟨x8, f8⟩ := cells_at hp1 (j := 8) (v := .int .i64 (0 : Nat)) rfl
 have hZ := pa_five (q := q) hp1
 have hb5 := below_five hB0 hB (.int .u64 (wd q 0 : Nat)) (.int .u64 (wd q 1 : Nat)) (.int .u64 (wd q 2 : Nat)) (.int .u64 (wd q 3 : Nat)) (.int .i64 1)
 have HZ := hideT (And.intro hZ (And.intro hb5 (show X.heap.size = (((((X.setCell ⟨b, 4, none⟩ (.int .u64 (wd q 0 : Nat))).setCell ⟨b, 5, none⟩ (.int .u64 (wd q 1 : Nat))).setCell ⟨b, 6, none⟩ (.int .u64 (wd q 2 : Nat))).setCell ⟨b, 7, none⟩ (.int .u64 (wd q 3 : Nat))).setCell ⟨b, 8, none⟩ (.int .i64 1)).heap.size by simp)))
 have HB := hideT (And.intro hB (And.intro hbl hB0.size))
 clear hp hp1 hn hB0 hZ hb5 hB hbl
 go_upto_region 2 with fail
 generalize ((((X.setCell ⟨b, 4, none⟩ (.int .u64 (wd q 0 : Nat))).setCell ⟨b, 5, none⟩ (.int .u64 (wd q 1 : Nat))).setCell ⟨b, 6, none⟩ (.int .u64 (wd q 2 : Nat))).setCell ⟨b, 7, none⟩ (.int .u64 (wd q 3 : Nat))).setCell ⟨b, 8, none⟩ (.int .i64 1) = Z at *
 clear y0 y1 y2 y3 x4 x5 x6 x7 x8 f4 f5 f6 f7 f8
 have HT := hideT (show TkR w B b kd gr q no 0 Z from ⟨⟨zeroE, ⟨_, HZ.out.1, zero_read _ _, rfl⟩, fun j hj => by
  rw [if_neg (by omega)]
  match j, hj with
  | 0, _ => rfl
  | 1, _ => rfl
  | 2, _ => rfl
  | 3, _ => rfl⟩, HZ.out.2.1⟩)
 go_wp2_with fail
 go_loopw [14] (fun iv wr => ∃ k : Nat, k ≤ 4 ∧ iv = .int .i64 k ∧ Hid (TkR w B b kd gr q no k wr)) (fun iv _ => (4 - intOf iv).toNat)
 case atStart => exact ⟨0, by omega, rfl, HT⟩
 case round =>
  obtain ⟨k, hk, rfl, HR⟩ := hrel
  by_cases hlt : k < 4
  · have i1 : (k : Int) < 4 := by omega
    have i2 : (0 : Int) ≤ (k : Int) := by omega
    obtain ⟨es, hpa, hes⟩ := HR.out.pa
    have hbw := hpa.lt
    have hBw : B ≤ wr.heap.size := by have := HB.out.1; omega
    have hl1 := World.alloc_heap_new wr (.cells #[.int .i64 0, .int .i64 1] 95)
    have hL1 := lit_st wr (0, 1)
    have hb1 := (Below.refl wr.heap.size wr).alloc (Nat.le_refl _) (.cells #[.int .i64 0, .int .i64 1] 95)
    have hs1 := World.size_alloc wr (.cells #[.int .i64 0, .int .i64 1] 95)
    go_upto_region 5 with fail
    rename_i K5 hK5
    refine wp_region_lit (l := [_, _, _, _, _, _, _, _, _, _, _, _]) ?_
    refine wl_value (v := .pointer (some ⟨b, 0, none⟩)) (w' := wr) rfl (by go_simp; (try with_reducible rfl)) ?_
    refine wl_value (v := .int .i64 (k : Nat)) (w' := wr) rfl (by go_simp; (try with_reducible rfl)) ?_
    refine wl_value (v := .bool no) (w' := wr) rfl (by go_simp; (try with_reducible rfl)) ?_
    refine wl_value (v := .agg #[.int .i64 0, .int .i64 1]) (w' := wr) rfl (by go_simp; (try with_reducible rfl)) ?_
    refine wl_value (v := .slice (some ⟨wr.heap.size, 0, none⟩) 1 1) (w' := wr.alloc (.cells #[.int .i64 0, .int .i64 1] 95)) rfl (by go_simp; (try rfl)) ?_
    generalize hU1 : wr.alloc (.cells #[.int .i64 0, .int .i64 1] 95) = U1 at *
    have hL2 := lit_st U1 (0, 1)
    have hb2 := (Below.refl U1.heap.size U1).alloc (Nat.le_refl _) (.cells #[.int .i64 0, .int .i64 1] 95)
    refine wl_value (v := .agg #[.int .i64 0, .int .i64 1]) (w' := U1) rfl (by go_simp; (try with_reducible rfl)) ?_
    refine wl_value (v := .slice (some ⟨U1.heap.size, 0, none⟩) 1 1) (w' := U1.alloc (.cells #[.int .i64 0, .int .i64 1] 95)) rfl (by go_simp; (try rfl)) ?_
    have hs2 := World.size_alloc U1 (.cells #[.int .i64 0, .int .i64 1] 95)
    generalize U1.alloc (.cells #[.int .i64 0, .int .i64 1] 95) = U2 at *
    refine wl_value (v := .agg #[.bool no, .slice (some ⟨wr.heap.size, 0, none⟩) 1 1, .slice (some ⟨U1.heap.size, 0, none⟩) 1 1]) (w' := U2) rfl (by go_simp; (try with_reducible rfl)) ?_
    refine wl_value (v := .pointer (some ⟨b, 0, none⟩)) (w' := U2) rfl (by go_simp; (try with_reducible rfl)) ?_
    refine wl_value (v := .pointer (some ⟨b, 9, none⟩)) (w' := U2) rfl (by go_simp; (try with_reducible rfl)) ?_
    refine wl_value (v := .pointer (some ⟨b, 9 + k * 3, none⟩)) (w' := U2) rfl (by go_simp; (try with_reducible rfl)) ?_
    have hbb : Below wr.heap.size wr U2 := hb1.trans (hb2.mono hb1.size)
    have hth : U2.there b (9 + k * 3) 3 := by
     obtain ⟨v0, vf, va, p0, p1, p2, _, _, _, pf⟩ := (hpa.below hbb).cells hlt
     intro j hj
     match j, hj with
     | 0, _ => exact ⟨by rw [show 9 + k * 3 + 0 = 9 + k * 3 from rfl, p0]; rfl, pf _⟩
     | 1, _ => exact ⟨by rw [p1]; rfl, pf _⟩
     | 2, _ => exact ⟨by rw [p2]; rfl, pf _⟩
    simp only [Act.put, List.setIfInBounds_toArray, List.set_cons_zero, List.set_cons_succ]
    refine wpList_store_mid rfl 83 _ _ rfl b (9 + k * 3) #[.bool no, .slice (some ⟨wr.heap.size, 0, none⟩) 1 1, .slice (some ⟨U1.heap.size, 0, none⟩) 1 1] rfl rfl hth (by rw [info_ed]; rfl) (by simp [Value.oneCell']) ?_
    refine wpList_nil (hK5 _ _ ?_)
    have HN := hideT (HR.out.next hlt HB.out.1 hBw hbb (hL1.keep (S' := Sb B U2.heap.size) (fun g hg => hb2.block g (by rw [hg]; omega)) (fun g hg => ⟨by omega, by omega⟩)) (hL2.sub fun g hg => ⟨by omega, by omega⟩))
    simp only [Act.put]
    show Code.wp _ _ _ _ (((U2.setCell ⟨b, 9 + k * 3, none⟩ (.bool no)).setCell ⟨b, 9 + k * 3 + 1, none⟩ (.slice (some ⟨wr.heap.size, 0, none⟩) 1 1)).setCell ⟨b, 9 + k * 3 + 2, none⟩ (.slice (some ⟨U1.heap.size, 0, none⟩) 1 1))
    have HI := hideT hlt
    generalize ((U2.setCell ⟨b, 9 + k * 3, none⟩ (.bool no)).setCell ⟨b, 9 + k * 3 + 1, none⟩ (.slice (some ⟨wr.heap.size, 0, none⟩) 1 1)).setCell ⟨b, 9 + k * 3 + 2, none⟩ (.slice (some ⟨U1.heap.size, 0, none⟩) 1 1) = Y at *
    clear hth hbb hs2 hb2 hL2 hs1 hb1 hL1 hl1 hU1 hBw hbw hes hpa hlt hk hK5
    go_wp2_with fail
    exact ⟨⟨k + 1, HI.out, by go_num, HN⟩, by simp [intOf]; have := HI.out; omega⟩
  · obtain rfl : k = 4 := by omega
    obtain ⟨es, h1, h2⟩ := HR.out.pa
    have he : es = leafE no := by
     obtain ⟨_, _, _, hl⟩ := h1
     refine four_ext hl rfl fun j hj => ?_
     rw [h2 j hj, if_pos hj]
     match j, hj with
     | 0, _ => rfl
     | 1, _ => rfl
     | 2, _ => rfl
     | 3, _ => rfl
    rw [he] at h1
    have H1 := hideT (And.intro h1 HR.out.bel)
    clear h1 h2 he
    go_wp2_with fail
    go_end0
    exact ⟨⟨_, rfl⟩, H1.out.1, H1.out.2⟩
end Go.Proofs.Ytolpakpdkheanaa.tly
