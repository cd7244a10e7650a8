/- CanonBack: the walk. -/
import Derived.Test.YtaapmphdnholaaaDoorKCy
import Derived.Test.YtaapmphdnholaaaDoorKDp
namespace Go.Proofs.YtaapmphdnholaaaDoor
open Go.RowKit Go.Shelf
open Go.Sort

theorem wd_nf {q q' : Nat → Bool} (h : nfq q = nfq q') (i : Nat) (hi : i < 4) : wd q i = wd q' i := wd_congr _ _ _ (fun j hj => by
  have := congrFun h (64 * i + j)
  unfold nfq at this
  rwa [decide_eq_true (show 64 * i + j < 256 by omega), Bool.and_true, Bool.and_true] at this)

theorem node_nf {t u : Tr} (h : nfT t = nfT u) (v : Value) : nodeV t v = nodeV u v ∧ nfL t.kids = nfL u.kids := by
  obtain ⟨k, q, lo, hi, g, ks⟩ := t
  obtain ⟨k', q', lo', hi', g', ks'⟩ := u
  simp only [nfT, Tr.mk.injEq] at h
  obtain ⟨rfl, h2, rfl, rfl, rfl, h6⟩ := h
  refine ⟨?_, h6⟩
  simp only [nodeV, Tr.kind, Tr.q, Tr.lo, Tr.hi, Tr.grp]
  rw [wd_nf h2 0 (by omega), wd_nf h2 1 (by omega), wd_nf h2 2 (by omega), wd_nf h2 3 (by omega)]

theorem nfL_len : ∀ ts : List Tr, (nfL ts).length = ts.length
  | [] => by simp only [nfL]
  | t :: ts => by simp only [nfL, List.length_cons, nfL_len ts]

theorem row_nf : ∀ (ts us : List Tr) (vs : List Value), nfL ts = nfL us → rowV ts vs = rowV us vs
  | [], [], _, _ => rfl
  | [], _ :: _, _, h => by simp [nfL] at h
  | _ :: _, [], _, h => by simp [nfL] at h
  | t :: ts, u :: us, [], _ => by simp [rowV]
  | t :: ts, u :: us, v :: vs, h => by
    simp only [nfL, List.cons.injEq] at h
    simp only [rowV]
    rw [(node_nf h.1 v).1, row_nf ts us vs h.2]

theorem nfL_get : ∀ (ts us : List Tr) (i : Nat) (t u : Tr), nfL ts = nfL us → ts[i]? = some t → us[i]? = some u → nfT t = nfT u
  | [], _, _, _, _, _, h, _ => by simp at h
  | _ :: _, [], _, _, _, _, _, h => by simp at h
  | x :: ts, y :: us, 0, t, u, h, h1, h2 => by
    simp only [nfL, List.cons.injEq] at h
    simp only [List.getElem?_cons_zero, Option.some.injEq] at h1 h2
    rw [← h1, ← h2]
    exact h.1
  | x :: ts, y :: us, i + 1, t, u, h, h1, h2 => by
    simp only [nfL, List.cons.injEq] at h
    simp only [List.getElem?_cons_succ] at h1 h2
    exact nfL_get ts us i t u h.2 h1 h2

/-- Trees that can't be told apart lie alike. -/
theorem kids_swap {W : World} {ok : Nat → Prop} {v : Value} {us : List Tr} (h : Kids W ok v us) : ∀ ts, nfL us = nfL ts → Kids W ok v ts := by
  induction h with
  | mk v us vs hl own hok _ ih =>
    intro ts e
    have hlen : us.length = ts.length := by rw [← nfL_len us, e, nfL_len]
    refine .mk v ts vs (by omega) (by rw [← hlen, ← row_nf us ts vs e]; exact own) hok (fun i t u hi hu => ?_)
    have hx : i < us.length := by have := (List.getElem?_eq_some_iff.1 hi).1; omega
    have e2 := nfL_get us ts i us[i] t e (List.getElem?_eq_getElem hx) hi
    exact ih i us[i] u (List.getElem?_eq_getElem hx) hu t.kids (node_nf e2 u).2

theorem neq_fault (a b : Int) (w : World) : (binOp .neq 25 (.agg #[.int .i64 a, .int .i64 b]) (.agg #[.int .i64 a, .int .i64 b])).run Tryd.prog w = .ok (.bool false) w := by
  rw [run_neq_struct, run_equal_fault]
  simp

theorem back_of {s : ByteArray} (h1 : (textX s).2.1 = 0) (hl : (textX s).1.length ≤ 512) : ∃ ts us, parseT s = .ok ts ∧ parseT ⟨(textX s).1.toArray⟩ = .ok us ∧ nfL us = nfL ts ∧ textX ⟨(textX s).1.toArray⟩ = ((textX s).1, 0, 0) := by
  cases hp : parseT s with
  | error x =>
    obtain ⟨er, p⟩ := x
    have e : textX s = ([], er, p) := by unfold textX; rw [hp]
    rw [e] at h1
    exact absurd h1 (parse_place s er p hp).1
  | ok ts =>
    have e1 : textX s = (wrL stC ts, 0, 0) := by unfold textX; rw [hp]
    rw [e1] at hl ⊢
    have e : (⟨(wrL stC ts).toArray⟩ : ByteArray).data.toList = wrL stC ts := by simp
    have hz : (⟨(wrL stC ts).toArray⟩ : ByteArray).size ≤ 512 := by rw [size_of_list', e]; exact hl
    obtain ⟨us, h2, h3⟩ := canon_back hp e hz
    refine ⟨ts, us, rfl, h2, h3, ?_⟩
    have e2 : textX ⟨(wrL stC ts).toArray⟩ = (wrL stC us, 0, 0) := by unfold textX; rw [h2]
    rw [e2, ← wr_nfL us, h3, wr_nfL]

theorem parseX_any (s : ByteArray) (w : World) (hg : Glob w) : Calls Tryd.prog 6 #[.string s] w fun e w' => Below w.heap.size w w' ∧ ∃ a n c, e = .returned (.tuple #[.agg #[.int .i64 0, .int .u64 0, .int .u64 0, .int .u64 0, .int .u64 0, .int .i64 0, .int .i64 0, .int .i64 0, .slice a n c], .agg #[.int .i64 (textX s).2.1, .int .i64 ((textX s).2.2 : Nat)]]) ∧ ∀ ts, parseT s = .ok ts → Kids w' (fun g => w.heap.size ≤ g) (.slice a n c) ts := by
  cases hp : parseT s with
  | ok ts =>
    have e : textX s = (wrL stC ts, 0, 0) := by unfold textX; rw [hp]
    rw [e]
    refine (parse_ok s (by have := (parse_run hp).1; omega) ts hp w hg).mono ?_
    rintro e w' ⟨hb, a, n, c, he, hk⟩
    exact ⟨hb, a, n, c, he, fun us h => by injection h with h; rw [← h]; exact hk⟩
  | error x =>
    obtain ⟨er, p⟩ := x
    have e : textX s = ([], er, p) := by unfold textX; rw [hp]
    rw [e]
    refine (parse_fault s er p hp w hg).mono ?_
    rintro e w' ⟨he, hb⟩
    exact ⟨hb, none, 0, 0, he, fun us h => by cases h⟩

namespace back
set_option maxRecDepth 100000 in
set_option maxHeartbeats 2000000 in
theorem core (s S : ByteArray) (E : Int) (p : Nat) (w : World)
    (HW : Hid (Calls Tryd.prog 4 #[] w fun e w' => e = .returned (.bool true) ∧ Below w.heap.size w w'))
    (HA : Hid (∀ W, Below w.heap.size w W → Calls Tryd.prog 5 #[.string s] W fun e w' => e = .returned (.tuple #[.string S, .agg #[.int .i64 E, .int .i64 (p : Nat)]]) ∧ Below W.heap.size W w'))
    (HP : Hid (∀ W, Below w.heap.size w W → Calls Tryd.prog 6 #[.string s] W fun e w' => Below W.heap.size W w' ∧ ∃ a n c, e = .returned (.tuple #[.agg #[.int .i64 0, .int .u64 0, .int .u64 0, .int .u64 0, .int .u64 0, .int .i64 0, .int .i64 0, .int .i64 0, .slice a n c], .agg #[.int .i64 E, .int .i64 (p : Nat)]]) ∧ Hid (∀ ts, parseT s = .ok ts → Kids w' (fun g => W.heap.size ≤ g) (.slice a n c) ts)))
    (HE : Hid (E ≠ 0 → S = ⟨#[]⟩))
    (HP2 : Hid (E = 0 → S.size ≤ 512 → ∀ W, Below w.heap.size w W → Calls Tryd.prog 6 #[.string S] W fun e w' => Below W.heap.size W w' ∧ ∃ a n c, e = .returned (.tuple #[.agg #[.int .i64 0, .int .u64 0, .int .u64 0, .int .u64 0, .int .u64 0, .int .i64 0, .int .i64 0, .int .i64 0, .slice a n c], .agg #[.int .i64 0, .int .i64 0]]) ∧ Hid (∀ ts, parseT S = .ok ts → Kids w' (fun g => W.heap.size ≤ g) (.slice a n c) ts)))
    (HA2 : Hid (E = 0 → S.size ≤ 512 → ∀ W, Below w.heap.size w W → Calls Tryd.prog 5 #[.string S] W fun e w' => e = .returned (.tuple #[.string S, .agg #[.int .i64 0, .int .i64 0]]) ∧ Below W.heap.size W w'))
    (HT : Hid (E = 0 → S.size ≤ 512 → ∀ (W : World) (ok ok2 : Nat → Prop) (a1 a2 : Option Addr) (n1 c1 n2 c2 : Nat), (∀ ts, parseT s = .ok ts → Kids W ok (.slice a1 n1 c1) ts) → (∀ ts, parseT S = .ok ts → Kids W ok2 (.slice a2 n2 c2) ts) → Calls Tryd.prog 7 #[.agg #[.int .i64 0, .int .u64 0, .int .u64 0, .int .u64 0, .int .u64 0, .int .i64 0, .int .i64 0, .int .i64 0, .slice a1 n1 c1], .agg #[.int .i64 0, .int .u64 0, .int .u64 0, .int .u64 0, .int .u64 0, .int .i64 0, .int .i64 0, .int .i64 0, .slice a2 n2 c2]] W fun e w' => e = .returned (.bool true) ∧ Below W.heap.size W w')) :
    Calls Tryd.prog 3 #[.string s] w fun e w' => e = .returned (.bool true) ∧ Below w.heap.size w w' := by
  have hneq := fun W => neq_fault E (p : Int) W
  go_enter Tryd.func3, Tryd.ntmps3
  go_wp2_with fail
  refine HW.out.mono ?_
  rintro e w0 ⟨rfl, hb0⟩
  have B0 := hideT hb0
  clear hb0
  go_wp2_with fail
  refine (HA.out _ B0.out).mono ?_
  rintro e w1 ⟨rfl, hb1⟩
  have B1 := hideT (B0.out.trans (hb1.mono B0.out.size))
  clear hb1
  go_wp2_with fail
  have B1a := hideT (B1.out.alloc B1.out.size (.cells #[.int .i64 E, .int .i64 (p : Nat)] 25))
  refine (HP.out _ B1a.out).mono ?_
  rintro e w2 ⟨hb2, a1, n1, c1, rfl, K1⟩
  have B2 := hideT (And.intro (B1a.out.trans (hb2.mono B1a.out.size)) ((hb2.block w1.heap.size (by rw [World.size_alloc]; omega)).trans (heap_alloc_new w1 (.cells #[.int .i64 E, .int .i64 (p : Nat)] 25))))
  clear hb2
  obtain ⟨V, hV⟩ : ∃ V, V = (w2.alloc (.cells #[.int .i64 0, .int .u64 0, .int .u64 0, .int .u64 0, .int .u64 0, .int .i64 0, .int .i64 0, .int .i64 0, .slice a1 n1 c1] 33)).alloc (.cells #[.int .i64 E, .int .i64 (p : Nat)] 25) := ⟨_, rfl⟩
  have hVs : V.heap.size = w2.heap.size + 2 := by rw [hV, World.size_alloc, World.size_alloc]
  have hBV : Below w2.heap.size w2 V := by rw [hV]; exact ((Below.refl _ _).alloc (Nat.le_refl _) _).alloc (by rw [World.size_alloc]; omega) _
  have hl1 := (Array.getElem?_eq_some_iff.1 B2.out.2).1
  have v1 : V.heap[w1.heap.size]? = some (.cells #[.int .i64 E, .int .i64 (p : Nat)] 25 (0, 0)) := (hBV.block _ hl1).trans B2.out.2
  have v2 : V.heap[w2.heap.size]? = some (.cells #[.int .i64 0, .int .u64 0, .int .u64 0, .int .u64 0, .int .u64 0, .int .i64 0, .int .i64 0, .int .i64 0, .slice a1 n1 c1] 33 (0, 0)) := by
    rw [hV, Below.heap_alloc _ _ _ (by rw [World.size_alloc]; omega)]
    exact heap_alloc_new w2 _
  have v3 : V.heap[w2.heap.size + 1]? = some (.cells #[.int .i64 E, .int .i64 (p : Nat)] 25 (0, 0)) := by
    rw [hV, ← World.size_alloc w2 (.cells #[.int .i64 0, .int .u64 0, .int .u64 0, .int .u64 0, .int .u64 0, .int .i64 0, .int .i64 0, .int .i64 0, .slice a1 n1 c1] 33)]
    exact heap_alloc_new _ _
  have BV := hideT (And.intro (B2.out.1.trans (hBV.mono B2.out.1.size)) (And.intro v1 (And.intro v2 (And.intro v3 (And.intro hVs (And.intro hBV hl1))))))
  have c10 : V.cell? ⟨w1.heap.size, 0, none⟩ = some (.int .i64 E) := by simp [World.cell?, v1]
  have c11 : V.cell? ⟨w1.heap.size, 1, none⟩ = some (.int .i64 (p : Nat)) := by simp [World.cell?, v1]
  have c30 : V.cell? ⟨w2.heap.size + 1, 0, none⟩ = some (.int .i64 E) := by simp [World.cell?, v3]
  have c31 : V.cell? ⟨w2.heap.size + 1, 1, none⟩ = some (.int .i64 (p : Nat)) := by simp [World.cell?, v3]
  clear v1 v2 v3 hVs hBV hl1
  go_upto_region 5 with fail
  rw [← hV]
  clear hV
  by_cases e0 : E = 0
  · by_cases l0 : S.size ≤ 512
    · have H2 := hideT (HP2.out e0 l0)
      have H3 := hideT (HA2.out e0 l0)
      have H4 := hideT (HT.out e0 l0)
      have m1 : ¬ (512 : Int) < (S.size : Int) := by omega
      subst e0
      clear l0
      go_wp2_with fail
      refine (H2.out _ BV.out.1).mono ?_
      rintro e w3 ⟨hb3, a2, n2, c2, rfl, K2⟩
      have hVs := BV.out.2.2.2.2.1
      have q2 : w3.heap[w2.heap.size]? = some (.cells #[.int .i64 0, .int .u64 0, .int .u64 0, .int .u64 0, .int .u64 0, .int .i64 0, .int .i64 0, .int .i64 0, .slice a1 n1 c1] 33 (0, 0)) := (hb3.block _ (by omega)).trans BV.out.2.2.1
      have q3 : w3.heap[w2.heap.size + 1]? = some (.cells #[.int .i64 0, .int .i64 (p : Nat)] 25 (0, 0)) := (hb3.block _ (by omega)).trans BV.out.2.2.2.1
      have hB3 : Below w.heap.size w w3 := BV.out.1.trans (hb3.mono BV.out.1.size)
      have hs3 := hb3.size
      have q3a : ∀ o, (w3.alloc o).heap[w2.heap.size + 1]? = some (.cells #[.int .i64 0, .int .i64 (p : Nat)] 25 (0, 0)) := fun o => (Below.heap_alloc w3 o _ (by omega)).trans q3
      have c30 : ∀ o, (w3.alloc o).cell? ⟨w2.heap.size + 1, 0, none⟩ = some (.int .i64 0) := fun o => by
        have h := q3a o
        generalize w3.alloc o = X at h ⊢
        simp [World.cell?, h]
      have c31 : ∀ o, (w3.alloc o).cell? ⟨w2.heap.size + 1, 1, none⟩ = some (.int .i64 (p : Nat)) := fun o => by
        have h := q3a o
        generalize w3.alloc o = X at h ⊢
        simp [World.cell?, h]
      have f30 : ∀ o, (w3.alloc o).frozen? ⟨w2.heap.size + 1, 0, none⟩ = false := fun o => by
        have h := q3a o
        generalize w3.alloc o = X at h ⊢
        simp [World.frozen?, h]
      have f31 : ∀ o, (w3.alloc o).frozen? ⟨w2.heap.size + 1, 1, none⟩ = false := fun o => by
        have h := q3a o
        generalize w3.alloc o = X at h ⊢
        simp [World.frozen?, h]
      obtain ⟨Y, hY⟩ : ∃ Y, Y = ((w3.alloc (.cells #[.int .i64 0, .int .u64 0, .int .u64 0, .int .u64 0, .int .u64 0, .int .i64 0, .int .i64 0, .int .i64 0, .slice a2 n2 c2] 33)).setCell ⟨w2.heap.size + 1, 0, none⟩ (.int .i64 0)).setCell ⟨w2.heap.size + 1, 1, none⟩ (.int .i64 0) := ⟨_, rfl⟩
      have yb : Y.heap[w2.heap.size + 1]? = some (.cells #[.int .i64 0, .int .i64 0] 25 (0, 0)) := by rw [hY]; exact set_blk (set_blk (q3a _) _) _
      have yf : ∀ g, g ≠ w2.heap.size + 1 → Y.heap[g]? = (w3.alloc (.cells #[.int .i64 0, .int .u64 0, .int .u64 0, .int .u64 0, .int .u64 0, .int .i64 0, .int .i64 0, .int .i64 0, .slice a2 n2 c2] 33)).heap[g]? := fun g hg => by rw [hY, Below.heap_setCell _ _ _ g hg, Below.heap_setCell _ _ _ g hg]
      have y2 : Y.heap[w2.heap.size]? = some (.cells #[.int .i64 0, .int .u64 0, .int .u64 0, .int .u64 0, .int .u64 0, .int .i64 0, .int .i64 0, .int .i64 0, .slice a1 n1 c1] 33 (0, 0)) := (yf _ (by omega)).trans ((Below.heap_alloc w3 _ _ (by omega)).trans q2)
      have y3 : Y.heap[w3.heap.size]? = some (.cells #[.int .i64 0, .int .u64 0, .int .u64 0, .int .u64 0, .int .u64 0, .int .i64 0, .int .i64 0, .int .i64 0, .slice a2 n2 c2] 33 (0, 0)) := (yf _ (by omega)).trans (heap_alloc_new w3 _)
      have hw2 : w.heap.size ≤ w2.heap.size := B2.out.1.size
      have hBY : Below w.heap.size w Y := by
        rw [hY]
        exact ((hB3.alloc hB3.size _).setCell (p := ⟨w2.heap.size + 1, 0, none⟩) (by show w.heap.size ≤ w2.heap.size + 1; omega) _).setCell (p := ⟨w2.heap.size + 1, 1, none⟩) (by show w.heap.size ≤ w2.heap.size + 1; omega) _
      have hYs : Y.heap.size = w3.heap.size + 1 := by rw [hY]; simp
      have KY := hideT (And.intro (fun ts h => (kids_blk (K1.out ts h)).keep (W' := Y) (ok' := fun _ => True) (fun g hg => by
          rw [yf g (by have := hg.2; omega), Below.heap_alloc w3 _ _ (by have := hg.2; omega), hb3.block g (by have := hg.2; omega), BV.out.2.2.2.2.2.1.block g hg.2]) (fun _ _ => trivial))
        (fun ts h => (kids_blk (K2.out ts h)).keep (W' := Y) (ok' := fun _ => True) (fun g hg => by
          rw [yf g (by have := hg.1; omega), Below.heap_alloc w3 _ _ hg.2]) (fun _ _ => trivial)))
      have HY := hideT (And.intro yb (And.intro y2 (And.intro y3 (And.intro hBY hYs))))
      clear q2 q3 hB3 hs3 q3a yb yf y2 y3 hw2 hBY hYs hVs hb3 c10 c11
      go_wp2_with fail
      rw [← hY]
      clear hY c30 c31 f30 f31
      refine (H3.out Y HY.out.2.2.2.1).mono ?_
      rintro e w4 ⟨rfl, hb4⟩
      have hl2 := (Array.getElem?_eq_some_iff.1 HY.out.1).1
      have hl3 := (Array.getElem?_eq_some_iff.1 HY.out.2.1).1
      have hl4 := (Array.getElem?_eq_some_iff.1 HY.out.2.2.1).1
      have z1 := (hb4.block _ hl2).trans HY.out.1
      have z2 := (hb4.block _ hl3).trans HY.out.2.1
      have z3 := (hb4.block _ hl4).trans HY.out.2.2.1
      have cl : ∀ (o : Obj) (g : Nat) (cs : Array Value) (ty : TypeId) (k : Nat) (u : Value), w4.heap[g]? = some (.cells cs ty (0, 0)) → cs[k]? = some u → (w4.alloc o).cell? ⟨g, k, none⟩ = some u := fun o g cs ty k u hg hu => by
        have h3 : (w4.alloc o).heap[g]? = some (.cells cs ty (0, 0)) := (Below.heap_alloc w4 o _ (Array.getElem?_eq_some_iff.1 hg).1).trans hg
        generalize w4.alloc o = X at h3 ⊢
        simp [World.cell?, h3, hu]
      have g0 : ∀ o, (w4.alloc o).cell? ⟨w2.heap.size + 1, 0, none⟩ = some (.int .i64 0) := fun o => cl o _ _ _ 0 _ z1 rfl
      have t0 : ∀ o, (w4.alloc o).cell? ⟨w2.heap.size, 0, none⟩ = some (.int .i64 0) := fun o => cl o _ _ _ 0 _ z2 rfl
      have t1 : ∀ o, (w4.alloc o).cell? ⟨w2.heap.size, 1, none⟩ = some (.int .u64 0) := fun o => cl o _ _ _ 1 _ z2 rfl
      have t2 : ∀ o, (w4.alloc o).cell? ⟨w2.heap.size, 2, none⟩ = some (.int .u64 0) := fun o => cl o _ _ _ 2 _ z2 rfl
      have t3 : ∀ o, (w4.alloc o).cell? ⟨w2.heap.size, 3, none⟩ = some (.int .u64 0) := fun o => cl o _ _ _ 3 _ z2 rfl
      have t4 : ∀ o, (w4.alloc o).cell? ⟨w2.heap.size, 4, none⟩ = some (.int .u64 0) := fun o => cl o _ _ _ 4 _ z2 rfl
      have t5 : ∀ o, (w4.alloc o).cell? ⟨w2.heap.size, 5, none⟩ = some (.int .i64 0) := fun o => cl o _ _ _ 5 _ z2 rfl
      have t6 : ∀ o, (w4.alloc o).cell? ⟨w2.heap.size, 6, none⟩ = some (.int .i64 0) := fun o => cl o _ _ _ 6 _ z2 rfl
      have t7 : ∀ o, (w4.alloc o).cell? ⟨w2.heap.size, 7, none⟩ = some (.int .i64 0) := fun o => cl o _ _ _ 7 _ z2 rfl
      have t8 : ∀ o, (w4.alloc o).cell? ⟨w2.heap.size, 8, none⟩ = some (.slice a1 n1 c1) := fun o => cl o _ _ _ 8 _ z2 rfl
      have u0 : ∀ o, (w4.alloc o).cell? ⟨w3.heap.size, 0, none⟩ = some (.int .i64 0) := fun o => cl o _ _ _ 0 _ z3 rfl
      have u1 : ∀ o, (w4.alloc o).cell? ⟨w3.heap.size, 1, none⟩ = some (.int .u64 0) := fun o => cl o _ _ _ 1 _ z3 rfl
      have u2 : ∀ o, (w4.alloc o).cell? ⟨w3.heap.size, 2, none⟩ = some (.int .u64 0) := fun o => cl o _ _ _ 2 _ z3 rfl
      have u3 : ∀ o, (w4.alloc o).cell? ⟨w3.heap.size, 3, none⟩ = some (.int .u64 0) := fun o => cl o _ _ _ 3 _ z3 rfl
      have u4 : ∀ o, (w4.alloc o).cell? ⟨w3.heap.size, 4, none⟩ = some (.int .u64 0) := fun o => cl o _ _ _ 4 _ z3 rfl
      have u5 : ∀ o, (w4.alloc o).cell? ⟨w3.heap.size, 5, none⟩ = some (.int .i64 0) := fun o => cl o _ _ _ 5 _ z3 rfl
      have u6 : ∀ o, (w4.alloc o).cell? ⟨w3.heap.size, 6, none⟩ = some (.int .i64 0) := fun o => cl o _ _ _ 6 _ z3 rfl
      have u7 : ∀ o, (w4.alloc o).cell? ⟨w3.heap.size, 7, none⟩ = some (.int .i64 0) := fun o => cl o _ _ _ 7 _ z3 rfl
      have u8 : ∀ o, (w4.alloc o).cell? ⟨w3.heap.size, 8, none⟩ = some (.slice a2 n2 c2) := fun o => cl o _ _ _ 8 _ z3 rfl
      have hB4 := HY.out.2.2.2.1.trans (hb4.mono HY.out.2.2.2.1.size)
      have HF := hideT (fun o => hB4.alloc hB4.size o)
      have HS := hideT (fun o => H4.out (w4.alloc o) _ _ a1 a2 n1 c1 n2 c2 (fun ts h => kids_below (KY.out.1 ts h) (hb4.alloc hb4.size o)) (fun ts h => kids_below (KY.out.2 ts h) (hb4.alloc hb4.size o)))
      clear z1 z2 z3 cl hl2 hl3 hl4 hB4 hb4
      go_wp2_with fail
      refine (HS.out _).mono ?_
      rintro e w5 ⟨rfl, hb5⟩
      have HZ := hideT ((HF.out _).trans (hb5.mono (HF.out _).size))
      clear hb5
      go_wp2
      go_ret
      exact ⟨by simp, HZ.out⟩
    · subst e0
      have m1 : (512 : Int) < (S.size : Int) := by omega
      clear l0
      go_wp2
      go_ret
      exact ⟨rfl, BV.out.1⟩
  · have k1 : (E == 0) = false := by rw [beq_eq_false_iff_ne]; exact e0
    have k2 : (E != 0) = true := by rw [bne_iff_ne]; exact e0
    obtain rfl := HE.out e0
    clear e0
    go_wp2
    go_ret
    exact ⟨rfl, BV.out.1⟩

theorem walk (s : ByteArray) (w : World) (hg : Glob w) (ht : Tab w) : Calls Tryd.prog 3 #[.string s] w fun e w' => e = .returned (.bool true) ∧ Below w.heap.size w w' := by
  have hG := fun (W : World) (h : Below w.heap.size w W) => hg.below h (Nat.le_refl _)
  have hT := fun (W : World) (h : Below w.heap.size w W) => ht.below h (Nat.le_refl _)
  refine core s ⟨(textX s).1.toArray⟩ (textX s).2.1 (textX s).2.2 w (hideT (awakeC_any w hg ht))
    (hideT fun W h => canonText_any s W (hG W h) (hT W h)) (hideT fun W h => parseX_any s W (hG W h)) (hideT ?_) (hideT ?_) (hideT ?_) (hideT ?_)
  · intro h
    cases hp : parseT s with
    | ok ts =>
      have e : textX s = (wrL stC ts, 0, 0) := by unfold textX; rw [hp]
      rw [e] at h
      exact absurd rfl h
    | error x =>
      obtain ⟨er, p⟩ := x
      have e : textX s = ([], er, p) := by unfold textX; rw [hp]
      rw [e]
  · intro h1 h2 W h
    rw [size_str] at h2
    obtain ⟨ts, us, hp, hq, hn, he⟩ := back_of h1 h2
    have h3 := parseX_any ⟨(textX s).1.toArray⟩ W (hG W h)
    rw [he] at h3
    exact h3
  · intro h1 h2 W h
    rw [size_str] at h2
    obtain ⟨ts, us, hp, hq, hn, he⟩ := back_of h1 h2
    have h3 := canonText_any ⟨(textX s).1.toArray⟩ W (hG W h) (hT W h)
    rw [he] at h3
    exact h3
  · intro h1 h2 W ok ok2 a1 a2 n1 c1 n2 c2 k1 k2
    rw [size_str] at h2
    obtain ⟨ts, us, hp, hq, hn, he⟩ := back_of h1 h2
    exact same_any _ (catT ts) (Nat.lt_succ_self _) (parse_small s ts hp) W ok ok2 a1 a2 n1 c1 n2 c2 (k1 ts hp) (kids_swap (k2 us hq) ts hn)
end back
end Go.Proofs.YtaapmphdnholaaaDoor
