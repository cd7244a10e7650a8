/- bre: the positions of a tree; the parser counts them. -/
import Derived.Test.YtgpciekpmdihnaaKPp
import Derived.Test.YtgpciekpmdihnaaKPv
namespace Go.Proofs.Ytgpciekpmdihnaa
open Go.RowKit
mutual
def posT : Tr → Int
  | .mk k _ lo hi _ kids => if k = 1 ∨ k = 6 then 1 else if k = 5 then (if 0 ≤ hi then posL kids * hi else if 0 < lo then posL kids * lo else posL kids) else posL kids
def posL : List Tr → Int
  | [] => 0
  | t :: ts => posT t + posL ts
end
theorem posL_app (a b : List Tr) : posL (a ++ b) = posL a + posL b := by
  induction a with
  | nil => simp [posL]
  | cons t a ih => simp only [List.cons_append, posL, ih]; omega
theorem posL_one (t : Tr) : posL [t] = posT t := by simp [posL]
theorem pos_rep (lo hi : Int) (t : Tr) : posT (repT lo hi t) = posT t * timesOf lo hi := by
  simp only [repT, posT, posL_one, timesOf]
  rw [if_neg (by decide), if_pos trivial]
  by_cases h : 0 ≤ hi
  · rw [if_pos h, if_neg (by omega)]
  · rw [if_neg h, if_pos (show hi < 0 by omega)]
    by_cases h2 : 0 < lo
    · rw [if_pos h2]; congr 1; omega
    · rw [if_neg h2, show max lo 1 = 1 by omega, Int.mul_one]
theorem pos_cat (ts : List Tr) : posT (catT ts) = posL ts := by simp [catT, posT]
theorem pos_group (k : Nat) (ts : List Tr) : posT (groupT k ts) = posL ts := by simp [groupT, posT, posL_one, pos_cat]
def Ahead : Int → List Lv → Prop
  | _, [] => True
  | n, l :: ls => l.before = n ∧ Ahead (n + posL l.parts) ls
def posLv (ls : List Lv) : Int := (ls.map fun l => posL l.parts).sum
theorem posLv_app (a b : List Lv) : posLv (a ++ b) = posLv a + posLv b := by simp [posLv]
theorem ahead_app : ∀ (a b : List Lv) (n : Int), Ahead n (a ++ b) ↔ Ahead n a ∧ Ahead (n + posLv a) b
  | [], b, n => by simp [Ahead, posLv]
  | l :: a, b, n => by
    have h := ahead_app a b (n + posL l.parts)
    simp only [List.cons_append, Ahead, h]
    have e : n + posL l.parts + posLv a = n + posLv (l :: a) := by simp [posLv]; omega
    rw [e]
    constructor
    · rintro ⟨h1, h2, h3⟩; exact ⟨⟨h1, h2⟩, h3⟩
    · rintro ⟨⟨h1, h2⟩, h3⟩; exact ⟨h1, h2, h3⟩
structure Counts (P : Ps) : Prop where
  size : P.size = posLv P.outer + posL P.top.parts
  ahead : Ahead 0 (P.outer ++ [P.top])
  last : ∀ x, P.top.parts.getLast? = some x → P.last = posT x
theorem counts_start : Counts Ps.start := ⟨rfl, ⟨rfl, trivial⟩, fun x h => by cases h⟩
theorem counts_add {P : Ps} (h : Counts P) (t : Tr) (p : Int) (hp : posT t = p) : Counts (P.add t p) := by
  refine ⟨?_, ?_, fun x hx => ?_⟩
  · show P.size + p = posLv P.outer + posL (P.top.parts ++ [t])
    rw [posL_app, posL_one, h.size, hp]; omega
  · have h1 := h.ahead
    rw [ahead_app] at h1 ⊢
    exact ⟨h1.1, h1.2.1, trivial⟩
  · have hx' : (P.top.parts ++ [t]).getLast? = some x := hx
    simp at hx'
    rw [← hx', hp]
    rfl
theorem counts_open {P : Ps} (h : Counts P) (i : Nat) : Counts (P.opened i) := by
  refine ⟨?_, ?_, fun x hx => by cases hx⟩
  · show P.size = posLv (P.outer ++ [P.top]) + posL []
    rw [posLv_app, h.size]
    simp [posLv, posL]
  · show Ahead 0 ((P.outer ++ [P.top]) ++ [(P.opened i).top])
    rw [ahead_app]
    refine ⟨h.ahead, ?_, trivial⟩
    show P.size = 0 + posLv (P.outer ++ [P.top])
    rw [posLv_app, h.size]
    simp [posLv]
theorem counts_close {P : Ps} (h : Counts P) {ou : List Lv} {l : Lv} (hou : P.outer = ou ++ [l]) : Counts (P.close ou l) := by
  have h1 := h.ahead
  have h2 := h.size
  rw [hou] at h1 h2
  rw [posLv_app] at h2
  have e : posLv [l] = posL l.parts := by simp [posLv]
  rw [e] at h2
  rw [ahead_app, ahead_app] at h1
  have hb : P.top.before = 0 + posLv (ou ++ [l]) := h1.2.1
  rw [posLv_app, e] at hb
  refine ⟨?_, ?_, fun x hx => ?_⟩
  · show P.size + 0 = posLv ou + posL (l.parts ++ [groupT P.top.grp P.top.parts])
    rw [posL_app, posL_one, pos_group, h2]; omega
  · show Ahead 0 (ou ++ [{ l with parts := l.parts ++ [groupT P.top.grp P.top.parts] }])
    rw [ahead_app]
    exact ⟨h1.1.1, h1.1.2.1, trivial⟩
  · have hx' : (l.parts ++ [groupT P.top.grp P.top.parts]).getLast? = some x := hx
    simp at hx'
    rw [← hx', pos_group]
    show P.size - P.top.before = _
    omega
theorem counts_rep {P : Ps} (h : Counts P) {ts : List Tr} {x : Tr} (hs : P.top.parts = ts ++ [x]) (lo hi : Int) : Counts (P.rep ts x lo hi) := by
  have hl := h.last x (by rw [hs]; simp)
  have h2 := h.size
  rw [hs, posL_app, posL_one] at h2
  refine ⟨?_, ?_, fun y hy => ?_⟩
  · show P.size + P.last * (timesOf lo hi - 1) = posLv P.outer + posL (ts ++ [repT lo hi x])
    rw [posL_app, posL_one, pos_rep, hl, h2, Int.mul_sub, Int.mul_one]; omega
  · have h1 := h.ahead
    rw [ahead_app] at h1
    show Ahead 0 (P.outer ++ [(P.rep ts x lo hi).top])
    rw [ahead_app]
    exact ⟨h1.1, h1.2.1, trivial⟩
  · have hy' : (ts ++ [repT lo hi x]).getLast? = some y := hy
    simp at hy'
    rw [← hy', pos_rep, ← hl]
    rfl
theorem counts_take {P : Ps} (h : Counts P) (t : Tk) : Counts (P.take t).2 := by
  obtain ⟨kd, fr, to, er, q, gp, lo, hi⟩ := t
  unfold Ps.take
  split
  · exact h
  · exact counts_add h _ 1 (by simp [byteT, posT])
  · exact counts_add h _ 0 (by simp [bolT, posT, posL])
  · exact counts_add h _ 0 (by simp [eolT, posT, posL])
  · split
    · exact h
    · exact counts_open h _
  · split
    · exact h
    · rename_i l hl
      exact counts_close h (snoc_of hl)
  · split
    · exact counts_add h _ 1 (by simp [backT, posT])
    · exact h
  · split
    · exact h
    · rename_i x hx
      exact counts_rep h (snoc_of hx) _ _
theorem counts_run (s : ByteArray) : ∀ (f i k : Nat) (P Q : Ps), Counts P → runT s f i k P = .ok Q → Counts Q
  | 0, i, k, P, Q, h, hr => by cases hr; exact h
  | f + 1, i, k, P, Q, h, hr => by
    rw [runT] at hr
    split at hr
    · split at hr
      · exact counts_run s f _ _ _ Q (counts_take h _) hr
      · cases hr
    · cases hr; exact h
theorem parse_pos (s : ByteArray) (ts : List Tr) (h : parseT s = .ok ts) : ∃ P : Ps, runT s (s.size + 1) 0 4 Ps.start = .ok P ∧ P.outer = [] ∧ ts = P.top.parts ∧ posL ts = P.size := by
  unfold parseT at h
  split at h
  · cases h
  · cases hr : runT s (s.size + 1) 0 4 Ps.start with
    | error x => rw [hr] at h; cases h
    | ok P =>
      rw [hr] at h
      have h2 : (if P.outer.length = 0 then Except.ok P.top.parts else Except.error (10, P.top.pos)) = (Except.ok ts : Except (Int × Nat) (List Tr)) := h
      split at h2
      · rename_i h0
        cases h2
        have hc := counts_run s _ _ _ _ P counts_start hr
        have ho : P.outer = [] := List.length_eq_zero_iff.1 h0
        refine ⟨P, rfl, ho, rfl, ?_⟩
        rw [hc.size, ho]
        simp [posLv]
      · cases h2
end Go.Proofs.Ytgpciekpmdihnaa
/- bre: Positions, for any small tree. -/
namespace Go.Proofs.Ytgpciekpmdihnaa
open Go.RowKit
mutual
def smallT : Tr → Prop
  | .mk k q lo hi g kids => 0 ≤ posT (.mk k q lo hi g kids) ∧ posT (.mk k q lo hi g kids) ≤ 256 ∧ (posL kids ≤ 256 ∧ kids.length ≤ 1000000) ∧ smallL kids
def smallL : List Tr → Prop
  | [] => True
  | t :: ts => smallT t ∧ smallL ts
end
theorem small_mem : ∀ (ts : List Tr), smallL ts → ∀ t ∈ ts, smallT t
  | t :: ts, h, x, hx => by
    rcases List.mem_cons.1 hx with rfl | hx
    · exact h.1
    · exact small_mem ts h.2 x hx
theorem small_of : ∀ (ts : List Tr), (∀ t ∈ ts, smallT t) → smallL ts
  | [], _ => trivial
  | t :: ts, h => ⟨h t (by simp), small_of ts (fun x hx => h x (by simp [hx]))⟩
theorem smallT_pos (t : Tr) (h : smallT t) : 0 ≤ posT t ∧ posT t ≤ 256 ∧ (posL t.kids ≤ 256 ∧ t.kids.length ≤ 1000000) ∧ smallL t.kids := by
  obtain ⟨k, q, lo, hi, g, kids⟩ := t
  exact h
theorem posL_nonneg : ∀ (ts : List Tr), smallL ts → 0 ≤ posL ts
  | [], _ => Int.le_refl _
  | t :: ts, h => by
    have h1 := (smallT_pos t h.1).1
    have h2 := posL_nonneg ts h.2
    simp only [posL]; omega
theorem small_drop (ts : List Tr) (h : smallL ts) (k : Nat) : 0 ≤ posL (ts.take k) ∧ posL (ts.take k) ≤ posL ts := by
  have h1 : smallL (ts.take k) := small_of _ (fun t ht => small_mem ts h t (List.mem_of_mem_take ht))
  have h2 : smallL (ts.drop k) := small_of _ (fun t ht => small_mem ts h t (List.mem_of_mem_drop ht))
  have h3 := posL_app (ts.take k) (ts.drop k)
  rw [List.take_append_drop] at h3
  have := posL_nonneg _ h1
  have := posL_nonneg _ h2
  omega
abbrev nodeA (t : Tr) (u : Value) : Value := .agg #[.int .i64 (t.kind : Nat), .int .u64 (wd t.q 0 : Nat), .int .u64 (wd t.q 1 : Nat), .int .u64 (wd t.q 2 : Nat), .int .u64 (wd t.q 3 : Nat), .int .i64 t.lo, .int .i64 t.hi, .int .i64 (t.grp : Nat), u]
theorem kids_size {t x : Tr} (h : x ∈ t.kids) : SizeOf.sizeOf x < SizeOf.sizeOf t := by
  obtain ⟨k, q, lo, hi, g, kids⟩ := t
  have h1 := List.sizeOf_lt_of_mem (show x ∈ kids from h)
  simp only [Tr.mk.sizeOf_spec]
  omega
theorem kids_below {W W' : World} {ok : Nat → Prop} {v : Value} {ts : List Tr} (h : Kids W ok v ts) (hb : Below W.heap.size W W') : Kids W' ok v ts := by
  have h2 : Kids W (fun g => ok g ∧ g < W.heap.size) v ts := by
    induction h with
    | mk v ts vs hl own hok _ ih => exact .mk v ts vs hl own (fun g hg => ⟨hok g hg, (owns_blk own hg).2.1⟩) ih
  exact h2.keep (fun g hg => hb.block g hg.2) (fun g hg => hg.1)
set_option maxRecDepth 100000 in
set_option maxHeartbeats 2000000 in
theorem pos_walk (kd : Nat) (q : Nat → Bool) (lo hi : Int) (gp : Nat) (ks : List Tr) (hsm : smallT (.mk kd q lo hi gp ks)) (ih : ∀ x ∈ ks, ∀ (w : World) (ok : Nat → Prop) (a : Option Addr) (n c : Nat), Kids w ok (.slice a n c) x.kids → Calls Try.prog 13 #[nodeA x (.slice a n c)] w fun e w' => e = .returned (.int .i64 (posT x)) ∧ Below w.heap.size w w')
    (w : World) (ok : Nat → Prop) (a : Option Addr) (c : Nat) (hk : Kids w ok (.slice a ks.length c) ks) :
    Calls Try.prog 13 #[.agg #[.int .i64 (kd : Nat), .int .u64 (wd q 0 : Nat), .int .u64 (wd q 1 : Nat), .int .u64 (wd q 2 : Nat), .int .u64 (wd q 3 : Nat), .int .i64 lo, .int .i64 hi, .int .i64 (gp : Nat), .slice a ks.length c]] w fun e w' => e = .returned (.int .i64 (posT (.mk kd q lo hi gp ks))) ∧ Below w.heap.size w w' := by
  obtain ⟨hp0, hp1, ⟨hp2, hlen⟩, hp3⟩ := hsm
  have htr : ks.take ks.length = ks := List.take_length
  have HPT : Hid (posT (.mk kd q lo hi gp ks) = if kd = 1 ∨ kd = 6 then 1 else if kd = 5 then (if 0 ≤ hi then posL ks * hi else if 0 < lo then posL ks * lo else posL ks) else posL ks) := hideT (by simp only [posT])
  generalize posT (.mk kd q lo hi gp ks) = p at *
  have HA := hideT (And.intro hk (And.intro ih (And.intro hp3 htr)))
  clear hk ih hp3 htr
  go_enter Try.func13, Try.ntmps13
  go_wp2_with fail
  obtain ⟨X, hX⟩ : ∃ X, X = w.alloc (.cells #[.int .i64 (kd : Nat), .int .u64 (wd q 0 : Nat), .int .u64 (wd q 1 : Nat), .int .u64 (wd q 2 : Nat), .int .u64 (wd q 3 : Nat), .int .i64 lo, .int .i64 hi, .int .i64 (gp : Nat), .slice a ks.length c] 27) := ⟨_, rfl⟩
  have hbX : X.heap[w.heap.size]? = some (.cells #[.int .i64 (kd : Nat), .int .u64 (wd q 0 : Nat), .int .u64 (wd q 1 : Nat), .int .u64 (wd q 2 : Nat), .int .u64 (wd q 3 : Nat), .int .i64 lo, .int .i64 hi, .int .i64 (gp : Nat), .slice a ks.length c] 27 (0, 0)) := by rw [hX]; exact heap_alloc_new w _
  have hBX : Below w.heap.size w X := by rw [hX]; exact (Below.refl _ _).alloc (Nat.le_refl _) _
  rw [← hX]
  clear hX
  have HX := hideT (And.intro hbX hBX)
  clear hbX hBX
  go_loopw [3, 4] (fun v i wr => ∃ k : Nat, k ≤ ks.length ∧ i = .int .i64 k ∧ v = .int .i64 (posL (ks.take k)) ∧ Below X.heap.size X wr) (fun _ i _ => (ks.length - intOf i).toNat)
  case atStart => exact ⟨0, by omega, rfl, rfl, Below.refl _ _⟩
  case round =>
    obtain ⟨k, hk1, rfl, rfl, hB⟩ := hrel
    have hlw : w.heap.size < X.heap.size := (Array.getElem?_eq_some_iff.1 HX.out.1).1
    have hbr := (hB.block _ hlw).trans HX.out.1
    have z0 : wr.cell? ⟨w.heap.size, 0, none⟩ = some (.int .i64 (kd : Nat)) := by simp [World.cell?, hbr]
    have z5 : wr.cell? ⟨w.heap.size, 5, none⟩ = some (.int .i64 lo) := by simp [World.cell?, hbr]
    have z6 : wr.cell? ⟨w.heap.size, 6, none⟩ = some (.int .i64 hi) := by simp [World.cell?, hbr]
    have z8 : wr.cell? ⟨w.heap.size, 8, none⟩ = some (.slice a ks.length c) := by simp [World.cell?, hbr]
    clear hbr hlw
    by_cases hlt : k < ks.length
    · have hkr := kids_below (kids_below HA.out.1 HX.out.2) hB
      obtain ⟨g, c', u, he, _, _, hcell, hku⟩ := kids_at hkr (i := k) (List.getElem?_eq_getElem hlt)
      obtain rfl : a = some ⟨g, 0, none⟩ := by injection he
      obtain ⟨ua, uc, rfl⟩ := kids_shape hku
      have hic := HA.out.2.1 ks[k] (List.getElem_mem hlt) wr ok ua _ uc hku
      have hsum : posL (ks.take (k + 1)) = posL (ks.take k) + posT ks[k] := by
        rw [List.take_succ_eq_append_getElem hlt, posL_app, posL_one]
      have hb1 := small_drop ks HA.out.2.2.1 k
      have hb2 := small_drop ks HA.out.2.2.1 (k + 1)
      have y0 := (hcell 0 _ rfl).1
      have y1 := (hcell 1 _ rfl).1
      have y2 := (hcell 2 _ rfl).1
      have y3 := (hcell 3 _ rfl).1
      have y4 := (hcell 4 _ rfl).1
      have y5 := (hcell 5 _ rfl).1
      have y6 := (hcell 6 _ rfl).1
      have y7 := (hcell 7 _ rfl).1
      have y8 := (hcell 8 _ rfl).1
      rw [Nat.add_zero] at y0
      have k3 : (k : Int) < (ks.length : Int) := by omega
      have k4 : (0 : Int) ≤ (k : Int) := by omega
      have k5 : IntKind.i64.wrap ((k : Int) + 1) = (k : Int) + 1 := by rw [IntKind.wrap_i64]; omega
      have k6 : IntKind.i64.wrap (posL (ks.take k) + posT ks[k]) = posL (ks.take k) + posT ks[k] := by rw [IntKind.wrap_i64]; omega
      have HC := hideT (And.intro hic hsum)
      clear hkr hcell hku he hic hsum hb1 hb2
      go_wp2_with fail
      refine HC.out.1.mono ?_
      rintro e w2 ⟨rfl, hb2⟩
      have HB := hideT (hB.trans (hb2.mono hB.size))
      clear y0 y1 y2 y3 y4 y5 y6 y7 y8 z0 z5 z6 z8 hB hb2
      go_wp2
      exact ⟨⟨k + 1, by omega, by go_num, by rw [HC.out.2], HB.out⟩, by simp [intOf]; omega⟩
    · obtain rfl : k = ks.length := by omega
      have k3 : ¬ (ks.length : Int) < (ks.length : Int) := by omega
      rw [HA.out.2.2.2]
      have HB := hideT (HX.out.2.trans (hB.mono HX.out.2.size))
      generalize posL ks = n at *
      clear hB
      by_cases c1 : kd = 1
      · subst c1
        have hp := HPT.out
        rw [if_pos (.inl rfl)] at hp
        go_wp2
        go_ret
        exact ⟨rfl, HB.out⟩
      by_cases c6 : kd = 6
      · subst c6
        have hp := HPT.out
        rw [if_pos (.inr rfl)] at hp
        go_wp2
        go_ret
        exact ⟨rfl, HB.out⟩
      have e1 : ((kd : Int) == 1) = false := by rw [beq_eq_false_iff_ne]; omega
      have e6 : ((kd : Int) == 6) = false := by rw [beq_eq_false_iff_ne]; omega
      have hp := HPT.out
      rw [if_neg (by omega)] at hp
      by_cases c5 : kd = 5
      · subst c5
        rw [if_pos rfl] at hp
        by_cases h0 : 0 ≤ hi
        · rw [if_pos h0] at hp
          have kk : IntKind.i64.wrap (n * hi) = n * hi := by rw [← hp, IntKind.wrap_i64]; omega
          have HP2 := hideT hp
          clear hp
          go_wp2
          go_ret
          exact ⟨by rw [HP2.out]; rfl, HB.out⟩
        · rw [if_neg h0] at hp
          have h0' : (0 ≤ hi) = False := eq_false h0
          by_cases h1 : 0 < lo
          · rw [if_pos h1] at hp
            have kk : IntKind.i64.wrap (n * lo) = n * lo := by rw [← hp, IntKind.wrap_i64]; omega
            have HP2 := hideT hp
            clear hp
            go_wp2
            go_ret
            exact ⟨by rw [HP2.out]; rfl, HB.out⟩
          · rw [if_neg h1] at hp
            have h1' : (0 < lo) = False := eq_false h1
            have HP2 := hideT hp
            clear hp
            go_wp2
            go_ret
            exact ⟨by rw [HP2.out]; rfl, HB.out⟩
      · have e5 : ((kd : Int) == 5) = false := by rw [beq_eq_false_iff_ne]; omega
        rw [if_neg c5] at hp
        have HP2 := hideT hp
        clear hp
        go_wp2
        go_ret
        exact ⟨by rw [HP2.out]; rfl, HB.out⟩
theorem pos_any : ∀ (m : Nat) (t : Tr), SizeOf.sizeOf t < m → smallT t → ∀ (w : World) (ok : Nat → Prop) (a : Option Addr) (n c : Nat), Kids w ok (.slice a n c) t.kids →
    Calls Try.prog 13 #[nodeA t (.slice a n c)] w fun e w' => e = .returned (.int .i64 (posT t)) ∧ Below w.heap.size w w'
  | 0, t, h, _, _, _, _, _, _, _ => absurd h (Nat.not_lt_zero _)
  | m + 1, t, h, hsm, w, ok, a, n, c, hk => by
    have hn : n = t.kids.length := by
      obtain ⟨a', c', he⟩ := kids_shape hk
      injection he
    subst hn
    have ih : ∀ x ∈ t.kids, ∀ (w : World) (ok : Nat → Prop) (a : Option Addr) (n c : Nat), Kids w ok (.slice a n c) x.kids → Calls Try.prog 13 #[nodeA x (.slice a n c)] w fun e w' => e = .returned (.int .i64 (posT x)) ∧ Below w.heap.size w w' :=
      fun x hx => pos_any m x (by have := kids_size hx; omega) (small_mem _ (smallT_pos t hsm).2.2.2 x hx)
    obtain ⟨kd, q, lo, hi, gp, ks⟩ := t
    exact pos_walk kd q lo hi gp ks hsm ih w ok a c hk
end Go.Proofs.Ytgpciekpmdihnaa
/- bre: every tree that Parse answers is small. -/
namespace Go.Proofs.Ytgpciekpmdihnaa
open Go.RowKit
def AllSmall (P : Ps) : Prop := ∀ l, l ∈ P.outer ++ [P.top] → smallL l.parts
theorem small_leaf (k : Nat) (q : Nat → Bool) (g : Nat) (hk : k ≠ 5) : smallT (.mk k q 0 0 g []) := by
  have h : posT (.mk k q 0 0 g []) = if k = 1 ∨ k = 6 then 1 else 0 := by simp [posT, posL, hk]
  refine ⟨?_, ?_, ⟨by simp [posL], by simp⟩, trivial⟩
  · rw [h]; split <;> omega
  · rw [h]; split <;> omega
theorem smallL_snoc {ts : List Tr} {t : Tr} (h : smallL ts) (ht : smallT t) : smallL (ts ++ [t]) := by
  refine small_of _ (fun x hx => ?_)
  rcases List.mem_append.1 hx with h1 | h1
  · exact small_mem ts h x h1
  · rw [List.mem_singleton.1 h1]; exact ht
theorem posLv_nonneg : ∀ ls : List Lv, (∀ l ∈ ls, smallL l.parts) → 0 ≤ posLv ls
  | [], _ => by simp [posLv]
  | l :: ls, h => by
    have h1 := posL_nonneg _ (h l (by simp))
    have h2 := posLv_nonneg ls (fun x hx => h x (by simp [hx]))
    have e : posLv (l :: ls) = posL l.parts + posLv ls := by simp [posLv]
    omega
theorem small_cat {ts : List Tr} (h : smallL ts) (hp : posL ts ≤ 256) (hl : ts.length ≤ 1000000) : smallT (catT ts) := by
  have h0 := posL_nonneg _ h
  have e := pos_cat ts
  exact ⟨by show 0 ≤ posT (catT ts); omega, by show posT (catT ts) ≤ 256; omega, ⟨hp, hl⟩, h⟩
theorem small_group {ts : List Tr} (k : Nat) (h : smallL ts) (hp : posL ts ≤ 256) (hl : ts.length ≤ 1000000) : smallT (groupT k ts) := by
  have h0 := posL_nonneg _ h
  have e := pos_group k ts
  exact ⟨by show 0 ≤ posT (groupT k ts); omega, by show posT (groupT k ts) ≤ 256; omega, ⟨by rw [posL_one, pos_cat]; exact hp, by simp⟩, small_cat h hp hl, trivial⟩
theorem small_rep {t : Tr} (lo hi : Int) (h : smallT t) (h0 : 0 ≤ posT t * timesOf lo hi) (h1 : posT t * timesOf lo hi ≤ 256) : smallT (repT lo hi t) := by
  have e := pos_rep lo hi t
  exact ⟨by show 0 ≤ posT (repT lo hi t); omega, by show posT (repT lo hi t) ≤ 256; omega, ⟨by rw [posL_one]; exact (smallT_pos t h).2.1, by simp⟩, h, trivial⟩
theorem all_add {P : Ps} (h : AllSmall P) {t : Tr} (ht : smallT t) (p : Int) : AllSmall (P.add t p) := by
  intro l hl
  rcases List.mem_append.1 hl with h1 | h1
  · exact h l (List.mem_append_left _ h1)
  · rw [List.mem_singleton.1 h1]
    exact smallL_snoc (h P.top (by simp)) ht
theorem small_take {P : Ps} {n : Nat} (hn : n ≤ 600) (h : AllSmall P) (hC : Counts P) (hG : Good P n) (t : Tk) (ht : TkOk t) (h7 : t.kind = 7 → P.top.parts ≠ []) (hk : t.kind ≠ 0) (h0 : (P.take t).1 = 0) : AllSmall (P.take t).2 := by
  have hG2 := (good_take hG t ht h7 hk h0).1
  obtain ⟨kd, fr, to, er, q, gp, lo, hi⟩ := t
  have hkd : kd ≤ 7 := ht.kind
  rcases (show kd = 0 ∨ kd = 1 ∨ kd = 2 ∨ kd = 3 ∨ kd = 4 ∨ kd = 5 ∨ kd = 6 ∨ kd = 7 by omega) with rfl | rfl | rfl | rfl | rfl | rfl | rfl | rfl
  · exact absurd rfl hk
  · exact all_add h (small_leaf 1 q 0 (by omega)) 1
  · exact all_add h (small_leaf 2 noneP 0 (by omega)) 0
  · exact all_add h (small_leaf 3 noneP 0 (by omega)) 0
  · by_cases h9 : P.groups = 9
    · simp [Ps.take, h9] at h0
    · have e : P.take ⟨4, fr, to, er, q, gp, lo, hi⟩ = (0, P.opened fr) := by simp [Ps.take, h9]
      rw [e]
      intro l hl
      have hl' : l ∈ (P.outer ++ [P.top]) ++ [(P.opened fr).top] := hl
      rcases List.mem_append.1 hl' with h1 | h1
      · exact h l h1
      · rw [List.mem_singleton.1 h1]
        exact trivial
  · cases hl : P.outer.getLast? with
    | none => simp [Ps.take, hl] at h0
    | some l =>
      have e : P.take ⟨5, fr, to, er, q, gp, lo, hi⟩ = (0, P.close P.outer.dropLast l) := by simp only [Ps.take, hl]
      rw [e]
      have hs := snoc_of hl
      have htop := h P.top (by simp)
      have hpos : posL P.top.parts ≤ 256 := by
        have h1 := hC.size
        have h2 := posLv_nonneg P.outer (fun x hx => h x (by simp [hx]))
        have h3 := hG.big
        omega
      have hg : smallT (groupT P.top.grp P.top.parts) := small_group _ htop hpos (by have := hG.top.2; omega)
      intro l' hl'
      have hl2 : l' ∈ P.outer.dropLast ++ [{ l with parts := l.parts ++ [groupT P.top.grp P.top.parts] }] := hl'
      rcases List.mem_append.1 hl2 with h1 | h1
      · exact h l' (by rw [hs]; simp [h1])
      · rw [List.mem_singleton.1 h1]
        exact smallL_snoc (h l (by rw [hs]; simp)) hg
  · cases hc : P.shut gp
    · simp [Ps.take, hc] at h0
    · have e : P.take ⟨6, fr, to, er, q, gp, lo, hi⟩ = (P.add (backT gp) 1).grown := by simp only [Ps.take, hc]; rfl
      rw [e]
      exact all_add h (small_leaf 6 noneP gp (by omega)) 1
  · have h7' := h7 rfl
    cases hl : P.top.parts.getLast? with
    | none => exact absurd (List.getLast?_eq_none_iff.1 hl) h7'
    | some x =>
      have e : P.take ⟨7, fr, to, er, q, gp, lo, hi⟩ = (P.rep P.top.parts.dropLast x lo hi).grown := by simp only [Ps.take, hl]
      rw [e] at hG2 ⊢
      have hs := snoc_of hl
      have hla := hG2.last (by simp [Ps.grown, Ps.rep])
      have hbd := hG2.bounds
      have hbg := hG2.big
      have hx : posT x = P.last := (hC.last x hl).symm
      have hla' : 0 ≤ P.last * timesOf lo hi ∧ P.last * timesOf lo hi ≤ (P.rep P.top.parts.dropLast x lo hi).grown.2.size - (P.rep P.top.parts.dropLast x lo hi).grown.2.top.before := hla
      have htop := h P.top (by simp)
      have hxs : smallT x := small_mem _ htop x (by rw [hs]; simp)
      intro l' hl'
      have hl2 : l' ∈ P.outer ++ [{ P.top with parts := P.top.parts.dropLast ++ [repT lo hi x] }] := hl'
      rcases List.mem_append.1 hl2 with h1 | h1
      · exact h l' (List.mem_append_left _ h1)
      · rw [List.mem_singleton.1 h1]
        refine smallL_snoc (small_of _ (fun y hy => small_mem _ htop y (List.dropLast_subset _ hy))) (small_rep lo hi hxs ?_ ?_)
        · rw [hx]; exact hla'.1
        · rw [hx]; omega
structure Well (P : Ps) (k n : Nat) : Prop where
  good : Good P n
  counts : Counts P
  small : AllSmall P
  parts : k ≠ 4 → P.top.parts ≠ []
theorem well_start : Well Ps.start 4 0 := ⟨good_start, counts_start, fun l hl => by
  have hl' : l = ⟨0, 0, 0, []⟩ := by simpa [Ps.start] using hl
  subst hl'
  exact trivial, fun h => absurd rfl h⟩
theorem well_take {s : ByteArray} {P : Ps} {i k : Nat} (hi : i < s.size) (hs : s.size ≤ 512) (h : Well P k i) (h0 : (P.take (tokenT s i k)).1 = 0) : Well (P.take (tokenT s i k)).2 (tokenT s i k).kind (tokenT s i k).to ∧ i < (tokenT s i k).to ∧ (tokenT s i k).to ≤ s.size := by
  have hta := tokAt_token s i k hi
  have hk : (tokenT s i k).kind ≠ 0 := fun e => by
    have h9 : (P.take (tokenT s i k)).1 = (tokenT s i k).e := by simp only [Ps.take, e]
    rw [h0] at h9
    exact hta.fault e h9.symm
  have hn := hta.next hk
  have h7 : (tokenT s i k).kind = 7 → P.top.parts ≠ [] := fun h7 => h.parts (fun e => by have := hta.rep h7; rw [e] at this; cases this)
  obtain ⟨g1, g2⟩ := good_take h.good _ hta.ok h7 hk h0
  exact ⟨⟨g1.mono (by omega), counts_take h.counts _, small_take (by omega) h.small h.counts h.good _ hta.ok h7 hk h0, g2⟩, hn⟩
theorem well_run (s : ByteArray) (hs : s.size ≤ 512) : ∀ (f i k : Nat) (P Q : Ps), Well P k i → i ≤ s.size → runT s f i k P = .ok Q → ∃ k' n, n ≤ s.size ∧ Well Q k' n
  | 0, i, k, P, Q, h, hi, hr => by cases hr; exact ⟨k, i, hi, h⟩
  | f + 1, i, k, P, Q, h, hi, hr => by
    rw [runT] at hr
    split at hr
    · rename_i hlt
      split at hr
      · rename_i h0
        obtain ⟨h1, h2, h3⟩ := well_take hlt hs h h0
        exact well_run s hs f _ _ _ Q h1 h3 hr
      · cases hr
    · cases hr; exact ⟨k, i, hi, h⟩
theorem parse_small (s : ByteArray) (ts : List Tr) (h : parseT s = .ok ts) : smallT (catT ts) := by
  have hs : s.size ≤ 512 := by
    unfold parseT at h
    split at h
    · cases h
    · omega
  obtain ⟨P, hr, ho, rfl, hp⟩ := parse_pos s ts h
  obtain ⟨k', n, hn, hw⟩ := well_run s hs _ 0 4 _ P well_start (Nat.zero_le _) hr
  have := hw.good.big
  have := hw.good.top.2
  exact small_cat (hw.small P.top (by simp)) (by omega) (by omega)
end Go.Proofs.Ytgpciekpmdihnaa
/- bre: every tree that Parse answers is in shape. -/
namespace Go.Proofs.Ytgpciekpmdihnaa
open Go.RowKit
abbrev Sh := Nat × (Nat → Bool)
def Sh.shut (s : Sh) (g : Nat) : Sh := (s.1, fun x => if x = g then true else s.2 x)
end Go.Proofs.Ytgpciekpmdihnaa
/- bre: every tree that Parse answers is in shape: the tokens' part. -/
namespace Go.Proofs.Ytgpciekpmdihnaa
open Go.RowKit
end Go.Proofs.Ytgpciekpmdihnaa
