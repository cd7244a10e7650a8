/- bre: a parser within another: the same tokens, groups numbered higher. -/
import Derived.Test.YtemgfbidfdhanaaDoorKLoc
import Derived.Test.YtemgfbidfdhanaaDoorKRm
namespace Go.Proofs.YtemgfbidfdhanaaDoor
open Go.RowKit

mutual
/-- A tree, its groups numbered higher. -/
def hgT (d : Nat) : Tr → Tr
  | .mk k q lo hi g kids => .mk k q lo hi (if k = 4 then g + d else g) (hgL d kids)
def hgL (d : Nat) : List Tr → List Tr
  | [] => []
  | t :: ts => hgT d t :: hgL d ts
end

theorem hgL_app (d : Nat) : ∀ (ts us : List Tr), hgL d (ts ++ us) = hgL d ts ++ hgL d us
  | [], us => by simp [hgL]
  | t :: ts, us => by simp only [List.cons_append, hgL, hgL_app d ts us]
theorem hgL_one (d : Nat) (t : Tr) : hgL d [t] = [hgT d t] := by simp [hgL]
theorem hgL_len (d : Nat) : ∀ (ts : List Tr), (hgL d ts).length = ts.length
  | [] => by simp [hgL]
  | t :: ts => by simp only [hgL, List.length_cons, hgL_len d ts]
theorem hgT_byte (d : Nat) (q : Nat → Bool) : hgT d (byteT q) = byteT q := by simp [byteT, hgT, hgL]
theorem hgT_bol (d : Nat) : hgT d bolT = bolT := by simp [bolT, hgT, hgL]
theorem hgT_eol (d : Nat) : hgT d eolT = eolT := by simp [eolT, hgT, hgL]
theorem hgT_back (d g : Nat) : hgT d (backT g) = backT g := by simp [backT, hgT, hgL]
theorem hgT_cat (d : Nat) (ts : List Tr) : hgT d (catT ts) = catT (hgL d ts) := by simp [catT, hgT]
theorem hgT_group (d k : Nat) (ts : List Tr) : hgT d (groupT k ts) = groupT (k + d) (hgL d ts) := by simp [groupT, hgT, hgL, hgT_cat]
theorem hgT_rep (d : Nat) (lo hi : Int) (t : Tr) : hgT d (repT lo hi t) = repT lo hi (hgT d t) := by simp [repT, hgT, hgL]

structure LvR (d : Nat) (z : Int) (l l' : Lv) : Prop where
  grp : l'.grp = l.grp + d
  before : l'.before = l.before + z
  parts : l'.parts = hgL d l.parts

inductive OutR (d : Nat) (z : Int) : List Lv → List Lv → Prop where
  | nil : OutR d z [] []
  | snoc {ls ls' : List Lv} {l l' : Lv} (h : OutR d z ls ls') (hl : LvR d z l l') : OutR d z (ls ++ [l]) (ls' ++ [l'])

theorem OutR.inv {d : Nat} {z : Int} {xs ys : List Lv} (h : OutR d z xs ys) : (xs = [] ∧ ys = []) ∨ ∃ ls l ls' l', xs = ls ++ [l] ∧ ys = ls' ++ [l'] ∧ OutR d z ls ls' ∧ LvR d z l l' := by
  cases h with
  | nil => exact .inl ⟨rfl, rfl⟩
  | snoc h hl => exact .inr ⟨_, _, _, _, rfl, rfl, h, hl⟩

/-- P' has read what P has read, within what B holds. -/
structure PsR (d : Nat) (z : Int) (B : List Lv) (P P' : Ps) : Prop where
  outer : ∃ os, P'.outer = B ++ os ∧ OutR d z P.outer os
  top : LvR d z P.top P'.top
  groups : P'.groups = P.groups + d
  size : P'.size = P.size + z
  last : P.top.parts ≠ [] → P'.last = P.last

/-- What a token does besides its places. -/
def TkR (t t' : Tk) : Prop := t'.kind = t.kind ∧ t'.q = t.q ∧ t'.grp = t.grp ∧ t'.lo = t.lo ∧ t'.hi = t.hi

theorem PsR.add {d : Nat} {z : Int} {B : List Lv} {P P' : Ps} (h : PsR d z B P P') (t : Tr) (p : Int) : PsR d z B (P.add t p) (P'.add (hgT d t) p) :=
  ⟨h.outer, ⟨h.top.grp, h.top.before, by show P'.top.parts ++ [hgT d t] = hgL d (P.top.parts ++ [t]); rw [h.top.parts, hgL_app, hgL_one]⟩, h.groups, by show P'.size + p = P.size + p + z; rw [h.size]; omega, fun _ => rfl⟩

/-- How a step within can fail where the same step alone does not. -/
def Off (d : Nat) (z : Int) (P : Ps) (t : Tk) (e : Int) : Prop := (t.kind = 6 ∧ e = 11) ∨ (t.kind = 4 ∧ e = 4 ∧ P.groups + d = 9) ∨ (e = 13 ∧ (P.take t).2.size + z > 256 ∧ (P.take t).1 = bigE (P.take t).2.size)

theorem grown_step {d : Nat} {z : Int} {B : List Lv} {P X X' : Ps} {t : Tk} (ht : P.take t = X.grown) (h : PsR d z B X X') : ((X'.grown).1 = 0 ∧ PsR d z B (P.take t).2 (X'.grown).2) ∨ Off d z P t (X'.grown).1 := by
  rw [ht]
  show (bigE X'.size = 0 ∧ PsR d z B X X') ∨ _
  by_cases c : X'.size > 256
  · right
    right
    right
    refine ⟨by show bigE X'.size = 13; unfold bigE; rw [if_pos c], ?_⟩
    rw [ht]
    refine ⟨?_, rfl⟩
    show X.size + z > 256
    rw [← h.size]
    exact c
  · left
    exact ⟨by unfold bigE; rw [if_neg c], h⟩

theorem take_step {d : Nat} {z : Int} {B : List Lv} {P P' : Ps} (h : PsR d z B P P') {t t' : Tk} (ht : TkR t t') (hk : t.kind ≠ 0) (hk7 : t.kind ≤ 7) (h0 : (P.take t).1 = 0) :
    ((P'.take t').1 = 0 ∧ PsR d z B (P.take t).2 (P'.take t').2) ∨ Off d z P t (P'.take t').1 := by
  obtain ⟨t1, t2, t3, t4, t5⟩ := ht
  rcases (show t.kind = 1 ∨ t.kind = 2 ∨ t.kind = 3 ∨ t.kind = 4 ∨ t.kind = 5 ∨ t.kind = 6 ∨ t.kind = 7 by omega) with c | c | c | c | c | c | c
  · have e : P'.take t' = (P'.add (hgT d (byteT t.q)) 1).grown := by rw [hgT_byte, ← t2]; simp only [Ps.take, t1, c]
    rw [e]
    exact grown_step (by simp only [Ps.take, c]) (h.add _ _)
  · have e : P'.take t' = (P'.add (hgT d bolT) 0).grown := by rw [hgT_bol]; simp only [Ps.take, t1, c]
    rw [e]
    exact grown_step (by simp only [Ps.take, c]) (h.add _ _)
  · have e : P'.take t' = (P'.add (hgT d eolT) 0).grown := by rw [hgT_eol]; simp only [Ps.take, t1, c]
    rw [e]
    exact grown_step (by simp only [Ps.take, c]) (h.add _ _)
  · have e : P'.take t' = if P'.groups = 9 then (4, P') else (0, P'.opened t'.fr) := by simp only [Ps.take, t1, c]
    have e0 : P.take t = if P.groups = 9 then (4, P) else (0, P.opened t.fr) := by simp only [Ps.take, c]
    rw [e]
    by_cases g9 : P'.groups = 9
    · rw [if_pos g9]
      exact .inr (.inr (.inl ⟨c, rfl, by rw [← h.groups]; exact g9⟩))
    · rw [if_neg g9]
      have g9' : P.groups ≠ 9 := fun x => by rw [e0, if_pos x] at h0; cases h0
      rw [e0, if_neg g9']
      obtain ⟨os, ho, hr⟩ := h.outer
      refine .inl ⟨rfl, ⟨⟨os ++ [P'.top], by show P'.outer ++ [P'.top] = _; rw [ho, List.append_assoc], .snoc hr h.top⟩, ⟨by show P'.groups + 1 = P.groups + 1 + d; rw [h.groups]; omega, h.size, rfl⟩, by show P'.groups + 1 = P.groups + 1 + d; rw [h.groups]; omega, h.size, fun x => absurd rfl x⟩⟩
  · have e : P'.take t' = match P'.outer.getLast? with | none => (10, P') | some l => (0, P'.close P'.outer.dropLast l) := by simp only [Ps.take, t1, c]; rfl
    have e0 : P.take t = match P.outer.getLast? with | none => (10, P) | some l => (0, P.close P.outer.dropLast l) := by simp only [Ps.take, c]; rfl
    obtain ⟨os, ho, hr⟩ := h.outer
    rcases hr.inv with ⟨x, _⟩ | ⟨ls, l, ls', l', x, y, hr2, hl⟩
    · rw [e0, x] at h0
      cases h0
    · rw [e, e0, ho, y, x, ← List.append_assoc, List.getLast?_concat, List.getLast?_concat, List.dropLast_concat, List.dropLast_concat]
      refine .inl ⟨rfl, ⟨⟨ls', rfl, hr2⟩, ⟨hl.grp, hl.before, ?_⟩, h.groups, ?_, fun _ => ?_⟩⟩
      · show l'.parts ++ [groupT P'.top.grp P'.top.parts] = hgL d (l.parts ++ [groupT P.top.grp P.top.parts])
        rw [hgL_app, hgL_one, hgT_group, hl.parts, h.top.grp, h.top.parts]
      · show P'.size + 0 = P.size + 0 + z
        rw [h.size]
        omega
      · show P'.size - P'.top.before = P.size - P.top.before
        rw [h.size, h.top.before]
        omega
  · have e : P'.take t' = if P'.shut t.grp then (P'.add (hgT d (backT t.grp)) 1).grown else (11, P') := by rw [hgT_back, ← t3]; simp only [Ps.take, t1, c]
    have e0 : P.take t = if P.shut t.grp then (P.add (backT t.grp) 1).grown else (11, P) := by simp only [Ps.take, c]
    rw [e]
    by_cases x : P'.shut t.grp = true
    · rw [if_pos x]
      have y : P.shut t.grp = true := by
        by_cases y : P.shut t.grp = true
        · exact y
        · rw [e0, if_neg y] at h0; cases h0
      exact grown_step (by rw [e0, if_pos y]) (h.add _ _)
    · rw [if_neg x]
      exact .inr (.inl ⟨c, rfl⟩)
  · have e : P'.take t' = match P'.top.parts.getLast? with | none => (0, P') | some x => (P'.rep P'.top.parts.dropLast x t.lo t.hi).grown := by rw [← t4, ← t5]; simp only [Ps.take, t1, c]; rfl
    have e0 : P.take t = match P.top.parts.getLast? with | none => (0, P) | some x => (P.rep P.top.parts.dropLast x t.lo t.hi).grown := by simp only [Ps.take, c]; rfl
    cases hl : P.top.parts.getLast? with
    | none =>
      have hn : P.top.parts = [] := List.getLast?_eq_none_iff.1 hl
      have hn' : P'.top.parts = [] := by rw [h.top.parts, hn]; simp [hgL]
      rw [e, e0, hn, hn']
      exact .inl ⟨rfl, h⟩
    | some x =>
      have hs := snoc_of hl
      have hs' : P'.top.parts = hgL d P.top.parts.dropLast ++ [hgT d x] := by
        rw [h.top.parts]
        conv => lhs; rw [hs]
        rw [hgL_app, hgL_one]
      have hla : P'.last = P.last := h.last (by rw [hs]; simp)
      rw [e, hs']
      simp only [List.getLast?_concat, List.dropLast_concat]
      refine grown_step (X := P.rep P.top.parts.dropLast x t.lo t.hi) (by rw [e0, hl]) ⟨h.outer, ⟨h.top.grp, h.top.before, ?_⟩, h.groups, ?_, fun _ => ?_⟩
      · show hgL d P.top.parts.dropLast ++ [repT t.lo t.hi (hgT d x)] = hgL d (P.top.parts.dropLast ++ [repT t.lo t.hi x])
        rw [hgL_app, hgL_one, hgT_rep]
      · show P'.size + P'.last * (timesOf t.lo t.hi - 1) = P.size + P.last * (timesOf t.lo t.hi - 1) + z
        rw [hla, h.size]
        omega
      · show P'.last * timesOf t.lo t.hi = P.last * timesOf t.lo t.hi
        rw [hla]
end Go.Proofs.YtemgfbidfdhanaaDoor

/- bre: a text within another, in brackets: the same tokens. -/
namespace Go.Proofs.YtemgfbidfdhanaaDoor
open Go.RowKit

theorem occ_app (a b sub : List UInt8) (j : Nat) (h : j + sub.length ≤ a.length) : Lib.occAt (a ++ b) sub j = Lib.occAt a sub j := by
  rw [Lib.occAt_iff_take _ _ _ h, Lib.occAt_iff_take _ _ _ (by rw [List.length_append]; omega), List.drop_append_of_le_length (by omega), List.take_append_of_le_length (by rw [List.length_drop]; omega)]

theorem index_more (a b sub : List UInt8) (hs : sub ≠ []) (h : 0 ≤ Lib.index a sub) : Lib.index (a ++ b) sub = Lib.index a sub := by
  rcases Lib.index_spec a sub with ⟨h1, _⟩ | ⟨i, h1, h2, h3, h4⟩
  · omega
  · rw [h1]
    have hr := (Lib.occAt_room h3).resolve_right hs
    exact Lib.index_first (by rw [List.length_append]; omega) (by rw [occ_app _ _ _ _ hr]; exact h3) (fun j hj => by rw [occ_app _ _ _ _ (by omega)]; exact h4 j hj)

theorem cut_more (a b sub : List UInt8) (hs : sub ≠ []) (h : (Lib.cut a sub).2.2 = true) : (Lib.cut (a ++ b) sub).1 = (Lib.cut a sub).1 ∧ (Lib.cut (a ++ b) sub).2.2 = true := by
  have hi : 0 ≤ Lib.index a sub := by
    by_cases c : 0 ≤ Lib.index a sub
    · exact c
    · unfold Lib.cut at h
      rw [if_neg c] at h
      cases h
  have hr := Lib.index_room a sub hi
  have e := index_more a b sub hs hi
  unfold Lib.cut
  rw [e, if_pos hi, if_pos hi]
  exact ⟨List.take_append_of_le_length (by omega), rfl⟩

/-- The text s lies in s' at place m, and \) behind it. -/
structure Inn (s s' : ByteArray) (m : Nat) : Prop where
  list : ∃ pre post, s'.data.toList = pre ++ (s.data.toList ++ (92 :: 41 :: post)) ∧ pre.length = m

theorem data_len (s : ByteArray) : s.data.toList.length = s.size := by rw [Array.length_toList]; rfl

theorem byteAt_list (s : ByteArray) (i : Nat) : byteAt s i = match s.data.toList[i]? with | some b => (b.toNat : Int) | none => -1 := by
  by_cases h : i < s.size
  · have h2 : s.data.toList[i]? = some s[i] := by
      rw [Array.getElem?_toList, Array.getElem?_eq_getElem (show i < s.data.size from h)]
      rfl
    rw [byteAt_in h, h2]
  · have h2 : s.data.toList[i]? = none := List.getElem?_eq_none (by rw [data_len]; omega)
    rw [byteAt_out (by omega), h2]

theorem Inn.drop {s s' : ByteArray} {m : Nat} (h : Inn s s' m) : ∃ post, ∀ i, i ≤ s.size → s'.data.toList.drop (m + i) = s.data.toList.drop i ++ (92 :: 41 :: post) := by
  obtain ⟨pre, post, he, hl⟩ := h.list
  refine ⟨post, fun i hi => ?_⟩
  rw [he, ← hl, List.drop_append, List.drop_eq_nil_of_le (by omega), List.nil_append, Nat.add_sub_cancel_left, List.drop_append_of_le_length (by rw [data_len]; exact hi)]

theorem Inn.byte {s s' : ByteArray} {m : Nat} (h : Inn s s' m) {i : Nat} (hi : i < s.size) : byteAt s' (m + i) = byteAt s i := by
  obtain ⟨pre, post, he, hl⟩ := h.list
  rw [byteAt_list, byteAt_list, he, ← hl, List.getElem?_append_right (by omega), Nat.add_sub_cancel_left, List.getElem?_append_left (by rw [data_len]; exact hi)]

theorem Inn.size {s s' : ByteArray} {m : Nat} (h : Inn s s' m) : m + s.size + 2 ≤ s'.size := by
  obtain ⟨pre, post, he, hl⟩ := h.list
  have := congrArg List.length he
  rw [data_len] at this
  simp only [List.length_append, List.length_cons, data_len, hl] at this
  omega

theorem Inn.end0 {s s' : ByteArray} {m : Nat} (h : Inn s s' m) : byteAt s' (m + s.size) = 92 ∧ byteAt s' (m + s.size + 1) = 41 := by
  obtain ⟨pre, post, he, hl⟩ := h.list
  have hz := data_len s
  constructor
  · rw [byteAt_list, he, ← hl, List.getElem?_append_right (by omega), Nat.add_sub_cancel_left, ← hz, List.getElem?_append_right (Nat.le_refl _), Nat.sub_self]
    rfl
  · rw [byteAt_list, he, ← hl, Nat.add_assoc, List.getElem?_append_right (by omega), Nat.add_sub_cancel_left, ← hz, List.getElem?_append_right (by omega), Nat.add_sub_cancel_left]
    rfl

theorem interval_in {s s' : ByteArray} {m i : Nat} (h : Inn s s' m) (hi : i + 2 ≤ s.size) (hk : (intervalT s i).kind ≠ 0) : TkR (intervalT s i) (intervalT s' (m + i)) ∧ (intervalT s' (m + i)).to = m + (intervalT s i).to := by
  obtain ⟨post, hd⟩ := h.drop
  have hc : (Lib.cut (s.data.toList.drop (i + 2)) [92, 125]).2.2 = true := by
    cases c : (Lib.cut (s.data.toList.drop (i + 2)) [92, 125]).2.2 with
    | true => rfl
    | false =>
      unfold intervalT ivlT at hk
      rw [c] at hk
      exact absurd rfl hk
  obtain ⟨e1, e2⟩ := cut_more _ (92 :: 41 :: post) [92, 125] (by simp) hc
  have hd2 := hd (i + 2) hi
  rw [← hd2, show m + (i + 2) = m + i + 2 by omega] at e1 e2
  unfold intervalT at hk ⊢
  rw [e1, e2]
  rw [hc] at hk ⊢
  unfold ivlT at hk ⊢
  simp only [Bool.true_and] at hk ⊢
  split
  · rename_i c
    exact ⟨⟨rfl, rfl, rfl, rfl, rfl⟩, by show m + i + _ = m + (i + _); omega⟩
  · rename_i c
    rw [if_neg c] at hk
    exact absurd rfl hk

theorem escape_in {s s' : ByteArray} {m i k : Nat} (h : Inn s s' m) (hi : i < s.size) (hk : (escapeT s i k).kind ≠ 0) : TkR (escapeT s i k) (escapeT s' (m + i) k) ∧ (escapeT s' (m + i) k).to = m + (escapeT s i k).to := by
  have hz := h.size
  unfold escapeT at hk ⊢
  by_cases c : i + 1 = s.size
  · rw [if_pos c] at hk
    exact absurd rfl hk
  · rw [if_neg c] at hk ⊢
    rw [if_neg (by omega), show m + i + 1 = m + (i + 1) by omega, h.byte (by omega)]
    generalize (byteAt s (i + 1)).toNat = b at hk ⊢
    unfold escB at hk ⊢
    split
    · exact ⟨⟨rfl, rfl, rfl, rfl, rfl⟩, by show m + i + 2 = m + (i + 2); omega⟩
    · rename_i c1
      rw [if_neg c1] at hk
      split
      · exact ⟨⟨rfl, rfl, rfl, rfl, rfl⟩, by show m + i + 2 = m + (i + 2); omega⟩
      · rename_i c2
        rw [if_neg c2] at hk
        split
        · rename_i c3
          rw [if_pos c3] at hk
          exact interval_in h (by omega) hk
        · rename_i c3
          rw [if_neg c3] at hk
          split
          · rename_i c4
            rw [if_pos c4] at hk
            exact absurd rfl hk
          · split
            · exact ⟨⟨rfl, rfl, rfl, rfl, rfl⟩, by show m + i + 2 = m + (i + 2); omega⟩
            · split
              · exact ⟨⟨rfl, rfl, rfl, rfl, rfl⟩, by show m + i + 2 = m + (i + 2); omega⟩
              · rename_i c4 c5 c6
                rw [if_neg c4, if_neg c5, if_neg c6] at hk
                split
                · rename_i c7
                  rw [if_pos c7] at hk
                  exact absurd rfl hk
                · exact ⟨⟨rfl, rfl, rfl, rfl, rfl⟩, by show m + i + 2 = m + (i + 2); omega⟩

theorem shuts_in {s s' : ByteArray} {m j : Nat} (h : Inn s s' m) (hj : j ≤ s.size) : shuts s' (m + j) = shuts s j := by
  obtain ⟨post, hd⟩ := h.drop
  have hz := h.size
  have e1 : decide (m + j = s'.size) = false := decide_eq_false (by omega)
  unfold shuts
  rw [e1, extract_drop, extract_drop, hd j hj, Bool.false_or]
  by_cases c : j = s.size
  · have : s.data.toList.drop j = [] := List.drop_eq_nil_of_le (by rw [data_len]; omega)
    rw [this, decide_eq_true c]
    rfl
  · rw [decide_eq_false c, Bool.false_or]
    have hl : (s.data.toList.drop j).length = s.size - j := by rw [List.length_drop, data_len]
    match hm : s.data.toList.drop j, hl with
    | [], hl => simp at hl; omega
    | [x], _ => 
      show (92 == x && (41 == 92 && _)) = (92 == x && false)
      simp
    | x :: y :: r, _ => rfl

theorem bracket_in {s s' : ByteArray} {m i : Nat} (h : Inn s s' m) (hk : (bracketT s i).kind ≠ 0) : TkR (bracketT s i) (bracketT s' (m + i)) ∧ (bracketT s' (m + i)).to = m + (bracketT s i).to := by
  have hz := h.size
  have hp : ∀ (x : ByteArray) (j : Nat), parseX x (j : Int) = parseS x j := fun x j => by rw [parseX, if_pos (by omega), Int.toNat_natCast]
  unfold bracketT at hk ⊢
  rw [hp] at hk ⊢
  have hp' := hp s' (m + i)
  by_cases he : (parseS s i).e ≠ 0
  · rw [if_pos he] at hk
    exact absurd rfl hk
  · have he0 : (parseS s i).e = 0 := by omega
    obtain ⟨f1, f2, _, _⟩ := parse_form he0
    have hw := parse_win (s' := s') (i' := m + i) he0 ⟨by omega, by omega, fun j hj => by rw [Nat.add_assoc, h.byte (by omega)]⟩
    rw [if_neg he, hp', hw]
    exact ⟨⟨rfl, rfl, rfl, rfl, rfl⟩, by show m + i + ((parseS s i).next - i) = m + (parseS s i).next; omega⟩

theorem tok_in {s s' : ByteArray} {m i k : Nat} (h : Inn s s' m) (hi : i < s.size) (hk : (tokenT s i k).kind ≠ 0) : TkR (tokenT s i k) (tokenT s' (m + i) k) ∧ (tokenT s' (m + i) k).to = m + (tokenT s i k).to := by
  unfold tokenT at hk ⊢
  rw [h.byte hi, show m + i + 1 = m + (i + 1) by omega, shuts_in h (by omega)]
  split
  · rename_i c
    rw [if_pos c] at hk
    exact escape_in h hi hk
  · rename_i c
    rw [if_neg c] at hk
    split
    · rename_i c
      rw [if_pos c] at hk
      exact bracket_in h hk
    · split
      · exact ⟨⟨rfl, rfl, rfl, rfl, rfl⟩, rfl⟩
      · split
        · exact ⟨⟨rfl, rfl, rfl, rfl, rfl⟩, rfl⟩
        · split
          · exact ⟨⟨rfl, rfl, rfl, rfl, rfl⟩, rfl⟩
          · split
            · exact ⟨⟨rfl, rfl, rfl, rfl, rfl⟩, rfl⟩
            · exact ⟨⟨rfl, rfl, rfl, rfl, rfl⟩, rfl⟩
end Go.Proofs.YtemgfbidfdhanaaDoor

/- bre: what is kept while a text is read; the run within another. -/
namespace Go.Proofs.YtemgfbidfdhanaaDoor
open Go.RowKit

theorem run_inv (s : ByteArray) (I : Ps → Prop) (hI : ∀ (P : Ps) (i k : Nat), i < s.size → I P → (P.take (tokenT s i k)).1 = 0 → I (P.take (tokenT s i k)).2) : ∀ (f i k : Nat) (P Q : Ps), s.size - i ≤ f → I P → runA s i k P = .ok Q → I Q
  | 0, i, k, P, Q, hf, h, hr => by
    rw [runA_end s i k P (by omega)] at hr
    injection hr with hr
    exact hr ▸ h
  | f + 1, i, k, P, Q, hf, h, hr => by
    by_cases hi : i < s.size
    · by_cases h0 : (P.take (tokenT s i k)).1 = 0
      · have h1 := take_kind hi h0
        rw [runA_step hi h0] at hr
        exact run_inv s I hI f _ _ _ Q (by omega) (hI P i k hi h h0) hr
      · rw [runA_err hi h0] at hr
        cases hr
    · rw [runA_end s i k P (by omega)] at hr
      injection hr with hr
      exact hr ▸ h

/-- Where a run within fails and the run alone does not. -/
def OffRun (s : ByteArray) (d : Nat) (z : Int) (Q : Ps) (e : Int) : Prop := ∃ i k P, i < s.size ∧ (P.take (tokenT s i k)).1 = 0 ∧ runA s i k P = .ok Q ∧ Off d z P (tokenT s i k) e

theorem run_in {s s' : ByteArray} {m d : Nat} {z : Int} {B : List Lv} (h : Inn s s' m) : ∀ (f i k : Nat) (P P' Q : Ps), s.size - i ≤ f → i ≤ s.size → PsR d z B P P' → runA s i k P = .ok Q →
    (∃ e p, runA s' (m + i) k P' = .error (e, p) ∧ OffRun s d z Q e) ∨ ∃ k' Q', PsR d z B Q Q' ∧ runA s' (m + i) k P' = runA s' (m + s.size) k' Q'
  | 0, i, k, P, P', Q, hf, hle, hR, hr => by
    rw [runA_end s i k P (by omega)] at hr
    injection hr with hr
    subst hr
    exact .inr ⟨k, P', hR, by rw [show i = s.size by omega]⟩
  | f + 1, i, k, P, P', Q, hf, hle, hR, hr => by
    by_cases hi : i < s.size
    · by_cases h0 : (P.take (tokenT s i k)).1 = 0
      · have h1 := take_kind hi h0
        have hz := h.size
        obtain ⟨ht, hto⟩ := tok_in (k := k) h hi h1.1
        rcases take_step hR ht h1.1 (tokAt_token s i k hi).ok.kind h0 with ⟨g1, g2⟩ | g
        · rw [runA_step (show m + i < s'.size by omega) g1, hto, ht.1]
          rw [runA_step hi h0] at hr
          exact run_in h f _ _ _ _ Q (by omega) h1.2.2 g2 hr
        · have g0 : (P'.take (tokenT s' (m + i) k)).1 ≠ 0 := by
            rcases g with ⟨_, g⟩ | ⟨_, g, _⟩ | ⟨g, _⟩ <;> omega
          exact .inl ⟨_, _, runA_err (show m + i < s'.size by omega) g0, i, k, P, hi, h0, hr, g⟩
      · rw [runA_err hi h0] at hr
        cases hr
    · rw [runA_end s i k P (by omega)] at hr
      injection hr with hr
      subst hr
      exact .inr ⟨k, P', hR, by rw [show i = s.size by omega]⟩

/-- The outermost level. -/
def Bot (P : Ps) : Prop := ∃ l ls, P.outer ++ [P.top] = l :: ls ∧ l.grp = 0 ∧ l.before = 0

theorem bot_top {P Q : Ps} (h : Bot P) (ho : Q.outer = P.outer) (hg : Q.top.grp = P.top.grp) (hb : Q.top.before = P.top.before) : Bot Q := by
  obtain ⟨l0, ls, he, h1, h2⟩ := h
  unfold Bot
  rw [ho]
  cases hc : P.outer with
  | nil =>
    rw [hc] at he
    simp only [List.nil_append, List.cons.injEq] at he
    exact ⟨Q.top, [], rfl, by rw [hg, he.1]; exact h1, by rw [hb, he.1]; exact h2⟩
  | cons x xs =>
    rw [hc] at he
    simp only [List.cons_append, List.cons.injEq] at he
    exact ⟨x, xs ++ [Q.top], rfl, by rw [he.1]; exact h1, by rw [he.1]; exact h2⟩

theorem bot_take (P : Ps) (t : Tk) (h : Bot P) : Bot (P.take t).2 := by
  unfold Ps.take
  split
  · exact h
  · exact bot_top h rfl rfl rfl
  · exact bot_top h rfl rfl rfl
  · exact bot_top h rfl rfl rfl
  · split
    · exact h
    · obtain ⟨l, ls, he, h1, h2⟩ := h
      exact ⟨l, ls ++ [_], by show P.outer ++ [P.top] ++ [_] = _; rw [he]; rfl, h1, h2⟩
  · split
    · exact h
    · rename_i l hl
      have hs := snoc_of hl
      obtain ⟨l0, ls, he, h1, h2⟩ := h
      rw [hs] at he
      show Bot (P.close P.outer.dropLast l)
      refine bot_top (P := { P with outer := P.outer.dropLast, top := l }) ?_ rfl rfl rfl
      show ∃ l' ls', P.outer.dropLast ++ [l] = l' :: ls' ∧ _
      cases hc : P.outer.dropLast ++ [l] with
      | nil => simp at hc
      | cons x xs =>
        rw [hc] at he
        simp only [List.cons_append, List.cons.injEq] at he
        exact ⟨x, xs, rfl, by rw [he.1]; exact h1, by rw [he.1]; exact h2⟩
  · split
    · exact bot_top h rfl rfl rfl
    · exact h
  · split
    · exact h
    · exact bot_top h rfl rfl rfl

theorem bot_start : Bot Ps.start := ⟨_, [], rfl, rfl, rfl⟩

/-- A text that is read whole. -/
theorem parse_run {s : ByteArray} {ts : List Tr} (h : parseT s = .ok ts) : s.size ≤ 512 ∧ ∃ Q, runA s 0 4 Ps.start = .ok Q ∧ Q.outer = [] ∧ Q.top.parts = ts ∧ Q.top.grp = 0 ∧ Q.top.before = 0 := by
  have hs : s.size ≤ 512 := by
    unfold parseT at h
    split at h
    · cases h
    · omega
  refine ⟨hs, ?_⟩
  rw [parseT_run s hs] at h
  cases hr : runA s 0 4 Ps.start with
  | error x => rw [hr] at h; cases h
  | ok Q =>
    rw [hr] at h
    unfold finT at h
    by_cases c : Q.outer.length = 0
    · simp only [c, if_true] at h
      injection h with h
      have ho := List.eq_nil_of_length_eq_zero c
      obtain ⟨l, ls, he, h1, h2⟩ := run_inv s Bot (fun P i k _ hP _ => bot_take P _ hP) _ 0 4 _ Q (Nat.le_refl _) bot_start hr
      rw [ho] at he
      simp only [List.nil_append, List.cons.injEq] at he
      exact ⟨Q, rfl, ho, h, by rw [he.1]; exact h1, by rw [he.1]; exact h2⟩
    · simp only [c, if_false] at h
      cases h

theorem tok_open {s : ByteArray} {i : Nat} (k : Nat) (h0 : byteAt s i = 92) (h1 : byteAt s (i + 1) = 40) : tokenT s i k = ⟨4, i, i + 2, 0, noneP, 0, 0, 0⟩ := by
  have := byteAt_lt h1 (by omega)
  unfold tokenT escapeT escB
  rw [if_pos h0, if_neg (by omega), h1]
  rfl
theorem tok_close {s : ByteArray} {i : Nat} (k : Nat) (h0 : byteAt s i = 92) (h1 : byteAt s (i + 1) = 41) : tokenT s i k = ⟨5, i, i + 2, 0, noneP, 0, 0, 0⟩ := by
  have := byteAt_lt h1 (by omega)
  unfold tokenT escapeT escB
  rw [if_pos h0, if_neg (by omega), h1]
  rfl

/-- A text in brackets, within another. -/
theorem wrap_run {s s' : ByteArray} {m : Nat} (h : Inn s s' (m + 2)) (b0 : byteAt s' m = 92) (b1 : byteAt s' (m + 1) = 40) {ts : List Tr} (hp : parseT s = .ok ts) (P0 : Ps) (k0 : Nat) :
    (P0.groups = 9 ∧ runA s' m k0 P0 = .error (4, m)) ∨ ∃ Q, runA s 0 4 Ps.start = .ok Q ∧ Q.outer = [] ∧ Q.top.parts = ts ∧
      ((∃ e p, runA s' m k0 P0 = .error (e, p) ∧ OffRun s (P0.groups + 1) P0.size Q e) ∨ ∃ R, runA s' m k0 P0 = runA s' (m + 2 + s.size + 2) 5 R ∧ R.outer = P0.outer ∧ R.top = { P0.top with parts := P0.top.parts ++ [groupT (P0.groups + 1) (hgL (P0.groups + 1) ts)] } ∧ R.groups = Q.groups + (P0.groups + 1) ∧ R.size = Q.size + P0.size ∧ R.last = Q.size) := by
  have hz := h.size
  have ht := tok_open k0 b0 b1
  by_cases c : P0.groups = 9
  · have e : P0.take (tokenT s' m k0) = (4, P0) := by rw [ht]; simp only [Ps.take]; rw [if_pos c]
    exact .inl ⟨c, by rw [runA_err (by omega) (by rw [e]; show (4 : Int) ≠ 0; omega), e]⟩
  · have e : P0.take (tokenT s' m k0) = (0, P0.opened m) := by rw [ht]; simp only [Ps.take]; rw [if_neg c]
    obtain ⟨_, Q, hr, ho, hts, hg, hb⟩ := parse_run hp
    refine .inr ⟨Q, hr, ho, hts, ?_⟩
    rw [runA_step (by omega) (by rw [e]), e, ht]
    show (∃ e p, runA s' (m + 2) 4 (P0.opened m) = _ ∧ _) ∨ ∃ R, runA s' (m + 2) 4 (P0.opened m) = _ ∧ _
    have hR : PsR (P0.groups + 1) P0.size (P0.outer ++ [P0.top]) Ps.start (P0.opened m) :=
      ⟨⟨[], by simp [Ps.opened], .nil⟩, ⟨by simp [Ps.opened, Ps.start], by simp [Ps.opened, Ps.start], by simp [Ps.opened, Ps.start, hgL]⟩, by simp [Ps.opened, Ps.start], by simp [Ps.opened, Ps.start], fun x => absurd rfl x⟩
    rcases run_in h _ 0 4 _ _ Q (Nat.le_refl _) (Nat.zero_le _) hR hr with g | ⟨k', Q', g1, g2⟩
    · exact .inl g
    · right
      obtain ⟨e0, e1⟩ := h.end0
      have ht2 := tok_close k' e0 e1
      obtain ⟨os, go, gr⟩ := g1.outer
      have hos : os = [] := by
        rcases gr.inv with ⟨_, x⟩ | ⟨ls, l, _, _, x, _⟩
        · exact x
        · rw [ho] at x; simp at x
      rw [hos, List.append_nil] at go
      have e2 : Q'.take (tokenT s' (m + 2 + s.size) k') = (0, Q'.close P0.outer P0.top) := by
        rw [ht2]
        simp only [Ps.take, go, List.getLast?_concat, List.dropLast_concat]
      refine ⟨Q'.close P0.outer P0.top, ?_, rfl, ?_, g1.groups, ?_, ?_⟩
      · show runA s' (m + 2 + 0) 4 (P0.opened m) = _
        rw [g2, runA_step (by omega) (by rw [e2]), e2, ht2]
      · show { P0.top with parts := P0.top.parts ++ [groupT Q'.top.grp Q'.top.parts] } = _
        rw [g1.top.grp, g1.top.parts, hg, hts, Nat.zero_add]
      · show Q'.size + 0 = _
        rw [g1.size]
        omega
      · show Q'.size - Q'.top.before = _
        rw [g1.size, g1.top.before, hb]
        omega
end Go.Proofs.YtemgfbidfdhanaaDoor
