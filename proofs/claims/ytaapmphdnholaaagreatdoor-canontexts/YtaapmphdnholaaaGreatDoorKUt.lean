/- bre: a parser within another: the same tokens, groups numbered higher. -/
import Derived.Test.YtaapmphdnholaaaGreatDoorKLoc
import Derived.Test.YtaapmphdnholaaaGreatDoorKRm
namespace Go.Proofs.YtaapmphdnholaaaGreatDoor
open Go.RowKit
mutual
def hgT (d : Nat) : Tr → Tr
 | .mk k q lo hi g kids => .mk k q lo hi (if k = 4 then g + d else g) (hgL d kids)
def hgL (d : Nat) : List Tr → List Tr
 | [] => []
 | t :: ts => hgT d t :: hgL d ts
end
theorem xr6 (d : Nat) : ∀ (ts us : List Tr), hgL d (ts ++ us) = hgL d ts ++ hgL d us
 | [], us => by simp [hgL]
 | t :: ts, us => by simp only [List.cons_append, hgL, xr6 d ts us]
theorem hgL_one (d : Nat) (t : Tr) : hgL d [t] = [hgT d t] := by simp [hgL]
structure LvR (d : Nat) (z : Int) (l l' : Lv) : Prop where
 grp : l'.grp = l.grp + d
 before : l'.before = l.before + z
 parts : l'.parts = hgL d l.parts
inductive OutR (d : Nat) (z : Int) : List Lv → List Lv → Prop where
 | nil : OutR d z [] []
 | snoc {ls ls' : List Lv} {l l' : Lv} (h : OutR d z ls ls') (hl : LvR d z l l') : OutR d z (ls ++ [l]) (ls' ++ [l'])
structure PsR (d : Nat) (z : Int) (B : List Lv) (P P' : Ps) : Prop where
 outer : ∃ os, P'.outer = B ++ os ∧ OutR d z P.outer os
 top : LvR d z P.top P'.top
 groups : P'.groups = P.groups + d
 size : P'.size = P.size + z
 last : P.top.parts ≠ [] → P'.last = P.last
theorem PsR.add {d : Nat} {z : Int} {B : List Lv} {P P' : Ps} (h : PsR d z B P P') (t : Tr) (p : Int) : PsR d z B (P.add t p) (P'.add (hgT d t) p) :=
 ⟨h.outer, ⟨h.top.grp, h.top.before, by show P'.top.parts ++ [hgT d t] = hgL d (P.top.parts ++ [t]); rw [h.top.parts, xr6, hgL_one]⟩, h.groups, by show P'.size + p = P.size + p + z; rw [h.size]; omega, fun _ => rfl⟩
open Go.RowKit
structure Inn (s s' : ByteArray) (m : Nat) : Prop where
 list : ∃ pre post, s'.data.toList = pre ++ (s.data.toList ++ (92 :: 41 :: post)) ∧ pre.length = m
theorem xc6 (s : ByteArray) : s.data.toList.length = s.size := by rw [Array.length_toList]; rfl
theorem xc1 (s : ByteArray) (i : Nat) : xac s i = match s.data.toList[i]? with | some b => (b.toNat : Int) | none => -1 := by
 by_cases h : i < s.size
 ·have h2 : s.data.toList[i]? = some s[i] := by
   rw [Array.getElem?_toList, Array.getElem?_eq_getElem (show i < s.data.size from h)]
   rfl
  rw [xah h, h2]
 ·have h2 : s.data.toList[i]? = none := List.getElem?_eq_none (by rw [xc6]; omega)
  rw [xbc (by omega), h2]
theorem Inn.drop {s s' : ByteArray} {m : Nat} (h : Inn s s' m) : ∃ post, ∀ i, i ≤ s.size → s'.data.toList.drop (m + i) = s.data.toList.drop i ++ (92 :: 41 :: post) := by
 obtain ⟨pre, post, he, hl⟩ := h.list
 refine ⟨post, fun i hi => ?_⟩
 rw [he, ← hl, List.drop_append, List.drop_eq_nil_of_le (by omega), List.nil_append, Nat.add_sub_cancel_left, List.drop_append_of_le_length (by rw [xc6]; exact hi)]
theorem Inn.byte {s s' : ByteArray} {m : Nat} (h : Inn s s' m) {i : Nat} (hi : i < s.size) : xac s' (m + i) = xac s i := by
 obtain ⟨pre, post, he, hl⟩ := h.list
 rw [xc1, xc1, he, ← hl, List.getElem?_append_right (by omega), Nat.add_sub_cancel_left, List.getElem?_append_left (by rw [xc6]; exact hi)]
theorem Inn.size {s s' : ByteArray} {m : Nat} (h : Inn s s' m) : m + s.size + 2 ≤ s'.size := by
 obtain ⟨pre, post, he, hl⟩ := h.list
 have := congrArg List.length he
 rw [xc6] at this
 simp only [List.length_append, List.length_cons, xc6, hl] at this
 omega
open Go.RowKit
theorem xr7 (s : ByteArray) (I : Ps → Prop) (hI : ∀ (P : Ps) (i k : Nat), i < s.size → I P → (P.take (xaf s i k)).1 = 0 → I (P.take (xaf s i k)).2) : ∀ (f i k : Nat) (P Q : Ps), s.size - i ≤ f → I P → runA s i k P = .ok Q → I Q
 | 0, i, k, P, Q, hf, h, hr => by
  rw [xb7 s i k P (by omega)] at hr
  injection hr with hr
  exact hr ▸ h
 | f + 1, i, k, P, Q, hf, h, hr => by
  by_cases hi : i < s.size
  ·by_cases h0 : (P.take (xaf s i k)).1 = 0
   ·have h1 := xdy hi h0
    rw [xcv hi h0] at hr
    exact xr7 s I hI f _ _ _ Q (by omega) (hI P i k hi h h0) hr
   ·rw [xe6 hi h0] at hr
    cases hr
  ·rw [xb7 s i k P (by omega)] at hr
   injection hr with hr
   exact hr ▸ h
def Bot (P : Ps) : Prop := ∃ l ls, P.outer ++ [P.top] = l :: ls ∧ l.grp = 0 ∧ l.before = 0
theorem xgd {P Q : Ps} (h : Bot P) (ho : Q.outer = P.outer) (hg : Q.top.grp = P.top.grp) (hb : Q.top.before = P.top.before) : Bot Q := by
 obtain ⟨l0, ls, he, h1, h2⟩ := h
 unfold Bot
 rw [ho]
 cases hc : P.outer with
 | nil =>
  rw [hc] at he
  simp only [List.nil_append, List.cons.injEq] at he
  exact ⟨Q.top, [], rfl, by rw [hg, he.1]; exact h1, by rw [hb, he.1]; exact h2⟩
 | cons x xs =>
  rw [hc] at he
  simp only [List.cons_append, List.cons.injEq] at he
  exact ⟨x, xs ++ [Q.top], rfl, by rw [he.1]; exact h1, by rw [he.1]; exact h2⟩
theorem bot_take (P : Ps) (t : Tk) (h : Bot P) : Bot (P.take t).2 := by
 unfold Ps.take
 split
 ·exact h
 ·exact xgd h rfl rfl rfl
 ·exact xgd h rfl rfl rfl
 ·exact xgd h rfl rfl rfl
 ·split
  ·exact h
  ·obtain ⟨l, ls, he, h1, h2⟩ := h
   exact ⟨l, ls ++ [_], by show P.outer ++ [P.top] ++ [_] = _; rw [he]; rfl, h1, h2⟩
 ·split
  ·exact h
  ·rename_i l hl
   have hs := xcd hl
   obtain ⟨l0, ls, he, h1, h2⟩ := h
   rw [hs] at he
   show Bot (P.close P.outer.dropLast l)
   refine xgd (P := { P with outer := P.outer.dropLast, top := l }) ?_ rfl rfl rfl
   show ∃ l' ls', P.outer.dropLast ++ [l] = l' :: ls' ∧ _
   cases hc : P.outer.dropLast ++ [l] with
   | nil => simp at hc
   | cons x xs =>
    rw [hc] at he
    simp only [List.cons_append, List.cons.injEq] at he
    exact ⟨x, xs, rfl, by rw [he.1]; exact h1, by rw [he.1]; exact h2⟩
 ·split
  ·exact xgd h rfl rfl rfl
  ·exact h
 ·split
  ·exact h
  ·exact xgd h rfl rfl rfl
theorem xr8 : Bot Ps.start := ⟨_, [], rfl, rfl, rfl⟩
theorem xh2 {s : ByteArray} {ts : List Tr} (h : xav s = .ok ts) : s.size ≤ 512 ∧ ∃ Q, runA s 0 4 Ps.start = .ok Q ∧ Q.outer = [] ∧ Q.top.parts = ts ∧ Q.top.grp = 0 ∧ Q.top.before = 0 := by
 have hs : s.size ≤ 512 := by
  unfold xav at h
  split at h
  ·cases h
  ·omega
 refine ⟨hs, ?_⟩
 rw [xe5 s hs] at h
 cases hr : runA s 0 4 Ps.start with
 | error x => rw [hr] at h; cases h
 | ok Q =>
  rw [hr] at h
  unfold finT at h
  by_cases c : Q.outer.length = 0
  ·simp only [c, if_true] at h
   injection h with h
   have ho := List.eq_nil_of_length_eq_zero c
   obtain ⟨l, ls, he, h1, h2⟩ := xr7 s Bot (fun P i k _ hP _ => bot_take P _ hP) _ 0 4 _ Q (Nat.le_refl _) xr8 hr
   rw [ho] at he
   simp only [List.nil_append, List.cons.injEq] at he
   exact ⟨Q, rfl, ho, h, by rw [he.1]; exact h1, by rw [he.1]; exact h2⟩
  ·simp only [c, if_false] at h
   cases h
end Go.Proofs.YtaapmphdnholaaaGreatDoor
