/- canon: trees and parsers up to what can't be told apart: sets beyond 256, places. -/
import Derived.Test.YtaapmphdnholaaaGreatDoorKTk
import Derived.Test.YtaapmphdnholaaaGreatDoorKIter
import Derived.Test.YtaapmphdnholaaaGreatDoorKLoc
import Derived.Test.YtaapmphdnholaaaGreatDoorKUx
namespace Go.Proofs.YtaapmphdnholaaaGreatDoor
open Go.RowKit
def nfq (q : Nat → Bool) : Nat → Bool := fun j => q j && decide (j < 256)
mutual
def nfT : Tr → Tr
 | .mk k q lo hi g kids => .mk k (nfq q) lo hi g (nfL kids)
def nfL : List Tr → List Tr
 | [] => []
 | t :: ts => nfT t :: nfL ts
end
theorem xge : ∀ (ts us : List Tr), nfL (ts ++ us) = nfL ts ++ nfL us
 | [], us => by simp [nfL]
 | t :: ts, us => by simp only [List.cons_append, nfL, xge ts us]
theorem xh3 (t : Tr) : nfL [t] = [nfT t] := by simp [nfL]
theorem xe7 : nfq xad = xad := by
 funext j
 simp [nfq, xad]
def nfLv (l : Lv) : Lv := ⟨0, l.grp, l.before, nfL l.parts⟩
def nfP (P : Ps) : Ps := ⟨P.outer.map nfLv, nfLv P.top, P.groups, P.shut, P.size, P.last⟩
def nfK (t : Tk) : Tk := ⟨t.kind, 0, 0, if t.kind = 0 then t.e else 0, if t.kind = 1 then nfq t.q else xad, if t.kind = 6 then t.grp else 0, if t.kind = 7 then t.lo else 0, if t.kind = 7 then t.hi else 0⟩
theorem nf_byte (q : Nat → Bool) : nfT (xbw q) = xbw (nfq q) := by simp [xbw, nfT, nfL]
theorem nf_bol : nfT bolT = bolT := by simp [bolT, nfT, nfL, xe7]
theorem nf_eol : nfT eolT = eolT := by simp [eolT, nfT, nfL, xe7]
theorem xr9 (g : Nat) : nfT (xd5 g) = xd5 g := by simp [xd5, nfT, nfL, xe7]
theorem nf_cat (ts : List Tr) : nfT (catT ts) = catT (nfL ts) := by simp [catT, nfT, xe7]
theorem nf_group (k : Nat) (ts : List Tr) : nfT (xbj k ts) = xbj k (nfL ts) := by simp [xbj, nfT, nfL, nf_cat, xe7]
theorem nf_rep (lo hi : Int) (t : Tr) : nfT (repT lo hi t) = repT lo hi (nfT t) := by simp [repT, nfT, nfL, xe7]
theorem xoo (P : Ps) (t : Tr) (p : Int) : nfP (P.add t p) = (nfP P).add (nfT t) p := by
 simp only [nfP, Ps.add, nfLv, xge, xh3]
theorem last_nf (ts : List Tr) : (nfL ts).getLast? = ts.getLast?.map nfT := by
 cases h : ts.getLast? with
 | none => rw [List.getLast?_eq_none_iff.1 h]; simp [nfL]
 | some x =>
  rw [xcd h, xge, xh3, List.getLast?_concat]
  rfl
theorem drop_nf (ts : List Tr) : (nfL ts).dropLast = nfL ts.dropLast := by
 cases h : ts.getLast? with
 | none => rw [List.getLast?_eq_none_iff.1 h]; simp [nfL]
 | some x =>
  conv => lhs; rw [xcd h]
  rw [xge, xh3, List.dropLast_concat]
theorem xf2 (X : Ps) : (nfP X).grown = (X.grown.1, nfP X.grown.2) := rfl
theorem xsa (P : Ps) (t : Tk) (hk : t.kind ≤ 7) : (nfP P).take (nfK t) = ((P.take t).1, nfP (P.take t).2) := by
 have hkk : (nfK t).kind = t.kind := rfl
 rcases (show t.kind = 0 ∨ t.kind = 1 ∨ t.kind = 2 ∨ t.kind = 3 ∨ t.kind = 4 ∨ t.kind = 5 ∨ t.kind = 6 ∨ t.kind = 7 by omega) with c | c | c | c | c | c | c | c
 ·simp only [Ps.take, hkk, c, show (nfK t).e = t.e by simp [nfK, c]]
 ·have e : (nfP P).take (nfK t) = ((nfP P).add (xbw (nfq t.q)) 1).grown := by simp only [Ps.take, hkk, c, show (nfK t).q = nfq t.q by simp [nfK, c]]
  have e0 : P.take t = (P.add (xbw t.q) 1).grown := by simp only [Ps.take, c]
  rw [e, e0, ← nf_byte, ← xoo, xf2]
 ·have e : (nfP P).take (nfK t) = ((nfP P).add bolT 0).grown := by simp only [Ps.take, hkk, c]
  have e0 : P.take t = (P.add bolT 0).grown := by simp only [Ps.take, c]
  rw [e, e0, ← nf_bol, ← xoo, xf2, nf_bol]
 ·have e : (nfP P).take (nfK t) = ((nfP P).add eolT 0).grown := by simp only [Ps.take, hkk, c]
  have e0 : P.take t = (P.add eolT 0).grown := by simp only [Ps.take, c]
  rw [e, e0, ← nf_eol, ← xoo, xf2, nf_eol]
 ·have e : (nfP P).take (nfK t) = if P.groups = 9 then (4, nfP P) else (0, (nfP P).opened 0) := by simp only [Ps.take, hkk, c]; rfl
  have e0 : P.take t = if P.groups = 9 then (4, P) else (0, P.opened t.fr) := by simp only [Ps.take, c]
  rw [e, e0]
  by_cases g : P.groups = 9
  ·rw [if_pos g, if_pos g]
  ·rw [if_neg g, if_neg g]
   simp only [nfP, Ps.opened, List.map_append, List.map_cons, List.map_nil, nfLv, nfL]
 ·have e : (nfP P).take (nfK t) = match (P.outer.map nfLv).getLast? with | none => (10, nfP P) | some l => (0, (nfP P).close (P.outer.map nfLv).dropLast l) := by simp only [Ps.take, hkk, c]; rfl
  have e0 : P.take t = match P.outer.getLast? with | none => (10, P) | some l => (0, P.close P.outer.dropLast l) := by simp only [Ps.take, c]; rfl
  rw [e, e0, List.getLast?_map, ← List.map_dropLast]
  cases h : P.outer.getLast? with
  | none => rfl
  | some l => simp only [Option.map_some, nfP, Ps.close, Ps.pop, Ps.add, nfLv, xge, xh3, nf_group]; rfl
 ·have e : (nfP P).take (nfK t) = if P.shut t.grp then ((nfP P).add (xd5 t.grp) 1).grown else (11, nfP P) := by simp only [Ps.take, hkk, c, show (nfK t).grp = t.grp by simp [nfK, c]]; rfl
  have e0 : P.take t = if P.shut t.grp then (P.add (xd5 t.grp) 1).grown else (11, P) := by simp only [Ps.take, c]
  rw [e, e0]
  by_cases x : P.shut t.grp = true
  ·rw [if_pos x, if_pos x, ← xr9, ← xoo, xf2, xr9]
  ·rw [if_neg x, if_neg x]
 ·have e : (nfP P).take (nfK t) = match (nfL P.top.parts).getLast? with | none => (0, nfP P) | some x => ((nfP P).rep (nfL P.top.parts).dropLast x t.lo t.hi).grown := by simp only [Ps.take, hkk, c, show (nfK t).lo = t.lo by simp [nfK, c], show (nfK t).hi = t.hi by simp [nfK, c]]; rfl
  have e0 : P.take t = match P.top.parts.getLast? with | none => (0, P) | some x => (P.rep P.top.parts.dropLast x t.lo t.hi).grown := by simp only [Ps.take, c]; rfl
  rw [e, e0, last_nf, drop_nf]
  cases h : P.top.parts.getLast? with
  | none => rfl
  | some x =>
   simp only [Option.map_some]
   have e1 : (nfP P).rep (nfL P.top.parts.dropLast) (nfT x) t.lo t.hi = nfP (P.rep P.top.parts.dropLast x t.lo t.hi) := by
    simp only [nfP, Ps.rep, nfLv, xge, xh3, nf_rep]
   rw [e1, xf2]
theorem xsb {P P' : Ps} {t t' : Tk} (hP : nfP P' = nfP P) (ht : nfK t' = nfK t) (hk : t.kind ≤ 7) : (P'.take t').1 = (P.take t).1 ∧ nfP (P'.take t').2 = nfP (P.take t).2 := by
 have hkk : t'.kind = t.kind := by have := congrArg Tk.kind ht; exact this
 have h1 := xsa P t hk
 have h2 := xsa P' t' (by omega)
 rw [hP, ht, h1] at h2
 injection h2 with a b
 exact ⟨a.symm, b.symm⟩
theorem xsc (p : Nat → Bool) (k : Nat) : ∀ x ∈ mem p k, x < k := by
 intro x hx
 exact List.mem_range.1 (List.mem_filter.1 hx).1
structure Ck where
 kind : Nat
 x : Nat
 y : Nat
def ckT (c : Ck) : List Nat := if c.kind = 0 then [91, 46, c.x, 46, 93] else if c.kind = 1 then [c.x] else [c.x, 45, c.y]
def ckP (c : Ck) (n : Nat) : Bool := if c.kind ≤ 1 then n == c.x else decide (c.x ≤ n ∧ n ≤ c.y)
def ckOk (c : Ck) : Prop := c.x < 256 ∧ c.y < 256 ∧ (c.kind = 0 ∨ xfa c.x = false) ∧ (c.kind ≤ 1 ∨ (xfa c.y = false ∧ c.x ≤ c.y))
def flat (cs : List Ck) : List Nat := cs.flatMap ckT
theorem xeh (a b : List Ck) : flat (a ++ b) = flat a ++ flat b := by simp [flat]
theorem xf3 (c : Ck) (cs : List Ck) : flat (c :: cs) = ckT c ++ flat cs := by simp [flat]
theorem xop : flat [] = [] := rfl
def xqc (L : List Nat) (p : List Nat × List Nat) : Prop :=
 ∃ cs, p.1 = 91 :: flat cs ∧ (∀ c ∈ cs, ckOk c) ∧ (∃ h, p.2 = (List.range p.2.length).map (h + ·)) ∧ (∀ x ∈ p.2, x < 256 ∧ xfa x = false) ∧ ∀ n, n ∈ L ↔ ((∃ c ∈ cs, ckP c n = true) ∨ n ∈ p.2)
theorem xgf {L : List Nat} {p : List Nat × List Nat} (h : xqc L p) : ∃ cs, flush p = 91 :: flat cs ∧ (∀ c ∈ cs, ckOk c) ∧ ∀ n, n ∈ L ↔ ∃ c ∈ cs, ckP c n = true := by
 obtain ⟨o, r⟩ := p
 obtain ⟨cs, h1, h2, ⟨st, h3⟩, h4, h5⟩ := h
 simp only [] at h1 h3 h4 h5
 unfold flush
 simp only []
 by_cases hl : r.length < 3
 ·rw [if_pos hl]
  match r, hl with
  | [], _ => exact ⟨cs, by simp [h1], h2, fun n => by rw [h5]; simp⟩
  | [a], _ =>
   have ha := h4 a (by simp)
   refine ⟨cs ++ [⟨1, a, 0⟩], ?_, ?_, fun n => ?_⟩
   ·rw [h1, xeh]; simp [flat, ckT]
   ·intro c hc
    rcases List.mem_append.1 hc with hc | hc
    ·exact h2 c hc
    ·rw [List.mem_singleton] at hc; subst hc; exact ⟨ha.1, by simp, .inr ha.2, .inl (by simp)⟩
   ·rw [h5]
    simp [ckP, or_and_right, exists_or]
  | [a, b], _ =>
   have ha := h4 a (by simp)
   have hb := h4 b (by simp)
   refine ⟨cs ++ [⟨1, a, 0⟩, ⟨1, b, 0⟩], ?_, ?_, fun n => ?_⟩
   ·rw [h1, xeh]; simp [flat, ckT]
   ·intro c hc
    rcases List.mem_append.1 hc with hc | hc
    ·exact h2 c hc
    ·simp only [List.mem_cons, List.not_mem_nil, or_false] at hc
     rcases hc with rfl | rfl
     ·exact ⟨ha.1, by simp, .inr ha.2, .inl (by simp)⟩
     ·exact ⟨hb.1, by simp, .inr hb.2, .inl (by simp)⟩
   ·rw [h5]
    simp [ckP, or_and_right, exists_or]
 ·rw [if_neg hl]
  generalize hk : r.length = k at *
  have hx : r.headD 0 = st := by rw [h3]; cases k with | zero => omega | succ k => simp [List.range_succ_eq_map]
  have hy : r.getLastD 0 = st + (k - 1) := by
   rw [h3]; cases k with | zero => omega | succ k => simp [List.range_succ]
  have mx : st ∈ r := by rw [h3]; simp; omega
  have my : st + (k - 1) ∈ r := by rw [h3]; simp; omega
  have hx' := h4 _ mx
  have hy' := h4 _ my
  refine ⟨cs ++ [⟨2, st, st + (k - 1)⟩], ?_, ?_, fun n => ?_⟩
  ·rw [h1, xeh, hx, hy]; simp [flat, ckT]
  ·intro c hc
   rcases List.mem_append.1 hc with hc | hc
   ·exact h2 c hc
   ·rw [List.mem_singleton] at hc; subst hc; exact ⟨hx'.1, hy'.1, .inr hx'.2, .inr ⟨hy'.2, by simp⟩⟩
  ·rw [h5]
   have hn : n ∈ r ↔ st ≤ n ∧ n ≤ st + (k - 1) := by
    rw [h3]; simp
    constructor
    ·rintro ⟨a, ha, rfl⟩; omega
    ·intro hh; exact ⟨n - st, by omega, by omega⟩
   rw [hn]
   simp [ckP, or_and_right, exists_or]
theorem xqd {L : List Nat} {p : List Nat × List Nat} (h : xqc L p) (b : Nat) (hb : b < 256) : xqc (L ++ [b]) (tstep p b) := by
 unfold tstep
 by_cases hs : xfa b = true
 ·rw [if_pos hs]
  obtain ⟨cs, f1, f2, f3⟩ := xgf h
  refine ⟨cs ++ [⟨0, b, 0⟩], ?_, ?_, ⟨0, by simp⟩, by simp, fun n => ?_⟩
  ·simp only []; rw [f1, xeh]; simp [flat, ckT]
  ·intro c hc
   rcases List.mem_append.1 hc with hc | hc
   ·exact f2 c hc
   ·rw [List.mem_singleton] at hc; subst hc; exact ⟨hb, by simp, .inl rfl, .inl (by simp)⟩
  ·rw [List.mem_append, f3]
   simp [ckP, or_and_right, exists_or]
 ·rw [if_neg hs]
  have hs' : xfa b = false := by simpa using hs
  by_cases hr : p.2 = [] ∨ p.2.getLastD 0 + 1 = b
  ·rw [if_pos hr]
   obtain ⟨cs, h1, h2, ⟨st, h3⟩, h4, h5⟩ := h
   refine ⟨cs, h1, h2, ?_, ?_, fun n => ?_⟩
   ·simp only []
    rcases hr with hr | hr
    ·exact ⟨b, by rw [hr]; simp⟩
    ·by_cases h0 : p.2 = []
     ·exact ⟨b, by rw [h0]; simp⟩
     ·refine ⟨st, ?_⟩
      have hk : 0 < p.2.length := List.length_pos_iff.2 h0
      generalize p.2.length = k at *
      rw [h3] at hr ⊢
      cases k with
      | zero => omega
      | succ k =>
       simp [List.range_succ] at hr ⊢
       omega
   ·intro x hx
    simp only [List.mem_append, List.mem_singleton] at hx
    rcases hx with hx | rfl
    ·exact h4 x hx
    ·exact ⟨hb, hs'⟩
   ·rw [List.mem_append, h5]
    simp [or_assoc]
  ·rw [if_neg hr]
   obtain ⟨cs, f1, f2, f3⟩ := xgf h
   refine ⟨cs, f1, f2, ⟨b, by simp⟩, ?_, fun n => ?_⟩
   ·intro x hx
    simp only [List.mem_singleton] at hx
    subst hx
    exact ⟨hb, hs'⟩
   ·rw [List.mem_append, f3]
theorem xsd (L : List Nat) (hL : ∀ x ∈ L, x < 256) : xqc L (xfd L) := by
 suffices h : ∀ (M L : List Nat) (p : List Nat × List Nat), (∀ x ∈ M, x < 256) → xqc L p → xqc (L ++ M) (M.foldl tstep p) by
  have := h L [] ([91], []) hL ⟨[], rfl, by simp, ⟨0, rfl⟩, by simp, by simp⟩
  simpa [xfd] using this
 intro M
 induction M with
 | nil => intro L p _ h; simpa using h
 | cons b M ih =>
  intro L p hM h
  have := ih (L ++ [b]) (tstep p b) (fun x hx => hM x (by simp [hx])) (xqd h b (hM b (by simp)))
  simpa using this
theorem xnl (L : List Nat) (hL : ∀ x ∈ L, x < 256) : ∃ cs, flush (xfd L) = 91 :: flat cs ∧ (∀ c ∈ cs, ckOk c) ∧ ∀ n, n ∈ L ↔ ∃ c ∈ cs, ckP c n = true := xgf (xsd L hL)
/-! Reading. -/
theorem xnm (s : ByteArray) (k b n : Nat) (h : k < s.size) (hb : xac s k = (b : Int)) : ofP (s.extract k (k + 1)) n = (n == b) := by
 rw [xah h] at hb
 have hsz : (s.extract k (k + 1)).size = 1 := by rw [ByteArray.size_extract]; omega
 have h0 : (s.extract k (k + 1))[0]'(by omega) = s[k] := by rw [ByteArray.getElem_extract]; rfl
 have hl : (s.extract k (k + 1)).data.toList = [s[k]] := by
  refine List.ext_getElem hsz fun i h1 h2 => ?_
  simp at h2
  subst h2
  exact h0
 unfold ofP xd7
 rw [hsz, hl]
 simp only [List.take_succ_cons, List.take_zero, List.any_cons, List.any_nil, Bool.or_false]
 rw [Bool.eq_iff_iff, beq_iff_eq, beq_iff_eq]
 omega
theorem xkj {x : Nat} (h : xfa x = false) : x ≠ 93 ∧ x ≠ 94 ∧ x ≠ 45 ∧ x ≠ 91 := by
 unfold xfa at h
 simp only [Bool.or_eq_false_iff, beq_eq_false_iff_ne] at h
 exact ⟨h.1.1.1, h.1.1.2, h.1.2, h.2⟩
theorem xh4 (s : ByteArray) (k x : Nat) (hlt : k < s.size) (hb : xac s k = (x : Int)) (hx : xfa x = false) : xan s k = ⟨0, ofP (s.extract k (k + 1)), (x : Int), true, k + 1⟩ := by
 have hn := xkj hx
 rw [xan, if_pos hlt, if_neg, hb]
 unfold xb9
 rw [hb]
 have : ((x : Int) == 91) = false := by rw [beq_eq_false_iff_ne]; omega
 rw [this]
 simp
theorem xnn (s : ByteArray) (k : Nat) (h : ¬ xac s k = 45) : xbk s k = false := by
 unfold xbk
 have : (xac s k == 45) = false := by rw [beq_eq_false_iff_ne]; exact h
 rw [this]; rfl
theorem xno (s : ByteArray) (i : Nat) (c : Ck) (hok : ckOk c) (hb : ∀ (j b : Nat), (ckT c)[j]? = some b → xac s (i + j) = (b : Int)) (hn : ¬ xac s (i + (ckT c).length) = 45) (hlt : i + (ckT c).length < s.size) :
  ∃ q, xa2 s i = ⟨0, q, 0, false, i + (ckT c).length⟩ ∧ ∀ n, q n = ckP c n := by
 obtain ⟨kind, x, y⟩ := c
 obtain ⟨o1, o2, o3, o4⟩ := hok
 simp only [] at o1 o2 o3 o4
 unfold ckT at hb hn hlt ⊢
 unfold ckP
 simp only [] at hb hn hlt ⊢
 by_cases k0 : kind = 0
 ·subst k0
  simp only [if_true, List.length_cons, List.length_nil, Nat.zero_add, Nat.reduceAdd] at hb hn hlt ⊢
  have b0 := hb 0 91 rfl
  have b1 := hb 1 46 rfl
  have b2 := hb 2 x rfl
  have b3 := hb 3 46 rfl
  have b4 := hb 4 93 rfl
  rw [Nat.add_zero] at b0
  have hm : xb9 s i = true := by unfold xb9; rw [b0, b1]; rfl
  have hmk : mkAt s i = 46 := by unfold mkAt; rw [b1]; rfl
  have hc : xbm s (i + 3) (mkAt s i) = ((i + 3 : Nat) : Int) := by
   rw [hmk]
   refine xfg s (i + 3) (i + 3) 46 (Nat.le_refl _) ?_ (fun t h1 h2 => by omega)
   rw [b3, show i + 3 + 1 = i + 4 from rfl, b4]
   rfl
  have hi : xan s i = ⟨0, ofP (s.extract (i + 2) (i + 3)), (x : Int), true, i + 5⟩ := by
   rw [xan, if_pos (by omega), if_pos hm, xa1, hc, if_neg (by omega), if_neg (by rw [b1]; decide), if_pos (by omega), b2, b1]
   rfl
  refine ⟨ofP (s.extract (i + 2) (i + 3)), ?_, fun n => ?_⟩
  ·unfold xa2
   rw [hi]
   simp only []
   rw [if_neg (by simp), xnn s (i + 5) hn]
   simp
  ·rw [xnm s (i + 2) x n (by omega) b2]
   simp
 ·have ox : xfa x = false := o3.resolve_left k0
  by_cases k1 : kind = 1
  ·subst k1
   simp only [if_neg k0, if_true, List.length_cons, List.length_nil, Nat.zero_add] at hb hn hlt ⊢
   have b0 := hb 0 x rfl
   rw [Nat.add_zero] at b0
   have hi := xh4 s i x (by omega) b0 ox
   refine ⟨ofP (s.extract i (i + 1)), ?_, fun n => ?_⟩
   ·unfold xa2
    rw [hi]
    simp only []
    rw [if_neg (by simp), xnn s (i + 1) hn]
    simp
   ·rw [xnm s i x n (by omega) b0]
    simp
  ·obtain ⟨oy, oxy⟩ := o4.resolve_left (by omega)
   simp only [if_neg k0, if_neg k1, List.length_cons, List.length_nil, Nat.zero_add, Nat.reduceAdd] at hb hn hlt ⊢
   have b0 := hb 0 x rfl
   have b1 := hb 1 45 rfl
   have b2 := hb 2 y rfl
   rw [Nat.add_zero] at b0
   have hy := xkj oy
   have hi := xh4 s i x (by omega) b0 ox
   have hi2 := xh4 s (i + 2) y (by omega) b2 oy
   have hj : xbk s (i + 1) = true := by
    unfold xbk
    rw [b1, show i + 1 + 1 = i + 2 from rfl, b2]
    have : ((y : Int) == 93) = false := by rw [beq_eq_false_iff_ne]; omega
    rw [this]; rfl
   refine ⟨sP x y, ?_, fun n => ?_⟩
   ·unfold xa2
    rw [hi]
    simp only []
    rw [if_neg (by simp), if_pos hj]
    unfold xhl
    simp only []
    rw [show i + 1 + 1 = i + 2 from rfl, hi2]
    simp only []
    rw [if_neg (by omega), if_neg (by simp), if_neg (by simp), xnn s (i + 2 + 1) hn, if_neg (by simp; omega)]
    simp
   ·rw [if_neg (by omega)]
    rfl
theorem xe8 (c : Ck) (h : ckOk c) : ∃ b l, ckT c = b :: l ∧ b ≠ 45 ∧ b ≠ 93 ∧ b ≠ 94 := by
 obtain ⟨kind, x, y⟩ := c
 obtain ⟨o1, o2, o3, o4⟩ := h
 unfold ckT
 simp only [] at o3 ⊢
 by_cases k0 : kind = 0
 ·rw [if_pos k0]; exact ⟨_, _, rfl, by omega, by omega, by omega⟩
 ·have hx := xkj (o3.resolve_left k0)
  rw [if_neg k0]
  by_cases k1 : kind = 1
  ·rw [if_pos k1]; exact ⟨_, _, rfl, hx.2.2.1, hx.1, hx.2.1⟩
  ·rw [if_neg k1]; exact ⟨_, _, rfl, hx.2.2.1, hx.1, hx.2.1⟩
theorem xgg (s : ByteArray) : ∀ (cs : List Ck) (f : Nat) (first : Bool) (q : Nat → Bool) (i : Nat), (∀ c ∈ cs, ckOk c) → (∀ (j b : Nat), (flat cs)[j]? = some b → xac s (i + j) = (b : Int)) → xac s (i + (flat cs).length) = 93 → cs.length < f → (first = true → cs ≠ []) →
  ∃ q', xbi s f first q i = ⟨0, q', 0, false, i + (flat cs).length⟩ ∧ ∀ n, q' n = (q n || cs.any (ckP · n))
 | [], 0, _, _, _, _, _, _, hf, _ => by simp at hf
 | [], f + 1, first, q, i, _, _, hz, _, hne => by
  have : first = false := by
   cases first
   ·rfl
   ·exact absurd rfl (hne rfl)
  subst this
  rw [xop] at hz ⊢
  exact ⟨q, xcy s f q i hz, fun n => by simp⟩
 | c :: cs, 0, _, _, _, _, _, _, hf, _ => by simp at hf
 | c :: cs, f + 1, first, q, i, hok, hb, hz, hf, _ => by
  rw [xf3] at hb hz ⊢
  rw [List.length_append] at hz ⊢
  obtain ⟨b, l, hc, h45, h93, h94⟩ := xe8 c (hok c (by simp))
  have b0 : xac s i = (b : Int) := by
   have := hb 0 b (by rw [hc]; rfl)
   simpa using this
  have hb2 : ∀ (j b : Nat), (flat cs)[j]? = some b → xac s (i + (ckT c).length + j) = (b : Int) := fun j b h => by
   have := hb ((ckT c).length + j) b (by rw [List.getElem?_append_right (by omega)]; simpa using h)
   rw [← Nat.add_assoc] at this
   exact this
  have hnx : ¬ xac s (i + (ckT c).length) = 45 := by
   cases cs with
   | nil =>
    rw [xop, List.length_nil, Nat.add_zero] at hz
    rw [hz]; decide
   | cons c2 cs2 =>
    obtain ⟨b2, l2, hc2, h45', _, _⟩ := xe8 c2 (hok c2 (by simp))
    have := hb2 0 b2 (by rw [xf3, hc2]; rfl)
    rw [Nat.add_zero] at this
    rw [this]
    omega
  have hlt : i + (ckT c).length < s.size := by
   have := xa7 hz (by decide)
   omega
  obtain ⟨q1, he, hq1⟩ := xno s i c (hok c (by simp)) (fun j b h => hb j b (by rw [List.getElem?_append_left (by exact (List.getElem?_eq_some_iff.1 h).1)]; exact h)) hnx hlt
  have hne2 : ¬ (first = false ∧ xac s i = 93) := by
   rintro ⟨-, h⟩
   rw [b0] at h
   omega
  rw [xdp s f first q i hne2 (by rw [he]), he]
  simp only []
  rw [← Nat.add_assoc] at hz ⊢
  obtain ⟨q', h1, h2⟩ := xgg s cs f false (orP q q1) (i + (ckT c).length) (fun c h => hok c (by simp [h])) hb2 hz (by simpa using hf) (by simp)
  refine ⟨q', h1, fun n => ?_⟩
  rw [h2]
  simp [orP, hq1, Bool.or_assoc]
theorem xd3 (l : List Nat) (j b : Nat) (h : l[j]? = some b) (hb : b < 256) : xac (bstr l) j = (b : Int) := by
 have hj : j < l.length := (List.getElem?_eq_some_iff.1 h).1
 have e : l[j] = b := (List.getElem?_eq_some_iff.1 h).2
 have hs : j < (bstr l).size := by simpa [bstr, ByteArray.size] using hj
 rw [xah hs]
 have : (bstr l)[j] = UInt8.ofNat b := by
  show (bstr l).data[j] = _
  simp [bstr, e]
 rw [this]
 simp
 omega
theorem xi9 (l : List Nat) : (bstr l).size = l.length := by simp [bstr, ByteArray.size]
theorem xja (cs : List Ck) (hok : ∀ c ∈ cs, ckOk c) : ∀ b ∈ flat cs, b < 256 := by
 intro b hb
 unfold flat at hb
 obtain ⟨c, hc, hb⟩ := List.mem_flatMap.1 hb
 obtain ⟨o1, o2, -⟩ := hok c hc
 unfold ckT at hb
 split at hb
 ·simp at hb; omega
 ·split at hb
  ·simp at hb; omega
  ·simp at hb; omega
theorem xnp (cs : List Ck) (hok : ∀ c ∈ cs, ckOk c) (hne : cs ≠ []) : ∃ q, xbn (bstr (91 :: flat cs ++ [93])) 0 = ⟨0, q, 0, false, (91 :: flat cs ++ [93]).length⟩ ∧ ∀ n, q n = cs.any (ckP · n) := by
 have hfb := xja cs hok
 have hbt : ∀ (j b : Nat), (flat cs)[j]? = some b → xac (bstr (91 :: flat cs ++ [93])) (1 + j) = (b : Int) := fun j b h => by
  refine xd3 _ _ _ ?_ (hfb b (List.mem_of_getElem? h))
  rw [List.cons_append, Nat.add_comm, List.getElem?_cons_succ, List.getElem?_append_left (List.getElem?_eq_some_iff.1 h).1]
  exact h
 have hz : xac (bstr (91 :: flat cs ++ [93])) (1 + (flat cs).length) = 93 := by
  refine xd3 _ _ 93 ?_ (by decide)
  rw [List.cons_append, Nat.add_comm, List.getElem?_cons_succ, List.getElem?_append_right (Nat.le_refl _)]
  simp
 have h0 : xac (bstr (91 :: flat cs ++ [93])) 0 = 91 := xd3 _ _ 91 rfl (by decide)
 have h1 : ¬ xac (bstr (91 :: flat cs ++ [93])) (0 + 1) = 94 := by
  cases cs with
  | nil => exact absurd rfl hne
  | cons c cs =>
   obtain ⟨b, l, hc, _, _, h94⟩ := xe8 c (hok c (by simp))
   have := hbt 0 b (by rw [xf3, hc]; rfl)
   rw [Nat.zero_add]
   rw [Nat.add_zero] at this
   rw [this]
   omega
 have hcl : cs.length ≤ (flat cs).length := by
  clear hbt hz h0 h1 hfb hne
  induction cs with
  | nil => simp
  | cons c cs ih =>
   obtain ⟨b, l, hc, _⟩ := xe8 c (hok c (by simp))
   have := ih (fun c h => hok c (by simp [h]))
   rw [xf3, hc]
   simp
   omega
 obtain ⟨q, hl, hq⟩ := xgg (bstr (91 :: flat cs ++ [93])) cs ((bstr (91 :: flat cs ++ [93])).size + 2) true xad 1 hok hbt hz (by rw [xi9]; simp; omega) (fun _ => hne)
 refine ⟨q, ?_, fun n => by rw [hq]; simp [xad]⟩
 unfold xbn
 rw [if_pos h0, if_neg h1, Nat.zero_add, hl]
 simp
 omega
theorem xjb (p : Nat → Bool) : ∃ q, xbn (bstr (xde (mem p 256))) 0 = ⟨0, q, 0, false, (xde (mem p 256)).length⟩ ∧ Is q p := by
 unfold xde
 by_cases h : mem p 256 = []
 ·rw [if_pos h]
  have hz : xac (bstr [91, 94, 0, 45, 255, 93]) (2 + (flat [⟨2, 0, 255⟩]).length) = 93 := by decide
  have hok : ∀ c ∈ [(⟨2, 0, 255⟩ : Ck)], ckOk c := fun c hc => by
   rw [List.mem_singleton] at hc; subst hc
   exact ⟨by decide, by decide, .inr (by decide), .inr ⟨by decide, by decide⟩⟩
  have hbt : ∀ (j b : Nat), (flat [⟨2, 0, 255⟩])[j]? = some b → xac (bstr [91, 94, 0, 45, 255, 93]) (2 + j) = (b : Int) := fun j b h => by
   have hb : b < 256 := xja _ hok b (List.mem_of_getElem? h)
   refine xd3 _ _ _ ?_ hb
   rw [Nat.add_comm]
   show (flat [⟨2, 0, 255⟩] ++ [93])[j]? = some b
   rw [List.getElem?_append_left (List.getElem?_eq_some_iff.1 h).1]
   exact h
  obtain ⟨q, hl, hq⟩ := xgg (bstr [91, 94, 0, 45, 255, 93]) [⟨2, 0, 255⟩] ((bstr [91, 94, 0, 45, 255, 93]).size + 2) true xad 2 hok hbt hz (by decide) (by simp)
  refine ⟨notP q, ?_, fun n hn => ?_⟩
  ·unfold xbn
   rw [if_pos (by decide), if_pos (by decide), Nat.zero_add, hl]
   simp [flat, ckT]
  ·have hp : p n = false := by
    unfold mem at h
    rw [List.filter_eq_nil_iff] at h
    simpa using h n (List.mem_range.2 hn)
   rw [hp]
   simp [notP, hq, ckP]
   omega
 ·rw [if_neg h]
  obtain ⟨cs, h1, h2, h3⟩ := xnl (mem p 256) (xsc p 256)
  have hne : cs ≠ [] := by
   rintro rfl
   obtain ⟨x, hx⟩ := List.exists_mem_of_ne_nil _ h
   simpa using (h3 x).1 hx
  obtain ⟨q, hp, hq⟩ := xnp cs h2 hne
  rw [h1]
  refine ⟨q, hp, fun n hn => ?_⟩
  rw [hq, Bool.eq_iff_iff, List.any_eq_true, ← h3]
  unfold mem
  simp [hn]
theorem xh5 (p : Nat → Bool) : 3 ≤ (xde (mem p 256)).length ∧ (xde (mem p 256)).length ≤ 1300 := by
 have h1 := xpx (mem p 256)
 have h2 := xoc p 256
 have h3 := xeb (xfd (mem p 256))
 obtain ⟨q, h4, -⟩ := xjb p
 have h5 := xga (s := bstr (xde (mem p 256))) (i := 0) (by rw [h4])
 rw [h4] at h5
 refine ⟨by simpa using h5.1, ?_⟩
 unfold xde
 split
 ·simp
 ·simp; omega
def digL (n : Nat) : List UInt8 := if n < 10 then [UInt8.ofNat (48 + n)] else if n < 100 then [UInt8.ofNat (48 + n / 10), UInt8.ofNat (48 + n % 10)] else [UInt8.ofNat (48 + n / 100), UInt8.ofNat (48 + n / 10 % 10), UInt8.ofNat (48 + n % 10)]
def repX (lo hi : Int) : List UInt8 :=
 if lo = 0 ∧ hi < 0 then [42] else if hi < 0 then 92 :: 123 :: (digL lo.toNat ++ [44] ++ [92, 125]) else if hi = lo then 92 :: 123 :: (digL lo.toNat ++ [92, 125]) else 92 :: 123 :: (digL lo.toNat ++ 44 :: digL hi.toNat ++ [92, 125])
section
variable (st : (Nat → Bool) → List UInt8)
mutual
def wrT : Tr → List UInt8
 | .mk k q lo hi g kids => if k = 1 then st q else if k = 2 then [94] else if k = 3 then [36] else if k = 6 then [92, UInt8.ofNat (48 + g)] else if k = 4 then [92, 40] ++ wrL kids ++ [92, 41] else if k = 5 then wrL kids ++ repX lo hi else wrL kids
def wrL : List Tr → List UInt8
 | [] => []
 | t :: ts => wrT t ++ wrL ts
end
theorem xet : ∀ (ts us : List Tr), wrL st (ts ++ us) = wrL st ts ++ wrL st us
 | [], us => by simp [wrL]
 | t :: ts, us => by simp only [List.cons_append, wrL, xet ts us, List.append_assoc]
theorem xfj (t : Tr) : wrL st [t] = wrT st t := by simp [wrL]
theorem wr_byte (q : Nat → Bool) : wrT st (xbw q) = st q := by simp [xbw, wrT]
theorem wr_bol : wrT st bolT = [94] := by simp [bolT, wrT]
theorem wr_eol : wrT st eolT = [36] := by simp [eolT, wrT]
theorem wr_back (g : Nat) : wrT st (xd5 g) = [92, UInt8.ofNat (48 + g)] := by simp [xd5, wrT]
theorem xse (ts : List Tr) : wrT st (catT ts) = wrL st ts := by simp [catT, wrT]
theorem wr_group (k : Nat) (ts : List Tr) : wrT st (xbj k ts) = [92, 40] ++ wrL st ts ++ [92, 41] := by simp [xbj, wrT, wrL, xse]
theorem wr_rep (lo hi : Int) (t : Tr) : wrT st (repT lo hi t) = wrT st t ++ repX lo hi := by simp [repT, wrT, wrL]
def tkX (t : Tk) : List UInt8 := if t.kind = 1 then st t.q else if t.kind = 2 then [94] else if t.kind = 3 then [36] else if t.kind = 4 then [92, 40] else if t.kind = 5 then [92, 41] else if t.kind = 6 then [92, UInt8.ofNat (48 + t.grp)] else repX t.lo t.hi
def txP (P : Ps) : List UInt8 := (P.outer.map fun l => wrL st l.parts ++ [92, 40]).flatten ++ wrL st P.top.parts
theorem xkk (P : Ps) (t : Tk) (hk : t.kind ≠ 0) (hk7 : t.kind ≤ 7) (h0 : (P.take t).1 = 0) (h7 : t.kind = 7 → P.top.parts ≠ []) : txP st (P.take t).2 = txP st P ++ tkX st t := by
 rcases (show t.kind = 1 ∨ t.kind = 2 ∨ t.kind = 3 ∨ t.kind = 4 ∨ t.kind = 5 ∨ t.kind = 6 ∨ t.kind = 7 by omega) with c | c | c | c | c | c | c
 ·have e0 : P.take t = (P.add (xbw t.q) 1).grown := by simp only [Ps.take, c]
  rw [e0]
  show (P.outer.map fun l => wrL st l.parts ++ [92, 40]).flatten ++ wrL st (P.top.parts ++ [xbw t.q]) = _
  rw [xet, xfj, wr_byte]
  simp [txP, tkX, c]
 ·have e0 : P.take t = (P.add bolT 0).grown := by simp only [Ps.take, c]
  rw [e0]
  show (P.outer.map fun l => wrL st l.parts ++ [92, 40]).flatten ++ wrL st (P.top.parts ++ [bolT]) = _
  rw [xet, xfj, wr_bol]
  simp [txP, tkX, c]
 ·have e0 : P.take t = (P.add eolT 0).grown := by simp only [Ps.take, c]
  rw [e0]
  show (P.outer.map fun l => wrL st l.parts ++ [92, 40]).flatten ++ wrL st (P.top.parts ++ [eolT]) = _
  rw [xet, xfj, wr_eol]
  simp [txP, tkX, c]
 ·have e0 : P.take t = if P.groups = 9 then (4, P) else (0, P.opened t.fr) := by simp only [Ps.take, c]
  have g9 : P.groups ≠ 9 := fun x => by rw [e0, if_pos x] at h0; cases h0
  rw [e0, if_neg g9]
  show ((P.outer ++ [P.top]).map fun l => wrL st l.parts ++ [92, 40]).flatten ++ wrL st [] = _
  simp [txP, tkX, c, wrL]
 ·have e0 : P.take t = match P.outer.getLast? with | none => (10, P) | some l => (0, P.close P.outer.dropLast l) := by simp only [Ps.take, c]; rfl
  cases h : P.outer.getLast? with
  | none => rw [e0, h] at h0; cases h0
  | some l =>
   rw [e0, h]
   show (P.outer.dropLast.map fun l => wrL st l.parts ++ [92, 40]).flatten ++ wrL st (l.parts ++ [xbj P.top.grp P.top.parts]) = (P.outer.map fun l => wrL st l.parts ++ [92, 40]).flatten ++ wrL st P.top.parts ++ _
   conv => rhs; rw [xcd h]
   rw [xet, xfj, wr_group]
   simp [tkX, c]
 ·have e0 : P.take t = if P.shut t.grp then (P.add (xd5 t.grp) 1).grown else (11, P) := by simp only [Ps.take, c]
  have x : P.shut t.grp = true := by
   by_cases x : P.shut t.grp = true
   ·exact x
   ·rw [e0, if_neg x] at h0; cases h0
  rw [e0, if_pos x]
  show (P.outer.map fun l => wrL st l.parts ++ [92, 40]).flatten ++ wrL st (P.top.parts ++ [xd5 t.grp]) = _
  rw [xet, xfj, wr_back]
  simp [txP, tkX, c]
 ·have e0 : P.take t = match P.top.parts.getLast? with | none => (0, P) | some x => (P.rep P.top.parts.dropLast x t.lo t.hi).grown := by simp only [Ps.take, c]; rfl
  cases h : P.top.parts.getLast? with
  | none => exact absurd (List.getLast?_eq_none_iff.1 h) (h7 c)
  | some x =>
   rw [e0, h]
   show (P.outer.map fun l => wrL st l.parts ++ [92, 40]).flatten ++ wrL st (P.top.parts.dropLast ++ [repT t.lo t.hi x]) = (P.outer.map fun l => wrL st l.parts ++ [92, 40]).flatten ++ wrL st P.top.parts ++ _
   conv => rhs; rw [xcd h]
   rw [xet, xfj, wr_rep, xet, xfj]
   simp [tkX, c]
end
theorem xsf : ∀ n : Fin 256, numS (digL n.val) = (n.val, true) := by decide +kernel
theorem xlx : ∀ n : Fin 256, (digL n.val).all (fun b => b != 92 && b != 44) = true := by decide +kernel
structure TkF (s : ByteArray) (i k : Nat) (t : Tk) : Prop where
 bol : t.kind = 2 → k = 4
 eol : t.kind = 3 → shuts s (i + 1) = true ∧ t.to = i + 1
 back : t.kind = 6 → 1 ≤ t.grp ∧ t.grp ≤ 9
 rep : t.kind = 7 → t.hi = -1 ∨ t.lo ≤ t.hi
theorem xjc {s : ByteArray} {i k : Nat} {t : Tk} (h : t.kind ≠ 2 ∧ t.kind ≠ 3 ∧ t.kind ≠ 6 ∧ t.kind ≠ 7) : TkF s i k t := ⟨fun e => absurd e h.1, fun e => absurd e h.2.1, fun e => absurd e h.2.2.1, fun e => absurd e h.2.2.2⟩
theorem xeu (s : ByteArray) (i k : Nat) (e : Int) (j : Nat) : TkF s i k (xax e j) := xjc ⟨by simp [xax], by simp [xax], by simp [xax], by simp [xax]⟩
theorem xkl (s : ByteArray) (i k b j l : Nat) : TkF s i k (xcn b j l) := xjc ⟨by simp [xcn], by simp [xcn], by simp [xcn], by simp [xcn]⟩
theorem tkF_ivl (s : ByteArray) (i k j : Nat) : TkF s i k (xa6 s j) := by
 unfold xa6 ivlT
 dsimp only
 split
 ·rename_i c
  refine ⟨(fun e => by cases e), (fun e => by cases e), (fun e => by cases e), fun _ => ?_⟩
  simp only [Bool.and_eq_true] at c
  obtain ⟨_, c⟩ := c
  unfold upper at c ⊢
  split
  ·rename_i d
   rw [if_pos d] at c
   split
   ·exact .inl rfl
   ·rename_i e
    rw [if_neg e] at c
    simp only [Bool.and_eq_true, decide_eq_true_eq] at c
    right
    exact Int.ofNat_le.2 c.2
  ·right
   exact Int.le_refl _
 ·exact xeu s i k 9 j
theorem xsg (s : ByteArray) (i k : Nat) : TkF s i k (xaf s i k) := by
 unfold xaf
 split
 ·unfold xbr
  split
  ·exact xeu _ _ _ _ _
  ·unfold escB
   split
   ·exact xjc ⟨by simp, by simp, by simp, by simp⟩
   split
   ·exact xjc ⟨by simp, by simp, by simp, by simp⟩
   split
   ·exact tkF_ivl s i k i
   split
   ·exact xeu _ _ _ _ _
   split
   ·exact xkl _ _ _ _ _ _
   split
   ·rename_i c
    refine ⟨(fun e => by cases e), (fun e => by cases e), fun _ => ?_, (fun e => by cases e)⟩
    have c2 := c.2
    unfold digB at c2
    simp only [Bool.and_eq_true, decide_eq_true_eq] at c2
    have c1 := c.1
    show 1 ≤ (xac s (i + 1)).toNat - 48 ∧ (xac s (i + 1)).toNat - 48 ≤ 9
    omega
   split
   ·exact xeu _ _ _ _ _
   ·exact xkl _ _ _ _ _ _
 split
 ·unfold xcr
  split
  ·exact xeu _ _ _ _ _
  ·exact xjc ⟨by simp, by simp, by simp, by simp⟩
 split
 ·exact xjc ⟨by simp, by simp, by simp, by simp⟩
 split
 ·rename_i c
  exact ⟨fun _ => c.2, (fun e => by cases e), (fun e => by cases e), (fun e => by cases e)⟩
 split
 ·rename_i c
  exact ⟨(fun e => by cases e), fun _ => ⟨c.2, rfl⟩, (fun e => by cases e), (fun e => by cases e)⟩
 split
 ·exact ⟨(fun e => by cases e), (fun e => by cases e), (fun e => by cases e), fun _ => .inl rfl⟩
 ·exact xkl _ _ _ _ _ _
theorem xa8 {T : ByteArray} {j : Nat} {l : List UInt8} (h : T.data.toList.drop j = l) (m : Nat) (b : UInt8) {n : Int} (hn : (b.toNat : Int) = n) (hb : l[m]? = some b) : xac T (j + m) = n := by
 rw [xc1, ← List.getElem?_drop, h, hb]
 exact hn
theorem rep_read {T : ByteArray} {j k : Nat} {lo hi : Int} {r : List UInt8} (hd : T.data.toList.drop j = repX lo hi ++ r) (hk : repB k = true) (hlo : 0 ≤ lo ∧ lo ≤ 255) (hhi : hi = -1 ∨ (lo ≤ hi ∧ hi ≤ 255)) :
  xaf T j k = ⟨7, j, j + (repX lo hi).length, 0, xad, 0, lo, hi⟩ := by
 obtain ⟨n, rfl⟩ : ∃ n : Nat, lo = n := ⟨lo.toNat, by omega⟩
 have hn : n < 256 := by omega
 have hnum := xsf ⟨n, hn⟩
 have hpl := xlx ⟨n, hn⟩
 simp only at hnum hpl
 have no92 : ∀ b ∈ digL n, b ≠ 92 := fun b hb => by have := List.all_eq_true.1 hpl b hb; simp at this; exact this.1
 have no44 : ∀ b ∈ digL n, b ≠ 44 := fun b hb => by have := List.all_eq_true.1 hpl b hb; simp at this; exact this.2
 have braces : ∀ (inner : List UInt8), T.data.toList.drop j = 92 :: 123 :: (inner ++ [92, 125]) ++ r → (∀ b ∈ inner, b ≠ 92) → xaf T j k = ivlT j inner true := fun inner h hi => by
  have b0 := xa8 h 0 92 (n := 92) rfl rfl
  have b1 := xa8 h 1 123 (n := 123) rfl rfl
  rw [Nat.add_zero] at b0
  have hl := xa7 b1 (by omega)
  unfold xaf xbr escB
  rw [if_pos b0, if_neg (by omega), b1]
  have e : T.data.toList.drop (j + 2) = inner ++ (92 :: [125] ++ r) := by
   rw [← List.drop_drop, h]
   simp
  have hc := xf9 inner r 92 [125] hi
  rw [← e] at hc
  have e2 : xa6 T j = ivlT j inner true := by
   unfold xa6
   rw [hc]
  simp only [Int.reduceToNat, hk]
  exact e2
 by_cases c1 : (n : Int) = 0 ∧ hi < 0
 ·have e : repX n hi = [42] := by unfold repX; rw [if_pos c1]
  rw [e] at hd ⊢
  have b0 := xa8 hd 0 42 (n := 42) rfl rfl
  rw [Nat.add_zero] at b0
  have h1 : hi = -1 := by omega
  have h2 : (n : Int) = 0 := c1.1
  unfold xaf
  rw [b0]
  simp only [h1, h2, hk]
  rfl
 ·by_cases c2 : hi < 0
  ·have h1 : hi = -1 := by omega
   have e : repX n hi = 92 :: 123 :: (digL n ++ [44] ++ [92, 125]) := by unfold repX; rw [if_neg c1, if_pos c2, Int.toNat_natCast]
   rw [e] at hd ⊢
   rw [braces _ hd (fun b hb => by rcases List.mem_append.1 hb with hb | hb; exact no92 b hb; simp at hb; subst hb; decide)]
   unfold ivlT
   have hc := xf9 (digL n) [] 44 [] no44
   simp only [List.append_nil] at hc
   rw [show digL n ++ [44] = digL n ++ [44] from rfl, hc]
   simp only [upper, hnum, List.isEmpty_nil, if_true, Bool.and_self, h1]
   simp only [List.length_append, List.length_cons, List.length_nil]
  ·by_cases c3 : hi = n
   ·have e : repX n hi = 92 :: 123 :: (digL n ++ [92, 125]) := by unfold repX; rw [if_neg c1, if_neg c2, if_pos c3, Int.toNat_natCast]
    rw [e] at hd ⊢
    rw [braces _ hd no92]
    unfold ivlT
    have hc := cut_no (digL n) 44 [] no44
    rw [hc]
    simp only [upper, hnum, Bool.false_eq_true, if_false, Bool.and_self, if_true, c3]
    simp only [List.length_append, List.length_cons, List.length_nil]
   ·obtain ⟨m, rfl⟩ : ∃ m : Nat, hi = m := ⟨hi.toNat, by omega⟩
    have hm : m < 256 := by omega
    have hnum2 := xsf ⟨m, hm⟩
    have hpl2 := xlx ⟨m, hm⟩
    simp only at hnum2 hpl2
    have no92' : ∀ b ∈ digL m, b ≠ 92 := fun b hb => by have := List.all_eq_true.1 hpl2 b hb; simp at this; exact this.1
    have hne : (digL m).isEmpty = false := by unfold digL; split; rfl; split <;> rfl
    have e : repX n m = 92 :: 123 :: (digL n ++ 44 :: digL m ++ [92, 125]) := by unfold repX; rw [if_neg c1, if_neg c2, if_neg c3, Int.toNat_natCast, Int.toNat_natCast]
    rw [e] at hd ⊢
    rw [braces _ hd (fun b hb => by rcases List.mem_append.1 hb with hb | hb; exact no92 b hb; rcases List.mem_cons.1 hb with hb | hb; subst hb; decide; exact no92' b hb)]
    unfold ivlT
    have hc := xf9 (digL n) (digL m) 44 [] no44
    simp only [List.cons_append, List.nil_append] at hc
    rw [hc]
    have hle : decide (n ≤ m) = true := decide_eq_true (by omega)
    simp only [upper, hnum, hnum2, hne, hle, Bool.false_eq_true, if_false, Bool.and_self, if_true]
    simp only [List.length_append, List.length_cons, List.length_nil]
def xg2 (st : (Nat → Bool) → List UInt8) : Prop := ∀ (q : Nat → Bool) (T : ByteArray) (j k : Nat) (r : List UInt8), T.data.toList.drop j = st q ++ r → ∃ q', nfq q' = nfq q ∧ xaf T j k = ⟨1, j, j + (st q).length, 0, q', 0, 0, 0⟩
theorem xei (s : ByteArray) : s.size = s.data.toList.length := (xc6 s).symm
theorem tok_read {st : (Nat → Bool) → List UInt8} (hst : xg2 st) {s T : ByteArray} {i j k : Nat} {t : Tk} {r : List UInt8} (hk : t.kind ≠ 0) (hok : TkOk t) (hf : TkF s i k t) (hrep : t.kind = 7 → repB k = true)
  (h3 : t.kind = 3 → r = [] ∨ ∃ r', r = 92 :: 41 :: r') (hd : T.data.toList.drop j = tkX st t ++ r) : nfK (xaf T j k) = nfK t ∧ (xaf T j k).to = j + (tkX st t).length := by
 have h7 := hok.kind
 rcases (show t.kind = 1 ∨ t.kind = 2 ∨ t.kind = 3 ∨ t.kind = 4 ∨ t.kind = 5 ∨ t.kind = 6 ∨ t.kind = 7 by omega) with c | c | c | c | c | c | c
 ·have e : tkX st t = st t.q := by simp [tkX, c]
  rw [e] at hd ⊢
  obtain ⟨q', hq, ht⟩ := hst t.q T j k r hd
  rw [ht]
  exact ⟨by simp [nfK, c, hq], rfl⟩
 ·have e : tkX st t = [94] := by simp [tkX, c]
  rw [e] at hd ⊢
  have b0 := xa8 hd 0 94 (n := 94) rfl rfl
  rw [Nat.add_zero] at b0
  have ht : xaf T j k = ⟨2, j, j + 1, 0, xad, 0, 0, 0⟩ := by
   unfold xaf
   rw [b0, hf.bol c]
   rfl
  rw [ht]
  exact ⟨by simp [nfK, c], rfl⟩
 ·have e : tkX st t = [36] := by simp [tkX, c]
  rw [e] at hd ⊢
  have b0 := xa8 hd 0 36 (n := 36) rfl rfl
  rw [Nat.add_zero] at b0
  have hl := xa7 b0 (by omega)
  have hsh : shuts T (j + 1) = true := by
   have e2 : T.data.toList.drop (j + 1) = r := by
    rw [← List.drop_drop, hd]
    rfl
   unfold shuts
   rw [xcg, e2]
   rcases h3 c with rfl | ⟨r', rfl⟩
   ·have : j + 1 = T.size := by
     have := congrArg List.length e2
     rw [List.length_drop, xc6] at this
     simp at this
     omega
    rw [decide_eq_true this]
    rfl
   ·rw [Bool.or_eq_true]
    right
    rfl
  have ht : xaf T j k = ⟨3, j, j + 1, 0, xad, 0, 0, 0⟩ := by
   unfold xaf
   rw [b0, hsh]
   simp
  rw [ht]
  exact ⟨by simp [nfK, c], rfl⟩
 ·have e : tkX st t = [92, 40] := by simp [tkX, c]
  rw [e] at hd ⊢
  have b0 := xa8 hd 0 92 (n := 92) rfl rfl
  have b1 := xa8 hd 1 40 (n := 40) rfl rfl
  rw [Nat.add_zero] at b0
  rw [tok_open k b0 b1]
  exact ⟨by simp [nfK, c], rfl⟩
 ·have e : tkX st t = [92, 41] := by simp [tkX, c]
  rw [e] at hd ⊢
  have b0 := xa8 hd 0 92 (n := 92) rfl rfl
  have b1 := xa8 hd 1 41 (n := 41) rfl rfl
  rw [Nat.add_zero] at b0
  rw [xlw k b0 b1]
  exact ⟨by simp [nfK, c], rfl⟩
 ·have e : tkX st t = [92, UInt8.ofNat (48 + t.grp)] := by simp [tkX, c]
  rw [e] at hd ⊢
  have b0 := xa8 hd 0 92 (n := 92) rfl rfl
  have hg := hf.back c
  have b1 := xa8 hd 1 (UInt8.ofNat (48 + t.grp)) (n := ((48 + t.grp : Nat) : Int)) (by rw [UInt8.toNat_ofNat']; omega) rfl
  rw [Nat.add_zero] at b0
  have hl := xa7 b1 (by omega)
  have ht : xaf T j k = ⟨6, j, j + 2, 0, xad, t.grp, 0, 0⟩ := by
   unfold xaf xbr escB
   rw [if_pos b0, if_neg (by omega), b1, Int.toNat_natCast]
   generalize t.grp = g at hg
   rw [if_neg (by omega), if_neg (by omega), if_neg (by omega), if_neg (by omega), if_neg (by omega), if_pos ⟨by omega, by unfold digB; rw [decide_eq_true (show (48 : Int) ≤ ((48 + g : Nat) : Int) by omega), decide_eq_true (show ((48 + g : Nat) : Int) ≤ 57 by omega)]; rfl⟩, Nat.add_sub_cancel_left]
  rw [ht]
  exact ⟨by simp [nfK, c], rfl⟩
 ·have e : tkX st t = repX t.lo t.hi := by simp [tkX, c]
  rw [e] at hd ⊢
  have hb := hok.rep c
  rw [rep_read hd (hrep c) hb.1 (by rcases hf.rep c with h | h; exact .inl h; exact .inr ⟨h, hb.2.2⟩)]
  exact ⟨by simp [nfK, c], rfl⟩
theorem xg3 {s : ByteArray} {P : Ps} {i k : Nat} (hi : i < s.size) (hw : Well P k i) : (xaf s i k).kind = 7 → P.top.parts ≠ [] := fun c => hw.parts (fun e => by
 have := (xbd s i k hi).rep c
 rw [e] at this
 cases this)
theorem xnq (st : (Nat → Bool) → List UInt8) {s : ByteArray} (hs : s.size ≤ 512) : ∀ (f i k : Nat) (P Q : Ps), s.size - i ≤ f → i ≤ s.size → Well P k i → runA s i k P = .ok Q → ∃ r, txP st Q = txP st P ++ r
 | 0, i, k, P, Q, hf, hle, hw, hr => by
  rw [xb7 s i k P (by omega)] at hr
  injection hr with hr
  exact ⟨[], by rw [hr, List.append_nil]⟩
 | f + 1, i, k, P, Q, hf, hle, hw, hr => by
  by_cases hi : i < s.size
  ·by_cases h0 : (P.take (xaf s i k)).1 = 0
   ·have h1 := xdy hi h0
    obtain ⟨w1, w2, w3⟩ := xct hi hs hw h0
    rw [xcv hi h0] at hr
    obtain ⟨r, hr⟩ := xnq st hs f _ _ _ Q (by omega) h1.2.2 w1 hr
    rw [xkk st P _ h1.1 (xbd s i k hi).ok.kind h0 (xg3 hi hw)] at hr
    exact ⟨_, by rw [hr, List.append_assoc]⟩
   ·rw [xe6 hi h0] at hr
    cases hr
  ·rw [xb7 s i k P (by omega)] at hr
   injection hr with hr
   exact ⟨[], by rw [hr, List.append_nil]⟩
theorem tkX_ne {st : (Nat → Bool) → List UInt8} (h : ∀ q, st q ≠ []) (t : Tk) : tkX st t ≠ [] := by
 unfold tkX
 split
 ·exact h _
 split
 ·simp
 split
 ·simp
 split
 ·simp
 split
 ·simp
 split
 ·simp
 unfold repX
 split
 ·simp
 split
 ·simp
 split
 ·simp
 ·simp
theorem xsh {s : ByteArray} {j : Nat} (h : shuts s j = true) (hj : j ≠ s.size) : xac s j = 92 ∧ xac s (j + 1) = 41 := by
 unfold shuts at h
 rw [decide_eq_false hj, Bool.false_or, xcg] at h
 have h2 : [92, 41] <+: s.data.toList.drop j := List.isPrefixOf_iff_prefix.1 h
 obtain ⟨r, hr⟩ := h2
 exact ⟨xa8 (m := 0) hr.symm 92 rfl rfl, xa8 hr.symm 1 41 rfl rfl⟩
theorem xoq {st : (Nat → Bool) → List UInt8} (hst : xg2 st) (hne : ∀ q, st q ≠ []) {s T : ByteArray} (hs : s.size ≤ 512) : ∀ (f i k : Nat) (P P' Q : Ps), s.size - i ≤ f → i ≤ s.size → Well P k i → nfP P' = nfP P → runA s i k P = .ok Q → T.data.toList = txP st Q → ∃ Q', nfP Q' = nfP Q ∧ runA T (txP st P).length k P' = .ok Q'
 | 0, i, k, P, P', Q, hf, hle, hw, hP, hr, hT => by
  rw [xb7 s i k P (by omega)] at hr
  injection hr with hr
  subst hr
  exact ⟨P', hP, xb7 _ _ _ _ (by rw [xei, hT]; exact Nat.le_refl _)⟩
 | f + 1, i, k, P, P', Q, hf, hle, hw, hP, hr, hT => by
  by_cases hi : i < s.size
  ·by_cases h0 : (P.take (xaf s i k)).1 = 0
   ·have h1 := xdy hi h0
    have hta := xbd s i k hi
    obtain ⟨w1, w2, w3⟩ := xct hi hs hw h0
    have hr0 := hr
    rw [xcv hi h0] at hr
    have htx := xkk st P _ h1.1 hta.ok.kind h0 (xg3 hi hw)
    obtain ⟨r, hx⟩ := xnq st hs _ _ _ _ Q (Nat.le_refl _) h1.2.2 w1 hr
    have hd : T.data.toList.drop (txP st P).length = tkX st (xaf s i k) ++ r := by
     rw [hT, hx, htx, List.append_assoc, List.drop_left]
    have h3 : (xaf s i k).kind = 3 → r = [] ∨ ∃ r', r = 92 :: 41 :: r' := fun c => by
     obtain ⟨g1, g2⟩ := (xsg s i k).eol c
     by_cases e : i + 1 = s.size
     ·left
      rw [g2, xb7 _ _ _ _ (by omega)] at hr
      injection hr with hr
      rw [← hr] at hx
      have := congrArg List.length hx
      rw [List.length_append] at this
      exact List.eq_nil_of_length_eq_zero (by omega)
     ·right
      obtain ⟨e0, e1⟩ := xsh g1 e
      rw [g2] at hr w1
      have hi2 : i + 1 < s.size := by omega
      have ht2 := xlw (xaf s i k).kind e0 e1
      by_cases h02 : ((P.take (xaf s i k)).2.take (xaf s (i + 1) (xaf s i k).kind)).1 = 0
      ·have h12 := xdy hi2 h02
       obtain ⟨v1, v2, v3⟩ := xct hi2 hs w1 h02
       have htx2 := xkk st _ _ h12.1 (xbd s _ _ hi2).ok.kind h02 (xg3 hi2 w1)
       rw [xcv hi2 h02] at hr
       obtain ⟨r2, hx2⟩ := xnq st hs _ _ _ _ Q (Nat.le_refl _) h12.2.2 v1 hr
       rw [hx2, htx2, List.append_assoc] at hx
       have := List.append_cancel_left hx
       exact ⟨r2, by rw [← this, ht2]; simp [tkX]⟩
      ·rw [xe6 hi2 h02] at hr
       cases hr
    obtain ⟨g1, g2⟩ := tok_read hst h1.1 hta.ok (xsg s i k) hta.rep h3 hd
    obtain ⟨k1, k2⟩ := xsb hP g1 hta.ok.kind
    have hlt : (txP st P).length < T.size := by
     have hl := congrArg List.length hd
     rw [List.length_drop, xc6, List.length_append] at hl
     have := List.length_pos_iff.2 (tkX_ne hne (xaf s i k))
     omega
    have hkk : (xaf T (txP st P).length k).kind = (xaf s i k).kind := by have := congrArg Tk.kind g1; exact this
    obtain ⟨Q', q1, q2⟩ := xoq hst hne hs f _ _ _ _ Q (by omega) h1.2.2 w1 k2 hr hT
    refine ⟨Q', q1, ?_⟩
    rw [xcv hlt (by rw [k1]; exact h0), g2, hkk, ← q2, htx, List.length_append]
   ·rw [xe6 hi h0] at hr
    cases hr
  ·rw [xb7 s i k P (by omega)] at hr
   injection hr with hr
   subst hr
   exact ⟨P', hP, xb7 _ _ _ _ (by rw [xei, hT]; exact Nat.le_refl _)⟩
theorem xqe {st : (Nat → Bool) → List UInt8} (hst : xg2 st) (hne : ∀ q, st q ≠ []) {s T : ByteArray} {ts : List Tr} (hp : xav s = .ok ts) (hT : T.data.toList = wrL st ts) (hl : T.size ≤ 512) : ∃ us, xav T = .ok us ∧ nfL us = nfL ts := by
 obtain ⟨hs, Q, hr, ho, hts, _, _⟩ := xh2 hp
 have hx : txP st Q = wrL st ts := by unfold txP; rw [ho, hts]; rfl
 obtain ⟨Q', q1, q2⟩ := xoq hst hne hs _ 0 4 Ps.start Ps.start Q (Nat.le_refl _) (Nat.zero_le _) xed rfl hr (hT.trans hx.symm)
 have e0 : (txP st Ps.start).length = 0 := by simp [txP, Ps.start, wrL]
 rw [e0] at q2
 have ho' : Q'.outer = [] := by
  have := congrArg Ps.outer q1
  simp only [nfP, ho, List.map_nil] at this
  exact List.map_eq_nil_iff.1 this
 refine ⟨Q'.top.parts, ?_, ?_⟩
 ·rw [xe5 T hl, q2]
  show (if Q'.outer.length = 0 then Except.ok Q'.top.parts else _) = _
  rw [ho']
  rfl
 ·have h2 := congrArg (fun P => P.top.parts) q1
  rw [← hts]
  exact h2
def xkm (b : Nat) : List UInt8 := if b = 10 then [92, 110] else if b = 46 ∨ b = 91 ∨ b = 93 ∨ b = 42 ∨ b = 94 ∨ b = 36 ∨ b = 92 then [92, UInt8.ofNat b] else [UInt8.ofNat b]
def stC (q : Nat → Bool) : List UInt8 := if (mem q 256).length = 256 then [46] else if (mem q 256).length = 1 then xkm ((mem q 256).headD 0) else (xde (mem q 256)).map UInt8.ofNat
theorem xsi {q' q : Nat → Bool} (h : ∀ n, n < 256 → q' n = q n) : nfq q' = nfq q := by
 funext n
 unfold nfq
 by_cases c : n < 256
 ·rw [h n c]
 ·rw [decide_eq_false c, Bool.and_false, Bool.and_false]
theorem xsj (q : Nat → Bool) (n : Nat) : n ∈ mem q 256 ↔ n < 256 ∧ q n = true := by
 unfold mem
 rw [List.mem_filter, List.mem_range]
theorem self_q (b n : Nat) (hb : b < 256) : xaw b n = (n == b) := by
 have h := xnm ⟨#[UInt8.ofNat b]⟩ 0 b n (by show 0 < 1; omega) (by
  rw [xc1]
  show ((UInt8.ofNat b).toNat : Int) = b
  rw [UInt8.toNat_ofNat']
  omega)
 have e : (⟨#[UInt8.ofNat b]⟩ : ByteArray).extract 0 (0 + 1) = ⟨#[UInt8.ofNat b]⟩ := rfl
 rw [e] at h
 exact h
theorem xqf {T : ByteArray} {j b : Nat} (k : Nat) (hb : b < 256) {r : List UInt8} (hd : T.data.toList.drop j = xkm b ++ r) : xaf T j k = xcn b j (j + (xkm b).length) := by
 by_cases c1 : b = 10
 ·subst c1
  have b0 := xa8 hd 0 92 (n := 92) rfl rfl
  have b1 := xa8 hd 1 110 (n := 110) rfl rfl
  rw [Nat.add_zero] at b0
  have := xa7 b1 (by omega)
  unfold xaf xbr escB
  rw [if_pos b0, if_neg (by omega), b1]
  rfl
 ·by_cases c2 : b = 46 ∨ b = 91 ∨ b = 93 ∨ b = 42 ∨ b = 94 ∨ b = 36 ∨ b = 92
  ·have e : xkm b = [92, UInt8.ofNat b] := by unfold xkm; rw [if_neg c1, if_pos c2]
   rw [e] at hd ⊢
   have b0 := xa8 hd 0 92 (n := 92) rfl rfl
   have b1 := xa8 hd 1 (UInt8.ofNat b) (n := (b : Int)) (by rw [UInt8.toNat_ofNat']; omega) rfl
   rw [Nat.add_zero] at b0
   have := xa7 b1 (by omega)
   unfold xaf xbr escB
   rw [if_pos b0, if_neg (by omega), b1, Int.toNat_natCast]
   rcases c2 with e | e | e | e | e | e | e <;> subst e <;> rfl
  ·have e : xkm b = [UInt8.ofNat b] := by unfold xkm; rw [if_neg c1, if_neg c2]
   rw [e] at hd ⊢
   have b0 := xa8 hd 0 (UInt8.ofNat b) (n := (b : Int)) (by rw [UInt8.toNat_ofNat']; omega) rfl
   rw [Nat.add_zero] at b0
   unfold xaf
   rw [b0, if_neg (by omega), if_neg (by omega), if_neg (by omega), if_neg (by omega), if_neg (by omega), if_neg (by omega), Int.toNat_natCast]
   rfl
theorem one_of {l : List Nat} (h : l.length = 1) : l = [l.headD 0] := by
 match l, h with
 | [x], _ => rfl
theorem stC_ne (q : Nat → Bool) : stC q ≠ [] := by
 unfold stC
 split
 ·simp
 split
 ·unfold xkm
  split
  ·simp
  split
  ·simp
  ·simp
 ·have h3 := (xh5 q).1
  intro e
  have h4 := congrArg List.length e
  rw [List.length_map, List.length_nil] at h4
  omega
theorem xsk : xg2 stC := by
 intro q T j k r hd
 unfold stC at hd ⊢
 by_cases c1 : (mem q 256).length = 256
 ·rw [if_pos c1] at hd ⊢
  have b0 := xa8 hd 0 46 (n := 46) rfl rfl
  rw [Nat.add_zero] at b0
  refine ⟨notP xad, xsi fun n hn => ?_, by unfold xaf; rw [b0]; rfl⟩
  have hall : ∀ x ∈ List.range 256, q x = true := by
   have h1 : ((List.range 256).filter q).length = (List.range 256).length := by rw [List.length_range]; exact c1
   exact List.length_filter_eq_length_iff.1 h1
  rw [hall n (List.mem_range.2 hn)]
  simp [notP, xad]
 ·rw [if_neg c1] at hd ⊢
  by_cases c2 : (mem q 256).length = 1
  ·rw [if_pos c2] at hd ⊢
   have hl := one_of c2
   have hm : (mem q 256).headD 0 ∈ mem q 256 := by rw [hl]; simp
   generalize (mem q 256).headD 0 = b at hd hl hm ⊢
   have hb := ((xsj q b).1 hm).1
   refine ⟨xaw b, xsi fun n hn => ?_, xqf k hb hd⟩
   rw [self_q b n hb]
   by_cases e : n = b
   ·subst e
    rw [((xsj q n).1 hm).2]
    simp
   ·have : q n = false := by
     cases h : q n with
     | false => rfl
     | true =>
      have h2 := (xsj q n).2 ⟨hn, h⟩
      rw [hl] at h2
      simp at h2
      exact absurd h2 e
    rw [this]
    simp [e]
  ·rw [if_neg c2] at hd ⊢
   obtain ⟨q', hp, hq⟩ := xjb q
   obtain ⟨l3, _⟩ := xh5 q
   have hbs : ((xde (mem q 256)).map UInt8.ofNat) = (bstr (xde (mem q 256))).data.toList := by simp [bstr]
   have hln : (bstr (xde (mem q 256))).size = (xde (mem q 256)).length := xi9 _
   have hbyte : ∀ m, m < (xde (mem q 256)).length → xac (bstr (xde (mem q 256))) m = xac T (j + m) := fun m hm => by
    rw [xc1, xc1, ← List.getElem?_drop, hd, hbs, List.getElem?_append_left (by rw [xc6, hln]; exact hm)]
   have hTs : j + (xde (mem q 256)).length ≤ T.size := by
    have := congrArg List.length hd
    rw [List.length_drop, xc6, List.length_append, List.length_map] at this
    omega
   have he : (xbn (bstr (xde (mem q 256))) 0).e = 0 := by rw [hp]
   have hnx : (xbn (bstr (xde (mem q 256))) 0).next = (xde (mem q 256)).length := by rw [hp]
   have hw := xru (s' := T) (i' := j) he ⟨by omega, by omega, fun m hm => by rw [Nat.zero_add]; exact hbyte m (by omega)⟩
   have hf := xga he
   have b0 : xac T j = 91 := by
    have := hbyte 0 (by omega)
    rw [Nat.add_zero] at this
    rw [← this]
    exact hf.2.2.1
   rw [hnx, Nat.sub_zero] at hw
   refine ⟨(xbn (bstr (xde (mem q 256))) 0).q, xsi fun n hn => ?_, ?_⟩
   ·rw [hp]
    exact hq n hn
   ·have hpx : xaz T (j : Int) = xbn T j := by rw [xaz, if_pos (by omega), Int.toNat_natCast]
    unfold xaf
    rw [if_neg (by rw [b0]; omega), if_pos b0]
    unfold xcr
    rw [hpx, hw, if_neg (by simp), List.length_map]
theorem xjd {s T : ByteArray} {ts : List Tr} (hp : xav s = .ok ts) (hT : T.data.toList = wrL stC ts) (hl : T.size ≤ 512) : ∃ us, xav T = .ok us ∧ nfL us = nfL ts := xqe xsk stC_ne hp hT hl
theorem stC_nf (q : Nat → Bool) : stC (nfq q) = stC q := by
 have : mem (nfq q) 256 = mem q 256 := by
  unfold mem
  refine List.filter_congr fun x hx => ?_
  simp [nfq, List.mem_range.1 hx]
 unfold stC
 rw [this]
mutual
theorem wr_nfT : ∀ t : Tr, wrT stC (nfT t) = wrT stC t
 | .mk k q lo hi g kids => by simp only [nfT, wrT, stC_nf, xos kids]
theorem xos : ∀ ts : List Tr, wrL stC (nfL ts) = wrL stC ts
 | [] => by simp only [nfL]
 | t :: ts => by simp only [nfL, wrL, wr_nfT t, xos ts]
end
theorem xqg {a b : ByteArray} {ts us : List Tr} (hp : xav a = .ok ts) (hq : xav b = .ok us) (hl : (wrL stC ts).length ≤ 512) : wrL stC ts = wrL stC us ↔ nfL ts = nfL us := by
 constructor
 ·intro h
  have e : (⟨(wrL stC ts).toArray⟩ : ByteArray).data.toList = wrL stC ts := by simp
  have hz : (⟨(wrL stC ts).toArray⟩ : ByteArray).size ≤ 512 := by rw [xei, e]; exact hl
  obtain ⟨v, h1, h2⟩ := xjd hp e hz
  obtain ⟨v', h3, h4⟩ := xjd hq (e.trans h) hz
  rw [h1] at h3
  injection h3 with h3
  rw [← h2, ← h4, h3]
 ·intro h
  rw [← xos ts, h, xos]
end Go.Proofs.YtaapmphdnholaaaGreatDoor
