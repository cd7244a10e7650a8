/- bre: the positions of a tree; the parser counts them. -/
import Derived.Test.YtolpakpdkheanaaKPp
import Derived.Test.YtolpakpdkheanaaKPv
import Derived.Deep.RegionWith
import Derived.Deep.Cut
set_option maxRecDepth 100000
set_option maxHeartbeats 400000
namespace Go.Proofs.Ytolpakpdkheanaa.br
open Go.RowKit
mutual
def posT : Tr → Int
 | .mk k _ lo hi _ kids => if k = 1 ∨ k = 6 then 1 else if k = 5 then (if 0 ≤ hi then posL kids * hi else if 0 < lo then posL kids * lo else posL kids) else posL kids
def posL : List Tr → Int
 | [] => 0
 | t :: ts => posT t + posL ts
end
theorem xfs (a b : List Tr) : posL (a ++ b) = posL a + posL b := by
 induction a with
 | nil => simp [posL]
 | cons t a ih => simp only [List.cons_append, posL, ih]; omega
theorem xcq (t : Tr) : posL [t] = posT t := by simp [posL]
theorem xk4 (lo hi : Int) (t : Tr) : posT (repT lo hi t) = posT t * xav lo hi := by
 simp only [repT, posT, xcq, xav]
 rw [if_neg (by decide), if_pos trivial]
 by_cases h : 0 ≤ hi
 ·rw [if_pos h, if_neg (by omega)]
 ·rw [if_neg h, if_pos (show hi < 0 by omega)]
  by_cases h2 : 0 < lo
  ·rw [if_pos h2]; congr 1; omega
  ·rw [if_neg h2, show max lo 1 = 1 by omega, Int.mul_one]
theorem xk5 (ts : List Tr) : posT (catT ts) = posL ts := by simp [catT, posT]
theorem xgi (k : Nat) (ts : List Tr) : posT (xbp k ts) = posL ts := by simp [xbp, posT, xcq, xk5]
def xgx : Int → List Lv → Prop
 | _, [] => True
 | n, l :: ls => l.before = n ∧ xgx (n + posL l.parts) ls
def xby (ls : List Lv) : Int := (ls.map fun l => posL l.parts).sum
theorem xeh (a b : List Lv) : xby (a ++ b) = xby a + xby b := by simp [xby]
theorem xbz : ∀ (a b : List Lv) (n : Int), xgx n (a ++ b) ↔ xgx n a ∧ xgx (n + xby a) b
 | [], b, n => by simp [xgx, xby]
 | l :: a, b, n => by
  have h := xbz a b (n + posL l.parts)
  simp only [List.cons_append, xgx, h]
  have e : n + posL l.parts + xby a = n + xby (l :: a) := by simp [xby]; omega
  rw [e]
  constructor
  ·rintro ⟨h1, h2, h3⟩; exact ⟨⟨h1, h2⟩, h3⟩
  ·rintro ⟨⟨h1, h2⟩, h3⟩; exact ⟨h1, h2, h3⟩
structure Counts (P : Ps) : Prop where
 size : P.size = xby P.outer + posL P.top.parts
 ahead : xgx 0 (P.outer ++ [P.top])
 last : ∀ x, P.top.parts.getLast? = some x → P.last = posT x
theorem xfe : Counts Ps.start := ⟨rfl, ⟨rfl, trivial⟩, fun x h => by cases h⟩
theorem xdn {P : Ps} (h : Counts P) (t : Tr) (p : Int) (hp : posT t = p) : Counts (P.add t p) := by
 refine ⟨?_, ?_, fun x hx => ?_⟩
 ·show P.size + p = xby P.outer + posL (P.top.parts ++ [t])
  rw [xfs, xcq, h.size, hp]; omega
 ·have h1 := h.ahead
  rw [xbz] at h1 ⊢
  exact ⟨h1.1, h1.2.1, trivial⟩
 ·have hx' : (P.top.parts ++ [t]).getLast? = some x := hx
  simp at hx'
  rw [← hx', hp]
  rfl
theorem xk6 {P : Ps} (h : Counts P) (i : Nat) : Counts (P.opened i) := by
 refine ⟨?_, ?_, fun x hx => by cases hx⟩
 ·show P.size = xby (P.outer ++ [P.top]) + posL []
  rw [xeh, h.size]
  simp [xby, posL]
 ·show xgx 0 ((P.outer ++ [P.top]) ++ [(P.opened i).top])
  rw [xbz]
  refine ⟨h.ahead, ?_, trivial⟩
  show P.size = 0 + xby (P.outer ++ [P.top])
  rw [xeh, h.size]
  simp [xby]
theorem xjn {P : Ps} (h : Counts P) {ou : List Lv} {l : Lv} (hou : P.outer = ou ++ [l]) : Counts (P.close ou l) := by
 have h1 := h.ahead
 have h2 := h.size
 rw [hou] at h1 h2
 rw [xeh] at h2
 have e : xby [l] = posL l.parts := by simp [xby]
 rw [e] at h2
 rw [xbz, xbz] at h1
 have hb : P.top.before = 0 + xby (ou ++ [l]) := h1.2.1
 rw [xeh, e] at hb
 refine ⟨?_, ?_, fun x hx => ?_⟩
 ·show P.size + 0 = xby ou + posL (l.parts ++ [xbp P.top.grp P.top.parts])
  rw [xfs, xcq, xgi, h2]; omega
 ·show xgx 0 (ou ++ [{ l with parts := l.parts ++ [xbp P.top.grp P.top.parts] }])
  rw [xbz]
  exact ⟨h1.1.1, h1.1.2.1, trivial⟩
 ·have hx' : (l.parts ++ [xbp P.top.grp P.top.parts]).getLast? = some x := hx
  simp at hx'
  rw [← hx', xgi]
  show P.size - P.top.before = _
  omega
theorem xnu {P : Ps} (h : Counts P) {ts : List Tr} {x : Tr} (hs : P.top.parts = ts ++ [x]) (lo hi : Int) : Counts (P.rep ts x lo hi) := by
 have hl := h.last x (by rw [hs]; simp)
 have h2 := h.size
 rw [hs, xfs, xcq] at h2
 refine ⟨?_, ?_, fun y hy => ?_⟩
 ·show P.size + P.last * (xav lo hi - 1) = xby P.outer + posL (ts ++ [repT lo hi x])
  rw [xfs, xcq, xk4, hl, h2, Int.mul_sub, Int.mul_one]; omega
 ·have h1 := h.ahead
  rw [xbz] at h1
  show xgx 0 (P.outer ++ [(P.rep ts x lo hi).top])
  rw [xbz]
  exact ⟨h1.1, h1.2.1, trivial⟩
 ·have hy' : (ts ++ [repT lo hi x]).getLast? = some y := hy
  simp at hy'
  rw [← hy', xk4, ← hl]
  rfl
theorem xgj {P : Ps} (h : Counts P) (t : Tk) : Counts (P.take t).2 := by
 obtain ⟨kd, fr, to, er, q, gp, lo, hi⟩ := t
 unfold Ps.take
 split
 ·exact h
 ·exact xdn h _ 1 (by simp [byteT, posT])
 ·exact xdn h _ 0 (by simp [bolT, posT, posL])
 ·exact xdn h _ 0 (by simp [eolT, posT, posL])
 ·split
  ·exact h
  ·exact xk6 h _
 ·split
  ·exact h
  ·rename_i l hl
   exact xjn h (xcu hl)
 ·split
  ·exact xdn h _ 1 (by simp [xi6, posT])
  ·exact h
 ·split
  ·exact h
  ·rename_i x hx
   exact xnu h (xcu hx) _ _
theorem xg7 (s : ByteArray) : ∀ (f i k : Nat) (P Q : Ps), Counts P → runT s f i k P = .ok Q → Counts Q
 | 0, i, k, P, Q, h, hr => by cases hr; exact h
 | f + 1, i, k, P, Q, h, hr => by
  rw [runT] at hr
  split at hr
  ·split at hr
   ·exact xg7 s f _ _ _ Q (xgj h _) hr
   ·cases hr
  ·cases hr; exact h
theorem xjo (s : ByteArray) (ts : List Tr) (h : parseT s = .ok ts) : ∃ P : Ps, runT s (s.size + 1) 0 4 Ps.start = .ok P ∧ P.outer = [] ∧ ts = P.top.parts ∧ posL ts = P.size := by
 unfold parseT at h
 split at h
 ·cases h
 ·cases hr : runT s (s.size + 1) 0 4 Ps.start with
  | error x => rw [hr] at h; cases h
  | ok P =>
   rw [hr] at h
   have h2 : (if P.outer.length = 0 then Except.ok P.top.parts else Except.error (10, P.top.pos)) = (Except.ok ts : Except (Int × Nat) (List Tr)) := h
   split at h2
   ·rename_i h0
    cases h2
    have hc := xg7 s _ _ _ _ P xfe hr
    have ho : P.outer = [] := List.length_eq_zero_iff.1 h0
    refine ⟨P, rfl, ho, rfl, ?_⟩
    rw [hc.size, ho]
    simp [xby]
   ·cases h2
mutual
def xcj : Tr → Prop
 | .mk k q lo hi g kids => 0 ≤ posT (.mk k q lo hi g kids) ∧ posT (.mk k q lo hi g kids) ≤ 256 ∧ (posL kids ≤ 256 ∧ kids.length ≤ 1000000) ∧ xc0 kids
def xc0 : List Tr → Prop
 | [] => True
 | t :: ts => xcj t ∧ xc0 ts
end
theorem xei : ∀ (ts : List Tr), xc0 ts → ∀ t ∈ ts, xcj t
 | t :: ts, h, x, hx => by
  rcases List.mem_cons.1 hx with rfl | hx
  ·exact h.1
  ·exact xei ts h.2 x hx
theorem xh1 : ∀ (ts : List Tr), (∀ t ∈ ts, xcj t) → xc0 ts
 | [], _ => trivial
 | t :: ts, h => ⟨h t (by simp), xh1 ts (fun x hx => h x (by simp [hx]))⟩
theorem xdo (t : Tr) (h : xcj t) : 0 ≤ posT t ∧ posT t ≤ 256 ∧ (posL t.kids ≤ 256 ∧ t.kids.length ≤ 1000000) ∧ xc0 t.kids := by
 obtain ⟨k, q, lo, hi, g, kids⟩ := t
 exact h
theorem xck : ∀ (ts : List Tr), xc0 ts → 0 ≤ posL ts
 | [], _ => Int.le_refl _
 | t :: ts, h => by
  have h1 := (xdo t h.1).1
  have h2 := xck ts h.2
  simp only [posL]; omega
abbrev nodeA (t : Tr) (u : Value) : Value := .agg #[.int .i64 t.kind, .int .u64 (wd t.q 0), .int .u64 (wd t.q 1), .int .u64 (wd t.q 2), .int .u64 (wd t.q 3), .int .i64 t.lo, .int .i64 t.hi, .int .i64 t.grp, u]
theorem xp3 {t x : Tr} (h : x ∈ t.kids) : SizeOf.sizeOf x < SizeOf.sizeOf t := by
 obtain ⟨k, q, lo, hi, g, kids⟩ := t
 have h1 := List.sizeOf_lt_of_mem (show x ∈ kids from h)
 simp only [Tr.mk.sizeOf_spec]
 omega
theorem xc1 {W W' : World} {ok : Nat → Prop} {v : Value} {ts : List Tr} (h : Kids W ok v ts) (hb : Below W.heap.size W W') : Kids W' ok v ts := by
 have h2 : Kids W (fun g => ok g ∧ g < W.heap.size) v ts := by
  induction h with
  | mk v ts vs hl own hok _ ih => exact .mk v ts vs hl own (fun g hg => ⟨hok g hg, (owns_blk own hg).2.1⟩) ih
 exact h2.keep (fun g hg => hb.block g hg.2) (fun g hg => hg.1)
def xej (P : Ps) : Prop := ∀ l, l ∈ P.outer ++ [P.top] → xc0 l.parts
theorem xdp (k : Nat) (q : Nat → Bool) (g : Nat) (hk : k ≠ 5) : xcj (.mk k q 0 0 g []) := by
 have h : posT (.mk k q 0 0 g []) = if k = 1 ∨ k = 6 then 1 else 0 := by simp [posT, posL, hk]
 refine ⟨?_, ?_, ⟨by simp [posL], by simp⟩, trivial⟩
 ·rw [h]; split <;> omega
 ·rw [h]; split <;> omega
theorem xd3 {ts : List Tr} {t : Tr} (h : xc0 ts) (ht : xcj t) : xc0 (ts ++ [t]) := by
 refine xh1 _ (fun x hx => ?_)
 rcases List.mem_append.1 hx with h1 | h1
 ·exact xei ts h x h1
 ·rw [List.mem_singleton.1 h1]; exact ht
theorem xff : ∀ ls : List Lv, (∀ l ∈ ls, xc0 l.parts) → 0 ≤ xby ls
 | [], _ => by simp [xby]
 | l :: ls, h => by
  have h1 := xck _ (h l (by simp))
  have h2 := xff ls (fun x hx => h x (by simp [hx]))
  have e : xby (l :: ls) = posL l.parts + xby ls := by simp [xby]
  omega
theorem xjp {ts : List Tr} (h : xc0 ts) (hp : posL ts ≤ 256) (hl : ts.length ≤ 1000000) : xcj (catT ts) := by
 have h0 := xck _ h
 have e := xk5 ts
 exact ⟨by show 0 ≤ posT (catT ts); omega, by show posT (catT ts) ≤ 256; omega, ⟨hp, hl⟩, h⟩
theorem xk7 {ts : List Tr} (k : Nat) (h : xc0 ts) (hp : posL ts ≤ 256) (hl : ts.length ≤ 1000000) : xcj (xbp k ts) := by
 have h0 := xck _ h
 have e := xgi k ts
 exact ⟨by show 0 ≤ posT (xbp k ts); omega, by show posT (xbp k ts) ≤ 256; omega, ⟨by rw [xcq, xk5]; exact hp, by simp⟩, xjp h hp hl, trivial⟩
theorem xp4 {t : Tr} (lo hi : Int) (h : xcj t) (h0 : 0 ≤ posT t * xav lo hi) (h1 : posT t * xav lo hi ≤ 256) : xcj (repT lo hi t) := by
 have e := xk4 lo hi t
 exact ⟨by show 0 ≤ posT (repT lo hi t); omega, by show posT (repT lo hi t) ≤ 256; omega, ⟨by rw [xcq]; exact (xdo t h).2.1, by simp⟩, h, trivial⟩
theorem xh2 {P : Ps} (h : xej P) {t : Tr} (ht : xcj t) (p : Int) : xej (P.add t p) := by
 intro l hl
 rcases List.mem_append.1 hl with h1 | h1
 ·exact h l (List.mem_append_left _ h1)
 ·rw [List.mem_singleton.1 h1]
  exact xd3 (h P.top (by simp)) ht
theorem xnv {P : Ps} {n : Nat} (hn : n ≤ 600) (h : xej P) (hC : Counts P) (hG : Good P n) (t : Tk) (ht : TkOk t) (h7 : t.kind = 7 → P.top.parts ≠ []) (hk : t.kind ≠ 0) (h0 : (P.take t).1 = 0) : xej (P.take t).2 := by
 have hG2 := (xgh hG t ht h7 hk h0).1
 obtain ⟨kd, fr, to, er, q, gp, lo, hi⟩ := t
 have hkd : kd ≤ 7 := ht.kind
 rcases (show kd = 0 ∨ kd = 1 ∨ kd = 2 ∨ kd = 3 ∨ kd = 4 ∨ kd = 5 ∨ kd = 6 ∨ kd = 7 by omega) with rfl | rfl | rfl | rfl | rfl | rfl | rfl | rfl
 ·exact absurd rfl hk
 ·exact xh2 h (xdp 1 q 0 (by omega)) 1
 ·exact xh2 h (xdp 2 xad 0 (by omega)) 0
 ·exact xh2 h (xdp 3 xad 0 (by omega)) 0
 ·by_cases h9 : P.groups = 9
  ·simp [Ps.take, h9] at h0
  ·have e : P.take ⟨4, fr, to, er, q, gp, lo, hi⟩ = (0, P.opened fr) := by simp [Ps.take, h9]
   rw [e]
   intro l hl
   have hl' : l ∈ (P.outer ++ [P.top]) ++ [(P.opened fr).top] := hl
   rcases List.mem_append.1 hl' with h1 | h1
   ·exact h l h1
   ·rw [List.mem_singleton.1 h1]
    exact trivial
 ·cases hl : P.outer.getLast? with
  | none => simp [Ps.take, hl] at h0
  | some l =>
   have e : P.take ⟨5, fr, to, er, q, gp, lo, hi⟩ = (0, P.close P.outer.dropLast l) := by simp only [Ps.take, hl]
   rw [e]
   have hs := xcu hl
   have htop := h P.top (by simp)
   have hpos : posL P.top.parts ≤ 256 := by
    have h1 := hC.size
    have h2 := xff P.outer (fun x hx => h x (by simp [hx]))
    have h3 := hG.big
    omega
   have hg : xcj (xbp P.top.grp P.top.parts) := xk7 _ htop hpos (by have := hG.top.2; omega)
   intro l' hl'
   have hl2 : l' ∈ P.outer.dropLast ++ [{ l with parts := l.parts ++ [xbp P.top.grp P.top.parts] }] := hl'
   rcases List.mem_append.1 hl2 with h1 | h1
   ·exact h l' (by rw [hs]; simp [h1])
   ·rw [List.mem_singleton.1 h1]
    exact xd3 (h l (by rw [hs]; simp)) hg
 ·cases hc : P.shut gp
  ·simp [Ps.take, hc] at h0
  ·have e : P.take ⟨6, fr, to, er, q, gp, lo, hi⟩ = (P.add (xi6 gp) 1).grown := by simp only [Ps.take, hc]; rfl
   rw [e]
   exact xh2 h (xdp 6 xad gp (by omega)) 1
 ·have h7' := h7 rfl
  cases hl : P.top.parts.getLast? with
  | none => exact absurd (List.getLast?_eq_none_iff.1 hl) h7'
  | some x =>
   have e : P.take ⟨7, fr, to, er, q, gp, lo, hi⟩ = (P.rep P.top.parts.dropLast x lo hi).grown := by simp only [Ps.take, hl]
   rw [e] at hG2 ⊢
   have hs := xcu hl
   have hla := hG2.last (by simp [Ps.grown, Ps.rep])
   have hbd := hG2.bounds
   have hbg := hG2.big
   have hx : posT x = P.last := (hC.last x hl).symm
   have hla' : 0 ≤ P.last * xav lo hi ∧ P.last * xav lo hi ≤ (P.rep P.top.parts.dropLast x lo hi).grown.2.size - (P.rep P.top.parts.dropLast x lo hi).grown.2.top.before := hla
   have htop := h P.top (by simp)
   have hxs : xcj x := xei _ htop x (by rw [hs]; simp)
   intro l' hl'
   have hl2 : l' ∈ P.outer ++ [{ P.top with parts := P.top.parts.dropLast ++ [repT lo hi x] }] := hl'
   rcases List.mem_append.1 hl2 with h1 | h1
   ·exact h l' (List.mem_append_left _ h1)
   ·rw [List.mem_singleton.1 h1]
    refine xd3 (xh1 _ (fun y hy => xei _ htop y (List.dropLast_subset _ hy))) (xp4 lo hi hxs ?_ ?_)
    ·rw [hx]; exact hla'.1
    ·rw [hx]; omega
structure Well (P : Ps) (k n : Nat) : Prop where
 good : Good P n
 counts : Counts P
 small : xej P
 parts : k ≠ 4 → P.top.parts ≠ []
theorem xg8 : Well Ps.start 4 0 := ⟨xg6, xfe, fun l hl => by
 have hl' : l = ⟨0, 0, 0, []⟩ := by simpa [Ps.start] using hl
 subst hl'
 exact trivial, fun h => absurd rfl h⟩
theorem xjq {s : ByteArray} {P : Ps} {i k : Nat} (hi : i < s.size) (hs : s.size ≤ 512) (h : Well P k i) (h0 : (P.take (tokenT s i k)).1 = 0) : Well (P.take (tokenT s i k)).2 (tokenT s i k).kind (tokenT s i k).to ∧ i < (tokenT s i k).to ∧ (tokenT s i k).to ≤ s.size := by
 have hta := xbf s i k hi
 have hk : (tokenT s i k).kind ≠ 0 := fun e => by
  have h9 : (P.take (tokenT s i k)).1 = (tokenT s i k).e := by simp only [Ps.take, e]
  rw [h0] at h9
  exact hta.fault e h9.symm
 have hn := hta.next hk
 have h7 : (tokenT s i k).kind = 7 → P.top.parts ≠ [] := fun h7 => h.parts (fun e => by have := hta.rep h7; rw [e] at this; cases this)
 obtain ⟨g1, g2⟩ := xgh h.good _ hta.ok h7 hk h0
 exact ⟨⟨g1.mono (by omega), xgj h.counts _, xnv (by omega) h.small h.counts h.good _ hta.ok h7 hk h0, g2⟩, hn⟩
theorem xmj (s : ByteArray) (hs : s.size ≤ 512) : ∀ (f i k : Nat) (P Q : Ps), Well P k i → i ≤ s.size → runT s f i k P = .ok Q → ∃ k' n, n ≤ s.size ∧ Well Q k' n
 | 0, i, k, P, Q, h, hi, hr => by cases hr; exact ⟨k, i, hi, h⟩
 | f + 1, i, k, P, Q, h, hi, hr => by
  rw [runT] at hr
  split at hr
  ·rename_i hlt
   split at hr
   ·rename_i h0
    obtain ⟨h1, h2, h3⟩ := xjq hlt hs h h0
    exact xmj s hs f _ _ _ Q h1 h3 hr
   ·cases hr
  ·cases hr; exact ⟨k, i, hi, h⟩
theorem xgk (s : ByteArray) (ts : List Tr) (h : parseT s = .ok ts) : xcj (catT ts) := by
 have hs : s.size ≤ 512 := by
  unfold parseT at h
  split at h
  ·cases h
  ·omega
 obtain ⟨P, hr, ho, rfl, hp⟩ := xjo s ts h
 obtain ⟨k', n, hn, hw⟩ := xmj s hs _ 0 4 _ P xg8 (Nat.zero_le _) hr
 have := hw.good.big
 have := hw.good.top.2
 exact xjp (hw.small P.top (by simp)) (by omega) (by omega)
abbrev Sh := Nat × (Nat → Bool)
def Sh.shut (s : Sh) (g : Nat) : Sh := (s.1, fun x => if x = g then true else s.2 x)
mutual
def ShT : Tr → Sh → Sh → Prop
 | .mk k q lo hi g kids, s, s' =>
  (k = 0 ∧ q = xad ∧ lo = 0 ∧ hi = 0 ∧ g = 0 ∧ ShL kids s s') ∨
  ((k = 1 ∨ (k = 2 ∨ k = 3) ∧ q = xad) ∧ lo = 0 ∧ hi = 0 ∧ g = 0 ∧ kids = [] ∧ s' = s) ∨
  (k = 6 ∧ q = xad ∧ lo = 0 ∧ hi = 0 ∧ kids = [] ∧ 1 ≤ g ∧ g ≤ 9 ∧ s.2 g = true ∧ s' = s) ∨
  (k = 4 ∧ q = xad ∧ lo = 0 ∧ hi = 0 ∧ g = s.1 + 1 ∧ g ≤ 9 ∧ (∃ c, kids = [c] ∧ c.kind = 0) ∧ ∃ s1, ShL kids (s.1 + 1, s.2) s1 ∧ s' = s1.shut g) ∨
  (k = 5 ∧ q = xad ∧ g = 0 ∧ (0 ≤ lo ∧ lo ≤ 255) ∧ (hi = -1 ∨ lo ≤ hi ∧ hi ≤ 255) ∧ (∃ c, kids = [c] ∧ c.kind ≠ 0 ∧ c.kind ≠ 2 ∧ c.kind ≠ 3) ∧ ShL kids s s')
def ShL : List Tr → Sh → Sh → Prop
 | [], s, s' => s' = s
 | t :: ts, s, s' => ∃ s1, ShT t s s1 ∧ ShL ts s1 s'
end
theorem xh3 : ∀ (a b : List Tr) (s s' : Sh), ShL (a ++ b) s s' ↔ ∃ s1, ShL a s s1 ∧ ShL b s1 s'
 | [], b, s, s' => by simp [ShL]
 | t :: a, b, s, s' => by
  simp only [List.cons_append, ShL]
  constructor
  ·rintro ⟨s1, h1, h2⟩
   obtain ⟨s2, h3, h4⟩ := (xh3 a b s1 s').1 h2
   exact ⟨s2, ⟨s1, h1, h3⟩, h4⟩
  ·rintro ⟨s2, ⟨s1, h1, h3⟩, h4⟩
   exact ⟨s1, h1, (xh3 a b s1 s').2 ⟨s2, h3, h4⟩⟩
theorem xh4 (t : Tr) (s s' : Sh) : ShL [t] s s' ↔ ShT t s s' := by
 simp only [ShL]
 constructor
 ·rintro ⟨s1, h1, rfl⟩; exact h1
 ·intro h; exact ⟨s', h, rfl⟩
theorem xh5 {ts : List Tr} {t : Tr} {s s1 s' : Sh} (h : ShL ts s s1) (ht : ShT t s1 s') : ShL (ts ++ [t]) s s' := (xh3 _ _ _ _).2 ⟨s1, h, (xh4 _ _ _).2 ht⟩
def UpR : List Lv → Sh → Prop
 | [], _ => False
 | [l], s => ShL l.parts (0, fun _ => false) s
 | l :: l2 :: ls, s => ∃ s1, UpR (l2 :: ls) s1 ∧ l.grp = s1.1 + 1 ∧ ShL l.parts (s1.1 + 1, s1.2) s
theorem xmk {l : Lv} {ls : List Lv} {s s' : Sh} {t : Tr} (h : UpR (l :: ls) s) (ht : ShT t s s') : UpR ({ l with parts := l.parts ++ [t] } :: ls) s' := by
 cases ls with
 | nil => exact xh5 h ht
 | cons l2 ls =>
  obtain ⟨s1, h1, h2, h3⟩ := h
  exact ⟨s1, h1, h2, xh5 h3 ht⟩
theorem upR_last {l : Lv} {ls : List Lv} {s : Sh} {ts : List Tr} {x y : Tr} (hs : l.parts = ts ++ [x]) (h : UpR (l :: ls) s) (hy : ∀ s0, ShT x s0 s → ShT y s0 s) : UpR ({ l with parts := ts ++ [y] } :: ls) s := by
 have key : ∀ s0, ShL l.parts s0 s → ShL (ts ++ [y]) s0 s := fun s0 h => by
  rw [hs] at h
  obtain ⟨s1, h1, h2⟩ := (xh3 _ _ _ _).1 h
  exact xh5 h1 (hy s1 ((xh4 _ _ _).1 h2))
 cases ls with
 | nil => exact key _ h
 | cons l2 ls =>
  obtain ⟨s1, h1, h2, h3⟩ := h
  exact ⟨s1, h1, h2, key _ h3⟩
structure Shapes (P : Ps) (k : Nat) : Prop where
 up : UpR (P.top :: P.outer.reverse) (P.groups, P.shut)
 last : ∀ x, P.top.parts.getLast? = some x → x.kind ≠ 0 ∧ (x.kind = 2 → k = 2) ∧ (x.kind = 3 → k = 3)
theorem xjr : Shapes Ps.start 4 := ⟨rfl, fun x h => by cases h⟩
theorem xdq {P : Ps} {k : Nat} (h : Shapes P k) {t : Tr} (p : Int) (k' : Nat) (ht : ShT t (P.groups, P.shut) (P.groups, P.shut)) (hk : t.kind ≠ 0 ∧ (t.kind = 2 → k' = 2) ∧ (t.kind = 3 → k' = 3)) : Shapes (P.add t p) k' := by
 refine ⟨xmk h.up ht, fun x hx => ?_⟩
 have hx' : (P.top.parts ++ [t]).getLast? = some x := hx
 simp at hx'
 rw [← hx']
 exact hk
theorem xk8 {P : Ps} {k : Nat} (h : Shapes P k) (t : Tk) (hg9 : P.top.grp ≤ 9) (hk7 : t.kind ≤ 7) (hg : t.kind = 6 → 1 ≤ t.grp ∧ t.grp ≤ 9) (hr : t.kind = 7 → (0 ≤ t.lo ∧ t.lo ≤ 255) ∧ (t.hi = -1 ∨ t.lo ≤ t.hi ∧ t.hi ≤ 255)) (h7 : t.kind = 7 → k ≠ 2 ∧ k ≠ 3) (hk : t.kind ≠ 0) (h0 : (P.take t).1 = 0) : Shapes (P.take t).2 t.kind := by
 obtain ⟨kd, fr, to, er, q, gp, lo, hi⟩ := t
 have hkd : kd ≤ 7 := hk7
 rcases (show kd = 0 ∨ kd = 1 ∨ kd = 2 ∨ kd = 3 ∨ kd = 4 ∨ kd = 5 ∨ kd = 6 ∨ kd = 7 by omega) with rfl | rfl | rfl | rfl | rfl | rfl | rfl | rfl
 ·exact absurd rfl hk
 ·exact xdq h 1 1 (.inr (.inl ⟨.inl rfl, rfl, rfl, rfl, rfl, rfl⟩)) ⟨by show 1 ≠ 0; omega, (fun e => by cases e), (fun e => by cases e)⟩
 ·exact xdq h 0 2 (.inr (.inl ⟨.inr ⟨.inl rfl, rfl⟩, rfl, rfl, rfl, rfl, rfl⟩)) ⟨by show 2 ≠ 0; omega, fun _ => rfl, (fun e => by cases e)⟩
 ·exact xdq h 0 3 (.inr (.inl ⟨.inr ⟨.inr rfl, rfl⟩, rfl, rfl, rfl, rfl, rfl⟩)) ⟨by show 3 ≠ 0; omega, (fun e => by cases e), fun _ => rfl⟩
 ·by_cases h9 : P.groups = 9
  ·simp [Ps.take, h9] at h0
  ·have e : P.take ⟨4, fr, to, er, q, gp, lo, hi⟩ = (0, P.opened fr) := by simp [Ps.take, h9]
   rw [e]
   refine ⟨?_, fun x hx => by cases hx⟩
   show UpR ((P.opened fr).top :: (P.outer ++ [P.top]).reverse) _
   rw [List.reverse_append]
   exact ⟨(P.groups, P.shut), h.up, rfl, rfl⟩
 ·cases hl : P.outer.getLast? with
  | none => simp [Ps.take, hl] at h0
  | some l =>
   have e : P.take ⟨5, fr, to, er, q, gp, lo, hi⟩ = (0, P.close P.outer.dropLast l) := by simp only [Ps.take, hl]
   rw [e]
   have hs := xcu hl
   have hup := h.up
   rw [hs, List.reverse_append] at hup
   obtain ⟨s1, h1, h2, h3⟩ := hup
   refine ⟨?_, fun x hx => ?_⟩
   ·refine xmk h1 (.inr (.inr (.inr (.inl ⟨rfl, rfl, rfl, rfl, h2, hg9, ⟨catT P.top.parts, rfl, rfl⟩, (P.groups, P.shut), ?_, rfl⟩))))
    exact (xh4 _ _ _).2 (.inl ⟨rfl, rfl, rfl, rfl, rfl, h3⟩)
   ·have hx' : (l.parts ++ [xbp P.top.grp P.top.parts]).getLast? = some x := hx
    simp at hx'
    rw [← hx']
    exact ⟨by show 4 ≠ 0; omega, (fun e => by cases e), (fun e => by cases e)⟩
 ·cases hc : P.shut gp
  ·simp [Ps.take, hc] at h0
  ·have e : P.take ⟨6, fr, to, er, q, gp, lo, hi⟩ = (P.add (xi6 gp) 1).grown := by simp only [Ps.take, hc]; rfl
   rw [e]
   have hg' := hg rfl
   exact xdq h 1 6 (.inr (.inr (.inl ⟨rfl, rfl, rfl, rfl, rfl, hg'.1, hg'.2, hc, rfl⟩))) ⟨by show 6 ≠ 0; omega, (fun e => by cases e), (fun e => by cases e)⟩
 ·cases hl : P.top.parts.getLast? with
  | none =>
   have e : P.take ⟨7, fr, to, er, q, gp, lo, hi⟩ = (0, P) := by simp only [Ps.take, hl]
   rw [e]
   exact ⟨h.up, fun x hx => by rw [hl] at hx; cases hx⟩
  | some x =>
   have e : P.take ⟨7, fr, to, er, q, gp, lo, hi⟩ = (P.rep P.top.parts.dropLast x lo hi).grown := by simp only [Ps.take, hl]
   rw [e]
   have hs := xcu hl
   have hx := h.last x hl
   have h7' := h7 rfl
   have hr' := hr rfl
   refine ⟨?_, fun y hy => ?_⟩
   ·refine upR_last hs h.up (fun s0 hx0 => .inr (.inr (.inr (.inr ⟨rfl, rfl, rfl, hr'.1, hr'.2, ⟨x, rfl, hx.1, fun e => h7'.1 (hx.2.1 e), fun e => h7'.2 (hx.2.2 e)⟩, (xh4 _ _ _).2 hx0⟩))))
   ·have hy' : (P.top.parts.dropLast ++ [repT lo hi x]).getLast? = some y := hy
    simp at hy'
    rw [← hy']
    exact ⟨by show 5 ≠ 0; omega, (fun e => by cases e), (fun e => by cases e)⟩
structure TokMore (s : ByteArray) (i k : Nat) (t : Tk) : Prop where
 grp : t.kind = 6 → 1 ≤ t.grp
 rep : t.kind = 7 → t.hi = -1 ∨ t.lo ≤ t.hi
 eol : t.kind = 3 → shuts s t.to = true
theorem xbr (s : ByteArray) (i k : Nat) (t : Tk) (h3 : t.kind ≠ 3) (h6 : t.kind ≠ 6) (h7 : t.kind ≠ 7) : TokMore s i k t := ⟨fun h => absurd h h6, fun h => absurd h h7, fun h => absurd h h3⟩
theorem xbo (s : ByteArray) (i k : Nat) (e : Int) : TokMore s i k (xar e i) := xbr _ _ _ _ (by show 0 ≠ 3; omega) (by show 0 ≠ 6; omega) (by show 0 ≠ 7; omega)
theorem xde (s : ByteArray) (i k b j : Nat) : TokMore s i k (selfT b i j) := xbr _ _ _ _ (by show 1 ≠ 3; omega) (by show 1 ≠ 6; omega) (by show 1 ≠ 7; omega)
theorem xfl (s : ByteArray) (i k : Nat) : TokMore s i k (xbm s i) := by
 unfold xbm ivlT
 obtain ⟨inner, after, closed, hc⟩ : ∃ a b c, Lib.cut (s.data.toList.drop (i + 2)) [92, 125] = (a, b, c) := ⟨_, _, _, rfl⟩
 simp only [hc]
 split
 ·rename_i hu
  simp only [Bool.and_eq_true] at hu
  obtain ⟨_, hu⟩ := hu
  refine ⟨(fun h => by cases h), fun _ => ?_, (fun h => by cases h)⟩
  show (upper _ _ _).1 = -1 ∨ (((numS (Lib.cut inner [44]).1).1 : Nat) : Int) ≤ (upper _ _ _).1
  unfold upper at hu ⊢
  split at hu
  ·rename_i h2
   simp only [h2, if_true]
   split at hu
   ·rename_i h3
    simp only [h3, if_true]
    exact .inl trivial
   ·rename_i h3
    simp only [Bool.and_eq_true, decide_eq_true_eq] at hu
    simp only [h3]
    exact .inr (by simpa using hu.2)
  ·rename_i h2
   simp only [h2]
   exact .inr (Int.le_refl _)
 ·exact xbo s i k 9
theorem xh6 (s : ByteArray) (i k : Nat) : TokMore s i k (tokenT s i k) := by
 unfold tokenT
 split
 ·unfold xc6
  split
  ·exact xbo s i k 6
  generalize (xag s (i + 1)).toNat = b
  unfold escB
  split
  ·exact xbr _ _ _ _ (by show 4 ≠ 3; omega) (by show 4 ≠ 6; omega) (by show 4 ≠ 7; omega)
  split
  ·exact xbr _ _ _ _ (by show 5 ≠ 3; omega) (by show 5 ≠ 6; omega) (by show 5 ≠ 7; omega)
  split
  ·exact xfl s i k
  split
  ·exact xbo s i k 9
  split
  ·exact xde s i k 10 _
  split
  ·rename_i h3
   refine ⟨fun _ => ?_, (fun h => by cases h), (fun h => by cases h)⟩
   have h4 := h3.2
   have h5 := h3.1
   simp [digB] at h4
   show 1 ≤ b - 48
   omega
  split
  ·exact xbo s i k 12
  ·exact xde s i k b _
 split
 ·unfold xcp
  split
  ·exact xbo s i k _
  ·exact xbr _ _ _ _ (by show 1 ≠ 3; omega) (by show 1 ≠ 6; omega) (by show 1 ≠ 7; omega)
 split
 ·exact xbr _ _ _ _ (by show 1 ≠ 3; omega) (by show 1 ≠ 6; omega) (by show 1 ≠ 7; omega)
 split
 ·exact xbr _ _ _ _ (by show 2 ≠ 3; omega) (by show 2 ≠ 6; omega) (by show 2 ≠ 7; omega)
 split
 ·rename_i h
  exact ⟨(fun h => by cases h), (fun h => by cases h), fun _ => h.2⟩
 split
 ·exact ⟨(fun h => by cases h), fun _ => .inl rfl, (fun h => by cases h)⟩
 ·exact xde s i k _ _
theorem tok_shut (s : ByteArray) (i k : Nat) (hi : i < s.size) (h : shuts s i = true) : (tokenT s i k).kind = 5 := by
 have hp : Lib.hasPrefix (s.extract i s.size).data.toList [92, 41] = true := by
  unfold shuts at h
  rw [Bool.or_eq_true] at h
  rcases h with h | h
  ·have := of_decide_eq_true h; omega
  ·exact h
 rw [xe9] at hp
 have hpre : [92, 41] <+: s.data.toList.drop i := by
  unfold Lib.hasPrefix at hp
  exact List.isPrefixOf_iff_prefix.1 hp
 obtain ⟨r, hr⟩ := hpre
 have hlen := congrArg List.length hr
 simp only [List.length_append, List.length_cons, List.length_nil, List.length_drop] at hlen
 have hsz : s.data.toList.length = s.size := by simp
 have b0 : xag s i = 92 := by
  rw [xan hi]
  have h1 : s.data.toList[i]? = some 92 := by
   have := congrArg (fun l => l[0]?) hr
   simp at this
   simpa using this.symm
  have h2 : s[i] = 92 := by
   have h3 : i < s.data.toList.length := by omega
   rw [List.getElem?_eq_getElem h3] at h1
   exact Option.some.inj h1
  rw [h2]; rfl
 have hi1 : i + 1 < s.size := by omega
 have b1 : xag s (i + 1) = 41 := by
  rw [xan hi1]
  have h1 : s.data.toList[i + 1]? = some 41 := by
   have := congrArg (fun l => l[1]?) hr
   simp at this
   simpa using this.symm
  have h2 : s[i + 1] = 41 := by
   have h3 : i + 1 < s.data.toList.length := by omega
   rw [List.getElem?_eq_getElem h3] at h1
   exact Option.some.inj h1
  rw [h2]; rfl
 unfold tokenT
 rw [if_pos b0]
 unfold xc6
 rw [if_neg (by omega), b1]
 rfl
theorem xg9 (s : ByteArray) (hs : s.size ≤ 512) : ∀ (f i k : Nat) (P Q : Ps), Well P k i → Shapes P k → (k = 3 → shuts s i = true) → i ≤ s.size → runT s f i k P = .ok Q → ∃ k', Shapes Q k'
 | 0, i, k, P, Q, _, h, _, _, hr => by cases hr; exact ⟨k, h⟩
 | f + 1, i, k, P, Q, hw, h, h3, hi, hr => by
  rw [runT] at hr
  split at hr
  ·rename_i hlt
   split at hr
   ·rename_i h0
    obtain ⟨w1, w2, w3⟩ := xjq hlt hs hw h0
    have hta := xbf s i k hlt
    have hm := xh6 s i k
    have hk : (tokenT s i k).kind ≠ 0 := fun e => by
     have h9 : (P.take (tokenT s i k)).1 = (tokenT s i k).e := by simp only [Ps.take, e]
     rw [h0] at h9
     exact hta.fault e h9.symm
    have hs7 : (tokenT s i k).kind = 7 → k ≠ 2 ∧ k ≠ 3 := fun h7 => ⟨(fun e => by have := hta.rep h7; rw [e] at this; cases this), (fun e => by have := tok_shut s i k hlt (h3 e); omega)⟩
    have h2 := xk8 h (tokenT s i k) (by have := hw.good.top.1; have := hw.good.g9; omega) hta.ok.kind (fun h6 => ⟨hm.grp h6, hta.ok.grp h6⟩) (fun h7 => ⟨(hta.ok.rep h7).1, (hm.rep h7).imp id (fun e => ⟨e, (hta.ok.rep h7).2.2⟩)⟩) hs7 hk h0
    exact xg9 s hs f _ _ _ Q w1 h2 hm.eol w3 hr
   ·cases hr
  ·cases hr; exact ⟨k, h⟩
theorem xfg (s : ByteArray) (ts : List Tr) (h : parseT s = .ok ts) : ∃ s', ShT (catT ts) (0, fun _ => false) s' := by
 have hs : s.size ≤ 512 := by
  unfold parseT at h
  split at h
  ·cases h
  ·omega
 obtain ⟨P, hr, ho, rfl, _⟩ := xjo s ts h
 obtain ⟨k', hq⟩ := xg9 s hs _ 0 4 _ P xg8 xjr (fun e => by cases e) (Nat.zero_le _) hr
 have hu := hq.up
 rw [ho] at hu
 exact ⟨_, .inl ⟨rfl, rfl, rfl, rfl, rfl, hu⟩⟩
def xgl (P : Ps) (n : Nat) : Prop := ∀ l, l ∈ P.outer ++ [P.top] → l.pos ≤ n
theorem xdf {P Q : Ps} {n : Nat} (ho : Q.outer = P.outer) (ht : Q.top.pos = P.top.pos) (h : xgl P n) : xgl Q n := by
 intro l hl
 rw [ho] at hl
 rcases List.mem_append.1 hl with hl | hl
 ·exact h l (List.mem_append_left _ hl)
 ·rw [List.mem_singleton.1 hl, ht]; exact h P.top (by simp)
theorem xdg (P : Ps) : P.grown.2 = P := by
 unfold Ps.grown
 first | rfl | (split <;> rfl)
theorem pos_take {P : Ps} {n : Nat} (h : xgl P n) (t : Tk) (hf : t.fr ≤ n) : xgl (P.take t).2 n := by
 unfold Ps.take
 split
 ·exact h
 ·rw [xdg]; exact xdf (P := P) rfl rfl h
 ·rw [xdg]; exact xdf (P := P) rfl rfl h
 ·rw [xdg]; exact xdf (P := P) rfl rfl h
 ·split
  ·exact h
  ·intro l hl
   have hl' : l ∈ (P.outer ++ [P.top]) ++ [⟨t.fr, P.groups + 1, P.size, []⟩] := hl
   rcases List.mem_append.1 hl' with hl | hl
   ·exact h l hl
   ·rw [List.mem_singleton.1 hl]; exact hf
 ·split
  ·exact h
  ·rename_i l0 hl0
   have hne : P.outer = P.outer.dropLast ++ [l0] := by
    obtain ⟨ys, hys⟩ := List.getLast?_eq_some_iff.1 hl0
    rw [hys, List.dropLast_concat]
   have h0 : l0.pos ≤ n := h l0 (List.mem_append_left _ (by rw [hne]; simp))
   intro l hl
   rcases List.mem_append.1 hl with hl | hl
   ·have hl' : l ∈ P.outer.dropLast := hl
    exact h l (List.mem_append_left _ (List.dropLast_subset _ hl'))
   ·rw [List.mem_singleton.1 hl]; exact h0
 ·split
  ·rw [xdg]; exact xdf (P := P) rfl rfl h
  ·exact h
 ·split
  ·exact h
  ·rw [xdg]; exact xdf (P := P) rfl rfl h
theorem xjs (s : ByteArray) : ∀ (f i k : Nat) (P : Ps), xgl P s.size → (∀ e p, runT s f i k P = .error (e, p) → e ≠ 0 ∧ p ≤ s.size) ∧ (∀ Q, runT s f i k P = .ok Q → xgl Q s.size)
 | 0, i, k, P, h => ⟨(fun e p hr => by rw [runT] at hr; cases hr), (fun Q hr => by rw [runT] at hr; cases hr; exact h)⟩
 | f + 1, i, k, P, h => by
  rw [runT]
  by_cases hlt : i < s.size
  ·rw [if_pos hlt]
   by_cases h0 : (P.take (tokenT s i k)).1 = 0
   ·rw [if_pos h0]
    exact xjs s f _ _ _ (pos_take h _ (by rw [(xbf s i k hlt).fr]; omega))
   ·rw [if_neg h0]
    exact ⟨(fun e p hr => by cases hr; exact ⟨h0, by omega⟩), (fun Q hr => by cases hr)⟩
  ·rw [if_neg hlt]
   exact ⟨(fun e p hr => by cases hr), (fun Q hr => by cases hr; exact h)⟩
theorem xk9 (s : ByteArray) (e : Int) (p : Nat) (h : parseT s = .error (e, p)) : e ≠ 0 ∧ p ≤ s.size := by
 have hst : xgl Ps.start s.size := fun l hl => by
  have hl' : l = ⟨0, 0, 0, []⟩ := by simpa [Ps.start] using hl
  rw [hl']; exact Nat.zero_le _
 have hr := xjs s (s.size + 1) 0 4 Ps.start hst
 unfold parseT at h
 split at h
 ·cases h; exact ⟨by decide, Nat.zero_le _⟩
 ·split at h
  ·rename_i x hx
   cases h
   exact hr.1 _ _ hx
  ·rename_i Q hx
   split at h
   ·cases h
   ·cases h
    exact ⟨by decide, hr.2 _ hx _ (by simp)⟩
theorem xnw (s : ByteArray) (hl : 512 < s.size) (w : World) :
  Calls Try.prog 14 #[.string s] w fun e w' => e = .returned (.tuple #[.agg #[.int .i64 0, .int .u64 0, .int .u64 0, .int .u64 0, .int .u64 0, .int .i64 0, .int .i64 0, .int .i64 0, .slice none 0 0], .agg #[.int .i64 2, .int .i64 0]]) ∧ Below w.heap.size w w' := by
 have k1 : (512 : Int) < (s.size : Int) := by omega
 go_enter Try.func14, Try.ntmps14
 go_wp2
 exact bodyPost_ret (v := .tuple #[.agg #[.int .i64 0, .int .u64 0, .int .u64 0, .int .u64 0, .int .u64 0, .int .i64 0, .int .i64 0, .int .i64 0, .slice none 0 0], .agg #[.int .i64 2, .int .i64 0]]) (by simp [results, Try.results14, go_sem]) rfl ⟨rfl, ((Below.refl _ _).alloc (Nat.le_refl _) _).alloc (by simp) _⟩
theorem xla (s : ByteArray) (er : Int) (p : Nat) (ht : parseT s = .error (er, p)) (w : World) (hg : Glob w) :
  Calls Try.prog 14 #[.string s] w fun e w' => e = .returned (.tuple #[.agg #[.int .i64 0, .int .u64 0, .int .u64 0, .int .u64 0, .int .u64 0, .int .i64 0, .int .i64 0, .int .i64 0, .slice none 0 0], .agg #[.int .i64 er, .int .i64 p]]) ∧ Below w.heap.size w w' := by
 by_cases h : s.size ≤ 512
 ·exact xp2 s (by omega) er p ht w hg
 ·unfold parseT at ht
  rw [if_pos (by omega)] at ht
  cases ht
  exact xnw s (by omega) w
end Go.Proofs.Ytolpakpdkheanaa.br
