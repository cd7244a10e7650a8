/- bre: what is known of every token. -/
import Derived.Test.YtolpakpdkheanaaKPn
import Derived.Test.YtolpakpdkheanaaKTok
import Derived.Test.YtolpakpdkheanaaKRe
import Derived.Test.YtolpakpdkheanaaKLoc
namespace Go.Proofs.Ytolpakpdkheanaa.br
open Go.RowKit
structure TokAt (s : ByteArray) (i k : Nat) (t : Tk) : Prop where
 ok : TkOk t
 fr : t.fr = i
 next : t.kind ≠ 0 → i < t.to ∧ t.to ≤ s.size
 fault : t.kind = 0 → t.e ≠ 0
 rep : t.kind = 7 → repB k = true
theorem xci (s : ByteArray) (i k : Nat) (e : Int) (h : e ≠ 0) : TokAt s i k (xar e i) :=
 ⟨⟨Nat.zero_le _, (fun h => by cases h), (fun h => by cases h)⟩, rfl, fun h => absurd rfl h, fun _ => h, (fun h => by cases h)⟩
theorem xe1 (s : ByteArray) (i k b j : Nat) (h : i < j ∧ j ≤ s.size) : TokAt s i k (selfT b i j) :=
 ⟨⟨by show 1 ≤ 7; omega, (fun h => by cases h), (fun h => by cases h)⟩, rfl, fun _ => h, (fun h => by cases h), (fun h => by cases h)⟩
theorem xh0 (l : List UInt8) (h : (numS l).2 = true) : (numS l).1 ≤ 255 := by
 unfold numS at h ⊢
 split
 ·rename_i hd
  rw [if_pos hd] at h
  simp at h ⊢
  omega
 ·rename_i hd
  rw [if_neg hd] at h
  simp at h
theorem xgw (s : ByteArray) (i k : Nat) (hi : i + 1 < s.size) (hk : repB k = true) : TokAt s i k (xbm s i) := by
 unfold xbm ivlT
 obtain ⟨inner, after, closed, hc⟩ : ∃ a b c, Lib.cut (s.data.toList.drop (i + 2)) [92, 125] = (a, b, c) := ⟨_, _, _, rfl⟩
 simp only [hc]
 split
 ·rename_i hu
  simp only [Bool.and_eq_true] at hu
  obtain ⟨hcl, hu⟩ := hu
  have hf := xps (s.data.toList.drop (i + 2)) [92, 125] (by rw [hc]; exact hcl)
  rw [hc] at hf
  have hlen := congrArg List.length hf
  simp only [List.length_drop, List.length_append, List.length_cons, List.length_nil] at hlen
  have hsz : s.data.toList.length = s.size := by simp
  refine ⟨⟨by show 7 ≤ 7; omega, (fun h => by cases h), fun _ => ?_⟩, rfl, fun _ => ⟨by show i < i + (inner.length + 4); omega, by show i + (inner.length + 4) ≤ s.size; omega⟩, (fun h => by cases h), fun _ => hk⟩
  show (0 ≤ (((numS (Lib.cut inner [44]).1).1 : Nat) : Int) ∧ (((numS (Lib.cut inner [44]).1).1 : Nat) : Int) ≤ 255) ∧ _
  unfold upper at hu ⊢
  split at hu
  ·rename_i h2
   simp only [h2, if_true]
   split at hu
   ·rename_i h3
    have := xh0 _ hu
    simp only [h3, if_true]
    omega
   ·rename_i h3
    simp only [Bool.and_eq_true, decide_eq_true_eq] at hu
    have h4 := xh0 _ hu.1.1
    have h5 := xh0 _ hu.1.2
    simp only [h3]
    simp
    omega
  ·rename_i h2
   have := xh0 _ hu
   simp only [h2]
   simp
   omega
 ·exact xci s i k 9 (by omega)
theorem xjj (s : ByteArray) (i k : Nat) (hi : i < s.size) : TokAt s i k (xc6 s i k) := by
 unfold xc6
 split
 ·exact xci s i k 6 (by omega)
 rename_i h1
 have h2 : i < i + 2 ∧ i + 2 ≤ s.size := by omega
 generalize (xag s (i + 1)).toNat = b
 unfold escB
 split
 ·exact ⟨⟨by show 4 ≤ 7; omega, (fun h => by cases h), (fun h => by cases h)⟩, rfl, fun _ => h2, (fun h => by cases h), (fun h => by cases h)⟩
 split
 ·exact ⟨⟨by show 5 ≤ 7; omega, (fun h => by cases h), (fun h => by cases h)⟩, rfl, fun _ => h2, (fun h => by cases h), (fun h => by cases h)⟩
 split
 ·rename_i h3
  exact xgw s i k (by omega) h3.2
 split
 ·exact xci s i k 9 (by omega)
 split
 ·exact xe1 s i k 10 _ h2
 split
 ·rename_i h3
  refine ⟨⟨by show 6 ≤ 7; omega, fun _ => ?_, (fun h => by cases h)⟩, rfl, fun _ => h2, (fun h => by cases h), (fun h => by cases h)⟩
  have h4 := h3.2
  simp [digB] at h4
  show b - 48 ≤ 9
  omega
 split
 ·exact xci s i k 12 (by omega)
 ·exact xe1 s i k b _ h2
theorem xbf (s : ByteArray) (i k : Nat) (hi : i < s.size) : TokAt s i k (tokenT s i k) := by
 have h1 : i < i + 1 ∧ i + 1 ≤ s.size := by omega
 unfold tokenT
 split
 ·exact xjj s i k hi
 split
 ·unfold xcp
  split
  ·rename_i he
   exact xci s i k _ he
  ·rename_i he
   have he : (xay s (i : Int)).e = 0 := by simpa using he
   have hx : xay s (i : Int) = xco s i := by simp [xay]
   rw [hx] at he ⊢
   obtain ⟨f1, f2, _⟩ := xno he
   exact ⟨⟨by show 1 ≤ 7; omega, (fun h => by cases h), (fun h => by cases h)⟩, rfl, fun _ => ⟨by show i < (xco s i).next; omega, f2⟩, (fun h => by cases h), (fun h => by cases h)⟩
 split
 ·exact ⟨⟨by show 1 ≤ 7; omega, (fun h => by cases h), (fun h => by cases h)⟩, rfl, fun _ => h1, (fun h => by cases h), (fun h => by cases h)⟩
 split
 ·exact ⟨⟨by show 2 ≤ 7; omega, (fun h => by cases h), (fun h => by cases h)⟩, rfl, fun _ => h1, (fun h => by cases h), (fun h => by cases h)⟩
 split
 ·exact ⟨⟨by show 3 ≤ 7; omega, (fun h => by cases h), (fun h => by cases h)⟩, rfl, fun _ => h1, (fun h => by cases h), (fun h => by cases h)⟩
 split
 ·rename_i h2
  refine ⟨⟨by show 7 ≤ 7; omega, (fun h => by cases h), fun _ => ?_⟩, rfl, fun _ => h1, (fun h => by cases h), fun _ => h2.2⟩
  show ((0 : Int) ≤ 0 ∧ (0 : Int) ≤ 255) ∧ (-1 : Int) ≤ -1 ∧ (-1 : Int) ≤ 255
  omega
 ·exact xe1 s i k _ _ h1
theorem xdd {n : Int} (h : bigE n = 0) : n ≤ 256 := by
 unfold bigE at h
 split at h
 ·cases h
 ·omega
theorem ord_last {xs : List Int} {a b : Int} (h : (xs ++ [a]).Pairwise (· ≤ ·)) (hab : a ≤ b) : (xs ++ [b]).Pairwise (· ≤ ·) := by
 rw [List.pairwise_append] at h ⊢
 refine ⟨h.1, by simp, fun x hx y hy => ?_⟩
 obtain rfl := List.mem_singleton.1 hy
 exact Int.le_trans (h.2.2 x hx a (by simp)) hab
theorem xfr {P : Ps} {n : Nat} (hG : Good P n) (t : Tr) (p : Int) (hp : 0 ≤ p) (hb : P.size + p ≤ 256) : Good (P.add t p) (n + 1) := by
 have hbd := hG.bounds
 have hm : (P.outer ++ [(P.add t p).top]).map Lv.before = (P.outer ++ [P.top]).map Lv.before := by simp [Ps.add]
 refine ⟨hG.g9, hG.len, ?_, ?_, ?_, hb, ?_⟩
 ·intro l hl
  rcases List.mem_append.1 hl with h1 | h1
  ·have := hG.grp l (List.mem_append_left _ h1)
   exact ⟨this.1, by omega⟩
  ·obtain rfl := List.mem_singleton.1 h1
   refine ⟨hG.top.1, ?_⟩
   have := hG.top.2
   show (P.top.parts ++ [t]).length ≤ n + 1
   simp
   exact this
 ·show ((P.outer ++ [(P.add t p).top]).map Lv.before ++ [P.size + p]).Pairwise _
  rw [hm]
  exact ord_last hG.ord (by omega)
 ·intro l hl
  rcases List.mem_append.1 hl with h1 | h1
  ·exact hG.low l (List.mem_append_left _ h1)
  ·obtain rfl := List.mem_singleton.1 h1
   exact hbd.1
 ·intro _
  show 0 ≤ p ∧ p ≤ P.size + p - P.top.before
  omega
theorem xpu {P : Ps} {n : Nat} (hG : Good P n) (i : Nat) (h9 : P.groups ≠ 9) : Good (P.opened i) (n + 1) := by
 have hbd := hG.bounds
 have := hG.g9
 have hall : ∀ x, x ∈ (P.outer ++ [P.top]).map Lv.before → x ≤ P.size := fun x hx => (List.pairwise_append.1 hG.ord).2.2 x hx P.size (by simp)
 refine ⟨by show P.groups + 1 ≤ 9; omega, ?_, ?_, ?_, ?_, hG.big, fun h => absurd rfl h⟩
 ·show (P.outer ++ [P.top]).length ≤ P.groups + 1
  have := hG.len
  simp
  exact this
 ·intro l hl
  have hl' : l ∈ (P.outer ++ [P.top]) ++ [(P.opened i).top] := hl
  rcases List.mem_append.1 hl' with h1 | h1
  ·have := hG.grp l h1
   exact ⟨by show l.grp ≤ P.groups + 1; omega, by omega⟩
  ·obtain rfl := List.mem_singleton.1 h1
   exact ⟨Nat.le_refl _, Nat.zero_le _⟩
 ·show (((P.outer ++ [P.top]) ++ [(P.opened i).top]).map Lv.before ++ [P.size]).Pairwise _
  rw [List.map_append, List.append_assoc]
  rw [List.pairwise_append]
  refine ⟨(List.pairwise_append.1 hG.ord).1, by simp [Ps.opened], fun x hx y hy => ?_⟩
  have hy' : y = P.size := by
   rcases List.mem_append.1 hy with h1 | h1
   ·simpa [Ps.opened] using h1
   ·exact List.mem_singleton.1 h1
  rw [hy']
  exact hall x hx
 ·intro l hl
  have hl' : l ∈ (P.outer ++ [P.top]) ++ [(P.opened i).top] := hl
  rcases List.mem_append.1 hl' with h1 | h1
  ·exact hG.low l h1
  ·obtain rfl := List.mem_singleton.1 h1
   show 0 ≤ P.size
   omega
theorem xnp {P : Ps} {n : Nat} (hG : Good P n) {ou : List Lv} {l : Lv} (hou : P.outer = ou ++ [l]) : Good (P.close ou l) (n + 1) := by
 have hbd := hG.bounds
 have hlm : l ∈ P.outer ++ [P.top] := by rw [hou]; simp
 have hord := hG.ord
 rw [hou] at hord
 have hlt : l.before ≤ P.top.before := by
  rw [List.map_append, List.append_assoc, List.pairwise_append] at hord
  exact hord.2.2 l.before (by simp) P.top.before (by simp)
 have h0 := hG.low l hlm
 refine ⟨hG.g9, ?_, ?_, ?_, ?_, ?_, fun _ => ?_⟩
 ·have := hG.len
  rw [hou] at this
  simp at this
  show ou.length ≤ P.groups
  omega
 ·intro l' hl'
  have hl2 : l' ∈ ou ++ [{ l with parts := l.parts ++ [xbp P.top.grp P.top.parts] }] := hl'
  rcases List.mem_append.1 hl2 with h1 | h1
  ·have := hG.grp l' (by rw [hou]; simp [h1])
   exact ⟨this.1, by omega⟩
  ·obtain rfl := List.mem_singleton.1 h1
   have := hG.grp l hlm
   exact ⟨this.1, by simp; exact this.2⟩
 ·show ((ou ++ [{ l with parts := l.parts ++ [xbp P.top.grp P.top.parts] }]).map Lv.before ++ [P.size + 0]).Pairwise _
  rw [Int.add_zero]
  refine hord.sublist ?_
  simp only [List.map_append, List.map_cons, List.map_nil, List.append_assoc]
  refine List.Sublist.append (List.Sublist.refl _) ?_
  simp
 ·intro l' hl'
  have hl2 : l' ∈ ou ++ [{ l with parts := l.parts ++ [xbp P.top.grp P.top.parts] }] := hl'
  rcases List.mem_append.1 hl2 with h1 | h1
  ·exact hG.low l' (by rw [hou]; simp [h1])
  ·obtain rfl := List.mem_singleton.1 h1
   exact h0
 ·show P.size + 0 ≤ 256
  have := hG.big
  omega
 ·show 0 ≤ P.size - P.top.before ∧ P.size - P.top.before ≤ P.size + 0 - l.before
  omega
theorem good_rep {P : Ps} {n : Nat} (hG : Good P n) {ts : List Tr} {x : Tr} (hs : P.top.parts = ts ++ [x]) (lo hi : Int) (hb : P.size + P.last * (xav lo hi - 1) ≤ 256) : Good (P.rep ts x lo hi) (n + 1) := by
 have hbd := hG.bounds
 have hla := hG.last (by rw [hs]; simp)
 have hT : 0 ≤ xav lo hi := by
  unfold xav
  split <;> omega
 have hm := Int.mul_nonneg hla.1 hT
 have he : P.last * (xav lo hi - 1) = P.last * xav lo hi - P.last := by rw [Int.mul_sub, Int.mul_one]
 refine ⟨hG.g9, hG.len, ?_, ?_, ?_, hb, fun _ => ?_⟩
 ·intro l hl
  rcases List.mem_append.1 hl with h1 | h1
  ·have := hG.grp l (List.mem_append_left _ h1)
   exact ⟨this.1, by omega⟩
  ·obtain rfl := List.mem_singleton.1 h1
   refine ⟨hG.top.1, ?_⟩
   have := hG.top.2
   rw [hs] at this
   show (ts ++ [repT lo hi x]).length ≤ n + 1
   simp at this ⊢
   omega
 ·show ((P.outer ++ [(P.rep ts x lo hi).top]).map Lv.before ++ [P.size + P.last * (xav lo hi - 1)]).Pairwise _
  have hm2 : (P.outer ++ [(P.rep ts x lo hi).top]).map Lv.before = P.outer.map Lv.before ++ [P.top.before] := by simp [Ps.rep]
  rw [hm2, List.append_assoc]
  have ho := hG.ord
  rw [List.map_append, List.append_assoc, List.pairwise_append] at ho
  rw [List.pairwise_append]
  have hle : P.top.before ≤ P.size + P.last * (xav lo hi - 1) := by rw [he]; omega
  refine ⟨ho.1, ?_, fun a ha b hb => ?_⟩
  ·simpa using hle
  ·have h1 := ho.2.2 a ha P.top.before (by simp)
   rcases List.mem_cons.1 hb with rfl | hb
   ·exact h1
   ·obtain rfl := List.mem_singleton.1 hb
    omega
 ·intro l hl
  rcases List.mem_append.1 hl with h1 | h1
  ·exact hG.low l (List.mem_append_left _ h1)
  ·obtain rfl := List.mem_singleton.1 h1
   exact hbd.1
 ·show 0 ≤ P.last * xav lo hi ∧ P.last * xav lo hi ≤ P.size + P.last * (xav lo hi - 1) - P.top.before
  rw [he]
  omega
theorem xgh {P : Ps} {n : Nat} (hG : Good P n) (t : Tk) (ht : TkOk t) (h7 : t.kind = 7 → P.top.parts ≠ []) (hk : t.kind ≠ 0) (h0 : (P.take t).1 = 0) : Good (P.take t).2 (n + 1) ∧ (t.kind ≠ 4 → (P.take t).2.top.parts ≠ []) := by
 obtain ⟨kd, fr, to, er, q, gp, lo, hi⟩ := t
 have hkd : kd ≤ 7 := ht.kind
 rcases (show kd = 0 ∨ kd = 1 ∨ kd = 2 ∨ kd = 3 ∨ kd = 4 ∨ kd = 5 ∨ kd = 6 ∨ kd = 7 by omega) with rfl | rfl | rfl | rfl | rfl | rfl | rfl | rfl
 ·exact absurd rfl hk
 ·exact ⟨xfr hG _ 1 (by omega) (xdd h0), fun _ => by simp [Ps.take, Ps.grown, Ps.add]⟩
 ·exact ⟨xfr hG _ 0 (by omega) (xdd h0), fun _ => by simp [Ps.take, Ps.grown, Ps.add]⟩
 ·exact ⟨xfr hG _ 0 (by omega) (xdd h0), fun _ => by simp [Ps.take, Ps.grown, Ps.add]⟩
 ·refine ⟨?_, fun h => absurd rfl h⟩
  by_cases h9 : P.groups = 9
  ·simp [Ps.take, h9] at h0
  ·have e : P.take ⟨4, fr, to, er, q, gp, lo, hi⟩ = (0, P.opened fr) := by simp [Ps.take, h9]
   rw [e]
   exact xpu hG fr h9
 ·cases hl : P.outer.getLast? with
  | none => simp [Ps.take, hl] at h0
  | some l =>
   have e : P.take ⟨5, fr, to, er, q, gp, lo, hi⟩ = (0, P.close P.outer.dropLast l) := by simp only [Ps.take, hl]
   rw [e]
   exact ⟨xnp hG (xcu hl), fun _ => by simp [Ps.close, Ps.add, Ps.pop]⟩
 ·cases hc : P.shut gp
  ·simp [Ps.take, hc] at h0
  ·have e : P.take ⟨6, fr, to, er, q, gp, lo, hi⟩ = (P.add (xi6 gp) 1).grown := by simp only [Ps.take, hc]; rfl
   rw [e] at h0 ⊢
   exact ⟨xfr hG _ 1 (by omega) (xdd h0), fun _ => by simp [Ps.grown, Ps.add]⟩
 ·have h7' := h7 rfl
  cases hl : P.top.parts.getLast? with
  | none => exact absurd (List.getLast?_eq_none_iff.1 hl) h7'
  | some x =>
   have e : P.take ⟨7, fr, to, er, q, gp, lo, hi⟩ = (P.rep P.top.parts.dropLast x lo hi).grown := by simp only [Ps.take, hl]
   rw [e] at h0 ⊢
   exact ⟨good_rep hG (xcu hl) lo hi (xdd h0), fun _ => by simp [Ps.grown, Ps.rep]⟩
def Ps.start : Ps := ⟨[], ⟨0, 0, 0, []⟩, 0, fun _ => false, 0, 0⟩
theorem xg6 : Good Ps.start 0 := by
 refine ⟨by show 0 ≤ 9; omega, Nat.le_refl _, ?_, by simp [Ps.start], ?_, by show (0 : Int) ≤ 256; omega, fun h => absurd rfl h⟩
 ·intro l hl
  have hl' : l = ⟨0, 0, 0, []⟩ := by simpa [Ps.start] using hl
  subst hl'
  exact ⟨Nat.le_refl _, Nat.le_refl _⟩
 ·intro l hl
  have hl' : l = ⟨0, 0, 0, []⟩ := by simpa [Ps.start] using hl
  subst hl'
  exact Int.le_refl _
noncomputable def runT (s : ByteArray) : Nat → Nat → Nat → Ps → Except (Int × Nat) Ps
 | 0, _, _, P => .ok P
 | f + 1, i, k, P => if i < s.size then (if (P.take (tokenT s i k)).1 = 0 then runT s f (tokenT s i k).to (tokenT s i k).kind (P.take (tokenT s i k)).2 else .error ((P.take (tokenT s i k)).1, i)) else .ok P
noncomputable def parseT (s : ByteArray) : Except (Int × Nat) (List Tr) :=
 if s.size > 512 then .error (2, 0)
 else match runT s (s.size + 1) 0 4 Ps.start with
  | .error x => .error x
  | .ok P => if P.outer.length = 0 then .ok P.top.parts else .error (10, P.top.pos)
end Go.Proofs.Ytolpakpdkheanaa.br
