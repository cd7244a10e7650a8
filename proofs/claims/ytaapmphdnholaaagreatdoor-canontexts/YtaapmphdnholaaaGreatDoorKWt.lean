/- bracket: a set's text is pieces: a byte in marks, a byte, a range; and it is read as the set. -/
import Derived.Test.YtaapmphdnholaaaGreatDoorKIter
import Derived.Test.YtaapmphdnholaaaGreatDoorKTk
import Derived.Test.YtaapmphdnholaaaGreatDoorKLoc
import Derived.Test.YtaapmphdnholaaaGreatDoorKUt
namespace Go.Proofs.YtaapmphdnholaaaGreatDoor
theorem xsc (p : Nat → Bool) (k : Nat) : ∀ x ∈ mem p k, x < k := by
 intro x hx
 exact List.mem_range.1 (List.mem_filter.1 hx).1
structure Ck where
 kind : Nat
 x : Nat
 y : Nat
def ckT (c : Ck) : List Nat := if c.kind = 0 then [91, 46, c.x, 46, 93] else if c.kind = 1 then [c.x] else [c.x, 45, c.y]
def ckP (c : Ck) (n : Nat) : Bool := if c.kind ≤ 1 then n == c.x else decide (c.x ≤ n ∧ n ≤ c.y)
def ckOk (c : Ck) : Prop := c.x < 256 ∧ c.y < 256 ∧ (c.kind = 0 ∨ xfa c.x = false) ∧ (c.kind ≤ 1 ∨ (xfa c.y = false ∧ c.x ≤ c.y))
def flat (cs : List Ck) : List Nat := cs.flatMap ckT
theorem xeh (a b : List Ck) : flat (a ++ b) = flat a ++ flat b := by simp [flat]
theorem xf3 (c : Ck) (cs : List Ck) : flat (c :: cs) = ckT c ++ flat cs := by simp [flat]
theorem xop : flat [] = [] := rfl
def xqc (L : List Nat) (p : List Nat × List Nat) : Prop :=
 ∃ cs, p.1 = 91 :: flat cs ∧ (∀ c ∈ cs, ckOk c) ∧ (∃ h, p.2 = (List.range p.2.length).map (h + ·)) ∧ (∀ x ∈ p.2, x < 256 ∧ xfa x = false) ∧ ∀ n, n ∈ L ↔ ((∃ c ∈ cs, ckP c n = true) ∨ n ∈ p.2)
theorem xgf {L : List Nat} {p : List Nat × List Nat} (h : xqc L p) : ∃ cs, flush p = 91 :: flat cs ∧ (∀ c ∈ cs, ckOk c) ∧ ∀ n, n ∈ L ↔ ∃ c ∈ cs, ckP c n = true := by
 obtain ⟨o, r⟩ := p
 obtain ⟨cs, h1, h2, ⟨st, h3⟩, h4, h5⟩ := h
 simp only [] at h1 h3 h4 h5
 unfold flush
 simp only []
 by_cases hl : r.length < 3
 ·rw [if_pos hl]
  match r, hl with
  | [], _ => exact ⟨cs, by simp [h1], h2, fun n => by rw [h5]; simp⟩
  | [a], _ =>
   have ha := h4 a (by simp)
   refine ⟨cs ++ [⟨1, a, 0⟩], ?_, ?_, fun n => ?_⟩
   ·rw [h1, xeh]; simp [flat, ckT]
   ·intro c hc
    rcases List.mem_append.1 hc with hc | hc
    ·exact h2 c hc
    ·rw [List.mem_singleton] at hc; subst hc; exact ⟨ha.1, by simp, .inr ha.2, .inl (by simp)⟩
   ·rw [h5]
    simp [ckP, or_and_right, exists_or]
  | [a, b], _ =>
   have ha := h4 a (by simp)
   have hb := h4 b (by simp)
   refine ⟨cs ++ [⟨1, a, 0⟩, ⟨1, b, 0⟩], ?_, ?_, fun n => ?_⟩
   ·rw [h1, xeh]; simp [flat, ckT]
   ·intro c hc
    rcases List.mem_append.1 hc with hc | hc
    ·exact h2 c hc
    ·simp only [List.mem_cons, List.not_mem_nil, or_false] at hc
     rcases hc with rfl | rfl
     ·exact ⟨ha.1, by simp, .inr ha.2, .inl (by simp)⟩
     ·exact ⟨hb.1, by simp, .inr hb.2, .inl (by simp)⟩
   ·rw [h5]
    simp [ckP, or_and_right, exists_or]
 ·rw [if_neg hl]
  generalize hk : r.length = k at *
  have hx : r.headD 0 = st := by rw [h3]; cases k with | zero => omega | succ k => simp [List.range_succ_eq_map]
  have hy : r.getLastD 0 = st + (k - 1) := by
   rw [h3]; cases k with | zero => omega | succ k => simp [List.range_succ]
  have mx : st ∈ r := by rw [h3]; simp; omega
  have my : st + (k - 1) ∈ r := by rw [h3]; simp; omega
  have hx' := h4 _ mx
  have hy' := h4 _ my
  refine ⟨cs ++ [⟨2, st, st + (k - 1)⟩], ?_, ?_, fun n => ?_⟩
  ·rw [h1, xeh, hx, hy]; simp [flat, ckT]
  ·intro c hc
   rcases List.mem_append.1 hc with hc | hc
   ·exact h2 c hc
   ·rw [List.mem_singleton] at hc; subst hc; exact ⟨hx'.1, hy'.1, .inr hx'.2, .inr ⟨hy'.2, by simp⟩⟩
  ·rw [h5]
   have hn : n ∈ r ↔ st ≤ n ∧ n ≤ st + (k - 1) := by
    rw [h3]; simp
    constructor
    ·rintro ⟨a, ha, rfl⟩; omega
    ·intro hh; exact ⟨n - st, by omega, by omega⟩
   rw [hn]
   simp [ckP, or_and_right, exists_or]
theorem xqd {L : List Nat} {p : List Nat × List Nat} (h : xqc L p) (b : Nat) (hb : b < 256) : xqc (L ++ [b]) (tstep p b) := by
 unfold tstep
 by_cases hs : xfa b = true
 ·rw [if_pos hs]
  obtain ⟨cs, f1, f2, f3⟩ := xgf h
  refine ⟨cs ++ [⟨0, b, 0⟩], ?_, ?_, ⟨0, by simp⟩, by simp, fun n => ?_⟩
  ·simp only []; rw [f1, xeh]; simp [flat, ckT]
  ·intro c hc
   rcases List.mem_append.1 hc with hc | hc
   ·exact f2 c hc
   ·rw [List.mem_singleton] at hc; subst hc; exact ⟨hb, by simp, .inl rfl, .inl (by simp)⟩
  ·rw [List.mem_append, f3]
   simp [ckP, or_and_right, exists_or]
 ·rw [if_neg hs]
  have hs' : xfa b = false := by simpa using hs
  by_cases hr : p.2 = [] ∨ p.2.getLastD 0 + 1 = b
  ·rw [if_pos hr]
   obtain ⟨cs, h1, h2, ⟨st, h3⟩, h4, h5⟩ := h
   refine ⟨cs, h1, h2, ?_, ?_, fun n => ?_⟩
   ·simp only []
    rcases hr with hr | hr
    ·exact ⟨b, by rw [hr]; simp⟩
    ·by_cases h0 : p.2 = []
     ·exact ⟨b, by rw [h0]; simp⟩
     ·refine ⟨st, ?_⟩
      have hk : 0 < p.2.length := List.length_pos_iff.2 h0
      generalize p.2.length = k at *
      rw [h3] at hr ⊢
      cases k with
      | zero => omega
      | succ k =>
       simp [List.range_succ] at hr ⊢
       omega
   ·intro x hx
    simp only [List.mem_append, List.mem_singleton] at hx
    rcases hx with hx | rfl
    ·exact h4 x hx
    ·exact ⟨hb, hs'⟩
   ·rw [List.mem_append, h5]
    simp [or_assoc]
  ·rw [if_neg hr]
   obtain ⟨cs, f1, f2, f3⟩ := xgf h
   refine ⟨cs, f1, f2, ⟨b, by simp⟩, ?_, fun n => ?_⟩
   ·intro x hx
    simp only [List.mem_singleton] at hx
    subst hx
    exact ⟨hb, hs'⟩
   ·rw [List.mem_append, f3]
theorem xsd (L : List Nat) (hL : ∀ x ∈ L, x < 256) : xqc L (xfd L) := by
 suffices h : ∀ (M L : List Nat) (p : List Nat × List Nat), (∀ x ∈ M, x < 256) → xqc L p → xqc (L ++ M) (M.foldl tstep p) by
  have := h L [] ([91], []) hL ⟨[], rfl, by simp, ⟨0, rfl⟩, by simp, by simp⟩
  simpa [xfd] using this
 intro M
 induction M with
 | nil => intro L p _ h; simpa using h
 | cons b M ih =>
  intro L p hM h
  have := ih (L ++ [b]) (tstep p b) (fun x hx => hM x (by simp [hx])) (xqd h b (hM b (by simp)))
  simpa using this
theorem xnl (L : List Nat) (hL : ∀ x ∈ L, x < 256) : ∃ cs, flush (xfd L) = 91 :: flat cs ∧ (∀ c ∈ cs, ckOk c) ∧ ∀ n, n ∈ L ↔ ∃ c ∈ cs, ckP c n = true := xgf (xsd L hL)
/-! Reading. -/
theorem xnm (s : ByteArray) (k b n : Nat) (h : k < s.size) (hb : xac s k = (b : Int)) : ofP (s.extract k (k + 1)) n = (n == b) := by
 rw [xah h] at hb
 have hsz : (s.extract k (k + 1)).size = 1 := by rw [ByteArray.size_extract]; omega
 have h0 : (s.extract k (k + 1))[0]'(by omega) = s[k] := by rw [ByteArray.getElem_extract]; rfl
 have hl : (s.extract k (k + 1)).data.toList = [s[k]] := by
  refine List.ext_getElem hsz fun i h1 h2 => ?_
  simp at h2
  subst h2
  exact h0
 unfold ofP xd7
 rw [hsz, hl]
 simp only [List.take_succ_cons, List.take_zero, List.any_cons, List.any_nil, Bool.or_false]
 rw [Bool.eq_iff_iff, beq_iff_eq, beq_iff_eq]
 omega
theorem xkj {x : Nat} (h : xfa x = false) : x ≠ 93 ∧ x ≠ 94 ∧ x ≠ 45 ∧ x ≠ 91 := by
 unfold xfa at h
 simp only [Bool.or_eq_false_iff, beq_eq_false_iff_ne] at h
 exact ⟨h.1.1.1, h.1.1.2, h.1.2, h.2⟩
theorem xh4 (s : ByteArray) (k x : Nat) (hlt : k < s.size) (hb : xac s k = (x : Int)) (hx : xfa x = false) : xan s k = ⟨0, ofP (s.extract k (k + 1)), (x : Int), true, k + 1⟩ := by
 have hn := xkj hx
 rw [xan, if_pos hlt, if_neg, hb]
 unfold xb9
 rw [hb]
 have : ((x : Int) == 91) = false := by rw [beq_eq_false_iff_ne]; omega
 rw [this]
 simp
theorem xnn (s : ByteArray) (k : Nat) (h : ¬ xac s k = 45) : xbk s k = false := by
 unfold xbk
 have : (xac s k == 45) = false := by rw [beq_eq_false_iff_ne]; exact h
 rw [this]; rfl
theorem xno (s : ByteArray) (i : Nat) (c : Ck) (hok : ckOk c) (hb : ∀ (j b : Nat), (ckT c)[j]? = some b → xac s (i + j) = (b : Int)) (hn : ¬ xac s (i + (ckT c).length) = 45) (hlt : i + (ckT c).length < s.size) :
  ∃ q, xa2 s i = ⟨0, q, 0, false, i + (ckT c).length⟩ ∧ ∀ n, q n = ckP c n := by
 obtain ⟨kind, x, y⟩ := c
 obtain ⟨o1, o2, o3, o4⟩ := hok
 simp only [] at o1 o2 o3 o4
 unfold ckT at hb hn hlt ⊢
 unfold ckP
 simp only [] at hb hn hlt ⊢
 by_cases k0 : kind = 0
 ·subst k0
  simp only [if_true, List.length_cons, List.length_nil, Nat.zero_add, Nat.reduceAdd] at hb hn hlt ⊢
  have b0 := hb 0 91 rfl
  have b1 := hb 1 46 rfl
  have b2 := hb 2 x rfl
  have b3 := hb 3 46 rfl
  have b4 := hb 4 93 rfl
  rw [Nat.add_zero] at b0
  have hm : xb9 s i = true := by unfold xb9; rw [b0, b1]; rfl
  have hmk : mkAt s i = 46 := by unfold mkAt; rw [b1]; rfl
  have hc : xbm s (i + 3) (mkAt s i) = ((i + 3 : Nat) : Int) := by
   rw [hmk]
   refine xfg s (i + 3) (i + 3) 46 (Nat.le_refl _) ?_ (fun t h1 h2 => by omega)
   rw [b3, show i + 3 + 1 = i + 4 from rfl, b4]
   rfl
  have hi : xan s i = ⟨0, ofP (s.extract (i + 2) (i + 3)), (x : Int), true, i + 5⟩ := by
   rw [xan, if_pos (by omega), if_pos hm, xa1, hc, if_neg (by omega), if_neg (by rw [b1]; decide), if_pos (by omega), b2, b1]
   rfl
  refine ⟨ofP (s.extract (i + 2) (i + 3)), ?_, fun n => ?_⟩
  ·unfold xa2
   rw [hi]
   simp only []
   rw [if_neg (by simp), xnn s (i + 5) hn]
   simp
  ·rw [xnm s (i + 2) x n (by omega) b2]
   simp
 ·have ox : xfa x = false := o3.resolve_left k0
  by_cases k1 : kind = 1
  ·subst k1
   simp only [if_neg k0, if_true, List.length_cons, List.length_nil, Nat.zero_add] at hb hn hlt ⊢
   have b0 := hb 0 x rfl
   rw [Nat.add_zero] at b0
   have hi := xh4 s i x (by omega) b0 ox
   refine ⟨ofP (s.extract i (i + 1)), ?_, fun n => ?_⟩
   ·unfold xa2
    rw [hi]
    simp only []
    rw [if_neg (by simp), xnn s (i + 1) hn]
    simp
   ·rw [xnm s i x n (by omega) b0]
    simp
  ·obtain ⟨oy, oxy⟩ := o4.resolve_left (by omega)
   simp only [if_neg k0, if_neg k1, List.length_cons, List.length_nil, Nat.zero_add, Nat.reduceAdd] at hb hn hlt ⊢
   have b0 := hb 0 x rfl
   have b1 := hb 1 45 rfl
   have b2 := hb 2 y rfl
   rw [Nat.add_zero] at b0
   have hy := xkj oy
   have hi := xh4 s i x (by omega) b0 ox
   have hi2 := xh4 s (i + 2) y (by omega) b2 oy
   have hj : xbk s (i + 1) = true := by
    unfold xbk
    rw [b1, show i + 1 + 1 = i + 2 from rfl, b2]
    have : ((y : Int) == 93) = false := by rw [beq_eq_false_iff_ne]; omega
    rw [this]; rfl
   refine ⟨sP x y, ?_, fun n => ?_⟩
   ·unfold xa2
    rw [hi]
    simp only []
    rw [if_neg (by simp), if_pos hj]
    unfold xhl
    simp only []
    rw [show i + 1 + 1 = i + 2 from rfl, hi2]
    simp only []
    rw [if_neg (by omega), if_neg (by simp), if_neg (by simp), xnn s (i + 2 + 1) hn, if_neg (by simp; omega)]
    simp
   ·rw [if_neg (by omega)]
    rfl
theorem xe8 (c : Ck) (h : ckOk c) : ∃ b l, ckT c = b :: l ∧ b ≠ 45 ∧ b ≠ 93 ∧ b ≠ 94 := by
 obtain ⟨kind, x, y⟩ := c
 obtain ⟨o1, o2, o3, o4⟩ := h
 unfold ckT
 simp only [] at o3 ⊢
 by_cases k0 : kind = 0
 ·rw [if_pos k0]; exact ⟨_, _, rfl, by omega, by omega, by omega⟩
 ·have hx := xkj (o3.resolve_left k0)
  rw [if_neg k0]
  by_cases k1 : kind = 1
  ·rw [if_pos k1]; exact ⟨_, _, rfl, hx.2.2.1, hx.1, hx.2.1⟩
  ·rw [if_neg k1]; exact ⟨_, _, rfl, hx.2.2.1, hx.1, hx.2.1⟩
theorem xgg (s : ByteArray) : ∀ (cs : List Ck) (f : Nat) (first : Bool) (q : Nat → Bool) (i : Nat), (∀ c ∈ cs, ckOk c) → (∀ (j b : Nat), (flat cs)[j]? = some b → xac s (i + j) = (b : Int)) → xac s (i + (flat cs).length) = 93 → cs.length < f → (first = true → cs ≠ []) →
  ∃ q', xbi s f first q i = ⟨0, q', 0, false, i + (flat cs).length⟩ ∧ ∀ n, q' n = (q n || cs.any (ckP · n))
 | [], 0, _, _, _, _, _, _, hf, _ => by simp at hf
 | [], f + 1, first, q, i, _, _, hz, _, hne => by
  have : first = false := by
   cases first
   ·rfl
   ·exact absurd rfl (hne rfl)
  subst this
  rw [xop] at hz ⊢
  exact ⟨q, xcy s f q i hz, fun n => by simp⟩
 | c :: cs, 0, _, _, _, _, _, _, hf, _ => by simp at hf
 | c :: cs, f + 1, first, q, i, hok, hb, hz, hf, _ => by
  rw [xf3] at hb hz ⊢
  rw [List.length_append] at hz ⊢
  obtain ⟨b, l, hc, h45, h93, h94⟩ := xe8 c (hok c (by simp))
  have b0 : xac s i = (b : Int) := by
   have := hb 0 b (by rw [hc]; rfl)
   simpa using this
  have hb2 : ∀ (j b : Nat), (flat cs)[j]? = some b → xac s (i + (ckT c).length + j) = (b : Int) := fun j b h => by
   have := hb ((ckT c).length + j) b (by rw [List.getElem?_append_right (by omega)]; simpa using h)
   rw [← Nat.add_assoc] at this
   exact this
  have hnx : ¬ xac s (i + (ckT c).length) = 45 := by
   cases cs with
   | nil =>
    rw [xop, List.length_nil, Nat.add_zero] at hz
    rw [hz]; decide
   | cons c2 cs2 =>
    obtain ⟨b2, l2, hc2, h45', _, _⟩ := xe8 c2 (hok c2 (by simp))
    have := hb2 0 b2 (by rw [xf3, hc2]; rfl)
    rw [Nat.add_zero] at this
    rw [this]
    omega
  have hlt : i + (ckT c).length < s.size := by
   have := xa7 hz (by decide)
   omega
  obtain ⟨q1, he, hq1⟩ := xno s i c (hok c (by simp)) (fun j b h => hb j b (by rw [List.getElem?_append_left (by exact (List.getElem?_eq_some_iff.1 h).1)]; exact h)) hnx hlt
  have hne2 : ¬ (first = false ∧ xac s i = 93) := by
   rintro ⟨-, h⟩
   rw [b0] at h
   omega
  rw [xdp s f first q i hne2 (by rw [he]), he]
  simp only []
  rw [← Nat.add_assoc] at hz ⊢
  obtain ⟨q', h1, h2⟩ := xgg s cs f false (orP q q1) (i + (ckT c).length) (fun c h => hok c (by simp [h])) hb2 hz (by simpa using hf) (by simp)
  refine ⟨q', h1, fun n => ?_⟩
  rw [h2]
  simp [orP, hq1, Bool.or_assoc]
theorem xd3 (l : List Nat) (j b : Nat) (h : l[j]? = some b) (hb : b < 256) : xac (bstr l) j = (b : Int) := by
 have hj : j < l.length := (List.getElem?_eq_some_iff.1 h).1
 have e : l[j] = b := (List.getElem?_eq_some_iff.1 h).2
 have hs : j < (bstr l).size := by simpa [bstr, ByteArray.size] using hj
 rw [xah hs]
 have : (bstr l)[j] = UInt8.ofNat b := by
  show (bstr l).data[j] = _
  simp [bstr, e]
 rw [this]
 simp
 omega
theorem xi9 (l : List Nat) : (bstr l).size = l.length := by simp [bstr, ByteArray.size]
theorem xja (cs : List Ck) (hok : ∀ c ∈ cs, ckOk c) : ∀ b ∈ flat cs, b < 256 := by
 intro b hb
 unfold flat at hb
 obtain ⟨c, hc, hb⟩ := List.mem_flatMap.1 hb
 obtain ⟨o1, o2, -⟩ := hok c hc
 unfold ckT at hb
 split at hb
 ·simp at hb; omega
 ·split at hb
  ·simp at hb; omega
  ·simp at hb; omega
theorem xnp (cs : List Ck) (hok : ∀ c ∈ cs, ckOk c) (hne : cs ≠ []) : ∃ q, xbn (bstr (91 :: flat cs ++ [93])) 0 = ⟨0, q, 0, false, (91 :: flat cs ++ [93]).length⟩ ∧ ∀ n, q n = cs.any (ckP · n) := by
 have hfb := xja cs hok
 have hbt : ∀ (j b : Nat), (flat cs)[j]? = some b → xac (bstr (91 :: flat cs ++ [93])) (1 + j) = (b : Int) := fun j b h => by
  refine xd3 _ _ _ ?_ (hfb b (List.mem_of_getElem? h))
  rw [List.cons_append, Nat.add_comm, List.getElem?_cons_succ, List.getElem?_append_left (List.getElem?_eq_some_iff.1 h).1]
  exact h
 have hz : xac (bstr (91 :: flat cs ++ [93])) (1 + (flat cs).length) = 93 := by
  refine xd3 _ _ 93 ?_ (by decide)
  rw [List.cons_append, Nat.add_comm, List.getElem?_cons_succ, List.getElem?_append_right (Nat.le_refl _)]
  simp
 have h0 : xac (bstr (91 :: flat cs ++ [93])) 0 = 91 := xd3 _ _ 91 rfl (by decide)
 have h1 : ¬ xac (bstr (91 :: flat cs ++ [93])) (0 + 1) = 94 := by
  cases cs with
  | nil => exact absurd rfl hne
  | cons c cs =>
   obtain ⟨b, l, hc, _, _, h94⟩ := xe8 c (hok c (by simp))
   have := hbt 0 b (by rw [xf3, hc]; rfl)
   rw [Nat.zero_add]
   rw [Nat.add_zero] at this
   rw [this]
   omega
 have hcl : cs.length ≤ (flat cs).length := by
  clear hbt hz h0 h1 hfb hne
  induction cs with
  | nil => simp
  | cons c cs ih =>
   obtain ⟨b, l, hc, _⟩ := xe8 c (hok c (by simp))
   have := ih (fun c h => hok c (by simp [h]))
   rw [xf3, hc]
   simp
   omega
 obtain ⟨q, hl, hq⟩ := xgg (bstr (91 :: flat cs ++ [93])) cs ((bstr (91 :: flat cs ++ [93])).size + 2) true xad 1 hok hbt hz (by rw [xi9]; simp; omega) (fun _ => hne)
 refine ⟨q, ?_, fun n => by rw [hq]; simp [xad]⟩
 unfold xbn
 rw [if_pos h0, if_neg h1, Nat.zero_add, hl]
 simp
 omega
theorem xjb (p : Nat → Bool) : ∃ q, xbn (bstr (xde (mem p 256))) 0 = ⟨0, q, 0, false, (xde (mem p 256)).length⟩ ∧ Is q p := by
 unfold xde
 by_cases h : mem p 256 = []
 ·rw [if_pos h]
  have hz : xac (bstr [91, 94, 0, 45, 255, 93]) (2 + (flat [⟨2, 0, 255⟩]).length) = 93 := by decide
  have hok : ∀ c ∈ [(⟨2, 0, 255⟩ : Ck)], ckOk c := fun c hc => by
   rw [List.mem_singleton] at hc; subst hc
   exact ⟨by decide, by decide, .inr (by decide), .inr ⟨by decide, by decide⟩⟩
  have hbt : ∀ (j b : Nat), (flat [⟨2, 0, 255⟩])[j]? = some b → xac (bstr [91, 94, 0, 45, 255, 93]) (2 + j) = (b : Int) := fun j b h => by
   have hb : b < 256 := xja _ hok b (List.mem_of_getElem? h)
   refine xd3 _ _ _ ?_ hb
   rw [Nat.add_comm]
   show (flat [⟨2, 0, 255⟩] ++ [93])[j]? = some b
   rw [List.getElem?_append_left (List.getElem?_eq_some_iff.1 h).1]
   exact h
  obtain ⟨q, hl, hq⟩ := xgg (bstr [91, 94, 0, 45, 255, 93]) [⟨2, 0, 255⟩] ((bstr [91, 94, 0, 45, 255, 93]).size + 2) true xad 2 hok hbt hz (by decide) (by simp)
  refine ⟨notP q, ?_, fun n hn => ?_⟩
  ·unfold xbn
   rw [if_pos (by decide), if_pos (by decide), Nat.zero_add, hl]
   simp [flat, ckT]
  ·have hp : p n = false := by
    unfold mem at h
    rw [List.filter_eq_nil_iff] at h
    simpa using h n (List.mem_range.2 hn)
   rw [hp]
   simp [notP, hq, ckP]
   omega
 ·rw [if_neg h]
  obtain ⟨cs, h1, h2, h3⟩ := xnl (mem p 256) (xsc p 256)
  have hne : cs ≠ [] := by
   rintro rfl
   obtain ⟨x, hx⟩ := List.exists_mem_of_ne_nil _ h
   simpa using (h3 x).1 hx
  obtain ⟨q, hp, hq⟩ := xnp cs h2 hne
  rw [h1]
  refine ⟨q, hp, fun n hn => ?_⟩
  rw [hq, Bool.eq_iff_iff, List.any_eq_true, ← h3]
  unfold mem
  simp [hn]
theorem xh5 (p : Nat → Bool) : 3 ≤ (xde (mem p 256)).length ∧ (xde (mem p 256)).length ≤ 1300 := by
 have h1 := xpx (mem p 256)
 have h2 := xoc p 256
 have h3 := xeb (xfd (mem p 256))
 obtain ⟨q, h4, -⟩ := xjb p
 have h5 := xga (s := bstr (xde (mem p 256))) (i := 0) (by rw [h4])
 rw [h4] at h5
 refine ⟨by simpa using h5.1, ?_⟩
 unfold xde
 split
 ·simp
 ·simp; omega
open Go.RowKit
open Go.RowKit
def digL (n : Nat) : List UInt8 := if n < 10 then [UInt8.ofNat (48 + n)] else if n < 100 then [UInt8.ofNat (48 + n / 10), UInt8.ofNat (48 + n % 10)] else [UInt8.ofNat (48 + n / 100), UInt8.ofNat (48 + n / 10 % 10), UInt8.ofNat (48 + n % 10)]
def repX (lo hi : Int) : List UInt8 :=
 if lo = 0 ∧ hi < 0 then [42] else if hi < 0 then 92 :: 123 :: (digL lo.toNat ++ [44] ++ [92, 125]) else if hi = lo then 92 :: 123 :: (digL lo.toNat ++ [92, 125]) else 92 :: 123 :: (digL lo.toNat ++ 44 :: digL hi.toNat ++ [92, 125])
section
variable (st : (Nat → Bool) → List UInt8)
mutual
def wrT : Tr → List UInt8
 | .mk k q lo hi g kids => if k = 1 then st q else if k = 2 then [94] else if k = 3 then [36] else if k = 6 then [92, UInt8.ofNat (48 + g)] else if k = 4 then [92, 40] ++ wrL kids ++ [92, 41] else if k = 5 then wrL kids ++ repX lo hi else wrL kids
def wrL : List Tr → List UInt8
 | [] => []
 | t :: ts => wrT t ++ wrL ts
end
theorem xet : ∀ (ts us : List Tr), wrL st (ts ++ us) = wrL st ts ++ wrL st us
 | [], us => by simp [wrL]
 | t :: ts, us => by simp only [List.cons_append, wrL, xet ts us, List.append_assoc]
theorem xfj (t : Tr) : wrL st [t] = wrT st t := by simp [wrL]
theorem wr_byte (q : Nat → Bool) : wrT st (xbw q) = st q := by simp [xbw, wrT]
theorem wr_bol : wrT st bolT = [94] := by simp [bolT, wrT]
theorem wr_eol : wrT st eolT = [36] := by simp [eolT, wrT]
theorem wr_back (g : Nat) : wrT st (xd5 g) = [92, UInt8.ofNat (48 + g)] := by simp [xd5, wrT]
theorem xse (ts : List Tr) : wrT st (catT ts) = wrL st ts := by simp [catT, wrT]
theorem wr_group (k : Nat) (ts : List Tr) : wrT st (xbj k ts) = [92, 40] ++ wrL st ts ++ [92, 41] := by simp [xbj, wrT, wrL, xse]
theorem wr_rep (lo hi : Int) (t : Tr) : wrT st (repT lo hi t) = wrT st t ++ repX lo hi := by simp [repT, wrT, wrL]
def tkX (t : Tk) : List UInt8 := if t.kind = 1 then st t.q else if t.kind = 2 then [94] else if t.kind = 3 then [36] else if t.kind = 4 then [92, 40] else if t.kind = 5 then [92, 41] else if t.kind = 6 then [92, UInt8.ofNat (48 + t.grp)] else repX t.lo t.hi
def txP (P : Ps) : List UInt8 := (P.outer.map fun l => wrL st l.parts ++ [92, 40]).flatten ++ wrL st P.top.parts
theorem xkk (P : Ps) (t : Tk) (hk : t.kind ≠ 0) (hk7 : t.kind ≤ 7) (h0 : (P.take t).1 = 0) (h7 : t.kind = 7 → P.top.parts ≠ []) : txP st (P.take t).2 = txP st P ++ tkX st t := by
 rcases (show t.kind = 1 ∨ t.kind = 2 ∨ t.kind = 3 ∨ t.kind = 4 ∨ t.kind = 5 ∨ t.kind = 6 ∨ t.kind = 7 by omega) with c | c | c | c | c | c | c
 ·have e0 : P.take t = (P.add (xbw t.q) 1).grown := by simp only [Ps.take, c]
  rw [e0]
  show (P.outer.map fun l => wrL st l.parts ++ [92, 40]).flatten ++ wrL st (P.top.parts ++ [xbw t.q]) = _
  rw [xet, xfj, wr_byte]
  simp [txP, tkX, c]
 ·have e0 : P.take t = (P.add bolT 0).grown := by simp only [Ps.take, c]
  rw [e0]
  show (P.outer.map fun l => wrL st l.parts ++ [92, 40]).flatten ++ wrL st (P.top.parts ++ [bolT]) = _
  rw [xet, xfj, wr_bol]
  simp [txP, tkX, c]
 ·have e0 : P.take t = (P.add eolT 0).grown := by simp only [Ps.take, c]
  rw [e0]
  show (P.outer.map fun l => wrL st l.parts ++ [92, 40]).flatten ++ wrL st (P.top.parts ++ [eolT]) = _
  rw [xet, xfj, wr_eol]
  simp [txP, tkX, c]
 ·have e0 : P.take t = if P.groups = 9 then (4, P) else (0, P.opened t.fr) := by simp only [Ps.take, c]
  have g9 : P.groups ≠ 9 := fun x => by rw [e0, if_pos x] at h0; cases h0
  rw [e0, if_neg g9]
  show ((P.outer ++ [P.top]).map fun l => wrL st l.parts ++ [92, 40]).flatten ++ wrL st [] = _
  simp [txP, tkX, c, wrL]
 ·have e0 : P.take t = match P.outer.getLast? with | none => (10, P) | some l => (0, P.close P.outer.dropLast l) := by simp only [Ps.take, c]; rfl
  cases h : P.outer.getLast? with
  | none => rw [e0, h] at h0; cases h0
  | some l =>
   rw [e0, h]
   show (P.outer.dropLast.map fun l => wrL st l.parts ++ [92, 40]).flatten ++ wrL st (l.parts ++ [xbj P.top.grp P.top.parts]) = (P.outer.map fun l => wrL st l.parts ++ [92, 40]).flatten ++ wrL st P.top.parts ++ _
   conv => rhs; rw [xcd h]
   rw [xet, xfj, wr_group]
   simp [tkX, c]
 ·have e0 : P.take t = if P.shut t.grp then (P.add (xd5 t.grp) 1).grown else (11, P) := by simp only [Ps.take, c]
  have x : P.shut t.grp = true := by
   by_cases x : P.shut t.grp = true
   ·exact x
   ·rw [e0, if_neg x] at h0; cases h0
  rw [e0, if_pos x]
  show (P.outer.map fun l => wrL st l.parts ++ [92, 40]).flatten ++ wrL st (P.top.parts ++ [xd5 t.grp]) = _
  rw [xet, xfj, wr_back]
  simp [txP, tkX, c]
 ·have e0 : P.take t = match P.top.parts.getLast? with | none => (0, P) | some x => (P.rep P.top.parts.dropLast x t.lo t.hi).grown := by simp only [Ps.take, c]; rfl
  cases h : P.top.parts.getLast? with
  | none => exact absurd (List.getLast?_eq_none_iff.1 h) (h7 c)
  | some x =>
   rw [e0, h]
   show (P.outer.map fun l => wrL st l.parts ++ [92, 40]).flatten ++ wrL st (P.top.parts.dropLast ++ [repT t.lo t.hi x]) = (P.outer.map fun l => wrL st l.parts ++ [92, 40]).flatten ++ wrL st P.top.parts ++ _
   conv => rhs; rw [xcd h]
   rw [xet, xfj, wr_rep, xet, xfj]
   simp [tkX, c]
end
open Go.RowKit
open Go.RowKit
theorem xg3 {s : ByteArray} {P : Ps} {i k : Nat} (hi : i < s.size) (hw : Well P k i) : (xaf s i k).kind = 7 → P.top.parts ≠ [] := fun c => hw.parts (fun e => by
 have := (xbd s i k hi).rep c
 rw [e] at this
 cases this)
open Go.RowKit
def xkm (b : Nat) : List UInt8 := if b = 10 then [92, 110] else if b = 46 ∨ b = 91 ∨ b = 93 ∨ b = 42 ∨ b = 94 ∨ b = 36 ∨ b = 92 then [92, UInt8.ofNat b] else [UInt8.ofNat b]
def stC (q : Nat → Bool) : List UInt8 := if (mem q 256).length = 256 then [46] else if (mem q 256).length = 1 then xkm ((mem q 256).headD 0) else (xde (mem q 256)).map UInt8.ofNat
end Go.Proofs.YtaapmphdnholaaaGreatDoor
