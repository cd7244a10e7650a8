/- setmatch (pure): bits of what is taken; ways through a part. setmatch (pure): settle ends; parts are tied. setmatch (pure): match ends; what is found further on. setmatch (pure): what Parse answers, without a beginning; spans lie within. -/
import Derived.Test.YtmkcpocaheogaaaDoorKA7
import Derived.Test.YtmkcpocaheogaaaDoorKA4
set_option maxRecDepth 100000
set_option maxHeartbeats 4000000
namespace Go.Proofs.YtmkcpocaheogaaaDoor.smt
open Go.Proofs.YtmkcpocaheogaaaDoor.br
theorem mem_iff {w x : Nat} : x ∈ mem 256 w ↔ x < 256 ∧ w.testBit x = true := by
 rw [mem_mr, mr, List.mem_filter, List.mem_range'_1]
 constructor
 · rintro ⟨h1, h2⟩; exact ⟨by omega, h2⟩
 · rintro ⟨h1, h2⟩; exact ⟨by omega, h2⟩
theorem and0 {a b : Nat} : Nat.beq (a &&& b) 0 = false ↔ ∃ i, a.testBit i = true ∧ b.testBit i = true := by
 constructor
 · intro h
   have h0 : a &&& b ≠ 0 := fun e => by rw [e] at h; cases h
   obtain ⟨i, hi⟩ := Nat.exists_testBit_of_ne_zero h0
   rw [Nat.testBit_and, Bool.and_eq_true] at hi
   exact ⟨i, hi⟩
 · rintro ⟨i, h1, h2⟩
   cases e : Nat.beq (a &&& b) 0 with
   | false => rfl
   | true =>
    have := congrArg (fun n => n.testBit i) (Nat.eq_of_beq_eq_true e)
    simp [Nat.testBit_and, h1, h2] at this
theorem fold_or_bit {α : Type} (g : α → Nat) : ∀ (l : List α) (a y : Nat), (l.foldl (fun a i => a ||| g i) a).testBit y = true ↔ a.testBit y = true ∨ ∃ x ∈ l, (g x).testBit y = true
 | [], a, y => by simp
 | z :: l, a, y => by
  rw [List.foldl_cons, fold_or_bit g l, Nat.testBit_or, Bool.or_eq_true]
  constructor
  · rintro ((h | h) | ⟨x, hx, h⟩)
    · exact .inl h
    · exact .inr ⟨z, List.mem_cons_self, h⟩
    · exact .inr ⟨x, List.mem_cons_of_mem _ hx, h⟩
  · rintro (h | ⟨x, hx, h⟩)
    · exact .inl (.inl h)
    · rcases List.mem_cons.1 hx with rfl | hx
      · exact .inl (.inr h)
      · exact .inr ⟨x, hx, h⟩
theorem onward_bit {p : Pt} {took y : Nat} : (onward p took).testBit y = true ↔ ∃ x, x < 256 ∧ took.testBit x = true ∧ (p.next.getD x 0).testBit y = true := by
 rw [onward, fold_or_bit]
 constructor
 · rintro (h | ⟨x, hx, h⟩)
   · simp at h
   · exact ⟨x, (mem_iff.1 hx).1, (mem_iff.1 hx).2, h⟩
 · rintro ⟨x, h1, h2, h3⟩
   exact .inr ⟨x, mem_iff.2 ⟨h1, h2⟩, h3⟩
theorem one_bit (i x : Nat) : (1 <<< i).testBit x = decide (i = x) := by rw [Nat.one_shiftLeft, Nat.testBit_two_pow]
theorem takers_bit {p : Pt} {s : List Nat} {w pl x : Nat} : (takers p s w pl).testBit x = true ↔ x < 256 ∧ w.testBit x = true ∧ p.takes.getD x (fun _ => false) (s.getD pl 0) = true := by
 have e : takers p s w pl = (mem 256 w).foldl (fun a i => a ||| (bif p.takes.getD i (fun _ => false) (s.getD pl 0) then 1 <<< i else 0)) 0 := by
  unfold takers
  dsimp only
  congr 1
  funext a i
  cases p.takes.getD i (fun _ => false) (s.getD pl 0) <;> simp
 rw [e, fold_or_bit]
 constructor
 · rintro (h | ⟨y, hy, h⟩)
   · simp at h
   · cases ht : p.takes.getD y (fun _ => false) (s.getD pl 0) with
     | false => rw [ht] at h; simp at h
     | true =>
      rw [ht, cond_true, one_bit, decide_eq_true_eq] at h
      subst h
      exact ⟨(mem_iff.1 hy).1, (mem_iff.1 hy).2, ht⟩
 · rintro ⟨h1, h2, h3⟩
   exact .inr ⟨x, mem_iff.2 ⟨h1, h2⟩, by rw [h3, cond_true, one_bit]; simp⟩
theorem wanted_bit {took : Nat} : ∀ {l : List Nat} {i x : Nat}, (wanted took l i).testBit x = true ↔ i ≤ x ∧ ∃ n, l[x - i]? = some n ∧ ∃ y, n.testBit y = true ∧ took.testBit y = true
 | [], i, x => by simp [wanted]
 | n :: l, i, x => by
  rw [wanted, Nat.testBit_or, Bool.or_eq_true, wanted_bit]
  have e : (bif Nat.beq (n &&& took) 0 then 0 else 1 <<< i).testBit x = true ↔ x = i ∧ ∃ y, n.testBit y = true ∧ took.testBit y = true := by
   cases h : Nat.beq (n &&& took) 0 with
   | true =>
    rw [cond_true]
    constructor
    · intro h2; simp at h2
    · rintro ⟨_, h2⟩; rw [and0.2 h2] at h; cases h
   | false =>
    rw [cond_false, one_bit, decide_eq_true_eq]
    exact ⟨fun h2 => ⟨h2.symm, and0.1 h⟩, fun h2 => h2.1.symm⟩
  rw [e]
  constructor
  · rintro (⟨rfl, h⟩ | ⟨h1, m, h2, h3⟩)
    · exact ⟨Nat.le_refl _, n, by simp, h⟩
    · exact ⟨by omega, m, by rw [show x - i = (x - (i + 1)) + 1 by omega, List.getElem?_cons_succ]; exact h2, h3⟩
  · rintro ⟨h1, m, h2, h3⟩
    by_cases hx : x = i
    · subst hx
      rw [Nat.sub_self, List.getElem?_cons_zero, Option.some.injEq] at h2
      subst h2
      exact .inl ⟨rfl, h3⟩
    · rw [show x - i = (x - (i + 1)) + 1 by omega, List.getElem?_cons_succ] at h2
      exact .inr ⟨by omega, m, h2, h3⟩
def usS (p : Pt) (s : List Nat) (te : Nat) : Nat → Nat
 | 0 => takers p s (bat p.bds (kindAt s.length te)).la (te - 1)
 | d + 1 => takers p s (wanted (usS p s te d) p.next 0) (te - 1 - (d + 1))
def wtS (p : Pt) (s : List Nat) (te : Nat) : Nat → Nat
 | 0 => (bat p.bds (kindAt s.length te)).la
 | d + 1 => wanted (usS p s te d) p.next 0
theorem usS_eq (p : Pt) (s : List Nat) (te d : Nat) : usS p s te d = takers p s (wtS p s te d) (te - 1 - d) := by
 cases d <;> rfl
theorem trace_eq (p : Pt) (s : List Nat) (fr te : Nat) : ∀ (n : Nat) (us : List Nat) (h : Nat), fr + n ≤ te → (traceF p s fr n (wtS p s te (te - (fr + n))) (us, h)).1 = (List.range n).map (fun i => usS p s te (te - 1 - (fr + i))) ++ us
 | 0, us, h, _ => rfl
 | n + 1, us, h, hn => by
  rw [traceF]
  have e1 : takers p s (wtS p s te (te - (fr + (n + 1)))) (fr + n) = usS p s te (te - 1 - (fr + n)) := by
   rw [usS_eq, show te - 1 - (fr + n) = te - (fr + (n + 1)) by omega, show te - 1 - (te - (fr + (n + 1))) = fr + n by omega]
  rw [e1, show wanted (usS p s te (te - 1 - (fr + n))) p.next 0 = wtS p s te (te - (fr + n)) by rw [show te - (fr + n) = (te - 1 - (fr + n)) + 1 by omega]; rfl, trace_eq p s fr te n _ _ (by omega), List.range_succ, List.map_append, List.append_assoc]
  rfl
theorem trace_at (p : Pt) (s : List Nat) {fr te : Nat} (h : Nat) (hft : fr ≤ te) {a : Nat} (h1 : fr ≤ a) (h2 : a < te) : (traceF p s fr (te - fr) (bat p.bds (kindAt s.length te)).la ([], h)).1.getD (a - fr) 0 = usS p s te (te - 1 - a) := by
 have e := trace_eq p s fr te (te - fr) [] h (by omega)
 rw [show te - (fr + (te - fr)) = 0 by omega] at e
 rw [show (bat p.bds (kindAt s.length te)).la = wtS p s te 0 from rfl, e, List.append_nil, List.getD_eq_getElem?_getD, List.getElem?_map, List.getElem?_range (by omega)]
 simp [show fr + (a - fr) = a by omega]
theorem us_zero {p : Pt} {s : List Nat} {te x : Nat} : (usS p s te 0).testBit x = true ↔ x < 256 ∧ (bat p.bds (kindAt s.length te)).la.testBit x = true ∧ p.takes.getD x (fun _ => false) (s.getD (te - 1) 0) = true := takers_bit
theorem us_succ {p : Pt} {s : List Nat} {te d x : Nat} : (usS p s te (d + 1)).testBit x = true ↔ x < 256 ∧ (∃ y, (p.next.getD x 0).testBit y = true ∧ (usS p s te d).testBit y = true) ∧ p.takes.getD x (fun _ => false) (s.getD (te - 1 - (d + 1)) 0) = true := by
 rw [usS, takers_bit, wanted_bit]
 constructor
 · rintro ⟨h1, ⟨_, n, h2, h3⟩, h4⟩
   rw [Nat.sub_zero] at h2
   exact ⟨h1, by rw [List.getD_eq_getElem?_getD, h2]; exact h3, h4⟩
 · rintro ⟨h1, ⟨y, h2, h3⟩, h4⟩
   refine ⟨h1, ⟨Nat.zero_le _, ?_⟩, h4⟩
   rw [Nat.sub_zero]
   rw [List.getD_eq_getElem?_getD] at h2
   cases e : p.next[x]? with
   | none => rw [e] at h2; simp at h2
   | some n => rw [e] at h2; exact ⟨n, rfl, y, h2, h3⟩
def Has (p : Pt) (s : List Nat) (fr te : Nat) : Prop := ∃ x, (bat p.bds (kindAt s.length fr)).fi.testBit x = true ∧ (usS p s te (te - 1 - fr)).testBit x = true
theorem upb {s b m : Nat} : (up s b).testBit m = true ↔ m < 256 ∧ b ≤ m ∧ s.testBit (m - b) = true := by
 rw [up_bit]; simp
theorem bat_map (f : Bd → Bd) (b : List Bd) {k : Nat} (hk : k < b.length) : bat (b.map f) k = f (bat b k) := by
 simp [bat, List.getD_eq_getElem?_getD, List.getElem?_eq_getElem hk]
theorem ln_bat {l : Pt × Nat × Bool} (h : l.1.bds.length = 4) {k : Nat} (hk : k < 4) : bat (lnB l) k = ⟨l.2.2 || (bat l.1.bds k).no, up (bat l.1.bds k).fi l.2.1, up (bat l.1.bds k).la l.2.1⟩ := by
 unfold lnB
 cases l.2.2
 · dsimp only; rw [cond_false, bat_map _ _ (by omega), Bool.false_or]
 · dsimp only; rw [cond_true, optB, bat_map _ _ (by rw [List.length_map]; omega), bat_map _ _ (by omega), Bool.true_or]
theorem ln_len {l : Pt × Nat × Bool} (h : l.1.bds.length = 4) : (lnB l).length = 4 := by
 unfold lnB
 cases l.2.2
 · dsimp only; rw [cond_false, List.length_map]; exact h
 · dsimp only; rw [cond_true, optB, List.length_map, List.length_map]; exact h
theorem join_bat {a b : List Bd} (ha : a.length = 4) (hb : b.length = 4) {k : Nat} (hk : k < 4) : bat (joinB a b) k = ⟨(bat a k).no && (bat b k).no, bif (bat a k).no then (bat a k).fi ||| (bat b k).fi else (bat a k).fi, bif (bat b k).no then (bat a k).la ||| (bat b k).la else (bat b k).la⟩ := by
 match a, ha, b, hb with
 | [_, _, _, _], _, [_, _, _, _], _ => match k, hk with
  | 0, _ => rfl
  | 1, _ => rfl
  | 2, _ => rfl
  | 3, _ => rfl
theorem bhd_bat (again : Bool) (ls : List (Pt × Nat × Bool)) (h : ∀ l ∈ ls, l.1.bds.length = 4) {k : Nat} (hk : k < 4) {x : Nat} :
  ((bat (bhd again ls) k).fi.testBit x = true → again = true ∧ ∃ l, ls.getLast? = some l ∧ (bat (lnB l) k).fi.testBit x = true) ∧
  ((bat (bhd again ls) k).la.testBit x = true → again = true ∧ ∃ l, ls.getLast? = some l ∧ (bat (lnB l) k).la.testBit x = true) := by
 unfold bhd
 have hz : (bat (optB zeroB) k).fi = 0 ∧ (bat (optB zeroB) k).la = 0 := match k, hk with
  | 0, _ => ⟨rfl, rfl⟩
  | 1, _ => ⟨rfl, rfl⟩
  | 2, _ => ⟨rfl, rfl⟩
  | 3, _ => ⟨rfl, rfl⟩
 cases again with
 | false => rw [cond_false, hz.1, hz.2]; simp
 | true =>
  rw [cond_true]
  cases e : ls.getLast? with
  | none => rw [Option.map_none, Option.getD_none, hz.1, hz.2]; simp
  | some l =>
   have hl := ln_len (h l (List.mem_of_getLast? e))
   rw [Option.map_some, Option.getD_some, optB, bat_map _ _ (by omega)]
   exact ⟨fun h => ⟨rfl, l, rfl, h⟩, fun h => ⟨rfl, l, rfl, h⟩⟩
theorem bhd_fi {ls : List (Pt × Nat × Bool)} {l : Pt × Nat × Bool} (h : l.1.bds.length = 4) (e : ls.getLast? = some l) {k : Nat} (hk : k < 4) : (bat (bhd true ls) k).fi = (bat (lnB l) k).fi := by
 unfold bhd
 have hl := ln_len h
 rw [cond_true, e, Option.map_some, Option.getD_some, optB, bat_map _ _ (by omega)]
inductive TiP : Nat → Pt → Prop where
 | mk (d : Nat) (p : Pt) (R : Nat → List Bd) (r0 : p.links ≠ [] → R 0 = p.bds) (rb : ∀ i, i ≤ p.links.length → (R i).length = 4)
   (rs : ∀ (i : Nat) (l : Pt × Nat × Bool), p.links[i]? = some l → R i = joinB (lnB l) (R (i + 1))) (rl : R p.links.length = bhd p.again p.links)
   (nx : ∀ (i : Nat) (l : Pt × Nat × Bool) (x y : Nat), p.links[i]? = some l → x < l.1.takes.length → ((p.next.getD (l.2.1 + x) 0).testBit y = true ↔ ((up (l.1.next.getD x 0) l.2.1).testBit y = true ∨ ((bat (lnB l) 0).la.testBit (l.2.1 + x) = true ∧ (bat (R (i + 1)) 0).fi.testBit y = true))))
   (tk : ∀ (i : Nat) (l : Pt × Nat × Bool) (x : Nat), p.links[i]? = some l → x < l.1.takes.length → p.takes[l.2.1 + x]? = l.1.takes[x]?)
   (dj : ∀ (i j : Nat) (l m : Pt × Nat × Bool), p.links[i]? = some l → p.links[j]? = some m → i < j → l.2.1 + l.1.takes.length ≤ m.2.1)
   (cl : p.closed = true → ∃ l, p.links = [l] ∧ (p.again = true ∨ l.1.closed = true))
   (kid : ∀ l ∈ p.links, TiP d l.1) : TiP (d + 1) p
theorem ok_link {p : Pt} (hok : OkP p) {i : Nat} {l : Pt × Nat × Bool} (hl : p.links[i]? = some l) : OkP l.1 ∧ l.1.bds.length = 4 ∧ l.2.1 + l.1.takes.length ≤ 256 := by
 have hm := List.mem_of_getElem? hl
 have := hok.kid l hm
 exact ⟨this, this.bd.1, Nat.le_trans (hok.lk l hm) hok.len⟩
theorem bit_len {n L x : Nat} (h : n < 2 ^ L) (hx : n.testBit x = true) : x < L := by
 apply Classical.byContradiction; intro hc
 rw [Nat.testBit_lt_two_pow (Nat.lt_of_lt_of_le h (Nat.pow_le_pow_right (by omega) (by omega)))] at hx
 cases hx
theorem la_own {p : Pt} {R : Nat → List Bd} (hok : OkP p) (rb : ∀ i, i ≤ p.links.length → (R i).length = 4)
  (rs : ∀ (i : Nat) (l : Pt × Nat × Bool), p.links[i]? = some l → R i = joinB (lnB l) (R (i + 1))) (rl : R p.links.length = bhd p.again p.links)
  (dj : ∀ (i j : Nat) (l m : Pt × Nat × Bool), p.links[i]? = some l → p.links[j]? = some m → i < j → l.2.1 + l.1.takes.length ≤ m.2.1)
  {c k x : Nat} {l : Pt × Nat × Bool} (hl : p.links[c]? = some l) (hx : x < l.1.takes.length) (hk : k < 4) :
  ∀ (n j : Nat), j + n = p.links.length → (bat (R j) k).la.testBit (l.2.1 + x) = true → (bat l.1.bds k).la.testBit x = true := by
 have own : ∀ (j : Nat) (m : Pt × Nat × Bool), p.links[j]? = some m → (bat (lnB m) k).la.testBit (l.2.1 + x) = true → (bat l.1.bds k).la.testBit x = true := fun j m hm h => by
  obtain ⟨o1, o2, o3⟩ := ok_link hok hm
  rw [ln_bat o2 hk] at h
  obtain ⟨_, h2, h3⟩ := upb.1 h
  have h4 := bit_len (o1.bd.at k).2 h3
  rcases Nat.lt_trichotomy j c with hjc | hjc | hjc
  · have := dj j c m l hm hl hjc; omega
  · subst hjc
    rw [hl] at hm; cases hm
    rwa [show l.2.1 + x - l.2.1 = x by omega] at h3
  · have := dj c j l m hl hm hjc; omega
 intro n
 induction n with
 | zero =>
  intro j hj h
  obtain rfl : j = p.links.length := by omega
  rw [rl] at h
  obtain ⟨_, m, h1, h2⟩ := (bhd_bat p.again p.links (fun m hm => (hok.kid m hm).bd.1) hk).2 h
  rw [List.getLast?_eq_getElem?] at h1
  exact own _ m h1 h2
 | succ n ih =>
  intro j hj h
  obtain ⟨m, hm⟩ : ∃ m, p.links[j]? = some m := ⟨_, List.getElem?_eq_getElem (by omega)⟩
  obtain ⟨_, o2, _⟩ := ok_link hok hm
  rw [rs j m hm, join_bat (ln_len o2) (rb (j + 1) (by omega)) hk] at h
  dsimp only at h
  cases hb : (bat (R (j + 1)) k).no with
  | false => rw [hb, cond_false] at h; exact ih (j + 1) (by omega) h
  | true =>
   rw [hb, cond_true, Nat.testBit_or, Bool.or_eq_true] at h
   rcases h with h | h
   · exact own j m hm h
   · exact ih (j + 1) (by omega) h
theorem fi_split {a b : List Bd} (ha : a.length = 4) (hb : b.length = 4) {k : Nat} (hk : k < 4) {y : Nat} (h : (bat (joinB a b) k).fi.testBit y = true) : (bat a k).fi.testBit y = true ∨ (bat b k).fi.testBit y = true := by
 rw [join_bat ha hb hk] at h
 dsimp only at h
 cases hn : (bat a k).no with
 | false => rw [hn, cond_false] at h; exact .inl h
 | true => rw [hn, cond_true, Nat.testBit_or, Bool.or_eq_true] at h; exact h
theorem closed_next : ∀ {d : Nat} {q : Pt}, TiP d q → OkP q → q.closed = true → ∀ {x y : Nat}, (bat q.bds 0).la.testBit x = true → (bat q.bds 0).fi.testBit y = true → (q.next.getD x 0).testBit y = true := by
 intro d
 induction d with
 | zero => intro q h; cases h
 | succ d ih =>
  intro q h hok hc x y hx hy
  cases h with
  | mk _ _ R r0 rb rs rl nx tk dj cl kid =>
   obtain ⟨l, hl, ha⟩ := cl hc
   have hl0 : q.links[0]? = some l := by rw [hl]; rfl
   have hln : q.links.length = 1 := by rw [hl]; rfl
   obtain ⟨o1, o2, o3⟩ := ok_link hok hl0
   have hlast : q.links.getLast? = some l := by rw [hl]; rfl
   rw [← r0 (by rw [hl]; exact fun h => nomatch h)] at hx hy
   rw [rs 0 l hl0] at hy
   have hbd := fun (m : Pt × Nat × Bool) (hm : m ∈ q.links) => (hok.kid m hm).bd.1
   have rl1 : R 1 = bhd q.again q.links := by rw [← hln]; exact rl
   have hy2 : (bat (lnB l) 0).fi.testBit y = true := by
    rcases fi_split (ln_len o2) (rb 1 (by omega)) (by omega) hy with h | h
    · exact h
    · rw [rl1] at h
      obtain ⟨_, m, h1, h2⟩ := (bhd_bat q.again q.links hbd (by omega)).1 h
      rw [hlast] at h1; cases h1
      exact h2
   have hx2 : (bat (lnB l) 0).la.testBit x = true := by
    rw [rs 0 l hl0, join_bat (ln_len o2) (rb 1 (by omega)) (by omega)] at hx
    dsimp only at hx
    have h1 : (bat (R 1) 0).la.testBit x = true → (bat (lnB l) 0).la.testBit x = true := fun h => by
     rw [rl1] at h
     obtain ⟨_, m, h1, h2⟩ := (bhd_bat q.again q.links hbd (by omega)).2 h
     rw [hlast] at h1; cases h1
     exact h2
    cases hb : (bat (R 1) 0).no with
    | false => rw [hb, cond_false] at hx; exact h1 hx
    | true =>
     rw [hb, cond_true, Nat.testBit_or, Bool.or_eq_true] at hx
     rcases hx with h | h
     · exact h
     · exact h1 h
   have hx3 := hx2
   have hy3 := hy2
   rw [ln_bat o2 (by omega)] at hx3 hy3
   obtain ⟨_, g2, g3⟩ := upb.1 hx3
   obtain ⟨k1, k2, k3⟩ := upb.1 hy3
   have hxl := bit_len (o1.bd.at 0).2 g3
   have e : x = l.2.1 + (x - l.2.1) := by omega
   rw [e, nx 0 l (x - l.2.1) y hl0 hxl, ← e]
   rcases ha with ha | ha
   · refine .inr ⟨hx2, ?_⟩
     rw [rl1, ha, bhd_fi o2 hlast (by omega)]
     exact hy2
   · refine .inl (upb.2 ⟨k1, k2, ?_⟩)
     exact ih (kid l (List.mem_of_getElem? hl0)) o1 ha g3 k3
theorem has_alone {d : Nat} {p : Pt} (hti : TiP (d + 1) p) (hok : OkP p) {l : Pt × Nat × Bool} (hl : p.links = [l]) (ha : p.again = false ∨ l.1.closed = true) {s : List Nat} {fr te : Nat} (h : Has p s fr te) : Has l.1 s fr te := by
 cases hti with
 | mk _ _ R r0 rb rs rl nx tk dj cl kid =>
  have hl0 : p.links[0]? = some l := by rw [hl]; rfl
  have hln : p.links.length = 1 := by rw [hl]; rfl
  obtain ⟨o1, o2, o3⟩ := ok_link hok hl0
  have hlast : p.links.getLast? = some l := by rw [hl]; rfl
  have hbd := fun (m : Pt × Nat × Bool) (hm : m ∈ p.links) => (hok.kid m hm).bd.1
  have rl1 : R 1 = bhd p.again p.links := by rw [← hln]; exact rl
  have r0' := r0 (by rw [hl]; exact fun h => nomatch h)
  have fi1 : ∀ k, k < 4 → ∀ y, (bat (R 1) k).fi.testBit y = true → p.again = true ∧ (bat (lnB l) k).fi.testBit y = true := fun k hk y h => by
   rw [rl1] at h
   obtain ⟨h0, m, h1, h2⟩ := (bhd_bat p.again p.links hbd hk).1 h
   rw [hlast] at h1; cases h1
   exact ⟨h0, h2⟩
  have tk' : ∀ x, x < l.1.takes.length → p.takes.getD (l.2.1 + x) (fun _ => false) = l.1.takes.getD x (fun _ => false) := fun x hx => by
   rw [List.getD_eq_getElem?_getD, List.getD_eq_getElem?_getD, tk 0 l x hl0 hx]
  have core : ∀ (d x : Nat), x < l.1.takes.length → (usS p s te d).testBit (l.2.1 + x) = true → (usS l.1 s te d).testBit x = true := by
   intro d
   induction d with
   | zero =>
    intro x hx h
    obtain ⟨h1, h2, h3⟩ := us_zero.1 h
    rw [tk' x hx] at h3
    refine us_zero.2 ⟨by omega, ?_, h3⟩
    rw [← r0'] at h2
    exact la_own hok rb rs rl dj hl0 hx (by unfold kindAt; cases Nat.beq te 0 <;> cases Nat.beq te s.length <;> decide) 1 0 (by omega) h2
   | succ d ih =>
    intro x hx h
    obtain ⟨h1, ⟨y, h2, h4⟩, h3⟩ := us_succ.1 h
    rw [tk' x hx] at h3
    refine us_succ.2 ⟨by omega, ?_, h3⟩
    rcases (nx 0 l x y hl0 hx).1 h2 with h5 | ⟨h5, h6⟩
    · obtain ⟨g1, g2, g3⟩ := upb.1 h5
      refine ⟨y - l.2.1, g3, ih (y - l.2.1) ?_ (by rwa [show l.2.1 + (y - l.2.1) = y by omega])⟩
      cases e : l.1.next[x]? with
      | none => rw [List.getD_eq_getElem?_getD, e] at g3; simp at g3
      | some n => rw [List.getD_eq_getElem?_getD, e, Option.getD_some] at g3; exact bit_len (o1.nx n (List.mem_of_getElem? e)) g3
    · obtain ⟨g0, g1⟩ := fi1 0 (by omega) y h6
      have hcl : l.1.closed = true := by
       rcases ha with ha | ha
       · rw [ha] at g0; cases g0
       · exact ha
      rw [ln_bat o2 (by omega)] at g1 h5
      obtain ⟨_, k2, k3⟩ := upb.1 g1
      obtain ⟨_, _, m3⟩ := upb.1 h5
      rw [show l.2.1 + x - l.2.1 = x by omega] at m3
      exact ⟨y - l.2.1, closed_next (kid l (List.mem_of_getElem? hl0)) o1 hcl m3 k3, ih (y - l.2.1) (bit_len (o1.bd.at 0).1 k3) (by rwa [show l.2.1 + (y - l.2.1) = y by omega])⟩
  obtain ⟨x, h1, h2⟩ := h
  have hk4 : kindAt s.length fr < 4 := by unfold kindAt; cases Nat.beq fr 0 <;> cases Nat.beq fr s.length <;> decide
  rw [← r0', rs 0 l hl0] at h1
  have h3 : (bat (lnB l) (kindAt s.length fr)).fi.testBit x = true := by
   rcases fi_split (ln_len o2) (rb 1 (by omega)) hk4 h1 with h | h
   · exact h
   · exact (fi1 _ hk4 x h).2
  rw [ln_bat o2 hk4] at h3
  obtain ⟨_, g2, g3⟩ := upb.1 h3
  exact ⟨x - l.2.1, g3, core _ _ (bit_len (o1.bd.at _).1 g3) (by rwa [show l.2.1 + (x - l.2.1) = x by omega])⟩
end Go.Proofs.YtmkcpocaheogaaaDoor.smt
namespace Go.Proofs.YtmkcpocaheogaaaDoor.smt
open Go.Proofs.YtmkcpocaheogaaaDoor.br
inductive Fw (q : Pt) (s : List Nat) (wt : Nat) (a : Nat) : Nat → Nat → Prop where
 | one (z : Nat) (h1 : wt.testBit z = true) (h2 : q.takes.getD z (fun _ => false) (s.getD a 0) = true) : Fw q s wt a a z
 | more (b z y : Nat) (h : Fw q s wt a b z) (h1 : (q.next.getD z 0).testBit y = true) (h2 : q.takes.getD y (fun _ => false) (s.getD (b + 1) 0) = true) : Fw q s wt a (b + 1) y
theorem Fw.le {q : Pt} {s : List Nat} {wt a b z : Nat} (h : Fw q s wt a b z) : a ≤ b := by
 induction h with
 | one => exact Nat.le_refl _
 | more b z y h _ _ ih => omega
theorem Fw.tk {q : Pt} {s : List Nat} {wt a b z : Nat} (h : Fw q s wt a b z) : q.takes.getD z (fun _ => false) (s.getD b 0) = true := by
 cases h <;> assumption
theorem takes_lt {q : Pt} {z c : Nat} (h : q.takes.getD z (fun _ => false) c = true) : z < q.takes.length := by
 apply Classical.byContradiction; intro hc
 rw [List.getD_eq_getElem?_getD, List.getElem?_eq_none (by omega)] at h
 cases h
theorem Fw.has {q : Pt} {s : List Nat} {wt a e : Nat} (hq : q.takes.length ≤ 256) : ∀ {b z : Nat}, Fw q s wt a b z → b < e → (usS q s e (e - 1 - b)).testBit z = true → ∃ x, wt.testBit x = true ∧ (usS q s e (e - 1 - a)).testBit x = true := by
 intro b z h
 induction h with
 | one z h1 h2 => intro _ hu; exact ⟨z, h1, hu⟩
 | more b z y h h1 h2 ih =>
  intro hb hu
  refine ih (by omega) ?_
  have h3 : q.takes.getD z (fun _ => false) (s.getD b 0) = true := by cases h <;> assumption
  rw [show e - 1 - b = (e - 1 - (b + 1)) + 1 by omega, us_succ, show e - 1 - (e - 1 - (b + 1) + 1) = b by omega]
  exact ⟨Nat.lt_of_lt_of_le (takes_lt h3) hq, ⟨y, h1, hu⟩, h3⟩
theorem long_go {p : Pt} {l : Pt × Nat × Bool} {s us : List Nat} {fr te wt a : Nat} (o1 : OkP l.1) (o3 : l.2.1 + l.1.takes.length ≤ 256)
  (tk : ∀ x, x < l.1.takes.length → p.takes.getD (l.2.1 + x) (fun _ => false) = l.1.takes.getD x (fun _ => false))
  (hus : ∀ a, fr ≤ a → a < te → us.getD (a - fr) 0 = usS p s te (te - 1 - a)) :
  ∀ (f a' T : Nat), fr < a' → a < a' → a' ≤ te → te - a' < f → (∃ z, T.testBit z = true) → (∀ z, T.testBit z = true → z < l.1.takes.length ∧ Fw l.1 s wt a (a' - 1) z ∧ (usS p s te (te - 1 - (a' - 1))).testBit (l.2.1 + z) = true) →
  ∃ e z, longF l.1 l.2.1 us fr te f (onward l.1 T) a' = e ∧ a' ≤ e ∧ e ≤ te ∧ z < l.1.takes.length ∧ Fw l.1 s wt a (e - 1) z ∧ (usS p s te (te - 1 - (e - 1))).testBit (l.2.1 + z) = true ∧ (e < te → ∀ y, (l.1.next.getD z 0).testBit y = true → (usS p s te (te - 1 - e)).testBit (l.2.1 + y) = false) := by
 intro f
 induction f with
 | zero => intro a' T _ _ _ h; omega
 | succ f ih =>
  intro a' T hfr ha hle hf hne hT
  obtain ⟨z, hz⟩ := hne
  rw [longF]
  cases hb : Nat.ble te a' with
  | true =>
   have : te ≤ a' := Nat.le_of_ble_eq_true hb
   exact ⟨a', z, rfl, Nat.le_refl _, hle, (hT z hz).1, (hT z hz).2.1, (hT z hz).2.2, fun h => by omega⟩
  | false =>
   have hlt : a' < te := by
    have : ¬ te ≤ a' := fun h2 => by rw [← Nat.ble_eq, hb] at h2; cases h2
    omega
   rw [cond_false]
   dsimp only
   rw [hus a' (by omega) hlt]
   have hbit : ∀ y, (onward l.1 T &&& (usS p s te (te - 1 - a') >>> l.2.1)).testBit y = true ↔ (onward l.1 T).testBit y = true ∧ (usS p s te (te - 1 - a')).testBit (l.2.1 + y) = true := fun y => by
    rw [Nat.testBit_and, Nat.testBit_shiftRight, Bool.and_eq_true]
   have hon : ∀ z, T.testBit z = true → ∀ y, (l.1.next.getD z 0).testBit y = true → (onward l.1 T).testBit y = true := fun z hz y hy => onward_bit.2 ⟨z, by have := (hT z hz).1; omega, hz, hy⟩
   generalize htk : onward l.1 T &&& (usS p s te (te - 1 - a') >>> l.2.1) = tk' at *
   cases h0 : Nat.beq tk' 0 with
   | true =>
    rw [cond_true]
    refine ⟨a', z, rfl, Nat.le_refl _, hle, (hT z hz).1, (hT z hz).2.1, (hT z hz).2.2, fun _ y hy => ?_⟩
    cases hu : (usS p s te (te - 1 - a')).testBit (l.2.1 + y) with
    | false => rfl
    | true =>
     have := (hbit y).2 ⟨hon z hz y hy, hu⟩
     rw [Nat.eq_of_beq_eq_true h0, Nat.zero_testBit] at this
     cases this
   | false =>
    rw [cond_false]
    have hn0 : tk' ≠ 0 := fun e => by rw [e] at h0; cases h0
    obtain ⟨e, z', h1, h2, h3, h4⟩ := ih (a' + 1) tk' (by omega) (by omega) (by omega) (by omega) (Nat.exists_testBit_of_ne_zero hn0) (fun y hy => by
     obtain ⟨g1, g2⟩ := (hbit y).1 hy
     obtain ⟨x, x1, x2, x3⟩ := onward_bit.1 g1
     have hyl : y < l.1.takes.length := by
      cases e : l.1.next[x]? with
      | none => rw [List.getD_eq_getElem?_getD, e] at x3; simp at x3
      | some n => rw [List.getD_eq_getElem?_getD, e, Option.getD_some] at x3; exact bit_len (o1.nx n (List.mem_of_getElem? e)) x3
     have htk2 : l.1.takes.getD y (fun _ => false) (s.getD a' 0) = true := by
      rw [← tk y hyl]
      rw [usS_eq, takers_bit, show te - 1 - (te - 1 - a') = a' by omega] at g2
      exact g2.2.2
     refine ⟨hyl, ?_, by rw [Nat.add_sub_cancel]; exact g2⟩
     rw [Nat.add_sub_cancel]
     have := Fw.more (a' - 1) x y (hT x x2).2.1 x3 (by rw [show a' - 1 + 1 = a' by omega]; exact htk2)
     rwa [show a' - 1 + 1 = a' by omega] at this)
    exact ⟨e, z', h1, by omega, h3, h4⟩
theorem long_any {p : Pt} {l : Pt × Nat × Bool} {s us : List Nat} {fr te : Nat} (o1 : OkP l.1) (o3 : l.2.1 + l.1.takes.length ≤ 256)
  (tk : ∀ x, x < l.1.takes.length → p.takes.getD (l.2.1 + x) (fun _ => false) = l.1.takes.getD x (fun _ => false))
  (hus : ∀ a, fr ≤ a → a < te → us.getD (a - fr) 0 = usS p s te (te - 1 - a)) (wt a : Nat) (hwt : wt < 2 ^ l.1.takes.length) (hfr : fr ≤ a) (ha : a < te) :
  ∃ e, longF l.1 l.2.1 us fr te (te - a + 1) wt a = e ∧ ((e = a ∧ ∀ y, wt.testBit y = true → (usS p s te (te - 1 - a)).testBit (l.2.1 + y) = false) ∨
   (a < e ∧ e ≤ te ∧ ∃ z, z < l.1.takes.length ∧ Fw l.1 s wt a (e - 1) z ∧ (usS p s te (te - 1 - (e - 1))).testBit (l.2.1 + z) = true ∧ (e < te → ∀ y, (l.1.next.getD z 0).testBit y = true → (usS p s te (te - 1 - e)).testBit (l.2.1 + y) = false))) := by
 rw [longF]
 have hb : Nat.ble te a = false := by
  cases hb : Nat.ble te a with
  | false => rfl
  | true => have : te ≤ a := Nat.le_of_ble_eq_true hb; omega
 rw [hb, cond_false]
 dsimp only
 rw [hus a hfr ha]
 have hbit : ∀ y, (wt &&& (usS p s te (te - 1 - a) >>> l.2.1)).testBit y = true ↔ wt.testBit y = true ∧ (usS p s te (te - 1 - a)).testBit (l.2.1 + y) = true := fun y => by
  rw [Nat.testBit_and, Nat.testBit_shiftRight, Bool.and_eq_true]
 generalize htk : wt &&& (usS p s te (te - 1 - a) >>> l.2.1) = tk' at *
 cases h0 : Nat.beq tk' 0 with
 | true =>
  rw [cond_true]
  refine ⟨a, rfl, .inl ⟨rfl, fun y hy => ?_⟩⟩
  cases hu : (usS p s te (te - 1 - a)).testBit (l.2.1 + y) with
  | false => rfl
  | true =>
   have := (hbit y).2 ⟨hy, hu⟩
   rw [Nat.eq_of_beq_eq_true h0, Nat.zero_testBit] at this
   cases this
 | false =>
  rw [cond_false]
  have hn0 : tk' ≠ 0 := fun e => by rw [e] at h0; cases h0
  obtain ⟨e, z', h1, h2, h3, h4⟩ := long_go (wt := wt) (a := a) o1 o3 tk hus (te - a) (a + 1) tk' (by omega) (by omega) (by omega) (by omega) (Nat.exists_testBit_of_ne_zero hn0) (fun y hy => by
   obtain ⟨g1, g2⟩ := (hbit y).1 hy
   have hyl := bit_len hwt g1
   have htk2 : l.1.takes.getD y (fun _ => false) (s.getD a 0) = true := by
    rw [← tk y hyl]
    rw [usS_eq, takers_bit, show te - 1 - (te - 1 - a) = a by omega] at g2
    exact g2.2.2
   refine ⟨hyl, ?_, by rw [Nat.add_sub_cancel]; exact g2⟩
   rw [Nat.add_sub_cancel]
   exact .one y g1 htk2)
  exact ⟨e, h1, .inr ⟨by omega, h3, z', h4⟩⟩
theorem kind4 (n i : Nat) : kindAt n i < 4 := by unfold kindAt; cases Nat.beq i 0 <;> cases Nat.beq i n <;> decide
theorem kind0 {n i : Nat} (h1 : 0 < i) (h2 : i < n) : kindAt n i = 0 := by
 unfold kindAt
 rw [show Nat.beq i 0 = false by cases h : Nat.beq i 0 with | false => rfl | true => have := Nat.eq_of_beq_eq_true h; omega, show Nat.beq i n = false by cases h : Nat.beq i n with | false => rfl | true => have := Nat.eq_of_beq_eq_true h; omega]
 rfl
theorem share_ends {d : Nat} {p : Pt} (hti : TiP (d + 1) p) (hok : OkP p) {s us : List Nat} {fr te : Nat} (hft : fr < te) (hts : te ≤ s.length) (hne : p.links ≠ [])
  (hus : ∀ a, fr ≤ a → a < te → us.getD (a - fr) 0 = usS p s te (te - 1 - a)) (rec : Pt → Nat → Nat → Sp → Option Sp)
  (hrec : ∀ l ∈ p.links, ∀ a e x, fr ≤ a → a ≤ e → e ≤ te → (a < e → Has l.1 s a e) → ∃ y, rec l.1 a e x = some y) (h : Has p s fr te) :
  ∀ x, ∃ r, shareW rec p s us fr te (te - fr + p.links.length) 0 fr x = some r := by
 cases hti with
 | mk _ _ R r0 rb rs rl nx tk dj cl kid =>
  have hbd := fun (m : Pt × Nat × Bool) (hm : m ∈ p.links) => (hok.kid m hm).bd.1
  obtain ⟨n1, hn1⟩ : ∃ n1, p.links.length = n1 + 1 := by
   cases e : p.links with
   | nil => exact absurd e hne
   | cons a b => exact ⟨b.length, rfl⟩
  -- a way on from a place, through what is left
  obtain ⟨mc, hmc1, hmc2⟩ : ∃ mc : Nat → Nat, (∀ c, c < p.links.length → mc c = c) ∧ ∀ c, p.links.length ≤ c → mc c = p.links.length := ⟨fun c => min c p.links.length, fun c h => Nat.min_eq_left (Nat.le_of_lt h), fun c h => Nat.min_eq_right h⟩
  have key : ∀ (F c a : Nat) (x : Sp), fr ≤ a → a ≤ te → (te - a) + (p.links.length - c) ≤ F → (a = te ∨ (a < te ∧ ∃ x, (bat (R (mc c)) (kindAt s.length a)).fi.testBit x = true ∧ (usS p s te (te - 1 - a)).testBit x = true)) → ∃ r, shareW rec p s us fr te F c a x = some r := by
   intro F
   induction F with
   | zero =>
    intro c a x _ h1 h2 _
    obtain rfl : a = te := by omega
    rw [shareW, show Nat.ble a a = true by rw [Nat.ble_eq]; exact Nat.le_refl _]
    exact ⟨_, rfl⟩
   | succ F ih =>
    intro c a x hfa h1 h2 hinv
    rw [shareW]
    cases hb : Nat.ble te a with
    | true => exact ⟨_, rfl⟩
    | false =>
     have hlt : a < te := by
      have : ¬ te ≤ a := fun h2 => by rw [← Nat.ble_eq, hb] at h2; cases h2
      omega
     rw [cond_false]
     obtain ⟨i, hi, hil, hic, hic2⟩ : ∃ i, min c (p.links.length - 1) = i ∧ i < p.links.length ∧ (c < p.links.length → i = c) ∧ (p.links.length ≤ c → i = p.links.length - 1) := ⟨min c (p.links.length - 1), rfl, by rw [hn1, Nat.add_sub_cancel]; exact Nat.lt_succ_of_le (Nat.min_le_right _ _), fun h => Nat.min_eq_left (by omega), fun h => Nat.min_eq_right (by omega)⟩
     obtain ⟨l, hl⟩ : ∃ l, p.links[i]? = some l := ⟨_, List.getElem?_eq_getElem hil⟩
     rw [hi, List.getD_eq_getElem?_getD, hl, Option.getD_some]
     obtain ⟨o1, o2, o3⟩ := ok_link hok hl
     have hlm := List.mem_of_getElem? hl
     have tk' : ∀ x, x < l.1.takes.length → p.takes.getD (l.2.1 + x) (fun _ => false) = l.1.takes.getD x (fun _ => false) := fun x hx => by
      rw [List.getD_eq_getElem?_getD, List.getD_eq_getElem?_getD, tk i l x hl hx]
     have hk := kind4 s.length a
     obtain ⟨e, he, hcase⟩ := long_any o1 o3 tk' hus (bat l.1.bds (kindAt s.length a)).fi a (o1.bd.at _).1 hfa hlt
     obtain ⟨q, base, free⟩ := l
     dsimp only at he hcase o1 o2 o3 tk' ⊢
     rw [he]
     rcases hinv with hinv | ⟨_, w, hw1, hw2⟩
     · omega
     -- the first ones of what is left, seen from the link
     have hfst : (bat (lnB (q, base, free)) (kindAt s.length a)).fi.testBit w = true ∨ (c < p.links.length ∧ (bat (R (mc (c + 1))) (kindAt s.length a)).fi.testBit w = true) := by
      by_cases hc : c < p.links.length
      · have hci := hic hc
        rw [hmc1 c hc, ← hci, rs i _ hl] at hw1
        rcases fi_split (ln_len o2) (rb (i + 1) (by omega)) hk hw1 with h | h
        · exact .inl h
        · refine .inr ⟨hc, ?_⟩
          rcases Nat.lt_or_ge (c + 1) p.links.length with h' | h'
          · rw [hmc1 _ h', ← hci]; exact h
          · rw [hmc2 _ h', show p.links.length = i + 1 by omega]; exact h
      · rw [hmc2 c (by omega), rl] at hw1
        obtain ⟨_, m, h3, h4⟩ := (bhd_bat p.again p.links hbd hk).1 hw1
        rw [List.getLast?_eq_getElem?, ← hic2 (by omega), hl] at h3
        cases h3
        exact .inl h4
     have hfst2 : (bat (lnB (q, base, free)) (kindAt s.length a)).fi.testBit w = true → ∃ y, (bat q.bds (kindAt s.length a)).fi.testBit y = true ∧ w = base + y := fun h => by
      rw [ln_bat o2 hk] at h
      obtain ⟨_, g2, g3⟩ := upb.1 h
      exact ⟨_, g3, by dsimp only at g2 ⊢; omega⟩
     rcases hcase with ⟨rfl, hno⟩ | ⟨hae, hete, z, hz, hfw, hus1, hstop⟩
     · obtain ⟨y, hy⟩ := hrec _ hlm e e x hfa (Nat.le_refl _) h1 (fun h => absurd h (Nat.lt_irrefl _))
       rw [show (q, base, free).1 = q from rfl] at hy
       rw [hy]
       rcases hfst with h | ⟨hc, h⟩
       · obtain ⟨y, hy, rfl⟩ := hfst2 h
         rw [hno y hy] at hw2; cases hw2
       · exact ih (c + 1) e y hfa h1 (by omega) (.inr ⟨hlt, w, h, hw2⟩)
     · have hhas : (bat q.bds (kindAt s.length e)).la.testBit z = true := by
        by_cases hte : e = te
        · subst hte
          rw [show e - 1 - (e - 1) = 0 by omega, us_zero] at hus1
          have h5 := hus1.2.1
          rw [← r0 hne] at h5
          exact la_own hok rb rs rl dj hl hz (kind4 _ _) p.links.length 0 (by omega) h5
        · rw [show te - 1 - (e - 1) = (te - 1 - e) + 1 by omega, us_succ] at hus1
          obtain ⟨y, hy1, hy2⟩ := hus1.2.1
          rcases (nx i _ z y hl hz).1 hy1 with h5 | ⟨h5, h6⟩
          · obtain ⟨g1, g2, g3⟩ := upb.1 h5
            have := hstop (by omega) _ g3
            rw [show base + (y - base) = y by dsimp only at g2; omega, hy2] at this
            cases this
          · rw [ln_bat o2 (by omega)] at h5
            obtain ⟨_, g2, g3⟩ := upb.1 h5
            rw [kind0 (by omega) (by omega)]
            dsimp only at g3
            rwa [show base + z - base = z by omega] at g3
       have hfz : q.takes.getD z (fun _ => false) (s.getD (e - 1) 0) = true := hfw.tk
       obtain ⟨v, v1, v2⟩ := hfw.has (e := e) (by omega) (by omega) (by
        rw [show e - 1 - (e - 1) = 0 by omega]
        exact us_zero.2 ⟨by omega, hhas, hfz⟩)
       obtain ⟨y, hy⟩ := hrec _ hlm a e x hfa (by omega) hete (fun _ => ⟨v, v1, v2⟩)
       rw [show (q, base, free).1 = q from rfl] at hy
       rw [hy]
       refine ih (c + 1) e y (by omega) hete (by omega) ?_
       by_cases hte : e = te
       · exact .inl hte
       · refine .inr ⟨by omega, ?_⟩
         rw [show te - 1 - (e - 1) = (te - 1 - e) + 1 by omega, us_succ] at hus1
         obtain ⟨y', hy1, hy2⟩ := hus1.2.1
         rcases (nx i _ z y' hl hz).1 hy1 with h5 | ⟨h5, h6⟩
         · obtain ⟨g1, g2, g3⟩ := upb.1 h5
           have := hstop (by omega) _ g3
           rw [show base + (y' - base) = y' by dsimp only at g2; omega, hy2] at this
           cases this
         · refine ⟨y', ?_, hy2⟩
           rw [kind0 (by omega) (by omega)]
           have hi1 : mc (c + 1) = i + 1 := by
            rcases Nat.lt_or_ge (c + 1) p.links.length with h' | h'
            · rw [hmc1 _ h', hic (by omega)]
            · rw [hmc2 _ h']
              rcases Nat.lt_or_ge c p.links.length with h'' | h''
              · have := hic h''; omega
              · have := hic2 h''; omega
           rw [hi1]
           exact h6
  intro x
  refine key _ 0 fr x (Nat.le_refl _) (by omega) (by omega) (.inr ⟨hft, ?_⟩)
  obtain ⟨x, h1, h2⟩ := h
  exact ⟨x, by rw [hmc1 0 (by omega), r0 hne]; exact h1, h2⟩
theorem rest_ends {rec : Pt → Nat → Nat → Sp → Option Sp} {te : Nat} : ∀ (ls : List (Pt × Nat × Bool)) (x : Sp), (∀ l ∈ ls, ∀ x, ∃ y, rec l.1 te te x = some y) → ∃ y, restW rec te ls x = some y
 | [], x, _ => ⟨x, rfl⟩
 | l :: ls, x, h => by
  rw [restW]
  cases l.2.2 with
  | true => exact rest_ends ls x fun m hm => h m (List.mem_cons_of_mem _ hm)
  | false =>
   obtain ⟨y, hy⟩ := h l List.mem_cons_self x
   rw [cond_false, hy]
   exact rest_ends ls y fun m hm => h m (List.mem_cons_of_mem _ hm)
theorem settle_ends {s : List Nat} {ng : Nat} : ∀ (d : Nat) (p : Pt), TiP d p → OkP p → GrP ng p → ∀ (fr te : Nat), fr ≤ te → te ≤ s.length → (fr < te → Has p s fr te) → ∀ x, ∃ y, settle s d p fr te x = some y := by
 intro d
 induction d with
 | zero => intro p h; cases h
 | succ d ih =>
  intro p hti hok hgr fr te hft hts hh x
  rw [settle_eq]
  cases hd : p.deep with
  | false => exact ⟨x, rfl⟩
  | true =>
   have hne := hgr.d hd
   rw [Bool.not_true, cond_false]
   have hkid : ∀ l ∈ p.links, TiP d l.1 := by cases hti; assumption
   have hrec : ∀ l ∈ p.links, ∀ a e x, fr ≤ a → a ≤ e → e ≤ te → (a < e → Has l.1 s a e) → ∃ y, settle s d l.1 a e x = some y := fun l hl a e x _ h2 h3 h4 => ih l.1 (hkid l hl) (hok.kid l hl) (hgr.kid l hl) a e h2 (by omega) h4 x
   have hsh : ∀ x, ∃ r, shareP s d p fr te x = some r := by
    intro x
    unfold shareP
    cases h1 : Nat.beq fr te with
    | true => exact ⟨_, rfl⟩
    | false =>
     have hlt : fr < te := by
      rcases Nat.lt_or_ge fr te with h | h
      · exact h
      · obtain rfl : fr = te := by omega
        rw [Nat.beq_refl] at h1; cases h1
     rw [cond_false]
     cases h2 : aloneP p with
     | true =>
      unfold aloneP at h2
      match hl : p.links, h2 with
      | [l], h2 =>
       rw [cond_true]
       dsimp only
       have ha : p.again = false ∨ l.1.closed = true := by
        cases hag : p.again with
        | false => exact .inl rfl
        | true => rw [hag] at h2; exact .inr (by simpa using h2)
       obtain ⟨y, hy⟩ := hrec l (by rw [hl]; exact List.mem_cons_self) fr te x (Nat.le_refl _) hft (Nat.le_refl _) (fun h => has_alone hti hok hl ha (hh h))
       rw [hy]
       exact ⟨_, rfl⟩
     | false =>
      rw [cond_false]
      exact share_ends hti hok hlt hts hne (fun a ha1 ha2 => trace_at p s x.2 hft ha1 ha2) _ hrec (hh hlt) _
   obtain ⟨⟨c, y⟩, hr⟩ := hsh (bif Nat.beq p.grp 0 then x else (x.1.set p.grp ((fr : Int), (te : Int)), x.2))
   rw [hr]
   exact rest_ends _ y fun l hl x => hrec l (List.mem_of_mem_drop hl) te te x hft (Nat.le_refl _) (Nat.le_refl _) (fun h => absurd h (Nat.lt_irrefl _))
theorem TiP.up1 : ∀ {d : Nat} {p : Pt}, TiP d p → TiP (d + 1) p := by
 intro d
 induction d with
 | zero => intro p h; cases h
 | succ d ih =>
  intro p h
  cases h with
  | mk _ _ R r0 rb rs rl nx tk dj cl kid => exact .mk _ _ R r0 rb rs rl nx tk dj cl fun l hl => ih (kid l hl)
theorem TiP.upn {d : Nat} {p : Pt} (h : TiP d p) : ∀ {e : Nat}, d ≤ e → TiP e p := by
 intro e
 induction e with
 | zero => intro he; obtain rfl : d = 0 := by omega
           exact h
 | succ e ih =>
  intro he
  rcases Nat.lt_or_ge e d with h1 | h1
  · obtain rfl : d = e + 1 := by omega
    exact h
  · exact (ih h1).up1
structure TyA (d : Nat) (a : Ac) : Prop where
 kid : ∀ l ∈ a.links, TiP d l.1
 tk : ∀ (i : Nat) (l : Pt × Nat × Bool) (x : Nat), a.links[i]? = some l → x < l.1.takes.length → a.takes[l.2.1 + x]? = l.1.takes[x]?
 nx : ∀ (i : Nat) (l : Pt × Nat × Bool) (x : Nat), a.links[i]? = some l → x < l.1.takes.length → a.next[l.2.1 + x]? = some (up (l.1.next.getD x 0) l.2.1)
 dj : ∀ (i j : Nat) (l m : Pt × Nat × Bool), a.links[i]? = some l → a.links[j]? = some m → i < j → l.2.1 + l.1.takes.length ≤ m.2.1
theorem TyA.zero (d : Nat) (b : Bool) : TyA d ⟨b, [], [], []⟩ := ⟨(fun _ h => nomatch h), (fun _ _ _ h => nomatch h), (fun _ _ _ h => nomatch h), (fun _ _ _ _ h => nomatch h)⟩
theorem get_snoc {α : Type} {l : List α} {x y : α} {i : Nat} (h : (l ++ [x])[i]? = some y) : l[i]? = some y ∨ (i = l.length ∧ y = x) := by
 rcases Nat.lt_or_ge i l.length with h1 | h1
 · rw [List.getElem?_append_left h1] at h; exact .inl h
 · rw [List.getElem?_append_right h1] at h
   obtain h2 : i - l.length = 0 := by
    apply Classical.byContradiction; intro h2
    rw [List.getElem?_eq_none (by simp only [List.length_singleton]; omega)] at h; cases h
   rw [h2, List.getElem?_cons_zero] at h
   cases h
   exact .inr ⟨by omega, rfl⟩
theorem TyA.add {d : Nat} {a : Ac} (hA : OkA a) (h : TyA d a) {kid : Pt} (hk : OkP kid) (ht : TiP d kid) (free : Bool) : TyA d (a.add kid free) := by
 have hlt : ∀ {i : Nat} {l : Pt × Nat × Bool} {x : Nat}, a.links[i]? = some l → x < l.1.takes.length → l.2.1 + x < a.takes.length := fun {i l x} h1 h2 => by
  have := hA.lk l (List.mem_of_getElem? h1); omega
 refine ⟨fun l hl => ?_, fun i l x hl hx => ?_, fun i l x hl hx => ?_, fun i j l m hl hm hij => ?_⟩
 · rcases List.mem_append.1 (show l ∈ a.links ++ [(kid, a.takes.length, free)] from hl) with h1 | h1
   · exact h.kid l h1
   · rw [List.mem_singleton.1 h1]; exact ht
 · show (a.takes ++ kid.takes)[l.2.1 + x]? = _
   rcases get_snoc (show (a.links ++ [(kid, a.takes.length, free)])[i]? = some l from hl) with h1 | ⟨_, rfl⟩
   · rw [List.getElem?_append_left (hlt h1 hx)]; exact h.tk i l x h1 hx
   · dsimp only
     rw [List.getElem?_append_right (by omega), show a.takes.length + x - a.takes.length = x by omega]
 · show (a.next ++ kid.next.map fun s => up s a.takes.length)[l.2.1 + x]? = _
   rcases get_snoc (show (a.links ++ [(kid, a.takes.length, free)])[i]? = some l from hl) with h1 | ⟨_, rfl⟩
   · rw [List.getElem?_append_left (by rw [hA.nl]; exact hlt h1 hx)]; exact h.nx i l x h1 hx
   · dsimp only at hx ⊢
     rw [List.getElem?_append_right (by rw [hA.nl]; omega), hA.nl, show a.takes.length + x - a.takes.length = x by omega, List.getElem?_map, List.getD_eq_getElem?_getD, List.getElem?_eq_getElem (by rw [hk.nl]; exact hx)]
     rfl
 · rcases get_snoc (show (a.links ++ [(kid, a.takes.length, free)])[j]? = some m from hm) with h2 | ⟨h2, rfl⟩
   · rcases get_snoc (show (a.links ++ [(kid, a.takes.length, free)])[i]? = some l from hl) with h1 | ⟨h1, rfl⟩
     · exact h.dj i j l m h1 h2 hij
     · have := (List.getElem?_eq_some_iff.1 h2).1; omega
   · rcases get_snoc (show (a.links ++ [(kid, a.takes.length, free)])[i]? = some l from hl) with h1 | ⟨h1, rfl⟩
     · exact hA.lk l (List.mem_of_getElem? h1)
     · omega
theorem orAt_get (l : List Nat) (i x j : Nat) : (orAt l i x)[j]? = (if i = j then l[j]?.map (· ||| x) else l[j]?) := by
 rw [orAt, List.getElem?_modify]
 by_cases h : i = j
 · simp only [h, if_true]; rfl
 · simp only [h, if_false]; cases l[j]? <;> rfl
theorem fold_at {x y : Nat} : ∀ (m : List Nat) (l : List Nat) (j : Nat) (n : Nat), l[j]? = some n → ∃ n', (m.foldl (fun n i => orAt n i x) l)[j]? = some n' ∧ (n'.testBit y = true ↔ n.testBit y = true ∨ (j ∈ m ∧ x.testBit y = true))
 | [], l, j, n, h => ⟨n, h, by simp⟩
 | i :: m, l, j, n, h => by
  rw [List.foldl_cons]
  by_cases hij : i = j
  · subst hij
    obtain ⟨n', h1, h2⟩ := fold_at m (orAt l i x) i (n ||| x) (by rw [orAt_get, if_pos rfl, h]; rfl)
    refine ⟨n', h1, ?_⟩
    rw [h2, Nat.testBit_or, Bool.or_eq_true]
    constructor
    · rintro ((h | h) | ⟨_, h⟩)
      · exact .inl h
      · exact .inr ⟨List.mem_cons_self, h⟩
      · exact .inr ⟨List.mem_cons_self, h⟩
    · rintro (h | ⟨_, h⟩)
      · exact .inl (.inl h)
      · exact .inl (.inr h)
  · obtain ⟨n', h1, h2⟩ := fold_at m (orAt l i x) j n (by rw [orAt_get, if_neg hij]; exact h)
    refine ⟨n', h1, ?_⟩
    rw [h2]
    constructor
    · rintro (h | ⟨h, h'⟩)
      · exact .inl h
      · exact .inr ⟨List.mem_cons_of_mem _ h, h'⟩
    · rintro (h | ⟨h, h'⟩)
      · exact .inl h
      · rcases List.mem_cons.1 h with h | h
        · exact absurd h.symm hij
        · exact .inr ⟨h, h'⟩
theorem TyA.tie {d : Nat} {a : Ac} (hA : OkA a) (h : TyA d a) (grp : Nat) (again : Bool) (hL : a.takes.length ≤ 256) : TiP (d + 1) (tie grp again a) := by
 have hb0 := bhd_ok (again := again) hA.lk hA.kid
 have hR : ∀ i, ((a.links.drop i).foldr tieStep (a.next, bhd again a.links)).2.length = 4 := fun i => (tie_ok (a.links.drop i) a.next (bhd again a.links) (fun l hl => hA.lk l (List.mem_of_mem_drop hl)) (fun l hl => hA.kid l (List.mem_of_mem_drop hl)) hA.nx hb0).2.2.1
 have hst : ∀ (i : Nat) (l : Pt × Nat × Bool), a.links[i]? = some l → (a.links.drop i).foldr tieStep (a.next, bhd again a.links) = tieStep l ((a.links.drop (i + 1)).foldr tieStep (a.next, bhd again a.links)) := fun i l hl => by
  obtain ⟨hi, rfl⟩ := List.getElem?_eq_some_iff.1 hl
  rw [List.drop_eq_getElem_cons hi, List.foldr_cons]
 refine .mk d _ (fun i => ((a.links.drop i).foldr tieStep (a.next, bhd again a.links)).2) (fun _ => rfl) (fun i _ => hR i) (fun i l hl => ?_) ?_ ?_ h.tk h.dj ?_ h.kid
 · show ((a.links.drop i).foldr tieStep (a.next, bhd again a.links)).2 = joinB (lnB l) ((a.links.drop (i + 1)).foldr tieStep (a.next, bhd again a.links)).2
   rw [hst i l hl]; rfl
 · show ((a.links.drop a.links.length).foldr tieStep (a.next, bhd again a.links)).2 = bhd again a.links
   rw [List.drop_length]; rfl
 · intro c l x y hl hx
   have hl : a.links[c]? = some l := hl
   have hbl := hA.lk l (List.mem_of_getElem? hl)
   have hcl : c < a.links.length := (List.getElem?_eq_some_iff.1 hl).1
   -- step by step, from the last link on
   have key : ∀ (n j : Nat), j + n = a.links.length → ∃ v, ((a.links.drop j).foldr tieStep (a.next, bhd again a.links)).1[l.2.1 + x]? = some v ∧ (v.testBit y = true ↔ (up (l.1.next.getD x 0) l.2.1).testBit y = true ∨ (j ≤ c ∧ (bat (lnB l) 0).la.testBit (l.2.1 + x) = true ∧ (bat ((a.links.drop (c + 1)).foldr tieStep (a.next, bhd again a.links)).2 0).fi.testBit y = true)) := by
    intro n
    induction n with
    | zero =>
     intro j hj
     obtain rfl : j = a.links.length := by omega
     rw [List.drop_length]
     refine ⟨_, h.nx c l x hl hx, ?_⟩
     constructor
     · exact .inl
     · rintro (h | ⟨h, _⟩)
       · exact h
       · omega
    | succ n ih =>
     intro j hj
     obtain ⟨v, hv, hvy⟩ := ih (j + 1) (by omega)
     obtain ⟨m, hm⟩ : ∃ m, a.links[j]? = some m := ⟨_, List.getElem?_eq_getElem (by omega)⟩
     rw [hst j m hm]
     obtain ⟨v', h1, h2⟩ := fold_at (x := (bat ((a.links.drop (j + 1)).foldr tieStep (a.next, bhd again a.links)).2 0).fi) (y := y) (mem 256 (bat (lnB m) 0).la) _ _ v hv
     refine ⟨v', h1, ?_⟩
     have ho2 := (hA.kid m (List.mem_of_getElem? hm)).bd
     have hin : l.2.1 + x ∈ mem 256 (bat (lnB m) 0).la ↔ (j = c ∧ (bat (lnB l) 0).la.testBit (l.2.1 + x) = true) := by
      rw [mem_iff]
      constructor
      · rintro ⟨_, g⟩
        have hjc : j = c := by
         rw [ln_bat ho2.1 (by omega)] at g
         obtain ⟨_, g2, g3⟩ := upb.1 g
         have g4 := bit_len (ho2.at 0).2 g3
         rcases Nat.lt_trichotomy j c with hjc | hjc | hjc
         · have := h.dj j c m l hm hl hjc; omega
         · exact hjc
         · have := h.dj c j l m hl hm hjc; omega
        subst hjc
        rw [hl] at hm; cases hm
        exact ⟨rfl, g⟩
      · rintro ⟨rfl, g⟩
        rw [hl] at hm; cases hm
        exact ⟨by omega, g⟩
     rw [h2, hvy, hin]
     constructor
     · rintro ((g | ⟨g1, g2⟩) | ⟨⟨rfl, g2⟩, g3⟩)
       · exact .inl g
       · exact .inr ⟨by omega, g2⟩
       · exact .inr ⟨Nat.le_refl _, g2, g3⟩
     · rintro (g | ⟨g1, g2, g3⟩)
       · exact .inl (.inl g)
       · rcases Nat.lt_or_ge j c with g4 | g4
         · exact .inl (.inr ⟨by omega, g2, g3⟩)
         · obtain rfl : j = c := by omega
           exact .inr ⟨⟨rfl, g2⟩, g3⟩
   obtain ⟨v, hv, hvy⟩ := key a.links.length 0 (by omega)
   show ((((a.links.drop 0).foldr tieStep (a.next, bhd again a.links)).1.getD (l.2.1 + x) 0).testBit y = true ↔ _)
   rw [List.getD_eq_getElem?_getD, hv, Option.getD_some, hvy]
   simp only [Nat.zero_le, true_and]
 · intro hc
   show ∃ l, a.links = [l] ∧ (again = true ∨ l.1.closed = true)
   have hc : (match a.links with | [l] => again || l.1.closed | _ => false) = true := hc
   match hl : a.links, hc with
   | [l], hc =>
    refine ⟨l, rfl, ?_⟩
    rw [Bool.or_eq_true] at hc
    exact hc
end Go.Proofs.YtmkcpocaheogaaaDoor.smt
namespace Go.Proofs.YtmkcpocaheogaaaDoor.smt
open Go.Proofs.YtmkcpocaheogaaaDoor.br
def EndOk (p : Pt) (s : List Nat) (a : Nat) : Option Nat → Prop
 | none => True
 | some t => a ≤ t ∧ t ≤ s.length ∧ (a < t → Has p s a t)
theorem run_ends {p : Pt} {s : List Nat} (hok : OkP p) {a : Nat} : ∀ (f wait pl : Nat) (tz : Option Nat) (tried : List Nat) (held : Nat), a ≤ pl → pl ≤ s.length →
  (∀ x, wait.testBit x = true → (pl = a ∧ (bat p.bds (kindAt s.length a)).fi.testBit x = true) ∨ (a < pl ∧ ∃ z, Fw p s (bat p.bds (kindAt s.length a)).fi a (pl - 1) z ∧ (p.next.getD z 0).testBit x = true)) → EndOk p s a tz →
  EndOk p s a (runF p s f wait pl tz (tried, held)).1
 | 0, _, _, _, _, _, _, _, _, h => h
 | f + 1, wait, pl, tz, tried, held, h1, h2, hw, h => by
  rw [runF]
  cases e1 : Nat.beq pl s.length with
  | true => exact h
  | false =>
   have hpl : pl < s.length := by
    rcases Nat.lt_or_ge pl s.length with h | h
    · exact h
    · obtain rfl : pl = s.length := by omega
      rw [Nat.beq_refl] at e1; cases e1
   rw [cond_false]
   dsimp only
   have hsub : ∀ x, (wait ^^^ (wait &&& tried.getD pl 0)).testBit x = true → wait.testBit x = true := fun x hx => by
    rw [Nat.testBit_xor, Nat.testBit_and] at hx
    cases e : wait.testBit x with
    | true => rfl
    | false => rw [e] at hx; simp at hx
   generalize wait ^^^ (wait &&& tried.getD pl 0) = w at *
   cases Nat.beq w 0 with
   | true => exact h
   | false =>
    rw [cond_false]
    have hfw : ∀ x, (takers p s w pl).testBit x = true → Fw p s (bat p.bds (kindAt s.length a)).fi a pl x := fun x hx => by
     obtain ⟨_, x2, x3⟩ := takers_bit.1 hx
     rcases hw x (hsub x x2) with ⟨rfl, h⟩ | ⟨h0, z, hz, hn⟩
     · exact .one x h x3
     · have := Fw.more (pl - 1) z x hz hn (by rw [show pl - 1 + 1 = pl by omega]; exact x3)
       rwa [show pl - 1 + 1 = pl by omega] at this
    refine run_ends hok f _ (pl + 1) _ _ _ (by omega) (by omega) (fun x hx => .inr ⟨by omega, ?_⟩) ?_
    · obtain ⟨z, _, z2, z3⟩ := onward_bit.1 hx
      exact ⟨z, by rw [Nat.add_sub_cancel]; exact hfw z z2, z3⟩
    · cases e2 : Nat.beq (takers p s w pl &&& (bat p.bds (kindAt s.length (pl + 1))).la) 0 with
      | true => exact h
      | false =>
       obtain ⟨z, z1, z2⟩ := and0.1 e2
       refine ⟨by omega, by omega, fun _ => ?_⟩
       have hz := hfw z z1
       obtain ⟨v, v1, v2⟩ := hz.has (e := pl + 1) hok.len (by omega) (by
        rw [show pl + 1 - 1 - pl = 0 by omega]
        exact us_zero.2 ⟨Nat.lt_of_lt_of_le (takes_lt hz.tk) hok.len, z2, by rw [Nat.add_sub_cancel]; exact hz.tk⟩)
       exact ⟨v, v1, v2⟩
theorem find_ends {p : Pt} {s : List Nat} (hok : OkP p) : ∀ (f fr : Nat) (st : List Nat × Nat) (a b : Nat), fr + f ≤ s.length + 1 → (findF p s f fr st).1 = some (a, b) → fr ≤ a ∧ a ≤ b ∧ b ≤ s.length ∧ (a < b → Has p s a b)
 | 0, _, _, _, _, _, h => by cases h
 | f + 1, fr, st, a, b, hf, h => by
  rw [findF] at h
  have hr := run_ends hok (a := fr) (s.length + 1) (bat p.bds (kindAt s.length fr)).fi fr (bif (bat p.bds (kindAt s.length fr)).no then some fr else none) st.1 st.2 (Nat.le_refl _) (by omega) (fun x hx => .inl ⟨rfl, hx⟩) (by
   cases (bat p.bds (kindAt s.length fr)).no with
   | true => exact ⟨Nat.le_refl _, by omega, fun h => absurd h (Nat.lt_irrefl _)⟩
   | false => trivial)
  generalize runF p s (s.length + 1) (bat p.bds (kindAt s.length fr)).fi fr (bif (bat p.bds (kindAt s.length fr)).no then some fr else none) (st.1, st.2) = r at *
  obtain ⟨tz, st'⟩ := r
  cases tz with
  | some t =>
   dsimp only at h hr
   cases h
   exact ⟨Nat.le_refl _, hr.1, hr.2.1, hr.2.2⟩
  | none =>
   obtain ⟨h1, h2⟩ := find_ends hok f (fr + 1) st' a b (by omega) h
   exact ⟨by omega, h2⟩
theorem match_ends {ng d : Nat} {p : Pt} {s : List Nat} (hok : OkP p) (hti : TiP d p) (hgr : GrP ng p) {fr h a b : Nat} (hfr : fr ≤ s.length) (e : (findF p s (s.length + 1 - fr) fr (List.replicate s.length 0, h)).1 = some (a, b)) : fr ≤ a ∧ a ≤ b ∧ b ≤ s.length ∧ ∀ x, ∃ y, settle s d p a b x = some y := by
 obtain ⟨h1, h2, h3, h4⟩ := find_ends hok _ _ _ a b (by omega) e
 exact ⟨h1, h2, h3, settle_ends d p hti hok hgr a b h2 h3 h4⟩
def EqB (b : List Bd) : Prop := ∃ u v, b = [u, u, v, v]
theorem EqB.opt {b : List Bd} : EqB b → EqB (optB b) := by rintro ⟨u, v, rfl⟩; exact ⟨_, _, rfl⟩
theorem EqB.join {a b : List Bd} : EqB a → EqB b → EqB (joinB a b) := by rintro ⟨u, v, rfl⟩ ⟨x, y, rfl⟩; exact ⟨_, _, rfl⟩
theorem EqB.zero : EqB zeroB := ⟨_, _, rfl⟩
theorem EqB.ln {l : Pt × Nat × Bool} (h : EqB l.1.bds) : EqB (lnB l) := by
 obtain ⟨u, v, h⟩ := h
 unfold lnB
 rw [h]
 cases l.2.2 <;> exact ⟨_, _, rfl⟩
theorem EqB.bat {b : List Bd} (h : EqB b) {k j : Nat} (hk : k < 4) (hj : j < 4) (e : k / 2 = j / 2) : bat b k = bat b j := by
 obtain ⟨u, v, rfl⟩ := h
 rcases (show k = 0 ∨ k = 1 ∨ k = 2 ∨ k = 3 by omega) with rfl | rfl | rfl | rfl <;> rcases (show j = 0 ∨ j = 1 ∨ j = 2 ∨ j = 3 by omega) with rfl | rfl | rfl | rfl <;> first | rfl | (exfalso; omega)
inductive NbP : Pt → Prop where
 | mk (p : Pt) (b : EqB p.bds) (k : ∀ l ∈ p.links, NbP l.1) : NbP p
theorem NbP.b {p : Pt} : NbP p → EqB p.bds | .mk _ b _ => b
theorem NbP.k {p : Pt} : NbP p → ∀ l ∈ p.links, NbP l.1 | .mk _ _ k => k
theorem tie_nb : ∀ (ls : List (Pt × Nat × Bool)) (nx : List Nat) (b0 : List Bd), (∀ l ∈ ls, NbP l.1) → EqB b0 → EqB (ls.foldr tieStep (nx, b0)).2
 | [], _, _, _, h => h
 | l :: ls, nx, b0, hl, h => by
  rw [List.foldr_cons]
  exact (hl l List.mem_cons_self).b.ln.join (tie_nb ls nx b0 (fun x hx => hl x (List.mem_cons_of_mem _ hx)) h)
theorem bhd_nb (ag : Bool) (ls : List (Pt × Nat × Bool)) (hl : ∀ l ∈ ls, NbP l.1) : EqB (bhd ag ls) := by
 unfold bhd
 cases ag
 · exact EqB.zero.opt
 · cases e : ls.getLast? with
   | none => exact EqB.zero.opt
   | some l => exact (hl l (List.mem_of_getLast? e)).b.ln.opt
theorem nb_tie {a : Ac} (g : Nat) (ag : Bool) (hl : ∀ l ∈ a.links, NbP l.1) : NbP (tie g ag a) :=
 .mk _ (tie_nb a.links a.next (bhd ag a.links) hl (bhd_nb ag a.links hl)) hl
theorem nb_add {a : Ac} {kid : Pt} (hl : ∀ l ∈ a.links, NbP l.1) (hk : NbP kid) (f : Bool) : ∀ l ∈ (a.add kid f).links, NbP l.1 := fun l h => by
 rcases List.mem_append.1 (show l ∈ a.links ++ [(kid, a.takes.length, f)] from h) with h | h
 · exact hl l h
 · rw [List.mem_singleton.1 h]; exact hk
theorem nb_addN {kid : Pt} (hk : NbP kid) (lo : Int) : ∀ (n c : Nat) (a : Ac), (∀ l ∈ a.links, NbP l.1) → ∀ l ∈ (addN kid lo n c a).links, NbP l.1
 | 0, _, _, h => h
 | n + 1, c, _, h => nb_addN hk lo n (c + 1) _ (nb_add h hk _)
theorem nb_addL : ∀ (ks : List Pt) (a : Ac), (∀ p ∈ ks, NbP p) → (∀ l ∈ a.links, NbP l.1) → ∀ l ∈ (ks.foldl (fun a kid => a.add kid false) a).links, NbP l.1
 | [], _, _, h => h
 | k :: ks, a, hk, h => nb_addL ks (a.add k false) (fun p hp => hk p (List.mem_cons_of_mem _ hp)) (nb_add h (hk k List.mem_cons_self) false)
mutual
def nbT : Tr → Bool
 | .mk k _ _ _ _ ks => !Nat.beq k 2 && nbL ks
def nbL : List Tr → Bool
 | [] => true
 | t :: ts => nbT t && nbL ts
end
theorem nil_nb {d : Bool} : ∀ l ∈ (⟨d, [], [], []⟩ : Ac).links, NbP l.1 := fun _ h => nomatch h
theorem leaf_nb {b : List Bd} (g : Nat) (tk : List (Nat → Bool)) (nx : List Nat) (h : EqB b) : NbP (.mk g false [] false false b tk nx) := .mk _ h (fun _ h => nomatch h)
mutual
theorem nb_lay : ∀ t : Tr, nbT t = true → NbP (layT t)
 | .mk kind q lo hi gp ks, h => by
  rw [nbT, Bool.and_eq_true] at h
  have hk := nb_layL ks h.2
  have row : ∀ k : Nat, (layT (.mk k q lo hi gp ks) = tie gp false ((layL ks).foldl (fun a kid => a.add kid false) ⟨Nat.beq k 4, [], [], []⟩)) → NbP (layT (.mk k q lo hi gp ks)) := fun k e => by
   rw [e]; exact nb_tie gp false (nb_addL _ _ hk nil_nb)
  match kind, h.1 with
  | 0, _ => exact row 0 rfl
  | 1, _ => exact leaf_nb 0 _ _ ⟨_, _, rfl⟩
  | 3, _ => exact leaf_nb 0 _ _ ⟨_, _, rfl⟩
  | 4, _ => exact row 4 rfl
  | 5, _ =>
   rw [layT]
   generalize (bif decide (hi < 0) then max lo.toNat 1 else hi.toNat) = w
   cases Nat.beq w 0 with
   | true => exact nb_tie 0 _ nil_nb
   | false =>
    rw [cond_false]
    match e : layL ks with
    | [] => exact nb_tie 0 _ nil_nb
    | kid :: _ => exact nb_tie 0 _ (nb_addN (hk kid (by rw [e]; exact List.mem_cons_self)) lo _ _ _ nil_nb)
  | k + 6, _ => exact row (k + 6) rfl
theorem nb_layL : ∀ ts : List Tr, nbL ts = true → ∀ p ∈ layL ts, NbP p
 | [], _, _, h => nomatch h
 | t :: ts, h, p, hp => by
  rw [nbL, Bool.and_eq_true] at h
  rw [layL] at hp
  rcases List.mem_cons.1 hp with rfl | hp
  · exact nb_lay t h.1
  · exact nb_layL ts h.2 p hp
end
theorem kind_sh (F n i : Nat) : kindAt (F + n) (F + i) / 2 = kindAt n i / 2 := by
 have e : Nat.beq (F + i) (F + n) = Nat.beq i n := by
  cases h : Nat.beq i n with
  | true => rw [Nat.eq_of_beq_eq_true h]; exact Nat.beq_refl _
  | false =>
   cases h2 : Nat.beq (F + i) (F + n) with
   | false => rfl
   | true => rw [show i = n by have := Nat.eq_of_beq_eq_true h2; omega, Nat.beq_refl] at h; cases h
 unfold kindAt
 rw [e]
 cases Nat.beq (F + i) 0 <;> cases Nat.beq i 0 <;> cases Nat.beq i n <;> rfl
theorem bat_sh {p : Pt} (h : NbP p) (fr s : List Nat) (i : Nat) : bat p.bds (kindAt (fr ++ s).length (fr.length + i)) = bat p.bds (kindAt s.length i) := by
 rw [List.length_append]
 exact h.b.bat (kind4 _ _) (kind4 _ _) (kind_sh _ _ _)
theorem get_sh {α : Type} (fr s : List α) (i : Nat) (d : α) : (fr ++ s).getD (fr.length + i) d = s.getD i d := by
 rw [List.getD_eq_getElem?_getD, List.getD_eq_getElem?_getD, List.getElem?_append_right (by omega), show fr.length + i - fr.length = i by omega]
theorem takers_sh (p : Pt) (fr s : List Nat) (w i : Nat) : takers p (fr ++ s) w (fr.length + i) = takers p s w i := by
 unfold takers; rw [get_sh]
theorem beq_sh (F a b : Nat) : Nat.beq (F + a) (F + b) = Nat.beq a b := by
 cases h : Nat.beq a b with
 | true => rw [Nat.eq_of_beq_eq_true h]; exact Nat.beq_refl _
 | false =>
  cases h2 : Nat.beq (F + a) (F + b) with
  | false => rfl
  | true => rw [show a = b by have := Nat.eq_of_beq_eq_true h2; omega, Nat.beq_refl] at h; cases h
theorem run_sh {p : Pt} (hp : NbP p) (fr s : List Nat) : ∀ (f g w i : Nat) (tz : Option Nat) (z tried : List Nat) (held : Nat), i ≤ s.length → s.length + 1 - i ≤ f → s.length + 1 - i ≤ g → z.length = fr.length →
  runF p (fr ++ s) g w (fr.length + i) (tz.map (fr.length + ·)) (z ++ tried, held) = ((runF p s f w i tz (tried, held)).1.map (fr.length + ·), z ++ (runF p s f w i tz (tried, held)).2.1, (runF p s f w i tz (tried, held)).2.2)
 | 0, _, _, _, _, _, _, _, hi, hf, _, _ => by omega
 | f + 1, 0, _, _, _, _, _, _, hi, _, hg, _ => by omega
 | f + 1, g + 1, w, i, tz, z, tried, held, hi, hf, hg, hz => by
  have e1 : (z ++ tried).getD (fr.length + i) 0 = tried.getD i 0 := by rw [← hz]; exact get_sh z tried i 0
  have e2 : ∀ v, (z ++ tried).set (fr.length + i) v = z ++ tried.set i v := fun v => by
   rw [List.set_append_right _ _ (by omega), hz, show fr.length + i - fr.length = i by omega]
  rw [runF, runF]
  rw [show (fr ++ s).length = fr.length + s.length from List.length_append, beq_sh]
  cases hb : Nat.beq i s.length with
  | true => rfl
  | false =>
   have hlt : i < s.length := by
    rcases Nat.lt_or_ge i s.length with h | h
    · exact h
    · rw [show i = s.length by omega, Nat.beq_refl] at hb; cases hb
   rw [cond_false, cond_false, e1]
   dsimp only
   generalize hw : w ^^^ (w &&& tried.getD i 0) = w'
   cases h0 : Nat.beq w' 0 with
   | true => rfl
   | false =>
    rw [cond_false, cond_false, e2, takers_sh, Nat.add_assoc]
    have e3 : bat p.bds (kindAt (fr.length + s.length) (fr.length + (i + 1))) = bat p.bds (kindAt s.length (i + 1)) := by
     rw [← List.length_append]; exact bat_sh hp fr s (i + 1)
    rw [e3]
    have e4 : (bif Nat.beq (takers p s w' i &&& (bat p.bds (kindAt s.length (i + 1))).la) 0 then tz.map (fr.length + ·) else some (fr.length + (i + 1))) = (bif Nat.beq (takers p s w' i &&& (bat p.bds (kindAt s.length (i + 1))).la) 0 then tz else some (i + 1)).map (fr.length + ·) := by
     cases Nat.beq (takers p s w' i &&& (bat p.bds (kindAt s.length (i + 1))).la) 0 <;> rfl
    rw [e4]
    exact run_sh hp fr s f g _ (i + 1) _ z _ _ (by omega) (by omega) (by omega) hz
theorem find_sh {p : Pt} (hp : NbP p) (fr s : List Nat) : ∀ (f i : Nat) (z tried : List Nat) (held : Nat), i + f = s.length + 1 → z.length = fr.length →
  findF p (fr ++ s) f (fr.length + i) (z ++ tried, held) = ((findF p s f i (tried, held)).1.map (fun x => (fr.length + x.1, fr.length + x.2)), (findF p s f i (tried, held)).2)
 | 0, _, _, _, _, _, _ => rfl
 | f + 1, i, z, tried, held, hi, hz => by
  rw [findF, findF, bat_sh hp]
  have e : (bif (bat p.bds (kindAt s.length i)).no then some (fr.length + i) else none) = (bif (bat p.bds (kindAt s.length i)).no then some i else none).map (fr.length + ·) := by
   cases (bat p.bds (kindAt s.length i)).no <;> rfl
  rw [e, run_sh hp fr s (s.length + 1) ((fr ++ s).length + 1) _ i _ z tried held (by omega) (by omega) (by rw [List.length_append]; omega) hz]
  generalize hr : runF p s (s.length + 1) (bat p.bds (kindAt s.length i)).fi i (bif (bat p.bds (kindAt s.length i)).no then some i else none) (tried, held) = r
  obtain ⟨tz, tr, hd⟩ := r
  cases tz with
  | some t => rfl
  | none => exact find_sh hp fr s f (i + 1) z tr hd (by omega) hz
theorem trace_sh (p : Pt) (fr s : List Nat) (a : Nat) : ∀ (n w : Nat) (x : List Nat × Nat), traceF p (fr ++ s) (fr.length + a) n w x = traceF p s a n w x
 | 0, _, _ => rfl
 | n + 1, w, (us, held) => by
  rw [traceF, traceF]
  rw [Nat.add_assoc, takers_sh]
  exact trace_sh p fr s a n _ _
theorem long_sh (q : Pt) (base F : Nat) (us : List Nat) (a b : Nat) : ∀ (f w i : Nat), longF q base us (F + a) (F + b) f w (F + i) = F + longF q base us a b f w i
 | 0, _, _ => rfl
 | f + 1, w, i => by
  have e : Nat.ble (F + b) (F + i) = Nat.ble b i := by
   cases h : Nat.ble b i with
   | true => exact Nat.ble_eq_true_of_le (by have := Nat.le_of_ble_eq_true h; omega)
   | false =>
    cases h2 : Nat.ble (F + b) (F + i) with
    | false => rfl
    | true => rw [Nat.ble_eq_true_of_le (show b ≤ i by have := Nat.le_of_ble_eq_true h2; omega)] at h; cases h
  rw [longF, longF, e, show F + i - (F + a) = i - a by omega]
  cases Nat.ble b i with
  | true => rfl
  | false =>
   dsimp only [cond_false]
   generalize w &&& us.getD (i - a) 0 >>> base = tk
   cases Nat.beq tk 0 with
   | true => rfl
   | false =>
    rw [cond_false, cond_false, Nat.add_assoc]
    exact long_sh q base F us a b f _ (i + 1)
def shG (F : Nat) (g : Int × Int) : Int × Int := if 0 ≤ g.1 then (g.1 + F, g.2 + F) else g
def shS (F : Nat) (x : Sp) : Sp := (x.1.map (shG F), x.2)
theorem ble_sh (F a b : Nat) : Nat.ble (F + a) (F + b) = Nat.ble a b := by
 cases h : Nat.ble a b with
 | true => exact Nat.ble_eq_true_of_le (by have := Nat.le_of_ble_eq_true h; omega)
 | false =>
  cases h2 : Nat.ble (F + a) (F + b) with
  | false => rfl
  | true => rw [Nat.ble_eq_true_of_le (show a ≤ b by have := Nat.le_of_ble_eq_true h2; omega)] at h; cases h
theorem share_sh {rec rec' : Pt → Nat → Nat → Sp → Option Sp} {p : Pt} {ng : Nat} (hp : NbP p) (hg : GrP ng p) (hne : p.links ≠ []) (fr s us : List Nat) (a b : Nat)
  (hr : ∀ q, NbP q → GrP ng q → ∀ i j x, rec' q (fr.length + i) (fr.length + j) (shS fr.length x) = (rec q i j x).map (shS fr.length)) :
  ∀ (f c i : Nat) (x : Sp), shareW rec' p (fr ++ s) us (fr.length + a) (fr.length + b) f c (fr.length + i) (shS fr.length x) = (shareW rec p s us a b f c i x).map fun y => (y.1, shS fr.length y.2)
 | 0, c, i, x => by
  rw [shareW, shareW, ble_sh]
  cases Nat.ble b i <;> rfl
 | f + 1, c, i, x => by
  rw [shareW, shareW, ble_sh]
  cases Nat.ble b i with
  | true => rfl
  | false =>
   rw [cond_false, cond_false]
   have hm : p.links.getD (min c (p.links.length - 1)) (.mk 0 false [] false false [] [] [], 0, false) ∈ p.links := by
    have h0 : 0 < p.links.length := List.length_pos_iff.2 hne
    rw [List.getD_eq_getElem?_getD, List.getElem?_eq_getElem (by omega)]
    exact List.getElem_mem _
   generalize p.links.getD (min c (p.links.length - 1)) (.mk 0 false [] false false [] [] [], 0, false) = l at hm
   obtain ⟨q, base, fre⟩ := l
   have hq := hp.k _ hm
   have ho := hg.kid _ hm
   dsimp only
   rw [bat_sh hq, show fr.length + b - (fr.length + i) + 1 = b - i + 1 by omega, long_sh]
   rw [hr q hq ho]
   generalize longF q base us a b (b - i + 1) (bat q.bds (kindAt s.length i)).fi i = e
   cases rec q i e x with
   | none => rfl
   | some y => exact share_sh hp hg hne fr s us a b hr f (c + 1) e y
theorem rest_sh {F ng : Nat} {rec rec' : Pt → Nat → Nat → Sp → Option Sp} {b : Nat}
  (hr : ∀ q, NbP q → GrP ng q → ∀ i j x, rec' q (F + i) (F + j) (shS F x) = (rec q i j x).map (shS F)) : ∀ (ls : List (Pt × Nat × Bool)) (x : Sp), (∀ l ∈ ls, NbP l.1 ∧ GrP ng l.1) → restW rec' (F + b) ls (shS F x) = (restW rec b ls x).map (shS F)
 | [], _, _ => rfl
 | l :: ls, x, h => by
  have h2 : ∀ l ∈ ls, NbP l.1 ∧ GrP ng l.1 := fun y hy => h y (List.mem_cons_of_mem _ hy)
  rw [restW, restW]
  cases l.2.2 with
  | true => exact rest_sh hr ls x h2
  | false =>
   rw [cond_false, cond_false, hr l.1 (h l List.mem_cons_self).1 (h l List.mem_cons_self).2]
   cases rec l.1 b b x with
   | none => rfl
   | some y => exact rest_sh hr ls y h2
theorem set_sh (F : Nat) (l : List (Int × Int)) (g i j : Nat) : (l.map (shG F)).set g (((F + i : Nat) : Int), ((F + j : Nat) : Int)) = (l.set g ((i : Int), (j : Int))).map (shG F) := by
 rw [List.map_set]
 congr 1
 unfold shG
 rw [if_pos (show (0 : Int) ≤ (i : Int) by omega)]
 simp only [Prod.mk.injEq]
 omega
theorem settle_sh {ng : Nat} (fr s : List Nat) : ∀ (f : Nat) (p : Pt), NbP p → GrP ng p → ∀ (i j : Nat) (x : Sp), settle (fr ++ s) f p (fr.length + i) (fr.length + j) (shS fr.length x) = (settle s f p i j x).map (shS fr.length) := by
 intro f
 induction f with
 | zero => intro p _ _ i j x; rfl
 | succ f ih =>
  intro p hp hg i j x
  rw [settle_eq, settle_eq]
  cases hd : p.deep with
  | false => rfl
  | true =>
   have hne := hg.d hd
   rw [show (!true) = false from rfl, cond_false, cond_false]
   have e1 : (bif Nat.beq p.grp 0 then shS fr.length x else ((shS fr.length x).1.set p.grp (((fr.length + i : Nat) : Int), ((fr.length + j : Nat) : Int)), (shS fr.length x).2)) = shS fr.length (bif Nat.beq p.grp 0 then x else (x.1.set p.grp ((i : Int), (j : Int)), x.2)) := by
    cases Nat.beq p.grp 0 with
    | true => rfl
    | false => rw [cond_false, cond_false]; exact Prod.ext (set_sh _ _ _ _ _) rfl
   rw [e1]
   generalize (bif Nat.beq p.grp 0 then x else (x.1.set p.grp ((i : Int), (j : Int)), x.2)) = x1
   have e2 : shareP (fr ++ s) f p (fr.length + i) (fr.length + j) (shS fr.length x1) = (shareP s f p i j x1).map fun y => (y.1, shS fr.length y.2) := by
    unfold shareP
    rw [beq_sh]
    cases Nat.beq i j with
    | true => rfl
    | false =>
     rw [cond_false, cond_false]
     cases aloneP p with
     | true =>
      rw [cond_true, cond_true]
      cases hl : p.links with
      | nil => rfl
      | cons l ls =>
       have hm : l ∈ p.links := by rw [hl]; exact List.mem_cons_self
       show Option.map _ _ = Option.map _ (Option.map _ _)
       rw [ih l.1 (hp.k l hm) (hg.kid l hm)]
       cases settle s f l.1 i j x1 <;> rfl
     | false =>
      rw [cond_false, cond_false, bat_sh hp, show fr.length + j - (fr.length + i) = j - i by omega, trace_sh]
      exact share_sh hp hg hne fr s (traceF p s i (j - i) (bat p.bds (kindAt s.length j)).la ([], x1.2)).1 i j ih (j - i + p.links.length) 0 i (x1.1, (traceF p s i (j - i) (bat p.bds (kindAt s.length j)).la ([], x1.2)).2)
   rw [e2]
   cases shareP s f p i j x1 with
   | none => rfl
   | some y => exact rest_sh ih (p.links.drop y.1) y.2 fun l hl => ⟨hp.k l (List.mem_of_mem_drop hl), hg.kid l (List.mem_of_mem_drop hl)⟩
theorem match_sh {f ng g : Nat} {t : Tr} (hn : nbT t = true) (hg : GrP ng (layT t)) (fr s : List Nat) : matchF f g t (fr ++ s) fr.length = (matchF f g t s 0).map fun r => (r.1.map fun l => l.map (shG fr.length), r.2) := by
 have hp := nb_lay t hn
 have hf : findF (layT t) (fr ++ s) (s.length + 1 - 0) fr.length (List.replicate fr.length 0 ++ List.replicate s.length 0, 0) = _ := find_sh hp fr s (s.length + 1 - 0) 0 (List.replicate fr.length 0) (List.replicate s.length 0) 0 (by omega) (List.length_replicate)
 unfold matchF
 rw [List.length_append, show fr.length + s.length + 1 - fr.length = s.length + 1 - 0 by omega, ← List.replicate_append_replicate]
 rw [hf]
 generalize findF (layT t) s (s.length + 1 - 0) 0 (List.replicate s.length 0, 0) = r
 obtain ⟨o, h⟩ := r
 cases o with
 | none => rfl
 | some ab =>
  obtain ⟨a, b⟩ := ab
  have hs := settle_sh fr s f (layT t) hp hg a b ((List.replicate (g + 1) (-1, -1)).set 0 ((a : Int), (b : Int)), h)
  have e : shS fr.length ((List.replicate (g + 1) (-1, -1)).set 0 ((a : Int), (b : Int)), h) = ((List.replicate (g + 1) (-1, -1)).set 0 (((fr.length + a : Nat) : Int), ((fr.length + b : Nat) : Int)), h) := by
   refine Prod.ext ?_ rfl
   show List.map _ _ = _
   rw [← set_sh, List.map_replicate]
   rfl
  rw [e] at hs
  show Option.map _ _ = Option.map _ (Option.map _ _)
  rw [hs]
  cases settle s f (layT t) a b ((List.replicate (g + 1) (-1, -1)).set 0 ((a : Int), (b : Int)), h) <;> rfl
theorem LayQ.ti : LayQ TiP TyA := ⟨fun h hd => h.upn hd, TyA.zero, fun hA h _ hk ht fr => TyA.add hA h hk ht fr, fun hA h g ag hL => TyA.tie hA h g ag hL,
 fun _ _ _ => ⟨1, .mk 0 _ (fun _ => bhd false []) (fun h => absurd rfl h) (fun _ _ => rfl) (fun _ _ h => nomatch h) rfl (fun _ _ _ _ h => nomatch h) (fun _ _ _ h => nomatch h) (fun _ _ _ _ h => nomatch h) (fun h => nomatch h) (fun _ h => nomatch h)⟩⟩
theorem match_total {ng g : Nat} {t : Tr} (h : LyT ng t) : ∃ d, ∀ (s : List Nat) (fr : Nat), fr ≤ s.length → ∃ r, matchF d g t s fr = some r := by
 obtain ⟨h1, ⟨d, h2⟩, h3, _⟩ := lay_ok LayQ.ti t h
 refine ⟨d, fun s fr hf => ?_⟩
 unfold matchF
 cases e : findF (layT t) s (s.length + 1 - fr) fr (List.replicate s.length 0, 0) with
 | mk o hd =>
  cases o with
  | none => exact ⟨_, rfl⟩
  | some ab =>
   obtain ⟨a, b⟩ := ab
   obtain ⟨_, _, _, k⟩ := match_ends h1 h2 h3 hf (h := 0) (a := a) (b := b) (by rw [e])
   obtain ⟨y, hy⟩ := k ((List.replicate (g + 1) (-1, -1)).set 0 ((a : Int), (b : Int)), hd)
   refine ⟨(some y.1, y.2), ?_⟩
   show Option.map _ (settle s d (layT t) a b ((List.replicate (g + 1) (-1, -1)).set 0 ((a : Int), (b : Int)), hd)) = _
   rw [hy]; rfl
end Go.Proofs.YtmkcpocaheogaaaDoor.smt
namespace Go.Proofs.YtmkcpocaheogaaaDoor.smt
open Go.Proofs.YtmkcpocaheogaaaDoor.br
theorem msF_bol : ∀ (ts : List Tr) (m : Ms), (msF m ts).bol = false → m.bol = false ∧ ∀ t ∈ ts, (msT t).bol = false
 | [], m, h => ⟨h, fun _ h => nomatch h⟩
 | t :: ts, m, h => by
  rw [msF] at h
  obtain ⟨h1, h2⟩ := msF_bol ts _ h
  have h3 : (m.bol || (msT t).bol) = false := h1
  rw [Bool.or_eq_false_iff] at h3
  refine ⟨h3.1, fun x hx => ?_⟩
  rcases List.mem_cons.1 hx with rfl | hx
  · exact h3.2
  · exact h2 x hx
mutual
theorem nb_shT : ∀ (t : Tr) (s s' : Sh), ShT t s s' → (msT t).bol = false → nbT t = true
 | .mk k q lo hi g kids, s, s', h, hb => by
  unfold nbT
  rw [Bool.and_eq_true]
  rcases h with ⟨rfl, _, _, _, rfl, h⟩ | ⟨hk3, rfl, rfl, rfl, rfl, rfl⟩ | ⟨rfl, _, rfl, rfl, rfl, _, _, _, rfl⟩ | ⟨rfl, _, _, _, hg1, hg9, _, s1, h, rfl⟩ | ⟨rfl, _, rfl, hlo, hhi, _, h⟩
  · have e : msT (.mk 0 q lo hi 0 kids) = msF .zero kids := by simp [msT]
    rw [e] at hb
    exact ⟨rfl, nb_shL kids s s' h (msF_bol _ _ hb).2⟩
  · refine ⟨?_, rfl⟩
    rcases hk3 with rfl | ⟨rfl | rfl, _⟩
    · rfl
    · simp [msT] at hb
    · rfl
  · exact ⟨rfl, rfl⟩
  · have e : msT (.mk 4 q lo hi g kids) = (msF .zero kids).grp := by simp [msT]
    rw [e] at hb
    exact ⟨rfl, nb_shL kids _ s1 h (msF_bol _ _ (show (msF .zero kids).bol = false from hb)).2⟩
  · have e : msT (.mk 5 q lo hi 0 kids) = (msF .zero kids).rep lo hi := by simp [msT]
    rw [e] at hb
    exact ⟨rfl, nb_shL kids s s' h (msF_bol _ _ (show (msF .zero kids).bol = false from hb)).2⟩
theorem nb_shL : ∀ (ts : List Tr) (s s' : Sh), ShL ts s s' → (∀ t ∈ ts, (msT t).bol = false) → nbL ts = true
 | [], _, _, _, _ => rfl
 | t :: ts, s, s', h, hb => by
  unfold ShL at h
  obtain ⟨s1, h1, h2⟩ := h
  unfold nbL
  rw [Bool.and_eq_true]
  exact ⟨nb_shT t s s1 h1 (hb t List.mem_cons_self), nb_shL ts s1 s' h2 fun x hx => hb x (List.mem_cons_of_mem _ hx)⟩
end
theorem nb_parse {s : ByteArray} {ts : List Tr} (h : parseT s = .ok ts) (hb : (msF .zero ts).bol = false) : nbT (catT ts) = true := by
 obtain ⟨s', hs⟩ := xfg s ts h
 have e : msT (catT ts) = msF .zero ts := by simp [catT, msT]
 exact nb_shT _ _ _ hs (by rw [e]; exact hb)
def InB (B : Nat) (l : List (Int × Int)) : Prop := l.length ≤ 1000 ∧ ∀ g ∈ l, -1 ≤ g.1 ∧ g.1 ≤ (B : Int) ∧ -1 ≤ g.2 ∧ g.2 ≤ (B : Int)
theorem InB.set {B : Nat} {l : List (Int × Int)} (h : InB B l) (i : Nat) {a b : Nat} (ha : a ≤ B) (hb : b ≤ B) : InB B (l.set i ((a : Int), (b : Int))) := ⟨by rw [List.length_set]; exact h.1, fun g hg => by
 rcases List.mem_or_eq_of_mem_set hg with hg | rfl
 · exact h.2 g hg
 · exact ⟨by show -1 ≤ (a : Int); omega, by show (a : Int) ≤ B; omega, by show -1 ≤ (b : Int); omega, by show (b : Int) ≤ B; omega⟩⟩
theorem share_in {rec : Pt → Nat → Nat → Sp → Option Sp} {B : Nat} (hr : ∀ q i j x y, i ≤ B → j ≤ B → InB B x.1 → rec q i j x = some y → InB B y.1) (p : Pt) (s us : List Nat) (fr te : Nat) (hte : te ≤ B) : ∀ (f c a : Nat) (x : Sp) (r : Nat × Sp), InB B x.1 → shareW rec p s us fr te f c a x = some r → InB B r.2.1
 | 0, c, a, x, r, hx, h => by
  rw [shareW] at h
  cases e : Nat.ble te a with
  | true => rw [e] at h; cases h; exact hx
  | false => rw [e] at h; cases h
 | f + 1, c, a, x, r, hx, h => by
  rw [shareW] at h
  cases e : Nat.ble te a with
  | true => rw [e] at h; cases h; exact hx
  | false =>
   have hlt : a < te := by
    have : ¬ te ≤ a := fun h2 => by rw [← Nat.ble_eq, e] at h2; cases h2
    omega
   rw [e, cond_false] at h
   generalize p.links.getD (min c (p.links.length - 1)) (.mk 0 false [] false false [] [] [], 0, false) = l at h
   obtain ⟨q, base, fre⟩ := l
   dsimp only at h
   have hl := long_in q base us fr te (te - a + 1) (bat q.bds (kindAt s.length a)).fi a (by omega)
   generalize longF q base us fr te (te - a + 1) (bat q.bds (kindAt s.length a)).fi a = z at h hl
   cases hy : rec q a z x with
   | none => rw [hy] at h; cases h
   | some y =>
    rw [hy] at h
    exact share_in hr p s us fr te hte f (c + 1) z y r (hr q a z x y (by omega) (by omega) hx hy) h
theorem rest_in {rec : Pt → Nat → Nat → Sp → Option Sp} {B te : Nat} (hte : te ≤ B) (hr : ∀ q i j x y, i ≤ B → j ≤ B → InB B x.1 → rec q i j x = some y → InB B y.1) : ∀ (ls : List (Pt × Nat × Bool)) (x y : Sp), InB B x.1 → restW rec te ls x = some y → InB B y.1
 | [], x, y, hx, h => by cases h; exact hx
 | l :: ls, x, y, hx, h => by
  rw [restW] at h
  cases hl : l.2.2 with
  | true => rw [hl] at h; exact rest_in hte hr ls x y hx h
  | false =>
   rw [hl, cond_false] at h
   cases hz : rec l.1 te te x with
   | none => rw [hz] at h; cases h
   | some z => rw [hz] at h; exact rest_in hte hr ls z y (hr _ _ _ _ _ hte hte hx hz) h
theorem settle_in {B : Nat} (s : List Nat) : ∀ (f : Nat) (p : Pt) (i j : Nat) (x y : Sp), i ≤ B → j ≤ B → InB B x.1 → settle s f p i j x = some y → InB B y.1 := by
 intro f
 induction f with
 | zero => intro p i j x y _ _ _ h; cases h
 | succ f ih =>
  intro p i j x y hi hj hx h
  rw [settle_eq] at h
  cases hd : p.deep with
  | false => rw [hd] at h; cases h; exact hx
  | true =>
   rw [hd, show (!true) = false from rfl, cond_false] at h
   have hx1 : InB B (bif Nat.beq p.grp 0 then x else (x.1.set p.grp ((i : Int), (j : Int)), x.2)).1 := by
    cases Nat.beq p.grp 0 with
    | true => exact hx
    | false => exact hx.set p.grp hi hj
   generalize (bif Nat.beq p.grp 0 then x else (x.1.set p.grp ((i : Int), (j : Int)), x.2)) = x1 at h hx1
   cases hs : shareP s f p i j x1 with
   | none => rw [hs] at h; cases h
   | some r =>
    rw [hs] at h
    refine rest_in hj ih _ _ _ ?_ h
    unfold shareP at hs
    cases hb : Nat.beq i j with
    | true => rw [hb] at hs; cases hs; exact hx1
    | false =>
     rw [hb, cond_false] at hs
     cases ha : aloneP p with
     | true =>
      rw [ha, cond_true] at hs
      cases hl : p.links with
      | nil => rw [hl] at hs; cases hs
      | cons l ls =>
       rw [hl] at hs
       obtain ⟨z, hz, hz2⟩ := Option.map_eq_some_iff.1 hs
       cases hz2
       exact ih _ _ _ _ _ hi hj hx1 hz
     | false =>
      rw [ha, cond_false] at hs
      exact share_in ih p s _ i j hj _ _ _ (x1.1, (traceF p s i (j - i) (bat p.bds (kindAt s.length j)).la ([], x1.2)).2) _ hx1 hs
theorem match_in {f g fr : Nat} {t : Tr} {s : List Nat} {o : Option (List (Int × Int))} {c : Nat} (hg : g ≤ 9) (hf : fr ≤ s.length) (h : matchF f g t s fr = some (o, c)) : InB s.length (o.getD []) := by
 unfold matchF at h
 cases e : findF (layT t) s (s.length + 1 - fr) fr (List.replicate s.length 0, 0) with
 | mk r hd =>
  rw [e] at h
  cases r with
  | none => cases h; exact ⟨Nat.zero_le _, fun _ h => nomatch h⟩
  | some ab =>
   obtain ⟨a, b⟩ := ab
   have hr := find_rng (p := layT t) (s := s) (s.length + 1 - fr) fr (List.replicate s.length 0) 0 a b (by omega) (by rw [e])
   obtain ⟨y, hy, hye⟩ := Option.map_eq_some_iff.1 h
   cases hye
   refine settle_in (B := s.length) s f (layT t) a b _ y (by omega) (by omega) (InB.set ⟨by rw [List.length_replicate]; omega, fun g hg => ?_⟩ 0 (by omega) (by omega)) hy
   obtain ⟨_, rfl⟩ := List.mem_replicate.1 hg
   exact ⟨by decide, by show (-1 : Int) ≤ _; omega, by decide, by show (-1 : Int) ≤ _; omega⟩
def mvG (F i : Nat) (l : List (Int × Int)) : List (Int × Int) := (l.take i).map (shG F) ++ l.drop i
theorem mvG_zero (F : Nat) (l : List (Int × Int)) : mvG F 0 l = l := rfl
theorem mvG_all (F : Nat) (l : List (Int × Int)) : mvG F l.length l = l.map (shG F) := by simp [mvG]
theorem mvG_get {F i : Nat} {l : List (Int × Int)} {x : Int × Int} (h : l[i]? = some x) : (mvG F i l)[i]? = some x := by
 have hi := (List.getElem?_eq_some_iff.1 h).1
 rw [mvG, List.getElem?_append_right (by rw [List.length_map, List.length_take]; exact Nat.min_le_left _ _), List.length_map, List.length_take, Nat.min_eq_left (by omega), Nat.sub_self, List.getElem?_drop, Nat.add_zero, h]
theorem mvG_set {F i : Nat} {l : List (Int × Int)} {x : Int × Int} (h : l[i]? = some x) : (mvG F i l).set i (shG F x) = mvG F (i + 1) l := by
 obtain ⟨hi, hx⟩ := List.getElem?_eq_some_iff.1 h
 unfold mvG
 rw [List.set_append_right _ _ (by rw [List.length_map, List.length_take]; exact Nat.min_le_left _ _), List.length_map, List.length_take, Nat.min_eq_left (by omega), Nat.sub_self, List.drop_eq_getElem_cons hi, List.set_cons_zero, List.take_succ_eq_append_getElem hi, List.map_append, hx, List.append_assoc]
 rfl
theorem mvG_len (F i : Nat) (l : List (Int × Int)) : (mvG F i l).length = l.length := by
 rw [mvG, List.length_append, List.length_map, List.length_take, List.length_drop]; omega
end Go.Proofs.YtmkcpocaheogaaaDoor.smt
