/- Reach, pure: a part of a BRE as borders and links between positions. What it can match from a place to a place (Acc), of two behind one another (acc_join), of one again and again (acc_loop), of one that may be left out, of an anchor, of a position. No function of the program. -/
import Derived.Test.YtiedliahmjiadaaKPa
namespace Go.Proofs.Ytiedliahmjiadaa
def kdG (n i : Nat) : Nat := (if i = 0 then 1 else 0) + (if i = n then 2 else 0)
theorem kdG_in {n i : Nat} (h0 : 0 < i) (h : i < n) : kdG n i = 0 := by
 unfold kdG; rw [if_neg (by omega), if_neg (by omega)]
structure PtG where
 no : Nat → Prop
 fs : Nat → Nat → Prop
 ls : Nat → Nat → Prop
inductive PthG (tk L : Nat → Nat → Prop) : Nat → Nat → Nat → Nat → Prop
 | one {p i} : tk p i → PthG tk L p i p (i + 1)
 | cons {p i r q j} : tk p i → L p r → PthG tk L r (i + 1) q j → PthG tk L p i q j
theorem PthG.lt {tk L : Nat → Nat → Prop} {p i q j : Nat} (h : PthG tk L p i q j) : i < j := by
 induction h with
 | one _ => omega
 | cons _ _ _ ih => omega
theorem PthG.le {n : Nat} {tk L : Nat → Nat → Prop} (ht : ∀ p i, tk p i → i < n) {p i q j : Nat} (h : PthG tk L p i q j) : j ≤ n := by
 induction h with
 | one h => exact ht _ _ h
 | cons _ _ _ ih => exact ih
theorem PthG.mono {tk tk' L L' : Nat → Nat → Prop} (h1 : ∀ p i, tk p i → tk' p i) (h2 : ∀ p q, L p q → L' p q) {p i q j : Nat} (h : PthG tk L p i q j) : PthG tk' L' p i q j := by
 induction h with
 | one h => exact .one (h1 _ _ h)
 | cons h hl _ ih => exact .cons (h1 _ _ h) (h2 _ _ hl) ih
theorem PthG.app {tk L : Nat → Nat → Prop} {p i q m r s j : Nat} (h : PthG tk L p i q m) (hl : L q r) (h2 : PthG tk L r m s j) : PthG tk L p i s j := by
 induction h with
 | one h => exact .cons h hl h2
 | cons h hl' _ ih => exact .cons h hl' (ih hl h2)
def AccG (n : Nat) (tk : Nat → Nat → Prop) (P : PtG) (L : Nat → Nat → Prop) (i j : Nat) : Prop :=
 (i = j ∧ P.no (kdG n i)) ∨ ∃ p q, P.fs (kdG n i) p ∧ P.ls (kdG n j) q ∧ PthG tk L p i q j
theorem AccG.le {n : Nat} {tk : Nat → Nat → Prop} {P : PtG} {L : Nat → Nat → Prop} {i j : Nat} (h : AccG n tk P L i j) : i ≤ j := by
 rcases h with ⟨rfl, _⟩ | ⟨p, q, _, _, h⟩
 ·exact Nat.le_refl _
 ·exact Nat.le_of_lt h.lt
structure OnG (P : PtG) (L : Nat → Nat → Prop) (a b : Nat) : Prop where
 fs : ∀ k p, P.fs k p → a ≤ p ∧ p < b
 ls : ∀ k p, P.ls k p → a ≤ p ∧ p < b
 ln : ∀ p q, L p q → a ≤ p ∧ p < b ∧ a ≤ q ∧ q < b
theorem PthG.congr {tk tk' L : Nat → Nat → Prop} {a b : Nat} (hl : ∀ p q, L p q → a ≤ p ∧ p < b ∧ a ≤ q ∧ q < b) (ht : ∀ p i, a ≤ p → p < b → tk p i → tk' p i) {p i q j : Nat} (h : PthG tk L p i q j) (ha : a ≤ p) (hb : p < b) : PthG tk' L p i q j := by
 induction h with
 | one h => exact .one (ht _ _ ha hb h)
 | cons h hl' _ ih =>
  have := hl _ _ hl'
  exact .cons (ht _ _ ha hb h) hl' (ih this.2.2.1 this.2.2.2)
theorem AccG.congr {n : Nat} {tk tk' : Nat → Nat → Prop} {P : PtG} {L : Nat → Nat → Prop} {a b : Nat} (hP : OnG P L a b) (ht : ∀ p i, a ≤ p → p < b → (tk p i ↔ tk' p i)) {i j : Nat} : AccG n tk P L i j ↔ AccG n tk' P L i j := by
 unfold AccG
 refine or_congr_right (exists_congr fun p => exists_congr fun q => and_congr_right fun hf => and_congr_right fun _ => ?_)
 have h := hP.fs _ _ hf
 exact ⟨fun x => x.congr hP.ln (fun p i h1 h2 => (ht p i h1 h2).1) h.1 h.2, fun x => x.congr hP.ln (fun p i h1 h2 => (ht p i h1 h2).2) h.1 h.2⟩
def PtG.join (P Q : PtG) : PtG := ⟨fun k => P.no k ∧ Q.no k, fun k p => P.fs k p ∨ P.no k ∧ Q.fs k p, fun k p => Q.ls k p ∨ Q.no k ∧ P.ls k p⟩
def linkG (P Q : PtG) (L : Nat → Nat → Prop) : Nat → Nat → Prop := fun p q => L p q ∨ P.ls 0 p ∧ Q.fs 0 q
def bothG (L M : Nat → Nat → Prop) : Nat → Nat → Prop := fun p q => L p q ∨ M p q
theorem OnG.join {P Q : PtG} {L M : Nat → Nat → Prop} {a b c : Nat} (hab : a ≤ b) (hbc : b ≤ c) (hP : OnG P L a b) (hQ : OnG Q M b c) : OnG (P.join Q) (linkG P Q (bothG L M)) a c where
 fs k p h := by
  rcases h with h | ⟨_, h⟩
  ·have := hP.fs _ _ h; omega
  ·have := hQ.fs _ _ h; omega
 ls k p h := by
  rcases h with h | ⟨_, h⟩
  ·have := hQ.ls _ _ h; omega
  ·have := hP.ls _ _ h; omega
 ln p q h := by
  rcases h with (h | h) | ⟨h, h2⟩
  ·have := hP.ln _ _ h; omega
  ·have := hQ.ln _ _ h; omega
  ·have := hP.ls _ _ h; have := hQ.fs _ _ h2; omega
theorem PthG.split {tk : Nat → Nat → Prop} {P Q : PtG} {L M : Nat → Nat → Prop} {a b c : Nat} (hP : OnG P L a b) (hQ : OnG Q M b c) {p i q j : Nat} (h : PthG tk (linkG P Q (bothG L M)) p i q j) :
  (a ≤ p → p < b → (q < b ∧ PthG tk L p i q j) ∨ (b ≤ q ∧ ∃ p' r m, P.ls 0 p' ∧ Q.fs 0 r ∧ PthG tk L p i p' m ∧ PthG tk M r m q j)) ∧ (b ≤ p → p < c → b ≤ q ∧ PthG tk M p i q j) := by
 induction h with
 | one h => exact ⟨fun h1 h2 => .inl ⟨h2, .one h⟩, fun h1 h2 => ⟨h1, .one h⟩⟩
 | @cons p i r q j h hl h2 ih =>
  refine ⟨fun h3 h4 => ?_, fun h3 h4 => ?_⟩
  ·rcases hl with (hl | hl) | ⟨hl, hl2⟩
   ·have hr := hP.ln _ _ hl
    rcases ih.1 hr.2.2.1 hr.2.2.2 with ⟨k1, k2⟩ | ⟨k1, p', r', m, k2, k3, k4, k5⟩
    ·exact .inl ⟨k1, .cons h hl k2⟩
    ·exact .inr ⟨k1, p', r', m, k2, k3, .cons h hl k4, k5⟩
   ·have hr := hQ.ln _ _ hl
    omega
   ·have hr := hQ.fs _ _ hl2
    have k := ih.2 hr.1 hr.2
    exact .inr ⟨k.1, _, _, _, hl, hl2, .one h, k.2⟩
  ·rcases hl with (hl | hl) | ⟨hl, hl2⟩
   ·have hr := hP.ln _ _ hl
    omega
   ·have hr := hQ.ln _ _ hl
    have k := ih.2 hr.2.2.1 hr.2.2.2
    exact ⟨k.1, .cons h hl k.2⟩
   ·have hr := hP.ls _ _ hl
    omega
theorem acc_join {n : Nat} {tk : Nat → Nat → Prop} (ht : ∀ p i, tk p i → i < n) {P Q : PtG} {L M : Nat → Nat → Prop} {a b c : Nat} (hP : OnG P L a b) (hQ : OnG Q M b c) {i j : Nat} :
  AccG n tk (P.join Q) (linkG P Q (bothG L M)) i j ↔ ∃ m, AccG n tk P L i m ∧ AccG n tk Q M m j := by
 constructor
 ·rintro (⟨rfl, h1, h2⟩ | ⟨p, q, hf, hl, h⟩)
  ·exact ⟨i, .inl ⟨rfl, h1⟩, .inl ⟨rfl, h2⟩⟩
  ·have hs := h.split hP hQ
   rcases hf with hf | ⟨hn, hf⟩
   ·have hp := hP.fs _ _ hf
    rcases hs.1 hp.1 hp.2 with ⟨k1, k2⟩ | ⟨k1, p', r, m, k2, k3, k4, k5⟩
    ·rcases hl with hl | ⟨hn, hl⟩
     ·have := hQ.ls _ _ hl; omega
     ·exact ⟨j, .inr ⟨p, q, hf, hl, k2⟩, .inl ⟨rfl, hn⟩⟩
    ·have hm : kdG n m = 0 := kdG_in (by have := k4.lt; omega) (by have := k5.lt; have := k5.le ht; omega)
     rcases hl with hl | ⟨hn, hl⟩
     ·exact ⟨m, .inr ⟨p, p', hf, hm ▸ k2, k4⟩, .inr ⟨r, q, hm ▸ k3, hl, k5⟩⟩
     ·have := hP.ls _ _ hl; omega
   ·have hp := hQ.fs _ _ hf
    have k := hs.2 hp.1 hp.2
    rcases hl with hl | ⟨hn2, hl⟩
    ·exact ⟨i, .inl ⟨rfl, hn⟩, .inr ⟨p, q, hf, hl, k.2⟩⟩
    ·have := hP.ls _ _ hl; omega
 ·rintro ⟨m, ⟨rfl, h1⟩ | ⟨p, q, h1, h2, h3⟩, ⟨rfl, h4⟩ | ⟨p', q', h4, h5, h6⟩⟩
  ·exact .inl ⟨rfl, h1, h4⟩
  ·exact .inr ⟨p', q', .inr ⟨h1, h4⟩, .inl h5, h6.mono (fun _ _ h => h) fun _ _ h => .inl (.inr h)⟩
  ·exact .inr ⟨p, q, .inl h1, .inr ⟨h4, h2⟩, h3.mono (fun _ _ h => h) fun _ _ h => .inl (.inl h)⟩
  ·have hm : kdG n m = 0 := kdG_in (by have := h3.lt; omega) (by have := h6.lt; have := h6.le ht; omega)
   rw [hm] at h2 h4
   exact .inr ⟨p, q', .inl h1, .inl h5, (h3.mono (fun _ _ h => h) fun _ _ h => .inl (.inl h)).app (.inr ⟨h2, h4⟩) (h6.mono (fun _ _ h => h) fun _ _ h => .inl (.inr h))⟩
inductive ItG (R : Nat → Nat → Prop) : Nat → Nat → Prop
 | one {i j} : R i j → ItG R i j
 | more {i m j} : R i m → ItG R m j → ItG R i j
theorem OnG.loop {P : PtG} {L : Nat → Nat → Prop} {a b : Nat} (hP : OnG P L a b) : OnG P (linkG P P L) a b where
 fs := hP.fs
 ls := hP.ls
 ln p q h := by
  rcases h with h | ⟨h, h2⟩
  ·exact hP.ln _ _ h
  ·have := hP.ls _ _ h; have := hP.fs _ _ h2; omega
theorem PthG.unloop {n : Nat} {tk : Nat → Nat → Prop} (ht : ∀ p i, tk p i → i < n) {P : PtG} {L : Nat → Nat → Prop} {p i q j : Nat} (h : PthG tk (linkG P P L) p i q j) (hl : P.ls (kdG n j) q) :
  ∃ m p', PthG tk L p i p' m ∧ ((m = j ∧ p' = q) ∨ (m < j ∧ P.ls 0 p' ∧ ItG (AccG n tk P L) m j)) := by
 induction h with
 | one h => exact ⟨_, _, .one h, .inl ⟨rfl, rfl⟩⟩
 | @cons p i r q j h hl2 h2 ih =>
  obtain ⟨m, p', k1, k2⟩ := ih hl
  rcases hl2 with hl2 | ⟨hl2, hl3⟩
  ·exact ⟨m, p', .cons h hl2 k1, k2⟩
  ·refine ⟨i + 1, p, .one h, .inr ⟨h2.lt, hl2, ?_⟩⟩
   have hi : kdG n (i + 1) = 0 := kdG_in (by omega) (by have := h2.lt; have := h2.le ht; omega)
   rcases k2 with ⟨rfl, rfl⟩ | ⟨k3, k4, k5⟩
   ·exact .one (.inr ⟨r, p', by rw [hi]; exact hl3, hl, k1⟩)
   ·have hm : kdG n m = 0 := kdG_in (by have := k1.lt; omega) (by have := h2.le ht; omega)
    exact .more (.inr ⟨r, p', by rw [hi]; exact hl3, by rw [hm]; exact k4, k1⟩) k5
theorem acc_loop {n : Nat} {tk : Nat → Nat → Prop} (ht : ∀ p i, tk p i → i < n) {P : PtG} {L : Nat → Nat → Prop} {i j : Nat} :
  AccG n tk P (linkG P P L) i j ↔ ItG (AccG n tk P L) i j := by
 have up : ∀ {i j}, AccG n tk P L i j → AccG n tk P (linkG P P L) i j := by
  rintro i j (h | ⟨p, q, h1, h2, h3⟩)
  ·exact .inl h
  ·exact .inr ⟨p, q, h1, h2, h3.mono (fun _ _ h => h) fun _ _ h => .inl h⟩
 constructor
 ·rintro (h | ⟨p, q, h1, h2, h3⟩)
  ·exact .one (.inl h)
  ·obtain ⟨m, p', k1, ⟨rfl, rfl⟩ | ⟨k2, k3, k4⟩⟩ := h3.unloop ht h2
   ·exact .one (.inr ⟨p, p', h1, h2, k1⟩)
   ·have hm : kdG n m = 0 := kdG_in (by have := k1.lt; omega) (by have := h3.le ht; omega)
    exact .more (.inr ⟨p, p', h1, by rw [hm]; exact k3, k1⟩) k4
 ·intro h
  induction h with
  | one h => exact up h
  | @more i m j h _ ih =>
   rcases h with ⟨rfl, h⟩ | ⟨p, q, h1, h2, h3⟩
   ·exact ih
   ·rcases ih with ⟨rfl, _⟩ | ⟨p', q', h4, h5, h6⟩
    ·exact up (.inr ⟨p, q, h1, h2, h3⟩)
    ·have hm : kdG n m = 0 := kdG_in (by have := h3.lt; omega) (by have := h6.lt; have := h6.le ht; omega)
     rw [hm] at h2 h4
     exact .inr ⟨p, q', h1, h5, (h3.mono (fun _ _ h => h) fun _ _ h => .inl h).app (.inr ⟨h2, h4⟩) h6⟩
def PtG.opt (P : PtG) : PtG := ⟨fun _ => True, P.fs, P.ls⟩
theorem acc_opt {n : Nat} {tk : Nat → Nat → Prop} {P : PtG} {L : Nat → Nat → Prop} {i j : Nat} : AccG n tk P.opt L i j ↔ i = j ∨ AccG n tk P L i j := by
 constructor
 ·rintro (⟨rfl, _⟩ | h)
  ·exact .inl rfl
  ·exact .inr (.inr h)
 ·rintro (rfl | (⟨rfl, _⟩ | h))
  ·exact .inl ⟨rfl, trivial⟩
  ·exact .inl ⟨rfl, trivial⟩
  ·exact .inr h
theorem OnG.opt {P : PtG} {L : Nat → Nat → Prop} {a b : Nat} (h : OnG P L a b) : OnG P.opt L a b := ⟨h.fs, h.ls, h.ln⟩
def noG (f : Nat → Prop) : PtG := ⟨f, fun _ _ => False, fun _ _ => False⟩
theorem acc_no {n : Nat} {tk L : Nat → Nat → Prop} {f : Nat → Prop} {i j : Nat} : AccG n tk (noG f) L i j ↔ i = j ∧ f (kdG n i) := by
 constructor
 ·rintro (h | ⟨_, _, h, _⟩)
  ·exact h
  ·exact h.elim
 ·exact fun h => .inl h
theorem OnG.no (f : Nat → Prop) (a : Nat) : OnG (noG f) (fun _ _ => False) a a := ⟨fun _ _ h => h.elim, fun _ _ h => h.elim, fun _ _ h => h.elim⟩
def posG (a : Nat) : PtG := ⟨fun _ => False, fun _ p => p = a, fun _ p => p = a⟩
theorem acc_pos {n a : Nat} {tk : Nat → Nat → Prop} {i j : Nat} : AccG n tk (posG a) (fun _ _ => False) i j ↔ j = i + 1 ∧ tk a i := by
 constructor
 ·rintro (⟨_, h⟩ | ⟨p, q, rfl, _, h⟩)
  ·exact h.elim
  ·cases h with
   | one h => exact ⟨rfl, h⟩
   | cons _ h _ => exact h.elim
 ·rintro ⟨rfl, h⟩
  exact .inr ⟨a, a, rfl, rfl, .one h⟩
theorem OnG.pos (a : Nat) : OnG (posG a) (fun _ _ => False) a (a + 1) := ⟨fun _ _ h => by cases h; omega, fun _ _ h => by cases h; omega, fun _ _ h => h.elim⟩
end Go.Proofs.Ytiedliahmjiadaa
namespace Go.Proofs.Ytiedliahmjiadaa
structure WbG where
 P : PtG
 L : Nat → Nat → Prop
 tk : List (Nat → Bool)
def WbG.join (w v : WbG) : WbG := ⟨w.P.join v.P, linkG w.P v.P (bothG w.L v.L), w.tk ++ v.tk⟩
def WbG.loop (w : WbG) : WbG := ⟨w.P, linkG w.P w.P w.L, w.tk⟩
def WbG.opt (w : WbG) : WbG := ⟨w.P.opt, w.L, w.tk⟩
def WbG.no (f : Nat → Prop) : WbG := ⟨noG f, fun _ _ => False, []⟩
def WbG.pos (q : Nat → Bool) (a : Nat) : WbG := ⟨posG a, fun _ _ => False, [q]⟩
def TkOkG (n : Nat) (sb : Nat → Nat) (l : List (Nat → Bool)) (a : Nat) (tk : Nat → Nat → Prop) : Prop :=
 ∀ k q, l[k]? = some q → ∀ i, tk (a + k) i ↔ i < n ∧ q (sb i) = true
theorem TkOkG.app {n : Nat} {sb : Nat → Nat} {l m : List (Nat → Bool)} {a : Nat} {tk : Nat → Nat → Prop} (h : TkOkG n sb (l ++ m) a tk) : TkOkG n sb l a tk ∧ TkOkG n sb m (a + l.length) tk := by
 refine ⟨fun k q hk i => h k q ?_ i, fun k q hk i => ?_⟩
 ·rw [List.getElem?_append_left (List.getElem?_eq_some_iff.1 hk).1]; exact hk
 ·have := h (l.length + k) q (by rw [List.getElem?_append_right (by omega), Nat.add_sub_cancel_left]; exact hk) i
  rw [← Nat.add_assoc] at this
  exact this
def GoodW (n : Nat) (sb : Nat → Nat) (w : WbG) (a : Nat) (R : Nat → Nat → Prop) : Prop :=
 OnG w.P w.L a (a + w.tk.length) ∧ ∀ tk, (∀ p i, tk p i → i < n) → TkOkG n sb w.tk a tk → ∀ i j, AccG n tk w.P w.L i j ↔ R i j
section
variable {n : Nat} {sb : Nat → Nat} {w v : WbG} {a : Nat} {R S : Nat → Nat → Prop}
theorem GoodW.iff (h : GoodW n sb w a R) (hr : ∀ i j, R i j ↔ S i j) : GoodW n sb w a S := ⟨h.1, fun tk h1 h2 i j => (h.2 tk h1 h2 i j).trans (hr i j)⟩
theorem GoodW.join (h : GoodW n sb w a R) (h2 : GoodW n sb v (a + w.tk.length) S) : GoodW n sb (w.join v) a (fun i j => ∃ m, R i m ∧ S m j) := by
 refine ⟨?_, fun tk h1 ht i j => ?_⟩
 ·have := OnG.join (by omega) (by omega) h.1 h2.1
  rw [Nat.add_assoc, ← List.length_append] at this
  exact this
 ·have k := TkOkG.app ht
  refine (acc_join h1 h.1 h2.1).trans (exists_congr fun m => ?_)
  rw [h.2 tk h1 k.1, h2.2 tk h1 k.2]
theorem GoodW.loop (h : GoodW n sb w a R) : GoodW n sb w.loop a (ItG R) := by
 refine ⟨h.1.loop, fun tk h1 ht i j => (acc_loop h1).trans ?_⟩
 have e : AccG n tk w.P w.L = R := funext fun i => funext fun j => propext (h.2 tk h1 ht i j)
 show ItG (AccG n tk w.P w.L) i j ↔ ItG R i j
 rw [e]
theorem GoodW.opt (h : GoodW n sb w a R) : GoodW n sb w.opt a (fun i j => i = j ∨ R i j) :=
 ⟨h.1.opt, fun tk h1 ht i j => acc_opt.trans (or_congr_right (h.2 tk h1 ht i j))⟩
theorem good_no (f : Nat → Prop) : GoodW n sb (WbG.no f) a (fun i j => i = j ∧ f (kdG n i)) := ⟨OnG.no f a, fun _ _ _ _ _ => acc_no⟩
theorem good_pos (q : Nat → Bool) : GoodW n sb (WbG.pos q a) a (fun i j => j = i + 1 ∧ i < n ∧ q (sb i) = true) :=
 ⟨OnG.pos a, fun _ _ ht i _ => acc_pos.trans (and_congr_right fun _ => ht 0 q rfl i)⟩
theorem GoodW.none (h : GoodW n sb w a R) (hl : w.tk.length = 0) {i j : Nat} (hr : R i j) : i = j := by
 have h2 := (h.2 (fun _ _ => False) (fun _ _ h => h.elim) (fun k q hk => by rw [List.length_eq_zero_iff.1 hl] at hk; simp at hk) i j).2 hr
 rcases h2 with ⟨h2, _⟩ | ⟨p, q, hf, _⟩
 ·exact h2
 ·have := h.1.fs _ _ hf; omega
end
def PwG (R : Nat → Nat → Prop) : Nat → Nat → Nat → Prop
 | 0, i, j => i = j
 | k + 1, i, j => ∃ m, R i m ∧ PwG R k m j
theorem pw_add {R : Nat → Nat → Prop} : ∀ {k l i m j : Nat}, PwG R k i m → PwG R l m j → PwG R (k + l) i j
 | 0, l, i, m, j, h, h2 => by cases h; rw [Nat.zero_add]; exact h2
 | k + 1, l, i, m, j, ⟨r, h, h3⟩, h2 => by rw [Nat.succ_add]; exact ⟨r, h, pw_add h3 h2⟩
theorem it_pw {R : Nat → Nat → Prop} {i j : Nat} : ItG R i j ↔ ∃ t, 1 ≤ t ∧ PwG R t i j := by
 constructor
 ·intro h
  induction h with
  | one h => exact ⟨1, Nat.le_refl _, _, h, rfl⟩
  | more h _ ih => obtain ⟨t, _, ht⟩ := ih; exact ⟨t + 1, by omega, _, h, ht⟩
 ·rintro ⟨t, h1, h2⟩
  obtain ⟨t, rfl⟩ : ∃ u, t = u + 1 := ⟨t - 1, by omega⟩
  clear h1
  induction t generalizing i with
  | zero => obtain ⟨m, h, rfl⟩ := h2; exact .one h
  | succ t ih => obtain ⟨m, h, h2⟩ := h2; exact .more h (ih h2)
def RepG (R : Nat → Nat → Prop) (lo hi : Int) (i j : Nat) : Prop := ∃ t : Nat, lo ≤ (t : Int) ∧ (hi < 0 ∨ (t : Int) ≤ hi) ∧ PwG R t i j
def PcG (R : Nat → Nat → Prop) (lp : Bool) (lo c : Nat) (i j : Nat) : Prop := (lo ≤ c ∧ i = j) ∨ (if lp then ItG R i j else R i j)
def RsG (R : Nat → Nat → Prop) (lp : Bool) (lo : Nat) : Nat → Nat → Nat → Nat → Prop
 | 0, _, i, j => i = j
 | k + 1, c, i, j => ∃ m, PcG R lp lo c i m ∧ RsG R lp lo k (c + 1) m j
def rpG (f : Nat → WbG) (lp : Bool) (lo : Nat) : Nat → Nat → WbG → Nat → WbG
 | 0, _, w, _ => w
 | k + 1, c, w, a =>
  let v := f (a + w.tk.length)
  let u := if lp then v.loop else v
  let w2 := w.join (if lo ≤ c then u.opt else u)
  if v.tk.length = 0 then w2 else rpG f lp lo k (c + 1) w2 a
theorem rs_still {R : Nat → Nat → Prop} {lp : Bool} {lo : Nat} {j : Nat} : ∀ (k c : Nat), (lo ≤ c ∨ R j j) → RsG R lp lo k c j j
 | 0, _, _ => rfl
 | k + 1, c, h => by
  refine ⟨j, ?_, rs_still k (c + 1) (h.imp (fun h => by omega) id)⟩
  rcases h with h | h
  ·exact .inl ⟨h, rfl⟩
  ·refine .inr ?_
   split
   ·exact .one h
   ·exact h
theorem it_id {R : Nat → Nat → Prop} (hR : ∀ i j, R i j → i = j) {i j : Nat} (h : ItG R i j) : i = j ∧ R j j := by
 induction h with
 | one h => have := hR _ _ h; subst this; exact ⟨rfl, h⟩
 | more h _ ih => have := hR _ _ h; subst this; exact ih
theorem good_rp {n : Nat} {sb : Nat → Nat} {f : Nat → WbG} {R : Nat → Nat → Prop} (hf : ∀ b, GoodW n sb (f b) b R) (lp : Bool) (lo a : Nat) :
  ∀ (k c : Nat) (w : WbG) (Q : Nat → Nat → Prop), GoodW n sb w a Q → GoodW n sb (rpG f lp lo k c w a) a (fun i j => ∃ m, Q i m ∧ RsG R lp lo k c m j)
 | 0, c, w, Q, h => h.iff fun i j => ⟨fun h => ⟨j, h, rfl⟩, fun ⟨m, h, e⟩ => by cases e; exact h⟩
 | k + 1, c, w, Q, h => by
  have hv := hf (a + w.tk.length)
  have hu : GoodW n sb (if lp then (f (a + w.tk.length)).loop else f (a + w.tk.length)) (a + w.tk.length) (fun i j => if lp then ItG R i j else R i j) := by
   cases lp
   ·exact hv
   ·exact hv.loop
  have h2 : GoodW n sb (if lo ≤ c then (if lp then (f (a + w.tk.length)).loop else f (a + w.tk.length)).opt else (if lp then (f (a + w.tk.length)).loop else f (a + w.tk.length))) (a + w.tk.length) (PcG R lp lo c) := by
   by_cases hc : lo ≤ c
   ·rw [if_pos hc]
    exact hu.opt.iff fun i j => by unfold PcG; simp only [hc, true_and]
   ·rw [if_neg hc]
    exact hu.iff fun i j => by unfold PcG; simp only [hc, false_and, false_or]
  have hj := h.join h2
  unfold rpG
  dsimp only
  by_cases hz : (f (a + w.tk.length)).tk.length = 0
  ·rw [if_pos hz]
   refine hj.iff fun i j => ⟨fun ⟨m, k1, k2⟩ => ⟨m, k1, j, k2, rs_still k (c + 1) ?_⟩, fun ⟨m, k1, r, k2, k3⟩ => ⟨m, k1, ?_⟩⟩
   ·rcases k2 with ⟨k2, _⟩ | k2
    ·exact .inl (by omega)
    ·refine .inr ?_
     split at k2
     ·exact (it_id (fun i j => hv.none hz) k2).2
     ·have := hv.none hz k2; subst this; exact k2
   ·have key : ∀ (k c x y : Nat), RsG R lp lo k c x y → x = y := by
     intro k
     induction k with
     | zero => intro c x y h; exact h
     | succ k ih =>
      rintro c x y ⟨z, h1, h2⟩
      have := ih _ _ _ h2; subst this
      rcases h1 with ⟨_, h1⟩ | h1
      ·exact h1
      ·split at h1
       ·exact (it_id (fun i j => hv.none hz) h1).1
       ·exact hv.none hz h1
    have := key _ _ _ _ k3
    subst this
    exact k2
  ·rw [if_neg hz]
   refine (good_rp hf lp lo a k (c + 1) _ _ hj).iff fun i j => ⟨fun ⟨m, ⟨r, k1, k2⟩, k3⟩ => ⟨r, k1, m, k2, k3⟩, fun ⟨r, k1, m, k2, k3⟩ => ⟨m, ⟨r, k1, k2⟩, k3⟩⟩
theorem rs_plain {R : Nat → Nat → Prop} {lo : Nat} : ∀ (k c i j : Nat), RsG R false lo k c i j ↔ ∃ t, PwG R t i j ∧ t ≤ k ∧ min k (lo - c) ≤ t
 | 0, c, i, j => by
  refine ⟨fun h => ⟨0, h, Nat.le_refl _, by omega⟩, ?_⟩
  rintro ⟨t, h, h1, _⟩
  obtain rfl : t = 0 := by omega
  exact h
 | k + 1, c, i, j => by
  constructor
  ·rintro ⟨m, h, h2⟩
   obtain ⟨t, k1, k2, k3⟩ := (rs_plain k (c + 1) m j).1 h2
   rcases h with ⟨h, rfl⟩ | h
   ·exact ⟨t, k1, by omega, by omega⟩
   ·exact ⟨t + 1, ⟨m, h, k1⟩, by omega, by omega⟩
  ·rintro ⟨t, h, h1, h2⟩
   cases t with
   | zero =>
    cases h
    exact ⟨i, .inl ⟨by omega, rfl⟩, (rs_plain k (c + 1) i i).2 ⟨0, rfl, by omega, by omega⟩⟩
   | succ t =>
    obtain ⟨m, h, h3⟩ := h
    exact ⟨m, .inr h, (rs_plain k (c + 1) m j).2 ⟨t, h3, by omega, by omega⟩⟩
theorem rs_loop {R : Nat → Nat → Prop} {lo : Nat} : ∀ (k c i j : Nat), c + (k + 1) ≤ lo → (RsG R true lo (k + 1) c i j ↔ ∃ t, k + 1 ≤ t ∧ PwG R t i j)
 | 0, c, i, j, hc => by
  constructor
  ·rintro ⟨m, ⟨h, _⟩ | h, rfl⟩
   ·omega
   ·exact it_pw.1 h
  ·intro h
   exact ⟨j, .inr (it_pw.2 h), rfl⟩
 | k + 1, c, i, j, hc => by
  constructor
  ·rintro ⟨m, ⟨h, _⟩ | h, h2⟩
   ·omega
   ·obtain ⟨t, k1, k2⟩ := it_pw.1 h
    obtain ⟨u, k3, k4⟩ := (rs_loop k (c + 1) m j (by omega)).1 h2
    exact ⟨t + u, by omega, pw_add k2 k4⟩
  ·rintro ⟨t, h1, h2⟩
   obtain ⟨t, rfl⟩ : ∃ u, t = u + 1 := ⟨t - 1, by omega⟩
   obtain ⟨m, h2, h3⟩ := h2
   exact ⟨m, .inr (.one h2), (rs_loop k (c + 1) m j (by omega)).2 ⟨t, by omega, h3⟩⟩
def wrG (lo hi : Int) : Nat := if hi < 0 then (max lo 1).toNat else hi.toNat
theorem rs_rep {R : Nat → Nat → Prop} {lo hi : Int} (h0 : 0 ≤ lo) (h1 : hi < 0 ∨ lo ≤ hi) (i j : Nat) : RsG R (decide (hi < 0)) lo.toNat (wrG lo hi) 0 i j ↔ RepG R lo hi i j := by
 by_cases hh : hi < 0
 ·simp only [hh, decide_true, wrG, if_pos, RepG, true_or, true_and]
  by_cases hl : lo = 0
  ·subst hl
   show RsG R true 0 1 0 i j ↔ _
   constructor
   ·rintro ⟨m, ⟨_, rfl⟩ | h, rfl⟩
    ·exact ⟨0, by omega, rfl⟩
    ·obtain ⟨t, _, k⟩ := it_pw.1 h
     exact ⟨t, by omega, k⟩
   ·rintro ⟨t, _, h⟩
    cases t with
    | zero => cases h; exact ⟨i, .inl ⟨Nat.le_refl _, rfl⟩, rfl⟩
    | succ t => exact ⟨j, .inr (it_pw.2 ⟨t + 1, by omega, h⟩), rfl⟩
  ·obtain ⟨k, hk⟩ : ∃ k, lo.toNat = k + 1 := ⟨lo.toNat - 1, by omega⟩
   have e : (max lo 1).toNat = k + 1 := by omega
   rw [e, rs_loop k 0 i j (by omega)]
   exact exists_congr fun t => and_congr_left fun _ => by omega
 ·simp only [hh, decide_false, wrG, if_neg, not_false_eq_true, RepG, false_or]
  rw [rs_plain]
  exact exists_congr fun t => ⟨fun ⟨k1, k2, k3⟩ => ⟨by omega, by omega, k1⟩, fun ⟨k1, k2, k3⟩ => ⟨k3, by omega, by omega⟩⟩
theorem good_repG {n : Nat} {sb : Nat → Nat} {f : Nat → WbG} {R : Nat → Nat → Prop} (hf : ∀ b, GoodW n sb (f b) b R) {lo hi : Int} (h0 : 0 ≤ lo) (h1 : hi < 0 ∨ lo ≤ hi) (a : Nat) :
  GoodW n sb (rpG f (decide (hi < 0)) lo.toNat (wrG lo hi) 0 (WbG.no fun _ => True) a) a (RepG R lo hi) :=
 (good_rp hf _ _ a _ _ _ _ (good_no _)).iff fun i j => ⟨fun ⟨m, ⟨e, _⟩, h⟩ => by cases e; exact (rs_rep h0 h1 _ _).1 h, fun h => ⟨i, ⟨rfl, trivial⟩, (rs_rep h0 h1 _ _).2 h⟩⟩
end Go.Proofs.Ytiedliahmjiadaa
namespace Go.Proofs.Ytiedliahmjiadaa
mutual
def MtT (n : Nat) (sb : Nat → Nat) : Tr → Nat → Nat → Prop
 | .mk k q lo hi _ kids, i, j =>
  if k = 1 then j = i + 1 ∧ i < n ∧ q (sb i) = true
  else if k = 2 then i = j ∧ i = 0
  else if k = 3 then i = j ∧ i = n
  else if k = 5 then RepG (MtK n sb kids) lo hi i j
  else if k = 6 then i ≤ j ∧ j ≤ n
  else MtL n sb kids i j
def MtK (n : Nat) (sb : Nat → Nat) : List Tr → Nat → Nat → Prop
 | [], i, j => i = j
 | t :: _, i, j => MtT n sb t i j
def MtL (n : Nat) (sb : Nat → Nat) : List Tr → Nat → Nat → Prop
 | [], i, j => i = j
 | t :: ts, i, j => ∃ m, MtT n sb t i m ∧ MtL n sb ts m j
end
mutual
def glT : Tr → Nat → WbG
 | .mk k q lo hi _ kids, a =>
  if k = 1 then WbG.pos q a
  else if k = 2 then WbG.no fun k => k % 2 = 1
  else if k = 3 then WbG.no fun k => 2 ≤ k
  else if k = 5 then rpG (glK kids) (decide (hi < 0)) lo.toNat (wrG lo hi) 0 (WbG.no fun _ => True) a
  else glL kids (WbG.no fun _ => True) a
def glK : List Tr → Nat → WbG
 | [], _ => WbG.no fun _ => True
 | t :: _, a => glT t a
def glL : List Tr → WbG → Nat → WbG
 | [], w, _ => w
 | t :: ts, w, a => glL ts (w.join (glT t (a + w.tk.length))) a
end
mutual
def PlT : Tr → Prop
 | .mk k _ lo hi _ kids => k ≠ 6 ∧ (k = 5 → 0 ≤ lo ∧ (hi = -1 ∨ lo ≤ hi) ∧ kids.length = 1) ∧ PlL kids ∧ (k = 2 ∨ k = 3 → kids = [])
def PlL : List Tr → Prop
 | [] => True
 | t :: ts => PlT t ∧ PlL ts
end
theorem kd_bol {n i : Nat} : kdG n i % 2 = 1 ↔ i = 0 := by
 unfold kdG; split <;> split <;> omega
theorem kd_eol {n i : Nat} : 2 ≤ kdG n i ↔ i = n := by
 unfold kdG; split <;> split <;> omega
mutual
theorem good_glT {n : Nat} {sb : Nat → Nat} : ∀ (t : Tr) (a : Nat), PlT t → GoodW n sb (glT t a) a (MtT n sb t)
 | .mk k q lo hi g kids, a, h => by
  unfold PlT at h
  unfold glT
  by_cases h1 : k = 1
  ·rw [if_pos h1]
   exact (good_pos q).iff fun i j => by unfold MtT; rw [if_pos h1]
  by_cases h2 : k = 2
  ·rw [if_neg h1, if_pos h2]
   exact (good_no _).iff fun i j => by unfold MtT; rw [if_neg h1, if_pos h2, kd_bol]
  by_cases h3 : k = 3
  ·rw [if_neg h1, if_neg h2, if_pos h3]
   exact (good_no _).iff fun i j => by unfold MtT; rw [if_neg h1, if_neg h2, if_pos h3, kd_eol]
  by_cases h5 : k = 5
  ·rw [if_neg h1, if_neg h2, if_neg h3, if_pos h5]
   have hr := h.2.1 h5
   exact (good_repG (fun b => good_glK kids b h.2.2.1) hr.1 (by have := hr.2.1; omega) a).iff fun i j => by unfold MtT; rw [if_neg h1, if_neg h2, if_neg h3, if_pos h5]
  ·rw [if_neg h1, if_neg h2, if_neg h3, if_neg h5]
   refine (good_glL kids a _ _ h.2.2.1 (good_no _)).iff fun i j => ?_
   unfold MtT
   rw [if_neg h1, if_neg h2, if_neg h3, if_neg h5, if_neg h.1]
   exact ⟨fun ⟨m, ⟨e, _⟩, h⟩ => by cases e; exact h, fun h => ⟨i, ⟨rfl, trivial⟩, h⟩⟩
theorem good_glK {n : Nat} {sb : Nat → Nat} : ∀ (ts : List Tr) (a : Nat), PlL ts → GoodW n sb (glK ts a) a (MtK n sb ts)
 | [], a, _ => by
  unfold glK
  exact (good_no _).iff fun i j => by unfold MtK; exact and_iff_left trivial
 | t :: ts, a, h => by
  unfold PlL at h
  unfold glK
  exact (good_glT t a h.1).iff fun i j => by unfold MtK; exact Iff.rfl
theorem good_glL {n : Nat} {sb : Nat → Nat} : ∀ (ts : List Tr) (a : Nat) (w : WbG) (Q : Nat → Nat → Prop), PlL ts → GoodW n sb w a Q → GoodW n sb (glL ts w a) a (fun i j => ∃ m, Q i m ∧ MtL n sb ts m j)
 | [], a, w, Q, _, hw => by
  unfold glL
  exact hw.iff fun i j => ⟨fun h => ⟨j, h, by unfold MtL; rfl⟩, fun ⟨m, h, e⟩ => by unfold MtL at e; cases e; exact h⟩
 | t :: ts, a, w, Q, h, hw => by
  unfold PlL at h
  unfold glL
  refine (good_glL ts a _ _ h.2 (hw.join (good_glT t _ h.1))).iff fun i j => ?_
  constructor
  ·rintro ⟨m, ⟨r, k1, k2⟩, k3⟩
   exact ⟨r, k1, by unfold MtL; exact ⟨m, k2, k3⟩⟩
  ·rintro ⟨r, k1, k2⟩
   unfold MtL at k2
   obtain ⟨m, k2, k3⟩ := k2
   exact ⟨m, ⟨r, k1, k2⟩, k3⟩
end
end Go.Proofs.Ytiedliahmjiadaa
namespace Go.Proofs.Ytiedliahmjiadaa
structure BdB where
 no : Bool
 fs : Nat → Bool
 ls : Nat → Bool
abbrev PaB := Nat → BdB
structure PosB where
 tk : Nat → Bool
 nx : Nat → Bool
 pr : Nat → Bool
def noB : Nat → Bool := fun _ => false
def onB (a : Nat) : Nat → Bool := fun x => x == a
def orB (p q : Nat → Bool) : Nat → Bool := fun x => p x || q x
def toG (p : PaB) : PtG := ⟨fun k => (p k).no = true, fun k x => (p k).fs x = true, fun k x => (p k).ls x = true⟩
def emB : PaB := fun _ => ⟨true, noB, noB⟩
def optB (p : PaB) : PaB := fun k => ⟨true, (p k).fs, (p k).ls⟩
def joinB (a b : PaB) : PaB := fun k => ⟨(a k).no && (b k).no, if (a k).no then orB (a k).fs (b k).fs else (a k).fs, if (b k).no then orB (a k).ls (b k).ls else (b k).ls⟩
def linkB (a b : PaB) (ps : List PosB) : List PosB :=
 ps.mapIdx fun p x => ⟨x.tk, if (a 0).ls p then orB x.nx (b 0).fs else x.nx, if (b 0).fs p then orB x.pr (a 0).ls else x.pr⟩
theorem toG_em : toG emB = noG fun _ => True := by
 simp [toG, emB, noG, noB]
theorem toG_opt (p : PaB) : toG (optB p) = (toG p).opt := by
 simp [toG, optB, PtG.opt]
theorem toG_join (a b : PaB) : toG (joinB a b) = (toG a).join (toG b) := by
 unfold toG joinB PtG.join
 congr 1
 ·funext k; simp
 ·funext k x
  cases h : (a k).no <;> simp [orB, h]
 ·funext k x
  cases h : (b k).no <;> simp [orB, h, or_comm]
structure LdG (b : Nat) (a : PaB) (ps : List PosB) (w : WbG) : Prop where
 part : toG a = w.P
 len : ps.length = b + w.tk.length
 pos : ∀ k q, w.tk[k]? = some q → ∃ x, ps[b + k]? = some x ∧ x.tk = q ∧ (∀ r, x.nx r = true ↔ w.L (b + k) r) ∧ ∀ r, x.pr r = true ↔ w.L r (b + k)
theorem len_link (a b : PaB) (ps : List PosB) : (linkB a b ps).length = ps.length := by simp [linkB]
theorem get_link (a b : PaB) (ps : List PosB) (p : Nat) : (linkB a b ps)[p]? = ps[p]?.map fun x => ⟨x.tk, if (a 0).ls p then orB x.nx (b 0).fs else x.nx, if (b 0).fs p then orB x.pr (a 0).ls else x.pr⟩ := by
 simp [linkB, List.getElem?_mapIdx]
theorem keep_link {a b : PaB} {ps : List PosB} {p : Nat} (h1 : (a 0).ls p ≠ true) (h2 : (b 0).fs p ≠ true) : (linkB a b ps)[p]? = ps[p]? := by
 rw [get_link]
 cases ps[p]? with
 | none => rfl
 | some x => simp only [Option.map_some, if_neg h1, if_neg h2]
theorem link_none {a b : PaB} (ps : List PosB) (h : (∀ x, (a 0).ls x = false) ∨ ∀ x, (b 0).fs x = false) : linkB a b ps = ps := by
 apply List.ext_getElem?
 intro p
 rw [get_link]
 cases ps[p]? with
 | none => rfl
 | some x =>
  obtain ⟨t, n, r⟩ := x
  rcases h with h | h
  ·have e : orB r (a 0).ls = r := funext fun y => by simp [orB, h]
   simp [h, e]
  ·have e : orB n (b 0).fs = n := funext fun y => by simp [orB, h]
   simp [h, e]
theorem or_iff {p q : Nat → Bool} {c : Bool} {A B : Nat → Prop} (hp : ∀ r, p r = true ↔ A r) (hq : ∀ r, q r = true ↔ B r) (r : Nat) : (if c then orB p q else p) r = true ↔ A r ∨ (c = true ∧ B r) := by
 cases c <;> simp [orB, hp, hq]
theorem ld_join {b : Nat} {a a' : PaB} {ps ps' : List PosB} {w v : WbG} (h : LdG b a ps w) (ho : OnG w.P w.L b (b + w.tk.length)) (h' : LdG ps.length a' ps' v) (ho' : OnG v.P v.L ps.length (ps.length + v.tk.length)) (hk : ∀ p, p < ps.length → ps'[p]? = ps[p]?) :
  LdG b (joinB a a') (linkB a a' ps') (w.join v) ∧ ∀ p, p < b → (linkB a a' ps')[p]? = ps[p]? := by
 have e1 : ∀ k p, (a k).ls p = true ↔ w.P.ls k p := fun k p => by rw [← h.part]; exact Iff.rfl
 have e2 : ∀ k p, (a' k).fs p = true ↔ v.P.fs k p := fun k p => by rw [← h'.part]; exact Iff.rfl
 have hl := h.len
 refine ⟨⟨?_, ?_, ?_⟩, fun p hp => ?_⟩
 ·rw [toG_join, h.part, h'.part]; rfl
 ·rw [len_link, h'.len, hl, WbG.join, List.length_append]; omega
 ·intro k q hq
  have hq2 : (w.tk ++ v.tk)[k]? = some q := hq
  show ∃ x, _ ∧ _ ∧ (∀ r, _ ↔ linkG w.P v.P (bothG w.L v.L) (b + k) r) ∧ ∀ r, _ ↔ linkG w.P v.P (bothG w.L v.L) r (b + k)
  rw [get_link]
  by_cases hlt : k < w.tk.length
  ·rw [List.getElem?_append_left hlt] at hq2
   obtain ⟨x, k1, k2, k3, k4⟩ := h.pos k q hq2
   rw [hk _ (by omega), k1]
   refine ⟨_, rfl, k2, fun r => (or_iff k3 (e2 0) r).trans ?_, fun r => (or_iff k4 (e1 0) r).trans ?_⟩
   ·rw [e1]
    constructor
    ·rintro (h | h)
     ·exact .inl (.inl h)
     ·exact .inr h
    ·rintro ((h | h) | h)
     ·exact .inl h
     ·have := ho'.ln _ _ h; omega
     ·exact .inr h
   ·rw [e2]
    constructor
    ·rintro (h | h)
     ·exact .inl (.inl h)
     ·have := ho'.fs _ _ h.1; omega
    ·rintro ((h | h) | h)
     ·exact .inl h
     ·have := ho'.ln _ _ h; omega
     ·have := ho'.fs _ _ h.2; omega
  ·rw [List.getElem?_append_right (by omega)] at hq2
   obtain ⟨x, k1, k2, k3, k4⟩ := h'.pos _ q hq2
   have e : ps.length + (k - w.tk.length) = b + k := by omega
   rw [e] at k1 k3 k4
   rw [k1]
   refine ⟨_, rfl, k2, fun r => (or_iff k3 (e2 0) r).trans ?_, fun r => (or_iff k4 (e1 0) r).trans ?_⟩
   ·rw [e1]
    constructor
    ·rintro (h | h)
     ·exact .inl (.inr h)
     ·exact .inr h
    ·rintro ((h | h) | h)
     ·have := ho.ln _ _ h; omega
     ·exact .inl h
     ·exact .inr h
   ·rw [e2]
    constructor
    ·rintro (h | h)
     ·exact .inl (.inr h)
     ·exact .inr ⟨h.2, h.1⟩
    ·rintro ((h | h) | h)
     ·have := ho.ln _ _ h; omega
     ·exact .inl h
     ·exact .inr ⟨h.2, h.1⟩
 ·rw [keep_link, hk p (by omega)]
  ·intro h; have := ho.ls _ _ ((e1 0 p).1 h); omega
  ·intro h; have := ho'.fs _ _ ((e2 0 p).1 h); omega
theorem ld_loop {b : Nat} {a : PaB} {ps : List PosB} {w : WbG} (h : LdG b a ps w) (ho : OnG w.P w.L b (b + w.tk.length)) : LdG b a (linkB a a ps) w.loop ∧ ∀ p, p < b → (linkB a a ps)[p]? = ps[p]? := by
 have e1 : ∀ k p, (a k).ls p = true ↔ w.P.ls k p := fun k p => by rw [← h.part]; exact Iff.rfl
 have e2 : ∀ k p, (a k).fs p = true ↔ w.P.fs k p := fun k p => by rw [← h.part]; exact Iff.rfl
 refine ⟨⟨h.part, by rw [len_link]; exact h.len, fun k q hq => ?_⟩, fun p hp => keep_link ?_ ?_⟩
 ·obtain ⟨x, k1, k2, k3, k4⟩ := h.pos k q hq
  rw [get_link, k1]
  refine ⟨_, rfl, k2, fun r => (or_iff k3 (e2 0) r).trans ?_, fun r => (or_iff k4 (e1 0) r).trans ?_⟩
  ·rw [e1]; exact Iff.rfl
  ·rw [e2]; exact or_congr_right and_comm
 ·intro h; have := ho.ls _ _ ((e1 0 p).1 h); omega
 ·intro h; have := ho.fs _ _ ((e2 0 p).1 h); omega
theorem ld_opt {b : Nat} {a : PaB} {ps : List PosB} {w : WbG} (h : LdG b a ps w) : LdG b (optB a) ps w.opt := ⟨by rw [toG_opt, h.part]; rfl, h.len, h.pos⟩
theorem ld_em (ps : List PosB) : LdG ps.length emB ps (WbG.no fun _ => True) := ⟨toG_em, rfl, fun k q h => by simp [WbG.no] at h⟩
def rpB (f : List PosB → PaB × List PosB) (lp : Bool) (lo : Nat) : Nat → Nat → PaB → List PosB → PaB × List PosB
 | 0, _, a, ps => (a, ps)
 | k + 1, c, a, ps =>
  let r := f ps
  let ps1 := if lp then linkB r.1 r.1 r.2 else r.2
  let p := if lo ≤ c then optB r.1 else r.1
  if r.2.length = ps.length then (joinB a p, linkB a p ps1) else rpB f lp lo k (c + 1) (joinB a p) (linkB a p ps1)
mutual
def adT : Tr → List PosB → PaB × List PosB
 | .mk k q lo hi _ kids, ps =>
  if k = 1 then (fun _ => ⟨false, onB ps.length, onB ps.length⟩, ps ++ [⟨q, noB, noB⟩])
  else if k = 2 then (fun k => ⟨decide (k % 2 = 1), noB, noB⟩, ps)
  else if k = 3 then (fun k => ⟨decide (2 ≤ k), noB, noB⟩, ps)
  else if k = 5 then rpB (adK kids) (decide (hi < 0)) lo.toNat (wrG lo hi) 0 emB ps
  else adL kids emB ps
def adK : List Tr → List PosB → PaB × List PosB
 | [], ps => (emB, ps)
 | t :: _, ps => adT t ps
def adL : List Tr → PaB → List PosB → PaB × List PosB
 | [], a, ps => (a, ps)
 | t :: ts, a, ps => adL ts (joinB a (adT t ps).1) (linkB a (adT t ps).1 (adT t ps).2)
end
theorem on_join {b c : Nat} {w v : WbG} (hc : c = b + w.tk.length) (ho : OnG w.P w.L b (b + w.tk.length)) (h : OnG v.P v.L c (c + v.tk.length)) : OnG (w.join v).P (w.join v).L b (b + (w.join v).tk.length) := by
 subst hc
 have := OnG.join (by omega) (by omega) ho h
 rw [Nat.add_assoc, ← List.length_append] at this
 exact this
def LaysG (b : Nat) (ps : List PosB) (r : PaB × List PosB) (w : WbG) : Prop := LdG b r.1 r.2 w ∧ ∀ p, p < b → r.2[p]? = ps[p]?
theorem lays_rp {f : List PosB → PaB × List PosB} {g : Nat → WbG} (hf : ∀ ps, LaysG ps.length ps (f ps) (g ps.length)) (hg : ∀ b, OnG (g b).P (g b).L b (b + (g b).tk.length)) (lp : Bool) (lo b : Nat) :
  ∀ (k c : Nat) (a : PaB) (ps : List PosB) (w : WbG), LdG b a ps w → OnG w.P w.L b (b + w.tk.length) → LaysG b ps (rpB f lp lo k c a ps) (rpG g lp lo k c w b)
 | 0, c, a, ps, w, h, _ => ⟨h, fun _ _ => rfl⟩
 | k + 1, c, a, ps, w, h, ho => by
  have hl := h.len
  obtain ⟨h1, h2⟩ := hf ps
  have hv := hg ps.length
  have ha : LaysG ps.length ps ((f ps).1, if lp then linkB (f ps).1 (f ps).1 (f ps).2 else (f ps).2) (if lp then (g ps.length).loop else g ps.length) ∧ OnG (if lp then (g ps.length).loop else g ps.length).P (if lp then (g ps.length).loop else g ps.length).L ps.length (ps.length + (if lp then (g ps.length).loop else g ps.length).tk.length) := by
   cases lp
   ·exact ⟨⟨h1, h2⟩, hv⟩
   ·have := ld_loop h1 hv
    exact ⟨⟨this.1, fun p hp => (this.2 p hp).trans (h2 p hp)⟩, hv.loop⟩
  have hb : LaysG ps.length ps (if lo ≤ c then optB (f ps).1 else (f ps).1, if lp then linkB (f ps).1 (f ps).1 (f ps).2 else (f ps).2) (if lo ≤ c then (if lp then (g ps.length).loop else g ps.length).opt else (if lp then (g ps.length).loop else g ps.length)) ∧ OnG (if lo ≤ c then (if lp then (g ps.length).loop else g ps.length).opt else (if lp then (g ps.length).loop else g ps.length)).P (if lo ≤ c then (if lp then (g ps.length).loop else g ps.length).opt else (if lp then (g ps.length).loop else g ps.length)).L ps.length (ps.length + (if lo ≤ c then (if lp then (g ps.length).loop else g ps.length).opt else (if lp then (g ps.length).loop else g ps.length)).tk.length) := by
   by_cases hc : lo ≤ c
   ·simp only [if_pos hc]
    exact ⟨⟨ld_opt ha.1.1, ha.1.2⟩, ha.2.opt⟩
   ·simp only [if_neg hc]
    exact ha
  have hj := ld_join h ho hb.1.1 hb.2 hb.1.2
  have hoj := on_join hl ho hb.2
  have hlen : (f ps).2.length = ps.length ↔ (g ps.length).tk.length = 0 := by rw [h1.len]; omega
  unfold rpB rpG
  rw [← hl]
  dsimp only
  by_cases hz : (f ps).2.length = ps.length
  ·rw [if_pos hz, if_pos (hlen.1 hz)]
   exact hj
  ·rw [if_neg hz, if_neg fun h => hz (hlen.2 h)]
   have ih := lays_rp hf hg lp lo b k (c + 1) _ _ _ hj.1 hoj
   exact ⟨ih.1, fun p hp => (ih.2 p hp).trans (hj.2 p hp)⟩
theorem on_glT (t : Tr) (a : Nat) (h : PlT t) : OnG (glT t a).P (glT t a).L a (a + (glT t a).tk.length) := (good_glT (n := 0) (sb := fun _ => 0) t a h).1
theorem on_glK (ts : List Tr) (a : Nat) (h : PlL ts) : OnG (glK ts a).P (glK ts a).L a (a + (glK ts a).tk.length) := (good_glK (n := 0) (sb := fun _ => 0) ts a h).1
mutual
theorem lays_adT : ∀ (t : Tr) (ps : List PosB), PlT t → LaysG ps.length ps (adT t ps) (glT t ps.length)
 | .mk k q lo hi g kids, ps, h => by
  unfold PlT at h
  unfold adT glT
  by_cases h1 : k = 1
  ·rw [if_pos h1, if_pos h1]
   refine ⟨⟨?_, ?_, ?_⟩, fun p hp => List.getElem?_append_left hp⟩
   ·simp [toG, WbG.pos, posG, onB]
   ·simp [WbG.pos]
   ·intro k q' hq
    simp only [WbG.pos] at hq
    cases k with
    | succ k => simp at hq
    | zero =>
     simp at hq
     subst hq
     exact ⟨⟨q, noB, noB⟩, by simp, rfl, fun r => by simp [noB, WbG.pos], fun r => by simp [noB, WbG.pos]⟩
  by_cases h2 : k = 2
  ·rw [if_neg h1, if_neg h1, if_pos h2, if_pos h2]
   refine ⟨⟨?_, rfl, ?_⟩, fun p hp => rfl⟩
   ·simp [toG, WbG.no, noG, noB]
   ·intro k q' hq; simp [WbG.no] at hq
  by_cases h3 : k = 3
  ·rw [if_neg h1, if_neg h1, if_neg h2, if_neg h2, if_pos h3, if_pos h3]
   refine ⟨⟨?_, rfl, ?_⟩, fun p hp => rfl⟩
   ·simp [toG, WbG.no, noG, noB]
   ·intro k q' hq; simp [WbG.no] at hq
  by_cases h5 : k = 5
  ·rw [if_neg h1, if_neg h1, if_neg h2, if_neg h2, if_neg h3, if_neg h3, if_pos h5, if_pos h5]
   exact lays_rp (fun ps => lays_adK kids ps h.2.2.1) (fun b => on_glK kids b h.2.2.1) _ _ _ _ _ _ _ _ (ld_em ps) (OnG.no _ _)
  ·rw [if_neg h1, if_neg h1, if_neg h2, if_neg h2, if_neg h3, if_neg h3, if_neg h5, if_neg h5]
   exact lays_adL kids _ _ _ _ h.2.2.1 (ld_em ps) (OnG.no _ _)
theorem lays_adK : ∀ (ts : List Tr) (ps : List PosB), PlL ts → LaysG ps.length ps (adK ts ps) (glK ts ps.length)
 | [], ps, _ => by
  unfold adK glK
  exact ⟨ld_em ps, fun _ _ => rfl⟩
 | t :: ts, ps, h => by
  unfold PlL at h
  unfold adK glK
  exact lays_adT t ps h.1
theorem lays_adL : ∀ (ts : List Tr) (b : Nat) (a : PaB) (ps : List PosB) (w : WbG), PlL ts → LdG b a ps w → OnG w.P w.L b (b + w.tk.length) → LaysG b ps (adL ts a ps) (glL ts w b)
 | [], b, a, ps, w, _, h, _ => by
  unfold adL glL
  exact ⟨h, fun _ _ => rfl⟩
 | t :: ts, b, a, ps, w, hp, h, ho => by
  unfold PlL at hp
  unfold adL glL
  have hl := h.len
  have ht := lays_adT t ps hp.1
  have hv := on_glT t ps.length hp.1
  have hj := ld_join h ho ht.1 hv ht.2
  rw [← hl]
  have ih := lays_adL ts b _ _ _ hp.2 hj.1 (on_join hl ho hv)
  exact ⟨ih.1, fun p hp => (ih.2 p hp).trans (hj.2 p hp)⟩
end
theorem web_acc {n : Nat} {sb : Nat → Nat} (t : Tr) (h : PlT t) (i j : Nat) :
  AccG n (fun p i => i < n ∧ ∃ x, (adT t []).2[p]? = some x ∧ x.tk (sb i) = true) (toG (adT t []).1) (fun p r => ∃ x, (adT t []).2[p]? = some x ∧ x.nx r = true) i j ↔ MtT n sb t i j := by
 have hg := good_glT (n := n) (sb := sb) t 0 h
 have hl := (lays_adT t [] h).1
 have hl2 : LdG 0 (adT t []).1 (adT t []).2 (glT t 0) := hl
 have e : (fun p r => ∃ x, (adT t []).2[p]? = some x ∧ x.nx r = true) = (glT t 0).L := by
  funext p r
  apply propext
  constructor
  ·rintro ⟨x, h1, h2⟩
   have hp := (List.getElem?_eq_some_iff.1 h1).1
   rw [hl2.len, Nat.zero_add] at hp
   obtain ⟨y, k1, _, k3, _⟩ := hl2.pos p _ (List.getElem?_eq_getElem hp)
   rw [Nat.zero_add] at k1 k3
   obtain rfl := Option.some.inj (h1.symm.trans k1)
   exact (k3 r).1 h2
  ·intro h1
   have hp := (hg.1.ln _ _ h1).2.1
   rw [Nat.zero_add] at hp
   obtain ⟨y, k1, _, k3, _⟩ := hl2.pos p _ (List.getElem?_eq_getElem hp)
   rw [Nat.zero_add] at k1 k3
   exact ⟨y, k1, (k3 r).2 h1⟩
 rw [e, hl2.part]
 refine hg.2 _ (fun p i h => h.1) (fun k q hq i => ?_) i j
 obtain ⟨y, k1, k2, _⟩ := hl2.pos k q hq
 rw [k1]
 constructor
 ·rintro ⟨h1, x, h2, h3⟩
  obtain rfl := Option.some.inj h2
  rw [k2] at h3
  exact ⟨h1, h3⟩
 ·rintro ⟨h1, h2⟩
  exact ⟨h1, y, rfl, by rw [k2]; exact h2⟩
end Go.Proofs.Ytiedliahmjiadaa
namespace Go.Proofs.Ytiedliahmjiadaa
section
variable {n : Nat} {tk L : Nat → Nat → Prop} {P : PtG}
def TkFG (n : Nat) (tk L : Nat → Nat → Prop) (P : PtG) (at_ : Nat) : Nat → Nat → Prop
 | 0, p => P.fs (kdG n at_) p ∧ tk p at_
 | k + 1, p => (∃ r, TkFG n tk L P at_ k r ∧ L r p) ∧ tk p (at_ + k + 1)
theorem PthG.snoc {p i q j r : Nat} (h : PthG tk L p i q j) (hl : L q r) (ht : tk r j) : PthG tk L p i r (j + 1) := h.app hl (.one ht)
theorem PthG.init {p i q j : Nat} (h : PthG tk L p i q j) : tk q (j - 1) ∧ ((p = q ∧ j = i + 1) ∨ ∃ r, PthG tk L p i r (j - 1) ∧ L r q) := by
 induction h with
 | one h => exact ⟨h, .inl ⟨rfl, rfl⟩⟩
 | @cons p i r q j h hl h2 ih =>
  refine ⟨ih.1, .inr ?_⟩
  rcases ih.2 with ⟨rfl, rfl⟩ | ⟨s, k1, k2⟩
  ·exact ⟨p, .one h, hl⟩
  ·exact ⟨s, .cons h hl k1, k2⟩
theorem tkF_iff {at_ : Nat} : ∀ (k q : Nat), TkFG n tk L P at_ k q ↔ ∃ p, P.fs (kdG n at_) p ∧ PthG tk L p at_ q (at_ + k + 1)
 | 0, q => by
  constructor
  ·rintro ⟨h1, h2⟩
   exact ⟨q, h1, .one h2⟩
  ·rintro ⟨p, h1, h2⟩
   have := h2.init
   rcases this with ⟨h3, ⟨rfl, _⟩ | ⟨r, h4, _⟩⟩
   ·exact ⟨h1, h3⟩
   ·have := h4.lt; omega
 | k + 1, q => by
  constructor
  ·rintro ⟨⟨r, h1, h2⟩, h3⟩
   obtain ⟨p, h4, h5⟩ := (tkF_iff k r).1 h1
   exact ⟨p, h4, h5.snoc h2 h3⟩
  ·rintro ⟨p, h1, h2⟩
   rcases h2.init with ⟨h3, ⟨_, h4⟩ | ⟨r, h4, h5⟩⟩
   ·omega
   ·exact ⟨⟨r, (tkF_iff k r).2 ⟨p, h1, h4⟩, h5⟩, h3⟩
theorem acc_tkF {at_ k : Nat} : AccG n tk P L at_ (at_ + k + 1) ↔ ∃ q, TkFG n tk L P at_ k q ∧ P.ls (kdG n (at_ + k + 1)) q := by
 constructor
 ·rintro (⟨h, _⟩ | ⟨p, q, h1, h2, h3⟩)
  ·omega
  ·exact ⟨q, (tkF_iff k q).2 ⟨p, h1, h3⟩, h2⟩
 ·rintro ⟨q, h1, h2⟩
  obtain ⟨p, h3, h4⟩ := (tkF_iff k q).1 h1
  exact .inr ⟨p, q, h3, h2, h4⟩
theorem acc_here {i : Nat} : AccG n tk P L i i ↔ P.no (kdG n i) := by
 constructor
 ·rintro (⟨_, h⟩ | ⟨_, _, _, _, h⟩)
  ·exact h
  ·have := h.lt; omega
 ·exact fun h => .inl ⟨rfl, h⟩
def TkBG (n : Nat) (tk L : Nat → Nat → Prop) (P : PtG) (E : Nat → Prop) (i p : Nat) : Prop := ∃ q j, E j ∧ P.ls (kdG n j) q ∧ PthG tk L p i q j
theorem tkB_step {E : Nat → Prop} {i p : Nat} : TkBG n tk L P E i p ↔ tk p i ∧ ((E (i + 1) ∧ P.ls (kdG n (i + 1)) p) ∨ ∃ r, L p r ∧ TkBG n tk L P E (i + 1) r) := by
 constructor
 ·rintro ⟨q, j, h1, h2, h3⟩
  cases h3 with
  | one h => exact ⟨h, .inl ⟨h1, h2⟩⟩
  | cons h hl h4 => exact ⟨h, .inr ⟨_, hl, q, j, h1, h2, h4⟩⟩
 ·rintro ⟨h, ⟨h1, h2⟩ | ⟨r, h1, q, j, h2, h3, h4⟩⟩
  ·exact ⟨p, i + 1, h1, h2, .one h⟩
  ·exact ⟨q, j, h2, h3, .cons h h1 h4⟩
theorem tkB_end {E : Nat → Prop} (ht : ∀ p i, tk p i → i < n) {p : Nat} : ¬ TkBG n tk L P E n p := by
 rintro ⟨q, j, _, _, h⟩
 have := h.lt
 have := h.le ht
 omega
theorem acc_tkB {E : Nat → Prop} {i : Nat} : (∃ j, E j ∧ AccG n tk P L i j) ↔ (E i ∧ P.no (kdG n i)) ∨ ∃ p, TkBG n tk L P E i p ∧ P.fs (kdG n i) p := by
 constructor
 ·rintro ⟨j, h, ⟨rfl, h2⟩ | ⟨p, q, h1, h2, h3⟩⟩
  ·exact .inl ⟨h, h2⟩
  ·exact .inr ⟨p, ⟨q, j, h, h2, h3⟩, h1⟩
 ·rintro (⟨h, h2⟩ | ⟨p, ⟨q, j, h, h2, h3⟩, h1⟩)
  ·exact ⟨i, h, .inl ⟨rfl, h2⟩⟩
  ·exact ⟨j, h, .inr ⟨p, q, h1, h2, h3⟩⟩
end
def RnG (R : Nat → Nat → Prop) (F : Nat → Prop) (t x : Nat) : Prop := ∃ y, F y ∧ PwG R t y x
theorem pw_snoc {R : Nat → Nat → Prop} {t i m j : Nat} (h : PwG R t i m) (h2 : R m j) : PwG R (t + 1) i j := pw_add h ⟨j, h2, rfl⟩
theorem pw_last {R : Nat → Nat → Prop} : ∀ {t i j : Nat}, PwG R (t + 1) i j → ∃ m, PwG R t i m ∧ R m j
 | 0, i, j, ⟨m, h, e⟩ => by cases e; exact ⟨i, rfl, h⟩
 | t + 1, i, j, ⟨m, h, h2⟩ => by
  obtain ⟨r, k1, k2⟩ := pw_last h2
  exact ⟨r, ⟨m, h, k1⟩, k2⟩
structure RndG (R : Nat → Nat → Prop) (F : Nat → Prop) (k : Nat) (out from_ : Nat → Prop) : Prop where
 mk_ : ∀ x, out x ↔ ∃ t, t < k ∧ RnG R F t x
 fro : ∀ x, from_ x → RnG R F k x
 all : ∀ x, RnG R F k x → out x ∨ from_ x
theorem RndG.zero (R : Nat → Nat → Prop) (F : Nat → Prop) : RndG R F 0 (fun _ => False) F :=
 ⟨fun x => ⟨fun h => h.elim, fun ⟨t, h, _⟩ => by omega⟩, fun x h => ⟨x, h, rfl⟩, fun x ⟨y, h, e⟩ => by cases e; exact .inr h⟩
theorem RndG.marked {R : Nat → Nat → Prop} {F : Nat → Prop} {k : Nat} {out from_ : Nat → Prop} (h : RndG R F k out from_) (x : Nat) : (out x ∨ from_ x) ↔ ∃ t, t ≤ k ∧ RnG R F t x := by
 constructor
 ·rintro (h1 | h1)
  ·obtain ⟨t, k1, k2⟩ := (h.mk_ x).1 h1
   exact ⟨t, by omega, k2⟩
  ·exact ⟨k, Nat.le_refl _, h.fro x h1⟩
 ·rintro ⟨t, k1, k2⟩
  by_cases e : t = k
  ·subst e; exact h.all x k2
  ·exact .inl ((h.mk_ x).2 ⟨t, by omega, k2⟩)
theorem RndG.next {R : Nat → Nat → Prop} {F : Nat → Prop} {k : Nat} {out from_ : Nat → Prop} (h : RndG R F k out from_) : RndG R F (k + 1) (fun x => out x ∨ from_ x) (fun x => ∃ y, (from_ y ∧ ¬ out y) ∧ R y x) where
 mk_ x := (h.marked x).trans (exists_congr fun t => and_congr_left fun _ => by omega)
 fro x := by
  rintro ⟨y, ⟨h1, _⟩, h2⟩
  obtain ⟨z, k1, k2⟩ := h.fro y h1
  exact ⟨z, k1, pw_snoc k2 h2⟩
 all x := by
  rintro ⟨z, k1, k2⟩
  obtain ⟨y, k3, k4⟩ := pw_last k2
  by_cases ho : out y
  ·obtain ⟨t, k5, u, k6, k7⟩ := (h.mk_ y).1 ho
   exact .inl ((h.marked x).2 ⟨t + 1, by omega, u, k6, pw_snoc k7 k4⟩)
  ·rcases h.all y ⟨z, k1, k3⟩ with k5 | k5
   ·exact absurd k5 ho
   ·exact .inr ⟨y, ⟨k5, ho⟩, k4⟩
def ListsG (R : Nat → Prop) (l : List Nat) : Prop := l.Pairwise (· < ·) ∧ ∀ j, j ∈ l ↔ R j
theorem lists_one {R : Nat → Prop} : ∀ {l m : List Nat}, ListsG R l → ListsG R m → l = m := by
 have key : ∀ {l m : List Nat}, l.Pairwise (· < ·) → m.Pairwise (· < ·) → (∀ j, j ∈ l ↔ j ∈ m) → l = m := by
  intro l
  induction l with
  | nil =>
   intro m _ _ h
   cases m with
   | nil => rfl
   | cons y m => exact absurd ((h y).2 (List.mem_cons_self ..)) (List.not_mem_nil)
  | cons x l ih =>
   intro m hl hm h
   cases m with
   | nil => exact absurd ((h x).1 (List.mem_cons_self ..)) (List.not_mem_nil)
   | cons y m =>
    obtain ⟨l1, l2⟩ := List.pairwise_cons.1 hl
    obtain ⟨m1, m2⟩ := List.pairwise_cons.1 hm
    have e : x = y := by
     rcases List.mem_cons.1 ((h x).1 (List.mem_cons_self ..)) with e | e
     ·exact e
     ·rcases List.mem_cons.1 ((h y).2 (List.mem_cons_self ..)) with e2 | e2
      ·exact e2.symm
      ·have := m1 _ e; have := l1 _ e2; omega
    subst e
    rw [ih l2 m2 fun j => ?_]
    constructor
    ·intro hj
     rcases List.mem_cons.1 ((h j).1 (List.mem_cons_of_mem _ hj)) with e | e
     ·subst e; have := l1 _ hj; omega
     ·exact e
    ·intro hj
     rcases List.mem_cons.1 ((h j).2 (List.mem_cons_of_mem _ hj)) with e | e
     ·subst e; have := m1 _ hj; omega
     ·exact e
 exact fun {l m} h1 h2 => key h1.1 h2.1 fun j => (h1.2 j).trans (h2.2 j).symm
end Go.Proofs.Ytiedliahmjiadaa
