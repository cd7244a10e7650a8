/- Reach, pure: what Parse answers without back-references is plain (pl_parse); how many positions are laid (len_glT). No function of the program. -/
import Derived.Test.YtiedliahmjiadaaKGa
import Derived.Test.YtiedliahmjiadaaKQf
import Derived.Test.YtiedliahmjiadaaKMd
namespace Go.Proofs.Ytiedliahmjiadaa
theorem back_msF : ∀ (ts : List Tr) (a : Ms), (msF a ts).back = (a.back || (msF .zero ts).back)
 | [], a => by simp only [msF]; cases h : a.back <;> simp [Ms.zero]
 | t :: ts, a => by
  simp only [msF]
  rw [back_msF ts (a.both (msT t)), back_msF ts (Ms.zero.both (msT t))]
  simp [Ms.both, Ms.zero, Bool.or_assoc]
mutual
theorem pl_shape : ∀ (t : Tr) (s s' : Sh), ShT t s s' → (msT t).back = false → PlT t
 | .mk k q lo hi g kids, s, s', h, hb => by
  unfold ShT at h
  unfold PlT
  rcases h with ⟨rfl, _, _, _, _, h⟩ | ⟨h, _, _, _, rfl, _⟩ | ⟨rfl, _⟩ | ⟨rfl, _, _, _, _, _, _, s1, h, _⟩ | ⟨rfl, _, _, hl, hh, ⟨c, hc, _⟩, h⟩
  ·refine ⟨by omega, by omega, pl_shapes kids _ _ h ?_, by omega⟩
   simpa [msT] using hb
  ·refine ⟨by omega, by omega, by unfold PlL; trivial, fun _ => rfl⟩
  ·simp [msT] at hb
  ·refine ⟨by omega, by omega, pl_shapes kids _ _ h ?_, by omega⟩
   simpa [msT, Ms.grp] using hb
  ·refine ⟨by omega, fun _ => ⟨hl.1, by omega, by rw [hc]; rfl⟩, pl_shapes kids _ _ h ?_, by omega⟩
   simpa [msT, Ms.rep] using hb
theorem pl_shapes : ∀ (ts : List Tr) (s s' : Sh), ShL ts s s' → (msF .zero ts).back = false → PlL ts
 | [], _, _, _, _ => by unfold PlL; trivial
 | t :: ts, s, s', h, hb => by
  unfold ShL at h
  unfold PlL
  obtain ⟨s1, h1, h2⟩ := h
  simp only [msF] at hb
  rw [back_msF] at hb
  simp only [Ms.both, Ms.zero, Bool.false_or, Bool.or_eq_false_iff] at hb
  exact ⟨pl_shape t _ _ h1 hb.1, pl_shapes ts _ _ h2 hb.2⟩
end
theorem pl_parse {s : ByteArray} {ts : List Tr} (h : parseT s = .ok ts) (hb : (msF .zero ts).back = false) : PlT (catT ts) := by
 obtain ⟨s', hs⟩ := parse_shapes s ts h
 exact pl_shape _ _ _ hs (by simpa [catT, msT] using hb)
theorem len_rp {f : Nat → WbG} {sz : Nat} (hf : ∀ b, (f b).tk.length = sz) (lp : Bool) (lo a : Nat) : ∀ (k c : Nat) (w : WbG), (rpG f lp lo k c w a).tk.length = w.tk.length + k * sz
 | 0, c, w => by simp [rpG]
 | k + 1, c, w => by
  have hv := hf (a + w.tk.length)
  have hj : (w.join (if lo ≤ c then (if lp then (f (a + w.tk.length)).loop else f (a + w.tk.length)).opt else (if lp then (f (a + w.tk.length)).loop else f (a + w.tk.length)))).tk.length = w.tk.length + sz := by
   by_cases hc : lo ≤ c <;> cases lp <;> simp [hc, WbG.join, WbG.opt, WbG.loop, hv]
  unfold rpG
  dsimp only
  by_cases hz : (f (a + w.tk.length)).tk.length = 0
  ·rw [if_pos hz, hj]
   have : sz = 0 := by omega
   subst this
   simp
  ·rw [if_neg hz, len_rp hf lp lo a k (c + 1), hj, Nat.succ_mul]
   omega
mutual
theorem len_glT : ∀ (t : Tr) (a : Nat), PlT t → ((glT t a).tk.length : Int) = posT t
 | .mk k q lo hi g kids, a, h => by
  unfold PlT at h
  have hp := h.2.2.1
  unfold glT posT
  by_cases h1 : k = 1
  ·rw [if_pos h1, if_pos (.inl h1)]; rfl
  have h16 : ¬ (k = 1 ∨ k = 6) := by have := h.1; omega
  rw [if_neg h1, if_neg h16]
  by_cases h2 : k = 2
  ·rw [if_pos h2, if_neg (by omega)]
   rw [h.2.2.2 (by omega)]; rfl
  by_cases h3 : k = 3
  ·rw [if_neg h2, if_pos h3, if_neg (by omega)]
   rw [h.2.2.2 (by omega)]; rfl
  rw [if_neg h2, if_neg h3]
  by_cases h5 : k = 5
  ·rw [if_pos h5, if_pos h5]
   obtain ⟨h0, hh, hk⟩ := h.2.1 h5
   rw [len_rp (sz := (posL kids).toNat) (fun b => by have := len_glK kids b hp hk; omega)]
   have hn := len_glK kids 0 hp hk
   generalize hz : posL kids = z at hn
   have hz0 : 0 ≤ z := by omega
   show ((0 + wrG lo hi * z.toNat : Nat) : Int) = _
   have e : ((0 + wrG lo hi * z.toNat : Nat) : Int) = (wrG lo hi : Int) * z := by
    rw [Nat.zero_add, Int.natCast_mul, Int.toNat_of_nonneg hz0]
   rw [e, Int.mul_comm]
   unfold wrG
   by_cases hlt : hi < 0
   ·rw [if_pos hlt, if_neg (by omega)]
    by_cases hl : 0 < lo
    ·rw [if_pos hl, Int.toNat_of_nonneg (by omega), Int.max_eq_left (by omega)]
    ·rw [if_neg hl, Int.toNat_of_nonneg (by omega), Int.max_eq_right (by omega), Int.mul_one]
   ·rw [if_neg hlt, if_pos (by omega), Int.toNat_of_nonneg (by omega)]
  ·rw [if_neg h5, if_neg h5]
   have := len_glL kids a (WbG.no fun _ => True) hp
   rw [this]
   show ((0 : Nat) : Int) + _ = _
   omega
theorem len_glK : ∀ (ts : List Tr) (a : Nat), PlL ts → ts.length = 1 → ((glK ts a).tk.length : Int) = posL ts
 | [], a, _, h => by simp at h
 | t :: ts, a, h, hl => by
  unfold PlL at h
  unfold glK posL
  obtain rfl : ts = [] := by cases ts with | nil => rfl | cons _ _ => simp at hl
  rw [len_glT t a h.1]
  unfold posL
  omega
theorem len_glL : ∀ (ts : List Tr) (a : Nat) (w : WbG), PlL ts → ((glL ts w a).tk.length : Int) = (w.tk.length : Int) + posL ts
 | [], a, w, _ => by unfold glL posL; omega
 | t :: ts, a, w, h => by
  unfold PlL at h
  unfold glL posL
  rw [len_glL ts a _ h.2]
  show ((w.tk ++ (glT t (a + w.tk.length)).tk).length : Int) + _ = _
  rw [List.length_append, Int.natCast_add, len_glT t _ h.1]
  omega
end
end Go.Proofs.Ytiedliahmjiadaa
namespace Go.Proofs.Ytiedliahmjiadaa
def tkW (n : Nat) (sb : Nat → Nat) (ps : List PosB) (p i : Nat) : Prop := i < n ∧ ∃ x, ps[p]? = some x ∧ x.tk (sb i) = true
def lnW (ps : List PosB) (p r : Nat) : Prop := ∃ x, ps[p]? = some x ∧ x.nx r = true
def tkB (ps : List PosB) (wt : Nat → Bool) (b : Nat) : Nat → Bool := fun p => wt p && (match ps[p]? with | some x => x.tk b | none => false)
def bhB (ps : List PosB) (tk : Nat → Bool) : Nat → Bool := fun q => (List.range 256).any fun p => tk p && (match ps[p]? with | some x => x.nx q | none => false)
def meetB (p q : Nat → Bool) : Bool := (List.range 256).any fun x => p x && q x
theorem tkB_iff {n : Nat} {sb : Nat → Nat} {ps : List PosB} {wt : Nat → Bool} {A : Nat → Prop} (h : ∀ p, wt p = true ↔ A p) {i : Nat} (hi : i < n) (p : Nat) : tkB ps wt (sb i) p = true ↔ A p ∧ tkW n sb ps p i := by
 unfold tkB tkW
 rw [Bool.and_eq_true, h]
 cases ps[p]? with
 | none => simp
 | some x => simp [hi]
theorem bhB_iff {ps : List PosB} (hl : ps.length ≤ 256) {tk : Nat → Bool} {B : Nat → Prop} (h : ∀ p, tk p = true ↔ B p) (q : Nat) : bhB ps tk q = true ↔ ∃ p, B p ∧ lnW ps p q := by
 unfold bhB lnW
 rw [List.any_eq_true]
 constructor
 ·rintro ⟨p, _, h2⟩
  rw [Bool.and_eq_true, h] at h2
  refine ⟨p, h2.1, ?_⟩
  have h3 := h2.2
  cases hp : ps[p]? with
  | none => rw [hp] at h3; simp at h3
  | some x => rw [hp] at h3; exact ⟨x, rfl, h3⟩
 ·rintro ⟨p, h1, x, h2, h3⟩
  refine ⟨p, List.mem_range.2 (by have := (List.getElem?_eq_some_iff.1 h2).1; omega), ?_⟩
  rw [Bool.and_eq_true, h, h2]
  exact ⟨h1, h3⟩
theorem meetB_iff {p q : Nat → Bool} {A B : Nat → Prop} (h : ∀ x, p x = true ↔ A x) (h2 : ∀ x, q x = true ↔ B x) (hA : ∀ x, A x → x < 256) : meetB p q = true ↔ ∃ x, A x ∧ B x := by
 unfold meetB
 rw [List.any_eq_true]
 constructor
 ·rintro ⟨x, _, k⟩
  rw [Bool.and_eq_true, h, h2] at k
  exact ⟨x, k⟩
 ·rintro ⟨x, k⟩
  exact ⟨x, List.mem_range.2 (hA x k.1), by rw [Bool.and_eq_true, h, h2]; exact k⟩
def enB (n : Nat) (sb : Nat → Nat) (a : PaB) (ps : List PosB) : Nat → Nat → (Nat → Bool) → List Nat
 | 0, _, _ => []
 | k + 1, i, wt => (if meetB (tkB ps wt (sb i)) (a (kdG n (i + 1))).ls then [i + 1] else []) ++ enB n sb a ps k (i + 1) (bhB ps (tkB ps wt (sb i)))
def endsB (n : Nat) (sb : Nat → Nat) (a : PaB) (ps : List PosB) (at_ : Nat) : List Nat :=
 (if (a (kdG n at_)).no then [at_] else []) ++ enB n sb a ps (n - at_) at_ (a (kdG n at_)).fs
def WtG (n : Nat) (sb : Nat → Nat) (a : PaB) (ps : List PosB) (at_ : Nat) : Nat → Nat → Prop
 | 0, p => (toG a).fs (kdG n at_) p
 | k + 1, p => ∃ r, TkFG n (tkW n sb ps) (lnW ps) (toG a) at_ k r ∧ lnW ps r p
theorem wt_took {n : Nat} {sb : Nat → Nat} {a : PaB} {ps : List PosB} {at_ : Nat} : ∀ (k p : Nat), WtG n sb a ps at_ k p ∧ tkW n sb ps p (at_ + k) ↔ TkFG n (tkW n sb ps) (lnW ps) (toG a) at_ k p
 | 0, _ => Iff.rfl
 | _ + 1, _ => Iff.rfl
theorem en_lists {n : Nat} {sb : Nat → Nat} {a : PaB} {ps : List PosB} (hl : ps.length ≤ 256) (at_ : Nat) : ∀ (k m : Nat) (wt : Nat → Bool), at_ + m + k = n → (∀ p, wt p = true ↔ WtG n sb a ps at_ m p) →
  ListsG (fun j => at_ + m < j ∧ AccG n (tkW n sb ps) (toG a) (lnW ps) at_ j) (enB n sb a ps k (at_ + m) wt)
 | 0, m, wt, hk, _ => by
  unfold enB
  refine ⟨List.Pairwise.nil, fun j => ⟨fun h => absurd h List.not_mem_nil, fun ⟨h1, h2⟩ => ?_⟩⟩
  rcases h2 with ⟨h2, _⟩ | ⟨p, q, _, _, h2⟩
  ·omega
  ·have := h2.le (n := n) (fun p i h => h.1); omega
 | k + 1, m, wt, hk, hw => by
  have ht : ∀ p, tkB ps wt (sb (at_ + m)) p = true ↔ TkFG n (tkW n sb ps) (lnW ps) (toG a) at_ m p := fun p => (tkB_iff hw (by omega : at_ + m < n) p).trans (wt_took m p)
  have hs : ∀ p, TkFG n (tkW n sb ps) (lnW ps) (toG a) at_ m p → p < 256 := fun p h => by
   obtain ⟨_, _, x, hx, _⟩ := (wt_took m p).2 h
   have := (List.getElem?_eq_some_iff.1 hx).1
   omega
  have hm := meetB_iff (q := (a (kdG n (at_ + m + 1))).ls) ht (fun _ => Iff.rfl) hs
  have ha : AccG n (tkW n sb ps) (toG a) (lnW ps) at_ (at_ + m + 1) ↔ meetB (tkB ps wt (sb (at_ + m))) (a (kdG n (at_ + m + 1))).ls = true := acc_tkF.trans hm.symm
  obtain ⟨h1, h2⟩ := en_lists (sb := sb) (a := a) hl at_ k (m + 1) (bhB ps (tkB ps wt (sb (at_ + m)))) (by omega) (fun p => bhB_iff hl ht p)
  have e : enB n sb a ps (k + 1) (at_ + m) wt = (if meetB (tkB ps wt (sb (at_ + m))) (a (kdG n (at_ + m + 1))).ls then [at_ + m + 1] else []) ++ enB n sb a ps k (at_ + (m + 1)) (bhB ps (tkB ps wt (sb (at_ + m)))) := rfl
  rw [e]
  by_cases hc : meetB (tkB ps wt (sb (at_ + m))) (a (kdG n (at_ + m + 1))).ls = true
  ·rw [if_pos hc]
   refine ⟨List.pairwise_cons.2 ⟨fun j hj => by have := ((h2 j).1 hj).1; omega, h1⟩, fun j => ?_⟩
   rw [List.singleton_append, List.mem_cons, h2]
   constructor
   ·rintro (rfl | ⟨k1, k2⟩)
    ·exact ⟨by omega, ha.2 hc⟩
    ·exact ⟨by omega, k2⟩
   ·rintro ⟨k1, k2⟩
    by_cases e : j = at_ + m + 1
    ·exact .inl e
    ·exact .inr ⟨by omega, k2⟩
  ·rw [if_neg hc, List.nil_append]
   refine ⟨h1, fun j => (h2 j).trans ⟨fun ⟨k1, k2⟩ => ⟨by omega, k2⟩, fun ⟨k1, k2⟩ => ⟨?_, k2⟩⟩⟩
   by_cases e : j = at_ + m + 1
   ·subst e; exact absurd (ha.1 k2) hc
   ·omega
theorem ends_lists {n : Nat} {sb : Nat → Nat} (t : Tr) (h : PlT t) (hs : posT t ≤ 256) {at_ : Nat} (ha : at_ ≤ n) : ListsG (MtT n sb t at_) (endsB n sb (adT t []).1 (adT t []).2 at_) := by
 have hl : (adT t []).2.length ≤ 256 := by
  have h1 := (lays_adT t [] h).1.len
  have h2 := len_glT t 0 h
  simp only [List.length_nil] at h1
  omega
 have hw : ∀ j, AccG n (tkW n sb (adT t []).2) (toG (adT t []).1) (lnW (adT t []).2) at_ j ↔ MtT n sb t at_ j := fun j => web_acc t h at_ j
 obtain ⟨h1, h2⟩ := en_lists (n := n) (sb := sb) (a := (adT t []).1) hl at_ (n - at_) 0 ((adT t []).1 (kdG n at_)).fs (by omega) (fun _ => Iff.rfl)
 have hn : AccG n (tkW n sb (adT t []).2) (toG (adT t []).1) (lnW (adT t []).2) at_ at_ ↔ ((adT t []).1 (kdG n at_)).no = true := acc_here
 unfold endsB
 by_cases hc : ((adT t []).1 (kdG n at_)).no = true
 ·rw [if_pos hc]
  refine ⟨List.pairwise_cons.2 ⟨fun j hj => by have := ((h2 j).1 hj).1; omega, h1⟩, fun j => ?_⟩
  rw [List.singleton_append, List.mem_cons]
  refine (or_congr_right (h2 j)).trans ?_
  rw [← hw j]
  constructor
  ·rintro (rfl | ⟨_, k⟩)
   ·exact hn.2 hc
   ·exact k
  ·intro k
   by_cases e : j = at_
   ·exact .inl e
   ·exact .inr ⟨by have := k.le; omega, k⟩
 ·rw [if_neg hc, List.nil_append]
  refine ⟨h1, fun j => (h2 j).trans ?_⟩
  rw [← hw j]
  refine ⟨fun k => k.2, fun k => ⟨?_, k⟩⟩
  by_cases e : j = at_
  ·subst e; exact absurd (hn.1 k) hc
  ·have := k.le; omega
end Go.Proofs.Ytiedliahmjiadaa
namespace Go.Proofs.Ytiedliahmjiadaa
def lpW (ps : List PosB) (r p : Nat) : Prop := ∃ x, ps[r]? = some x ∧ x.pr p = true
def ahB (ps : List PosB) (tk : Nat → Bool) : Nat → Bool := fun q => (List.range 256).any fun p => tk p && (match ps[p]? with | some x => x.pr q | none => false)
theorem ahB_iff {ps : List PosB} (hl : ps.length ≤ 256) {tk : Nat → Bool} {B : Nat → Prop} (h : ∀ p, tk p = true ↔ B p) (q : Nat) : ahB ps tk q = true ↔ ∃ p, B p ∧ lpW ps p q := by
 unfold ahB lpW
 rw [List.any_eq_true]
 constructor
 ·rintro ⟨p, _, h2⟩
  rw [Bool.and_eq_true, h] at h2
  refine ⟨p, h2.1, ?_⟩
  have h3 := h2.2
  cases hp : ps[p]? with
  | none => rw [hp] at h3; simp at h3
  | some x => rw [hp] at h3; exact ⟨x, rfl, h3⟩
 ·rintro ⟨p, h1, x, h2, h3⟩
  refine ⟨p, List.mem_range.2 (by have := (List.getElem?_eq_some_iff.1 h2).1; omega), ?_⟩
  rw [Bool.and_eq_true, h, h2]
  exact ⟨h1, h3⟩
theorem lp_ln (t : Tr) (h : PlT t) (p r : Nat) : lpW (adT t []).2 r p ↔ lnW (adT t []).2 p r := by
 have hl : LdG 0 (adT t []).1 (adT t []).2 (glT t 0) := (lays_adT t [] h).1
 have ho := on_glT t 0 h
 have hlen := hl.len
 have get : ∀ {k x}, (adT t []).2[k]? = some x → (∀ r, x.nx r = true ↔ (glT t 0).L k r) ∧ ∀ r, x.pr r = true ↔ (glT t 0).L r k := by
  intro k x hx
  have hk := (List.getElem?_eq_some_iff.1 hx).1
  obtain ⟨y, k1, _, k3, k4⟩ := hl.pos k _ (List.getElem?_eq_getElem (by omega))
  rw [Nat.zero_add] at k1 k3 k4
  obtain rfl := Option.some.inj (hx.symm.trans k1)
  exact ⟨k3, k4⟩
 have ex : ∀ {k}, k < 0 + (glT t 0).tk.length → ∃ x, (adT t []).2[k]? = some x := fun {k} hk => ⟨_, List.getElem?_eq_getElem (by omega)⟩
 constructor
 ·rintro ⟨x, h1, h2⟩
  have hL := ((get h1).2 p).1 h2
  obtain ⟨y, hy⟩ := ex (ho.ln _ _ hL).2.1
  exact ⟨y, hy, ((get hy).1 r).2 hL⟩
 ·rintro ⟨x, h1, h2⟩
  have hL := ((get h1).1 r).1 h2
  obtain ⟨y, hy⟩ := ex (ho.ln _ _ hL).2.2.2
  exact ⟨y, hy, ((get hy).2 p).2 hL⟩
def fdB (n : Nat) (a : PaB) (E : Nat → Bool) (i : Nat) (tk : Nat → Bool) : Bool := E i && (a (kdG n i)).no || meetB tk (a (kdG n i)).fs
def wtB (n : Nat) (a : PaB) (ps : List PosB) (E : Nat → Bool) (i : Nat) (tk : Nat → Bool) : Nat → Bool := if E i then orB (ahB ps tk) (a (kdG n i)).ls else ahB ps tk
def stB (n : Nat) (sb : Nat → Nat) (a : PaB) (ps : List PosB) (E : Nat → Bool) : Nat → (Nat → Bool) → List Nat
 | 0, tk => if fdB n a E 0 tk then [0] else []
 | i + 1, tk => (if fdB n a E (i + 1) tk then [i + 1] else []) ++ stB n sb a ps E i (tkB ps (wtB n a ps E (i + 1) tk) (sb i))
def startsB (n : Nat) (sb : Nat → Nat) (a : PaB) (ps : List PosB) (E : Nat → Bool) : List Nat := (stB n sb a ps E n noB).reverse
theorem fd_iff {n : Nat} {sb : Nat → Nat} {a : PaB} {ps : List PosB} (hl : ps.length ≤ 256) {E : Nat → Bool} {i : Nat} {tk : Nat → Bool} (ht : ∀ p, tk p = true ↔ TkBG n (tkW n sb ps) (lnW ps) (toG a) (fun j => E j = true) i p) :
  fdB n a E i tk = true ↔ ∃ j, E j = true ∧ AccG n (tkW n sb ps) (toG a) (lnW ps) i j := by
 have hs : ∀ p, TkBG n (tkW n sb ps) (lnW ps) (toG a) (fun j => E j = true) i p → p < 256 := fun p h => by
  obtain ⟨⟨_, x, hx, _⟩, _⟩ := tkB_step.1 h
  have := (List.getElem?_eq_some_iff.1 hx).1
  omega
 have hm := meetB_iff (q := (a (kdG n i)).fs) ht (fun _ => Iff.rfl) hs
 unfold fdB
 rw [Bool.or_eq_true, Bool.and_eq_true, hm]
 exact (acc_tkB (n := n) (tk := tkW n sb ps) (L := lnW ps) (P := toG a) (E := fun j => E j = true) (i := i)).symm
theorem st_lists {n : Nat} {sb : Nat → Nat} {a : PaB} {ps : List PosB} (hl : ps.length ≤ 256) (hp : ∀ p r, lpW ps r p ↔ lnW ps p r) (E : Nat → Bool) : ∀ (i : Nat) (tk : Nat → Bool), i ≤ n → (∀ p, tk p = true ↔ TkBG n (tkW n sb ps) (lnW ps) (toG a) (fun j => E j = true) i p) →
  (stB n sb a ps E i tk).Pairwise (· > ·) ∧ ∀ m, m ∈ stB n sb a ps E i tk ↔ m ≤ i ∧ ∃ j, E j = true ∧ AccG n (tkW n sb ps) (toG a) (lnW ps) m j
 | 0, tk, _, ht => by
  have hf := fd_iff hl ht
  unfold stB
  by_cases hc : fdB n a E 0 tk = true
  ·rw [if_pos hc]
   refine ⟨List.pairwise_singleton _ _, fun m => ?_⟩
   rw [List.mem_singleton]
   exact ⟨fun e => by subst e; exact ⟨Nat.le_refl _, hf.1 hc⟩, fun h => by omega⟩
  ·rw [if_neg hc]
   refine ⟨List.Pairwise.nil, fun m => ⟨fun h => absurd h List.not_mem_nil, fun ⟨h1, h2⟩ => ?_⟩⟩
   obtain rfl : m = 0 := by omega
   exact absurd (hf.2 h2) hc
 | i + 1, tk, hi, ht => by
  have hf := fd_iff hl ht
  have hw : ∀ p, wtB n a ps E (i + 1) tk p = true ↔ ((E (i + 1) = true ∧ (toG a).ls (kdG n (i + 1)) p) ∨ ∃ r, lnW ps p r ∧ TkBG n (tkW n sb ps) (lnW ps) (toG a) (fun j => E j = true) (i + 1) r) := fun p => by
   have h1 : ahB ps tk p = true ↔ ∃ r, lnW ps p r ∧ TkBG n (tkW n sb ps) (lnW ps) (toG a) (fun j => E j = true) (i + 1) r :=
    (ahB_iff hl ht p).trans (exists_congr fun r => by rw [hp p r, and_comm])
   unfold wtB
   by_cases hE : E (i + 1) = true
   ·rw [if_pos hE]
    unfold orB
    rw [Bool.or_eq_true, h1, or_comm]
    simp only [hE, true_and]
    exact Iff.rfl
   ·rw [if_neg hE, h1]
    exact ⟨fun h => .inr h, fun h => h.elim (fun h => absurd h.1 hE) id⟩
  have ht2 : ∀ p, tkB ps (wtB n a ps E (i + 1) tk) (sb i) p = true ↔ TkBG n (tkW n sb ps) (lnW ps) (toG a) (fun j => E j = true) i p := fun p =>
   (tkB_iff hw (by omega : i < n) p).trans (and_comm.trans (tkB_step (n := n) (tk := tkW n sb ps) (L := lnW ps) (P := toG a) (E := fun j => E j = true) (i := i) (p := p)).symm)
  obtain ⟨h1, h2⟩ := st_lists hl hp E i _ (by omega) ht2
  unfold stB
  by_cases hc : fdB n a E (i + 1) tk = true
  ·rw [if_pos hc]
   refine ⟨List.pairwise_cons.2 ⟨fun j hj => by have := ((h2 j).1 hj).1; omega, h1⟩, fun m => ?_⟩
   rw [List.singleton_append, List.mem_cons, h2]
   constructor
   ·rintro (rfl | ⟨k1, k2⟩)
    ·exact ⟨Nat.le_refl _, hf.1 hc⟩
    ·exact ⟨by omega, k2⟩
   ·rintro ⟨k1, k2⟩
    by_cases e : m = i + 1
    ·exact .inl e
    ·exact .inr ⟨by omega, k2⟩
  ·rw [if_neg hc, List.nil_append]
   refine ⟨h1, fun m => (h2 m).trans ⟨fun ⟨k1, k2⟩ => ⟨by omega, k2⟩, fun ⟨k1, k2⟩ => ⟨?_, k2⟩⟩⟩
   by_cases e : m = i + 1
   ·subst e; exact absurd (hf.2 k2) hc
   ·omega
theorem starts_lists {n : Nat} {sb : Nat → Nat} (t : Tr) (h : PlT t) (hs : posT t ≤ 256) (E : Nat → Bool) : ListsG (fun i => i ≤ n ∧ ∃ j, E j = true ∧ MtT n sb t i j) (startsB n sb (adT t []).1 (adT t []).2 E) := by
 have hl : (adT t []).2.length ≤ 256 := by
  have h1 := (lays_adT t [] h).1.len
  have h2 := len_glT t 0 h
  simp only [List.length_nil] at h1
  omega
 obtain ⟨h1, h2⟩ := st_lists (n := n) (sb := sb) (a := (adT t []).1) hl (lp_ln t h) E n noB (Nat.le_refl _) (fun p => ⟨fun h => by simp [noB] at h, fun h => absurd h (tkB_end fun p i h => h.1)⟩)
 unfold startsB
 refine ⟨?_, fun i => ?_⟩
 ·rw [List.pairwise_reverse]
  exact h1
 ·rw [List.mem_reverse, h2]
  exact and_congr_right fun _ => exists_congr fun j => and_congr_right fun _ => web_acc t h i j
theorem mt_in {n : Nat} {sb : Nat → Nat} (t : Tr) (h : PlT t) {i j : Nat} (hm : MtT n sb t i j) : i ≤ j ∧ (i ≤ n → j ≤ n) := by
 have ha := (web_acc t h i j).2 hm
 refine ⟨ha.le, fun hi => ?_⟩
 rcases ha with ⟨rfl, _⟩ | ⟨p, q, _, _, k⟩
 ·exact hi
 ·exact k.le (fun p i h => h.1)
end Go.Proofs.Ytiedliahmjiadaa
namespace Go.Proofs.Ytiedliahmjiadaa
def InM (m : Ms) (d : Int) : Prop := m.least ≤ d ∧ (m.most = -1 ∨ d ≤ m.most)
def SoM (m : Ms) : Prop := 0 ≤ m.least ∧ -1 ≤ m.most
theorem so_both {a b : Ms} (ha : SoM a) (hb : SoM b) : SoM (a.both b) := by
 unfold SoM Ms.both sumM at *
 dsimp only
 refine ⟨by omega, ?_⟩
 split <;> omega
theorem in_both {a b : Ms} {d e : Int} (ha : InM a d) (hb : InM b e) : InM (a.both b) (d + e) := by
 unfold InM Ms.both sumM at *
 dsimp only
 refine ⟨by omega, ?_⟩
 split <;> omega
theorem so_rep {m : Ms} {lo hi : Int} (h : SoM m) (h0 : 0 ≤ lo) (h1 : hi = -1 ∨ lo ≤ hi) : SoM (m.rep lo hi) := by
 unfold SoM Ms.rep prodM at *
 dsimp only
 refine ⟨Int.mul_nonneg h.1 h0, ?_⟩
 split
 ·omega
 ·split
  ·omega
  ·have := Int.mul_nonneg (a := hi) (b := m.most) (by omega) (by omega)
   omega
theorem pw_bounds {R : Nat → Nat → Prop} {m : Ms} (hR : ∀ i j, R i j → InM m ((j : Int) - (i : Int))) : ∀ (t i j : Nat), PwG R t i j → (t : Int) * m.least ≤ (j : Int) - (i : Int) ∧ (m.most = -1 ∨ (j : Int) - (i : Int) ≤ (t : Int) * m.most)
 | 0, i, j, h => by cases h; simp
 | t + 1, i, j, ⟨r, h, h2⟩ => by
  have k1 := hR _ _ h
  have k2 := pw_bounds hR t r j h2
  unfold InM at k1
  have e1 : ((t + 1 : Nat) : Int) * m.least = (t : Int) * m.least + m.least := by rw [Int.natCast_add, Int.add_mul]; simp
  have e2 : ((t + 1 : Nat) : Int) * m.most = (t : Int) * m.most + m.most := by rw [Int.natCast_add, Int.add_mul]; simp
  rw [e1, e2]
  omega
theorem in_rep {R : Nat → Nat → Prop} {m : Ms} (hs : SoM m) (hR : ∀ i j, R i j → InM m ((j : Int) - (i : Int))) {lo hi : Int} (h0 : 0 ≤ lo) (h1 : hi = -1 ∨ lo ≤ hi) {i j : Nat} (h : RepG R lo hi i j) : InM (m.rep lo hi) ((j : Int) - (i : Int)) := by
 obtain ⟨t, k1, k2, k3⟩ := h
 have k4 := pw_bounds hR t i j k3
 unfold SoM at hs
 unfold InM Ms.rep prodM
 dsimp only
 constructor
 ·have : m.least * lo ≤ m.least * (t : Int) := Int.mul_le_mul_of_nonneg_left k1 hs.1
  rw [Int.mul_comm m.least (t : Int)] at this
  omega
 ·split
  ·rename_i h
   right
   by_cases hm : m.most = 0
   ·rw [hm, Int.mul_zero] at k4; omega
   ·have : t = 0 := by omega
    subst this
    cases k3
    omega
  ·split
   ·exact .inl rfl
   ·right
    rcases k4.2 with k | k
    ·omega
    ·have : (t : Int) * m.most ≤ hi * m.most := Int.mul_le_mul_of_nonneg_right (by omega) (by omega)
     omega
mutual
theorem mt_bounds {n : Nat} {sb : Nat → Nat} : ∀ (t : Tr), PlT t → SoM (msT t) ∧ ∀ i j, MtT n sb t i j → InM (msT t) ((j : Int) - (i : Int))
 | .mk k q lo hi g kids, h => by
  unfold PlT at h
  have h6 := h.1
  have hF := mtL_bounds (n := n) (sb := sb) kids .zero h.2.2.1 ⟨by decide, by decide⟩
  unfold msT
  by_cases h1 : k = 1
  ·rw [if_pos h1]
   refine ⟨⟨by decide, by decide⟩, fun i j hm => ?_⟩
   unfold MtT at hm
   rw [if_pos h1] at hm
   unfold InM
   dsimp only
   omega
  by_cases h2 : k = 2
  ·rw [if_neg h1, if_pos h2]
   refine ⟨⟨by decide, by decide⟩, fun i j hm => ?_⟩
   unfold MtT at hm
   rw [if_neg h1, if_pos h2] at hm
   unfold InM
   dsimp only
   omega
  by_cases h3 : k = 3
  ·rw [if_neg h1, if_neg h2, if_pos h3]
   refine ⟨⟨by decide, by decide⟩, fun i j hm => ?_⟩
   unfold MtT at hm
   rw [if_neg h1, if_neg h2, if_pos h3] at hm
   unfold InM
   dsimp only
   omega
  rw [if_neg h1, if_neg h2, if_neg h3, if_neg h6]
  have hL : ∀ i j, MtL n sb kids i j → InM (msF .zero kids) ((j : Int) - (i : Int)) := fun i j hm => by
   have := hF.2 0 i j ⟨by decide, .inr (by decide)⟩ hm
   rwa [Int.zero_add] at this
  by_cases h4 : k = 4
  ·rw [if_pos h4]
   refine ⟨hF.1, fun i j hm => ?_⟩
   unfold MtT at hm
   rw [if_neg h1, if_neg h2, if_neg h3, if_neg (by omega), if_neg h6] at hm
   exact hL i j hm
  by_cases h5 : k = 5
  ·rw [if_neg h4, if_pos h5]
   obtain ⟨h0, hh, hk⟩ := h.2.1 h5
   refine ⟨so_rep hF.1 h0 hh, fun i j hm => ?_⟩
   unfold MtT at hm
   rw [if_neg h1, if_neg h2, if_neg h3, if_pos h5] at hm
   refine in_rep hF.1 (fun i j hr => hL i j ?_) h0 hh hm
   cases kids with
   | nil => simp at hk
   | cons c cs =>
    obtain rfl : cs = [] := by cases cs with | nil => rfl | cons _ _ => simp at hk
    unfold MtK at hr
    unfold MtL
    exact ⟨j, hr, by unfold MtL; rfl⟩
  ·rw [if_neg h4, if_neg h5]
   refine ⟨hF.1, fun i j hm => ?_⟩
   unfold MtT at hm
   rw [if_neg h1, if_neg h2, if_neg h3, if_neg h5, if_neg h6] at hm
   exact hL i j hm
theorem mtL_bounds {n : Nat} {sb : Nat → Nat} : ∀ (ts : List Tr) (a : Ms), PlL ts → SoM a → SoM (msF a ts) ∧ ∀ (d : Int) i j, InM a d → MtL n sb ts i j → InM (msF a ts) (d + ((j : Int) - (i : Int)))
 | [], a, _, ha => by
  unfold msF
  refine ⟨ha, fun d i j hd hm => ?_⟩
  unfold MtL at hm
  subst hm
  rw [Int.sub_self, Int.add_zero]
  exact hd
 | t :: ts, a, h, ha => by
  unfold PlL at h
  unfold msF
  obtain ⟨k1, k2⟩ := mt_bounds (n := n) (sb := sb) t h.1
  obtain ⟨k3, k4⟩ := mtL_bounds (n := n) (sb := sb) ts (a.both (msT t)) h.2 (so_both ha k1)
  refine ⟨k3, fun d i j hd hm => ?_⟩
  unfold MtL at hm
  obtain ⟨r, k5, k6⟩ := hm
  have := k4 _ r j (in_both hd (k2 i r k5)) k6
  have e : d + ((r : Int) - (i : Int)) + ((j : Int) - (r : Int)) = d + ((j : Int) - (i : Int)) := by omega
  rw [e] at this
  exact this
end
end Go.Proofs.Ytiedliahmjiadaa
