/- show, pure: a command that is written is read as it was. -/
import Derived.Test.YtidgnebbibkmhaaGreatDoorKWc
set_option maxRecDepth 100000
set_option maxHeartbeats 4000000
namespace Go.Proofs.YtidgnebbibkmhaaGreatDoor
open Go.RowKit
open scanP scrP tpl ytb
namespace sho

def sgS : List UInt8 := dgS ++ [36, 47, 92, 44, 32, 9, 10, 59, 35]
theorem u8_all {p : UInt8 → Bool} (h : ∀ n : Fin 256, p (UInt8.ofNat n.val) = true) (b : UInt8) : p b = true := by
  have := h ⟨b.toNat, b.toNat_lt⟩
  rwa [show UInt8.ofNat b.toNat = b from by simp] at this
theorem dg_eq (b : UInt8) : dgS.contains b = isDg b := by
  have := u8_all (p := fun b => dgS.contains b == isDg b) (by decide +kernel) b
  simpa using this
theorem sg_all {b : UInt8} (h : sgS.contains b = false) : isDg b = false ∧ b ≠ 36 ∧ b ≠ 47 ∧ b ≠ 92 ∧ b ≠ 44 ∧ b ≠ 32 ∧ b ≠ 9 ∧ b ≠ 10 ∧ b ≠ 59 ∧ b ≠ 35 := by
  have := u8_all (p := fun b => sgS.contains b || (!isDg b && decide (b ≠ 36 ∧ b ≠ 47 ∧ b ≠ 92 ∧ b ≠ 44 ∧ b ≠ 32 ∧ b ≠ 9 ∧ b ≠ 10 ∧ b ≠ 59 ∧ b ≠ 35))) (by decide +kernel) b
  rw [h, Bool.false_or, Bool.and_eq_true, decide_eq_true_eq, Bool.not_eq_true'] at this
  exact this
theorem nm_sg {b : UInt8} (h : nmS.contains b = true) : sgS.contains b = false ∧ b ≠ 33 := by
  have := u8_all (p := fun b => !nmS.contains b || (!sgS.contains b && decide (b ≠ 33))) (by decide +kernel) b
  rw [h, Bool.not_true, Bool.false_or, Bool.and_eq_true, decide_eq_true_eq, Bool.not_eq_true'] at this
  exact this
theorem mt_ne {l : List UInt8} {i : Nat} {b x : UInt8} {r : List UInt8} (h : l.drop i = b :: r) (hb : b ≠ x) : mtB l i [x] = false := by rw [mt_of h]; simp [hb]
theorem mt_dg {l : List UInt8} {i : Nat} {b : UInt8} {r : List UInt8} (h : l.drop i = b :: r) : mtB l i dgS = isDg b := by rw [mt_of h, dg_eq]
theorem dg_nil {b : UInt8} {r : List UInt8} (h : isDg b = false) : dgN (b :: r) = 0 := by rw [dgN, h]; rfl
theorem mat_of {G : Gr} {l : List UInt8} {p i : Nat} {d : UInt8} {x r : List UInt8} (h : l.drop i = d :: (x ++ d :: r)) (hd : d ≠ 10 ∧ d ≠ 92) (hn : x.contains d = false) (hx : pcB false x = true) (hg : (G x).1 = 0) : matR G l p i = .ok (⟨3, 0, x⟩, i + (x.length + 2)) := by
  unfold matR
  rw [del_of h hd]
  simp only
  rw [pie_of (drop_one h) hd hx hn]
  simp only [grpR, hg, if_true]
  rw [show i + 1 + x.length + 1 = i + (x.length + 2) by omega]
theorem one_of {G : Gr} {l : List UInt8} {i : Nat} {a : Adr} {b : UInt8} {t r : List UInt8} (hw : WfA G a) (ht : adW a = some t) (h : l.drop i = t ++ b :: r) (hb : isDg b = false ∧ b ≠ 36 ∧ b ≠ 47 ∧ b ≠ 92) : oneA G l i = .ok (a, i + t.length) := by
  obtain ⟨s1, s2, s3, s4⟩ := hb
  unfold adW at ht
  unfold oneA
  by_cases h1 : a.k = 1
  · rw [if_pos h1] at ht
    cases ht
    obtain ⟨w1, w2, w3⟩ := hw.l h1
    obtain ⟨x, t, e⟩ := dec_ne a.ln
    have hx := dec_dg a.ln x (by rw [e]; exact List.mem_cons_self)
    have hd : l.drop i = x :: (t ++ b :: r) := by rw [h, e]; rfl
    have hl : linR l i = .ok (⟨1, a.ln, []⟩, i + (Lib.decDigits a.ln).length) := by
      unfold linR
      rw [num_of h (dg_nil s1) w2, if_neg (by simp only; omega)]
    rw [mt_dg hd, hx, if_pos rfl, hl]
    obtain ⟨ak, al, ar⟩ := a
    simp only at h1 w3 ⊢
    rw [h1, w3]
  rw [if_neg h1] at ht
  by_cases h2 : a.k = 2
  · rw [if_pos h2] at ht
    cases ht
    obtain ⟨w1, w2⟩ := hw.d h2
    have hd : l.drop i = 36 :: (b :: r) := h
    rw [mt_dg hd, if_neg (by decide), mt_of hd, if_pos (by decide)]
    obtain ⟨ak, al, ar⟩ := a
    simp only at h2 w1 w2 ⊢
    rw [h2, w1, w2]
    rfl
  rw [if_neg h2] at ht
  by_cases h3 : a.k = 3
  · rw [if_pos h3] at ht
    obtain ⟨w1, w2, w3⟩ := hw.m h3
    have ea : a = ⟨3, 0, a.re⟩ := by
      obtain ⟨ak, al, ar⟩ := a
      simp only at h3 w1 ⊢
      rw [h3, w1]
    unfold btw at ht
    split at ht
    · cases ht
    · rename_i u hu
      split at hu
      · cases hu
      · rename_i d hd
        obtain ⟨d1, d2⟩ := dlm_ok hd
        have d3 := d2 a.re List.mem_cons_self
        cases hu
        by_cases hf : frB 47 [a.re] = true
        · have : d = 47 := by unfold dlm at hd; rw [if_pos hf] at hd; cases hd; rfl
          subst this
          rw [if_pos hf] at ht
          cases ht
          have hd2 : l.drop i = 47 :: (a.re ++ 47 :: (b :: r)) := by rw [h]; simp [bws]
          rw [mt_dg hd2, if_neg (by decide), mt_ne hd2 (by decide), if_neg (by simp), mt_of hd2, if_pos (by decide), mat_of hd2 d1 d3 w2 w3, ← ea]
          simp [bws]
        · rw [if_neg hf] at ht
          cases ht
          have hd2 : l.drop i = 92 :: (d :: (a.re ++ d :: (b :: r))) := by rw [h]; simp [bws]
          rw [mt_dg hd2, if_neg (by decide), mt_ne hd2 (by decide), if_neg (by simp), mt_ne hd2 (by decide), if_neg (by simp), mt_of hd2, if_pos (by decide), mat_of (drop_one hd2) d1 d3 w2 w3, ← ea]
          simp [bws]; omega
  rw [if_neg h3] at ht
  cases ht
  have h0 : a.k = 0 := by have := hw.le; omega
  have hd : l.drop i = b :: r := h
  rw [mt_dg hd, s1, if_neg (by simp), mt_ne hd s2, if_neg (by simp), mt_ne hd s3, if_neg (by simp), mt_ne hd s4, if_neg (by simp), hw.z h0]
  rfl
theorem adW_hd {a : Adr} {t : List UInt8} {G : Gr} (hw : WfA G a) (h0 : a.k ≠ 0) (ht : adW a = some t) : ∃ x q, t = x :: q ∧ [32, 9, 10, 59, 35].contains x = false := by
  unfold adW at ht
  by_cases h1 : a.k = 1
  · rw [if_pos h1] at ht
    cases ht
    obtain ⟨x, t, e⟩ := dec_ne a.ln
    have hx := dec_dg a.ln x (by rw [e]; exact List.mem_cons_self)
    refine ⟨x, t, e, ?_⟩
    have := u8_all (p := fun b => !isDg b || !([32, 9, 10, 59, 35] : List UInt8).contains b) (by decide +kernel) x
    rw [hx] at this
    simpa using this
  rw [if_neg h1] at ht
  by_cases h2 : a.k = 2
  · rw [if_pos h2] at ht
    cases ht
    exact ⟨36, [], rfl, by decide⟩
  rw [if_neg h2] at ht
  rw [if_pos (by have := hw.le; omega)] at ht
  unfold btw at ht
  split at ht
  · cases ht
  · rename_i u hu
    split at hu
    · cases hu
    · rename_i d hd
      cases hu
      by_cases hf : frB 47 [a.re] = true
      · have : d = 47 := by unfold dlm at hd; rw [if_pos hf] at hd; cases hd; rfl
        subst this
        rw [if_pos hf] at ht
        cases ht
        exact ⟨47, _, rfl, by decide⟩
      · rw [if_neg hf] at ht
        cases ht
        exact ⟨92, _, rfl, by decide⟩
theorem bl_hd {l : List UInt8} {i : Nat} {x : UInt8} {q : List UInt8} (h : l.drop i = x :: q) (hx : [32, 9, 10, 59, 35].contains x = false) : xab l i = i := bl_of h (by simp at hx; exact ⟨hx.1, hx.2.1⟩)
theorem two_of {G : Gr} {l : List UInt8} {i : Nat} {c : Co} {b : UInt8} {x y r : List UInt8} (hw : WfC G c) (hx : adW c.a = some x) (hy : abW c = some y) (h : l.drop i = x ++ (y ++ b :: r)) (hb : sgS.contains b = false) : twoA G l i = .ok (c.a, c.b, i + (x.length + y.length)) := by
  obtain ⟨s1, s2, s3, s4, s5, s6, s7, -⟩ := sg_all hb
  have hb4 := And.intro s1 (And.intro s2 (And.intro s3 s4))
  unfold abW at hy
  unfold twoA
  by_cases h0 : c.b.k = 0
  · rw [if_pos h0] at hy
    cases hy
    rw [one_of hw.a hx h hb4, hw.b.z h0]
    simp only
    split
    · rfl
    · have hk : l.drop (i + x.length) = b :: r := drop_of h
      rw [bl_of hk ⟨s6, s7⟩, mt_ne hk s5, if_neg (by simp)]
      rfl
  · rw [if_neg h0] at hy
    cases hz : adW c.b with
    | none => rw [hz] at hy; cases hy
    | some z =>
      rw [hz] at hy
      cases hy
      have ha : c.a.k ≠ 0 := fun e => h0 (hw.fo.ad e)
      rw [one_of (r := z ++ b :: r) (b := 44) hw.a hx (by rw [h]; rfl) (by decide)]
      have hk : l.drop (i + x.length) = 44 :: (z ++ b :: r) := drop_of h
      obtain ⟨e1, q, e2, e3⟩ := adW_hd hw.b h0 hz
      have hm : l.drop (i + x.length + 1) = z ++ b :: r := drop_one hk
      simp only
      rw [if_neg ha, bl_of hk (by decide), mt_of hk, if_pos (by decide), bl_hd (q := q ++ b :: r) (by rw [hm, e2]; rfl) e3, one_of hw.b hz hm hb4]
      simp only
      rw [if_neg h0, List.length_cons]
      rw [show i + x.length + 1 + z.length = i + (x.length + (z.length + 1)) by omega]
theorem not_of {l : List UInt8} {i : Nat} {c : Co} {r : List UInt8} (h : l.drop i = ntW c ++ c.nm :: r) (hn : nmS.contains c.nm = true) : notR l i = (c.nt, i + (ntW c).length) := by
  obtain ⟨h1, h2⟩ := nm_sg hn
  obtain ⟨-, -, -, -, -, s6, s7, -⟩ := sg_all h1
  unfold ntW at h ⊢
  unfold notR
  cases hc : c.nt with
  | true =>
    rw [hc] at h
    have hk : l.drop i = 33 :: (c.nm :: r) := h
    rw [bl_of hk (by decide), mt_of hk, if_pos (by decide), bl_of (drop_one hk) ⟨s6, s7⟩]
    rfl
  | false =>
    rw [hc] at h
    have hk : l.drop i = c.nm :: r := h
    rw [bl_of hk ⟨s6, s7⟩, mt_ne hk h2, if_neg (by simp)]
    rfl
theorem end_of {l : List UInt8} {i : Nat} {r : List UInt8} (c : Co) (h : l.drop i = 10 :: r) : endC l c i = .ok (c, i) := by
  unfold endC endR
  rw [bl_of h (by decide), if_pos (.inr (by rw [mt_of h]; decide))]
theorem ln_of (r : List UInt8) : ∀ x : List UInt8, (∀ b ∈ x, b ≠ 10) → lnN (x ++ 10 :: r) = x.length
  | [], _ => rfl
  | b :: x, h => by
    rw [List.cons_append, lnN, if_neg (h b List.mem_cons_self), ln_of r x (fun c hc => h c (List.mem_cons_of_mem _ hc))]; rfl
theorem wd_of (r : List UInt8) : ∀ x : List UInt8, (∀ b ∈ x, b ≠ 10 ∧ b ≠ 59) → wdN (x ++ 10 :: r) = x.length
  | [], _ => rfl
  | b :: x, h => by
    have := h b List.mem_cons_self
    rw [List.cons_append, wdN, if_neg (by rintro (e | e); exact this.1 e; exact this.2 e), wd_of r x (fun c hc => h c (List.mem_cons_of_mem _ hc))]; rfl
theorem bl_wo {l : List UInt8} {i : Nat} {t r : List UInt8} (ht : t ≠ []) (hh : Hb t) (h : l.drop i = 32 :: (t ++ r)) : xab l i = i + 1 := by
  obtain ⟨b, q, rfl⟩ : ∃ b q, t = b :: q := by cases t with | nil => exact absurd rfl ht | cons b q => exact ⟨b, q, rfl⟩
  have := hh b q rfl
  unfold xab
  rw [h, List.cons_append, blkN, if_pos (.inl rfl), blkN, if_neg (by rintro (e | e); exact this.1 e; exact this.2 e)]
theorem line_of {l : List UInt8} {i : Nat} {t r : List UInt8} (hf : Fi t) (h : l.drop i = woW t ++ 10 :: r) : xbi l i = (t, i + (woW t).length) := by
  have ht : t ≠ [] := fun e => by have := hf.1; rw [e] at this; cases this
  unfold woW at h ⊢
  rw [if_neg ht] at h ⊢
  rw [List.cons_append] at h
  have hn : ∀ b ∈ t, b ≠ 10 := fun b hb => by
    have := hf.1
    unfold xfy at this
    rw [Bool.and_eq_true] at this
    have := List.all_eq_true.1 this.2 b hb
    simp at this
    exact this.1
  unfold xbi
  simp only
  rw [bl_wo ht hf.2 h, drop_one h, ln_of r t hn, List.take_left, List.length_cons]
  congr 1
  omega
theorem fil_of {l : List UInt8} {i : Nat} {t r : List UInt8} (c : Co) (hf : Fi t) (h : l.drop i = woW t ++ 10 :: r) : filC l c i = .ok ({ c with fl := t }, i + (woW t).length) := by
  unfold filC filR
  rw [line_of hf h]
  simp only [hf.1, if_true]
theorem rt_of (x r : List UInt8) (h : ∀ b, x.getLast? = some b → b ≠ 32 ∧ b ≠ 9) : rtN x.length (x ++ r) = x.length := by
  cases hn : x.length with
  | zero => rfl
  | succ n =>
    have hl : n < x.length := by omega
    have e : x.getLast? = some x[n] := by rw [List.getLast?_eq_getElem?, hn]; exact List.getElem?_eq_getElem hl
    have := h _ e
    rw [rtN, List.getElem?_append_left hl, List.getElem?_eq_getElem hl, if_neg (by rintro (e | e); exact this.1 (Option.some.inj e); exact this.2 (Option.some.inj e))]
theorem word_of {l : List UInt8} {i : Nat} {t r : List UInt8} (hf : Lb t) (h : l.drop i = woW t ++ 10 :: r) : xcw l i = (t, i + (woW t).length) := by
  unfold woW at h ⊢
  unfold xcw
  simp only
  by_cases ht : t = []
  · rw [if_pos ht] at h ⊢
    rw [ht]
    rw [bl_of h (by decide), h]
    rfl
  · rw [if_neg ht] at h ⊢
    rw [List.cons_append] at h
    rw [bl_wo ht hf.2.1 h, drop_one h, wd_of r t hf.1, rt_of t _ hf.2.2, List.take_left, List.length_cons]
    congr 1
    omega

end sho
end Go.Proofs.YtidgnebbibkmhaaGreatDoor
