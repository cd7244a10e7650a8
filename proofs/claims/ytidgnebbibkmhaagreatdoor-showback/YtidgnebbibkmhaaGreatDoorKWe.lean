/- show, pure: what belongs to a command, read as it was. -/
import Derived.Test.YtidgnebbibkmhaaGreatDoorKWd
set_option maxRecDepth 100000
set_option maxHeartbeats 4000000
namespace Go.Proofs.YtidgnebbibkmhaaGreatDoor
open Go.RowKit
open scanP scrP tpl ytb
namespace sho

theorem tx_of (r : List UInt8) : ∀ (x : List UInt8) (p : Nat) (t : List UInt8), txR (eN [92, 10] x ++ 10 :: r) p t = (t ++ x ++ [10], p + (eN [92, 10] x).length + 1, 0)
  | [], p, t => by cases r <;> simp [eN, txR]
  | b :: x, p, t => by
    have two : ∀ c : UInt8, txR (92 :: c :: (eN [92, 10] x ++ 10 :: r)) p t = (t ++ c :: x ++ [10], p + ((eN [92, 10] x).length + 2) + 1, 0) := fun c => by
      rw [txR, if_neg (by decide), if_pos rfl, tx_of r x]
      simp; omega
    unfold eN
    split
    · rename_i hb; rw [hb]; exact (two 92).trans (by simp)
    · split
      · rename_i hb; rw [hb]; exact (two 10).trans (by simp)
      · rename_i h1 h2
        obtain ⟨c, q, e⟩ : ∃ c q, eN [92, 10] x ++ 10 :: r = c :: q := by cases eN [92, 10] x with | nil => exact ⟨_, _, rfl⟩ | cons c q => exact ⟨_, _, rfl⟩
        have h := tx_of r x (p + 1) (t ++ [b])
        show txR (b :: (eN [92, 10] x ++ 10 :: r)) p t = _
        rw [e] at h ⊢
        rw [txR, if_neg h2, if_neg h1, h]
        simp; omega
theorem text_of {l : List UInt8} {i : Nat} {x r : List UInt8} (c : Co) (h : l.drop i = (92 :: 10 :: eN [92, 10] x) ++ 10 :: r) : txtC l c i = .ok ({ c with tx := x ++ [10] }, i + ((eN [92, 10] x).length + 2) + 1) := by
  have hd : l.drop i = 92 :: 10 :: (eN [92, 10] x ++ 10 :: r) := h
  have e : scanP.textR l i = (x ++ [10], i + ((eN [92, 10] x).length + 2) + 1, 0) := by
    unfold scanP.textR
    simp only
    rw [bl_of hd (by decide), hd]
    simp only [and_self, if_true]
    rw [if_neg (by simp), tx_of r x]
    simp; omega
  unfold txtC txtR
  rw [e]
  rfl
/-- The flags, one behind the other. -/
theorem flg_n {l : List UInt8} {n i : Nat} {c : Co} {m : Nat} {b : UInt8} {r : List UInt8} (h : l.drop i = Lib.decDigits m ++ b :: r) (hb : isDg b = false) (h0 : c.nh = 0) (h1 : 1 ≤ m) (h2 : m ≤ 512) : flgR l (n + 1) c i = flgR l n { c with nh := m } (i + (Lib.decDigits m).length) := by
  obtain ⟨x, t, e⟩ := dec_ne m
  have hx := dec_dg m x (by rw [e]; exact List.mem_cons_self)
  have hd : l.drop i = x :: (t ++ b :: r) := by rw [h, e]; rfl
  have n1 : x ≠ 103 := fun e => by rw [e] at hx; cases hx
  have n2 : x ≠ 112 := fun e => by rw [e] at hx; cases hx
  rw [flgR, mt_ne hd n1, if_neg (by simp), mt_ne hd n2, if_neg (by simp), mt_dg hd, hx, if_pos rfl, num_of h (dg_nil hb) (by omega), if_neg (by simp only; omega)]
theorem flg_g {l : List UInt8} {n i : Nat} {c : Co} {r : List UInt8} (h : l.drop i = 103 :: r) (h0 : c.an = false) : flgR l (n + 1) c i = flgR l n { c with an := true } (i + 1) := by
  rw [flgR, mt_of h, if_pos (by decide), h0, if_neg (by simp)]
theorem flg_p {l : List UInt8} {n i : Nat} {c : Co} {r : List UInt8} (h : l.drop i = 112 :: r) (h0 : c.pr = false) : flgR l (n + 1) c i = flgR l n { c with pr := true } (i + 1) := by
  rw [flgR, mt_ne h (by decide), if_neg (by simp), mt_of h, if_pos (by decide), h0, if_neg (by simp)]
theorem flg_w {l : List UInt8} {n i : Nat} {c : Co} {r : List UInt8} (h : l.drop i = 119 :: r) : flgR l (n + 1) c i = filC l c (i + 1) := by
  rw [flgR, mt_ne h (by decide), if_neg (by simp), mt_ne h (by decide), if_neg (by simp), mt_dg h, if_neg (by decide), mt_of h, if_pos (by decide)]
theorem flg_e {l : List UInt8} {n i : Nat} {c : Co} {r : List UInt8} (h : l.drop i = 10 :: r) : flgR l (n + 1) c i = .ok (c, i) := by
  rw [flgR, mt_ne h (by decide), if_neg (by simp), mt_ne h (by decide), if_neg (by simp), mt_dg h, if_neg (by decide), mt_ne h (by decide), if_neg (by simp), end_of c h]
theorem ok_eq {a a' : Co} {n m : Nat} (h1 : a = a') (h2 : n = m) : (Except.ok (a, n) : Rd (Co × Nat)) = .ok (a', m) := by rw [h1, h2]
/-- The last of them: a file, or none. -/
theorem flg_3 {l : List UInt8} {n i : Nat} {c : Co} {f r : List UInt8} (hc : c.fl = []) (hf : f = [] ∨ Fi f) (h : l.drop i = (if f = [] then [] else 119 :: woW f) ++ 10 :: r) : flgR l (n + 1) c i = .ok ({ c with fl := f }, i + (if f = [] then [] else 119 :: woW f).length) := by
  by_cases h0 : f = []
  · rw [if_pos h0] at h ⊢
    rw [flg_e h]
    exact ok_eq (by rw [h0, ← hc]) rfl
  · rw [if_neg h0] at h ⊢
    have hd : l.drop i = 119 :: (woW f ++ 10 :: r) := h
    rw [flg_w hd, fil_of c (hf.resolve_left h0) (drop_one hd), List.length_cons, show i + 1 + (woW f).length = i + ((woW f).length + 1) by omega]
theorem flg_2 {l : List UInt8} {n i : Nat} {c : Co} {f r : List UInt8} {pr : Bool} (hc : c.fl = []) (hp : c.pr = false) (hf : f = [] ∨ Fi f) (h : l.drop i = ((if pr = true then [112] else []) ++ (if f = [] then [] else 119 :: woW f)) ++ 10 :: r) : flgR l (n + 1 + 1) c i = .ok ({ c with pr := pr, fl := f }, i + ((if pr = true then [112] else []) ++ (if f = [] then [] else 119 :: woW f)).length) := by
  cases pr with
  | true =>
    have hd : l.drop i = 112 :: ((if f = [] then [] else 119 :: woW f) ++ 10 :: r) := h
    rw [flg_p hd hp, flg_3 (c := { c with pr := true }) hc hf (drop_one hd)]
    exact ok_eq rfl (by simp only [if_true, List.length_append, List.length_singleton]; omega)
  | false =>
    rw [flg_3 hc hf h]
    exact ok_eq (by rw [← hp]) rfl
theorem flg_1 {l : List UInt8} {n i : Nat} {c : Co} {f r : List UInt8} {an pr : Bool} (hc : c.fl = []) (hp : c.pr = false) (ha : c.an = false) (hf : f = [] ∨ Fi f) (h : l.drop i = ((if an = true then [103] else []) ++ ((if pr = true then [112] else []) ++ (if f = [] then [] else 119 :: woW f))) ++ 10 :: r) : flgR l (n + 1 + 1 + 1) c i = .ok ({ c with an := an, pr := pr, fl := f }, i + ((if an = true then [103] else []) ++ ((if pr = true then [112] else []) ++ (if f = [] then [] else 119 :: woW f))).length) := by
  cases an with
  | true =>
    have hd : l.drop i = 103 :: (((if pr = true then [112] else []) ++ (if f = [] then [] else 119 :: woW f)) ++ 10 :: r) := h
    rw [flg_g hd ha, flg_2 (c := { c with an := true }) hc hp hf (drop_one hd)]
    exact ok_eq rfl (by simp only [if_true, List.length_append, List.length_singleton]; omega)
  | false =>
    rw [flg_2 hc hp hf h]
    exact ok_eq (by rw [← ha]) rfl
theorem flg_hd (an pr : Bool) (f r : List UInt8) : ∃ b q, ((if an = true then [103] else []) ++ ((if pr = true then [112] else []) ++ (if f = [] then [] else 119 :: woW f))) ++ 10 :: r = b :: q ∧ isDg b = false := by
  cases an
  · cases pr
    · by_cases h : f = []
      · exact ⟨10, r, by simp [h], by decide⟩
      · exact ⟨119, _, by rw [if_neg h]; rfl, by decide⟩
    · exact ⟨112, _, rfl, by decide⟩
  · exact ⟨103, _, rfl, by decide⟩
theorem flg_of {l : List UInt8} {n i : Nat} {c d : Co} {r : List UInt8} (hc : c.fl = []) (hp : c.pr = false) (ha : c.an = false) (hn : c.nh = 0) (hf : d.fl = [] ∨ Fi d.fl) (h1 : 1 ≤ d.nh) (h2 : d.nh ≤ 512) (h : l.drop i = flW d ++ 10 :: r) : ∃ m, max m 1 = d.nh ∧ flgR l (n + 1 + 1 + 1 + 1) c i = .ok ({ c with nh := m, an := d.an, pr := d.pr, fl := d.fl }, i + (flW d).length) := by
  unfold flW at h ⊢
  by_cases h0 : d.nh = 1
  · rw [if_pos h0, List.nil_append] at h ⊢
    refine ⟨0, by omega, ?_⟩
    rw [flg_1 hc hp ha hf h]
    exact ok_eq (by rw [← hn]) rfl
  · rw [if_neg h0] at h ⊢
    refine ⟨d.nh, by omega, ?_⟩
    rw [List.append_assoc] at h
    obtain ⟨b, q, e, hb⟩ := flg_hd d.an d.pr d.fl r
    rw [flg_n (by rw [h, e]) hb hn h1 h2, flg_1 (c := { c with nh := d.nh }) hc hp ha hf (drop_of h)]
    exact ok_eq rfl (by simp only [List.length_append]; omega)
theorem pc_eN : ∀ t : List UInt8, pcB false (eN [92, 110] t) = true
  | [] => rfl
  | b :: r => by
    have ih := pc_eN r
    unfold eN
    split
    · exact (pc_two false (.inl (by decide)) _).trans ih
    · split
      · exact (pc_two false (.inl (by decide)) _).trans ih
      · rename_i h1 h2; exact (pc_one false h2 h1 _).trans ih
theorem pc_back : ∀ (t : List UInt8) (k : Nat) (acc : List UInt8), pcR (eN [92, 110] t) k acc = (acc ++ t, 0, 0)
  | [], k, acc => by rw [eN, pc_nil, List.append_nil]
  | b :: r, k, acc => by
    have key : ∀ k', pcR (eN [92, 110] r) k' (acc ++ [b]) = (acc ++ b :: r, 0, 0) := fun k' => by rw [pc_back r k']; simp
    unfold eN
    split
    · rename_i hb
      refine (pc_esc 92 92 _ k acc (by decide) (by decide) (by unfold alnB; decide)).trans ?_
      rw [hb] at key ⊢
      exact key _
    · split
      · rename_i hb
        refine (pc_n 92 110 _ k acc (by decide) (by decide)).trans ?_
        rw [hb] at key ⊢
        exact key _
      · rename_i h1 h2
        refine (pc_pl b _ k acc (fun e => h1 (UInt8.toNat_inj.1 e))).trans (key _)
theorem sid_of {l : List UInt8} {i p : Nat} {d : UInt8} {t r : List UInt8} (h : l.drop i = eN [92, 110] t ++ d :: r) (hd : d ≠ 10 ∧ d ≠ 92) (hn : (eN [92, 110] t).contains d = false) : sidR l d p i = .ok (t, i + (eN [92, 110] t).length + 1) := by
  unfold sidR
  rw [pie_of h hd (pc_eN t) hn]
  simp only
  unfold xd7
  rw [pc_back, List.nil_append]
  rfl
/-- What belongs to a command. -/
def beg (c : Co) (p : Nat) : Co := { co0 with pl := p, a := c.a, b := c.b, nt := c.nt, nm := c.nm }
theorem beg_end {G : Gr} {c : Co} (hw : WfC G c) (p : Nat) (hk : kd c.nm = 0) : beg c p = { c with pl := p } := by
  unfold kd at hk
  have n1 : ¬ (c.nm = 97 ∨ c.nm = 105 ∨ c.nm = 99) := fun e => by rw [if_pos e] at hk; cases hk
  rw [if_neg n1] at hk
  have n2 : ¬ (c.nm = 58 ∨ c.nm = 98 ∨ c.nm = 116) := fun e => by rw [if_pos e] at hk; cases hk
  rw [if_neg n2] at hk
  have n3 : ¬ (c.nm = 114 ∨ c.nm = 119) := fun e => by rw [if_pos e] at hk; cases hk
  rw [if_neg n3] at hk
  have n4 : ¬ c.nm = 115 := fun e => by rw [if_pos e] at hk; cases hk
  rw [if_neg n4] at hk
  have n5 : ¬ c.nm = 121 := fun e => by rw [if_pos e] at hk; cases hk
  have F := hw.fo
  have f1 := F.lb (fun e => n2 (.inl e)) (fun e => n2 (.inr (.inl e))) (fun e => n2 (.inr (.inr e)))
  have f2 := F.tx (fun e => n1 (.inl e)) (fun e => n1 (.inr (.inl e))) (fun e => n1 (.inr (.inr e)))
  have f3 := F.fl (fun e => n3 (.inl e)) (fun e => n3 (.inr e)) n4
  obtain ⟨f4, f5⟩ := F.fr n5
  obtain ⟨g1, g2, g3, g4, g5⟩ := F.sd n4
  obtain ⟨pl, a, b, nt, nm, lb, tx, fl, re, ps, nh, an, pr, fr, to⟩ := c
  simp only at *
  subst f1 f2 f3 f4 f5 g1 g2 g3 g4 g5
  rfl

end sho
end Go.Proofs.YtidgnebbibkmhaaGreatDoor
