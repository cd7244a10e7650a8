/- script, pure: a script further on in a text is read alike. -/
import Derived.Test.YtjfkhlmoppbbgaaGreatDoorKXw
namespace Go.Proofs.YtjfkhlmoppbbgaaGreatDoor
open scanP scrP tpl ytb

theorem sh_drop (p l : List UInt8) (k : Nat) : (p ++ l).drop (p.length + k) = l.drop k := by
  rw [List.drop_append, List.drop_of_length_le (by omega), List.nil_append, Nat.add_sub_cancel_left]
theorem sh_get (p l : List UInt8) (k : Nat) : (p ++ l)[p.length + k]? = l[k]? := by
  rw [List.getElem?_append_right (by omega), Nat.add_sub_cancel_left]
theorem sh_mt (p l : List UInt8) (k : Nat) (S : List UInt8) : mtB (p ++ l) (p.length + k) S = mtB l k S := by
  unfold mtB; rw [sh_get]
theorem sh_blanks (p l : List UInt8) (k : Nat) : blanksN (p ++ l) (p.length + k) = p.length + blanksN l k := by
  unfold blanksN; rw [sh_drop, Nat.add_assoc]
/-- An answer, its place so much further. -/
def sE {α : Type} (n : Nat) : Rd (α × Nat) → Rd (α × Nat)
  | .error (e, p) => .error (e, n + p)
  | .ok (a, k) => .ok (a, n + k)
def mv (n : Nat) (c : Co) : Co := { c with pl := n + c.pl }
def sC (n : Nat) : Rd (Co × Nat) → Rd (Co × Nat)
  | .error (e, p) => .error (e, n + p)
  | .ok (c, k) => .ok (mv n c, n + k)
theorem sh_num (p l : List UInt8) (k : Nat) : numR (p ++ l) (p.length + k) = ((numR l k).1, if (numR l k).2.2 = 0 then p.length + (numR l k).2.1 else 0, (numR l k).2.2) := by
  unfold numR
  simp only [sh_drop]
  split
  · rfl
  · split
    · rfl
    · simp only [if_true, Nat.add_assoc]
theorem sh_un (n : Nat) (d : UInt8) (ln : Bool) : ∀ (r : List UInt8) (p : Nat) (t : List UInt8), unR d ln r (n + p) t = ((unR d ln r p t).1, if (unR d ln r p t).2.2 = 0 then n + (unR d ln r p t).2.1 else 0, (unR d ln r p t).2.2)
  | [], p, t => by simp [unR]
  | [b], p, t => by
    unfold unR
    split
    · simp only [if_true, Nat.add_assoc]
    · rfl
  | b :: c :: r, p, t => by
    have h1 := sh_un n d ln (c :: r) (p + 1) (t ++ [b])
    have h2 := sh_un n d ln r (p + 2) (t ++ ((if keptB d c then [92] else []) ++ [c]))
    rw [unR, unR]
    by_cases e1 : b = d
    · simp only [if_pos e1, if_true, Nat.add_assoc]
    · by_cases e2 : b = 10
      · simp only [if_neg e1, if_pos e2]; rfl
      · by_cases e3 : b ≠ 92
        · simp only [if_neg e1, if_neg e2, if_pos e3]
          rw [Nat.add_assoc, h1]
        · by_cases e4 : c = 10 ∧ ln = false
          · simp only [if_neg e1, if_neg e2, if_neg e3, if_pos e4]; rfl
          · simp only [if_neg e1, if_neg e2, if_neg e3, if_neg e4]
            rw [Nat.add_assoc, h2]
theorem sh_until (p l : List UInt8) (i : Nat) (d : UInt8) (ln : Bool) : untilR (p ++ l) ((p.length + i : Nat) : Int) d ln = ((untilR l i d ln).1, if (untilR l i d ln).2.2 = 0 then p.length + (untilR l i d ln).2.1 else 0, (untilR l i d ln).2.2) := by
  have h1 : (((p.length + i : Nat) : Int) < 0) = (((i : Nat) : Int) < 0) := by rw [eq_iff_iff]; omega
  have h2 : (((p ++ l).length : Int) < ((p.length + i : Nat) : Int)) = ((l.length : Int) < (i : Nat)) := by rw [eq_iff_iff, List.length_append]; omega
  unfold untilR
  simp only [h1, h2]
  split
  · rfl
  · rw [Int.toNat_natCast, Int.toNat_natCast, sh_drop, sh_un]
theorem sh_del (p l : List UInt8) (i e q : Nat) : delR (p ++ l) (p.length + i) e (p.length + q) = sE p.length (delR l i e q) := by
  unfold delR
  rw [sh_get]
  split
  · rfl
  · split
    · rfl
    · simp only [sE, Nat.add_assoc]
theorem sh_pie (p l : List UInt8) (i q : Nat) (d : UInt8) (ln : Bool) : pieR (p ++ l) (p.length + i) d ln (p.length + q) = sE p.length (pieR l i d ln q) := by
  unfold pieR
  rw [sh_until]
  by_cases h : (untilR l i d ln).2.2 = 0
  · simp only [if_pos h]; rfl
  · simp only [if_neg h]; rfl
theorem sh_mat (G : Gr) (p l : List UInt8) (q i : Nat) : matR G (p ++ l) (p.length + q) (p.length + i) = sE p.length (matR G l q i) := by
  unfold matR
  rw [sh_del]
  cases delR l i 17 q with
  | error x => rfl
  | ok x =>
    obtain ⟨d, j⟩ := x
    simp only [sE]
    rw [sh_pie]
    cases pieR l j d false q with
    | error x => rfl
    | ok x =>
      obtain ⟨t, k⟩ := x
      simp only [sE]
      unfold grpR
      split
      · rename_i h
        split at h
        · cases h
        · cases h
          rename_i hn
          rw [if_neg hn]
      · rename_i h
        split at h
        · rename_i hn
          rw [if_pos hn]
        · cases h
theorem sh_lin (p l : List UInt8) (i : Nat) : linR (p ++ l) (p.length + i) = sE p.length (linR l i) := by
  unfold linR
  rw [sh_num]
  by_cases h : (numR l i).2.2 ≠ 0 ∨ (numR l i).1 = 0
  · simp only [if_pos h]; rfl
  · have h2 : (numR l i).2.2 = 0 := Decidable.not_not.1 fun e => h (.inl e)
    simp only [if_neg h, if_pos h2]; rfl
theorem sh_one (G : Gr) (p l : List UInt8) (i : Nat) : oneA G (p ++ l) (p.length + i) = sE p.length (oneA G l i) := by
  unfold oneA
  simp only [sh_mt, sh_lin]
  split
  · rfl
  · split
    · simp only [sE, Nat.add_assoc]
    · split
      · exact sh_mat G p l i i
      · split
        · rw [Nat.add_assoc]; exact sh_mat G p l i (i + 1)
        · rfl
def sT {α β : Type} (n : Nat) : Rd (α × β × Nat) → Rd (α × β × Nat)
  | .error (e, p) => .error (e, n + p)
  | .ok (a, b, k) => .ok (a, b, n + k)
theorem sh_two (G : Gr) (p l : List UInt8) (i : Nat) : twoA G (p ++ l) (p.length + i) = sT p.length (twoA G l i) := by
  unfold twoA
  rw [sh_one]
  cases oneA G l i with
  | error x => rfl
  | ok x =>
    obtain ⟨a, k⟩ := x
    simp only [sE]
    by_cases h : a.k = 0
    · simp only [if_pos h]; rfl
    · simp only [if_neg h, sh_blanks, sh_mt, Nat.add_assoc]
      split
      · rw [sh_one]
        cases oneA G l (blanksN l (blanksN l k + 1)) with
        | error x => rfl
        | ok x =>
          obtain ⟨b, m⟩ := x
          simp only [sE]
          split <;> rfl
      · rfl
theorem sh_end (p l : List UInt8) (i : Nat) : endR (p ++ l) (p.length + i) = (match endR l i with | .error (e, q) => .error (e, p.length + q) | .ok k => .ok (p.length + k)) := by
  unfold endR
  simp only [sh_blanks, sh_mt, List.length_append, Nat.add_left_cancel_iff]
  split <;> rfl
theorem sh_line (p l : List UInt8) (i : Nat) : lineR (p ++ l) (p.length + i) = ((lineR l i).1, p.length + (lineR l i).2) := by
  unfold lineR
  simp only [sh_blanks, sh_drop, Nat.add_assoc]
theorem sh_word (p l : List UInt8) (i : Nat) : wordR (p ++ l) (p.length + i) = ((wordR l i).1, p.length + (wordR l i).2) := by
  unfold wordR
  simp only [sh_blanks, sh_drop, Nat.add_assoc]
theorem sh_tx (n : Nat) : ∀ (r : List UInt8) (p : Nat) (t : List UInt8), txR r (n + p) t = ((txR r p t).1, if (txR r p t).2.2 = 0 then n + (txR r p t).2.1 else 0, (txR r p t).2.2)
  | [], p, t => by simp [txR]
  | [b], p, t => by
    unfold txR
    split
    · simp only [if_true, Nat.add_assoc]
    · split
      · rfl
      · simp only [if_true, Nat.add_assoc]
  | b :: c :: r, p, t => by
    have h1 := sh_tx n (c :: r) (p + 1) (t ++ [b])
    have h2 := sh_tx n r (p + 2) (t ++ [c])
    rw [txR, txR]
    by_cases e1 : b = 10
    · simp only [if_pos e1, if_true, Nat.add_assoc]
    · by_cases e2 : b = 92
      · simp only [if_neg e1, if_pos e2]
        rw [Nat.add_assoc, h2]
      · simp only [if_neg e1, if_neg e2]
        rw [Nat.add_assoc, h1]
theorem sh_text (p l : List UInt8) (i : Nat) : scanP.textR (p ++ l) (p.length + i) = ((scanP.textR l i).1, if (scanP.textR l i).2.2 = 0 then p.length + (scanP.textR l i).2.1 else 0, (scanP.textR l i).2.2) := by
  unfold scanP.textR
  simp only [sh_blanks, sh_drop]
  split
  · by_cases h : ‹UInt8› = 92 ∧ ‹UInt8› = 10
    all_goals skip
    split
    · split
      · rfl
      · rw [Nat.add_assoc, sh_tx]
    · rfl
    split
    · split
      · rfl
      · rw [Nat.add_assoc, sh_tx]
    · rfl
  · rfl
theorem sh_fil (p l : List UInt8) (q i : Nat) : filR (p ++ l) (p.length + q) (p.length + i) = sE p.length (filR l q i) := by
  unfold filR
  rw [sh_line]
  by_cases h : nameB (lineR l i).1 = true
  · simp only [if_pos h]; rfl
  · simp only [if_neg h]; rfl
theorem sh_lab (p l : List UInt8) (nm : UInt8) (q i : Nat) : labR (p ++ l) nm (p.length + q) (p.length + i) = sE p.length (labR l nm q i) := by
  unfold labR
  rw [sh_word]
  by_cases h : 32 < (wordR l i).1.length ∨ nm = 58 ∧ (wordR l i).1 = []
  · simp only [if_pos h]; rfl
  · simp only [if_neg h]; rfl
theorem sh_txt (p l : List UInt8) (q i : Nat) : txtR (p ++ l) (p.length + q) (p.length + i) = sE p.length (txtR l q i) := by
  unfold txtR
  rw [sh_text]
  by_cases h : (scanP.textR l i).2.2 = 0
  · simp only [if_pos h]; rfl
  · simp only [if_neg h]; rfl
theorem sh_txtC (p l : List UInt8) (c : Co) (i : Nat) : txtC (p ++ l) (mv p.length c) (p.length + i) = sC p.length (txtC l c i) := by
  unfold txtC
  rw [show (mv p.length c).pl = p.length + c.pl from rfl, sh_txt]
  cases txtR l c.pl i <;> rfl
theorem sh_labC (p l : List UInt8) (c : Co) (i : Nat) : labC (p ++ l) (mv p.length c) (p.length + i) = sC p.length (labC l c i) := by
  unfold labC
  rw [show (mv p.length c).pl = p.length + c.pl from rfl, sh_lab]
  show _ = sC p.length (match labR l c.nm c.pl i with | .error x => _ | .ok (t, k) => _)
  rw [show (mv p.length c).nm = c.nm from rfl]
  cases labR l c.nm c.pl i <;> rfl
theorem sh_filC (p l : List UInt8) (c : Co) (i : Nat) : filC (p ++ l) (mv p.length c) (p.length + i) = sC p.length (filC l c i) := by
  unfold filC
  rw [show (mv p.length c).pl = p.length + c.pl from rfl, sh_fil]
  cases filR l c.pl i <;> rfl
theorem sh_endC (p l : List UInt8) (c : Co) (i : Nat) : endC (p ++ l) (mv p.length c) (p.length + i) = sC p.length (endC l c i) := by
  unfold endC
  rw [sh_end]
  cases endR l i <;> rfl
theorem sh_flg (p l : List UInt8) : ∀ (n : Nat) (c : Co) (i : Nat), flgR (p ++ l) n (mv p.length c) (p.length + i) = sC p.length (flgR l n c i)
  | 0, c, i => rfl
  | n + 1, c, i => by
    have h1 := sh_flg p l n { c with an := true } (i + 1)
    have h2 := sh_flg p l n { c with pr := true } (i + 1)
    have h3 := sh_flg p l n { c with nh := (numR l i).1 } (numR l i).2.1
    unfold flgR
    simp only [sh_mt, sh_num]
    split
    · rw [show (mv p.length c).an = c.an from rfl]
      split
      · rfl
      · exact h1
    · split
      · rw [show (mv p.length c).pr = c.pr from rfl]
        split
        · rfl
        · exact h2
      · split
        · rw [show (mv p.length c).nh = c.nh from rfl]
          split
          · rfl
          · rename_i hn
            have he : (numR l i).2.2 = 0 := Decidable.not_not.1 fun e => hn (.inr (.inl e))
            rw [if_pos he]
            exact h3
        · split
          · rw [Nat.add_assoc]; exact sh_filC p l c (i + 1)
          · exact sh_endC p l c i

end Go.Proofs.YtjfkhlmoppbbgaaGreatDoor

/- script, pure: commands further on; fuel makes no difference. -/
namespace Go.Proofs.YtjfkhlmoppbbgaaGreatDoor
open scanP scrP tpl ytb

/-- Fuel that is more than what is left makes no difference. -/
theorem flg_fuel (l : List UInt8) : ∀ (n : Nat) (c : Co) (i : Nat), i ≤ l.length → l.length < n + i → flgR l (n + 1) c i = flgR l n c i
  | 0, c, i, h0, h => by omega
  | n + 1, c, i, h0, h => by
    rw [flgR.eq_def l (n + 1 + 1), flgR.eq_def l (n + 1)]
    simp only
    split
    · rename_i hm
      split
      · rfl
      · exact flg_fuel l n _ _ (mt_lt hm) (by omega)
    · split
      · rename_i hm
        split
        · rfl
        · exact flg_fuel l n _ _ (mt_lt hm) (by omega)
      · split
        · split
          · rfl
          · rename_i hn
            have he : (numR l i).2.2 = 0 := Decidable.not_not.1 fun e => hn (.inr (.inl e))
            have := num_gt he
            exact flg_fuel l n _ _ (num_len h0 he) (by omega)
        · rfl
theorem flg_more (l : List UInt8) (c : Co) (i : Nat) (h0 : i ≤ l.length) : ∀ n, flgR l (l.length + 1 + n) c i = flgR l (l.length + 1) c i
  | 0 => rfl
  | n + 1 => by rw [← Nat.add_assoc, flg_fuel l _ c i h0 (by omega), flg_more l c i h0 n]
theorem sh_grp (G : Gr) (n : Nat) (t : List UInt8) (q : Nat) : grpR G t (n + q) = (match grpR G t q with | .error (e, p) => .error (e, n + p) | .ok g => .ok g) := by
  unfold grpR
  split <;> rfl
theorem sh_sed (G : Gr) (p l : List UInt8) (c : Co) (i : Nat) : sedR G (p ++ l) (mv p.length c) (p.length + i) = sC p.length (sedR G l c i) := by
  unfold sedR
  rw [show (mv p.length c).pl = p.length + c.pl from rfl, sh_del]
  cases hd : delR l i 19 c.pl with
  | error x => rfl
  | ok x =>
    obtain ⟨d, j⟩ := x
    obtain ⟨_, hj, _⟩ := del_len hd
    simp only [sE]
    rw [sh_pie]
    cases hp : pieR l j d false c.pl with
    | error x => rfl
    | ok x =>
      obtain ⟨t, k⟩ := x
      have hk := (pie_len hp hj).2
      simp only [sE]
      rw [sh_pie]
      cases hu : pieR l k d true c.pl with
      | error x => rfl
      | ok x =>
        obtain ⟨u, m⟩ := x
        have hm := (pie_len hu hk).2
        simp only [sE]
        rw [sh_grp]
        cases hg : grpR G t c.pl with
        | error x => rfl
        | ok g =>
          simp only
          split
          · rfl
          · split
            · rfl
            · have e := sh_flg p l (l.length + 1 + p.length) { c with re := t, ps := (parseR u).1.ps } m
              rw [flg_more l _ m hm] at e
              have e2 : (p ++ l).length + 1 = l.length + 1 + p.length := by rw [List.length_append]; omega
              rw [e2]
              show (match flgR (p ++ l) (l.length + 1 + p.length) (mv p.length { c with re := t, ps := (parseR u).1.ps }) (p.length + m) with | .error x => (.error x : Rd (Co × Nat)) | .ok (c, k) => .ok ({ c with nh := max c.nh 1 }, k)) = _
              rw [e]
              cases flgR l (l.length + 1) { c with re := t, ps := (parseR u).1.ps } m <;> rfl
theorem sh_sid (p l : List UInt8) (d : UInt8) (q i : Nat) : sidR (p ++ l) d (p.length + q) (p.length + i) = sE p.length (sidR l d q i) := by
  unfold sidR
  rw [sh_pie]
  cases pieR l i d false q with
  | error x => rfl
  | ok x =>
    obtain ⟨t, k⟩ := x
    simp only [sE]
    split <;> rfl
theorem sh_tab (p l : List UInt8) (c : Co) (i : Nat) : tabR (p ++ l) (mv p.length c) (p.length + i) = sC p.length (tabR l c i) := by
  unfold tabR
  rw [show (mv p.length c).pl = p.length + c.pl from rfl, sh_del]
  cases delR l i 19 c.pl with
  | error x => rfl
  | ok x =>
    obtain ⟨d, j⟩ := x
    simp only [sE]
    rw [sh_sid]
    cases sidR l d c.pl j with
    | error x => rfl
    | ok x =>
      obtain ⟨t, k⟩ := x
      simp only [sE]
      rw [sh_sid]
      cases sidR l d c.pl k with
      | error x => rfl
      | ok x =>
        obtain ⟨u, m⟩ := x
        simp only [sE]
        split <;> rfl
theorem sh_rst (G : Gr) (p l : List UInt8) (c : Co) (i : Nat) : rstR G (p ++ l) (mv p.length c) (p.length + i) = sC p.length (rstR G l c i) := by
  unfold rstR
  rw [show (mv p.length c).nm = c.nm from rfl]
  split
  · rfl
  · split
    · exact sh_txtC p l c i
    · split
      · exact sh_labC p l c i
      · split
        · exact sh_filC p l c i
        · split
          · exact sh_sed G p l c i
          · split
            · rw [sh_tab]
              cases tabR l c i with
              | error x => rfl
              | ok x =>
                obtain ⟨c2, k⟩ := x
                exact sh_endC p l c2 k
            · split
              · exact sh_endC p l c i
              · rfl
theorem sh_not (p l : List UInt8) (i : Nat) : notR (p ++ l) (p.length + i) = ((notR l i).1, p.length + (notR l i).2) := by
  unfold notR
  simp only [sh_blanks, sh_mt, Nat.add_assoc]
  split <;> rfl
theorem sh_cmd (G : Gr) (p l : List UInt8) (i : Nat) : cmdR G (p ++ l) (p.length + i) = sC p.length (cmdR G l i) := by
  unfold cmdR
  rw [sh_two]
  cases twoA G l i with
  | error x => rfl
  | ok x =>
    obtain ⟨a, b, k⟩ := x
    simp only [sT]
    rw [sh_not]
    simp only
    rw [sh_get]
    split
    · rfl
    · rename_i nm _
      rw [Nat.add_assoc]
      exact sh_rst G p l { co0 with pl := (notR l k).2, a := a, b := b, nt := (notR l k).1, nm := nm } ((notR l k).2 + 1)
theorem sh_cms (p l : List UInt8) : ∀ (n i : Nat), cmsR (p ++ l) n (p.length + i) = (cmsR l n i).map (p.length + ·)
  | 0, i => rfl
  | n + 1, i => by
    have h1 := sh_cms p l n (i + 1)
    have h2 := sh_cms p l n (lineR l i).2
    unfold cmsR
    simp only [sh_mt, List.length_append, Nat.add_le_add_iff_left]
    split
    · rfl
    · split
      · exact h1
      · split
        · rw [sh_line]; exact h2
        · rfl
theorem lin_gt35 {l : List UInt8} {i : Nat} (hi : mtB l i [35] = true) : i < (lineR l i).2 := by
  have hl := mt_lt hi
  unfold mtB at hi
  rw [List.getElem?_eq_getElem hl] at hi
  have hc : l[i] = 35 := by simpa using hi
  unfold lineR
  have hb : blanksN l i = i := by
    unfold blanksN
    rw [blk_step hl, if_neg (by rw [hc]; decide)]
    rfl
  simp only [hb]
  rw [ln_step hl, if_neg (by rw [hc]; decide)]
  omega
theorem cms_fuel (l : List UInt8) : ∀ (n i : Nat), i ≤ l.length → l.length < n + i → cmsR l (n + 1) i = cmsR l n i
  | 0, i, h0, h => by omega
  | n + 1, i, h0, h => by
    rw [cmsR.eq_def l (n + 1 + 1), cmsR.eq_def l (n + 1)]
    simp only
    split
    · rfl
    · split
      · rename_i hm
        exact cms_fuel l n _ (mt_lt hm) (by omega)
      · split
        · rename_i hm
          have := lin_gt35 hm
          exact cms_fuel l n _ (lin_le h0) (by omega)
        · rfl
theorem cms_more (l : List UInt8) (i : Nat) (h0 : i ≤ l.length) : ∀ n, cmsR l (l.length + 1 + n) i = cmsR l (l.length + 1) i
  | 0 => rfl
  | n + 1 => by rw [← Nat.add_assoc, cms_fuel l _ i h0 (by omega), cms_more l i h0 n]
/-- The place of the next command, and how it goes on. -/
def cmF (l : List UInt8) (i : Nat) : Option Nat := cmsR l (l.length + 1) i
theorem cmF_eq (l : List UInt8) (i : Nat) (h0 : i ≤ l.length) : cmF l i = if l.length ≤ i then none else if mtB l i [32, 9, 10, 59] then cmF l (i + 1) else if mtB l i [35] then cmF l (lineR l i).2 else some i := by
  unfold cmF
  rw [cmsR.eq_def]
  simp only
  split
  · rfl
  · split
    · rename_i hm; have := mt_lt hm; exact (cms_fuel l _ _ this (by omega)).symm
    · split
      · rename_i hm; have := lin_gt35 hm; exact (cms_fuel l _ _ (lin_le h0) (by omega)).symm
      · rfl
theorem sh_cmF (p l : List UInt8) (i : Nat) (h0 : i ≤ l.length) : cmF (p ++ l) (p.length + i) = (cmF l i).map (p.length + ·) := by
  unfold cmF
  rw [sh_cms, show (p ++ l).length + 1 = l.length + 1 + p.length by rw [List.length_append]; omega, cms_more l i h0]
theorem all_fuel (G : Gr) (l : List UInt8) : ∀ (n i : Nat) (acc : List Co), i ≤ l.length → l.length < n + i → allR G l (n + 1) i acc = allR G l n i acc
  | 0, i, acc, h0, h => by omega
  | n + 1, i, acc, h0, h => by
    rw [allR.eq_def G l (n + 1 + 1), allR.eq_def G l (n + 1)]
    simp only
    split
    · rfl
    · rename_i k hk
      have h1 := cms_in _ h0 hk
      split
      · rfl
      · rename_i c m hc
        have h2 := cmd_fw hc
        exact all_fuel G l n _ _ h2.2 (by omega)
theorem all_more (G : Gr) (l : List UInt8) (i : Nat) (acc : List Co) (h0 : i ≤ l.length) : ∀ n, allR G l (l.length + 1 + n) i acc = allR G l (l.length + 1) i acc
  | 0 => rfl
  | n + 1 => by rw [← Nat.add_assoc, all_fuel G l _ i acc h0 (by omega), all_more G l i acc h0 n]
def alF (G : Gr) (l : List UInt8) (i : Nat) (acc : List Co) : Rd (List Co) := allR G l (l.length + 1) i acc
theorem alF_eq (G : Gr) (l : List UInt8) (i : Nat) (acc : List Co) (h0 : i ≤ l.length) : alF G l i acc = match cmF l i with
    | none => .ok acc
    | some k => match cmdR G l k with
      | .error x => .error x
      | .ok (c, m) => alF G l m (acc ++ [c]) := by
  unfold alF
  rw [allR.eq_def]
  simp only
  show (match cmF l i with | none => _ | some k => _) = _
  cases hk : cmF l i with
  | none => rfl
  | some k =>
    have h1 := cms_in _ h0 hk
    simp only
    cases hc : cmdR G l k with
    | error x => rfl
    | ok x =>
      obtain ⟨c, m⟩ := x
      have h2 := cmd_fw hc
      exact (all_fuel G l l.length _ _ h2.2 (by omega)).symm
def sL (n : Nat) (acc : List Co) : Rd (List Co) → Rd (List Co)
  | .error (e, p) => .error (e, n + p)
  | .ok cs => .ok (acc ++ cs.map (mv n))
theorem all_acc (G : Gr) (l : List UInt8) : ∀ (n i : Nat) (a b : List Co), allR G l n i (a ++ b) = (match allR G l n i b with | .error x => .error x | .ok cs => .ok (a ++ cs))
  | 0, i, a, b => rfl
  | n + 1, i, a, b => by
    unfold allR
    split
    · rfl
    · split
      · rfl
      · rw [List.append_assoc]
        exact all_acc G l n _ a _
theorem sh_all (G : Gr) (p l : List UInt8) (acc : List Co) : ∀ (n i : Nat) (b : List Co), i ≤ l.length → allR G (p ++ l) n (p.length + i) (acc ++ b.map (mv p.length)) = sL p.length acc (allR G l n i b)
  | 0, i, b, _ => rfl
  | n + 1, i, b, h0 => by
    rw [allR.eq_def G (p ++ l), allR.eq_def G l]
    simp only
    have e := sh_cmF p l i h0
    unfold cmF at e
    rw [e]
    cases hk : cmsR l (l.length + 1) i with
    | none => rfl
    | some k =>
      simp only [Option.map]
      rw [sh_cmd]
      cases hc : cmdR G l k with
      | error x => rfl
      | ok x =>
        obtain ⟨c, m⟩ := x
        simp only [sC]
        have ih := sh_all G p l acc n m (b ++ [c]) (cmd_fw hc).2
        rw [List.map_append, ← List.append_assoc] at ih
        exact ih
theorem sh_alF (G : Gr) (p l : List UInt8) (acc : List Co) (i : Nat) (h0 : i ≤ l.length) : alF G (p ++ l) (p.length + i) acc = sL p.length acc (alF G l i []) := by
  unfold alF
  have h := sh_all G p l acc ((p ++ l).length + 1) i [] h0
  rw [List.map_nil, List.append_nil] at h
  rw [h, show (p ++ l).length + 1 = l.length + 1 + p.length by rw [List.length_append]; omega, all_more G l i [] h0]

end Go.Proofs.YtjfkhlmoppbbgaaGreatDoor

/- script, pure: what stands behind a newline is not looked at. -/
namespace Go.Proofs.YtjfkhlmoppbbgaaGreatDoor
open scanP scrP tpl ytb

theorem px_get (l r : List UInt8) {i : Nat} (h : i < l.length) : (l ++ 10 :: r)[i]? = l[i]? := List.getElem?_append_left h
theorem px_end (l r : List UInt8) : (l ++ 10 :: r)[l.length]? = some 10 := by rw [List.getElem?_append_right (Nat.le_refl _), Nat.sub_self]; rfl
theorem px_drop (l r : List UInt8) {i : Nat} (h : i ≤ l.length) : (l ++ 10 :: r).drop i = l.drop i ++ 10 :: r := List.drop_append_of_le_length h
theorem px_mtN (l r S : List UInt8) {i : Nat} (h : i < l.length) : mtB (l ++ 10 :: r) i S = mtB l i S := by
  unfold mtB; rw [px_get l r h]
theorem px_mt (l r S : List UInt8) (hS : S.contains 10 = false) {i : Nat} (h : i ≤ l.length) : mtB (l ++ 10 :: r) i S = mtB l i S := by
  rcases Nat.lt_or_ge i l.length with h1 | h1
  · exact px_mtN l r S h1
  · obtain rfl : i = l.length := by omega
    unfold mtB
    rw [px_end, List.getElem?_eq_none h1]
    exact hS
theorem px_blk (r : List UInt8) : ∀ x : List UInt8, blkN (x ++ 10 :: r) = blkN x
  | [] => rfl
  | b :: x => by rw [List.cons_append, blkN, blkN, px_blk r x]
theorem px_blanks (l r : List UInt8) {i : Nat} (h : i ≤ l.length) : blanksN (l ++ 10 :: r) i = blanksN l i := by
  unfold blanksN; rw [px_drop l r h, px_blk]
theorem px_dg (r : List UInt8) : ∀ x : List UInt8, dgN (x ++ 10 :: r) = dgN x
  | [] => rfl
  | b :: x => by rw [List.cons_append, dgN, dgN, px_dg r x]
theorem px_num (l r : List UInt8) {i : Nat} (h : i ≤ l.length) : numR (l ++ 10 :: r) i = numR l i := by
  unfold numR
  simp only [px_drop l r h, px_dg]
  rw [List.take_append_of_le_length (dg_le _)]
theorem px_un (d : UInt8) (ln : Bool) (y : List UInt8) : ∀ (x : List UInt8) (p : Nat) (t : List UInt8), (unR d ln x p t).2.2 = 0 → unR d ln (x ++ y) p t = unR d ln x p t
  | [], p, t => by simp [unR]
  | [b], p, t => by
    by_cases e : b = d
    · intro _
      cases y with
      | nil => rfl
      | cons c y => simp [unR, e]
    · simp [unR, e]
  | b :: c :: x, p, t => by
    have h1 := px_un d ln y (c :: x) (p + 1) (t ++ [b])
    have h2 := px_un d ln y x (p + 2) (t ++ ((if keptB d c then [92] else []) ++ [c]))
    rw [List.cons_append, List.cons_append, unR, unR]
    split
    · intro _; rfl
    · split
      · intro _; rfl
      · split
        · exact h1
        · split
          · intro _; rfl
          · exact h2
theorem px_pie (l r : List UInt8) {i p k : Nat} {d : UInt8} {ln : Bool} {t : List UInt8} (h : pieR l i d ln p = .ok (t, k)) : pieR (l ++ 10 :: r) i d ln p = .ok (t, k) := by
  have e : (untilR l i d ln).2.2 = 0 → untilR (l ++ 10 :: r) i d ln = untilR l i d ln := by
    unfold untilR
    split
    · simp
    · rename_i hn
      have hi : i ≤ l.length := by
        have := fun x => hn (.inr (.inl x))
        omega
      rw [if_neg (by
        rintro (h | h | h)
        · exact hn (.inl h)
        · rw [List.length_append] at h; omega
        · exact hn (.inr (.inr h))), Int.toNat_natCast, px_drop l r hi]
      exact px_un d ln _ _ _ _
  unfold pieR at h ⊢
  split at h
  · rename_i h0
    rw [e h0, if_pos h0]
    exact h
  · cases h
theorem px_del (l r : List UInt8) {i e p k : Nat} {d : UInt8} (h : delR l i e p = .ok (d, k)) : delR (l ++ 10 :: r) i e p = .ok (d, k) := by
  obtain ⟨h1, h2, _⟩ := del_len h
  unfold delR at h ⊢
  rw [px_get l r (by omega)]
  exact h
theorem px_mat (G : Gr) (l r : List UInt8) {p i : Nat} {x : Adr × Nat} (h : matR G l p i = .ok x) : matR G (l ++ 10 :: r) p i = .ok x := by
  unfold matR at h ⊢
  split at h
  · cases h
  · rename_i d j hd
    rw [px_del l r hd]
    simp only
    split at h
    · cases h
    · rename_i t k hp
      rw [px_pie l r hp]
      exact h
theorem px_one (G : Gr) (l r : List UInt8) {i : Nat} {x : Adr × Nat} (hi : i ≤ l.length) (h : oneA G l i = .ok x) : oneA G (l ++ 10 :: r) i = .ok x := by
  unfold oneA at h ⊢
  rw [px_mt l r dgS (by decide) hi, px_mt l r [36] (by decide) hi, px_mt l r [47] (by decide) hi, px_mt l r [92] (by decide) hi]
  split at h
  · rename_i hm
    rw [if_pos hm]
    unfold linR at h ⊢
    rw [px_num l r hi]
    exact h
  · rename_i hm
    rw [if_neg hm]
    split at h
    · rename_i hm; rw [if_pos hm]; exact h
    · rename_i hm
      rw [if_neg hm]
      split at h
      · rename_i hm; rw [if_pos hm]; exact px_mat G l r h
      · rename_i hm
        rw [if_neg hm]
        split at h
        · rename_i hm; rw [if_pos hm]; exact px_mat G l r h
        · rename_i hm; rw [if_neg hm]; exact h
theorem px_two (G : Gr) (l r : List UInt8) {i : Nat} {x : Adr × Adr × Nat} (hi : i ≤ l.length) (h : twoA G l i = .ok x) : twoA G (l ++ 10 :: r) i = .ok x := by
  unfold twoA at h ⊢
  split at h
  · cases h
  · rename_i a k ho
    have hk := one_len ho hi
    have hbk := blanks_le l k hk
    rw [px_one G l r hi ho]
    simp only
    split at h
    · rename_i h0; rw [if_pos h0]; exact h
    · rename_i h0
      rw [if_neg h0, px_blanks l r hk, px_mt l r [44] (by decide) hbk]
      split at h
      · rename_i hm
        have hl := mt_lt hm
        rw [if_pos hm, px_blanks l r (by omega)]
        split at h
        · cases h
        · rename_i b m hb
          rw [px_one G l r (blanks_le l _ (by omega)) hb]
          exact h
      · rename_i hm; rw [if_neg hm]; exact h
theorem px_endR (l r : List UInt8) {i k : Nat} (hi : i ≤ l.length) (h : endR l i = .ok k) : endR (l ++ 10 :: r) i = .ok k := by
  unfold endR at h ⊢
  rw [px_blanks l r hi]
  have hb := blanks_le l i hi
  split at h
  · rename_i hc
    rw [if_pos]
    · exact h
    · right
      rcases hc with hc | hc
      · rw [hc]; unfold mtB; rw [px_end]; rfl
      · rw [px_mtN l r _ (mt_lt hc)]; exact hc
  · cases h
theorem px_endC (l r : List UInt8) {i : Nat} {c : Co} {x : Co × Nat} (hi : i ≤ l.length) (h : endC l c i = .ok x) : endC (l ++ 10 :: r) c i = .ok x := by
  unfold endC at h ⊢
  split at h
  · cases h
  · rename_i k hk
    rw [px_endR l r hi hk]
    exact h
theorem px_ln (r : List UInt8) : ∀ x : List UInt8, lnN (x ++ 10 :: r) = lnN x
  | [] => rfl
  | b :: x => by rw [List.cons_append, lnN, lnN, px_ln r x]
theorem px_wd (r : List UInt8) : ∀ x : List UInt8, wdN (x ++ 10 :: r) = wdN x
  | [] => rfl
  | b :: x => by rw [List.cons_append, wdN, wdN, px_wd r x]
theorem px_rt (x y : List UInt8) : ∀ n, n ≤ x.length → rtN n (x ++ y) = rtN n x
  | 0, _ => rfl
  | n + 1, h => by rw [rtN, rtN, List.getElem?_append_left (by omega), px_rt x y n (by omega)]
theorem px_line (l r : List UInt8) {i : Nat} (hi : i ≤ l.length) : lineR (l ++ 10 :: r) i = lineR l i := by
  unfold lineR
  simp only [px_blanks l r hi, px_drop l r (blanks_le l i hi), px_ln]
  rw [List.take_append_of_le_length (ln_le _)]
theorem px_word (l r : List UInt8) {i : Nat} (hi : i ≤ l.length) : wordR (l ++ 10 :: r) i = wordR l i := by
  unfold wordR
  have h1 := wd_le (l.drop (blanksN l i))
  have h2 := ln_le (l.drop (blanksN l i))
  have h3 := rt_le (wdN (l.drop (blanksN l i))) (l.drop (blanksN l i))
  simp only [px_blanks l r hi, px_drop l r (blanks_le l i hi), px_wd]
  rw [px_rt _ _ _ (by omega), List.take_append_of_le_length (by omega)]
theorem px_filC (l r : List UInt8) {i : Nat} (c : Co) (hi : i ≤ l.length) : filC (l ++ 10 :: r) c i = filC l c i := by
  unfold filC filR; rw [px_line l r hi]
theorem px_labC (l r : List UInt8) {i : Nat} (c : Co) (hi : i ≤ l.length) : labC (l ++ 10 :: r) c i = labC l c i := by
  unfold labC labR; rw [px_word l r hi]
/-- Where reading goes on: at the same place, or, at the end, behind the newline. -/
def Nx (l : List UInt8) (k k' : Nat) : Prop := k' = k ∨ k = l.length ∧ k' = l.length + 1
theorem px_tx (r : List UInt8) : ∀ (x : List UInt8) (p : Nat) (t : List UInt8), (txR x p t).2.2 = 0 → ∃ k', txR (x ++ 10 :: r) p t = ((txR x p t).1, k', 0) ∧ (k' = (txR x p t).2.1 ∨ (txR x p t).2.1 = p + x.length ∧ k' = p + x.length + 1)
  | [], p, t => by
    intro _
    refine ⟨p + 1, ?_, .inr ⟨rfl, rfl⟩⟩
    cases r <;> simp [txR]
  | [b], p, t => by
    by_cases e : b = 10
    · intro _
      refine ⟨p + 1, ?_, .inl ?_⟩ <;> simp [txR, e]
    · by_cases e2 : b = 92
      · simp [txR, e2]
      · intro _
        refine ⟨p + 2, ?_, .inr ?_⟩
        · rw [List.singleton_append, txR, if_neg e, if_neg e2]
          cases r <;> simp [txR, e, e2]
        · simp [txR, e, e2]
  | b :: c :: x, p, t => by
    have h1 := px_tx r (c :: x) (p + 1) (t ++ [b])
    have h2 := px_tx r x (p + 2) (t ++ [c])
    rw [List.cons_append, List.cons_append, txR, txR]
    split
    · intro _; exact ⟨p + 1, rfl, .inl rfl⟩
    · split
      · intro h
        obtain ⟨k', e, hk⟩ := h2 h
        refine ⟨k', e, ?_⟩
        simp only [List.length_cons]
        omega
      · intro h
        obtain ⟨k', e, hk⟩ := h1 h
        refine ⟨k', e, ?_⟩
        simp only [List.length_cons] at hk ⊢
        omega
theorem px_txt (l r : List UInt8) {p i k : Nat} {t : List UInt8} (hi : i ≤ l.length) (h : txtR l p i = .ok (t, k)) : ∃ k', txtR (l ++ 10 :: r) p i = .ok (t, k') ∧ Nx l k k' := by
  unfold txtR at h ⊢
  split at h
  · rename_i he
    cases h
    have hb := blanks_le l i hi
    unfold scanP.textR at he ⊢
    simp only [px_blanks l r hi, px_drop l r hb] at he ⊢
    generalize blanksN l i = j at *
    cases hd : l.drop j with
    | nil => rw [hd] at he; simp at he
    | cons b x =>
      cases x with
      | nil => rw [hd] at he; simp at he
      | cons c q =>
        have hlen : q.length + 2 = l.length - j := by
          have := congrArg List.length hd
          rw [List.length_drop] at this
          simp only [List.length_cons] at this
          omega
        rw [hd] at he
        simp only [List.cons_append] at he ⊢
        split at he
        · rename_i hc
          split at he
          · simp at he
          · rename_i hq
            have hq2 : q ++ 10 :: r ≠ [] := by cases q <;> simp
            obtain ⟨k', e, hk⟩ := px_tx r q (j + 2) [] he
            simp only [if_pos hc, if_neg hq, if_neg hq2, e]
            refine ⟨k', rfl, ?_⟩
            unfold Nx
            omega
        · simp at he
  · cases h
theorem px_txtC (l r : List UInt8) {i k : Nat} {c c' : Co} (hi : i ≤ l.length) (h : txtC l c i = .ok (c', k)) : ∃ k', txtC (l ++ 10 :: r) c i = .ok (c', k') ∧ Nx l k k' := by
  unfold txtC at h ⊢
  split at h
  · cases h
  · rename_i t m ht
    cases h
    obtain ⟨k', e, hk⟩ := px_txt l r hi ht
    rw [e]
    exact ⟨k', rfl, hk⟩
theorem px_flg (l r : List UInt8) : ∀ (n : Nat) {c : Co} {i : Nat} {x : Co × Nat}, i ≤ l.length → l.length < n + i → flgR l n c i = .ok x → flgR (l ++ 10 :: r) n c i = .ok x
  | 0, c, i, x, h0, hn, h => by omega
  | n + 1, c, i, x, h0, hn, h => by
    unfold flgR at h ⊢
    rw [px_mt l r [103] (by decide) h0, px_mt l r [112] (by decide) h0, px_mt l r dgS (by decide) h0, px_mt l r [119] (by decide) h0]
    split at h
    · rename_i hm
      rw [if_pos hm]
      split at h
      · cases h
      · rename_i ha
        rw [if_neg ha]
        exact px_flg l r n (mt_lt hm) (by omega) h
    · rename_i hm
      rw [if_neg hm]
      split at h
      · rename_i hm
        rw [if_pos hm]
        split at h
        · cases h
        · rename_i ha
          rw [if_neg ha]
          exact px_flg l r n (mt_lt hm) (by omega) h
      · rename_i hm
        rw [if_neg hm]
        split at h
        · rename_i hm
          rw [if_pos hm, px_num l r h0]
          split at h
          · cases h
          · rename_i ha
            have he : (numR l i).2.2 = 0 := Decidable.not_not.1 fun e => ha (.inr (.inl e))
            have := num_gt he
            rw [if_neg ha]
            exact px_flg l r n (num_len h0 he) (by omega) h
        · rename_i hm
          rw [if_neg hm]
          split at h
          · rename_i hm
            rw [if_pos hm, px_filC l r c (mt_lt hm)]
            exact h
          · rename_i hm
            rw [if_neg hm]
            exact px_endC l r h0 h
theorem px_sed (G : Gr) (l r : List UInt8) {c : Co} {i : Nat} {x : Co × Nat} (h : sedR G l c i = .ok x) : sedR G (l ++ 10 :: r) c i = .ok x := by
  unfold sedR at h ⊢
  split at h
  · cases h
  · rename_i d j hd
    rw [px_del l r hd]
    have hj := (del_len hd).2.1
    simp only
    split at h
    · cases h
    · rename_i t k hp
      rw [px_pie l r hp]
      have hk := (pie_len hp hj).2
      simp only
      split at h
      · cases h
      · rename_i u m hu
        rw [px_pie l r hu]
        have hm := (pie_len hu hk).2
        simp only
        split at h
        · cases h
        · rename_i g hg
          split at h
          · cases h
          · rename_i h1
            split at h
            · cases h
            · rename_i h2

              simp only [if_neg h1, if_neg h2]
              split at h
              · cases h
              · rename_i c2 k2 hf
                have e1 := flg_more l { c with re := t, ps := (parseR u).1.ps } m hm (r.length + 1)
                rw [hf] at e1
                have e2 := px_flg l r _ hm (by omega) e1
                rw [show (l ++ 10 :: r).length + 1 = l.length + 1 + (r.length + 1) by rw [List.length_append, List.length_cons]; omega, e2]
                exact h
theorem px_sid (l r : List UInt8) {d : UInt8} {p i : Nat} {x : List UInt8 × Nat} (h : sidR l d p i = .ok x) : sidR (l ++ 10 :: r) d p i = .ok x := by
  unfold sidR at h ⊢
  split at h
  · cases h
  · rename_i t k hp
    rw [px_pie l r hp]
    exact h
theorem px_tab (l r : List UInt8) {c : Co} {i : Nat} {x : Co × Nat} (h : tabR l c i = .ok x) : tabR (l ++ 10 :: r) c i = .ok x := by
  unfold tabR at h ⊢
  split at h
  · cases h
  · rename_i d j hd
    rw [px_del l r hd]
    simp only
    split at h
    · cases h
    · rename_i t k hp
      rw [px_sid l r hp]
      simp only
      split at h
      · cases h
      · rename_i u m hu
        rw [px_sid l r hu]
        exact h
theorem px_rst (G : Gr) (l r : List UInt8) {c c' : Co} {i k : Nat} (hi : i ≤ l.length) (h : rstR G l c i = .ok (c', k)) : ∃ k', rstR G (l ++ 10 :: r) c i = .ok (c', k') ∧ Nx l k k' := by
  unfold rstR at h ⊢
  split at h
  · rename_i h1; rw [if_pos h1]; exact ⟨k, h, .inl rfl⟩
  · rename_i h1
    rw [if_neg h1]
    split at h
    · rename_i h1; rw [if_pos h1]; exact px_txtC l r hi h
    · rename_i h1
      rw [if_neg h1]
      split at h
      · rename_i h1; rw [if_pos h1, px_labC l r c hi]; exact ⟨k, h, .inl rfl⟩
      · rename_i h1
        rw [if_neg h1]
        split at h
        · rename_i h1; rw [if_pos h1, px_filC l r c hi]; exact ⟨k, h, .inl rfl⟩
        · rename_i h1
          rw [if_neg h1]
          split at h
          · rename_i h1; rw [if_pos h1]; exact ⟨k, px_sed G l r h, .inl rfl⟩
          · rename_i h1
            rw [if_neg h1]
            split at h
            · rename_i h1
              rw [if_pos h1]
              split at h
              · cases h
              · rename_i c2 k2 ht
                rw [px_tab l r ht]
                exact ⟨k, px_endC l r (tab_len ht) h, .inl rfl⟩
            · rename_i h1
              rw [if_neg h1]
              split at h
              · rename_i h1; rw [if_pos h1]; exact ⟨k, px_endC l r hi h, .inl rfl⟩
              · cases h
theorem not_le {l : List UInt8} {i : Nat} (hi : i ≤ l.length) : (notR l i).2 ≤ l.length := by
  have h := blanks_le l i hi
  unfold notR
  split
  · rename_i hm
    exact blanks_le l _ (mt_lt hm)
  · exact h
theorem px_not (l r : List UInt8) {i : Nat} (hi : i ≤ l.length) : notR (l ++ 10 :: r) i = notR l i := by
  have h := blanks_le l i hi
  unfold notR
  rw [px_blanks l r hi, px_mt l r [33] (by decide) h]
  split
  · rename_i hm
    rw [px_blanks l r (mt_lt hm)]
  · rfl
theorem px_cmd (G : Gr) (l r : List UInt8) {c : Co} {i k : Nat} (hi : i ≤ l.length) (h : cmdR G l i = .ok (c, k)) : ∃ k', cmdR G (l ++ 10 :: r) i = .ok (c, k') ∧ Nx l k k' := by
  unfold cmdR at h ⊢
  split at h
  · cases h
  · rename_i a b m ht
    have hm := two_len ht hi
    rw [px_two G l r hi ht]
    simp only [px_not l r hm]
    split at h
    · cases h
    · rename_i nm hn
      have hlt := (List.getElem?_eq_some_iff.1 hn).1
      rw [px_get l r hlt, hn]
      exact px_rst G l r hlt h
theorem px_cms (l r : List UInt8) : ∀ (n i : Nat), i ≤ l.length → l.length < n + i → ∀ o, cmsR l n i = o → cmF (l ++ 10 :: r) i = (match o with | some k => some k | none => cmF (l ++ 10 :: r) (l.length + 1))
  | 0, i, h0, hn, o, h => by omega
  | n + 1, i, h0, hn, o, h => by
    have hL : (l ++ 10 :: r).length = l.length + 1 + r.length := by rw [List.length_append, List.length_cons]; omega
    unfold cmsR at h
    split at h
    · obtain rfl : i = l.length := by omega
      subst h
      have hm : mtB (l ++ 10 :: r) l.length [32, 9, 10, 59] = true := by unfold mtB; rw [px_end]; rfl
      rw [cmF_eq _ _ (by omega), if_neg (by omega), if_pos hm]
    · rw [cmF_eq _ _ (by omega), if_neg (by omega), px_mtN l r _ (by omega), px_mtN l r _ (by omega)]
      split at h
      · rename_i hm
        rw [if_pos hm]
        exact px_cms l r n (i + 1) (mt_lt hm) (by omega) o h
      · rename_i hm
        rw [if_neg hm]
        split at h
        · rename_i hm
          have := lin_gt35 hm
          rw [if_pos hm, px_line l r h0]
          exact px_cms l r n _ (lin_le h0) (by omega) o h
        · rename_i hm
          rw [if_neg hm, ← h]
theorem px_all (G : Gr) (l r : List UInt8) : ∀ (n i : Nat) (acc cs : List Co), i ≤ l.length → l.length < n + i → allR G l n i acc = .ok cs → alF G (l ++ 10 :: r) i acc = alF G (l ++ 10 :: r) (l.length + 1) cs
  | 0, i, acc, cs, h0, hn, h => by omega
  | n + 1, i, acc, cs, h0, hn, h => by
    have hL : (l ++ 10 :: r).length = l.length + 1 + r.length := by rw [List.length_append, List.length_cons]; omega
    unfold allR at h
    have hx := px_cms l r (l.length + 1) i h0 (by omega) _ rfl
    split at h
    · rename_i hk
      cases h
      rw [hk] at hx
      simp only at hx
      rw [alF_eq G _ i acc (by omega), alF_eq G _ (l.length + 1) acc (by omega), hx]
    · rename_i k hk
      have h1 := cms_in _ h0 hk
      rw [hk] at hx
      simp only at hx
      rw [alF_eq G _ i acc (by omega), hx]
      simp only
      split at h
      · cases h
      · rename_i c m hc
        have h2 := cmd_fw hc
        obtain ⟨k', e, hnx⟩ := px_cmd G l r (by omega) hc
        rw [e]
        simp only
        rcases hnx with rfl | ⟨hm, rfl⟩
        · exact px_all G l r n _ _ _ h2.2 (by omega) h
        · have h3 : allR G l n l.length (acc ++ [c]) = .ok (acc ++ [c]) := by
            cases n with
            | zero => rfl
            | succ n =>
              unfold allR
              have : cmsR l (l.length + 1) l.length = none := by unfold cmsR; rw [if_pos (Nat.le_refl _)]
              rw [this]
          rw [hm, h3] at h
          cases h
          rfl
theorem qui_px (l r : List UInt8) : quiB (l ++ 10 :: r) = quiB l := by
  unfold quiB
  rw [px_ln, List.take_append_of_le_length (ln_le _)]
/-- Two scripts with a newline between. -/
theorem all_join (G : Gr) (a b : List UInt8) {l m : List Co} (ha : alF G a 0 [] = .ok l) (hb : alF G b 0 [] = .ok m) : alF G (a ++ 10 :: b) 0 [] = .ok (l ++ m.map (mv (a.length + 1))) := by
  have h1 := px_all G a b (a.length + 1) 0 [] l (Nat.zero_le _) (by omega) ha
  have h2 := sh_alF G (a ++ [10]) b l 0 (Nat.zero_le _)
  rw [hb, List.append_assoc, List.length_append, List.singleton_append] at h2
  rw [h1]
  exact h2

end Go.Proofs.YtjfkhlmoppbbgaaGreatDoor

/- script, pure: faults, joined scripts, what stands between commands. -/
namespace Go.Proofs.YtjfkhlmoppbbgaaGreatDoor
open scanP scrP tpl ytb

/-- A fault has a number, and a place within the text or at its end. -/
def Er (l : List UInt8) (x : Nat × Nat) : Prop := x.1 ≠ 0 ∧ x.2 ≤ l.length
theorem er_del {l : List UInt8} {i e q : Nat} {x : Nat × Nat} (he : e ≠ 0) (hq : q ≤ l.length) (h : delR l i e q = .error x) : Er l x := by
  unfold delR at h
  split at h
  · cases h; exact ⟨he, hq⟩
  · split at h
    · cases h; exact ⟨he, hq⟩
    · cases h
theorem er_pie {l : List UInt8} {i q : Nat} {d : UInt8} {ln : Bool} {x : Nat × Nat} (hq : q ≤ l.length) (h : pieR l i d ln q = .error x) : Er l x := by
  unfold pieR at h
  split at h
  · cases h
  · rename_i hn; cases h; exact ⟨hn, hq⟩
theorem er_grp {G : Gr} {l t : List UInt8} {q : Nat} {x : Nat × Nat} (hq : q ≤ l.length) (h : grpR G t q = .error x) : Er l x := by
  unfold grpR at h
  split at h
  · cases h
  · rename_i hn; cases h; exact ⟨hn, hq⟩
theorem er_mat {G : Gr} {l : List UInt8} {q i : Nat} {x : Nat × Nat} (hq : q ≤ l.length) (h : matR G l q i = .error x) : Er l x := by
  unfold matR at h
  split at h
  · rename_i hd; cases h; exact er_del (by decide) hq hd
  · split at h
    · rename_i hp; cases h; exact er_pie hq hp
    · split at h
      · rename_i hg; cases h; exact er_grp hq hg
      · cases h
theorem er_one {G : Gr} {l : List UInt8} {i : Nat} {x : Nat × Nat} (hi : i ≤ l.length) (h : oneA G l i = .error x) : Er l x := by
  unfold oneA at h
  split at h
  · unfold linR at h
    split at h
    · cases h; exact ⟨Nat.succ_ne_zero _, hi⟩
    · cases h
  · split at h
    · cases h
    · split at h
      · exact er_mat hi h
      · split at h
        · exact er_mat hi h
        · cases h
theorem er_two {G : Gr} {l : List UInt8} {i : Nat} {x : Nat × Nat} (hi : i ≤ l.length) (h : twoA G l i = .error x) : Er l x := by
  unfold twoA at h
  split at h
  · rename_i ho; cases h; exact er_one hi ho
  · rename_i a k ho
    have hk := one_len ho hi
    split at h
    · cases h
    · split at h
      · rename_i hm
        have h1 := blanks_le l (blanksN l k + 1) (mt_lt hm)
        split at h
        · rename_i h2; cases h; exact er_one h1 h2
        · rename_i h2
          split at h
          · cases h; exact ⟨Nat.succ_ne_zero _, one_len h2 h1⟩
          · cases h
      · cases h
theorem er_endC {l : List UInt8} {c : Co} {i : Nat} {x : Nat × Nat} (hi : i ≤ l.length) (h : endC l c i = .error x) : Er l x := by
  unfold endC endR at h
  split at h
  · rename_i he
    cases h
    split at he
    · cases he
    · cases he; exact ⟨Nat.succ_ne_zero _, blanks_le l i hi⟩
  · cases h
theorem er_filC {l : List UInt8} {c : Co} {i : Nat} {x : Nat × Nat} (hc : c.pl ≤ l.length) (h : filC l c i = .error x) : Er l x := by
  unfold filC filR at h
  split at h
  · rename_i he
    cases h
    split at he
    · cases he
    · cases he; exact ⟨Nat.succ_ne_zero _, hc⟩
  · cases h
theorem er_labC {l : List UInt8} {c : Co} {i : Nat} {x : Nat × Nat} (hc : c.pl ≤ l.length) (h : labC l c i = .error x) : Er l x := by
  unfold labC labR at h
  split at h
  · rename_i he
    cases h
    split at he
    · cases he; exact ⟨Nat.succ_ne_zero _, hc⟩
    · cases he
  · cases h
theorem er_txtC {l : List UInt8} {c : Co} {i : Nat} {x : Nat × Nat} (hc : c.pl ≤ l.length) (h : txtC l c i = .error x) : Er l x := by
  unfold txtC txtR at h
  split at h
  · rename_i he
    cases h
    split at he
    · cases he
    · rename_i hn; cases he; exact ⟨hn, hc⟩
  · cases h
theorem er_flg {l : List UInt8} : ∀ (n : Nat) {c : Co} {i : Nat} {x : Nat × Nat}, c.pl ≤ l.length → i ≤ l.length → flgR l n c i = .error x → Er l x
  | 0, c, i, x, hc, hi, h => by cases h
  | n + 1, c, i, x, hc, hi, h => by
    unfold flgR at h
    split at h
    · rename_i hm
      split at h
      · cases h; exact ⟨Nat.succ_ne_zero _, hi⟩
      · exact er_flg n (by exact hc) (mt_lt hm) h
    · split at h
      · rename_i hm
        split at h
        · cases h; exact ⟨Nat.succ_ne_zero _, hi⟩
        · exact er_flg n (by exact hc) (mt_lt hm) h
      · split at h
        · split at h
          · cases h; exact ⟨Nat.succ_ne_zero _, hi⟩
          · rename_i hn
            have he : (numR l i).2.2 = 0 := Decidable.not_not.1 fun e => hn (.inr (.inl e))
            exact er_flg n (by exact hc) (num_len hi he) h
        · split at h
          · exact er_filC hc h
          · exact er_endC hi h
theorem er_sed {G : Gr} {l : List UInt8} {c : Co} {i : Nat} {x : Nat × Nat} (hc : c.pl ≤ l.length) (h : sedR G l c i = .error x) : Er l x := by
  unfold sedR at h
  split at h
  · rename_i hd; cases h; exact er_del (by decide) hc hd
  · rename_i d j hd
    have hj := (del_len hd).2.1
    split at h
    · rename_i hp; cases h; exact er_pie hc hp
    · rename_i t k hp
      have hk := (pie_len hp hj).2
      split at h
      · rename_i hp; cases h; exact er_pie hc hp
      · rename_i u m hu
        have hm := (pie_len hu hk).2
        split at h
        · rename_i hg; cases h; exact er_grp hc hg
        · split at h
          · rename_i hn; cases h; exact ⟨hn, hc⟩
          · split at h
            · cases h; exact ⟨Nat.succ_ne_zero _, hc⟩
            · split at h
              · rename_i hf; cases h; exact er_flg _ (by exact hc) hm hf
              · cases h
theorem er_sid {l : List UInt8} {d : UInt8} {q i : Nat} {x : Nat × Nat} (hq : q ≤ l.length) (h : sidR l d q i = .error x) : Er l x := by
  unfold sidR at h
  split at h
  · rename_i hp; cases h; exact er_pie hq hp
  · split at h
    · cases h
    · rename_i hn; cases h; exact ⟨hn, hq⟩
theorem er_tab {l : List UInt8} {c : Co} {i : Nat} {x : Nat × Nat} (hc : c.pl ≤ l.length) (h : tabR l c i = .error x) : Er l x := by
  unfold tabR at h
  split at h
  · rename_i hd; cases h; exact er_del (by decide) hc hd
  · split at h
    · rename_i hp; cases h; exact er_sid hc hp
    · split at h
      · rename_i hp; cases h; exact er_sid hc hp
      · split at h
        · cases h; exact ⟨Nat.succ_ne_zero _, hc⟩
        · cases h
theorem er_rst {G : Gr} {l : List UInt8} {c : Co} {i : Nat} {x : Nat × Nat} (hc : c.pl ≤ l.length) (hi : i ≤ l.length) (h : rstR G l c i = .error x) : Er l x := by
  unfold rstR at h
  split at h
  · cases h
  · split at h
    · exact er_txtC hc h
    · split at h
      · exact er_labC hc h
      · split at h
        · exact er_filC hc h
        · split at h
          · exact er_sed hc h
          · split at h
            · split at h
              · rename_i ht; cases h; exact er_tab hc ht
              · rename_i ht
                exact er_endC (tab_len ht) h
            · split at h
              · exact er_endC hi h
              · cases h; exact ⟨Nat.succ_ne_zero _, hc⟩
theorem er_cmd {G : Gr} {l : List UInt8} {i : Nat} {x : Nat × Nat} (hi : i ≤ l.length) (h : cmdR G l i = .error x) : Er l x := by
  unfold cmdR at h
  split at h
  · rename_i ht; cases h; exact er_two hi ht
  · rename_i a b k ht
    have hn := not_le (two_len ht hi)
    split at h
    · cases h; exact ⟨Nat.succ_ne_zero _, hn⟩
    · rename_i nm hm
      have hlt := (List.getElem?_eq_some_iff.1 hm).1
      exact er_rst (by exact hn) hlt h
theorem er_all {G : Gr} {l : List UInt8} : ∀ (n : Nat) {i : Nat} {acc : List Co} {x : Nat × Nat}, i ≤ l.length → allR G l n i acc = .error x → Er l x
  | 0, i, acc, x, hi, h => by cases h
  | n + 1, i, acc, x, hi, h => by
    unfold allR at h
    split at h
    · cases h
    · rename_i k hk
      have h1 := cms_in _ hi hk
      split at h
      · rename_i hc; cases h; exact er_cmd (by omega) hc
      · rename_i c m hc
        exact er_all n (cmd_fw hc).2 h
/-- Parse by alF. -/
theorem scr_alF (G : Gr) (l : List UInt8) (hl : l.length ≤ 4096) : scrR G l = (match alF G l 0 [] with | .error (e, p) => ([], false, e, p) | .ok cs => (cs, quiB l, 0, 0)) := by
  unfold scrR
  rw [if_neg (by omega)]
  rfl
theorem scr_ok {G : Gr} {l : List UInt8} (h : (scrR G l).2.2.1 = 0) : l.length ≤ 4096 ∧ ∃ cs, alF G l 0 [] = .ok cs ∧ scrR G l = (cs, quiB l, 0, 0) := by
  have hl : l.length ≤ 4096 := by
    unfold scrR at h
    split at h
    · simp at h
    · omega
  refine ⟨hl, ?_⟩
  rw [scr_alF G l hl] at h ⊢
  cases ha : alF G l 0 [] with
  | error x =>
    rw [ha] at h
    exact absurd h (er_all _ (Nat.zero_le _) ha).1
  | ok cs => exact ⟨cs, rfl, rfl⟩
theorem scr_bad {G : Gr} {l : List UInt8} (h : (scrR G l).2.2.1 ≠ 0) : (scrR G l).1 = [] ∧ (scrR G l).2.1 = false ∧ (scrR G l).2.2.2 ≤ l.length := by
  unfold scrR at h ⊢
  split
  · exact ⟨rfl, rfl, Nat.zero_le _⟩
  · rename_i hn
    rw [if_neg hn] at h
    split
    · rename_i e p he
      exact ⟨rfl, rfl, (er_all _ (Nat.zero_le _) he).2⟩
    · rename_i he
      rw [he] at h
      exact absurd rfl h
/-- P18.2: two scripts with a newline between are the commands of both. -/
theorem scr_join {G : Gr} {a b : List UInt8} (ha : (scrR G a).2.2.1 = 0) (hb : (scrR G b).2.2.1 = 0) (hl : a.length + b.length ≤ 4095) : scrR G (a ++ 10 :: b) = ((scrR G a).1 ++ (scrR G b).1.map (mv (a.length + 1)), (scrR G a).2.1, 0, 0) := by
  obtain ⟨_, l, h1, e1⟩ := scr_ok ha
  obtain ⟨_, m, h2, e2⟩ := scr_ok hb
  rw [scr_alF G _ (by rw [List.length_append, List.length_cons]; omega), all_join G a b h1 h2, e1, e2, qui_px]
/-- What may stand ahead of a script: it changes places alone. -/
def Sep (p : List UInt8) : Prop := ∀ q l : List UInt8, cmF (q ++ (p ++ l)) q.length = cmF (q ++ (p ++ l)) (q.length + p.length)
theorem Sep.nil : Sep [] := fun _ _ => rfl
theorem Sep.app {p s : List UInt8} (hp : Sep p) (hs : Sep s) : Sep (p ++ s) := fun q l => by
  have h1 := hp q (s ++ l)
  have h2 := hs (q ++ p) l
  rw [List.append_assoc, List.length_append] at h2
  rw [List.append_assoc, h1, h2, List.length_append, Nat.add_assoc]
theorem Sep.one {b : UInt8} (hb : [32, 9, 10, 59].contains b = true) : Sep [b] := fun q l => by
  have hg : (q ++ ([b] ++ l))[q.length]? = some b := by rw [List.getElem?_append_right (Nat.le_refl _), Nat.sub_self]; rfl
  have hm : mtB (q ++ ([b] ++ l)) q.length [32, 9, 10, 59] = true := by unfold mtB; rw [hg]; exact hb
  have hlt := mt_lt hm
  rw [cmF_eq _ _ (by omega), if_neg (by omega), if_pos hm]
  rfl
theorem ln_free (r : List UInt8) : ∀ x : List UInt8, (∀ b ∈ x, b ≠ 10) → lnN (x ++ 10 :: r) = x.length
  | [], _ => rfl
  | b :: x, h => by
    rw [List.cons_append, lnN, if_neg (h b (by simp)), ln_free r x (fun c hc => h c (by simp [hc]))]
    rfl
theorem Sep.note {x : List UInt8} (hx : ∀ b ∈ x, b ≠ 10) : Sep (35 :: x ++ [10]) := fun q l => by
  have e0 : q ++ (35 :: x ++ [10] ++ l) = q ++ (35 :: (x ++ 10 :: l)) := by simp
  rw [e0]
  have hg : (q ++ (35 :: (x ++ 10 :: l)))[q.length]? = some 35 := by rw [List.getElem?_append_right (Nat.le_refl _), Nat.sub_self]; rfl
  have hm : mtB (q ++ (35 :: (x ++ 10 :: l))) q.length [35] = true := by unfold mtB; rw [hg]; rfl
  have hn : mtB (q ++ (35 :: (x ++ 10 :: l))) q.length [32, 9, 10, 59] = false := by unfold mtB; rw [hg]; rfl
  have hlt := mt_lt hm
  have hL := lin_le (l := q ++ (35 :: (x ++ 10 :: l))) (i := q.length) (by omega)
  have e1 := sh_line q (35 :: (x ++ 10 :: l)) 0
  have e2 : (lineR (35 :: (x ++ 10 :: l)) 0).2 = x.length + 1 := by
    unfold lineR
    have hb : blanksN (35 :: (x ++ 10 :: l)) 0 = 0 := rfl
    simp only [hb, List.drop_zero]
    rw [lnN, if_neg (by decide), ln_free l x hx]
    omega
  rw [Nat.add_zero] at e1
  rw [cmF_eq _ _ (by omega), if_neg (by omega), if_neg (by rw [hn]; simp), if_pos hm]
  have h2 := Sep.one (b := 10) rfl (q ++ 35 :: x) l
  have e3 : q ++ 35 :: x ++ ([10] ++ l) = q ++ (35 :: (x ++ 10 :: l)) := by simp
  rw [e3, List.length_append, List.length_cons] at h2
  have e4 : (lineR (q ++ (35 :: (x ++ 10 :: l))) q.length).2 = q.length + (x.length + 1) := by rw [e1]; simp only; rw [e2]
  rw [e4, h2]
  congr 1
  simp only [List.length_append, List.length_cons, List.length_nil]
  omega
theorem sep_all (G : Gr) {p : List UInt8} (hp : Sep p) (l : List UInt8) : alF G (p ++ l) 0 [] = sL p.length [] (alF G l 0 []) := by
  have h1 := hp [] l
  have h2 := sh_alF G p l [] 0 (Nat.zero_le _)
  rw [List.nil_append, List.length_nil, Nat.zero_add] at h1
  rw [Nat.add_zero] at h2
  rw [← h2, alF_eq G _ 0 _ (Nat.zero_le _), alF_eq G _ p.length _ (by rw [List.length_append]; omega), h1]
/-- P18.2: what stands ahead changes the places alone. -/
theorem scr_ahead {G : Gr} {p l : List UInt8} (hp : Sep (10 :: p)) (hl : (10 :: p).length + l.length ≤ 4000) : (scrR G l).2.2.1 ≠ 0 ∧ scrR G (10 :: p ++ l) = ([], false, (scrR G l).2.2.1, (10 :: p).length + (scrR G l).2.2.2) ∨ (scrR G l).2.2.1 = 0 ∧ scrR G (10 :: p ++ l) = ((scrR G l).1.map (mv (10 :: p).length), false, 0, 0) := by
  rw [scr_alF G (10 :: p ++ l) (by rw [List.length_append]; omega), sep_all G hp l, scr_alF G l (by omega)]
  cases ha : alF G l 0 [] with
  | error x =>
    obtain ⟨e, q⟩ := x
    exact .inl ⟨(er_all _ (Nat.zero_le _) ha).1, rfl⟩
  | ok cs => exact .inr ⟨rfl, rfl⟩
/-- P18.2: behind a newline nothing changes. -/
theorem scr_behind {G : Gr} {l : List UInt8} (h : (scrR G l).2.2.1 = 0) (hl : l.length ≤ 4000) : scrR G (l ++ [10, 32, 59, 10, 35, 120, 10]) = ((scrR G l).1, (scrR G l).2.1, 0, 0) := by
  have h2 : (scrR G [32, 59, 10, 35, 120, 10]) = ([], false, 0, 0) := rfl
  have h3 := scr_join h (congrArg (·.2.2.1) h2) (by simp only [List.length_cons, List.length_nil]; omega)
  rw [h2, List.map_nil, List.append_nil] at h3
  exact h3

end Go.Proofs.YtjfkhlmoppbbgaaGreatDoor

/- script, pure: the fields that a name uses; places rise. -/
namespace Go.Proofs.YtjfkhlmoppbbgaaGreatDoor
open scanP scrP tpl ytb

/-- P18.4: what a command's name uses. -/
structure FO (c : Co) : Prop where
  lb : c.nm ≠ 58 → c.nm ≠ 98 → c.nm ≠ 116 → c.lb = []
  tx : c.nm ≠ 97 → c.nm ≠ 105 → c.nm ≠ 99 → c.tx = []
  fl : c.nm ≠ 114 → c.nm ≠ 119 → c.nm ≠ 115 → c.fl = []
  fr : c.nm ≠ 121 → c.fr = [] ∧ c.to = []
  sd : c.nm ≠ 115 → c.re = [] ∧ c.ps = [] ∧ c.nh = 0 ∧ c.an = false ∧ c.pr = false
  nh : c.nm = 115 → 1 ≤ c.nh ∧ c.nh ≤ 512
  te : c.nm = 97 ∨ c.nm = 105 ∨ c.nm = 99 → ∃ t, c.tx = t ++ [10]
  ft : c.fr.length = c.to.length
  ad : c.a.k = 0 → c.b.k = 0
/-- A command as it is begun. -/
structure Bg (c : Co) : Prop where
  lb : c.lb = []
  tx : c.tx = []
  fl : c.fl = []
  fr : c.fr = []
  to : c.to = []
  re : c.re = []
  ps : c.ps = []
  nh : c.nh = 0
  an : c.an = false
  pr : c.pr = false
  ad : c.a.k = 0 → c.b.k = 0
theorem two_ad {G : Gr} {l : List UInt8} {i k : Nat} {a b : Adr} (h : twoA G l i = .ok (a, b, k)) : a.k = 0 → b.k = 0 := by
  unfold twoA at h
  split at h
  · cases h
  · split at h
    · cases h; intro _; rfl
    · rename_i hn
      split at h
      · split at h
        · cases h
        · split at h
          · cases h
          · cases h; intro h0; exact absurd h0 hn
      · cases h; intro _; rfl
/-- What stays through the flags of s. -/
structure Fg (c : Co) (d : Co) : Prop where
  pl : d.pl = c.pl
  nm : d.nm = c.nm
  a : d.a = c.a
  b : d.b = c.b
  lb : d.lb = c.lb
  tx : d.tx = c.tx
  fr : d.fr = c.fr
  to : d.to = c.to
  nh : d.nh ≤ 512
theorem flg_keep {l : List UInt8} : ∀ (n : Nat) {c d : Co} {i k : Nat}, c.nh ≤ 512 → flgR l n c i = .ok (d, k) → Fg c d
  | 0, c, d, i, k, hc, h => by cases h; exact ⟨rfl, rfl, rfl, rfl, rfl, rfl, rfl, rfl, hc⟩
  | n + 1, c, d, i, k, hc, h => by
    unfold flgR at h
    split at h
    · split at h
      · cases h
      · have := flg_keep n (by exact hc) h; exact ⟨this.pl, this.nm, this.a, this.b, this.lb, this.tx, this.fr, this.to, this.nh⟩
    · split at h
      · split at h
        · cases h
        · have := flg_keep n (by exact hc) h; exact ⟨this.pl, this.nm, this.a, this.b, this.lb, this.tx, this.fr, this.to, this.nh⟩
      · split at h
        · split at h
          · cases h
          · rename_i hn
            have h5 : (numR l i).1 ≤ 512 := Nat.le_of_not_lt fun e => hn (.inr (.inr (.inr e)))
            have := flg_keep n (by exact h5) h; exact ⟨this.pl, this.nm, this.a, this.b, this.lb, this.tx, this.fr, this.to, this.nh⟩
        · split at h
          · unfold filC at h
            split at h
            · cases h
            · cases h; exact ⟨rfl, rfl, rfl, rfl, rfl, rfl, rfl, rfl, hc⟩
          · unfold endC at h
            split at h
            · cases h
            · cases h; exact ⟨rfl, rfl, rfl, rfl, rfl, rfl, rfl, rfl, hc⟩
theorem tx_ends : ∀ (x : List UInt8) (p : Nat) (t : List UInt8), (txR x p t).2.2 = 0 → ∃ y, (txR x p t).1 = y ++ [10]
  | [], p, t => by intro _; exact ⟨t, by simp [txR]⟩
  | [b], p, t => by
    unfold txR
    split
    · intro _; exact ⟨t, rfl⟩
    · split
      · simp
      · intro _; exact ⟨t ++ [b], rfl⟩
  | b :: c :: r, p, t => by
    have h1 := tx_ends (c :: r) (p + 1) (t ++ [b])
    have h2 := tx_ends r (p + 2) (t ++ [c])
    unfold txR
    split
    · intro _; exact ⟨t, rfl⟩
    · split
      · exact h2
      · exact h1
theorem text_last {l : List UInt8} {i : Nat} (h : (scanP.textR l i).2.2 = 0) : ∃ y, (scanP.textR l i).1 = y ++ [10] := by
  unfold scanP.textR at h ⊢
  simp only at h ⊢
  split
  · rename_i b c r hd
    rw [hd] at h
    simp only at h
    split
    · rename_i hc
      rw [if_pos hc] at h
      split
      · rename_i hr; rw [if_pos hr] at h; simp at h
      · rename_i hr; rw [if_neg hr] at h; exact tx_ends _ _ _ h
    · rename_i hc; rw [if_neg hc] at h; simp at h
  · rename_i hx
    exfalso
    split at h
    · rename_i hd; exact hx _ _ _ hd
    · simp at h
theorem rst_fo {G : Gr} {l : List UInt8} {c d : Co} {i k : Nat} (hc : Bg c) (h : rstR G l c i = .ok (d, k)) : FO d ∧ d.pl = c.pl ∧ d.nm = c.nm := by
  unfold rstR at h
  split at h
  · rename_i hn
    cases h
    exact ⟨⟨fun _ _ _ => hc.lb, fun _ _ _ => hc.tx, fun _ _ _ => hc.fl, fun _ => ⟨hc.fr, hc.to⟩, fun _ => ⟨hc.re, hc.ps, hc.nh, hc.an, hc.pr⟩, fun e => (by rw [hn] at e; cases e), fun e => absurd e (by rw [hn]; decide), by rw [hc.fr, hc.to], hc.ad⟩, rfl, rfl⟩
  · split at h
    · rename_i hn
      unfold txtC txtR at h
      split at h
      · cases h
      · rename_i ht
        split at ht
        · rename_i he
          cases ht
          cases h
          have hl := text_last he
          refine ⟨⟨fun _ _ _ => hc.lb, fun a b e => ?_, fun _ _ _ => hc.fl, fun _ => ⟨hc.fr, hc.to⟩, fun _ => ⟨hc.re, hc.ps, hc.nh, hc.an, hc.pr⟩, fun e => ?_, fun _ => hl, by rw [hc.fr, hc.to], hc.ad⟩, rfl, rfl⟩
          · rcases hn with hn | hn | hn
            · exact absurd hn a
            · exact absurd hn b
            · exact absurd hn e
          · rcases hn with hn | hn | hn <;> · rw [show c.nm = 115 from e] at hn; cases hn
        · cases ht
    · rename_i hn1
      split at h
      · rename_i hn
        unfold labC labR at h
        split at h
        · cases h
        · rename_i ht
          split at ht
          · cases ht
          · cases ht
            cases h
            refine ⟨⟨fun a b e => ?_, fun _ _ _ => hc.tx, fun _ _ _ => hc.fl, fun _ => ⟨hc.fr, hc.to⟩, fun _ => ⟨hc.re, hc.ps, hc.nh, hc.an, hc.pr⟩, fun e => ?_, fun e => absurd e hn1, by rw [hc.fr, hc.to], hc.ad⟩, rfl, rfl⟩
            · rcases hn with hn | hn | hn
              · exact absurd hn a
              · exact absurd hn b
              · exact absurd hn e
            · rcases hn with hn | hn | hn <;> · rw [show c.nm = 115 from e] at hn; cases hn
      · split at h
        · rename_i hn
          unfold filC filR at h
          split at h
          · cases h
          · cases h
            refine ⟨⟨fun _ _ _ => hc.lb, fun _ _ _ => hc.tx, fun a b e => ?_, fun _ => ⟨hc.fr, hc.to⟩, fun _ => ⟨hc.re, hc.ps, hc.nh, hc.an, hc.pr⟩, fun e => ?_, fun e => absurd e hn1, by rw [hc.fr, hc.to], hc.ad⟩, rfl, rfl⟩
            · rcases hn with hn | hn
              · exact absurd hn a
              · exact absurd hn b
            · rcases hn with hn | hn <;> · rw [show c.nm = 115 from e] at hn; cases hn
        · split at h
          · rename_i hn
            unfold sedR at h
            split at h
            · cases h
            · split at h
              · cases h
              · split at h
                · cases h
                · split at h
                  · cases h
                  · split at h
                    · cases h
                    · split at h
                      · cases h
                      · split at h
                        · cases h
                        · rename_i d2 k2 hf
                          cases h
                          have hk := flg_keep _ (by show c.nh ≤ 512; rw [hc.nh]; omega) hf
                          have en : d2.nm = 115 := hk.nm.trans hn
                          refine ⟨⟨fun _ _ _ => hk.lb.trans hc.lb, fun _ _ _ => hk.tx.trans hc.tx, fun _ _ e => absurd en e, fun _ => ⟨hk.fr.trans hc.fr, hk.to.trans hc.to⟩, fun e => absurd en e, fun _ => ⟨Nat.le_max_right _ _, Nat.max_le.2 ⟨hk.nh, by omega⟩⟩, fun e => absurd ?_ hn1, by show d2.fr.length = d2.to.length; rw [hk.fr, hk.to]; show c.fr.length = c.to.length; rw [hc.fr, hc.to], fun e => ?_⟩, hk.pl, hk.nm⟩
                          · have e2 : d2.nm = c.nm := hk.nm
                            rw [← e2]; exact e
                          · have e1 : d2.a = c.a := hk.a
                            have e2 : d2.b = c.b := hk.b
                            show d2.b.k = 0
                            rw [e2]
                            refine hc.ad ?_
                            rw [← e1]; exact e
          · rename_i hns
            split at h
            · rename_i hn
              split at h
              · cases h
              · rename_i c2 k2 ht
                unfold endC at h
                split at h
                · cases h
                · cases h
                  unfold tabR at ht
                  split at ht
                  · cases ht
                  · split at ht
                    · cases ht
                    · split at ht
                      · cases ht
                      · split at ht
                        · cases ht
                        · rename_i hne
                          cases ht
                          exact ⟨⟨fun _ _ _ => hc.lb, fun _ _ _ => hc.tx, fun _ _ _ => hc.fl, fun e => absurd hn e, fun _ => ⟨hc.re, hc.ps, hc.nh, hc.an, hc.pr⟩, fun e => absurd e hns, fun e => absurd e hn1, Decidable.not_not.1 fun e => hne (.inl e), hc.ad⟩, rfl, rfl⟩
            · split at h
              · unfold endC at h
                split at h
                · cases h
                · cases h
                  exact ⟨⟨fun _ _ _ => hc.lb, fun _ _ _ => hc.tx, fun _ _ _ => hc.fl, fun _ => ⟨hc.fr, hc.to⟩, fun _ => ⟨hc.re, hc.ps, hc.nh, hc.an, hc.pr⟩, fun e => absurd e hns, fun e => absurd e hn1, by rw [hc.fr, hc.to], hc.ad⟩, rfl, rfl⟩
              · cases h
theorem not_ge (l : List UInt8) (i : Nat) : i ≤ (notR l i).2 := by
  have h1 := bl_ge l i
  unfold notR
  split
  · have h2 := bl_ge l (blanksN l i + 1)
    show i ≤ blanksN l (blanksN l i + 1)
    omega
  · exact h1
theorem cmd_fo {G : Gr} {l : List UInt8} {i k : Nat} {c : Co} (h : cmdR G l i = .ok (c, k)) : FO c ∧ i ≤ c.pl ∧ c.pl < k ∧ l[c.pl]? = some c.nm := by
  unfold cmdR at h
  split at h
  · cases h
  · rename_i a b m ht
    have hm := two_ge ht
    have hg := not_ge l m
    split at h
    · cases h
    · rename_i nm hn
      have hlt := (List.getElem?_eq_some_iff.1 hn).1
      obtain ⟨h1, h2, h3⟩ := rst_fo ⟨rfl, rfl, rfl, rfl, rfl, rfl, rfl, rfl, rfl, rfl, two_ad ht⟩ h
      have h4 := rst_fw hlt h
      have h2' : c.pl = (notR l m).2 := h2
      have h3' : c.nm = nm := h3
      exact ⟨h1, by omega, by omega, by rw [h2', h3']; exact hn⟩
/-- P18.4 and the places of commands: they rise, from a place on. -/
structure Fields (l : List UInt8) (cs : List Co) : Prop where
  fo : ∀ c ∈ cs, FO c ∧ l[c.pl]? = some c.nm
  up : ∀ (k : Nat) (c d : Co), cs[k]? = some c → cs[k + 1]? = some d → c.pl < d.pl
theorem all_fo {G : Gr} {l : List UInt8} : ∀ (n : Nat) {i : Nat} {acc cs : List Co}, i ≤ l.length → Fields l acc → (∀ c ∈ acc, c.pl < i) → allR G l n i acc = .ok cs → Fields l cs
  | 0, i, acc, cs, hi, ha, hp, h => by cases h; exact ha
  | n + 1, i, acc, cs, hi, ha, hp, h => by
    unfold allR at h
    split at h
    · cases h; exact ha
    · rename_i k hk
      have h1 := cms_in _ hi hk
      split at h
      · cases h
      · rename_i c m hc
        have h2 := cmd_fw hc
        obtain ⟨f1, f2, f3, f4⟩ := cmd_fo hc
        refine all_fo n h2.2 ⟨fun d hd => ?_, fun j x y hx hy => ?_⟩ (fun d hd => ?_) h
        · rcases List.mem_append.1 hd with hd | hd
          · exact ha.fo d hd
          · rw [List.mem_singleton.1 hd]; exact ⟨f1, f4⟩
        · rcases Nat.lt_or_ge (j + 1) acc.length with hj | hj
          · rw [List.getElem?_append_left (by omega)] at hx hy
            exact ha.up j x y hx hy
          · have hjl : j + 1 = acc.length := by
              have := (List.getElem?_eq_some_iff.1 hy).1
              rw [List.length_append, List.length_singleton] at this
              omega
            rw [List.getElem?_append_left (by omega)] at hx
            rw [List.getElem?_append_right hj, hjl, Nat.sub_self] at hy
            cases hy
            have := hp x (List.mem_of_getElem? hx)
            omega
        · rcases List.mem_append.1 hd with hd | hd
          · have := hp d hd; omega
          · rw [List.mem_singleton.1 hd]; exact f3
theorem scr_fields {G : Gr} {l : List UInt8} (h : (scrR G l).2.2.1 = 0) : Fields l (scrR G l).1 := by
  obtain ⟨_, cs, h1, e⟩ := scr_ok h
  rw [e]
  exact all_fo _ (Nat.zero_le _) ⟨fun c hc => by simp at hc, fun k c d hc => by simp at hc⟩ (fun c hc => by simp at hc) h1

end Go.Proofs.YtjfkhlmoppbbgaaGreatDoor
