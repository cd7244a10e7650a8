/- show, pure: what is known of a command that was read. -/
import Derived.Test.YtidgnebbibkmhaaGreatDoorKWb
set_option maxRecDepth 100000
set_option maxHeartbeats 4000000
namespace Go.Proofs.YtidgnebbibkmhaaGreatDoor
open Go.RowKit
open scanP scrP tpl ytb
namespace sho

def nmS : List UInt8 := [123, 97, 105, 99, 58, 98, 116, 114, 119, 115, 121] ++ plnS
structure WfA (G : Gr) (a : Adr) : Prop where
  z : a.k = 0 → a = adr0
  l : a.k = 1 → 1 ≤ a.ln ∧ a.ln < 1000000000 ∧ a.re = []
  d : a.k = 2 → a.ln = 0 ∧ a.re = []
  m : a.k = 3 → a.ln = 0 ∧ pcB false a.re = true ∧ (G a.re).1 = 0
  le : a.k ≤ 3
theorem WfA.nil (G : Gr) : WfA G adr0 := ⟨fun _ => rfl, fun e => (by cases e), fun e => (by cases e), fun e => (by cases e), by decide⟩
theorem mat_wf {G : Gr} {l : List UInt8} {p i k : Nat} {a : Adr} (h : matR G l p i = .ok (a, k)) : WfA G a := by
  unfold matR at h
  split at h
  · cases h
  · split at h
    · cases h
    · rename_i hp
      split at h
      · cases h
      · rename_i hg
        cases h
        refine ⟨fun e => (by cases e), fun e => (by cases e), fun e => (by cases e), fun _ => ⟨rfl, pie_pc hp, ?_⟩, by show 3 ≤ 3; decide⟩
        unfold grpR at hg
        split at hg
        · assumption
        · cases hg
theorem one_wf {G : Gr} {l : List UInt8} {i k : Nat} {a : Adr} (h : oneA G l i = .ok (a, k)) : WfA G a := by
  unfold oneA at h
  split at h
  · unfold linR at h
    split at h
    · cases h
    · rename_i hn
      cases h
      have h1 := num_lt l i
      exact ⟨fun e => (by cases e), fun _ => ⟨by have : ¬ (numR l i).1 = 0 := fun e => hn (.inr e); show 1 ≤ (numR l i).1; omega, h1, rfl⟩, fun e => (by cases e), fun e => (by cases e), by show 1 ≤ 3; decide⟩
  · split at h
    · cases h
      exact ⟨fun e => (by cases e), fun e => (by cases e), fun _ => ⟨rfl, rfl⟩, fun e => (by cases e), by show 2 ≤ 3; decide⟩
    · split at h
      · exact mat_wf h
      · split at h
        · exact mat_wf h
        · cases h; exact .nil G
theorem two_wf {G : Gr} {l : List UInt8} {i k : Nat} {a b : Adr} (h : twoA G l i = .ok (a, b, k)) : WfA G a ∧ WfA G b := by
  unfold twoA at h
  split at h
  · cases h
  · rename_i ho
    split at h
    · cases h; exact ⟨one_wf ho, .nil G⟩
    · split at h
      · split at h
        · cases h
        · rename_i h2
          split at h
          · cases h
          · cases h; exact ⟨one_wf ho, one_wf h2⟩
      · cases h; exact ⟨one_wf ho, .nil G⟩
def Hb (t : List UInt8) : Prop := ∀ b r, t = b :: r → b ≠ 32 ∧ b ≠ 9
def Lb (t : List UInt8) : Prop := (∀ b ∈ t, b ≠ 10 ∧ b ≠ 59) ∧ Hb t ∧ ∀ b, t.getLast? = some b → b ≠ 32 ∧ b ≠ 9
def Fi (t : List UInt8) : Prop := xfy t = true ∧ Hb t
theorem hb_blk : ∀ l : List UInt8, Hb (l.drop (blkN l))
  | [] => fun b r h => by simp at h
  | c :: l => by
    unfold blkN
    split
    · rw [List.drop_succ_cons]; exact hb_blk l
    · rename_i hc
      intro b r h
      rw [List.drop_zero] at h
      cases h
      exact ⟨fun e => hc (.inl e), fun e => hc (.inr e)⟩
theorem hb_bl (l : List UInt8) (i : Nat) : Hb (l.drop (xab l i)) := by
  unfold xab; rw [← List.drop_drop]; exact hb_blk _
theorem Hb.take {t : List UInt8} (h : Hb t) (n : Nat) : Hb (t.take n) := fun b r e => by
  cases t with
  | nil => simp at e
  | cons c q =>
    cases n with
    | zero => simp at e
    | succ n =>
      rw [List.take_succ_cons] at e
      cases e
      exact h _ _ rfl
theorem wd_free : ∀ (l : List UInt8), ∀ b ∈ l.take (wdN l), b ≠ 10 ∧ b ≠ 59
  | [] => fun b h => by simp at h
  | c :: l => fun b h => by
    rw [show wdN (c :: l) = if c = 10 ∨ c = 59 then 0 else wdN l + 1 from rfl] at h
    split at h
    · simp at h
    · rename_i hc
      rw [List.take_succ_cons, List.mem_cons] at h
      rcases h with e | h
      · rw [e]; exact ⟨fun e => hc (.inl e), fun e => hc (.inr e)⟩
      · exact wd_free l b h
theorem rt_last (x : List UInt8) : ∀ n, n ≤ x.length → ∀ b, (x.take (rtN n x)).getLast? = some b → b ≠ 32 ∧ b ≠ 9
  | 0, _ => fun b h => by simp [rtN] at h
  | n + 1, hn => fun b h => by
    unfold rtN at h
    split at h
    · exact rt_last x n (by omega) b h
    · rename_i hc
      have e : (x.take (n + 1)).getLast? = x[n]? := by
        rw [List.getLast?_eq_getElem?, List.length_take, Nat.min_eq_left hn, List.getElem?_take_of_lt (by omega)]; rfl
      rw [e] at h
      rw [h] at hc
      exact ⟨fun e => hc (.inl (by rw [e])), fun e => hc (.inr (by rw [e]))⟩
theorem word_wf (l : List UInt8) (i : Nat) : Lb (xcw l i).1 := by
  unfold xcw
  simp only
  have h1 := rt_le (wdN (l.drop (xab l i))) (l.drop (xab l i))
  have h2 := Nat.le_trans (wd_le (l.drop (xab l i))) (xhg _)
  refine ⟨fun b hb => wd_free (l.drop (xab l i)) b ?_, (hb_bl l i).take _, rt_last _ _ h2⟩
  exact (List.take_prefix_take_left h1).subset hb
theorem line_wf {l : List UInt8} {i : Nat} (h : xfy (xbi l i).1 = true) : Fi (xbi l i).1 := ⟨h, (hb_bl l i).take _⟩
theorem fil_wf {l : List UInt8} {c d : Co} {i k : Nat} (h : filC l c i = .ok (d, k)) : ∃ t, d = { c with fl := t } ∧ Fi t := by
  unfold filC filR at h
  split at h
  · cases h
  · rename_i hf
    split at hf
    · rename_i hn
      have e := Except.ok.inj hf
      cases h
      rw [e] at hn
      have := line_wf (l := l) (i := i) (by rw [e]; exact hn)
      rw [e] at this
      exact ⟨_, rfl, this⟩
    · cases hf
structure FgX (c d : Co) : Prop where
  re : d.re = c.re
  ps : d.ps = c.ps
  nt : d.nt = c.nt
  fl : d.fl = c.fl ∨ Fi d.fl
theorem flg_wf {l : List UInt8} : ∀ (n : Nat) {c d : Co} {i k : Nat}, flgR l n c i = .ok (d, k) → FgX c d
  | 0, c, d, i, k, h => by cases h; exact ⟨rfl, rfl, rfl, .inl rfl⟩
  | n + 1, c, d, i, k, h => by
    unfold flgR at h
    split at h
    · split at h
      · cases h
      · have := flg_wf n h; exact ⟨this.re, this.ps, this.nt, this.fl⟩
    · split at h
      · split at h
        · cases h
        · have := flg_wf n h; exact ⟨this.re, this.ps, this.nt, this.fl⟩
      · split at h
        · split at h
          · cases h
          · have := flg_wf n h; exact ⟨this.re, this.ps, this.nt, this.fl⟩
        · split at h
          · obtain ⟨t, rfl, ht⟩ := fil_wf h
            exact ⟨rfl, rfl, rfl, .inr ht⟩
          · unfold endC at h
            split at h
            · cases h
            · cases h; exact ⟨rfl, rfl, rfl, .inl rfl⟩
def kd (n : UInt8) : Nat := if n = 97 ∨ n = 105 ∨ n = 99 then 1 else if n = 58 ∨ n = 98 ∨ n = 116 then 2 else if n = 114 ∨ n = 119 then 3 else if n = 115 then 4 else if n = 121 then 5 else 0
structure Nm (G : Gr) (c : Co) : Prop where
  nm : nmS.contains c.nm = true
  lb : kd c.nm = 2 → Lb c.lb ∧ c.lb.length ≤ 32 ∧ (c.nm = 58 → c.lb ≠ [])
  fl : kd c.nm = 3 → Fi c.fl
  sd : kd c.nm = 4 → pcB false c.re = true ∧ (G c.re).1 = 0 ∧ NfP c.ps ∧ (c.re ≠ [] → xfz c.ps 0 ≤ ((G c.re).2 : Int)) ∧ (c.fl = [] ∨ Fi c.fl)
  yt : kd c.nm = 5 → twB c.fr = false
structure WfC (G : Gr) (c : Co) : Prop extends Nm G c where
  fo : FO c
  a : WfA G c.a
  b : WfA G c.b
theorem Nm.of {G : Gr} {c : Co} (nm : nmS.contains c.nm = true) {k : Nat} (hk : kd c.nm = k) (h : k < 2) : Nm G c := ⟨nm, fun e => by omega, fun e => by omega, fun e => by omega, fun e => by omega⟩
theorem rst_wf {G : Gr} {l : List UInt8} {c d : Co} {i k : Nat} (hB : Bg c) (h : rstR G l c i = .ok (d, k)) : Nm G d ∧ d.a = c.a ∧ d.b = c.b := by
  unfold rstR at h
  by_cases h1 : c.nm = 123
  · rw [if_pos h1] at h
    cases h
    exact ⟨.of (by rw [h1]; decide) (k := 0) (by rw [h1]; decide) (by decide), rfl, rfl⟩
  rw [if_neg h1] at h
  by_cases h2 : c.nm = 97 ∨ c.nm = 105 ∨ c.nm = 99
  · rw [if_pos h2] at h
    unfold txtC at h
    split at h
    · cases h
    · cases h
      exact ⟨.of (by show nmS.contains c.nm = true; rcases h2 with e | e | e <;> (rw [e]; decide)) (k := 1) (by show kd c.nm = 1; unfold kd; rw [if_pos h2]) (by decide), rfl, rfl⟩
  rw [if_neg h2] at h
  by_cases h3 : c.nm = 58 ∨ c.nm = 98 ∨ c.nm = 116
  · rw [if_pos h3] at h
    have hk : kd c.nm = 2 := by unfold kd; rw [if_neg h2, if_pos h3]
    unfold labC labR at h
    split at h
    · cases h
    · rename_i hl
      split at hl
      · cases hl
      · rename_i hn
        have e := Except.ok.inj hl
        cases h
        refine ⟨⟨?_, fun _ => ?_, fun e => ?_, fun e => ?_, fun e => ?_⟩, rfl, rfl⟩
        · rcases h3 with e | e | e <;> (show nmS.contains c.nm = true; rw [e]; decide)
        · have hw := word_wf l i
          rw [e] at hn hw
          exact ⟨hw, Nat.le_of_not_lt fun e => hn (.inl e), fun e1 e2 => hn (.inr ⟨e1, e2⟩)⟩
        all_goals exact absurd (hk.symm.trans e) (by decide)
  rw [if_neg h3] at h
  by_cases h4 : c.nm = 114 ∨ c.nm = 119
  · rw [if_pos h4] at h
    have hk : kd c.nm = 3 := by unfold kd; rw [if_neg h2, if_neg h3, if_pos h4]
    obtain ⟨t, rfl, ht⟩ := fil_wf h
    refine ⟨⟨?_, fun e => ?_, fun _ => ht, fun e => ?_, fun e => ?_⟩, rfl, rfl⟩
    · rcases h4 with e | e <;> (show nmS.contains c.nm = true; rw [e]; decide)
    all_goals exact absurd (hk.symm.trans e) (by decide)
  rw [if_neg h4] at h
  by_cases h5 : c.nm = 115
  · rw [if_pos h5] at h
    unfold sedR at h
    split at h
    · cases h
    split at h
    · cases h
    rename_i hp1
    split at h
    · cases h
    split at h
    · cases h
    rename_i hg
    split at h
    · cases h
    rename_i hpe
    split at h
    · cases h
    rename_i hre
    split at h
    · cases h
    rename_i d' k' hf
    cases h
    have K := xen _ (by show c.nh ≤ 512; rw [hB.nh]; decide) hf
    have X := flg_wf _ hf
    have hk : kd d'.nm = 4 := by rw [K.nm]; show kd c.nm = 4; rw [h5]; decide
    refine ⟨⟨?_, fun e => ?_, fun e => ?_, fun _ => ⟨?_, ?_, ?_, ?_, ?_⟩, fun e => ?_⟩, K.a, K.b⟩
    · show nmS.contains d'.nm = true; rw [K.nm]; show nmS.contains c.nm = true; rw [h5]; decide
    · exact absurd (hk.symm.trans e) (by decide)
    · exact absurd (hk.symm.trans e) (by decide)
    · show pcB false d'.re = true; rw [X.re]; exact pie_pc hp1
    · show (G d'.re).1 = 0; rw [X.re]
      unfold grpR at hg
      split at hg
      · assumption
      · cases hg
    · show NfP d'.ps; rw [X.ps]; exact parse_nf (Decidable.not_not.1 hpe)
    · show d'.re ≠ [] → xfz d'.ps 0 ≤ ((G d'.re).2 : Int)
      rw [X.re, X.ps]
      intro hne
      unfold grpR at hg
      split at hg
      · cases hg
        exact Int.not_lt.1 fun e => hre ⟨hne, e⟩
      · cases hg
    · show d'.fl = [] ∨ Fi d'.fl
      rcases X.fl with e | e
      · left; rw [e]; exact hB.fl
      · exact .inr e
    · exact absurd (hk.symm.trans e) (by decide)
  rw [if_neg h5] at h
  by_cases h6 : c.nm = 121
  · rw [if_pos h6] at h
    split at h
    · cases h
    · rename_i c' k' ht
      unfold endC at h
      split at h
      · cases h
      · cases h
        unfold tabR at ht
        split at ht
        · cases ht
        split at ht
        · cases ht
        split at ht
        · cases ht
        split at ht
        · cases ht
        rename_i hn
        cases ht
        have hk : kd c.nm = 5 := by rw [h6]; decide
        refine ⟨⟨?_, fun e => ?_, fun e => ?_, fun e => ?_, fun _ => ?_⟩, rfl, rfl⟩
        · show nmS.contains c.nm = true; rw [h6]; decide
        · exact absurd (hk.symm.trans e) (by decide)
        · exact absurd (hk.symm.trans e) (by decide)
        · exact absurd (hk.symm.trans e) (by decide)
        · exact Bool.eq_false_iff.2 fun e => hn (.inr e)
  rw [if_neg h6] at h
  split at h
  · rename_i h7
    unfold endC at h
    split at h
    · cases h
    · cases h
      refine ⟨.of ?_ (k := 0) ?_ (by decide), rfl, rfl⟩
      · unfold nmS; rw [List.contains_eq_any_beq, List.any_append, ← List.contains_eq_any_beq, ← List.contains_eq_any_beq, h7, Bool.or_true]
      · unfold kd; rw [if_neg h2, if_neg h3, if_neg h4, if_neg h5, if_neg h6]
  · cases h
theorem cmd_wf {G : Gr} {l : List UInt8} {i k : Nat} {c : Co} (h : cmdR G l i = .ok (c, k)) : WfC G c := by
  have hF := (cmd_fo h).1
  unfold cmdR at h
  split at h
  · cases h
  rename_i ht
  split at h
  · cases h
  have hA := two_wf ht
  obtain ⟨h1, h2, h3⟩ := rst_wf ⟨rfl, rfl, rfl, rfl, rfl, rfl, rfl, rfl, rfl, rfl, two_ad ht⟩ h
  exact ⟨h1, hF, by rw [h2]; exact hA.1, by rw [h3]; exact hA.2⟩
theorem all_wf {G : Gr} {l : List UInt8} : ∀ (n i : Nat) (acc cs : List Co), (∀ c ∈ acc, WfC G c) → allR G l n i acc = .ok cs → ∀ c ∈ cs, WfC G c
  | 0, i, acc, cs, ha, h => by cases h; exact ha
  | n + 1, i, acc, cs, ha, h => by
    unfold allR at h
    split at h
    · cases h; exact ha
    · split at h
      · cases h
      · rename_i hc
        refine all_wf n _ _ cs (fun c hm => ?_) h
        rw [List.mem_append, List.mem_singleton] at hm
        rcases hm with hm | rfl
        · exact ha c hm
        · exact cmd_wf hc
theorem scr_wf {G : Gr} {l : List UInt8} (h : (scrR G l).2.2.1 = 0) : ∀ c ∈ (scrR G l).1, WfC G c := by
  obtain ⟨_, cs, h1, h2⟩ := xhc h
  rw [h2]
  exact all_wf _ _ _ _ (fun c hc => by simp at hc) h1

end sho
end Go.Proofs.YtidgnebbibkmhaaGreatDoor
