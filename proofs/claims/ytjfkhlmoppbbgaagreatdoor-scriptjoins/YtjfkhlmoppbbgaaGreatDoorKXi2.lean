/- script, pure: the fields that a name uses; places rise. -/
import Derived.Test.YtjfkhlmoppbbgaaGreatDoorKXe2
namespace Go.Proofs.YtjfkhlmoppbbgaaGreatDoor
open scanP scrP tpl ytb

/-- P18.4: what a command's name uses. -/
structure FO (c : Co) : Prop where
  lb : c.nm ≠ 58 → c.nm ≠ 98 → c.nm ≠ 116 → c.lb = []
  tx : c.nm ≠ 97 → c.nm ≠ 105 → c.nm ≠ 99 → c.tx = []
  fl : c.nm ≠ 114 → c.nm ≠ 119 → c.nm ≠ 115 → c.fl = []
  fr : c.nm ≠ 121 → c.fr = [] ∧ c.to = []
  sd : c.nm ≠ 115 → c.re = [] ∧ c.ps = [] ∧ c.nh = 0 ∧ c.an = false ∧ c.pr = false
  nh : c.nm = 115 → 1 ≤ c.nh ∧ c.nh ≤ 512
  te : c.nm = 97 ∨ c.nm = 105 ∨ c.nm = 99 → ∃ t, c.tx = t ++ [10]
  ft : c.fr.length = c.to.length
  ad : c.a.k = 0 → c.b.k = 0
/-- A command as it is begun. -/
structure Bg (c : Co) : Prop where
  lb : c.lb = []
  tx : c.tx = []
  fl : c.fl = []
  fr : c.fr = []
  to : c.to = []
  re : c.re = []
  ps : c.ps = []
  nh : c.nh = 0
  an : c.an = false
  pr : c.pr = false
  ad : c.a.k = 0 → c.b.k = 0
theorem two_ad {G : Gr} {l : List UInt8} {i k : Nat} {a b : Adr} (h : twoA G l i = .ok (a, b, k)) : a.k = 0 → b.k = 0 := by
  unfold twoA at h
  split at h
  · cases h
  · split at h
    · cases h; intro _; rfl
    · rename_i hn
      split at h
      · split at h
        · cases h
        · split at h
          · cases h
          · cases h; intro h0; exact absurd h0 hn
      · cases h; intro _; rfl
/-- What stays through the flags of s. -/
structure Fg (c : Co) (d : Co) : Prop where
  pl : d.pl = c.pl
  nm : d.nm = c.nm
  a : d.a = c.a
  b : d.b = c.b
  lb : d.lb = c.lb
  tx : d.tx = c.tx
  fr : d.fr = c.fr
  to : d.to = c.to
  nh : d.nh ≤ 512
theorem flg_keep {l : List UInt8} : ∀ (n : Nat) {c d : Co} {i k : Nat}, c.nh ≤ 512 → flgR l n c i = .ok (d, k) → Fg c d
  | 0, c, d, i, k, hc, h => by cases h; exact ⟨rfl, rfl, rfl, rfl, rfl, rfl, rfl, rfl, hc⟩
  | n + 1, c, d, i, k, hc, h => by
    unfold flgR at h
    split at h
    · split at h
      · cases h
      · have := flg_keep n (by exact hc) h; exact ⟨this.pl, this.nm, this.a, this.b, this.lb, this.tx, this.fr, this.to, this.nh⟩
    · split at h
      · split at h
        · cases h
        · have := flg_keep n (by exact hc) h; exact ⟨this.pl, this.nm, this.a, this.b, this.lb, this.tx, this.fr, this.to, this.nh⟩
      · split at h
        · split at h
          · cases h
          · rename_i hn
            have h5 : (numR l i).1 ≤ 512 := Nat.le_of_not_lt fun e => hn (.inr (.inr (.inr e)))
            have := flg_keep n (by exact h5) h; exact ⟨this.pl, this.nm, this.a, this.b, this.lb, this.tx, this.fr, this.to, this.nh⟩
        · split at h
          · unfold filC at h
            split at h
            · cases h
            · cases h; exact ⟨rfl, rfl, rfl, rfl, rfl, rfl, rfl, rfl, hc⟩
          · unfold endC at h
            split at h
            · cases h
            · cases h; exact ⟨rfl, rfl, rfl, rfl, rfl, rfl, rfl, rfl, hc⟩
theorem tx_ends : ∀ (x : List UInt8) (p : Nat) (t : List UInt8), (txR x p t).2.2 = 0 → ∃ y, (txR x p t).1 = y ++ [10]
  | [], p, t => by intro _; exact ⟨t, by simp [txR]⟩
  | [b], p, t => by
    unfold txR
    split
    · intro _; exact ⟨t, rfl⟩
    · split
      · simp
      · intro _; exact ⟨t ++ [b], rfl⟩
  | b :: c :: r, p, t => by
    have h1 := tx_ends (c :: r) (p + 1) (t ++ [b])
    have h2 := tx_ends r (p + 2) (t ++ [c])
    unfold txR
    split
    · intro _; exact ⟨t, rfl⟩
    · split
      · exact h2
      · exact h1
theorem text_last {l : List UInt8} {i : Nat} (h : (scanP.textR l i).2.2 = 0) : ∃ y, (scanP.textR l i).1 = y ++ [10] := by
  unfold scanP.textR at h ⊢
  simp only at h ⊢
  split
  · rename_i b c r hd
    rw [hd] at h
    simp only at h
    split
    · rename_i hc
      rw [if_pos hc] at h
      split
      · rename_i hr; rw [if_pos hr] at h; simp at h
      · rename_i hr; rw [if_neg hr] at h; exact tx_ends _ _ _ h
    · rename_i hc; rw [if_neg hc] at h; simp at h
  · rename_i hx
    exfalso
    split at h
    · rename_i hd; exact hx _ _ _ hd
    · simp at h
theorem rst_fo {G : Gr} {l : List UInt8} {c d : Co} {i k : Nat} (hc : Bg c) (h : rstR G l c i = .ok (d, k)) : FO d ∧ d.pl = c.pl ∧ d.nm = c.nm := by
  unfold rstR at h
  split at h
  · rename_i hn
    cases h
    exact ⟨⟨fun _ _ _ => hc.lb, fun _ _ _ => hc.tx, fun _ _ _ => hc.fl, fun _ => ⟨hc.fr, hc.to⟩, fun _ => ⟨hc.re, hc.ps, hc.nh, hc.an, hc.pr⟩, fun e => (by rw [hn] at e; cases e), fun e => absurd e (by rw [hn]; decide), by rw [hc.fr, hc.to], hc.ad⟩, rfl, rfl⟩
  · split at h
    · rename_i hn
      unfold txtC txtR at h
      split at h
      · cases h
      · rename_i ht
        split at ht
        · rename_i he
          cases ht
          cases h
          have hl := text_last he
          refine ⟨⟨fun _ _ _ => hc.lb, fun a b e => ?_, fun _ _ _ => hc.fl, fun _ => ⟨hc.fr, hc.to⟩, fun _ => ⟨hc.re, hc.ps, hc.nh, hc.an, hc.pr⟩, fun e => ?_, fun _ => hl, by rw [hc.fr, hc.to], hc.ad⟩, rfl, rfl⟩
          · rcases hn with hn | hn | hn
            · exact absurd hn a
            · exact absurd hn b
            · exact absurd hn e
          · rcases hn with hn | hn | hn <;> · rw [show c.nm = 115 from e] at hn; cases hn
        · cases ht
    · rename_i hn1
      split at h
      · rename_i hn
        unfold labC labR at h
        split at h
        · cases h
        · rename_i ht
          split at ht
          · cases ht
          · cases ht
            cases h
            refine ⟨⟨fun a b e => ?_, fun _ _ _ => hc.tx, fun _ _ _ => hc.fl, fun _ => ⟨hc.fr, hc.to⟩, fun _ => ⟨hc.re, hc.ps, hc.nh, hc.an, hc.pr⟩, fun e => ?_, fun e => absurd e hn1, by rw [hc.fr, hc.to], hc.ad⟩, rfl, rfl⟩
            · rcases hn with hn | hn | hn
              · exact absurd hn a
              · exact absurd hn b
              · exact absurd hn e
            · rcases hn with hn | hn | hn <;> · rw [show c.nm = 115 from e] at hn; cases hn
      · split at h
        · rename_i hn
          unfold filC filR at h
          split at h
          · cases h
          · cases h
            refine ⟨⟨fun _ _ _ => hc.lb, fun _ _ _ => hc.tx, fun a b e => ?_, fun _ => ⟨hc.fr, hc.to⟩, fun _ => ⟨hc.re, hc.ps, hc.nh, hc.an, hc.pr⟩, fun e => ?_, fun e => absurd e hn1, by rw [hc.fr, hc.to], hc.ad⟩, rfl, rfl⟩
            · rcases hn with hn | hn
              · exact absurd hn a
              · exact absurd hn b
            · rcases hn with hn | hn <;> · rw [show c.nm = 115 from e] at hn; cases hn
        · split at h
          · rename_i hn
            unfold sedR at h
            split at h
            · cases h
            · split at h
              · cases h
              · split at h
                · cases h
                · split at h
                  · cases h
                  · split at h
                    · cases h
                    · split at h
                      · cases h
                      · split at h
                        · cases h
                        · rename_i d2 k2 hf
                          cases h
                          have hk := flg_keep _ (by show c.nh ≤ 512; rw [hc.nh]; omega) hf
                          have en : d2.nm = 115 := hk.nm.trans hn
                          refine ⟨⟨fun _ _ _ => hk.lb.trans hc.lb, fun _ _ _ => hk.tx.trans hc.tx, fun _ _ e => absurd en e, fun _ => ⟨hk.fr.trans hc.fr, hk.to.trans hc.to⟩, fun e => absurd en e, fun _ => ⟨Nat.le_max_right _ _, Nat.max_le.2 ⟨hk.nh, by omega⟩⟩, fun e => absurd ?_ hn1, by show d2.fr.length = d2.to.length; rw [hk.fr, hk.to]; show c.fr.length = c.to.length; rw [hc.fr, hc.to], fun e => ?_⟩, hk.pl, hk.nm⟩
                          · have e2 : d2.nm = c.nm := hk.nm
                            rw [← e2]; exact e
                          · have e1 : d2.a = c.a := hk.a
                            have e2 : d2.b = c.b := hk.b
                            show d2.b.k = 0
                            rw [e2]
                            refine hc.ad ?_
                            rw [← e1]; exact e
          · rename_i hns
            split at h
            · rename_i hn
              split at h
              · cases h
              · rename_i c2 k2 ht
                unfold endC at h
                split at h
                · cases h
                · cases h
                  unfold tabR at ht
                  split at ht
                  · cases ht
                  · split at ht
                    · cases ht
                    · split at ht
                      · cases ht
                      · split at ht
                        · cases ht
                        · rename_i hne
                          cases ht
                          exact ⟨⟨fun _ _ _ => hc.lb, fun _ _ _ => hc.tx, fun _ _ _ => hc.fl, fun e => absurd hn e, fun _ => ⟨hc.re, hc.ps, hc.nh, hc.an, hc.pr⟩, fun e => absurd e hns, fun e => absurd e hn1, Decidable.not_not.1 fun e => hne (.inl e), hc.ad⟩, rfl, rfl⟩
            · split at h
              · unfold endC at h
                split at h
                · cases h
                · cases h
                  exact ⟨⟨fun _ _ _ => hc.lb, fun _ _ _ => hc.tx, fun _ _ _ => hc.fl, fun _ => ⟨hc.fr, hc.to⟩, fun _ => ⟨hc.re, hc.ps, hc.nh, hc.an, hc.pr⟩, fun e => absurd e hns, fun e => absurd e hn1, by rw [hc.fr, hc.to], hc.ad⟩, rfl, rfl⟩
              · cases h
theorem not_ge (l : List UInt8) (i : Nat) : i ≤ (notR l i).2 := by
  have h1 := bl_ge l i
  unfold notR
  split
  · have h2 := bl_ge l (blanksN l i + 1)
    show i ≤ blanksN l (blanksN l i + 1)
    omega
  · exact h1
theorem cmd_fo {G : Gr} {l : List UInt8} {i k : Nat} {c : Co} (h : cmdR G l i = .ok (c, k)) : FO c ∧ i ≤ c.pl ∧ c.pl < k ∧ l[c.pl]? = some c.nm := by
  unfold cmdR at h
  split at h
  · cases h
  · rename_i a b m ht
    have hm := two_ge ht
    have hg := not_ge l m
    split at h
    · cases h
    · rename_i nm hn
      have hlt := (List.getElem?_eq_some_iff.1 hn).1
      obtain ⟨h1, h2, h3⟩ := rst_fo ⟨rfl, rfl, rfl, rfl, rfl, rfl, rfl, rfl, rfl, rfl, two_ad ht⟩ h
      have h4 := rst_fw hlt h
      have h2' : c.pl = (notR l m).2 := h2
      have h3' : c.nm = nm := h3
      exact ⟨h1, by omega, by omega, by rw [h2', h3']; exact hn⟩
/-- P18.4 and the places of commands: they rise, from a place on. -/
structure Fields (l : List UInt8) (cs : List Co) : Prop where
  fo : ∀ c ∈ cs, FO c ∧ l[c.pl]? = some c.nm
  up : ∀ (k : Nat) (c d : Co), cs[k]? = some c → cs[k + 1]? = some d → c.pl < d.pl
theorem all_fo {G : Gr} {l : List UInt8} : ∀ (n : Nat) {i : Nat} {acc cs : List Co}, i ≤ l.length → Fields l acc → (∀ c ∈ acc, c.pl < i) → allR G l n i acc = .ok cs → Fields l cs
  | 0, i, acc, cs, hi, ha, hp, h => by cases h; exact ha
  | n + 1, i, acc, cs, hi, ha, hp, h => by
    unfold allR at h
    split at h
    · cases h; exact ha
    · rename_i k hk
      have h1 := cms_in _ hi hk
      split at h
      · cases h
      · rename_i c m hc
        have h2 := cmd_fw hc
        obtain ⟨f1, f2, f3, f4⟩ := cmd_fo hc
        refine all_fo n h2.2 ⟨fun d hd => ?_, fun j x y hx hy => ?_⟩ (fun d hd => ?_) h
        · rcases List.mem_append.1 hd with hd | hd
          · exact ha.fo d hd
          · rw [List.mem_singleton.1 hd]; exact ⟨f1, f4⟩
        · rcases Nat.lt_or_ge (j + 1) acc.length with hj | hj
          · rw [List.getElem?_append_left (by omega)] at hx hy
            exact ha.up j x y hx hy
          · have hjl : j + 1 = acc.length := by
              have := (List.getElem?_eq_some_iff.1 hy).1
              rw [List.length_append, List.length_singleton] at this
              omega
            rw [List.getElem?_append_left (by omega)] at hx
            rw [List.getElem?_append_right hj, hjl, Nat.sub_self] at hy
            cases hy
            have := hp x (List.mem_of_getElem? hx)
            omega
        · rcases List.mem_append.1 hd with hd | hd
          · have := hp d hd; omega
          · rw [List.mem_singleton.1 hd]; exact f3
theorem scr_fields {G : Gr} {l : List UInt8} (h : (scrR G l).2.2.1 = 0) : Fields l (scrR G l).1 := by
  obtain ⟨_, cs, h1, e⟩ := scr_ok h
  rw [e]
  exact all_fo _ (Nat.zero_le _) ⟨fun c hc => by simp at hc, fun k c d hc => by simp at hc⟩ (fun c hc => by simp at hc) h1

end Go.Proofs.YtjfkhlmoppbbgaaGreatDoor
