/- script: used, has (of the statements). -/
import Derived.Test.YtjfkhlmoppbbgaaGreatDoorKXd2
import Derived.Test.YtjfkhlmoppbbgaaGreatDoorKXe2
import Derived.Deep.CutRange
import Derived.BigQuiet
namespace Go.Proofs.YtjfkhlmoppbbgaaGreatDoor
open Go.RowKit
open scanP scrP tpl ytb

/-- What used answers. -/
def usB (c : UInt8) : ByteArray := if c = 58 ∨ c = 98 ∨ c = 116 then ⟨#[76]⟩ else if c = 97 ∨ c = 105 ∨ c = 99 then ⟨#[84]⟩ else if c = 114 ∨ c = 119 then ⟨#[70]⟩ else if c = 115 then ⟨#[70, 83]⟩ else if c = 121 then ⟨#[89]⟩ else ⟨#[]⟩
theorem used_any (c : UInt8) (w : World) : Calls Tryz.prog 14 #[.int .u8 (c.toNat : Nat)] w fun e w' => e = .returned (.string (usB c)) ∧ w' = w := by
  by_cases h0 : c = 58
  · have c0 := beq_val (z := 58) rfl h0
    rw [show usB c = ⟨#[76]⟩ by rw [h0]; rfl]
    clear h0
    go_enter Tryz.func14, Tryz.ntmps14
    go_wp2
    go_ret
    exact ⟨rfl, rfl⟩
  have c0 := bne_val (z := 58) rfl h0
  by_cases h1 : c = 98
  · have c1 := beq_val (z := 98) rfl h1
    rw [show usB c = ⟨#[76]⟩ by rw [h1]; rfl]
    clear h0 h1
    go_enter Tryz.func14, Tryz.ntmps14
    go_wp2
    go_ret
    exact ⟨rfl, rfl⟩
  have c1 := bne_val (z := 98) rfl h1
  by_cases h2 : c = 116
  · have c2 := beq_val (z := 116) rfl h2
    rw [show usB c = ⟨#[76]⟩ by rw [h2]; rfl]
    clear h0 h1 h2
    go_enter Tryz.func14, Tryz.ntmps14
    go_wp2
    go_ret
    exact ⟨rfl, rfl⟩
  have c2 := bne_val (z := 116) rfl h2
  by_cases h3 : c = 97
  · have c3 := beq_val (z := 97) rfl h3
    rw [show usB c = ⟨#[84]⟩ by rw [h3]; rfl]
    clear h0 h1 h2 h3
    go_enter Tryz.func14, Tryz.ntmps14
    go_wp2
    go_ret
    exact ⟨rfl, rfl⟩
  have c3 := bne_val (z := 97) rfl h3
  by_cases h4 : c = 105
  · have c4 := beq_val (z := 105) rfl h4
    rw [show usB c = ⟨#[84]⟩ by rw [h4]; rfl]
    clear h0 h1 h2 h3 h4
    go_enter Tryz.func14, Tryz.ntmps14
    go_wp2
    go_ret
    exact ⟨rfl, rfl⟩
  have c4 := bne_val (z := 105) rfl h4
  by_cases h5 : c = 99
  · have c5 := beq_val (z := 99) rfl h5
    rw [show usB c = ⟨#[84]⟩ by rw [h5]; rfl]
    clear h0 h1 h2 h3 h4 h5
    go_enter Tryz.func14, Tryz.ntmps14
    go_wp2
    go_ret
    exact ⟨rfl, rfl⟩
  have c5 := bne_val (z := 99) rfl h5
  by_cases h6 : c = 114
  · have c6 := beq_val (z := 114) rfl h6
    rw [show usB c = ⟨#[70]⟩ by rw [h6]; rfl]
    clear h0 h1 h2 h3 h4 h5 h6
    go_enter Tryz.func14, Tryz.ntmps14
    go_wp2
    go_ret
    exact ⟨rfl, rfl⟩
  have c6 := bne_val (z := 114) rfl h6
  by_cases h7 : c = 119
  · have c7 := beq_val (z := 119) rfl h7
    rw [show usB c = ⟨#[70]⟩ by rw [h7]; rfl]
    clear h0 h1 h2 h3 h4 h5 h6 h7
    go_enter Tryz.func14, Tryz.ntmps14
    go_wp2
    go_ret
    exact ⟨rfl, rfl⟩
  have c7 := bne_val (z := 119) rfl h7
  by_cases h8 : c = 115
  · have c8 := beq_val (z := 115) rfl h8
    rw [show usB c = ⟨#[70, 83]⟩ by rw [h8]; rfl]
    clear h0 h1 h2 h3 h4 h5 h6 h7 h8
    go_enter Tryz.func14, Tryz.ntmps14
    go_wp2
    go_ret
    exact ⟨rfl, rfl⟩
  have c8 := bne_val (z := 115) rfl h8
  by_cases h9 : c = 121
  · have c9 := beq_val (z := 121) rfl h9
    rw [show usB c = ⟨#[89]⟩ by rw [h9]; rfl]
    clear h0 h1 h2 h3 h4 h5 h6 h7 h8 h9
    go_enter Tryz.func14, Tryz.ntmps14
    go_wp2
    go_ret
    exact ⟨rfl, rfl⟩
  have c9 := bne_val (z := 121) rfl h9
  rw [show usB c = ⟨#[]⟩ by unfold usB; rw [if_neg (by rintro (h | h | h); exact h0 h; exact h1 h; exact h2 h), if_neg (by rintro (h | h | h); exact h3 h; exact h4 h; exact h5 h), if_neg (by rintro (h | h); exact h6 h; exact h7 h), if_neg h8, if_neg h9]]
  clear h0 h1 h2 h3 h4 h5 h6 h7 h8 h9
  go_enter Tryz.func14, Tryz.ntmps14
  go_wp2
  go_ret
  exact ⟨rfl, rfl⟩
set_option maxRecDepth 100000 in
set_option maxHeartbeats 1000000 in
theorem has_any (s : ByteArray) (b : UInt8) (hs : s.size ≤ 1000000) (w : World) : Calls Tryz.prog 15 #[.string s, .int .u8 (b.toNat : Nat)] w fun e w' => e = .returned (.bool (s.data.toList.contains b)) ∧ w' = w := by
  go_enter Tryz.func15, Tryz.ntmps15
  go_wp2_with fail
  go_loopw [5] (fun v wr => ∃ k : Nat, k ≤ s.size ∧ v = .int .i64 k ∧ Hid ((s.data.toList.take k).contains b = false) ∧ wr = w) (fun v _ => s.size - (intOf v).toNat)
  case atStart => exact ⟨0, by omega, rfl, hideT rfl, rfl⟩
  case round =>
    obtain ⟨k, hk, rfl, HE, rfl⟩ := hrel
    by_cases hlt : k < s.size
    · have i1 : (k : Int) < (s.size : Int) := by omega
      have i2 : (0 : Int) ≤ (k : Int) := by omega
      have hl : k < s.data.toList.length := hlt
      have hst : s.data.toList.take (k + 1) = s.data.toList.take k ++ [s[k]'hlt] := by rw [List.take_succ_eq_append_getElem hl]; rfl
      have hmem : (s[k]'hlt) ∈ s.data.toList := List.getElem_mem hl
      by_cases hb : s[k]'hlt = b
      · have HR := hideT (show s.data.toList.contains b = true by rw [List.contains_iff_mem, ← hb]; exact hmem)
        have c1 := beq_val (c := s[k]'hlt) (d := b) (z := (b.toNat : Int)) rfl hb
        clear hst hmem hb
        go_wp2
        go_ret
        exact ⟨by rw [HR.out]; rfl, rfl⟩
      · have c1 := bne_val (c := s[k]'hlt) (d := b) (z := (b.toNat : Int)) rfl hb
        have HN := hideT (show (s.data.toList.take (k + 1)).contains b = false by rw [hst, List.contains_append, HE.out, Bool.false_or]; simp [Ne.symm hb])
        clear hst hmem hb
        go_wp2
        exact ⟨⟨k + 1, by omega, by go_num, HN, trivial⟩, by simp [intOf]; omega⟩
    · obtain rfl : k = s.size := by omega
      have i1 : ((s.size : Int) < (s.size : Int)) = False := by rw [eq_iff_iff, iff_false]; omega
      have HR := HE.out
      rw [List.take_of_length_le (show s.data.toList.length ≤ s.size from Nat.le_refl _)] at HR
      have HR := hideT HR
      go_wp2
      go_ret
      exact ⟨by rw [HR.out]; rfl, rfl⟩
end Go.Proofs.YtjfkhlmoppbbgaaGreatDoor

/- ScriptFields: the walk. -/
namespace Go.Proofs.YtjfkhlmoppbbgaaGreatDoor
open Go.RowKit
open scanP scrP tpl ytb

theorem Fields.ge {l : List UInt8} {cs : List Co} (h : Fields l cs) : ∀ (k : Nat) (c : Co), cs[k]? = some c → k ≤ c.pl
  | 0, c, _ => Nat.zero_le _
  | k + 1, c, hc => by
    have hk : k < cs.length := by have := (List.getElem?_eq_some_iff.1 hc).1; omega
    have h1 := h.ge k _ (List.getElem?_eq_getElem hk)
    have h2 := h.up k _ c (List.getElem?_eq_getElem hk) hc
    omega
theorem Fields.len {l : List UInt8} {cs : List Co} (h : Fields l cs) : cs.length ≤ l.length := by
  rcases Nat.eq_zero_or_pos cs.length with h0 | h0
  · omega
  · have hk : cs.length - 1 < cs.length := by omega
    have h1 := h.ge _ _ (List.getElem?_eq_getElem hk)
    have h2 := (List.getElem?_eq_some_iff.1 (h.fo _ (List.getElem_mem hk)).2).1
    omega
/-- What the statement asks of a command, by the letters that its name uses. -/
structure Fk (c : Co) (u : ByteArray) : Prop where
  us : usB c.nm = u
  z : u.size ≤ 1000000
theorem bst_nil : bst [] = ⟨#[]⟩ := rfl
theorem nil_ne {l : List UInt8} (h : l = []) : (bst l != (⟨#[]⟩ : ByteArray)) = false := by rw [h]; rfl
set_option maxRecDepth 100000 in
set_option maxHeartbeats 4000000 in
theorem fields_bad (s : ByteArray) (hs : s.size ≤ 140737488355000) (w : World) (hg : Gl w) (he : (scrR gM s.data.toList).2.2.1 ≠ 0) : Calls Tryz.prog 6 #[.string s] w fun e w' => e = .returned (.bool true) ∧ Below w.heap.size w w' := by
  have HA := hideT (awake_any w hg)
  have HG := hideT hg
  clear hg
  obtain ⟨hb1, hb2, hb3⟩ := scr_bad he
  go_enter Tryz.func6, Tryz.ntmps6
  go_wp2_with fail
  refine HA.out.mono ?_
  rintro e w1 ⟨rfl, hb⟩
  have HP := hideT (parse_reads s hs w1 (HG.out.below hb))
  revert HP
  generalize scrR gM s.data.toList = RR at *
  obtain ⟨cs, q, E, P⟩ := RR
  simp only at he hb1 hb2 hb3
  subst hb1 hb2
  intro HP
  have HB := hideT hb
  clear hb HA HG
  go_wp2_with fail
  refine HP.out.mono ?_
  rintro e w2 ⟨v, rfl, hC, hb⟩
  obtain ⟨a, cp, rfl, -⟩ := hC
  have t1 : ((E : Int) != 0) = true := by rw [bne_iff_ne]; omega
  have t2 : (0 : Int) ≤ (P : Int) := by omega
  have t3 : (P : Int) ≤ (s.size : Int) := by have : P ≤ s.size := hb3; omega
  have HF := hideT (fun o : Obj => ((HB.out.trans (hb.mono HB.out.size)).alloc (HB.out.trans (hb.mono HB.out.size)).size o))
  clear hb he hb3 HP HB
  simp only [List.length_nil]
  go_wp2
  go_ret
  exact ⟨rfl, HF.out _⟩
end Go.Proofs.YtjfkhlmoppbbgaaGreatDoor

/- ScriptFields: what is in a command's fields. -/
namespace Go.Proofs.YtjfkhlmoppbbgaaGreatDoor
open Go.RowKit
open scanP scrP tpl ytb

/-- What is in a command's fields, by the letters that its name uses. -/
def Cls (u lb tx fl re : ByteArray) (n nh : Nat) (an pr : Bool) (fr tw : ByteArray) : Prop :=
  (u = ⟨#[76]⟩ ∧ tx = ⟨#[]⟩ ∧ fl = ⟨#[]⟩ ∧ (fr = ⟨#[]⟩ ∧ tw = ⟨#[]⟩) ∧ (re = ⟨#[]⟩ ∧ n = 0 ∧ nh = 0 ∧ an = false ∧ pr = false)) ∨
  (u = ⟨#[84]⟩ ∧ (∃ t, tx = bst (t ++ [10])) ∧ lb = ⟨#[]⟩ ∧ fl = ⟨#[]⟩ ∧ (fr = ⟨#[]⟩ ∧ tw = ⟨#[]⟩) ∧ (re = ⟨#[]⟩ ∧ n = 0 ∧ nh = 0 ∧ an = false ∧ pr = false)) ∨
  (u = ⟨#[70]⟩ ∧ lb = ⟨#[]⟩ ∧ tx = ⟨#[]⟩ ∧ (fr = ⟨#[]⟩ ∧ tw = ⟨#[]⟩) ∧ (re = ⟨#[]⟩ ∧ n = 0 ∧ nh = 0 ∧ an = false ∧ pr = false)) ∨
  (u = ⟨#[70, 83]⟩ ∧ lb = ⟨#[]⟩ ∧ tx = ⟨#[]⟩ ∧ (fr = ⟨#[]⟩ ∧ tw = ⟨#[]⟩) ∧ 1 ≤ nh ∧ nh ≤ 512) ∨
  (u = ⟨#[89]⟩ ∧ lb = ⟨#[]⟩ ∧ tx = ⟨#[]⟩ ∧ fl = ⟨#[]⟩ ∧ (re = ⟨#[]⟩ ∧ n = 0 ∧ nh = 0 ∧ an = false ∧ pr = false)) ∨
  (u = ⟨#[]⟩ ∧ lb = ⟨#[]⟩ ∧ tx = ⟨#[]⟩ ∧ fl = ⟨#[]⟩ ∧ (fr = ⟨#[]⟩ ∧ tw = ⟨#[]⟩) ∧ (re = ⟨#[]⟩ ∧ n = 0 ∧ nh = 0 ∧ an = false ∧ pr = false))
theorem cls {c : Co} (h : FO c) : Cls (usB c.nm) (bst c.lb) (bst c.tx) (bst c.fl) (bst c.re) c.ps.length c.nh c.an c.pr (bst c.fr) (bst c.to) := by
  have hS := fun e => h.sd e
  unfold Cls
  by_cases h1 : c.nm = 58 ∨ c.nm = 98 ∨ c.nm = 116
  · have hn : ∀ d : UInt8, (d ≠ 58 ∧ d ≠ 98 ∧ d ≠ 116) → c.nm ≠ d := fun d hd e => by rcases h1 with h1 | h1 | h1 <;> rw [h1] at e <;> simp [← e] at hd
    obtain ⟨a, b, d, e, f⟩ := h.sd (hn _ (by decide))
    obtain ⟨y1, y2⟩ := h.fr (hn _ (by decide))
    refine .inl ⟨by unfold usB; rw [if_pos h1], ?_, ?_, ⟨?_, ?_⟩, ?_, ?_, d, e, f⟩
    · rw [h.tx (hn _ (by decide)) (hn _ (by decide)) (hn _ (by decide))]; rfl
    · rw [h.fl (hn _ (by decide)) (hn _ (by decide)) (hn _ (by decide))]; rfl
    · rw [y1]; rfl
    · rw [y2]; rfl
    · rw [a]; rfl
    · rw [b]; rfl
  by_cases h2 : c.nm = 97 ∨ c.nm = 105 ∨ c.nm = 99
  · have hn : ∀ d : UInt8, (d ≠ 97 ∧ d ≠ 105 ∧ d ≠ 99) → c.nm ≠ d := fun d hd e => by rcases h2 with h1 | h1 | h1 <;> rw [h1] at e <;> simp [← e] at hd
    obtain ⟨a, b, d, e, f⟩ := h.sd (hn _ (by decide))
    obtain ⟨y1, y2⟩ := h.fr (hn _ (by decide))
    obtain ⟨t, ht⟩ := h.te h2
    refine .inr (.inl ⟨by unfold usB; rw [if_neg h1, if_pos h2], ⟨t, by rw [ht]⟩, ?_, ?_, ⟨?_, ?_⟩, ?_, ?_, d, e, f⟩)
    · rw [h.lb (hn _ (by decide)) (hn _ (by decide)) (hn _ (by decide))]; rfl
    · rw [h.fl (hn _ (by decide)) (hn _ (by decide)) (hn _ (by decide))]; rfl
    · rw [y1]; rfl
    · rw [y2]; rfl
    · rw [a]; rfl
    · rw [b]; rfl
  have hl : bst c.lb = ⟨#[]⟩ := by rw [h.lb (fun e => h1 (.inl e)) (fun e => h1 (.inr (.inl e))) (fun e => h1 (.inr (.inr e)))]; rfl
  have ht : bst c.tx = ⟨#[]⟩ := by rw [h.tx (fun e => h2 (.inl e)) (fun e => h2 (.inr (.inl e))) (fun e => h2 (.inr (.inr e)))]; rfl
  by_cases h3 : c.nm = 114 ∨ c.nm = 119
  · have hn : ∀ d : UInt8, (d ≠ 114 ∧ d ≠ 119) → c.nm ≠ d := fun d hd e => by rcases h3 with h1 | h1 <;> rw [h1] at e <;> simp [← e] at hd
    obtain ⟨a, b, d, e, f⟩ := h.sd (hn _ (by decide))
    obtain ⟨y1, y2⟩ := h.fr (hn _ (by decide))
    refine .inr (.inr (.inl ⟨by unfold usB; rw [if_neg h1, if_neg h2, if_pos h3], hl, ht, ⟨?_, ?_⟩, ?_, ?_, d, e, f⟩))
    · rw [y1]; rfl
    · rw [y2]; rfl
    · rw [a]; rfl
    · rw [b]; rfl
  by_cases h4 : c.nm = 115
  · obtain ⟨y1, y2⟩ := h.fr (by rw [h4]; decide)
    refine .inr (.inr (.inr (.inl ⟨by unfold usB; rw [if_neg h1, if_neg h2, if_neg h3, if_pos h4], hl, ht, ⟨?_, ?_⟩, h.nh h4⟩)))
    · rw [y1]; rfl
    · rw [y2]; rfl
  have hf : bst c.fl = ⟨#[]⟩ := by rw [h.fl (fun e => h3 (.inl e)) (fun e => h3 (.inr e)) h4]; rfl
  obtain ⟨a, b, d, e, f⟩ := h.sd h4
  have ha : bst c.re = ⟨#[]⟩ := by rw [a]; rfl
  have hb : c.ps.length = 0 := by rw [b]; rfl
  by_cases h5 : c.nm = 121
  · exact .inr (.inr (.inr (.inr (.inl ⟨by unfold usB; rw [if_neg h1, if_neg h2, if_neg h3, if_neg h4, if_pos h5], hl, ht, hf, ha, hb, d, e, f⟩))))
  obtain ⟨y1, y2⟩ := h.fr h5
  exact .inr (.inr (.inr (.inr (.inr ⟨by unfold usB; rw [if_neg h1, if_neg h2, if_neg h3, if_neg h4, if_neg h5], hl, ht, hf, ⟨by rw [y1]; rfl, by rw [y2]; rfl⟩, ha, hb, d, e, f⟩))))
theorem tx_lenB : ∀ (x : List UInt8) (p : Nat) (t : List UInt8), (txR x p t).1.length ≤ t.length + x.length + 1
  | [], p, t => by simp [txR]
  | [b], p, t => by
    unfold txR
    split
    · simp
    · split <;> simp
  | b :: c :: r, p, t => by
    have h1 := tx_lenB (c :: r) (p + 1) (t ++ [b])
    have h2 := tx_lenB r (p + 2) (t ++ [c])
    simp only [List.length_append, List.length_cons, List.length_nil] at h1 h2 ⊢
    unfold txR
    split
    · simp only [List.length_append, List.length_singleton]; omega
    · split <;> omega
theorem text_lenB (l : List UInt8) (i : Nat) : (scanP.textR l i).1.length ≤ l.length + 1 := by
  unfold scanP.textR
  simp only
  split
  · rename_i b c r hd
    have hl := congrArg List.length hd
    rw [List.length_drop] at hl
    simp only [List.length_cons] at hl
    split
    · split
      · simp
      · have := tx_lenB r (blanksN l i + 2) []
        simp only [List.length_nil] at this
        omega
    · simp
  · simp
theorem rst_tx {G : Gr} {l : List UInt8} {c d : Co} {i k : Nat} (hc : c.tx = []) (hn : c.nh ≤ 512) (h : rstR G l c i = .ok (d, k)) : d.tx.length ≤ l.length + 1 := by
  have h0 : c.tx.length ≤ l.length + 1 := by rw [hc]; simp
  unfold rstR at h
  split at h
  · cases h; exact h0
  · split at h
    · unfold txtC txtR at h
      split at h
      · cases h
      · rename_i ht
        split at ht
        · cases ht; cases h; exact text_lenB l i
        · cases ht
    · split at h
      · unfold labC at h
        split at h
        · cases h
        · cases h; exact h0
      · split at h
        · unfold filC at h
          split at h
          · cases h
          · cases h; exact h0
        · split at h
          · unfold sedR at h
            split at h
            · cases h
            · split at h
              · cases h
              · split at h
                · cases h
                · split at h
                  · cases h
                  · split at h
                    · cases h
                    · split at h
                      · cases h
                      · split at h
                        · cases h
                        · rename_i hf
                          cases h
                          have hk := flg_keep _ (by exact hn) hf
                          have e := hk.tx
                          simp only at e ⊢
                          rw [e]; exact h0
          · split at h
            · split at h
              · cases h
              · rename_i ht
                unfold endC at h
                split at h
                · cases h
                · cases h
                  unfold tabR at ht
                  split at ht
                  · cases ht
                  · split at ht
                    · cases ht
                    · split at ht
                      · cases ht
                      · split at ht
                        · cases ht
                        · cases ht; exact h0
            · split at h
              · unfold endC at h
                split at h
                · cases h
                · cases h; exact h0
              · cases h
theorem all_tx {G : Gr} {l : List UInt8} : ∀ (n : Nat) {i : Nat} {acc cs : List Co}, (∀ c ∈ acc, c.tx.length ≤ l.length + 1) → allR G l n i acc = .ok cs → ∀ c ∈ cs, c.tx.length ≤ l.length + 1
  | 0, i, acc, cs, ha, h => by cases h; exact ha
  | n + 1, i, acc, cs, ha, h => by
    unfold allR at h
    split at h
    · cases h; exact ha
    · split at h
      · cases h
      · rename_i c m hc
        refine all_tx n (fun d hd => ?_) h
        rcases List.mem_append.1 hd with hd | hd
        · exact ha d hd
        · rw [List.mem_singleton.1 hd]
          unfold cmdR at hc
          split at hc
          · cases hc
          · split at hc
            · cases hc
            · exact rst_tx rfl (by show (0 : Nat) ≤ 512; omega) hc
theorem scr_tx {G : Gr} {l : List UInt8} (h : (scrR G l).2.2.1 = 0) : ∀ c ∈ (scrR G l).1, c.tx.length ≤ l.length + 1 := by
  obtain ⟨_, cs, h1, e⟩ := scr_ok h
  rw [e]
  exact all_tx _ (fun c hc => by simp at hc) h1
theorem has_lit (u : ByteArray) (b : UInt8) (r : Bool) (hu : u.size ≤ 1000000) (h : u.data.toList.contains b = r) (w : World) : Calls Tryz.prog 15 #[.string u, .int .u8 (b.toNat : Nat)] w fun e w' => e = .returned (.bool r) ∧ w' = w := by
  rw [← h]
  exact has_any u b hu w

end Go.Proofs.YtjfkhlmoppbbgaaGreatDoor
