/- show, pure: nothing that is read is longer than the text; parts weigh little. -/
import Derived.Test.YtidgnebbibkmhaaGreatDoorKWf
set_option maxRecDepth 100000
set_option maxHeartbeats 4000000
namespace Go.Proofs.YtidgnebbibkmhaaGreatDoor
open Go.RowKit
open scanP scrP tpl ytb
namespace sho

def bulkP : List Pt → Nat
  | [] => 0
  | p :: r => p.t.size + 3 + bulkP r
theorem bulkP_len (l : List Pt) : l.length * 3 ≤ bulkP l := by
  induction l with
  | nil => simp
  | cons q r ih => simp only [bulkP, List.length_cons]; omega
theorem bulk_app (l m : List Pt) : bulkP (l ++ m) = bulkP l + bulkP m := by
  induction l with
  | nil => simp [bulkP]
  | cons p r ih => simp only [List.cons_append, bulkP, ih]; omega
def wtG (x : Ga) : Nat := bulkP x.ps + x.bs.length + (if x.bs = [] then 0 else 3)
theorem bulk_out (x : Ga) : bulkP x.out.ps = wtG x := by
  unfold Ga.out wtG
  split
  · rename_i h
    rw [h]
    simp
  · rw [bulk_app]
    simp only [bulkP, xbt]
    omega
theorem wt_plain (x : Ga) (b : UInt8) : wtG (x.plain b) ≤ wtG x + 4 := by
  unfold wtG Ga.plain
  simp only [List.length_append, List.length_singleton]
  split <;> split <;> omega
theorem wt_group (x : Ga) (n : Int) : wtG (x.group n) ≤ wtG x + 4 := by
  have := bulk_out x
  unfold Ga.group
  conv => lhs; unfold wtG
  simp only [bulk_app, bulkP, xbt, List.length_nil, if_true]
  omega
theorem wt_esc (x : Ga) (c : UInt8) : wtG (x.esc c) ≤ wtG x + 4 := by
  unfold Ga.esc
  split
  · exact wt_group _ _
  · split <;> exact wt_plain _ _
theorem run_wt : ∀ (l : List UInt8) (k : Nat) (x : Ga), bulkP (runP l k x).1.ps ≤ wtG x + 4 * l.length
  | [], k, x => by rw [xlz, bulk_out]; omega
  | b :: r, k, x => by
    by_cases c1 : b.toNat = 38
    · rw [xl0 _ _ _ _ c1]
      have h1 := run_wt r (k + 1) (x.group 0)
      have h2 := wt_group x 0
      simp only [List.length_cons]; omega
    · by_cases c2 : b.toNat = 10
      · rw [xol _ _ _ _ c2]; simp [bulkP]
      · by_cases c3 : b.toNat = 92
        · cases r with
          | nil => rw [xl1 _ _ _ c3]; simp [bulkP]
          | cons c q =>
            rw [xl2 _ _ _ _ _ c3]
            have h1 := run_wt q (k + 2) (x.esc c)
            have h2 := wt_esc x c
            simp only [List.length_cons]; omega
        · rw [xom _ _ _ _ c1 c2 c3]
          have h1 := run_wt r (k + 1) (x.plain b)
          have h2 := wt_plain x b
          simp only [List.length_cons]; omega
  termination_by l => l.length
theorem parse_wt (s : List UInt8) : bulkP (xap s).1.ps ≤ 16384 := by
  unfold xap
  split
  · simp [bulkP]
  · have := run_wt s 0 ⟨[], []⟩
    simp only [wtG, bulkP, List.length_nil, if_true] at this
    omega
/-- Nothing of a command is too long. -/
structure SzC (c : Co) : Prop where
  ak : c.a.k ≤ 3
  bk : c.b.k ≤ 3
  al : c.a.ln ≤ 1000000000
  bl : c.b.ln ≤ 1000000000
  nh : c.nh ≤ 1000000000
  ar : c.a.re.length ≤ 5000
  br : c.b.re.length ≤ 5000
  lb : c.lb.length ≤ 5000
  tx : c.tx.length ≤ 5000
  fl : c.fl.length ≤ 5000
  re : c.re.length ≤ 5000
  fr : c.fr.length ≤ 5000
  to : c.to.length ≤ 5000
  ps : bulkP c.ps ≤ 30000
theorem mat_sz {G : Gr} {l : List UInt8} {p i k : Nat} {a : Adr} (h : matR G l p i = .ok (a, k)) : a.re.length ≤ l.length := by
  unfold matR at h
  split at h
  · cases h
  rename_i hd
  split at h
  · cases h
  rename_i hp
  split at h
  · cases h
  cases h
  exact (xbd hp (xb4 hd).2.1).1
theorem one_sz2 {G : Gr} {l : List UInt8} {i k : Nat} {a : Adr} (h : oneA G l i = .ok (a, k)) : a.re.length ≤ l.length := by
  unfold oneA at h
  split at h
  · unfold linR at h
    split at h
    · cases h
    · cases h; exact Nat.zero_le _
  · split at h
    · cases h; exact Nat.zero_le _
    · split at h
      · exact mat_sz h
      · split at h
        · exact mat_sz h
        · cases h; exact Nat.zero_le _
theorem two_sz2 {G : Gr} {l : List UInt8} {i k : Nat} {a b : Adr} (h : twoA G l i = .ok (a, b, k)) : a.re.length ≤ l.length ∧ b.re.length ≤ l.length := by
  unfold twoA at h
  split at h
  · cases h
  · rename_i ho
    split at h
    · cases h; exact ⟨one_sz2 ho, Nat.zero_le _⟩
    · split at h
      · split at h
        · cases h
        · rename_i h2
          split at h
          · cases h
          · cases h; exact ⟨one_sz2 ho, one_sz2 h2⟩
      · cases h; exact ⟨one_sz2 ho, Nat.zero_le _⟩
theorem fil_sz {l : List UInt8} {c d : Co} {i k : Nat} (h : filC l c i = .ok (d, k)) : ∃ t, d = { c with fl := t } ∧ t.length ≤ l.length := by
  unfold filC filR at h
  split at h
  · cases h
  · rename_i hf
    split at hf
    · have e := Except.ok.inj hf
      cases h
      refine ⟨_, rfl, ?_⟩
      have h2 : (xbi l i).1.length ≤ l.length := by unfold xbi; simp only [List.length_take, List.length_drop]; omega
      rw [e] at h2
      exact h2
    · cases hf
theorem flg_sz {l : List UInt8} : ∀ (n : Nat) {c d : Co} {i k : Nat}, flgR l n c i = .ok (d, k) → d.fl.length ≤ max c.fl.length l.length
  | 0, c, d, i, k, h => by cases h; omega
  | n + 1, c, d, i, k, h => by
    unfold flgR at h
    split at h
    · split at h
      · cases h
      · have := flg_sz n h; exact this
    · split at h
      · split at h
        · cases h
        · have := flg_sz n h; exact this
      · split at h
        · split at h
          · cases h
          · have := flg_sz n h; exact this
        · split at h
          · obtain ⟨t, rfl, ht⟩ := fil_sz h
            show t.length ≤ _
            omega
          · unfold endC at h
            split at h
            · cases h
            · cases h; omega
theorem tx_sz : ∀ (r : List UInt8) (p : Nat) (t : List UInt8), (txR r p t).1.length ≤ t.length + r.length + 1
  | [], p, t => by simp [txR]
  | [b], p, t => by
    unfold txR
    split
    · simp
    · split <;> simp
  | b :: c :: r, p, t => by
    unfold txR
    split
    · simp only [List.length_append, List.length_cons, List.length_nil]; omega
    · split
      · have := tx_sz r (p + 2) (t ++ [c])
        simp only [List.length_append, List.length_cons, List.length_nil] at this ⊢; omega
      · have := tx_sz (c :: r) (p + 1) (t ++ [b])
        simp only [List.length_append, List.length_cons, List.length_nil] at this ⊢; omega
theorem rst_sz {G : Gr} {l : List UInt8} {c d : Co} {i k : Nat} (hB : Bg c) (hl : l.length ≤ 4096) (ha : c.a.k ≤ 3 ∧ c.b.k ≤ 3 ∧ c.a.ln ≤ 1000000000 ∧ c.b.ln ≤ 1000000000 ∧ c.a.re.length ≤ 5000 ∧ c.b.re.length ≤ 5000) (h : rstR G l c i = .ok (d, k)) : SzC d := by
  have Z : SzC c := ⟨ha.1, ha.2.1, ha.2.2.1, ha.2.2.2.1, by rw [hB.nh]; decide, ha.2.2.2.2.1, ha.2.2.2.2.2, by rw [hB.lb]; decide, by rw [hB.tx]; decide, by rw [hB.fl]; decide, by rw [hB.re]; decide, by rw [hB.fr]; decide, by rw [hB.to]; decide, by rw [hB.ps]; decide⟩
  unfold rstR at h
  split at h
  · cases h; exact Z
  split at h
  · unfold txtC txtR at h
    split at h
    · cases h
    · rename_i ht
      split at ht
      · have e := Except.ok.inj ht
        cases h
        refine { Z with tx := ?_ }
        have h2 : (scanP.textR l i).1.length ≤ l.length + 1 := by
          unfold scanP.textR
          simp only
          split
          · rename_i b c r hd
            have hln := congrArg List.length hd
            rw [List.length_drop] at hln
            simp only [List.length_cons] at hln
            split
            · split
              · simp
              · have := tx_sz r (xab l i + 2) []
                simp only [List.length_nil] at this; omega
            · simp
          · simp
        rw [(Prod.mk.inj e).1] at h2
        exact Nat.le_trans h2 (by omega)
      · cases ht
  split at h
  · unfold labC labR at h
    split at h
    · cases h
    · rename_i ht
      split at ht
      · cases ht
      · rename_i hn
        have e := Except.ok.inj ht
        cases h
        refine { Z with lb := ?_ }
        have h2 : ¬ 32 < (xcw l i).1.length := fun e => hn (.inl e)
        rw [e] at h2
        exact Nat.le_trans (Nat.le_of_not_lt h2) (by decide)
  split at h
  · obtain ⟨t, rfl, ht⟩ := fil_sz h
    exact { Z with fl := by show t.length ≤ 5000; omega }
  split at h
  · unfold sedR at h
    split at h
    · cases h
    rename_i hd
    split at h
    · cases h
    rename_i hp1
    split at h
    · cases h
    split at h
    · cases h
    split at h
    · cases h
    split at h
    · cases h
    split at h
    · cases h
    rename_i d' k' hf
    cases h
    have K := xen _ (by show c.nh ≤ 512; rw [hB.nh]; decide) hf
    have X := flg_wf _ hf
    have S := flg_sz _ hf
    have hre := (xbd hp1 (xb4 hd).2.1).1
    refine ⟨?_, ?_, ?_, ?_, ?_, ?_, ?_, ?_, ?_, ?_, ?_, ?_, ?_, ?_⟩
    · show d'.a.k ≤ 3; rw [K.a]; exact Z.ak
    · show d'.b.k ≤ 3; rw [K.b]; exact Z.bk
    · show d'.a.ln ≤ _; rw [K.a]; exact Z.al
    · show d'.b.ln ≤ _; rw [K.b]; exact Z.bl
    · show max d'.nh 1 ≤ _; have := K.nh; omega
    · show d'.a.re.length ≤ _; rw [K.a]; exact Z.ar
    · show d'.b.re.length ≤ _; rw [K.b]; exact Z.br
    · show d'.lb.length ≤ _; rw [K.lb]; exact Z.lb
    · show d'.tx.length ≤ _; rw [K.tx]; exact Z.tx
    · have e0 : c.fl.length = 0 := by rw [hB.fl]; rfl
      show d'.fl.length ≤ 5000
      have : d'.fl.length ≤ max c.fl.length l.length := S
      omega
    · show d'.re.length ≤ _; rw [X.re]; exact Nat.le_trans hre (by omega)
    · show d'.fr.length ≤ _; rw [K.fr]; exact Z.fr
    · show d'.to.length ≤ _; rw [K.to]; exact Z.to
    · show bulkP d'.ps ≤ _; rw [X.ps]; exact Nat.le_trans (parse_wt _) (by decide)
  split at h
  · split at h
    · cases h
    · rename_i c' k' ht
      unfold endC at h
      split at h
      · cases h
      · cases h
        unfold tabR at ht
        split at ht
        · cases ht
        rename_i hd
        split at ht
        · cases ht
        rename_i h1
        split at ht
        · cases ht
        rename_i h2
        split at ht
        · cases ht
        rename_i hn
        cases ht
        have e1 := sid_sz h1 (xb4 hd).2.1
        have e2 : ∀ {f t : List UInt8}, ¬ (f.length ≠ t.length ∨ twB f = true) → f.length ≤ l.length → t.length ≤ l.length := fun hn h => by
          have : _ = _ := Decidable.not_not.1 fun e => hn (.inl e)
          omega
        exact { Z with fr := Nat.le_trans e1 (by omega), to := Nat.le_trans (e2 hn e1) (by omega) }
  split at h
  · unfold endC at h
    split at h
    · cases h
    · cases h; exact Z
  · cases h
theorem cmd_sz {G : Gr} {l : List UInt8} {i k : Nat} {c : Co} (hl : l.length ≤ 4096) (h : cmdR G l i = .ok (c, k)) : SzC c := by
  unfold cmdR at h
  split at h
  · cases h
  rename_i ht
  split at h
  · cases h
  obtain ⟨s1, s2⟩ := two_sz2 ht
  obtain ⟨w1, w2⟩ := two_wf ht
  have aln : ∀ {a : Adr}, WfA G a → a.ln ≤ 1000000000 := fun {a} w => by
    have := w.le
    rcases Nat.lt_or_ge a.k 1 with h | h
    · rw [w.z (by omega)]; decide
    · rcases Nat.lt_or_ge a.k 2 with h2 | h2
      · have := (w.l (by omega)).2.1; omega
      · rcases Nat.lt_or_ge a.k 3 with h3 | h3
        · rw [(w.d (by omega)).1]; decide
        · rw [(w.m (by omega)).1]; decide
  exact rst_sz ⟨rfl, rfl, rfl, rfl, rfl, rfl, rfl, rfl, rfl, rfl, two_ad ht⟩ hl ⟨w1.le, w2.le, aln w1, aln w2, Nat.le_trans s1 (by omega), Nat.le_trans s2 (by omega)⟩ h
theorem all_sz {G : Gr} {l : List UInt8} (hl : l.length ≤ 4096) : ∀ (n i : Nat) (acc cs : List Co), (∀ c ∈ acc, SzC c) → allR G l n i acc = .ok cs → ∀ c ∈ cs, SzC c
  | 0, i, acc, cs, ha, h => by cases h; exact ha
  | n + 1, i, acc, cs, ha, h => by
    unfold allR at h
    split at h
    · cases h; exact ha
    · split at h
      · cases h
      · rename_i hc
        refine all_sz hl n _ _ cs (fun c hm => ?_) h
        rw [List.mem_append, List.mem_singleton] at hm
        rcases hm with hm | rfl
        · exact ha c hm
        · exact cmd_sz hl hc
theorem all_num {G : Gr} {l : List UInt8} : ∀ (n i : Nat) (acc cs : List Co), allR G l n i acc = .ok cs → cs.length ≤ acc.length + n
  | 0, i, acc, cs, h => by cases h; omega
  | n + 1, i, acc, cs, h => by
    unfold allR at h
    split at h
    · cases h; omega
    · split at h
      · cases h
      · have := all_num n _ _ cs h
        rw [List.length_append, List.length_singleton] at this
        omega
theorem scr_sz {G : Gr} {l : List UInt8} (h : (scrR G l).2.2.1 = 0) : (∀ c ∈ (scrR G l).1, SzC c) ∧ (scrR G l).1.length ≤ 4097 := by
  obtain ⟨hl, cs, h1, h2⟩ := xhc h
  rw [h2]
  exact ⟨all_sz hl _ _ _ _ (fun c hc => by simp at hc) h1, by have := all_num _ _ _ _ h1; simp only [List.length_nil] at this; show cs.length ≤ 4097; omega⟩

end sho
end Go.Proofs.YtidgnebbibkmhaaGreatDoor
