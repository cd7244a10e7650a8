/- show, pure: parts that are read, written and read again. -/
import Derived.Test.YtidgnebbibkmhaaGreatDoorKWa
set_option maxRecDepth 100000
set_option maxHeartbeats 4000000
namespace Go.Proofs.YtidgnebbibkmhaaGreatDoor
open Go.RowKit
open scanP scrP tpl ytb
namespace sho

theorem text_bad (p : Pt) (r : List Pt) (l : List UInt8) (h : p.g < -1 ∨ 9 < p.g) : tpl.textR (p :: r) l = none := by
  rw [tpl.textR, if_pos (by unfold badT; exact decide_eq_true h)]
theorem text_ok (p : Pt) (r : List Pt) (l : List UInt8) (h : ¬ (p.g < -1 ∨ 9 < p.g)) : tpl.textR (p :: r) l = tpl.textR r (l ++ oneT p) := by
  rw [tpl.textR, if_neg (by unfold badT; rw [decide_eq_true_eq]; exact h)]
def gaO (x : Ga) (p : Pt) : Ga := if p.g = -1 then ⟨x.ps, x.bs ++ p.t.data.toList⟩ else x.group p.g
def gaL (x : Ga) (l : List Pt) : Ga := l.foldl gaO x
theorem u8_eq {b : UInt8} {n : Nat} (hn : n < 256) (h : b.toNat = n) : b = UInt8.ofNat n := by
  apply UInt8.toNat_inj.1
  rw [h]
  have : (UInt8.ofNat n).toNat = n % 256 := rfl
  omega
theorem esc_run : ∀ (t rest : List UInt8) (k : Nat) (x : Ga), ∃ k', runP (escL t ++ rest) k x = runP rest k' ⟨x.ps, x.bs ++ t⟩
  | [], rest, k, x => ⟨k, by rw [escL, List.nil_append, List.append_nil]⟩
  | b :: r, rest, k, x => by
    have step : ∀ k1, ∃ k', runP (escL r ++ rest) k1 (x.plain b) = runP rest k' ⟨x.ps, x.bs ++ b :: r⟩ := fun k1 => by
      obtain ⟨k', h⟩ := esc_run r rest k1 (x.plain b)
      refine ⟨k', ?_⟩
      rw [h]
      simp [Ga.plain]
    rw [escL]
    by_cases c1 : b.toNat = 10
    · rw [if_pos c1]
      have e : x.esc 110 = x.plain b := by
        rw [u8_eq (by omega) c1]
        rfl
      obtain ⟨k', h⟩ := step (k + 2)
      refine ⟨k', ?_⟩
      rw [show ([92, 110] ++ escL r ++ rest) = 92 :: 110 :: (escL r ++ rest) by simp, xl2 _ _ _ _ _ (by decide), e]
      exact h
    · rw [if_neg c1]
      by_cases c2 : b.toNat = 92 ∨ b.toNat = 38
      · rw [if_pos c2]
        have e : x.esc b = x.plain b := by
          unfold Ga.esc
          rw [if_neg (by omega), if_neg (by omega)]
        obtain ⟨k', h⟩ := step (k + 2)
        refine ⟨k', ?_⟩
        rw [show ([92, b] ++ escL r ++ rest) = 92 :: b :: (escL r ++ rest) by simp, xl2 _ _ _ _ _ (by decide), e]
        exact h
      · rw [if_neg c2]
        obtain ⟨k', h⟩ := step (k + 1)
        refine ⟨k', ?_⟩
        rw [show ([b] ++ escL r ++ rest) = b :: (escL r ++ rest) by simp, xom _ _ _ _ (by omega) c1 (by omega)]
        exact h
theorem one_run (p : Pt) (h : ¬ (p.g < -1 ∨ 9 < p.g)) (rest : List UInt8) (k : Nat) (x : Ga) : ∃ k', runP (oneT p ++ rest) k x = runP rest k' (gaO x p) := by
  unfold oneT gaO
  by_cases h1 : p.g = -1
  · rw [if_pos h1, if_pos h1]
    exact esc_run _ _ _ _
  · rw [if_neg h1, if_neg h1]
    by_cases h0 : p.g = 0
    · rw [if_pos h0, h0]
      exact ⟨k + 1, xl0 _ _ _ _ (by decide)⟩
    · rw [if_neg h0]
      obtain ⟨n, hn⟩ : ∃ n : Nat, p.g = (n : Int) := ⟨p.g.toNat, by omega⟩
      rw [hn, Int.toNat_natCast]
      have e8 : (UInt8.ofNat (48 + n)).toNat = 48 + n := by
        have e9 : (UInt8.ofNat (48 + n)).toNat = (48 + n) % 256 := rfl
        omega
      refine ⟨k + 2, ?_⟩
      rw [show ([92, UInt8.ofNat (48 + n)] ++ rest) = 92 :: UInt8.ofNat (48 + n) :: rest by simp, xl2 _ _ _ _ _ (by decide)]
      unfold Ga.esc
      rw [e8, if_pos (by omega), Nat.add_sub_cancel_left]
def okPs (l : List Pt) : Prop := ∀ p ∈ l, ¬ (p.g < -1 ∨ 9 < p.g)
theorem text_run : ∀ (ps : List Pt) (l L : List UInt8), tpl.textR ps l = some L → okPs ps ∧ ∃ body, L = l ++ body ∧ ∀ (rest : List UInt8) (k : Nat) (x : Ga), ∃ k', runP (body ++ rest) k x = runP rest k' (gaL x ps)
  | [], l, L, h => by
    cases h
    exact ⟨by intro p hp; simp at hp, [], by simp, fun rest k x => ⟨k, rfl⟩⟩
  | p :: r, l, L, h => by
    by_cases hb : p.g < -1 ∨ 9 < p.g
    · rw [text_bad p r l hb] at h
      cases h
    · rw [text_ok p r l hb] at h
      obtain ⟨h1, body, rfl, h2⟩ := text_run r _ _ h
      refine ⟨fun q hq => (List.mem_cons.1 hq).elim (fun e => by rw [e]; exact hb) (fun e => h1 q e), oneT p ++ body, by simp, fun rest k x => ?_⟩
      obtain ⟨k1, e1⟩ := one_run p hb (body ++ rest) k x
      obtain ⟨k2, e2⟩ := h2 rest k1 (gaO x p)
      refine ⟨k2, ?_⟩
      rw [List.append_assoc, e1, e2]
      rfl
theorem text_some : ∀ (ps : List Pt) (l : List UInt8), okPs ps → ∃ L, tpl.textR ps l = some L
  | [], l, _ => ⟨l, rfl⟩
  | p :: r, l, h => by
    rw [text_ok p r l (h p List.mem_cons_self)]
    exact text_some r _ (fun q hq => h q (List.mem_cons_of_mem _ hq))
theorem parse_text {ps : List Pt} {L : List UInt8} (h : tpl.textR ps [] = some L) (hL : L.length ≤ 4096) : okPs ps ∧ xap L = ((gaL ⟨[], []⟩ ps).out, 0, 0) := by
  obtain ⟨h1, body, rfl, h2⟩ := text_run ps [] L h
  refine ⟨h1, ?_⟩
  unfold xap
  rw [if_neg (by omega)]
  obtain ⟨k', e⟩ := h2 [] 0 ⟨[], []⟩
  rw [List.append_nil] at e
  rw [e, xlz]
theorem mem_out {x : Ga} {p : Pt} (h : p ∈ x.out.ps) : p ∈ x.ps ∨ p.g = -1 := by
  unfold Ga.out at h
  split at h
  · exact .inl h
  · rw [List.mem_append, List.mem_singleton] at h
    rcases h with h | rfl
    · exact .inl h
    · exact .inr rfl
theorem ok_out {x : Ga} (h : okPs x.ps) : okPs x.out.ps := fun p hp => by
  rcases mem_out hp with h1 | h1
  · exact h p h1
  · omega
theorem ok_grp {x : Ga} (h : okPs x.ps) (n : Int) (hn : ¬ (n < -1 ∨ 9 < n)) : okPs (x.group n).ps := fun p hp => by
  unfold Ga.group at hp
  rw [List.mem_append, List.mem_singleton] at hp
  rcases hp with hp | rfl
  · exact ok_out h p hp
  · exact hn
def nfG (x : Ga) : Prop := gaL ⟨[], []⟩ x.ps = ⟨x.ps, []⟩ ∧ okPs x.ps
theorem gaL_app (x : Ga) (l m : List Pt) : gaL x (l ++ m) = gaL (gaL x l) m := List.foldl_append
theorem nf_out {x : Ga} (h : nfG x) : (gaL ⟨[], []⟩ x.out.ps).out = x.out := by
  unfold Ga.out
  by_cases hb : x.bs = []
  · rw [if_pos hb, h.1]
    rw [if_pos rfl, ← hb]
  · rw [if_neg hb, gaL_app, h.1]
    have e : gaL ⟨x.ps, []⟩ [(⟨-1, bst x.bs⟩ : Pt)] = ⟨x.ps, x.bs⟩ := by
      simp only [gaL, List.foldl_cons, List.foldl_nil, gaO, if_true, xbu, List.nil_append]
    rw [e, if_neg hb]
theorem nf_group {x : Ga} (h : nfG x) (n : Int) (hn : 0 ≤ n ∧ n ≤ 9) : nfG (x.group n) := by
  refine ⟨?_, ok_grp h.2 n (by omega)⟩
  have e : gaL ⟨[], []⟩ (x.out.ps ++ [⟨n, bst []⟩]) = gaO (gaL ⟨[], []⟩ x.out.ps) ⟨n, bst []⟩ := by rw [gaL_app]; rfl
  show gaL ⟨[], []⟩ (x.out.ps ++ [⟨n, bst []⟩]) = ⟨x.out.ps ++ [⟨n, bst []⟩], []⟩
  rw [e]
  unfold gaO
  rw [if_neg (by simp only; omega)]
  unfold Ga.group
  rw [nf_out h]
theorem nf_esc {x : Ga} (h : nfG x) (c : UInt8) : nfG (x.esc c) := by
  unfold Ga.esc
  split
  · exact nf_group h _ (by omega)
  · split <;> exact h
theorem run_nf : ∀ (l : List UInt8) (k : Nat) (x : Ga), nfG x → (runP l k x).2.1 = 0 → ∃ y, (runP l k x).1 = y.out ∧ nfG y
  | [], k, x, h, _ => by
    rw [xlz]
    exact ⟨x, rfl, h⟩
  | b :: r, k, x, h, h0 => by
    by_cases c1 : b.toNat = 38
    · rw [xl0 _ _ _ _ c1] at h0 ⊢
      exact run_nf r _ _ (nf_group h 0 (by omega)) h0
    · by_cases c2 : b.toNat = 10
      · rw [xol _ _ _ _ c2] at h0; simp at h0
      · by_cases c3 : b.toNat = 92
        · cases r with
          | nil => rw [xl1 _ _ _ c3] at h0; simp at h0
          | cons c q =>
            rw [xl2 _ _ _ _ _ c3] at h0 ⊢
            exact run_nf q _ _ (nf_esc h c) h0
        · rw [xom _ _ _ _ c1 c2 c3] at h0 ⊢
          exact run_nf r _ (x.plain b) h h0
  termination_by l => l.length
def NfP (ps : List Pt) : Prop := (gaL ⟨[], []⟩ ps).out.ps = ps ∧ okPs ps
theorem parse_nf {u : List UInt8} (h : (xap u).2.1 = 0) : NfP (xap u).1.ps := by
  unfold xap at h ⊢
  split
  · exact ⟨rfl, fun p hp => by simp at hp⟩
  · rename_i hl
    rw [if_neg hl] at h
    obtain ⟨y, e, hy⟩ := run_nf u 0 ⟨[], []⟩ ⟨rfl, fun p hp => by simp at hp⟩ h
    rw [e]
    exact ⟨congrArg Ga.ps (nf_out hy), ok_out hy.2⟩
/-- What is written of parts is a piece, and is read as they are. -/
theorem esc_pc : ∀ t : List UInt8, pcB true (escL t) = true
  | [] => rfl
  | b :: r => by
    have ih := esc_pc r
    unfold escL
    split
    · exact (pc_two true (.inr rfl) _).trans ih
    · rename_i h1
      split
      · exact (pc_two true (.inr rfl) _).trans ih
      · rename_i h2
        exact (pc_one true (fun e => h1 (by rw [e]; rfl)) (fun e => h2 (.inl (by rw [e]; rfl))) _).trans ih
theorem pc_app (ln : Bool) : ∀ x y : List UInt8, pcB ln x = true → pcB ln (x ++ y) = pcB ln y
  | [], y, _ => rfl
  | [b], y, h => by
    simp only [pcB, Bool.and_eq_true, decide_eq_true_eq] at h
    exact pc_one ln h.1 h.2 y
  | b :: c :: r, y, h => by
    by_cases h1 : b = 92
    · subst h1
      simp only [pcB, if_true, Bool.and_eq_true, Bool.or_eq_true, decide_eq_true_eq] at h
      exact (pc_two ln h.1 _).trans (pc_app ln r y h.2)
    · rw [pcB, if_neg h1, Bool.and_eq_true, decide_eq_true_eq] at h
      exact (pc_one ln h.1 h1 _).trans (pc_app ln (c :: r) y h.2)
theorem one_pc (p : Pt) : pcB true (oneT p) = true := by
  unfold oneT
  split
  · exact esc_pc _
  · split
    · rfl
    · exact pc_two true (.inr rfl) []
theorem text_pc : ∀ (ps : List Pt) (l L : List UInt8), pcB true l = true → tpl.textR ps l = some L → pcB true L = true
  | [], l, L, hl, h => by cases h; exact hl
  | p :: r, l, L, hl, h => by
    by_cases hb : p.g < -1 ∨ 9 < p.g
    · rw [text_bad p r l hb] at h; cases h
    · rw [text_ok p r l hb] at h
      exact text_pc r _ L ((pc_app true l _ hl).trans (one_pc p)) h
theorem psW_ok {ps : List Pt} (h : NfP ps) : pcB true (psW ps) = true ∧ ((psW ps).length ≤ 4096 → (xap (psW ps)).2.1 = 0 ∧ (xap (psW ps)).1.ps = ps) := by
  obtain ⟨L, hL⟩ := text_some ps [] h.2
  have e : psW ps = L := by unfold psW; rw [hL]; rfl
  rw [e]
  refine ⟨text_pc ps [] L rfl hL, fun hl => ?_⟩
  rw [(parse_text hL hl).2]
  exact ⟨rfl, h.1⟩

end sho
end Go.Proofs.YtidgnebbibkmhaaGreatDoor
