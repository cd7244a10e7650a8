/- template: parts that are written are read as parts that make the same; what is read, written and read again is the same. -/
import Derived.Test.YtbncokfpkkmoiaaTr
import Derived.Test.YtbncokfpkkmoiaaTh
namespace Go.Proofs.Ytbncokfpkkmoiaa

/-- A part gathered. -/
def gaO (x : Ga) (p : Pt) : Ga := if p.g = -1 then ⟨x.ps, x.bs ++ p.t.data.toList⟩ else x.group p.g
def gaL (x : Ga) (l : List Pt) : Ga := l.foldl gaO x

theorem u8_eq {b : UInt8} {n : Nat} (hn : n < 256) (h : b.toNat = n) : b = UInt8.ofNat n := by
  apply UInt8.toNat_inj.1
  rw [h]
  have : (UInt8.ofNat n).toNat = n % 256 := rfl
  omega

theorem esc_run : ∀ (t rest : List UInt8) (k : Nat) (x : Ga), ∃ k', runP (escL t ++ rest) k x = runP rest k' ⟨x.ps, x.bs ++ t⟩
  | [], rest, k, x => ⟨k, by rw [escL, List.nil_append, List.append_nil]⟩
  | b :: r, rest, k, x => by
    have step : ∀ k1, ∃ k', runP (escL r ++ rest) k1 (x.plain b) = runP rest k' ⟨x.ps, x.bs ++ b :: r⟩ := fun k1 => by
      obtain ⟨k', h⟩ := esc_run r rest k1 (x.plain b)
      refine ⟨k', ?_⟩
      rw [h]
      simp [Ga.plain]
    rw [escL]
    by_cases c1 : b.toNat = 10
    · rw [if_pos c1]
      have e : x.esc 110 = x.plain b := by
        rw [u8_eq (by omega) c1]
        rfl
      obtain ⟨k', h⟩ := step (k + 2)
      refine ⟨k', ?_⟩
      rw [show ([92, 110] ++ escL r ++ rest) = 92 :: 110 :: (escL r ++ rest) by simp, runP_esc _ _ _ _ _ (by decide), e]
      exact h
    · rw [if_neg c1]
      by_cases c2 : b.toNat = 92 ∨ b.toNat = 38
      · rw [if_pos c2]
        have e : x.esc b = x.plain b := by
          unfold Ga.esc
          rw [if_neg (by omega), if_neg (by omega)]
        obtain ⟨k', h⟩ := step (k + 2)
        refine ⟨k', ?_⟩
        rw [show ([92, b] ++ escL r ++ rest) = 92 :: b :: (escL r ++ rest) by simp, runP_esc _ _ _ _ _ (by decide), e]
        exact h
      · rw [if_neg c2]
        obtain ⟨k', h⟩ := step (k + 1)
        refine ⟨k', ?_⟩
        rw [show ([b] ++ escL r ++ rest) = b :: (escL r ++ rest) by simp, runP_pl _ _ _ _ (by omega) c1 (by omega)]
        exact h

theorem one_run (p : Pt) (h : ¬ (p.g < -1 ∨ 9 < p.g)) (rest : List UInt8) (k : Nat) (x : Ga) : ∃ k', runP (oneT p ++ rest) k x = runP rest k' (gaO x p) := by
  unfold oneT gaO
  by_cases h1 : p.g = -1
  · rw [if_pos h1, if_pos h1]
    exact esc_run _ _ _ _
  · rw [if_neg h1, if_neg h1]
    by_cases h0 : p.g = 0
    · rw [if_pos h0, h0]
      exact ⟨k + 1, runP_amp _ _ _ _ (by decide)⟩
    · rw [if_neg h0]
      obtain ⟨n, hn⟩ : ∃ n : Nat, p.g = (n : Int) := ⟨p.g.toNat, by omega⟩
      rw [hn, Int.toNat_natCast]
      have e8 : (UInt8.ofNat (48 + n)).toNat = 48 + n := by
        have e9 : (UInt8.ofNat (48 + n)).toNat = (48 + n) % 256 := rfl
        omega
      refine ⟨k + 2, ?_⟩
      rw [show ([92, UInt8.ofNat (48 + n)] ++ rest) = 92 :: UInt8.ofNat (48 + n) :: rest by simp, runP_esc _ _ _ _ _ (by decide)]
      unfold Ga.esc
      rw [e8, if_pos (by omega), Nat.add_sub_cancel_left]

def okPs (l : List Pt) : Prop := ∀ p ∈ l, ¬ (p.g < -1 ∨ 9 < p.g)

theorem text_run : ∀ (ps : List Pt) (l L : List UInt8), textR ps l = some L → okPs ps ∧ ∃ body, L = l ++ body ∧ ∀ (rest : List UInt8) (k : Nat) (x : Ga), ∃ k', runP (body ++ rest) k x = runP rest k' (gaL x ps)
  | [], l, L, h => by
    cases h
    exact ⟨by intro p hp; simp at hp, [], by simp, fun rest k x => ⟨k, rfl⟩⟩
  | p :: r, l, L, h => by
    by_cases hb : p.g < -1 ∨ 9 < p.g
    · rw [text_bad p r l hb] at h
      cases h
    · rw [text_ok p r l hb] at h
      obtain ⟨h1, body, rfl, h2⟩ := text_run r _ _ h
      refine ⟨fun q hq => (List.mem_cons.1 hq).elim (fun e => by rw [e]; exact hb) (fun e => h1 q e), oneT p ++ body, by simp, fun rest k x => ?_⟩
      obtain ⟨k1, e1⟩ := one_run p hb (body ++ rest) k x
      obtain ⟨k2, e2⟩ := h2 rest k1 (gaO x p)
      refine ⟨k2, ?_⟩
      rw [List.append_assoc, e1, e2]
      rfl
theorem text_some : ∀ (ps : List Pt) (l : List UInt8), okPs ps → ∃ L, textR ps l = some L
  | [], l, _ => ⟨l, rfl⟩
  | p :: r, l, h => by
    rw [text_ok p r l (h p List.mem_cons_self)]
    exact text_some r _ (fun q hq => h q (List.mem_cons_of_mem _ hq))

/-- What is written is read so. -/
theorem parse_text {ps : List Pt} {L : List UInt8} (h : textR ps [] = some L) (hL : L.length ≤ 4096) : okPs ps ∧ parseR L = ((gaL ⟨[], []⟩ ps).out, 0, 0) := by
  obtain ⟨h1, body, rfl, h2⟩ := text_run ps [] L h
  refine ⟨h1, ?_⟩
  unfold parseR
  rw [if_neg (by omega)]
  obtain ⟨k', e⟩ := h2 [] 0 ⟨[], []⟩
  rw [List.append_nil] at e
  rw [e, runP_nil]

theorem refs_app (l m : List Pt) (n : Int) : refsN (l ++ m) n = refsN m (refsN l n) := by
  induction l generalizing n with
  | nil => rfl
  | cons p r ih => simp only [List.cons_append, refsN, ih]
theorem refs_ge (l : List Pt) (n : Int) : n ≤ refsN l n := by
  induction l generalizing n with
  | nil => exact Int.le_refl _
  | cons p r ih =>
    simp only [refsN]
    have := ih (max n p.g)
    omega
theorem refs_out (x : Ga) : refsN x.out.ps 0 = refsN x.ps 0 := by
  unfold Ga.out
  split
  · rfl
  · rw [refs_app]
    have := refs_ge x.ps 0
    simp only [refsN]
    omega
theorem refs_gaO (x : Ga) (p : Pt) : refsN (gaO x p).ps 0 = max (refsN x.ps 0) p.g := by
  unfold gaO
  by_cases h1 : p.g = -1
  · rw [if_pos h1]
    have := refs_ge x.ps 0
    simp only
    omega
  · rw [if_neg h1]
    unfold Ga.group
    rw [refs_app, refs_out]
    rfl
theorem refs_gaL (ps : List Pt) (x : Ga) : refsN (gaL x ps).ps 0 = refsN ps (refsN x.ps 0) := by
  induction ps generalizing x with
  | nil => rfl
  | cons p r ih =>
    show refsN (gaL (gaO x p) r).ps 0 = refsN r (max (refsN x.ps 0) p.g)
    rw [ih, refs_gaO x p]
theorem refs_back (ps : List Pt) : refsN (gaL ⟨[], []⟩ ps).out.ps 0 = refsN ps 0 := by
  rw [refs_out, refs_gaL ps _]
  rfl

/-- All that parts make, one behind the other. -/
def flatP (s : List UInt8) (sp : List (Int × Int)) (l : List Pt) : List UInt8 := (l.map (pieceL s sp)).flatten
theorem flat_app (s : List UInt8) (sp : List (Int × Int)) (l m : List Pt) : flatP s sp (l ++ m) = flatP s sp l ++ flatP s sp m := by simp [flatP]
theorem flat_out (s : List UInt8) (sp : List (Int × Int)) (x : Ga) : flatP s sp x.out.ps = flatP s sp x.ps ++ x.bs := by
  unfold Ga.out
  split
  · rename_i h
    rw [h, List.append_nil]
  · rw [flat_app]
    congr 1
    show pieceL s sp ⟨-1, bst x.bs⟩ ++ [] = x.bs
    unfold pieceL
    rw [if_pos rfl, List.append_nil]
    exact bst_list _
theorem piece_group (s : List UInt8) (sp : List (Int × Int)) (p : Pt) (h : p.g ≠ -1) : pieceL s sp ⟨p.g, bst []⟩ = pieceL s sp p := by
  unfold pieceL
  rw [if_neg h, if_neg h]
theorem flat_gaO (s : List UInt8) (sp : List (Int × Int)) (x : Ga) (p : Pt) : flatP s sp (gaO x p).out.ps = flatP s sp x.out.ps ++ pieceL s sp p := by
  unfold gaO
  by_cases h1 : p.g = -1
  · rw [if_pos h1, flat_out, flat_out]
    simp only
    rw [List.append_assoc]
    congr 2
    unfold pieceL
    rw [if_pos h1]
  · rw [if_neg h1, flat_out]
    unfold Ga.group
    simp only [List.append_nil]
    rw [flat_app]
    congr 1
    show pieceL s sp ⟨p.g, bst []⟩ ++ [] = _
    rw [List.append_nil, piece_group s sp p h1]
theorem flat_gaL (s : List UInt8) (sp : List (Int × Int)) (ps : List Pt) (x : Ga) : flatP s sp (gaL x ps).out.ps = flatP s sp x.out.ps ++ flatP s sp ps := by
  induction ps generalizing x with
  | nil => simp [gaL, flatP]
  | cons p r ih =>
    show flatP s sp (gaL (gaO x p) r).out.ps = _
    rw [ih, flat_gaO, List.append_assoc]
    rfl

theorem build_all (s : List UInt8) (sp : List (Int × Int)) : ∀ (ps : List Pt) (acc : List UInt8), (∀ p ∈ ps, ¬ p.g < -1) → acc.length ≤ 1024 → buildR s sp ps acc = if (acc ++ flatP s sp ps).length ≤ 1024 then (acc ++ flatP s sp ps, 0) else ([], 15)
  | [], acc, _, h => by
    have e : flatP s sp [] = [] := rfl
    rw [e, List.append_nil, if_pos h]
    rfl
  | p :: r, acc, hp, h => by
    have e : flatP s sp (p :: r) = pieceL s sp p ++ flatP s sp r := rfl
    by_cases hb : 1024 < acc.length + (pieceL s sp p).length
    · rw [build_big s sp p r acc (hp p List.mem_cons_self) hb, e, if_neg]
      simp only [List.length_append]
      omega
    · rw [build_fit s sp p r acc (hp p List.mem_cons_self) hb, build_all s sp r _ (fun q hq => hp q (List.mem_cons_of_mem _ hq)) (by rw [List.length_append]; omega), e, List.append_assoc]

theorem mem_out {x : Ga} {p : Pt} (h : p ∈ x.out.ps) : p ∈ x.ps ∨ p.g = -1 := by
  unfold Ga.out at h
  split at h
  · exact .inl h
  · rw [List.mem_append, List.mem_singleton] at h
    rcases h with h | rfl
    · exact .inl h
    · exact .inr rfl
theorem ok_out {x : Ga} (h : okPs x.ps) : okPs x.out.ps := fun p hp => by
  rcases mem_out hp with h1 | h1
  · exact h p h1
  · omega
theorem ok_grp {x : Ga} (h : okPs x.ps) (n : Int) (hn : ¬ (n < -1 ∨ 9 < n)) : okPs (x.group n).ps := fun p hp => by
  unfold Ga.group at hp
  rw [List.mem_append, List.mem_singleton] at hp
  rcases hp with hp | rfl
  · exact ok_out h p hp
  · exact hn
theorem ok_gaL (ps : List Pt) (x : Ga) (h : okPs ps) (hx : okPs x.ps) : okPs (gaL x ps).ps := by
  induction ps generalizing x with
  | nil => exact hx
  | cons p r ih =>
    refine ih (gaO x p) (fun q hq => h q (List.mem_cons_of_mem _ hq)) ?_
    unfold gaO
    split
    · exact hx
    · exact ok_grp hx _ (h p List.mem_cons_self)

/-- The parts that are read make what the parts made that were written. -/
theorem build_back (s : List UInt8) (sp : List (Int × Int)) {ps : List Pt} (h : okPs ps) : buildR s sp (gaL ⟨[], []⟩ ps).out.ps [] = buildR s sp ps [] := by
  have hy : okPs (gaL ⟨[], []⟩ ps).out.ps := ok_out (ok_gaL ps _ h (fun p hp => by simp at hp))
  rw [build_all s sp _ [] (fun p hp h1 => hy p hp (.inl h1)) (by simp), build_all s sp ps [] (fun p hp h1 => h p hp (.inl h1)) (by simp), flat_gaL]
  rfl

/-- Parts as Parse makes them. -/
def nfG (x : Ga) : Prop := gaL ⟨[], []⟩ x.ps = ⟨x.ps, []⟩ ∧ okPs x.ps
theorem gaL_app (x : Ga) (l m : List Pt) : gaL x (l ++ m) = gaL (gaL x l) m := List.foldl_append
theorem nf_out {x : Ga} (h : nfG x) : (gaL ⟨[], []⟩ x.out.ps).out = x.out := by
  unfold Ga.out
  by_cases hb : x.bs = []
  · rw [if_pos hb, h.1]
    rw [if_pos rfl, ← hb]
  · rw [if_neg hb, gaL_app, h.1]
    have e : gaL ⟨x.ps, []⟩ [(⟨-1, bst x.bs⟩ : Pt)] = ⟨x.ps, x.bs⟩ := by
      simp only [gaL, List.foldl_cons, List.foldl_nil, gaO, if_true, bst_list, List.nil_append]
    rw [e, if_neg hb]
theorem nf_group {x : Ga} (h : nfG x) (n : Int) (hn : 0 ≤ n ∧ n ≤ 9) : nfG (x.group n) := by
  refine ⟨?_, ok_grp h.2 n (by omega)⟩
  have e : gaL ⟨[], []⟩ (x.out.ps ++ [⟨n, bst []⟩]) = gaO (gaL ⟨[], []⟩ x.out.ps) ⟨n, bst []⟩ := by rw [gaL_app]; rfl
  show gaL ⟨[], []⟩ (x.out.ps ++ [⟨n, bst []⟩]) = ⟨x.out.ps ++ [⟨n, bst []⟩], []⟩
  rw [e]
  unfold gaO
  rw [if_neg (by simp only; omega)]
  unfold Ga.group
  rw [nf_out h]
theorem nf_esc {x : Ga} (h : nfG x) (c : UInt8) : nfG (x.esc c) := by
  unfold Ga.esc
  split
  · exact nf_group h _ (by omega)
  · split <;> exact h

/-- How much is gathered. -/
def wtG (x : Ga) : Nat := bulkP x.ps + x.bs.length + (if x.bs = [] then 0 else 3)
theorem bulk_app (l m : List Pt) : bulkP (l ++ m) = bulkP l + bulkP m := by
  induction l with
  | nil => simp [bulkP]
  | cons p r ih => simp only [List.cons_append, bulkP, ih]; omega
theorem bulk_out (x : Ga) : bulkP x.out.ps = wtG x := by
  unfold Ga.out wtG
  split
  · rename_i h
    rw [h]
    simp
  · rw [bulk_app]
    simp only [bulkP, bst_size]
    omega
theorem wt_plain (x : Ga) (b : UInt8) : wtG (x.plain b) ≤ wtG x + 4 := by
  unfold wtG Ga.plain
  simp only [List.length_append, List.length_singleton]
  split <;> split <;> omega
theorem wt_group (x : Ga) (n : Int) : wtG (x.group n) ≤ wtG x + 4 := by
  have := bulk_out x
  unfold Ga.group
  conv => lhs; unfold wtG
  simp only [bulk_app, bulkP, bst_size, List.length_nil, if_true]
  omega
theorem wt_esc (x : Ga) (c : UInt8) : wtG (x.esc c) ≤ wtG x + 4 := by
  unfold Ga.esc
  split
  · exact wt_group _ _
  · split <;> exact wt_plain _ _

/-- What a reading ends in. -/
def EndP (R : Ga × Nat × Nat) (n : Nat) : Prop := (R.2.1 ≠ 0 ∧ R.1 = ⟨[], []⟩) ∨ (R.2.1 = 0 ∧ ∃ y, R.1 = y.out ∧ nfG y ∧ wtG y ≤ n)
theorem EndP.mono {R : Ga × Nat × Nat} {n m : Nat} (h : EndP R n) (hm : n ≤ m) : EndP R m := by
  rcases h with h | ⟨h, y, h1, h2, h3⟩
  · exact .inl h
  · exact .inr ⟨h, y, h1, h2, by omega⟩
theorem run_end : ∀ (l : List UInt8) (k : Nat) (x : Ga), nfG x → EndP (runP l k x) (wtG x + 4 * l.length)
  | [], k, x, h => by
    rw [runP_nil]
    exact .inr ⟨rfl, x, rfl, h, by omega⟩
  | b :: r, k, x, h => by
    by_cases c1 : b.toNat = 38
    · rw [runP_amp _ _ _ _ c1]
      have hw := wt_group x 0
      exact (run_end r _ _ (nf_group h 0 (by omega))).mono (by simp only [List.length_cons]; omega)
    · by_cases c2 : b.toNat = 10
      · rw [runP_nl _ _ _ _ c2]
        exact .inl ⟨by simp, rfl⟩
      · by_cases c3 : b.toNat = 92
        · cases r with
          | nil =>
            rw [runP_end _ _ _ c3]
            exact .inl ⟨by simp, rfl⟩
          | cons c q =>
            rw [runP_esc _ _ _ _ _ c3]
            have hw := wt_esc x c
            exact (run_end q _ _ (nf_esc h c)).mono (by simp only [List.length_cons]; omega)
        · rw [runP_pl _ _ _ _ c1 c2 c3]
          have hw := wt_plain x b
          exact (run_end r _ (x.plain b) h).mono (by simp only [List.length_cons]; omega)
  termination_by l => l.length
theorem parse_end (s : List UInt8) : EndP (parseR s) 16384 := by
  unfold parseR
  split
  · exact .inl ⟨by simp, rfl⟩
  · exact (run_end s 0 ⟨[], []⟩ ⟨rfl, fun p hp => by simp at hp⟩).mono (by simp [wtG, bulkP]; omega)

end Go.Proofs.Ytbncokfpkkmoiaa
