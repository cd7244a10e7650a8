/- bracket: a set's text is pieces: a byte in marks, a byte, a range; and it is read as the set. -/
import Derived.Test.YtolkbemclkgmmabLoc
import Derived.Test.YtolkbemclkgmmabTextE
namespace Go.Proofs.Ytolkbemclkgmmab

structure Ck where
  kind : Nat
  x : Nat
  y : Nat

def ckT (c : Ck) : List Nat := if c.kind = 0 then [91, 46, c.x, 46, 93] else if c.kind = 1 then [c.x] else [c.x, 45, c.y]
def ckP (c : Ck) (n : Nat) : Bool := if c.kind ≤ 1 then n == c.x else decide (c.x ≤ n ∧ n ≤ c.y)
def ckOk (c : Ck) : Prop := c.x < 256 ∧ c.y < 256 ∧ (c.kind = 0 ∨ spec4 c.x = false) ∧ (c.kind ≤ 1 ∨ (spec4 c.y = false ∧ c.x ≤ c.y))

def flat (cs : List Ck) : List Nat := cs.flatMap ckT

theorem flat_append (a b : List Ck) : flat (a ++ b) = flat a ++ flat b := by simp [flat]
theorem flat_cons (c : Ck) (cs : List Ck) : flat (c :: cs) = ckT c ++ flat cs := by simp [flat]
theorem flat_nil : flat [] = [] := rfl

/-- What is written and gathered, as pieces. -/
def Good (L : List Nat) (p : List Nat × List Nat) : Prop :=
  ∃ cs, p.1 = 91 :: flat cs ∧ (∀ c ∈ cs, ckOk c) ∧ (∃ h, p.2 = (List.range p.2.length).map (h + ·)) ∧ (∀ x ∈ p.2, x < 256 ∧ spec4 x = false) ∧ ∀ n, n ∈ L ↔ ((∃ c ∈ cs, ckP c n = true) ∨ n ∈ p.2)

theorem flush_good {L : List Nat} {p : List Nat × List Nat} (h : Good L p) : ∃ cs, flush p = 91 :: flat cs ∧ (∀ c ∈ cs, ckOk c) ∧ ∀ n, n ∈ L ↔ ∃ c ∈ cs, ckP c n = true := by
  obtain ⟨o, r⟩ := p
  obtain ⟨cs, h1, h2, ⟨st, h3⟩, h4, h5⟩ := h
  simp only [] at h1 h3 h4 h5
  unfold flush
  simp only []
  by_cases hl : r.length < 3
  · rw [if_pos hl]
    match r, hl with
    | [], _ => exact ⟨cs, by simp [h1], h2, fun n => by rw [h5]; simp⟩
    | [a], _ =>
      have ha := h4 a (by simp)
      refine ⟨cs ++ [⟨1, a, 0⟩], ?_, ?_, fun n => ?_⟩
      · rw [h1, flat_append]; simp [flat, ckT]
      · intro c hc
        rcases List.mem_append.1 hc with hc | hc
        · exact h2 c hc
        · rw [List.mem_singleton] at hc; subst hc; exact ⟨ha.1, by simp, .inr ha.2, .inl (by simp)⟩
      · rw [h5]
        simp [ckP, or_and_right, exists_or]
    | [a, b], _ =>
      have ha := h4 a (by simp)
      have hb := h4 b (by simp)
      refine ⟨cs ++ [⟨1, a, 0⟩, ⟨1, b, 0⟩], ?_, ?_, fun n => ?_⟩
      · rw [h1, flat_append]; simp [flat, ckT]
      · intro c hc
        rcases List.mem_append.1 hc with hc | hc
        · exact h2 c hc
        · simp only [List.mem_cons, List.not_mem_nil, or_false] at hc
          rcases hc with rfl | rfl
          · exact ⟨ha.1, by simp, .inr ha.2, .inl (by simp)⟩
          · exact ⟨hb.1, by simp, .inr hb.2, .inl (by simp)⟩
      · rw [h5]
        simp [ckP, or_and_right, exists_or]
  · rw [if_neg hl]
    generalize hk : r.length = k at *
    have hx : r.headD 0 = st := by rw [h3]; cases k with | zero => omega | succ k => simp [List.range_succ_eq_map]
    have hy : r.getLastD 0 = st + (k - 1) := by
      rw [h3]; cases k with | zero => omega | succ k => simp [List.range_succ]
    have mx : st ∈ r := by rw [h3]; simp; omega
    have my : st + (k - 1) ∈ r := by rw [h3]; simp; omega
    have hx' := h4 _ mx
    have hy' := h4 _ my
    refine ⟨cs ++ [⟨2, st, st + (k - 1)⟩], ?_, ?_, fun n => ?_⟩
    · rw [h1, flat_append, hx, hy]; simp [flat, ckT]
    · intro c hc
      rcases List.mem_append.1 hc with hc | hc
      · exact h2 c hc
      · rw [List.mem_singleton] at hc; subst hc; exact ⟨hx'.1, hy'.1, .inr hx'.2, .inr ⟨hy'.2, by simp⟩⟩
    · rw [h5]
      have hn : n ∈ r ↔ st ≤ n ∧ n ≤ st + (k - 1) := by
        rw [h3]; simp
        constructor
        · rintro ⟨a, ha, rfl⟩; omega
        · intro hh; exact ⟨n - st, by omega, by omega⟩
      rw [hn]
      simp [ckP, or_and_right, exists_or]

theorem tstep_good {L : List Nat} {p : List Nat × List Nat} (h : Good L p) (b : Nat) (hb : b < 256) : Good (L ++ [b]) (tstep p b) := by
  unfold tstep
  by_cases hs : spec4 b = true
  · rw [if_pos hs]
    obtain ⟨cs, f1, f2, f3⟩ := flush_good h
    refine ⟨cs ++ [⟨0, b, 0⟩], ?_, ?_, ⟨0, by simp⟩, by simp, fun n => ?_⟩
    · simp only []; rw [f1, flat_append]; simp [flat, ckT]
    · intro c hc
      rcases List.mem_append.1 hc with hc | hc
      · exact f2 c hc
      · rw [List.mem_singleton] at hc; subst hc; exact ⟨hb, by simp, .inl rfl, .inl (by simp)⟩
    · rw [List.mem_append, f3]
      simp [ckP, or_and_right, exists_or]
  · rw [if_neg hs]
    have hs' : spec4 b = false := by simpa using hs
    by_cases hr : p.2 = [] ∨ p.2.getLastD 0 + 1 = b
    · rw [if_pos hr]
      obtain ⟨cs, h1, h2, ⟨st, h3⟩, h4, h5⟩ := h
      refine ⟨cs, h1, h2, ?_, ?_, fun n => ?_⟩
      · simp only []
        rcases hr with hr | hr
        · exact ⟨b, by rw [hr]; simp⟩
        · by_cases h0 : p.2 = []
          · exact ⟨b, by rw [h0]; simp⟩
          · refine ⟨st, ?_⟩
            have hk : 0 < p.2.length := List.length_pos_iff.2 h0
            generalize p.2.length = k at *
            rw [h3] at hr ⊢
            cases k with
            | zero => omega
            | succ k =>
              simp [List.range_succ] at hr ⊢
              omega
      · intro x hx
        simp only [List.mem_append, List.mem_singleton] at hx
        rcases hx with hx | rfl
        · exact h4 x hx
        · exact ⟨hb, hs'⟩
      · rw [List.mem_append, h5]
        simp [or_assoc]
    · rw [if_neg hr]
      obtain ⟨cs, f1, f2, f3⟩ := flush_good h
      refine ⟨cs, f1, f2, ⟨b, by simp⟩, ?_, fun n => ?_⟩
      · intro x hx
        simp only [List.mem_singleton] at hx
        subst hx
        exact ⟨hb, hs'⟩
      · rw [List.mem_append, f3]

theorem text_good (L : List Nat) (hL : ∀ x ∈ L, x < 256) : Good L (textSt L) := by
  suffices h : ∀ (M L : List Nat) (p : List Nat × List Nat), (∀ x ∈ M, x < 256) → Good L p → Good (L ++ M) (M.foldl tstep p) by
    have := h L [] ([91], []) hL ⟨[], rfl, by simp, ⟨0, rfl⟩, by simp, by simp⟩
    simpa [textSt] using this
  intro M
  induction M with
  | nil => intro L p _ h; simpa using h
  | cons b M ih =>
    intro L p hM h
    have := ih (L ++ [b]) (tstep p b) (fun x hx => hM x (by simp [hx])) (tstep_good h b (hM b (by simp)))
    simpa using this

theorem text_chunks (L : List Nat) (hL : ∀ x ∈ L, x < 256) : ∃ cs, flush (textSt L) = 91 :: flat cs ∧ (∀ c ∈ cs, ckOk c) ∧ ∀ n, n ∈ L ↔ ∃ c ∈ cs, ckP c n = true := flush_good (text_good L hL)

/-! Reading. -/

theorem ofP_one (s : ByteArray) (k b n : Nat) (h : k < s.size) (hb : byteAt s k = (b : Int)) : ofP (s.extract k (k + 1)) n = (n == b) := by
  rw [byteAt_in h] at hb
  have hsz : (s.extract k (k + 1)).size = 1 := by rw [ByteArray.size_extract]; omega
  have h0 : (s.extract k (k + 1))[0]'(by omega) = s[k] := by rw [ByteArray.getElem_extract]; rfl
  have hl : (s.extract k (k + 1)).data.toList = [s[k]] := by
    refine List.ext_getElem hsz fun i h1 h2 => ?_
    simp at h2
    subst h2
    exact h0
  unfold ofP inText
  rw [hsz, hl]
  simp only [List.take_succ_cons, List.take_zero, List.any_cons, List.any_nil, Bool.or_false]
  rw [Bool.eq_iff_iff, beq_iff_eq, beq_iff_eq]
  omega

theorem spec4_ne {x : Nat} (h : spec4 x = false) : x ≠ 93 ∧ x ≠ 94 ∧ x ≠ 45 ∧ x ≠ 91 := by
  unfold spec4 at h
  simp only [Bool.or_eq_false_iff, beq_eq_false_iff_ne] at h
  exact ⟨h.1.1.1, h.1.1.2, h.1.2, h.2⟩

theorem item_self (s : ByteArray) (k x : Nat) (hlt : k < s.size) (hb : byteAt s k = (x : Int)) (hx : spec4 x = false) : itemS s k = ⟨0, ofP (s.extract k (k + 1)), (x : Int), true, k + 1⟩ := by
  have hn := spec4_ne hx
  rw [itemS, if_pos hlt, if_neg, hb]
  unfold markedB
  rw [hb]
  have : ((x : Int) == 91) = false := by rw [beq_eq_false_iff_ne]; omega
  rw [this]
  simp

theorem no_join (s : ByteArray) (k : Nat) (h : ¬ byteAt s k = 45) : joinsB s k = false := by
  unfold joinsB
  have : (byteAt s k == 45) = false := by rw [beq_eq_false_iff_ne]; exact h
  rw [this]; rfl

theorem chunk_entry (s : ByteArray) (i : Nat) (c : Ck) (hok : ckOk c) (hb : ∀ (j b : Nat), (ckT c)[j]? = some b → byteAt s (i + j) = (b : Int)) (hn : ¬ byteAt s (i + (ckT c).length) = 45) (hlt : i + (ckT c).length < s.size) :
    ∃ q, entryS s i = ⟨0, q, 0, false, i + (ckT c).length⟩ ∧ ∀ n, q n = ckP c n := by
  obtain ⟨kind, x, y⟩ := c
  obtain ⟨o1, o2, o3, o4⟩ := hok
  simp only [] at o1 o2 o3 o4
  unfold ckT at hb hn hlt ⊢
  unfold ckP
  simp only [] at hb hn hlt ⊢
  by_cases k0 : kind = 0
  · subst k0
    simp only [if_true, List.length_cons, List.length_nil, Nat.zero_add, Nat.reduceAdd] at hb hn hlt ⊢
    have b0 := hb 0 91 rfl
    have b1 := hb 1 46 rfl
    have b2 := hb 2 x rfl
    have b3 := hb 3 46 rfl
    have b4 := hb 4 93 rfl
    rw [Nat.add_zero] at b0
    have hm : markedB s i = true := by unfold markedB; rw [b0, b1]; rfl
    have hmk : mkAt s i = 46 := by unfold mkAt; rw [b1]; rfl
    have hc : closeI s (i + 3) (mkAt s i) = ((i + 3 : Nat) : Int) := by
      rw [hmk]
      refine closeI_some s (i + 3) (i + 3) 46 (Nat.le_refl _) ?_ (fun t h1 h2 => by omega)
      rw [b3, show i + 3 + 1 = i + 4 from rfl, b4]
      rfl
    have hi : itemS s i = ⟨0, ofP (s.extract (i + 2) (i + 3)), (x : Int), true, i + 5⟩ := by
      rw [itemS, if_pos (by omega), if_pos hm, markS, hc, if_neg (by omega), if_neg (by rw [b1]; decide), if_pos (by omega), b2, b1]
      rfl
    refine ⟨ofP (s.extract (i + 2) (i + 3)), ?_, fun n => ?_⟩
    · unfold entryS
      rw [hi]
      simp only []
      rw [if_neg (by simp), no_join s (i + 5) hn]
      simp
    · rw [ofP_one s (i + 2) x n (by omega) b2]
      simp
  · have ox : spec4 x = false := o3.resolve_left k0
    by_cases k1 : kind = 1
    · subst k1
      simp only [if_neg k0, if_true, List.length_cons, List.length_nil, Nat.zero_add] at hb hn hlt ⊢
      have b0 := hb 0 x rfl
      rw [Nat.add_zero] at b0
      have hi := item_self s i x (by omega) b0 ox
      refine ⟨ofP (s.extract i (i + 1)), ?_, fun n => ?_⟩
      · unfold entryS
        rw [hi]
        simp only []
        rw [if_neg (by simp), no_join s (i + 1) hn]
        simp
      · rw [ofP_one s i x n (by omega) b0]
        simp
    · obtain ⟨oy, oxy⟩ := o4.resolve_left (by omega)
      simp only [if_neg k0, if_neg k1, List.length_cons, List.length_nil, Nat.zero_add, Nat.reduceAdd] at hb hn hlt ⊢
      have b0 := hb 0 x rfl
      have b1 := hb 1 45 rfl
      have b2 := hb 2 y rfl
      rw [Nat.add_zero] at b0
      have hy := spec4_ne oy
      have hi := item_self s i x (by omega) b0 ox
      have hi2 := item_self s (i + 2) y (by omega) b2 oy
      have hj : joinsB s (i + 1) = true := by
        unfold joinsB
        rw [b1, show i + 1 + 1 = i + 2 from rfl, b2]
        have : ((y : Int) == 93) = false := by rw [beq_eq_false_iff_ne]; omega
        rw [this]; rfl
      refine ⟨spanP x y, ?_, fun n => ?_⟩
      · unfold entryS
        rw [hi]
        simp only []
        rw [if_neg (by simp), if_pos hj]
        unfold rangeS
        simp only []
        rw [show i + 1 + 1 = i + 2 from rfl, hi2]
        simp only []
        rw [if_neg (by omega), if_neg (by simp), if_neg (by simp), no_join s (i + 2 + 1) hn, if_neg (by simp; omega)]
        simp
      · rw [if_neg (by omega)]
        rfl

theorem chunk_head (c : Ck) (h : ckOk c) : ∃ b l, ckT c = b :: l ∧ b ≠ 45 ∧ b ≠ 93 ∧ b ≠ 94 := by
  obtain ⟨kind, x, y⟩ := c
  obtain ⟨o1, o2, o3, o4⟩ := h
  unfold ckT
  simp only [] at o3 ⊢
  by_cases k0 : kind = 0
  · rw [if_pos k0]; exact ⟨_, _, rfl, by omega, by omega, by omega⟩
  · have hx := spec4_ne (o3.resolve_left k0)
    rw [if_neg k0]
    by_cases k1 : kind = 1
    · rw [if_pos k1]; exact ⟨_, _, rfl, hx.2.2.1, hx.1, hx.2.1⟩
    · rw [if_neg k1]; exact ⟨_, _, rfl, hx.2.2.1, hx.1, hx.2.1⟩

theorem chunk_loop (s : ByteArray) : ∀ (cs : List Ck) (f : Nat) (first : Bool) (q : Nat → Bool) (i : Nat), (∀ c ∈ cs, ckOk c) → (∀ (j b : Nat), (flat cs)[j]? = some b → byteAt s (i + j) = (b : Int)) → byteAt s (i + (flat cs).length) = 93 → cs.length < f → (first = true → cs ≠ []) →
    ∃ q', loopS s f first q i = ⟨0, q', 0, false, i + (flat cs).length⟩ ∧ ∀ n, q' n = (q n || cs.any (ckP · n))
  | [], 0, _, _, _, _, _, _, hf, _ => by simp at hf
  | [], f + 1, first, q, i, _, _, hz, _, hne => by
    have : first = false := by
      cases first
      · rfl
      · exact absurd rfl (hne rfl)
    subst this
    rw [flat_nil] at hz ⊢
    exact ⟨q, loopS_close s f q i hz, fun n => by simp⟩
  | c :: cs, 0, _, _, _, _, _, _, hf, _ => by simp at hf
  | c :: cs, f + 1, first, q, i, hok, hb, hz, hf, _ => by
    rw [flat_cons] at hb hz ⊢
    rw [List.length_append] at hz ⊢
    obtain ⟨b, l, hc, h45, h93, h94⟩ := chunk_head c (hok c (by simp))
    have b0 : byteAt s i = (b : Int) := by
      have := hb 0 b (by rw [hc]; rfl)
      simpa using this
    have hb2 : ∀ (j b : Nat), (flat cs)[j]? = some b → byteAt s (i + (ckT c).length + j) = (b : Int) := fun j b h => by
      have := hb ((ckT c).length + j) b (by rw [List.getElem?_append_right (by omega)]; simpa using h)
      rw [← Nat.add_assoc] at this
      exact this
    have hnx : ¬ byteAt s (i + (ckT c).length) = 45 := by
      cases cs with
      | nil =>
        rw [flat_nil, List.length_nil, Nat.add_zero] at hz
        rw [hz]; decide
      | cons c2 cs2 =>
        obtain ⟨b2, l2, hc2, h45', _, _⟩ := chunk_head c2 (hok c2 (by simp))
        have := hb2 0 b2 (by rw [flat_cons, hc2]; rfl)
        rw [Nat.add_zero] at this
        rw [this]
        omega
    have hlt : i + (ckT c).length < s.size := by
      have := byteAt_lt hz (by decide)
      omega
    obtain ⟨q1, he, hq1⟩ := chunk_entry s i c (hok c (by simp)) (fun j b h => hb j b (by rw [List.getElem?_append_left (by exact (List.getElem?_eq_some_iff.1 h).1)]; exact h)) hnx hlt
    have hne2 : ¬ (first = false ∧ byteAt s i = 93) := by
      rintro ⟨-, h⟩
      rw [b0] at h
      omega
    rw [loopS_next s f first q i hne2 (by rw [he]), he]
    simp only []
    rw [← Nat.add_assoc] at hz ⊢
    obtain ⟨q', h1, h2⟩ := chunk_loop s cs f false (orP q q1) (i + (ckT c).length) (fun c h => hok c (by simp [h])) hb2 hz (by simpa using hf) (by simp)
    refine ⟨q', h1, fun n => ?_⟩
    rw [h2]
    simp [orP, hq1, Bool.or_assoc]

theorem byteAt_bstr (l : List Nat) (j b : Nat) (h : l[j]? = some b) (hb : b < 256) : byteAt (bstr l) j = (b : Int) := by
  have hj : j < l.length := (List.getElem?_eq_some_iff.1 h).1
  have e : l[j] = b := (List.getElem?_eq_some_iff.1 h).2
  have hs : j < (bstr l).size := by simpa [bstr, ByteArray.size] using hj
  rw [byteAt_in hs]
  have : (bstr l)[j] = UInt8.ofNat b := by
    show (bstr l).data[j] = _
    simp [bstr, e]
  rw [this]
  simp
  omega

theorem bstr_size (l : List Nat) : (bstr l).size = l.length := by simp [bstr, ByteArray.size]

theorem flat_bytes (cs : List Ck) (hok : ∀ c ∈ cs, ckOk c) : ∀ b ∈ flat cs, b < 256 := by
  intro b hb
  unfold flat at hb
  obtain ⟨c, hc, hb⟩ := List.mem_flatMap.1 hb
  obtain ⟨o1, o2, -⟩ := hok c hc
  unfold ckT at hb
  split at hb
  · simp at hb; omega
  · split at hb
    · simp at hb; omega
    · simp at hb; omega

/-- The pieces between [ and ] are read as what they name. -/
theorem chunk_parse (cs : List Ck) (hok : ∀ c ∈ cs, ckOk c) (hne : cs ≠ []) : ∃ q, parseS (bstr (91 :: flat cs ++ [93])) 0 = ⟨0, q, 0, false, (91 :: flat cs ++ [93]).length⟩ ∧ ∀ n, q n = cs.any (ckP · n) := by
  have hfb := flat_bytes cs hok
  have hbt : ∀ (j b : Nat), (flat cs)[j]? = some b → byteAt (bstr (91 :: flat cs ++ [93])) (1 + j) = (b : Int) := fun j b h => by
    refine byteAt_bstr _ _ _ ?_ (hfb b (List.mem_of_getElem? h))
    rw [List.cons_append, Nat.add_comm, List.getElem?_cons_succ, List.getElem?_append_left (List.getElem?_eq_some_iff.1 h).1]
    exact h
  have hz : byteAt (bstr (91 :: flat cs ++ [93])) (1 + (flat cs).length) = 93 := by
    refine byteAt_bstr _ _ 93 ?_ (by decide)
    rw [List.cons_append, Nat.add_comm, List.getElem?_cons_succ, List.getElem?_append_right (Nat.le_refl _)]
    simp
  have h0 : byteAt (bstr (91 :: flat cs ++ [93])) 0 = 91 := byteAt_bstr _ _ 91 rfl (by decide)
  have h1 : ¬ byteAt (bstr (91 :: flat cs ++ [93])) (0 + 1) = 94 := by
    cases cs with
    | nil => exact absurd rfl hne
    | cons c cs =>
      obtain ⟨b, l, hc, _, _, h94⟩ := chunk_head c (hok c (by simp))
      have := hbt 0 b (by rw [flat_cons, hc]; rfl)
      rw [Nat.zero_add]
      rw [Nat.add_zero] at this
      rw [this]
      omega
  have hcl : cs.length ≤ (flat cs).length := by
    clear hbt hz h0 h1 hfb hne
    induction cs with
    | nil => simp
    | cons c cs ih =>
      obtain ⟨b, l, hc, _⟩ := chunk_head c (hok c (by simp))
      have := ih (fun c h => hok c (by simp [h]))
      rw [flat_cons, hc]
      simp
      omega
  obtain ⟨q, hl, hq⟩ := chunk_loop (bstr (91 :: flat cs ++ [93])) cs ((bstr (91 :: flat cs ++ [93])).size + 2) true noneP 1 hok hbt hz (by rw [bstr_size]; simp; omega) (fun _ => hne)
  refine ⟨q, ?_, fun n => by rw [hq]; simp [noneP]⟩
  unfold parseS
  rw [if_pos h0, if_neg h1, Nat.zero_add, hl]
  simp
  omega

/-- The text of a set is read as the set. -/
theorem text_parse (p : Nat → Bool) : ∃ q, parseS (bstr (textL (mem p 256))) 0 = ⟨0, q, 0, false, (textL (mem p 256)).length⟩ ∧ Is q p := by
  unfold textL
  by_cases h : mem p 256 = []
  · rw [if_pos h]
    have hz : byteAt (bstr [91, 94, 0, 45, 255, 93]) (2 + (flat [⟨2, 0, 255⟩]).length) = 93 := by decide
    have hok : ∀ c ∈ [(⟨2, 0, 255⟩ : Ck)], ckOk c := fun c hc => by
      rw [List.mem_singleton] at hc; subst hc
      exact ⟨by decide, by decide, .inr (by decide), .inr ⟨by decide, by decide⟩⟩
    have hbt : ∀ (j b : Nat), (flat [⟨2, 0, 255⟩])[j]? = some b → byteAt (bstr [91, 94, 0, 45, 255, 93]) (2 + j) = (b : Int) := fun j b h => by
      have hb : b < 256 := flat_bytes _ hok b (List.mem_of_getElem? h)
      refine byteAt_bstr _ _ _ ?_ hb
      rw [Nat.add_comm]
      show (flat [⟨2, 0, 255⟩] ++ [93])[j]? = some b
      rw [List.getElem?_append_left (List.getElem?_eq_some_iff.1 h).1]
      exact h
    obtain ⟨q, hl, hq⟩ := chunk_loop (bstr [91, 94, 0, 45, 255, 93]) [⟨2, 0, 255⟩] ((bstr [91, 94, 0, 45, 255, 93]).size + 2) true noneP 2 hok hbt hz (by decide) (by simp)
    refine ⟨notP q, ?_, fun n hn => ?_⟩
    · unfold parseS
      rw [if_pos (by decide), if_pos (by decide), Nat.zero_add, hl]
      simp [flat, ckT]
    · have hp : p n = false := by
        unfold mem at h
        rw [List.filter_eq_nil_iff] at h
        simpa using h n (List.mem_range.2 hn)
      rw [hp]
      simp [notP, hq, ckP]
      omega
  · rw [if_neg h]
    obtain ⟨cs, h1, h2, h3⟩ := text_chunks (mem p 256) (mem_bytes p 256)
    have hne : cs ≠ [] := by
      rintro rfl
      obtain ⟨x, hx⟩ := List.exists_mem_of_ne_nil _ h
      simpa using (h3 x).1 hx
    obtain ⟨q, hp, hq⟩ := chunk_parse cs h2 hne
    rw [h1]
    refine ⟨q, hp, fun n hn => ?_⟩
    rw [hq, Bool.eq_iff_iff, List.any_eq_true, ← h3]
    unfold mem
    simp [hn]

/-- Two texts' insides, one behind the other, are read as the union. -/
theorem text_union (p r : Nat → Bool) (hp : mem p 256 ≠ []) (hr : mem r 256 ≠ []) : ∃ A B q, textL (mem p 256) = 91 :: A ++ [93] ∧ textL (mem r 256) = 91 :: B ++ [93] ∧ A ≠ [] ∧ B ≠ [] ∧ parseS (bstr (91 :: (A ++ B) ++ [93])) 0 = ⟨0, q, 0, false, (91 :: (A ++ B) ++ [93]).length⟩ ∧ Is q (orP p r) := by
  obtain ⟨cs, h1, h2, h3⟩ := text_chunks (mem p 256) (mem_bytes p 256)
  obtain ⟨ds, k1, k2, k3⟩ := text_chunks (mem r 256) (mem_bytes r 256)
  have nn : ∀ (L : List Nat) (es : List Ck), L ≠ [] → (∀ c ∈ es, ckOk c) → (∀ n, n ∈ L ↔ ∃ c ∈ es, ckP c n = true) → es ≠ [] ∧ flat es ≠ [] := by
    intro L es hL hok hm
    have hne : es ≠ [] := by
      rintro rfl
      obtain ⟨x, hx⟩ := List.exists_mem_of_ne_nil _ hL
      simpa using (hm x).1 hx
    refine ⟨hne, ?_⟩
    cases es with
    | nil => exact absurd rfl hne
    | cons c es =>
      obtain ⟨b, l, hc, _⟩ := chunk_head c (hok c (by simp))
      rw [flat_cons, hc]
      simp
  obtain ⟨n1, f1⟩ := nn _ cs hp h2 h3
  obtain ⟨n2, f2⟩ := nn _ ds hr k2 k3
  obtain ⟨q, hq1, hq2⟩ := chunk_parse (cs ++ ds) (fun c hc => (List.mem_append.1 hc).elim (h2 c) (k2 c)) (by simp [n1])
  rw [flat_append] at hq1
  refine ⟨flat cs, flat ds, q, by rw [textL, if_neg hp, h1], by rw [textL, if_neg hr, k1], f1, f2, hq1, fun n hn => ?_⟩
  rw [hq2, Bool.eq_iff_iff, List.any_eq_true]
  have e1 : p n = true ↔ n ∈ mem p 256 := by unfold mem; simp [hn]
  have e2 : r n = true ↔ n ∈ mem r 256 := by unfold mem; simp [hn]
  simp only [orP, Bool.or_eq_true, e1, e2, h3, k3, List.mem_append, or_and_right, exists_or]

theorem byteAt_left (a b : ByteArray) (j : Nat) (h : j < a.size) : byteAt (a ++ b) j = byteAt a j := by
  rw [byteAt_in (by rw [ByteArray.size_append]; omega), byteAt_in h, ByteArray.getElem_append_left h]

theorem byteAt_right (a b : ByteArray) (j : Nat) (h : j < b.size) : byteAt (a ++ b) (a.size + j) = byteAt b j := by
  rw [byteAt_in (by rw [ByteArray.size_append]; omega), byteAt_in h, ByteArray.getElem_append_right (by omega)]
  congr 2
  simp

theorem win_mid (a b c : ByteArray) (N : Nat) (h : N ≤ b.size) : Win b 0 (a ++ b ++ c) a.size N := by
  refine ⟨by omega, by rw [ByteArray.size_append, ByteArray.size_append]; omega, fun j hj => ?_⟩
  rw [Nat.zero_add, byteAt_left (a ++ b) c _ (by rw [ByteArray.size_append]; omega), byteAt_right a b j (by omega)]

theorem textL_len (p : Nat → Bool) : 3 ≤ (textL (mem p 256)).length ∧ (textL (mem p 256)).length ≤ 1300 := by
  have h1 := textSt_len (mem p 256)
  have h2 := mem_le p 256
  have h3 := flush_len (textSt (mem p 256))
  obtain ⟨q, h4, -⟩ := text_parse p
  have h5 := parse_form (s := bstr (textL (mem p 256))) (i := 0) (by rw [h4])
  rw [h4] at h5
  refine ⟨by simpa using h5.1, ?_⟩
  unfold textL
  split
  · simp
  · simp; omega

theorem back_parse (p : Nat → Bool) (a c : ByteArray) : ∃ q, parseX (a ++ bstr (textL (mem p 256)) ++ c) (a.size : Int) = ⟨0, q, 0, false, a.size + (textL (mem p 256)).length⟩ ∧ Is q p := by
  obtain ⟨q, h, hq⟩ := text_parse p
  refine ⟨q, ?_, hq⟩
  rw [parseX, if_pos (by omega), Int.toNat_natCast]
  have hw := parse_win (s := bstr (textL (mem p 256))) (s' := a ++ bstr (textL (mem p 256)) ++ c) (i := 0) (i' := a.size) (by rw [h]) (by rw [h]; exact win_mid _ _ _ _ (by rw [bstr_size]; simp))
  rw [hw, h]
  simp

end Go.Proofs.Ytolkbemclkgmmab
