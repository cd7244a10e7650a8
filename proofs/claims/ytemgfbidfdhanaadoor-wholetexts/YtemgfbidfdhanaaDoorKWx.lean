/- bracket: a set's text is pieces: a byte in marks, a byte, a range; and it is read as the set. -/
import Derived.Test.YtemgfbidfdhanaaDoorKTk
import Derived.Test.YtemgfbidfdhanaaDoorKIter
import Derived.Test.YtemgfbidfdhanaaDoorKLoc
import Derived.Test.YtemgfbidfdhanaaDoorKUx
namespace Go.Proofs.YtemgfbidfdhanaaDoor

theorem mem_bytes (p : Nat → Bool) (k : Nat) : ∀ x ∈ mem p k, x < k := by
  intro x hx
  exact List.mem_range.1 (List.mem_filter.1 hx).1

structure Ck where
  kind : Nat
  x : Nat
  y : Nat

def ckT (c : Ck) : List Nat := if c.kind = 0 then [91, 46, c.x, 46, 93] else if c.kind = 1 then [c.x] else [c.x, 45, c.y]
def ckP (c : Ck) (n : Nat) : Bool := if c.kind ≤ 1 then n == c.x else decide (c.x ≤ n ∧ n ≤ c.y)
def ckOk (c : Ck) : Prop := c.x < 256 ∧ c.y < 256 ∧ (c.kind = 0 ∨ spec4 c.x = false) ∧ (c.kind ≤ 1 ∨ (spec4 c.y = false ∧ c.x ≤ c.y))

def flat (cs : List Ck) : List Nat := cs.flatMap ckT

theorem flat_append (a b : List Ck) : flat (a ++ b) = flat a ++ flat b := by simp [flat]
theorem flat_cons (c : Ck) (cs : List Ck) : flat (c :: cs) = ckT c ++ flat cs := by simp [flat]
theorem flat_nil : flat [] = [] := rfl

/-- What is written and gathered, as pieces. -/
def GoodC (L : List Nat) (p : List Nat × List Nat) : Prop :=
  ∃ cs, p.1 = 91 :: flat cs ∧ (∀ c ∈ cs, ckOk c) ∧ (∃ h, p.2 = (List.range p.2.length).map (h + ·)) ∧ (∀ x ∈ p.2, x < 256 ∧ spec4 x = false) ∧ ∀ n, n ∈ L ↔ ((∃ c ∈ cs, ckP c n = true) ∨ n ∈ p.2)

theorem flush_good {L : List Nat} {p : List Nat × List Nat} (h : GoodC L p) : ∃ cs, flush p = 91 :: flat cs ∧ (∀ c ∈ cs, ckOk c) ∧ ∀ n, n ∈ L ↔ ∃ c ∈ cs, ckP c n = true := by
  obtain ⟨o, r⟩ := p
  obtain ⟨cs, h1, h2, ⟨st, h3⟩, h4, h5⟩ := h
  simp only [] at h1 h3 h4 h5
  unfold flush
  simp only []
  by_cases hl : r.length < 3
  · rw [if_pos hl]
    match r, hl with
    | [], _ => exact ⟨cs, by simp [h1], h2, fun n => by rw [h5]; simp⟩
    | [a], _ =>
      have ha := h4 a (by simp)
      refine ⟨cs ++ [⟨1, a, 0⟩], ?_, ?_, fun n => ?_⟩
      · rw [h1, flat_append]; simp [flat, ckT]
      · intro c hc
        rcases List.mem_append.1 hc with hc | hc
        · exact h2 c hc
        · rw [List.mem_singleton] at hc; subst hc; exact ⟨ha.1, by simp, .inr ha.2, .inl (by simp)⟩
      · rw [h5]
        simp [ckP, or_and_right, exists_or]
    | [a, b], _ =>
      have ha := h4 a (by simp)
      have hb := h4 b (by simp)
      refine ⟨cs ++ [⟨1, a, 0⟩, ⟨1, b, 0⟩], ?_, ?_, fun n => ?_⟩
      · rw [h1, flat_append]; simp [flat, ckT]
      · intro c hc
        rcases List.mem_append.1 hc with hc | hc
        · exact h2 c hc
        · simp only [List.mem_cons, List.not_mem_nil, or_false] at hc
          rcases hc with rfl | rfl
          · exact ⟨ha.1, by simp, .inr ha.2, .inl (by simp)⟩
          · exact ⟨hb.1, by simp, .inr hb.2, .inl (by simp)⟩
      · rw [h5]
        simp [ckP, or_and_right, exists_or]
  · rw [if_neg hl]
    generalize hk : r.length = k at *
    have hx : r.headD 0 = st := by rw [h3]; cases k with | zero => omega | succ k => simp [List.range_succ_eq_map]
    have hy : r.getLastD 0 = st + (k - 1) := by
      rw [h3]; cases k with | zero => omega | succ k => simp [List.range_succ]
    have mx : st ∈ r := by rw [h3]; simp; omega
    have my : st + (k - 1) ∈ r := by rw [h3]; simp; omega
    have hx' := h4 _ mx
    have hy' := h4 _ my
    refine ⟨cs ++ [⟨2, st, st + (k - 1)⟩], ?_, ?_, fun n => ?_⟩
    · rw [h1, flat_append, hx, hy]; simp [flat, ckT]
    · intro c hc
      rcases List.mem_append.1 hc with hc | hc
      · exact h2 c hc
      · rw [List.mem_singleton] at hc; subst hc; exact ⟨hx'.1, hy'.1, .inr hx'.2, .inr ⟨hy'.2, by simp⟩⟩
    · rw [h5]
      have hn : n ∈ r ↔ st ≤ n ∧ n ≤ st + (k - 1) := by
        rw [h3]; simp
        constructor
        · rintro ⟨a, ha, rfl⟩; omega
        · intro hh; exact ⟨n - st, by omega, by omega⟩
      rw [hn]
      simp [ckP, or_and_right, exists_or]

theorem tstep_good {L : List Nat} {p : List Nat × List Nat} (h : GoodC L p) (b : Nat) (hb : b < 256) : GoodC (L ++ [b]) (tstep p b) := by
  unfold tstep
  by_cases hs : spec4 b = true
  · rw [if_pos hs]
    obtain ⟨cs, f1, f2, f3⟩ := flush_good h
    refine ⟨cs ++ [⟨0, b, 0⟩], ?_, ?_, ⟨0, by simp⟩, by simp, fun n => ?_⟩
    · simp only []; rw [f1, flat_append]; simp [flat, ckT]
    · intro c hc
      rcases List.mem_append.1 hc with hc | hc
      · exact f2 c hc
      · rw [List.mem_singleton] at hc; subst hc; exact ⟨hb, by simp, .inl rfl, .inl (by simp)⟩
    · rw [List.mem_append, f3]
      simp [ckP, or_and_right, exists_or]
  · rw [if_neg hs]
    have hs' : spec4 b = false := by simpa using hs
    by_cases hr : p.2 = [] ∨ p.2.getLastD 0 + 1 = b
    · rw [if_pos hr]
      obtain ⟨cs, h1, h2, ⟨st, h3⟩, h4, h5⟩ := h
      refine ⟨cs, h1, h2, ?_, ?_, fun n => ?_⟩
      · simp only []
        rcases hr with hr | hr
        · exact ⟨b, by rw [hr]; simp⟩
        · by_cases h0 : p.2 = []
          · exact ⟨b, by rw [h0]; simp⟩
          · refine ⟨st, ?_⟩
            have hk : 0 < p.2.length := List.length_pos_iff.2 h0
            generalize p.2.length = k at *
            rw [h3] at hr ⊢
            cases k with
            | zero => omega
            | succ k =>
              simp [List.range_succ] at hr ⊢
              omega
      · intro x hx
        simp only [List.mem_append, List.mem_singleton] at hx
        rcases hx with hx | rfl
        · exact h4 x hx
        · exact ⟨hb, hs'⟩
      · rw [List.mem_append, h5]
        simp [or_assoc]
    · rw [if_neg hr]
      obtain ⟨cs, f1, f2, f3⟩ := flush_good h
      refine ⟨cs, f1, f2, ⟨b, by simp⟩, ?_, fun n => ?_⟩
      · intro x hx
        simp only [List.mem_singleton] at hx
        subst hx
        exact ⟨hb, hs'⟩
      · rw [List.mem_append, f3]

theorem text_good (L : List Nat) (hL : ∀ x ∈ L, x < 256) : GoodC L (textSt L) := by
  suffices h : ∀ (M L : List Nat) (p : List Nat × List Nat), (∀ x ∈ M, x < 256) → GoodC L p → GoodC (L ++ M) (M.foldl tstep p) by
    have := h L [] ([91], []) hL ⟨[], rfl, by simp, ⟨0, rfl⟩, by simp, by simp⟩
    simpa [textSt] using this
  intro M
  induction M with
  | nil => intro L p _ h; simpa using h
  | cons b M ih =>
    intro L p hM h
    have := ih (L ++ [b]) (tstep p b) (fun x hx => hM x (by simp [hx])) (tstep_good h b (hM b (by simp)))
    simpa using this

theorem text_chunks (L : List Nat) (hL : ∀ x ∈ L, x < 256) : ∃ cs, flush (textSt L) = 91 :: flat cs ∧ (∀ c ∈ cs, ckOk c) ∧ ∀ n, n ∈ L ↔ ∃ c ∈ cs, ckP c n = true := flush_good (text_good L hL)

/-! Reading. -/

theorem ofP_one (s : ByteArray) (k b n : Nat) (h : k < s.size) (hb : byteAt s k = (b : Int)) : ofP (s.extract k (k + 1)) n = (n == b) := by
  rw [byteAt_in h] at hb
  have hsz : (s.extract k (k + 1)).size = 1 := by rw [ByteArray.size_extract]; omega
  have h0 : (s.extract k (k + 1))[0]'(by omega) = s[k] := by rw [ByteArray.getElem_extract]; rfl
  have hl : (s.extract k (k + 1)).data.toList = [s[k]] := by
    refine List.ext_getElem hsz fun i h1 h2 => ?_
    simp at h2
    subst h2
    exact h0
  unfold ofP inText
  rw [hsz, hl]
  simp only [List.take_succ_cons, List.take_zero, List.any_cons, List.any_nil, Bool.or_false]
  rw [Bool.eq_iff_iff, beq_iff_eq, beq_iff_eq]
  omega

theorem spec4_ne {x : Nat} (h : spec4 x = false) : x ≠ 93 ∧ x ≠ 94 ∧ x ≠ 45 ∧ x ≠ 91 := by
  unfold spec4 at h
  simp only [Bool.or_eq_false_iff, beq_eq_false_iff_ne] at h
  exact ⟨h.1.1.1, h.1.1.2, h.1.2, h.2⟩

theorem item_self (s : ByteArray) (k x : Nat) (hlt : k < s.size) (hb : byteAt s k = (x : Int)) (hx : spec4 x = false) : itemS s k = ⟨0, ofP (s.extract k (k + 1)), (x : Int), true, k + 1⟩ := by
  have hn := spec4_ne hx
  rw [itemS, if_pos hlt, if_neg, hb]
  unfold markedB
  rw [hb]
  have : ((x : Int) == 91) = false := by rw [beq_eq_false_iff_ne]; omega
  rw [this]
  simp

theorem no_join (s : ByteArray) (k : Nat) (h : ¬ byteAt s k = 45) : joinsB s k = false := by
  unfold joinsB
  have : (byteAt s k == 45) = false := by rw [beq_eq_false_iff_ne]; exact h
  rw [this]; rfl

theorem chunk_entry (s : ByteArray) (i : Nat) (c : Ck) (hok : ckOk c) (hb : ∀ (j b : Nat), (ckT c)[j]? = some b → byteAt s (i + j) = (b : Int)) (hn : ¬ byteAt s (i + (ckT c).length) = 45) (hlt : i + (ckT c).length < s.size) :
    ∃ q, entryS s i = ⟨0, q, 0, false, i + (ckT c).length⟩ ∧ ∀ n, q n = ckP c n := by
  obtain ⟨kind, x, y⟩ := c
  obtain ⟨o1, o2, o3, o4⟩ := hok
  simp only [] at o1 o2 o3 o4
  unfold ckT at hb hn hlt ⊢
  unfold ckP
  simp only [] at hb hn hlt ⊢
  by_cases k0 : kind = 0
  · subst k0
    simp only [if_true, List.length_cons, List.length_nil, Nat.zero_add, Nat.reduceAdd] at hb hn hlt ⊢
    have b0 := hb 0 91 rfl
    have b1 := hb 1 46 rfl
    have b2 := hb 2 x rfl
    have b3 := hb 3 46 rfl
    have b4 := hb 4 93 rfl
    rw [Nat.add_zero] at b0
    have hm : markedB s i = true := by unfold markedB; rw [b0, b1]; rfl
    have hmk : mkAt s i = 46 := by unfold mkAt; rw [b1]; rfl
    have hc : closeI s (i + 3) (mkAt s i) = ((i + 3 : Nat) : Int) := by
      rw [hmk]
      refine closeI_some s (i + 3) (i + 3) 46 (Nat.le_refl _) ?_ (fun t h1 h2 => by omega)
      rw [b3, show i + 3 + 1 = i + 4 from rfl, b4]
      rfl
    have hi : itemS s i = ⟨0, ofP (s.extract (i + 2) (i + 3)), (x : Int), true, i + 5⟩ := by
      rw [itemS, if_pos (by omega), if_pos hm, markS, hc, if_neg (by omega), if_neg (by rw [b1]; decide), if_pos (by omega), b2, b1]
      rfl
    refine ⟨ofP (s.extract (i + 2) (i + 3)), ?_, fun n => ?_⟩
    · unfold entryS
      rw [hi]
      simp only []
      rw [if_neg (by simp), no_join s (i + 5) hn]
      simp
    · rw [ofP_one s (i + 2) x n (by omega) b2]
      simp
  · have ox : spec4 x = false := o3.resolve_left k0
    by_cases k1 : kind = 1
    · subst k1
      simp only [if_neg k0, if_true, List.length_cons, List.length_nil, Nat.zero_add] at hb hn hlt ⊢
      have b0 := hb 0 x rfl
      rw [Nat.add_zero] at b0
      have hi := item_self s i x (by omega) b0 ox
      refine ⟨ofP (s.extract i (i + 1)), ?_, fun n => ?_⟩
      · unfold entryS
        rw [hi]
        simp only []
        rw [if_neg (by simp), no_join s (i + 1) hn]
        simp
      · rw [ofP_one s i x n (by omega) b0]
        simp
    · obtain ⟨oy, oxy⟩ := o4.resolve_left (by omega)
      simp only [if_neg k0, if_neg k1, List.length_cons, List.length_nil, Nat.zero_add, Nat.reduceAdd] at hb hn hlt ⊢
      have b0 := hb 0 x rfl
      have b1 := hb 1 45 rfl
      have b2 := hb 2 y rfl
      rw [Nat.add_zero] at b0
      have hy := spec4_ne oy
      have hi := item_self s i x (by omega) b0 ox
      have hi2 := item_self s (i + 2) y (by omega) b2 oy
      have hj : joinsB s (i + 1) = true := by
        unfold joinsB
        rw [b1, show i + 1 + 1 = i + 2 from rfl, b2]
        have : ((y : Int) == 93) = false := by rw [beq_eq_false_iff_ne]; omega
        rw [this]; rfl
      refine ⟨spanP x y, ?_, fun n => ?_⟩
      · unfold entryS
        rw [hi]
        simp only []
        rw [if_neg (by simp), if_pos hj]
        unfold rangeS
        simp only []
        rw [show i + 1 + 1 = i + 2 from rfl, hi2]
        simp only []
        rw [if_neg (by omega), if_neg (by simp), if_neg (by simp), no_join s (i + 2 + 1) hn, if_neg (by simp; omega)]
        simp
      · rw [if_neg (by omega)]
        rfl

theorem chunk_head (c : Ck) (h : ckOk c) : ∃ b l, ckT c = b :: l ∧ b ≠ 45 ∧ b ≠ 93 ∧ b ≠ 94 := by
  obtain ⟨kind, x, y⟩ := c
  obtain ⟨o1, o2, o3, o4⟩ := h
  unfold ckT
  simp only [] at o3 ⊢
  by_cases k0 : kind = 0
  · rw [if_pos k0]; exact ⟨_, _, rfl, by omega, by omega, by omega⟩
  · have hx := spec4_ne (o3.resolve_left k0)
    rw [if_neg k0]
    by_cases k1 : kind = 1
    · rw [if_pos k1]; exact ⟨_, _, rfl, hx.2.2.1, hx.1, hx.2.1⟩
    · rw [if_neg k1]; exact ⟨_, _, rfl, hx.2.2.1, hx.1, hx.2.1⟩

theorem chunk_loop (s : ByteArray) : ∀ (cs : List Ck) (f : Nat) (first : Bool) (q : Nat → Bool) (i : Nat), (∀ c ∈ cs, ckOk c) → (∀ (j b : Nat), (flat cs)[j]? = some b → byteAt s (i + j) = (b : Int)) → byteAt s (i + (flat cs).length) = 93 → cs.length < f → (first = true → cs ≠ []) →
    ∃ q', loopS s f first q i = ⟨0, q', 0, false, i + (flat cs).length⟩ ∧ ∀ n, q' n = (q n || cs.any (ckP · n))
  | [], 0, _, _, _, _, _, _, hf, _ => by simp at hf
  | [], f + 1, first, q, i, _, _, hz, _, hne => by
    have : first = false := by
      cases first
      · rfl
      · exact absurd rfl (hne rfl)
    subst this
    rw [flat_nil] at hz ⊢
    exact ⟨q, loopS_close s f q i hz, fun n => by simp⟩
  | c :: cs, 0, _, _, _, _, _, _, hf, _ => by simp at hf
  | c :: cs, f + 1, first, q, i, hok, hb, hz, hf, _ => by
    rw [flat_cons] at hb hz ⊢
    rw [List.length_append] at hz ⊢
    obtain ⟨b, l, hc, h45, h93, h94⟩ := chunk_head c (hok c (by simp))
    have b0 : byteAt s i = (b : Int) := by
      have := hb 0 b (by rw [hc]; rfl)
      simpa using this
    have hb2 : ∀ (j b : Nat), (flat cs)[j]? = some b → byteAt s (i + (ckT c).length + j) = (b : Int) := fun j b h => by
      have := hb ((ckT c).length + j) b (by rw [List.getElem?_append_right (by omega)]; simpa using h)
      rw [← Nat.add_assoc] at this
      exact this
    have hnx : ¬ byteAt s (i + (ckT c).length) = 45 := by
      cases cs with
      | nil =>
        rw [flat_nil, List.length_nil, Nat.add_zero] at hz
        rw [hz]; decide
      | cons c2 cs2 =>
        obtain ⟨b2, l2, hc2, h45', _, _⟩ := chunk_head c2 (hok c2 (by simp))
        have := hb2 0 b2 (by rw [flat_cons, hc2]; rfl)
        rw [Nat.add_zero] at this
        rw [this]
        omega
    have hlt : i + (ckT c).length < s.size := by
      have := byteAt_lt hz (by decide)
      omega
    obtain ⟨q1, he, hq1⟩ := chunk_entry s i c (hok c (by simp)) (fun j b h => hb j b (by rw [List.getElem?_append_left (by exact (List.getElem?_eq_some_iff.1 h).1)]; exact h)) hnx hlt
    have hne2 : ¬ (first = false ∧ byteAt s i = 93) := by
      rintro ⟨-, h⟩
      rw [b0] at h
      omega
    rw [loopS_next s f first q i hne2 (by rw [he]), he]
    simp only []
    rw [← Nat.add_assoc] at hz ⊢
    obtain ⟨q', h1, h2⟩ := chunk_loop s cs f false (orP q q1) (i + (ckT c).length) (fun c h => hok c (by simp [h])) hb2 hz (by simpa using hf) (by simp)
    refine ⟨q', h1, fun n => ?_⟩
    rw [h2]
    simp [orP, hq1, Bool.or_assoc]

theorem byteAt_bstrC (l : List Nat) (j b : Nat) (h : l[j]? = some b) (hb : b < 256) : byteAt (bstr l) j = (b : Int) := by
  have hj : j < l.length := (List.getElem?_eq_some_iff.1 h).1
  have e : l[j] = b := (List.getElem?_eq_some_iff.1 h).2
  have hs : j < (bstr l).size := by simpa [bstr, ByteArray.size] using hj
  rw [byteAt_in hs]
  have : (bstr l)[j] = UInt8.ofNat b := by
    show (bstr l).data[j] = _
    simp [bstr, e]
  rw [this]
  simp
  omega

theorem bstr_sizeC (l : List Nat) : (bstr l).size = l.length := by simp [bstr, ByteArray.size]

theorem flat_bytes (cs : List Ck) (hok : ∀ c ∈ cs, ckOk c) : ∀ b ∈ flat cs, b < 256 := by
  intro b hb
  unfold flat at hb
  obtain ⟨c, hc, hb⟩ := List.mem_flatMap.1 hb
  obtain ⟨o1, o2, -⟩ := hok c hc
  unfold ckT at hb
  split at hb
  · simp at hb; omega
  · split at hb
    · simp at hb; omega
    · simp at hb; omega

/-- The pieces between [ and ] are read as what they name. -/
theorem chunk_parse (cs : List Ck) (hok : ∀ c ∈ cs, ckOk c) (hne : cs ≠ []) : ∃ q, parseS (bstr (91 :: flat cs ++ [93])) 0 = ⟨0, q, 0, false, (91 :: flat cs ++ [93]).length⟩ ∧ ∀ n, q n = cs.any (ckP · n) := by
  have hfb := flat_bytes cs hok
  have hbt : ∀ (j b : Nat), (flat cs)[j]? = some b → byteAt (bstr (91 :: flat cs ++ [93])) (1 + j) = (b : Int) := fun j b h => by
    refine byteAt_bstrC _ _ _ ?_ (hfb b (List.mem_of_getElem? h))
    rw [List.cons_append, Nat.add_comm, List.getElem?_cons_succ, List.getElem?_append_left (List.getElem?_eq_some_iff.1 h).1]
    exact h
  have hz : byteAt (bstr (91 :: flat cs ++ [93])) (1 + (flat cs).length) = 93 := by
    refine byteAt_bstrC _ _ 93 ?_ (by decide)
    rw [List.cons_append, Nat.add_comm, List.getElem?_cons_succ, List.getElem?_append_right (Nat.le_refl _)]
    simp
  have h0 : byteAt (bstr (91 :: flat cs ++ [93])) 0 = 91 := byteAt_bstrC _ _ 91 rfl (by decide)
  have h1 : ¬ byteAt (bstr (91 :: flat cs ++ [93])) (0 + 1) = 94 := by
    cases cs with
    | nil => exact absurd rfl hne
    | cons c cs =>
      obtain ⟨b, l, hc, _, _, h94⟩ := chunk_head c (hok c (by simp))
      have := hbt 0 b (by rw [flat_cons, hc]; rfl)
      rw [Nat.zero_add]
      rw [Nat.add_zero] at this
      rw [this]
      omega
  have hcl : cs.length ≤ (flat cs).length := by
    clear hbt hz h0 h1 hfb hne
    induction cs with
    | nil => simp
    | cons c cs ih =>
      obtain ⟨b, l, hc, _⟩ := chunk_head c (hok c (by simp))
      have := ih (fun c h => hok c (by simp [h]))
      rw [flat_cons, hc]
      simp
      omega
  obtain ⟨q, hl, hq⟩ := chunk_loop (bstr (91 :: flat cs ++ [93])) cs ((bstr (91 :: flat cs ++ [93])).size + 2) true noneP 1 hok hbt hz (by rw [bstr_sizeC]; simp; omega) (fun _ => hne)
  refine ⟨q, ?_, fun n => by rw [hq]; simp [noneP]⟩
  unfold parseS
  rw [if_pos h0, if_neg h1, Nat.zero_add, hl]
  simp
  omega

/-- The text of a set is read as the set. -/
theorem text_parse (p : Nat → Bool) : ∃ q, parseS (bstr (textL (mem p 256))) 0 = ⟨0, q, 0, false, (textL (mem p 256)).length⟩ ∧ Is q p := by
  unfold textL
  by_cases h : mem p 256 = []
  · rw [if_pos h]
    have hz : byteAt (bstr [91, 94, 0, 45, 255, 93]) (2 + (flat [⟨2, 0, 255⟩]).length) = 93 := by decide
    have hok : ∀ c ∈ [(⟨2, 0, 255⟩ : Ck)], ckOk c := fun c hc => by
      rw [List.mem_singleton] at hc; subst hc
      exact ⟨by decide, by decide, .inr (by decide), .inr ⟨by decide, by decide⟩⟩
    have hbt : ∀ (j b : Nat), (flat [⟨2, 0, 255⟩])[j]? = some b → byteAt (bstr [91, 94, 0, 45, 255, 93]) (2 + j) = (b : Int) := fun j b h => by
      have hb : b < 256 := flat_bytes _ hok b (List.mem_of_getElem? h)
      refine byteAt_bstrC _ _ _ ?_ hb
      rw [Nat.add_comm]
      show (flat [⟨2, 0, 255⟩] ++ [93])[j]? = some b
      rw [List.getElem?_append_left (List.getElem?_eq_some_iff.1 h).1]
      exact h
    obtain ⟨q, hl, hq⟩ := chunk_loop (bstr [91, 94, 0, 45, 255, 93]) [⟨2, 0, 255⟩] ((bstr [91, 94, 0, 45, 255, 93]).size + 2) true noneP 2 hok hbt hz (by decide) (by simp)
    refine ⟨notP q, ?_, fun n hn => ?_⟩
    · unfold parseS
      rw [if_pos (by decide), if_pos (by decide), Nat.zero_add, hl]
      simp [flat, ckT]
    · have hp : p n = false := by
        unfold mem at h
        rw [List.filter_eq_nil_iff] at h
        simpa using h n (List.mem_range.2 hn)
      rw [hp]
      simp [notP, hq, ckP]
      omega
  · rw [if_neg h]
    obtain ⟨cs, h1, h2, h3⟩ := text_chunks (mem p 256) (mem_bytes p 256)
    have hne : cs ≠ [] := by
      rintro rfl
      obtain ⟨x, hx⟩ := List.exists_mem_of_ne_nil _ h
      simpa using (h3 x).1 hx
    obtain ⟨q, hp, hq⟩ := chunk_parse cs h2 hne
    rw [h1]
    refine ⟨q, hp, fun n hn => ?_⟩
    rw [hq, Bool.eq_iff_iff, List.any_eq_true, ← h3]
    unfold mem
    simp [hn]

/-- Two texts' insides, one behind the other, are read as the union. -/
theorem text_union (p r : Nat → Bool) (hp : mem p 256 ≠ []) (hr : mem r 256 ≠ []) : ∃ A B q, textL (mem p 256) = 91 :: A ++ [93] ∧ textL (mem r 256) = 91 :: B ++ [93] ∧ A ≠ [] ∧ B ≠ [] ∧ parseS (bstr (91 :: (A ++ B) ++ [93])) 0 = ⟨0, q, 0, false, (91 :: (A ++ B) ++ [93]).length⟩ ∧ Is q (orP p r) := by
  obtain ⟨cs, h1, h2, h3⟩ := text_chunks (mem p 256) (mem_bytes p 256)
  obtain ⟨ds, k1, k2, k3⟩ := text_chunks (mem r 256) (mem_bytes r 256)
  have nn : ∀ (L : List Nat) (es : List Ck), L ≠ [] → (∀ c ∈ es, ckOk c) → (∀ n, n ∈ L ↔ ∃ c ∈ es, ckP c n = true) → es ≠ [] ∧ flat es ≠ [] := by
    intro L es hL hok hm
    have hne : es ≠ [] := by
      rintro rfl
      obtain ⟨x, hx⟩ := List.exists_mem_of_ne_nil _ hL
      simpa using (hm x).1 hx
    refine ⟨hne, ?_⟩
    cases es with
    | nil => exact absurd rfl hne
    | cons c es =>
      obtain ⟨b, l, hc, _⟩ := chunk_head c (hok c (by simp))
      rw [flat_cons, hc]
      simp
  obtain ⟨n1, f1⟩ := nn _ cs hp h2 h3
  obtain ⟨n2, f2⟩ := nn _ ds hr k2 k3
  obtain ⟨q, hq1, hq2⟩ := chunk_parse (cs ++ ds) (fun c hc => (List.mem_append.1 hc).elim (h2 c) (k2 c)) (by simp [n1])
  rw [flat_append] at hq1
  refine ⟨flat cs, flat ds, q, by rw [textL, if_neg hp, h1], by rw [textL, if_neg hr, k1], f1, f2, hq1, fun n hn => ?_⟩
  rw [hq2, Bool.eq_iff_iff, List.any_eq_true]
  have e1 : p n = true ↔ n ∈ mem p 256 := by unfold mem; simp [hn]
  have e2 : r n = true ↔ n ∈ mem r 256 := by unfold mem; simp [hn]
  simp only [orP, Bool.or_eq_true, e1, e2, h3, k3, List.mem_append, or_and_right, exists_or]

theorem byteAt_left (a b : ByteArray) (j : Nat) (h : j < a.size) : byteAt (a ++ b) j = byteAt a j := by
  rw [byteAt_in (by rw [ByteArray.size_append]; omega), byteAt_in h, ByteArray.getElem_append_left h]

theorem byteAt_right (a b : ByteArray) (j : Nat) (h : j < b.size) : byteAt (a ++ b) (a.size + j) = byteAt b j := by
  rw [byteAt_in (by rw [ByteArray.size_append]; omega), byteAt_in h, ByteArray.getElem_append_right (by omega)]
  congr 2
  simp

theorem win_mid (a b c : ByteArray) (N : Nat) (h : N ≤ b.size) : Win b 0 (a ++ b ++ c) a.size N := by
  refine ⟨by omega, by rw [ByteArray.size_append, ByteArray.size_append]; omega, fun j hj => ?_⟩
  rw [Nat.zero_add, byteAt_left (a ++ b) c _ (by rw [ByteArray.size_append]; omega), byteAt_right a b j (by omega)]

theorem textL_len (p : Nat → Bool) : 3 ≤ (textL (mem p 256)).length ∧ (textL (mem p 256)).length ≤ 1300 := by
  have h1 := textSt_len (mem p 256)
  have h2 := mem_le p 256
  have h3 := flush_len (textSt (mem p 256))
  obtain ⟨q, h4, -⟩ := text_parse p
  have h5 := parse_form (s := bstr (textL (mem p 256))) (i := 0) (by rw [h4])
  rw [h4] at h5
  refine ⟨by simpa using h5.1, ?_⟩
  unfold textL
  split
  · simp
  · simp; omega

theorem back_parse (p : Nat → Bool) (a c : ByteArray) : ∃ q, parseX (a ++ bstr (textL (mem p 256)) ++ c) (a.size : Int) = ⟨0, q, 0, false, a.size + (textL (mem p 256)).length⟩ ∧ Is q p := by
  obtain ⟨q, h, hq⟩ := text_parse p
  refine ⟨q, ?_, hq⟩
  rw [parseX, if_pos (by omega), Int.toNat_natCast]
  have hw := parse_win (s := bstr (textL (mem p 256))) (s' := a ++ bstr (textL (mem p 256)) ++ c) (i := 0) (i' := a.size) (by rw [h]) (by rw [h]; exact win_mid _ _ _ _ (by rw [bstr_sizeC]; simp))
  rw [hw, h]
  simp

end Go.Proofs.YtemgfbidfdhanaaDoor

/- canon: trees and parsers up to what can't be told apart: sets beyond 256, places. -/
namespace Go.Proofs.YtemgfbidfdhanaaDoor
open Go.RowKit

def nfq (q : Nat → Bool) : Nat → Bool := fun j => q j && decide (j < 256)
mutual
def nfT : Tr → Tr
  | .mk k q lo hi g kids => .mk k (nfq q) lo hi g (nfL kids)
def nfL : List Tr → List Tr
  | [] => []
  | t :: ts => nfT t :: nfL ts
end
theorem nfL_app : ∀ (ts us : List Tr), nfL (ts ++ us) = nfL ts ++ nfL us
  | [], us => by simp [nfL]
  | t :: ts, us => by simp only [List.cons_append, nfL, nfL_app ts us]
theorem nfL_one (t : Tr) : nfL [t] = [nfT t] := by simp [nfL]
theorem nfq_none : nfq noneP = noneP := by
  funext j
  simp [nfq, noneP]

def nfLv (l : Lv) : Lv := ⟨0, l.grp, l.before, nfL l.parts⟩
def nfP (P : Ps) : Ps := ⟨P.outer.map nfLv, nfLv P.top, P.groups, P.shut, P.size, P.last⟩
def nfK (t : Tk) : Tk := ⟨t.kind, 0, 0, if t.kind = 0 then t.e else 0, if t.kind = 1 then nfq t.q else noneP, if t.kind = 6 then t.grp else 0, if t.kind = 7 then t.lo else 0, if t.kind = 7 then t.hi else 0⟩

theorem nf_byte (q : Nat → Bool) : nfT (byteT q) = byteT (nfq q) := by simp [byteT, nfT, nfL]
theorem nf_bol : nfT bolT = bolT := by simp [bolT, nfT, nfL, nfq_none]
theorem nf_eol : nfT eolT = eolT := by simp [eolT, nfT, nfL, nfq_none]
theorem nf_back (g : Nat) : nfT (backT g) = backT g := by simp [backT, nfT, nfL, nfq_none]
theorem nf_cat (ts : List Tr) : nfT (catT ts) = catT (nfL ts) := by simp [catT, nfT, nfq_none]
theorem nf_group (k : Nat) (ts : List Tr) : nfT (groupT k ts) = groupT k (nfL ts) := by simp [groupT, nfT, nfL, nf_cat, nfq_none]
theorem nf_rep (lo hi : Int) (t : Tr) : nfT (repT lo hi t) = repT lo hi (nfT t) := by simp [repT, nfT, nfL, nfq_none]

theorem nf_add (P : Ps) (t : Tr) (p : Int) : nfP (P.add t p) = (nfP P).add (nfT t) p := by
  simp only [nfP, Ps.add, nfLv, nfL_app, nfL_one]

theorem last_nf (ts : List Tr) : (nfL ts).getLast? = ts.getLast?.map nfT := by
  cases h : ts.getLast? with
  | none => rw [List.getLast?_eq_none_iff.1 h]; simp [nfL]
  | some x =>
    rw [snoc_of h, nfL_app, nfL_one, List.getLast?_concat]
    rfl
theorem drop_nf (ts : List Tr) : (nfL ts).dropLast = nfL ts.dropLast := by
  cases h : ts.getLast? with
  | none => rw [List.getLast?_eq_none_iff.1 h]; simp [nfL]
  | some x =>
    conv => lhs; rw [snoc_of h]
    rw [nfL_app, nfL_one, List.dropLast_concat]

theorem nf_grown (X : Ps) : (nfP X).grown = (X.grown.1, nfP X.grown.2) := rfl

/-- A token does the same to what can't be told apart, but for places. -/
theorem nf_take (P : Ps) (t : Tk) (hk : t.kind ≤ 7) : (nfP P).take (nfK t) = ((P.take t).1, nfP (P.take t).2) := by
  have hkk : (nfK t).kind = t.kind := rfl
  rcases (show t.kind = 0 ∨ t.kind = 1 ∨ t.kind = 2 ∨ t.kind = 3 ∨ t.kind = 4 ∨ t.kind = 5 ∨ t.kind = 6 ∨ t.kind = 7 by omega) with c | c | c | c | c | c | c | c
  · simp only [Ps.take, hkk, c, show (nfK t).e = t.e by simp [nfK, c]]
  · have e : (nfP P).take (nfK t) = ((nfP P).add (byteT (nfq t.q)) 1).grown := by simp only [Ps.take, hkk, c, show (nfK t).q = nfq t.q by simp [nfK, c]]
    have e0 : P.take t = (P.add (byteT t.q) 1).grown := by simp only [Ps.take, c]
    rw [e, e0, ← nf_byte, ← nf_add, nf_grown]
  · have e : (nfP P).take (nfK t) = ((nfP P).add bolT 0).grown := by simp only [Ps.take, hkk, c]
    have e0 : P.take t = (P.add bolT 0).grown := by simp only [Ps.take, c]
    rw [e, e0, ← nf_bol, ← nf_add, nf_grown, nf_bol]
  · have e : (nfP P).take (nfK t) = ((nfP P).add eolT 0).grown := by simp only [Ps.take, hkk, c]
    have e0 : P.take t = (P.add eolT 0).grown := by simp only [Ps.take, c]
    rw [e, e0, ← nf_eol, ← nf_add, nf_grown, nf_eol]
  · have e : (nfP P).take (nfK t) = if P.groups = 9 then (4, nfP P) else (0, (nfP P).opened 0) := by simp only [Ps.take, hkk, c]; rfl
    have e0 : P.take t = if P.groups = 9 then (4, P) else (0, P.opened t.fr) := by simp only [Ps.take, c]
    rw [e, e0]
    by_cases g : P.groups = 9
    · rw [if_pos g, if_pos g]
    · rw [if_neg g, if_neg g]
      simp only [nfP, Ps.opened, List.map_append, List.map_cons, List.map_nil, nfLv, nfL]
  · have e : (nfP P).take (nfK t) = match (P.outer.map nfLv).getLast? with | none => (10, nfP P) | some l => (0, (nfP P).close (P.outer.map nfLv).dropLast l) := by simp only [Ps.take, hkk, c]; rfl
    have e0 : P.take t = match P.outer.getLast? with | none => (10, P) | some l => (0, P.close P.outer.dropLast l) := by simp only [Ps.take, c]; rfl
    rw [e, e0, List.getLast?_map, ← List.map_dropLast]
    cases h : P.outer.getLast? with
    | none => rfl
    | some l => simp only [Option.map_some, nfP, Ps.close, Ps.pop, Ps.add, nfLv, nfL_app, nfL_one, nf_group]; rfl
  · have e : (nfP P).take (nfK t) = if P.shut t.grp then ((nfP P).add (backT t.grp) 1).grown else (11, nfP P) := by simp only [Ps.take, hkk, c, show (nfK t).grp = t.grp by simp [nfK, c]]; rfl
    have e0 : P.take t = if P.shut t.grp then (P.add (backT t.grp) 1).grown else (11, P) := by simp only [Ps.take, c]
    rw [e, e0]
    by_cases x : P.shut t.grp = true
    · rw [if_pos x, if_pos x, ← nf_back, ← nf_add, nf_grown, nf_back]
    · rw [if_neg x, if_neg x]
  · have e : (nfP P).take (nfK t) = match (nfL P.top.parts).getLast? with | none => (0, nfP P) | some x => ((nfP P).rep (nfL P.top.parts).dropLast x t.lo t.hi).grown := by simp only [Ps.take, hkk, c, show (nfK t).lo = t.lo by simp [nfK, c], show (nfK t).hi = t.hi by simp [nfK, c]]; rfl
    have e0 : P.take t = match P.top.parts.getLast? with | none => (0, P) | some x => (P.rep P.top.parts.dropLast x t.lo t.hi).grown := by simp only [Ps.take, c]; rfl
    rw [e, e0, last_nf, drop_nf]
    cases h : P.top.parts.getLast? with
    | none => rfl
    | some x =>
      simp only [Option.map_some]
      have e1 : (nfP P).rep (nfL P.top.parts.dropLast) (nfT x) t.lo t.hi = nfP (P.rep P.top.parts.dropLast x t.lo t.hi) := by
        simp only [nfP, Ps.rep, nfLv, nfL_app, nfL_one, nf_rep]
      rw [e1, nf_grown]

theorem same_take {P P' : Ps} {t t' : Tk} (hP : nfP P' = nfP P) (ht : nfK t' = nfK t) (hk : t.kind ≤ 7) : (P'.take t').1 = (P.take t).1 ∧ nfP (P'.take t').2 = nfP (P.take t).2 := by
  have hkk : t'.kind = t.kind := by have := congrArg Tk.kind ht; exact this
  have h1 := nf_take P t hk
  have h2 := nf_take P' t' (by omega)
  rw [hP, ht, h1] at h2
  injection h2 with a b
  exact ⟨a.symm, b.symm⟩
end Go.Proofs.YtemgfbidfdhanaaDoor

/- canon: the text of a tree, token by token. -/
namespace Go.Proofs.YtemgfbidfdhanaaDoor
open Go.RowKit

/-- A number up to 255 in decimal digits. -/
def digL (n : Nat) : List UInt8 := if n < 10 then [UInt8.ofNat (48 + n)] else if n < 100 then [UInt8.ofNat (48 + n / 10), UInt8.ofNat (48 + n % 10)] else [UInt8.ofNat (48 + n / 100), UInt8.ofNat (48 + n / 10 % 10), UInt8.ofNat (48 + n % 10)]

/-- What stands behind a part that is repeated. -/
def repX (lo hi : Int) : List UInt8 :=
  if lo = 0 ∧ hi < 0 then [42] else if hi < 0 then 92 :: 123 :: (digL lo.toNat ++ [44] ++ [92, 125]) else if hi = lo then 92 :: 123 :: (digL lo.toNat ++ [92, 125]) else 92 :: 123 :: (digL lo.toNat ++ 44 :: digL hi.toNat ++ [92, 125])

section
variable (st : (Nat → Bool) → List UInt8)

mutual
/-- The text of a tree; st: that of a set. -/
def wrT : Tr → List UInt8
  | .mk k q lo hi g kids => if k = 1 then st q else if k = 2 then [94] else if k = 3 then [36] else if k = 6 then [92, UInt8.ofNat (48 + g)] else if k = 4 then [92, 40] ++ wrL kids ++ [92, 41] else if k = 5 then wrL kids ++ repX lo hi else wrL kids
def wrL : List Tr → List UInt8
  | [] => []
  | t :: ts => wrT t ++ wrL ts
end

theorem wrL_app : ∀ (ts us : List Tr), wrL st (ts ++ us) = wrL st ts ++ wrL st us
  | [], us => by simp [wrL]
  | t :: ts, us => by simp only [List.cons_append, wrL, wrL_app ts us, List.append_assoc]
theorem wrL_one (t : Tr) : wrL st [t] = wrT st t := by simp [wrL]
theorem wr_byte (q : Nat → Bool) : wrT st (byteT q) = st q := by simp [byteT, wrT]
theorem wr_bol : wrT st bolT = [94] := by simp [bolT, wrT]
theorem wr_eol : wrT st eolT = [36] := by simp [eolT, wrT]
theorem wr_back (g : Nat) : wrT st (backT g) = [92, UInt8.ofNat (48 + g)] := by simp [backT, wrT]
theorem wr_cat (ts : List Tr) : wrT st (catT ts) = wrL st ts := by simp [catT, wrT]
theorem wr_group (k : Nat) (ts : List Tr) : wrT st (groupT k ts) = [92, 40] ++ wrL st ts ++ [92, 41] := by simp [groupT, wrT, wrL, wr_cat]
theorem wr_rep (lo hi : Int) (t : Tr) : wrT st (repT lo hi t) = wrT st t ++ repX lo hi := by simp [repT, wrT, wrL]

/-- The text of a token. -/
def tkX (t : Tk) : List UInt8 := if t.kind = 1 then st t.q else if t.kind = 2 then [94] else if t.kind = 3 then [36] else if t.kind = 4 then [92, 40] else if t.kind = 5 then [92, 41] else if t.kind = 6 then [92, UInt8.ofNat (48 + t.grp)] else repX t.lo t.hi

/-- The text of what a parser has read. -/
def txP (P : Ps) : List UInt8 := (P.outer.map fun l => wrL st l.parts ++ [92, 40]).flatten ++ wrL st P.top.parts

theorem tx_take (P : Ps) (t : Tk) (hk : t.kind ≠ 0) (hk7 : t.kind ≤ 7) (h0 : (P.take t).1 = 0) (h7 : t.kind = 7 → P.top.parts ≠ []) : txP st (P.take t).2 = txP st P ++ tkX st t := by
  rcases (show t.kind = 1 ∨ t.kind = 2 ∨ t.kind = 3 ∨ t.kind = 4 ∨ t.kind = 5 ∨ t.kind = 6 ∨ t.kind = 7 by omega) with c | c | c | c | c | c | c
  · have e0 : P.take t = (P.add (byteT t.q) 1).grown := by simp only [Ps.take, c]
    rw [e0]
    show (P.outer.map fun l => wrL st l.parts ++ [92, 40]).flatten ++ wrL st (P.top.parts ++ [byteT t.q]) = _
    rw [wrL_app, wrL_one, wr_byte]
    simp [txP, tkX, c]
  · have e0 : P.take t = (P.add bolT 0).grown := by simp only [Ps.take, c]
    rw [e0]
    show (P.outer.map fun l => wrL st l.parts ++ [92, 40]).flatten ++ wrL st (P.top.parts ++ [bolT]) = _
    rw [wrL_app, wrL_one, wr_bol]
    simp [txP, tkX, c]
  · have e0 : P.take t = (P.add eolT 0).grown := by simp only [Ps.take, c]
    rw [e0]
    show (P.outer.map fun l => wrL st l.parts ++ [92, 40]).flatten ++ wrL st (P.top.parts ++ [eolT]) = _
    rw [wrL_app, wrL_one, wr_eol]
    simp [txP, tkX, c]
  · have e0 : P.take t = if P.groups = 9 then (4, P) else (0, P.opened t.fr) := by simp only [Ps.take, c]
    have g9 : P.groups ≠ 9 := fun x => by rw [e0, if_pos x] at h0; cases h0
    rw [e0, if_neg g9]
    show ((P.outer ++ [P.top]).map fun l => wrL st l.parts ++ [92, 40]).flatten ++ wrL st [] = _
    simp [txP, tkX, c, wrL]
  · have e0 : P.take t = match P.outer.getLast? with | none => (10, P) | some l => (0, P.close P.outer.dropLast l) := by simp only [Ps.take, c]; rfl
    cases h : P.outer.getLast? with
    | none => rw [e0, h] at h0; cases h0
    | some l =>
      rw [e0, h]
      show (P.outer.dropLast.map fun l => wrL st l.parts ++ [92, 40]).flatten ++ wrL st (l.parts ++ [groupT P.top.grp P.top.parts]) = (P.outer.map fun l => wrL st l.parts ++ [92, 40]).flatten ++ wrL st P.top.parts ++ _
      conv => rhs; rw [snoc_of h]
      rw [wrL_app, wrL_one, wr_group]
      simp [tkX, c]
  · have e0 : P.take t = if P.shut t.grp then (P.add (backT t.grp) 1).grown else (11, P) := by simp only [Ps.take, c]
    have x : P.shut t.grp = true := by
      by_cases x : P.shut t.grp = true
      · exact x
      · rw [e0, if_neg x] at h0; cases h0
    rw [e0, if_pos x]
    show (P.outer.map fun l => wrL st l.parts ++ [92, 40]).flatten ++ wrL st (P.top.parts ++ [backT t.grp]) = _
    rw [wrL_app, wrL_one, wr_back]
    simp [txP, tkX, c]
  · have e0 : P.take t = match P.top.parts.getLast? with | none => (0, P) | some x => (P.rep P.top.parts.dropLast x t.lo t.hi).grown := by simp only [Ps.take, c]; rfl
    cases h : P.top.parts.getLast? with
    | none => exact absurd (List.getLast?_eq_none_iff.1 h) (h7 c)
    | some x =>
      rw [e0, h]
      show (P.outer.map fun l => wrL st l.parts ++ [92, 40]).flatten ++ wrL st (P.top.parts.dropLast ++ [repT t.lo t.hi x]) = (P.outer.map fun l => wrL st l.parts ++ [92, 40]).flatten ++ wrL st P.top.parts ++ _
      conv => rhs; rw [snoc_of h]
      rw [wrL_app, wrL_one, wr_rep, wrL_app, wrL_one]
      simp [tkX, c]
end

theorem dig_num : ∀ n : Fin 256, numS (digL n.val) = (n.val, true) := by decide +kernel
theorem dig_plain : ∀ n : Fin 256, (digL n.val).all (fun b => b != 92 && b != 44) = true := by decide +kernel
end Go.Proofs.YtemgfbidfdhanaaDoor

/- canon: the text of a token is read as the token. -/
namespace Go.Proofs.YtemgfbidfdhanaaDoor
open Go.RowKit

/-- What is so of every token. -/
structure TkF (s : ByteArray) (i k : Nat) (t : Tk) : Prop where
  bol : t.kind = 2 → k = 4
  eol : t.kind = 3 → shuts s (i + 1) = true ∧ t.to = i + 1
  back : t.kind = 6 → 1 ≤ t.grp ∧ t.grp ≤ 9
  rep : t.kind = 7 → t.hi = -1 ∨ t.lo ≤ t.hi

theorem tkF_no {s : ByteArray} {i k : Nat} {t : Tk} (h : t.kind ≠ 2 ∧ t.kind ≠ 3 ∧ t.kind ≠ 6 ∧ t.kind ≠ 7) : TkF s i k t := ⟨fun e => absurd e h.1, fun e => absurd e h.2.1, fun e => absurd e h.2.2.1, fun e => absurd e h.2.2.2⟩

theorem tkF_fault (s : ByteArray) (i k : Nat) (e : Int) (j : Nat) : TkF s i k (faultT e j) := tkF_no ⟨by simp [faultT], by simp [faultT], by simp [faultT], by simp [faultT]⟩
theorem tkF_self (s : ByteArray) (i k b j l : Nat) : TkF s i k (selfT b j l) := tkF_no ⟨by simp [selfT], by simp [selfT], by simp [selfT], by simp [selfT]⟩

theorem tkF_ivl (s : ByteArray) (i k j : Nat) : TkF s i k (intervalT s j) := by
  unfold intervalT ivlT
  dsimp only
  split
  · rename_i c
    refine ⟨(fun e => by cases e), (fun e => by cases e), (fun e => by cases e), fun _ => ?_⟩
    simp only [Bool.and_eq_true] at c
    obtain ⟨_, c⟩ := c
    unfold upper at c ⊢
    split
    · rename_i d
      rw [if_pos d] at c
      split
      · exact .inl rfl
      · rename_i e
        rw [if_neg e] at c
        simp only [Bool.and_eq_true, decide_eq_true_eq] at c
        right
        exact Int.ofNat_le.2 c.2
    · right
      exact Int.le_refl _
  · exact tkF_fault s i k 9 j

theorem tkF_tok (s : ByteArray) (i k : Nat) : TkF s i k (tokenT s i k) := by
  unfold tokenT
  split
  · unfold escapeT
    split
    · exact tkF_fault _ _ _ _ _
    · unfold escB
      split
      · exact tkF_no ⟨by simp, by simp, by simp, by simp⟩
      split
      · exact tkF_no ⟨by simp, by simp, by simp, by simp⟩
      split
      · exact tkF_ivl s i k i
      split
      · exact tkF_fault _ _ _ _ _
      split
      · exact tkF_self _ _ _ _ _ _
      split
      · rename_i c
        refine ⟨(fun e => by cases e), (fun e => by cases e), fun _ => ?_, (fun e => by cases e)⟩
        have c2 := c.2
        unfold digB at c2
        simp only [Bool.and_eq_true, decide_eq_true_eq] at c2
        have c1 := c.1
        show 1 ≤ (byteAt s (i + 1)).toNat - 48 ∧ (byteAt s (i + 1)).toNat - 48 ≤ 9
        omega
      split
      · exact tkF_fault _ _ _ _ _
      · exact tkF_self _ _ _ _ _ _
  split
  · unfold bracketT
    split
    · exact tkF_fault _ _ _ _ _
    · exact tkF_no ⟨by simp, by simp, by simp, by simp⟩
  split
  · exact tkF_no ⟨by simp, by simp, by simp, by simp⟩
  split
  · rename_i c
    exact ⟨fun _ => c.2, (fun e => by cases e), (fun e => by cases e), (fun e => by cases e)⟩
  split
  · rename_i c
    exact ⟨(fun e => by cases e), fun _ => ⟨c.2, rfl⟩, (fun e => by cases e), (fun e => by cases e)⟩
  split
  · exact ⟨(fun e => by cases e), (fun e => by cases e), (fun e => by cases e), fun _ => .inl rfl⟩
  · exact tkF_self _ _ _ _ _ _

theorem byte_drop {T : ByteArray} {j : Nat} {l : List UInt8} (h : T.data.toList.drop j = l) (m : Nat) (b : UInt8) {n : Int} (hn : (b.toNat : Int) = n) (hb : l[m]? = some b) : byteAt T (j + m) = n := by
  rw [byteAt_list, ← List.getElem?_drop, h, hb]
  exact hn

/-- A repeat is read. -/
theorem rep_read {T : ByteArray} {j k : Nat} {lo hi : Int} {r : List UInt8} (hd : T.data.toList.drop j = repX lo hi ++ r) (hk : repB k = true) (hlo : 0 ≤ lo ∧ lo ≤ 255) (hhi : hi = -1 ∨ (lo ≤ hi ∧ hi ≤ 255)) :
    tokenT T j k = ⟨7, j, j + (repX lo hi).length, 0, noneP, 0, lo, hi⟩ := by
  obtain ⟨n, rfl⟩ : ∃ n : Nat, lo = n := ⟨lo.toNat, by omega⟩
  have hn : n < 256 := by omega
  have hnum := dig_num ⟨n, hn⟩
  have hpl := dig_plain ⟨n, hn⟩
  simp only at hnum hpl
  have no92 : ∀ b ∈ digL n, b ≠ 92 := fun b hb => by have := List.all_eq_true.1 hpl b hb; simp at this; exact this.1
  have no44 : ∀ b ∈ digL n, b ≠ 44 := fun b hb => by have := List.all_eq_true.1 hpl b hb; simp at this; exact this.2
  -- behind the opening
  have braces : ∀ (inner : List UInt8), T.data.toList.drop j = 92 :: 123 :: (inner ++ [92, 125]) ++ r → (∀ b ∈ inner, b ≠ 92) → tokenT T j k = ivlT j inner true := fun inner h hi => by
    have b0 := byte_drop h 0 92 (n := 92) rfl rfl
    have b1 := byte_drop h 1 123 (n := 123) rfl rfl
    rw [Nat.add_zero] at b0
    have hl := byteAt_lt b1 (by omega)
    unfold tokenT escapeT escB
    rw [if_pos b0, if_neg (by omega), b1]
    have e : T.data.toList.drop (j + 2) = inner ++ (92 :: [125] ++ r) := by
      rw [← List.drop_drop, h]
      simp
    have hc := cut_app inner r 92 [125] hi
    rw [← e] at hc
    have e2 : intervalT T j = ivlT j inner true := by
      unfold intervalT
      rw [hc]
    simp only [Int.reduceToNat, hk]
    exact e2
  by_cases c1 : (n : Int) = 0 ∧ hi < 0
  · have e : repX n hi = [42] := by unfold repX; rw [if_pos c1]
    rw [e] at hd ⊢
    have b0 := byte_drop hd 0 42 (n := 42) rfl rfl
    rw [Nat.add_zero] at b0
    have h1 : hi = -1 := by omega
    have h2 : (n : Int) = 0 := c1.1
    unfold tokenT
    rw [b0]
    simp only [h1, h2, hk]
    rfl
  · by_cases c2 : hi < 0
    · have h1 : hi = -1 := by omega
      have e : repX n hi = 92 :: 123 :: (digL n ++ [44] ++ [92, 125]) := by unfold repX; rw [if_neg c1, if_pos c2, Int.toNat_natCast]
      rw [e] at hd ⊢
      rw [braces _ hd (fun b hb => by rcases List.mem_append.1 hb with hb | hb; exact no92 b hb; simp at hb; subst hb; decide)]
      unfold ivlT
      have hc := cut_app (digL n) [] 44 [] no44
      simp only [List.append_nil] at hc
      rw [show digL n ++ [44] = digL n ++ [44] from rfl, hc]
      simp only [upper, hnum, List.isEmpty_nil, if_true, Bool.and_self, h1]
      simp only [List.length_append, List.length_cons, List.length_nil]
    · by_cases c3 : hi = n
      · have e : repX n hi = 92 :: 123 :: (digL n ++ [92, 125]) := by unfold repX; rw [if_neg c1, if_neg c2, if_pos c3, Int.toNat_natCast]
        rw [e] at hd ⊢
        rw [braces _ hd no92]
        unfold ivlT
        have hc := cut_no (digL n) 44 [] no44
        rw [hc]
        simp only [upper, hnum, Bool.false_eq_true, if_false, Bool.and_self, if_true, c3]
        simp only [List.length_append, List.length_cons, List.length_nil]
      · obtain ⟨m, rfl⟩ : ∃ m : Nat, hi = m := ⟨hi.toNat, by omega⟩
        have hm : m < 256 := by omega
        have hnum2 := dig_num ⟨m, hm⟩
        have hpl2 := dig_plain ⟨m, hm⟩
        simp only at hnum2 hpl2
        have no92' : ∀ b ∈ digL m, b ≠ 92 := fun b hb => by have := List.all_eq_true.1 hpl2 b hb; simp at this; exact this.1
        have hne : (digL m).isEmpty = false := by unfold digL; split; rfl; split <;> rfl
        have e : repX n m = 92 :: 123 :: (digL n ++ 44 :: digL m ++ [92, 125]) := by unfold repX; rw [if_neg c1, if_neg c2, if_neg c3, Int.toNat_natCast, Int.toNat_natCast]
        rw [e] at hd ⊢
        rw [braces _ hd (fun b hb => by rcases List.mem_append.1 hb with hb | hb; exact no92 b hb; rcases List.mem_cons.1 hb with hb | hb; subst hb; decide; exact no92' b hb)]
        unfold ivlT
        have hc := cut_app (digL n) (digL m) 44 [] no44
        simp only [List.cons_append, List.nil_append] at hc
        rw [hc]
        have hle : decide (n ≤ m) = true := decide_eq_true (by omega)
        simp only [upper, hnum, hnum2, hne, hle, Bool.false_eq_true, if_false, Bool.and_self, if_true]
        simp only [List.length_append, List.length_cons, List.length_nil]
end Go.Proofs.YtemgfbidfdhanaaDoor

/- canon: the one text is read as the same tree. -/
namespace Go.Proofs.YtemgfbidfdhanaaDoor
open Go.RowKit

/-- How the text of a set is read. -/
def ReadsSet (st : (Nat → Bool) → List UInt8) : Prop := ∀ (q : Nat → Bool) (T : ByteArray) (j k : Nat) (r : List UInt8), T.data.toList.drop j = st q ++ r → ∃ q', nfq q' = nfq q ∧ tokenT T j k = ⟨1, j, j + (st q).length, 0, q', 0, 0, 0⟩

theorem size_of_list' (s : ByteArray) : s.size = s.data.toList.length := (data_len s).symm

theorem tok_read {st : (Nat → Bool) → List UInt8} (hst : ReadsSet st) {s T : ByteArray} {i j k : Nat} {t : Tk} {r : List UInt8} (hk : t.kind ≠ 0) (hok : TkOk t) (hf : TkF s i k t) (hrep : t.kind = 7 → repB k = true)
    (h3 : t.kind = 3 → r = [] ∨ ∃ r', r = 92 :: 41 :: r') (hd : T.data.toList.drop j = tkX st t ++ r) : nfK (tokenT T j k) = nfK t ∧ (tokenT T j k).to = j + (tkX st t).length := by
  have h7 := hok.kind
  rcases (show t.kind = 1 ∨ t.kind = 2 ∨ t.kind = 3 ∨ t.kind = 4 ∨ t.kind = 5 ∨ t.kind = 6 ∨ t.kind = 7 by omega) with c | c | c | c | c | c | c
  · have e : tkX st t = st t.q := by simp [tkX, c]
    rw [e] at hd ⊢
    obtain ⟨q', hq, ht⟩ := hst t.q T j k r hd
    rw [ht]
    exact ⟨by simp [nfK, c, hq], rfl⟩
  · have e : tkX st t = [94] := by simp [tkX, c]
    rw [e] at hd ⊢
    have b0 := byte_drop hd 0 94 (n := 94) rfl rfl
    rw [Nat.add_zero] at b0
    have ht : tokenT T j k = ⟨2, j, j + 1, 0, noneP, 0, 0, 0⟩ := by
      unfold tokenT
      rw [b0, hf.bol c]
      rfl
    rw [ht]
    exact ⟨by simp [nfK, c], rfl⟩
  · have e : tkX st t = [36] := by simp [tkX, c]
    rw [e] at hd ⊢
    have b0 := byte_drop hd 0 36 (n := 36) rfl rfl
    rw [Nat.add_zero] at b0
    have hl := byteAt_lt b0 (by omega)
    have hsh : shuts T (j + 1) = true := by
      have e2 : T.data.toList.drop (j + 1) = r := by
        rw [← List.drop_drop, hd]
        rfl
      unfold shuts
      rw [extract_drop, e2]
      rcases h3 c with rfl | ⟨r', rfl⟩
      · have : j + 1 = T.size := by
          have := congrArg List.length e2
          rw [List.length_drop, data_len] at this
          simp at this
          omega
        rw [decide_eq_true this]
        rfl
      · rw [Bool.or_eq_true]
        right
        rfl
    have ht : tokenT T j k = ⟨3, j, j + 1, 0, noneP, 0, 0, 0⟩ := by
      unfold tokenT
      rw [b0, hsh]
      simp
    rw [ht]
    exact ⟨by simp [nfK, c], rfl⟩
  · have e : tkX st t = [92, 40] := by simp [tkX, c]
    rw [e] at hd ⊢
    have b0 := byte_drop hd 0 92 (n := 92) rfl rfl
    have b1 := byte_drop hd 1 40 (n := 40) rfl rfl
    rw [Nat.add_zero] at b0
    rw [tok_open k b0 b1]
    exact ⟨by simp [nfK, c], rfl⟩
  · have e : tkX st t = [92, 41] := by simp [tkX, c]
    rw [e] at hd ⊢
    have b0 := byte_drop hd 0 92 (n := 92) rfl rfl
    have b1 := byte_drop hd 1 41 (n := 41) rfl rfl
    rw [Nat.add_zero] at b0
    rw [tok_close k b0 b1]
    exact ⟨by simp [nfK, c], rfl⟩
  · have e : tkX st t = [92, UInt8.ofNat (48 + t.grp)] := by simp [tkX, c]
    rw [e] at hd ⊢
    have b0 := byte_drop hd 0 92 (n := 92) rfl rfl
    have hg := hf.back c
    have b1 := byte_drop hd 1 (UInt8.ofNat (48 + t.grp)) (n := ((48 + t.grp : Nat) : Int)) (by rw [UInt8.toNat_ofNat']; omega) rfl
    rw [Nat.add_zero] at b0
    have hl := byteAt_lt b1 (by omega)
    have ht : tokenT T j k = ⟨6, j, j + 2, 0, noneP, t.grp, 0, 0⟩ := by
      unfold tokenT escapeT escB
      rw [if_pos b0, if_neg (by omega), b1, Int.toNat_natCast]
      generalize t.grp = g at hg
      rw [if_neg (by omega), if_neg (by omega), if_neg (by omega), if_neg (by omega), if_neg (by omega), if_pos ⟨by omega, by unfold digB; rw [decide_eq_true (show (48 : Int) ≤ ((48 + g : Nat) : Int) by omega), decide_eq_true (show ((48 + g : Nat) : Int) ≤ 57 by omega)]; rfl⟩, Nat.add_sub_cancel_left]
    rw [ht]
    exact ⟨by simp [nfK, c], rfl⟩
  · have e : tkX st t = repX t.lo t.hi := by simp [tkX, c]
    rw [e] at hd ⊢
    have hb := hok.rep c
    rw [rep_read hd (hrep c) hb.1 (by rcases hf.rep c with h | h; exact .inl h; exact .inr ⟨h, hb.2.2⟩)]
    exact ⟨by simp [nfK, c], rfl⟩

theorem well_rep {s : ByteArray} {P : Ps} {i k : Nat} (hi : i < s.size) (hw : Well P k i) : (tokenT s i k).kind = 7 → P.top.parts ≠ [] := fun c => hw.parts (fun e => by
  have := (tokAt_token s i k hi).rep c
  rw [e] at this
  cases this)

theorem runA_tx (st : (Nat → Bool) → List UInt8) {s : ByteArray} (hs : s.size ≤ 512) : ∀ (f i k : Nat) (P Q : Ps), s.size - i ≤ f → i ≤ s.size → Well P k i → runA s i k P = .ok Q → ∃ r, txP st Q = txP st P ++ r
  | 0, i, k, P, Q, hf, hle, hw, hr => by
    rw [runA_end s i k P (by omega)] at hr
    injection hr with hr
    exact ⟨[], by rw [hr, List.append_nil]⟩
  | f + 1, i, k, P, Q, hf, hle, hw, hr => by
    by_cases hi : i < s.size
    · by_cases h0 : (P.take (tokenT s i k)).1 = 0
      · have h1 := take_kind hi h0
        obtain ⟨w1, w2, w3⟩ := well_take hi hs hw h0
        rw [runA_step hi h0] at hr
        obtain ⟨r, hr⟩ := runA_tx st hs f _ _ _ Q (by omega) h1.2.2 w1 hr
        rw [tx_take st P _ h1.1 (tokAt_token s i k hi).ok.kind h0 (well_rep hi hw)] at hr
        exact ⟨_, by rw [hr, List.append_assoc]⟩
      · rw [runA_err hi h0] at hr
        cases hr
    · rw [runA_end s i k P (by omega)] at hr
      injection hr with hr
      exact ⟨[], by rw [hr, List.append_nil]⟩

theorem tkX_ne {st : (Nat → Bool) → List UInt8} (h : ∀ q, st q ≠ []) (t : Tk) : tkX st t ≠ [] := by
  unfold tkX
  split
  · exact h _
  split
  · simp
  split
  · simp
  split
  · simp
  split
  · simp
  split
  · simp
  unfold repX
  split
  · simp
  split
  · simp
  split
  · simp
  · simp

theorem shut_next {s : ByteArray} {j : Nat} (h : shuts s j = true) (hj : j ≠ s.size) : byteAt s j = 92 ∧ byteAt s (j + 1) = 41 := by
  unfold shuts at h
  rw [decide_eq_false hj, Bool.false_or, extract_drop] at h
  have h2 : [92, 41] <+: s.data.toList.drop j := List.isPrefixOf_iff_prefix.1 h
  obtain ⟨r, hr⟩ := h2
  exact ⟨byte_drop (m := 0) hr.symm 92 rfl rfl, byte_drop hr.symm 1 41 rfl rfl⟩

theorem run_read {st : (Nat → Bool) → List UInt8} (hst : ReadsSet st) (hne : ∀ q, st q ≠ []) {s T : ByteArray} (hs : s.size ≤ 512) : ∀ (f i k : Nat) (P P' Q : Ps), s.size - i ≤ f → i ≤ s.size → Well P k i → nfP P' = nfP P → runA s i k P = .ok Q → T.data.toList = txP st Q → ∃ Q', nfP Q' = nfP Q ∧ runA T (txP st P).length k P' = .ok Q'
  | 0, i, k, P, P', Q, hf, hle, hw, hP, hr, hT => by
    rw [runA_end s i k P (by omega)] at hr
    injection hr with hr
    subst hr
    exact ⟨P', hP, runA_end _ _ _ _ (by rw [size_of_list', hT]; exact Nat.le_refl _)⟩
  | f + 1, i, k, P, P', Q, hf, hle, hw, hP, hr, hT => by
    by_cases hi : i < s.size
    · by_cases h0 : (P.take (tokenT s i k)).1 = 0
      · have h1 := take_kind hi h0
        have hta := tokAt_token s i k hi
        obtain ⟨w1, w2, w3⟩ := well_take hi hs hw h0
        have hr0 := hr
        rw [runA_step hi h0] at hr
        have htx := tx_take st P _ h1.1 hta.ok.kind h0 (well_rep hi hw)
        obtain ⟨r, hx⟩ := runA_tx st hs _ _ _ _ Q (Nat.le_refl _) h1.2.2 w1 hr
        have hd : T.data.toList.drop (txP st P).length = tkX st (tokenT s i k) ++ r := by
          rw [hT, hx, htx, List.append_assoc, List.drop_left]
        have h3 : (tokenT s i k).kind = 3 → r = [] ∨ ∃ r', r = 92 :: 41 :: r' := fun c => by
          obtain ⟨g1, g2⟩ := (tkF_tok s i k).eol c
          by_cases e : i + 1 = s.size
          · left
            rw [g2, runA_end _ _ _ _ (by omega)] at hr
            injection hr with hr
            rw [← hr] at hx
            have := congrArg List.length hx
            rw [List.length_append] at this
            exact List.eq_nil_of_length_eq_zero (by omega)
          · right
            obtain ⟨e0, e1⟩ := shut_next g1 e
            rw [g2] at hr w1
            have hi2 : i + 1 < s.size := by omega
            have ht2 := tok_close (tokenT s i k).kind e0 e1
            by_cases h02 : ((P.take (tokenT s i k)).2.take (tokenT s (i + 1) (tokenT s i k).kind)).1 = 0
            · have h12 := take_kind hi2 h02
              obtain ⟨v1, v2, v3⟩ := well_take hi2 hs w1 h02
              have htx2 := tx_take st _ _ h12.1 (tokAt_token s _ _ hi2).ok.kind h02 (well_rep hi2 w1)
              rw [runA_step hi2 h02] at hr
              obtain ⟨r2, hx2⟩ := runA_tx st hs _ _ _ _ Q (Nat.le_refl _) h12.2.2 v1 hr
              rw [hx2, htx2, List.append_assoc] at hx
              have := List.append_cancel_left hx
              exact ⟨r2, by rw [← this, ht2]; simp [tkX]⟩
            · rw [runA_err hi2 h02] at hr
              cases hr
        obtain ⟨g1, g2⟩ := tok_read hst h1.1 hta.ok (tkF_tok s i k) hta.rep h3 hd
        obtain ⟨k1, k2⟩ := same_take hP g1 hta.ok.kind
        have hlt : (txP st P).length < T.size := by
          have hl := congrArg List.length hd
          rw [List.length_drop, data_len, List.length_append] at hl
          have := List.length_pos_iff.2 (tkX_ne hne (tokenT s i k))
          omega
        have hkk : (tokenT T (txP st P).length k).kind = (tokenT s i k).kind := by have := congrArg Tk.kind g1; exact this
        obtain ⟨Q', q1, q2⟩ := run_read hst hne hs f _ _ _ _ Q (by omega) h1.2.2 w1 k2 hr hT
        refine ⟨Q', q1, ?_⟩
        rw [runA_step hlt (by rw [k1]; exact h0), g2, hkk, ← q2, htx, List.length_append]
      · rw [runA_err hi h0] at hr
        cases hr
    · rw [runA_end s i k P (by omega)] at hr
      injection hr with hr
      subst hr
      exact ⟨P', hP, runA_end _ _ _ _ (by rw [size_of_list', hT]; exact Nat.le_refl _)⟩

/-- The one text of a tree is read as a tree that can't be told from it. -/
theorem round_trip {st : (Nat → Bool) → List UInt8} (hst : ReadsSet st) (hne : ∀ q, st q ≠ []) {s T : ByteArray} {ts : List Tr} (hp : parseT s = .ok ts) (hT : T.data.toList = wrL st ts) (hl : T.size ≤ 512) : ∃ us, parseT T = .ok us ∧ nfL us = nfL ts := by
  obtain ⟨hs, Q, hr, ho, hts, _, _⟩ := parse_run hp
  have hx : txP st Q = wrL st ts := by unfold txP; rw [ho, hts]; rfl
  obtain ⟨Q', q1, q2⟩ := run_read hst hne hs _ 0 4 Ps.start Ps.start Q (Nat.le_refl _) (Nat.zero_le _) well_start rfl hr (hT.trans hx.symm)
  have e0 : (txP st Ps.start).length = 0 := by simp [txP, Ps.start, wrL]
  rw [e0] at q2
  have ho' : Q'.outer = [] := by
    have := congrArg Ps.outer q1
    simp only [nfP, ho, List.map_nil] at this
    exact List.map_eq_nil_iff.1 this
  refine ⟨Q'.top.parts, ?_, ?_⟩
  · rw [parseT_run T hl, q2]
    show (if Q'.outer.length = 0 then Except.ok Q'.top.parts else _) = _
    rw [ho']
    rfl
  · have h2 := congrArg (fun P => P.top.parts) q1
    rw [← hts]
    exact h2
end Go.Proofs.YtemgfbidfdhanaaDoor

/- canon: the text of a set is read as the set. -/
namespace Go.Proofs.YtemgfbidfdhanaaDoor
open Go.RowKit

/-- The text of one byte. -/
def byteX (b : Nat) : List UInt8 := if b = 10 then [92, 110] else if b = 46 ∨ b = 91 ∨ b = 93 ∨ b = 42 ∨ b = 94 ∨ b = 36 ∨ b = 92 then [92, UInt8.ofNat b] else [UInt8.ofNat b]

/-- The text of a set. -/
def stC (q : Nat → Bool) : List UInt8 := if (mem q 256).length = 256 then [46] else if (mem q 256).length = 1 then byteX ((mem q 256).headD 0) else (textL (mem q 256)).map UInt8.ofNat

theorem nfq_of {q' q : Nat → Bool} (h : ∀ n, n < 256 → q' n = q n) : nfq q' = nfq q := by
  funext n
  unfold nfq
  by_cases c : n < 256
  · rw [h n c]
  · rw [decide_eq_false c, Bool.and_false, Bool.and_false]

theorem mem_in (q : Nat → Bool) (n : Nat) : n ∈ mem q 256 ↔ n < 256 ∧ q n = true := by
  unfold mem
  rw [List.mem_filter, List.mem_range]

theorem self_q (b n : Nat) (hb : b < 256) : selfP b n = (n == b) := by
  have h := ofP_one ⟨#[UInt8.ofNat b]⟩ 0 b n (by show 0 < 1; omega) (by
    rw [byteAt_list]
    show ((UInt8.ofNat b).toNat : Int) = b
    rw [UInt8.toNat_ofNat']
    omega)
  have e : (⟨#[UInt8.ofNat b]⟩ : ByteArray).extract 0 (0 + 1) = ⟨#[UInt8.ofNat b]⟩ := rfl
  rw [e] at h
  exact h

theorem byteX_read {T : ByteArray} {j b : Nat} (k : Nat) (hb : b < 256) {r : List UInt8} (hd : T.data.toList.drop j = byteX b ++ r) : tokenT T j k = selfT b j (j + (byteX b).length) := by
  by_cases c1 : b = 10
  · subst c1
    have b0 := byte_drop hd 0 92 (n := 92) rfl rfl
    have b1 := byte_drop hd 1 110 (n := 110) rfl rfl
    rw [Nat.add_zero] at b0
    have := byteAt_lt b1 (by omega)
    unfold tokenT escapeT escB
    rw [if_pos b0, if_neg (by omega), b1]
    rfl
  · by_cases c2 : b = 46 ∨ b = 91 ∨ b = 93 ∨ b = 42 ∨ b = 94 ∨ b = 36 ∨ b = 92
    · have e : byteX b = [92, UInt8.ofNat b] := by unfold byteX; rw [if_neg c1, if_pos c2]
      rw [e] at hd ⊢
      have b0 := byte_drop hd 0 92 (n := 92) rfl rfl
      have b1 := byte_drop hd 1 (UInt8.ofNat b) (n := (b : Int)) (by rw [UInt8.toNat_ofNat']; omega) rfl
      rw [Nat.add_zero] at b0
      have := byteAt_lt b1 (by omega)
      unfold tokenT escapeT escB
      rw [if_pos b0, if_neg (by omega), b1, Int.toNat_natCast]
      rcases c2 with e | e | e | e | e | e | e <;> subst e <;> rfl
    · have e : byteX b = [UInt8.ofNat b] := by unfold byteX; rw [if_neg c1, if_neg c2]
      rw [e] at hd ⊢
      have b0 := byte_drop hd 0 (UInt8.ofNat b) (n := (b : Int)) (by rw [UInt8.toNat_ofNat']; omega) rfl
      rw [Nat.add_zero] at b0
      unfold tokenT
      rw [b0, if_neg (by omega), if_neg (by omega), if_neg (by omega), if_neg (by omega), if_neg (by omega), if_neg (by omega), Int.toNat_natCast]
      rfl

theorem one_of {l : List Nat} (h : l.length = 1) : l = [l.headD 0] := by
  match l, h with
  | [x], _ => rfl

theorem stC_ne (q : Nat → Bool) : stC q ≠ [] := by
  unfold stC
  split
  · simp
  split
  · unfold byteX
    split
    · simp
    split
    · simp
    · simp
  · have h3 := (textL_len q).1
    intro e
    have h4 := congrArg List.length e
    rw [List.length_map, List.length_nil] at h4
    omega

theorem stC_reads : ReadsSet stC := by
  intro q T j k r hd
  unfold stC at hd ⊢
  by_cases c1 : (mem q 256).length = 256
  · rw [if_pos c1] at hd ⊢
    have b0 := byte_drop hd 0 46 (n := 46) rfl rfl
    rw [Nat.add_zero] at b0
    refine ⟨notP noneP, nfq_of fun n hn => ?_, by unfold tokenT; rw [b0]; rfl⟩
    have hall : ∀ x ∈ List.range 256, q x = true := by
      have h1 : ((List.range 256).filter q).length = (List.range 256).length := by rw [List.length_range]; exact c1
      exact List.length_filter_eq_length_iff.1 h1
    rw [hall n (List.mem_range.2 hn)]
    simp [notP, noneP]
  · rw [if_neg c1] at hd ⊢
    by_cases c2 : (mem q 256).length = 1
    · rw [if_pos c2] at hd ⊢
      have hl := one_of c2
      have hm : (mem q 256).headD 0 ∈ mem q 256 := by rw [hl]; simp
      generalize (mem q 256).headD 0 = b at hd hl hm ⊢
      have hb := ((mem_in q b).1 hm).1
      refine ⟨selfP b, nfq_of fun n hn => ?_, byteX_read k hb hd⟩
      rw [self_q b n hb]
      by_cases e : n = b
      · subst e
        rw [((mem_in q n).1 hm).2]
        simp
      · have : q n = false := by
          cases h : q n with
          | false => rfl
          | true =>
            have h2 := (mem_in q n).2 ⟨hn, h⟩
            rw [hl] at h2
            simp at h2
            exact absurd h2 e
        rw [this]
        simp [e]
    · rw [if_neg c2] at hd ⊢
      obtain ⟨q', hp, hq⟩ := text_parse q
      obtain ⟨l3, _⟩ := textL_len q
      have hbs : ((textL (mem q 256)).map UInt8.ofNat) = (bstr (textL (mem q 256))).data.toList := by simp [bstr]
      have hln : (bstr (textL (mem q 256))).size = (textL (mem q 256)).length := bstr_sizeC _
      have hbyte : ∀ m, m < (textL (mem q 256)).length → byteAt (bstr (textL (mem q 256))) m = byteAt T (j + m) := fun m hm => by
        rw [byteAt_list, byteAt_list, ← List.getElem?_drop, hd, hbs, List.getElem?_append_left (by rw [data_len, hln]; exact hm)]
      have hTs : j + (textL (mem q 256)).length ≤ T.size := by
        have := congrArg List.length hd
        rw [List.length_drop, data_len, List.length_append, List.length_map] at this
        omega
      have he : (parseS (bstr (textL (mem q 256))) 0).e = 0 := by rw [hp]
      have hnx : (parseS (bstr (textL (mem q 256))) 0).next = (textL (mem q 256)).length := by rw [hp]
      have hw := parse_win (s' := T) (i' := j) he ⟨by omega, by omega, fun m hm => by rw [Nat.zero_add]; exact hbyte m (by omega)⟩
      have hf := parse_form he
      have b0 : byteAt T j = 91 := by
        have := hbyte 0 (by omega)
        rw [Nat.add_zero] at this
        rw [← this]
        exact hf.2.2.1
      rw [hnx, Nat.sub_zero] at hw
      refine ⟨(parseS (bstr (textL (mem q 256))) 0).q, nfq_of fun n hn => ?_, ?_⟩
      · rw [hp]
        exact hq n hn
      · have hpx : parseX T (j : Int) = parseS T j := by rw [parseX, if_pos (by omega), Int.toNat_natCast]
        unfold tokenT
        rw [if_neg (by rw [b0]; omega), if_pos b0]
        unfold bracketT
        rw [hpx, hw, if_neg (by simp), List.length_map]

/-- The one text of a BRE is read as a tree that can't be told from its own. -/
theorem canon_back {s T : ByteArray} {ts : List Tr} (hp : parseT s = .ok ts) (hT : T.data.toList = wrL stC ts) (hl : T.size ≤ 512) : ∃ us, parseT T = .ok us ∧ nfL us = nfL ts := round_trip stC_reads stC_ne hp hT hl

theorem stC_nf (q : Nat → Bool) : stC (nfq q) = stC q := by
  have : mem (nfq q) 256 = mem q 256 := by
    unfold mem
    refine List.filter_congr fun x hx => ?_
    simp [nfq, List.mem_range.1 hx]
  unfold stC
  rw [this]

mutual
theorem wr_nfT : ∀ t : Tr, wrT stC (nfT t) = wrT stC t
  | .mk k q lo hi g kids => by simp only [nfT, wrT, stC_nf, wr_nfL kids]
theorem wr_nfL : ∀ ts : List Tr, wrL stC (nfL ts) = wrL stC ts
  | [] => by simp only [nfL]
  | t :: ts => by simp only [nfL, wrL, wr_nfT t, wr_nfL ts]
end

/-- Trees that can't be told apart have one text; and texts that are one (and not too long) come of such trees. -/
theorem canon_ones {a b : ByteArray} {ts us : List Tr} (hp : parseT a = .ok ts) (hq : parseT b = .ok us) (hl : (wrL stC ts).length ≤ 512) : wrL stC ts = wrL stC us ↔ nfL ts = nfL us := by
  constructor
  · intro h
    have e : (⟨(wrL stC ts).toArray⟩ : ByteArray).data.toList = wrL stC ts := by simp
    have hz : (⟨(wrL stC ts).toArray⟩ : ByteArray).size ≤ 512 := by rw [size_of_list', e]; exact hl
    obtain ⟨v, h1, h2⟩ := canon_back hp e hz
    obtain ⟨v', h3, h4⟩ := canon_back hq (e.trans h) hz
    rw [h1] at h3
    injection h3 with h3
    rw [← h2, ← h4, h3]
  · intro h
    rw [← wr_nfL ts, h, wr_nfL]
end Go.Proofs.YtemgfbidfdhanaaDoor
