/- bracket.Text: what lies in memory while it gathers. -/
import Derived.Test.YtolkbemclkgmmaaLout
import Derived.Test.YtolkbemclkgmmaaIter
namespace Go.Proofs.Ytolkbemclkgmmaa
open Go.RowKit Go.Shelf
namespace brows

theorem set4_not_row {W : World} {b : Nat} {p : Nat → Bool} (h : Set4 W b p) {base size k : Nat} {v : Value} {xs : List Value} (hr : W.ownsRow base 5 size v k xs) : some b ≠ v.ownBlock := by
  rcases hr.2 with ⟨rfl, _⟩ | ⟨g, cap, cur, rfl, _, hg, _⟩
  · intro e; cases e
  · intro e
    obtain rfl : b = g := by simpa [Value.ownBlock] using e
    rw [show W.heap[b]? = _ from h] at hg
    cases hg

theorem set4_ne_box {W : World} {b B : Nat} {p : Nat → Bool} {t : TypeId} {v : Value} (h : Set4 W b p) (hv : Boxed W B t v) : b ≠ B := by
  rintro rfl
  have := (show W.heap[b]? = _ from h).symm.trans hv
  simp at this

theorem box_ne_box {W : World} {A B : Nat} {t u : TypeId} {v v' : Value} (h : Boxed W A t v) (h' : Boxed W B u v') (hne : t ≠ u) : A ≠ B := by
  rintro rfl
  have := (show W.heap[A]? = _ from h).symm.trans h'
  simp at this
  exact hne this.2

/-- letOut, as it lies in its variable. -/
def letV (br bo : Nat) : Value := .func (.func 22) #[] #[.pointer (some ⟨br, 0, none⟩), .pointer (some ⟨bo, 0, none⟩)]

/-- What is written and what is gathered, each in its variable; letOut; the set. -/
def TS (base bo br bl bS : Nat) (p : Nat → Bool) (st : List Nat × List Nat) (W : World) : Prop :=
  ∃ go co gr cr, Boxed W bo 47 (.slice (some ⟨go, 0, none⟩) st.1.length co) ∧ Boxed W br 47 (.slice (some ⟨gr, 0, none⟩) st.2.length cr) ∧
    Rows W base [(.slice (some ⟨go, 0, none⟩) st.1.length co, st.1), (.slice (some ⟨gr, 0, none⟩) st.2.length cr, st.2)] ∧ Boxed W bl 1 (letV br bo) ∧ Set4 W bS p

theorem TS_own {β : Type} (base bo br bl bS : Nat) (p : Nat → Bool) (f : β → List Nat × List Nat) : Own (fun s W => TS base bo br bl bS p (f s) W) := by
  rintro s X Y row ⟨go, co, gr, cr, h1, h2, h3, h4, h5⟩ hg hrow
  have hb : ∀ {B : Nat} {t : TypeId} {v : Value}, Boxed X B t v → some B ≠ row := fun {B _ _} hv e' => by
    obtain ⟨o, ho, hc⟩ := hrow B e'.symm
    rw [show X.heap[B]? = _ from hv] at ho
    cases ho
    cases hc
  refine ⟨go, co, gr, cr, h1.kept hg (hb h1), h2.kept hg (hb h2), ⟨fun r hr => (h3.1 r hr).kept hg ?_, h3.2⟩, h4.kept hg (hb h4), ?_⟩
  · rcases (h3.1 r hr).2 with ⟨e, _⟩ | ⟨g, cap, cur, e, _, hgb, _⟩
    · exact .inl (by rw [e]; rfl)
    · refine .inr fun e' => ?_
      rw [e] at e'
      obtain ⟨o, ho, hc⟩ := hrow g (by simpa [Value.ownBlock] using e'.symm)
      rw [hgb] at ho
      cases ho
      cases hc
  · have hne : some bS ≠ row := fun e' => by
      obtain ⟨o, ho, hc⟩ := hrow bS e'.symm
      rw [show X.heap[bS]? = _ from h5] at ho
      cases ho
      cases hc
    exact (hg.block bS h5.lt hne).trans h5

/-- What a step leaves. -/
def Step (base bo br bl bS : Nat) (p : Nat → Bool) (st : List Nat × List Nat) (W W' : World) : Prop :=
  TS base bo br bl bS p st W' ∧ KeepsOthers W W' ∧ KeepAt bS W W' ∧ Below base W W'

theorem Step.trans {base bo br bl bS : Nat} {p : Nat → Bool} {st st' : List Nat × List Nat} {A B C : World} (h : Step base bo br bl bS p st A B) (k : Step base bo br bl bS p st' B C) : Step base bo br bl bS p st' A C :=
  ⟨k.1, h.2.1.trans k.2.1, keepAt_t h.2.2.1 k.2.2.1, h.2.2.2.trans k.2.2.2⟩

theorem row_base {W : World} {base e size n k g cap : Nat} {xs : List Value} (h : W.ownsRow base e size (.slice (some ⟨g, 0, none⟩) n cap) k xs) : base ≤ g ∧ ∃ cur, W.heap[g]? = some (.cells cur e) := by
  rcases h.2 with ⟨h', _⟩ | ⟨g', cap', cur, h', hb, hg, _⟩
  · simp at h'
  · simp only [Value.slice.injEq, Option.some.injEq, Addr.mk.injEq, and_true] at h'
    obtain ⟨rfl, -, -⟩ := h'
    exact ⟨hb, cur, hg⟩

theorem TS_letOut {base bo br bl bS : Nat} {p : Nat → Bool} {st : List Nat × List Nat} {W : World} (h : TS base bo br bl bS p st W) (hne : br ≠ bo) (hbo : base ≤ bo) (hbr : base ≤ br) (h4 : st.2.length ≤ 100000) (ho : st.1.length ≤ 100000) (ho1 : 1 ≤ st.1.length) :
    Calls Try.prog 22 #[.pointer (some ⟨br, 0, none⟩), .pointer (some ⟨bo, 0, none⟩)] W fun e w' => (∃ v, e = .returned v) ∧ Step base bo br bl bS p (flush st, []) W w' := by
  obtain ⟨go, co, gr, cr, h1, h2, h3, h4', h5⟩ := h
  have hbW : base ≤ W.heap.size := Nat.le_trans hbo (Nat.le_of_lt h1.lt)
  refine (letOut_any br bo base st.2 st.1 gr cr go co W h2 h1 hne h3 hbW h4 ho ho1).mono ?_
  rintro e w' ⟨hv, go', co', b1, b2, b3, k1, k2, k3, k4, k5⟩
  obtain ⟨hgo, cur, hcur⟩ := row_base h3.head
  have n1 : bl ≠ go := fun e => h4'.not_row (by decide) h3.head (by rw [e]; rfl)
  have n2 := box_ne_box h4' h1 (by decide)
  have n3 := box_ne_box h4' h2 (by decide)
  have m1 : bS ≠ go := fun e => set4_not_row h5 h3.head (by rw [e]; rfl)
  have m2 := set4_ne_box h5 h1
  have m3 := set4_ne_box h5 h2
  have q1 := k5 bl h4'.lt n1 n2 n3
  have q2 := k5 bS h5.lt m1 m2 m3
  refine ⟨hv, ⟨go', co', gr, cr, b1, b2, b3, q1.trans h4', q2.trans h5⟩, ⟨k4, fun k o hk hc => ?_⟩, ⟨k4, q2⟩, ⟨k1, k2, k3, k4, fun k hk => k5 k (by omega) (by omega) (by omega) (by omega)⟩⟩
  rw [k5 k ((Array.getElem?_eq_some_iff.1 hk).1) ?_ ?_ ?_]
  · exact hk
  · rintro rfl; rw [hcur] at hk; cases hk; cases hc
  · rintro rfl; rw [show W.heap[k]? = _ from h1] at hk; cases hk; cases hc
  · rintro rfl; rw [show W.heap[k]? = _ from h2] at hk; cases hk; cases hc

/-- One of the two is grown and stored. -/
theorem grow_box {W w1 : World} {tmp : Obj} {base B B2 bl bS : Nat} {p : Nat → Bool} {v v2 v' u : Value} {l l2 l' : List Nat} (hne : B ≠ B2) (hB : Boxed W B 47 v) (hB2 : Boxed W B2 47 v2) (hL : Boxed W bl 1 u) (hS : Set4 W bS p)
    (hR : Rows W base [(v, l), (v2, l2)]) (hown : w1.ownsRow base 5 1 v' l'.length (byteVals l')) (hg : (W.alloc tmp).grownBy w1 v.ownBlock) (hat : v'.ownBlock = v.ownBlock ∨ v'.ownBlock = some (W.alloc tmp).heap.size) (hb : base ≤ B) :
    Boxed w1 B 47 v ∧ Boxed (w1.setCell ⟨B, 0, none⟩ v') B 47 v' ∧ Boxed (w1.setCell ⟨B, 0, none⟩ v') B2 47 v2 ∧ Rows (w1.setCell ⟨B, 0, none⟩ v') base [(v', l'), (v2, l2)] ∧ Boxed (w1.setCell ⟨B, 0, none⟩ v') bl 1 u ∧ Set4 (w1.setCell ⟨B, 0, none⟩ v') bS p ∧
      KeepsOthers W (w1.setCell ⟨B, 0, none⟩ v') ∧ KeepAt bS W (w1.setCell ⟨B, 0, none⟩ v') ∧ Below base W (w1.setCell ⟨B, 0, none⟩ v') := by
  have hW : base ≤ W.heap.size := Nat.le_trans hb (Nat.le_of_lt hB.lt)
  obtain ⟨hv1, hv2, hr2, hk2, hb2⟩ := hB.appended (by decide) hR.head hW hb hown hg
  have g2 : Boxed w1 B2 47 v2 := (hB2.alloc _).kept hg (hB2.not_row (by decide) hR.head)
  have gl : Boxed w1 bl 1 u := (hL.alloc _).kept hg (hL.not_row (by decide) hR.head)
  have R1 : Rows w1 base [(v', l'), (v2, l2)] := Rows.grown (hR.alloc tmp) hown hg hat
  have R2 := Rows.box R1 B v' (fun r hr => hv1.not_row (by decide) (R1.1 r hr))
  have s1 : w1.heap[bS]? = (W.alloc tmp).heap[bS]? := hg.block bS (by have := hS.lt; simp; omega) (set4_not_row hS hR.head)
  have s2 : (w1.setCell ⟨B, 0, none⟩ v').heap[bS]? = W.heap[bS]? := by
    rw [Below.heap_setCell w1 ⟨B, 0, none⟩ v' bS (set4_ne_box hS hB), s1]
    exact Below.heap_alloc W tmp bS hS.lt
  exact ⟨hv1, hv2, g2.other (Ne.symm hne) _, R2, gl.other (box_ne_box hL hB (by decide)) _, s2.trans hS, hk2, ⟨hk2.size, s2⟩, hb2⟩

theorem TS_out {W w1 : World} {tmp : Obj} {base bo br bl bS go co gr cr m n go' co' m' : Nat} {p : Nat → Bool} {out run l : List Nat} (hm : out.length = m) (hn : run.length = n) (hne : bo ≠ br) (hO : Boxed W bo 47 (.slice (some ⟨go, 0, none⟩) m co)) (hr : Boxed W br 47 (.slice (some ⟨gr, 0, none⟩) n cr)) (hL : Boxed W bl 1 (letV br bo)) (hS : Set4 W bS p)
    (hR : Rows W base [(.slice (some ⟨go, 0, none⟩) m co, out), (.slice (some ⟨gr, 0, none⟩) n cr, run)]) (hown : w1.ownsRow base 5 1 (.slice (some ⟨go', 0, none⟩) m' co') m' (byteVals out ++ byteVals l)) (hm' : m' = m + l.length)
    (hg : (W.alloc tmp).grownBy w1 (some go)) (hat : (Value.slice (some ⟨go', 0, none⟩) m' co').ownBlock = (Value.slice (some ⟨go, 0, none⟩) m co).ownBlock ∨ (Value.slice (some ⟨go', 0, none⟩) m' co').ownBlock = some (W.alloc tmp).heap.size) (hb : base ≤ bo) :
    Boxed w1 bo 47 (.slice (some ⟨go, 0, none⟩) m co) ∧ Step base bo br bl bS p (out ++ l, run) W (w1.setCell ⟨bo, 0, none⟩ (.slice (some ⟨go', 0, none⟩) m' co')) := by
  subst hm hn
  have el : (out ++ l).length = m' := by rw [List.length_append, hm']
  have hown2 : w1.ownsRow base 5 1 (.slice (some ⟨go', 0, none⟩) m' co') (out ++ l).length (byteVals (out ++ l)) := by
    rw [el]
    have e : byteVals (out ++ l) = byteVals out ++ byteVals l := by simp [byteVals]
    rw [e]
    exact hown
  obtain ⟨q1, q2, q3, q4, q5, q6, q7, q8, q9⟩ := grow_box hne hO hr hL hS hR hown2 hg hat hb
  refine ⟨q1, ⟨go', co', gr, cr, ?_, q3, ?_, q5, q6⟩, q7, q8, q9⟩
  · rw [el]; exact q2
  · rw [el]; exact q4

theorem TS_run {W w1 : World} {tmp : Obj} {base bo br bl bS go co gr cr m n gr' cr' n' : Nat} {p : Nat → Bool} {out run l : List Nat} (hm : out.length = m) (hn : run.length = n) (hne : bo ≠ br) (hO : Boxed W bo 47 (.slice (some ⟨go, 0, none⟩) m co)) (hr : Boxed W br 47 (.slice (some ⟨gr, 0, none⟩) n cr)) (hL : Boxed W bl 1 (letV br bo)) (hS : Set4 W bS p)
    (hR : Rows W base [(.slice (some ⟨go, 0, none⟩) m co, out), (.slice (some ⟨gr, 0, none⟩) n cr, run)]) (hown : w1.ownsRow base 5 1 (.slice (some ⟨gr', 0, none⟩) n' cr') n' (byteVals run ++ byteVals l)) (hn' : n' = n + l.length)
    (hg : (W.alloc tmp).grownBy w1 (some gr)) (hat : (Value.slice (some ⟨gr', 0, none⟩) n' cr').ownBlock = (Value.slice (some ⟨gr, 0, none⟩) n cr).ownBlock ∨ (Value.slice (some ⟨gr', 0, none⟩) n' cr').ownBlock = some (W.alloc tmp).heap.size) (hb : base ≤ br) :
    Boxed w1 br 47 (.slice (some ⟨gr, 0, none⟩) n cr) ∧ Step base bo br bl bS p (out, run ++ l) W (w1.setCell ⟨br, 0, none⟩ (.slice (some ⟨gr', 0, none⟩) n' cr')) := by
  subst hm hn
  have el : (run ++ l).length = n' := by rw [List.length_append, hn']
  have hown2 : w1.ownsRow base 5 1 (.slice (some ⟨gr', 0, none⟩) n' cr') (run ++ l).length (byteVals (run ++ l)) := by
    rw [el]
    have e : byteVals (run ++ l) = byteVals run ++ byteVals l := by simp [byteVals]
    rw [e]
    exact hown
  obtain ⟨q1, q2, q3, q4, q5, q6, q7, q8, q9⟩ := grow_box (Ne.symm hne) hr hO hL hS (Rows.pick [_] [] _ hR) hown2 hg hat hb
  refine ⟨q1, ⟨go, co, gr', cr', q3, ?_, ?_, q5, q6⟩, q7, q8, q9⟩
  · rw [el]; exact q2
  · rw [el]; exact Rows.pick [_] [] _ q4

theorem Rows.swap {W : World} {base : Nat} {a b : R} (h : Rows W base [a, b]) : Rows W base [b, a] := Rows.pick [a] [] b h

end brows

/-- One step as the code makes it: the byte behind 255 is 0. -/
def cstep (p : List Nat × List Nat) (b : Nat) : List Nat × List Nat :=
  if spec4 b then (flush p ++ [91, 46, b, 46, 93], [])
  else if p.2 = [] ∨ (p.2.getLastD 0 + 1) % 256 = b then (p.1, p.2 ++ [b]) else (flush p, [b])

def codeSt (l : List Nat) : List Nat × List Nat := l.foldl cstep ([91], [])

theorem codeSt_snoc (l : List Nat) (b : Nat) : codeSt (l ++ [b]) = cstep (codeSt l) b := by simp [codeSt]

theorem cstep_len (p : List Nat × List Nat) (b : Nat) : (cstep p b).1.length + (cstep p b).2.length ≤ p.1.length + p.2.length + 5 ∧ (1 ≤ p.1.length → 1 ≤ (cstep p b).1.length) := by
  have h := flush_len p
  have h' : p.1.length ≤ (flush p).length := by unfold flush; simp
  unfold cstep
  split
  · simp; omega
  · split
    · simp; omega
    · simp; omega

theorem codeSt_len (l : List Nat) : (codeSt l).1.length + (codeSt l).2.length ≤ 1 + 5 * l.length ∧ 1 ≤ (codeSt l).1.length := by
  suffices h : ∀ p : List Nat × List Nat, 1 ≤ p.1.length → (l.foldl cstep p).1.length + (l.foldl cstep p).2.length ≤ p.1.length + p.2.length + 5 * l.length ∧ 1 ≤ (l.foldl cstep p).1.length by
    have := h ([91], []) (by simp)
    simpa [codeSt, Nat.add_comm] using this
  induction l with
  | nil => intro p hp; simpa using hp
  | cons b l ih =>
    intro p hp
    have h2 := cstep_len p b
    have h1 := ih (cstep p b) (h2.2 hp)
    simp only [List.foldl_cons, List.length_cons]
    omega

/-- Bytes alone are gathered. -/
theorem cstep_bytes (p : List Nat × List Nat) (b : Nat) (hb : b < 256) (h : ∀ x ∈ p.2, x < 256) : ∀ x ∈ (cstep p b).2, x < 256 := by
  unfold cstep
  split
  · simp
  · split
    · intro x hx
      simp at hx
      rcases hx with hx | rfl
      · exact h x hx
      · exact hb
    · intro x hx
      simp at hx
      omega

theorem codeSt_bytes (l : List Nat) (hl : ∀ x ∈ l, x < 256) : ∀ x ∈ (codeSt l).2, x < 256 := by
  suffices h : ∀ p : List Nat × List Nat, (∀ x ∈ p.2, x < 256) → ∀ x ∈ (l.foldl cstep p).2, x < 256 from h ([91], []) (by simp)
  induction l with
  | nil => intro p hp; simpa using hp
  | cons b l ih => exact fun p hp => ih (fun x hx => hl x (by simp [hx])) (cstep p b) (cstep_bytes p b (hl b (by simp)) hp)

theorem cstep_eq (p : List Nat × List Nat) (b : Nat) (hb : b < 256) (h : ∀ x ∈ p.2, x < 256) (h0 : p.2 = [] ∨ 0 < b) : cstep p b = tstep p b := by
  unfold cstep tstep
  by_cases hr : p.2 = []
  · simp [hr]
  · have hm : p.2.getLastD 0 < 256 := by
      have := h (p.2.getLast hr) (List.getLast_mem hr)
      rw [List.getLastD_eq_getLast?, List.getLast?_eq_some_getLast hr]
      exact this
    have hb0 : 0 < b := h0.resolve_left hr
    have e : ((p.2.getLastD 0 + 1) % 256 = b) = (p.2.getLastD 0 + 1 = b) := by
      apply propext; omega
    simp only [e]

theorem codeSt_eq (l : List Nat) (hl : ∀ x ∈ l, x < 256) (hs : l.Pairwise (· < ·)) : codeSt l = textSt l := by
  unfold codeSt textSt
  suffices h : ∀ (l : List Nat), (∀ x ∈ l, 0 < x ∧ x < 256) → ∀ p : List Nat × List Nat, (∀ x ∈ p.2, x < 256) → l.foldl cstep p = l.foldl tstep p by
    cases l with
    | nil => rfl
    | cons b l =>
      rw [List.pairwise_cons] at hs
      simp only [List.foldl_cons]
      have e := cstep_eq ([91], []) b (hl b (by simp)) (by simp) (.inl rfl)
      rw [← e]
      exact h l (fun x hx => ⟨by have := hs.1 x hx; omega, hl x (by simp [hx])⟩) _ (cstep_bytes _ b (hl b (by simp)) (by simp))
  intro l
  induction l with
  | nil => intro _ p _; rfl
  | cons b l ih =>
    intro h p hp
    have hb := h b (by simp)
    simp only [List.foldl_cons]
    rw [← cstep_eq p b hb.2 hp (.inr hb.1)]
    exact ih (fun x hx => h x (by simp [hx])) _ (cstep_bytes p b hb.2 hp)

theorem mem_sorted (p : Nat → Bool) (k : Nat) : (mem p k).Pairwise (· < ·) := by
  unfold mem
  exact List.Pairwise.filter _ List.pairwise_lt_range
end Go.Proofs.Ytolkbemclkgmmaa
