/- bre: the document's reader beside the parser: what both come to. -/
import Derived.Test.YtgpciekpmdihnaaKQf
import Derived.Test.YtgpciekpmdihnaaKRm
import Derived.Deep.Cut
import Derived.Handy
namespace Go.Proofs.Ytgpciekpmdihnaa
open Go.RowKit
theorem take_kind {s : ByteArray} {P : Ps} {i k : Nat} (hi : i < s.size) (h0 : (P.take (tokenT s i k)).1 = 0) : (tokenT s i k).kind ≠ 0 ∧ i < (tokenT s i k).to ∧ (tokenT s i k).to ≤ s.size := by
  have hta := tokAt_token s i k hi
  have hk : (tokenT s i k).kind ≠ 0 := fun e => by
    have h9 : (P.take (tokenT s i k)).1 = (tokenT s i k).e := by simp only [Ps.take, e]
    rw [h0] at h9
    exact hta.fault e h9.symm
  exact ⟨hk, hta.next hk⟩
theorem runT_far (s : ByteArray) (f i k : Nat) (P : Ps) (hi : s.size ≤ i) : runT s f i k P = .ok P := by
  cases f with
  | zero => rfl
  | succ f => rw [runT, if_neg (by omega)]
theorem runT_fuel (s : ByteArray) : ∀ (f g i k : Nat) (P : Ps), s.size + 1 - i ≤ f → s.size + 1 - i ≤ g → runT s f i k P = runT s g i k P
  | 0, g, i, k, P, h1, h2 => by rw [runT_far s 0 i k P (by omega), runT_far s g i k P (by omega)]
  | f + 1, 0, i, k, P, h1, h2 => by rw [runT_far s _ i k P (by omega), runT_far s 0 i k P (by omega)]
  | f + 1, g + 1, i, k, P, h1, h2 => by
    rw [runT, runT]
    by_cases hi : i < s.size
    · rw [if_pos hi, if_pos hi]
      by_cases h0 : (P.take (tokenT s i k)).1 = 0
      · rw [if_pos h0, if_pos h0]
        have := take_kind hi h0
        exact runT_fuel s f g _ _ _ (by omega) (by omega)
      · rw [if_neg h0, if_neg h0]
    · rw [if_neg hi, if_neg hi]
noncomputable def runA (s : ByteArray) (i k : Nat) (P : Ps) : Except (Int × Nat) Ps := runT s (s.size + 1 - i) i k P
def finT (x : Except (Int × Nat) Ps) : Except (Int × Nat) (List Tr) :=
  match x with
  | .error x => .error x
  | .ok P => if P.outer.length = 0 then .ok P.top.parts else .error (10, P.top.pos)
theorem parseT_run (s : ByteArray) (hs : s.size ≤ 512) : parseT s = finT (runA s 0 4 Ps.start) := by
  unfold parseT finT runA
  rw [if_neg (by omega)]
  rfl
theorem runA_end (s : ByteArray) (i k : Nat) (P : Ps) (h : s.size ≤ i) : runA s i k P = .ok P := runT_far s _ i k P h
theorem runA_step {s : ByteArray} {i k : Nat} {P : Ps} (hi : i < s.size) (h0 : (P.take (tokenT s i k)).1 = 0) : runA s i k P = runA s (tokenT s i k).to (tokenT s i k).kind (P.take (tokenT s i k)).2 := by
  have h1 := take_kind hi h0
  unfold runA
  rw [show s.size + 1 - i = (s.size - i) + 1 by omega, runT, if_pos hi, if_pos h0]
  exact runT_fuel s _ _ _ _ _ (by omega) (by omega)
theorem runA_err {s : ByteArray} {i k : Nat} {P : Ps} (hi : i < s.size) (h0 : (P.take (tokenT s i k)).1 ≠ 0) : runA s i k P = .error ((P.take (tokenT s i k)).1, i) := by
  unfold runA
  rw [show s.size + 1 - i = (s.size - i) + 1 by omega, runT, if_pos hi, if_neg h0]
structure Sim (s : ByteArray) (r : Rd) (P : Ps) (k : Nat) : Prop where
  e : r.e = 0
  g : r.groups = P.groups
  c : r.shut = P.shut
  z : r.size = P.size
  le : r.pos ≤ s.size
  well : Well P k r.pos
  one : k = 4 → P.top.parts = []
structure Fails (s : ByteArray) (i k : Nat) (P : Ps) (r : Rd) : Prop where
  e : r.e ≠ 0
  run : finT (runA s i k P) = .error (r.e, r.place)
structure Goes (s : ByteArray) (i k : Nat) (P : Ps) (r' : Rd) (P' : Ps) (k' : Nat) (ts : List Tr) : Prop where
  sim : Sim s r' P' k'
  run : runA s i k P = runA s r'.pos k' P'
  outer : P'.outer = P.outer
  top : P'.top = { P.top with parts := ts }
  on : i ≤ r'.pos
theorem Fails.keep {s : ByteArray} {i k : Nat} {P : Ps} {r r' : Rd} (h : Fails s i k P r) (h1 : r'.e = r.e) (h2 : r'.place = r.place) : Fails s i k P r' := ⟨by rw [h1]; exact h.e, by rw [h1, h2]; exact h.run⟩
theorem Goes.fails {s : ByteArray} {i k k1 : Nat} {P P1 : Ps} {r1 r' : Rd} {ts : List Tr} (h : Goes s i k P r1 P1 k1 ts) (h2 : Fails s r1.pos k1 P1 r') : Fails s i k P r' := ⟨h2.e, by rw [h.run]; exact h2.run⟩
theorem Goes.trans {s : ByteArray} {i k k1 k2 : Nat} {P P1 P2 : Ps} {r1 r2 : Rd} {ts us : List Tr} (h : Goes s i k P r1 P1 k1 ts) (h2 : Goes s r1.pos k1 P1 r2 P2 k2 us) : Goes s i k P r2 P2 k2 us :=
  ⟨h2.sim, h.run.trans h2.run, h2.outer.trans h.outer, by rw [h2.top, h.top], Nat.le_trans h.on h2.on⟩
theorem Goes.start {s : ByteArray} {k : Nat} {P : Ps} {r : Rd} (h : Sim s r P k) : Goes s r.pos k P r P k P.top.parts := ⟨h, rfl, rfl, rfl, Nat.le_refl _⟩
theorem failed_e {r : Rd} (h : r.e = 0) (e : Int) (i : Nat) : (r.failed e i).e = e ∧ (r.failed e i).place = i := by
  unfold Rd.failed
  rw [if_pos h]
  exact ⟨rfl, rfl⟩
theorem fails_tok {s : ByteArray} {r r' : Rd} {P : Ps} {k : Nat} (hi : r.pos < s.size) (he : (P.take (tokenT s r.pos k)).1 ≠ 0) (h1 : r'.e = (P.take (tokenT s r.pos k)).1) (h2 : r'.place = r.pos) : Fails s r.pos k P r' :=
  ⟨by rw [h1]; exact he, by rw [runA_err hi he, h1, h2]; rfl⟩
theorem goes_tok {s : ByteArray} (hs : s.size ≤ 512) {r r' : Rd} {P : Ps} {k : Nat} (h : Sim s r P k) (hi : r.pos < s.size) (h0 : (P.take (tokenT s r.pos k)).1 = 0) (h4 : (tokenT s r.pos k).kind ≠ 4) {ts : List Tr}
    (ho : (P.take (tokenT s r.pos k)).2.outer = P.outer) (ht : (P.take (tokenT s r.pos k)).2.top = { P.top with parts := ts })
    (e : r'.e = 0) (p : r'.pos = (tokenT s r.pos k).to) (g : r'.groups = (P.take (tokenT s r.pos k)).2.groups) (c : r'.shut = (P.take (tokenT s r.pos k)).2.shut) (z : r'.size = (P.take (tokenT s r.pos k)).2.size) :
    Goes s r.pos k P r' (P.take (tokenT s r.pos k)).2 (tokenT s r.pos k).kind ts := by
  obtain ⟨w1, w2, w3⟩ := well_take hi hs h.well h0
  exact ⟨⟨e, g, c, z, by rw [p]; exact w3, by rw [p]; exact w1, fun h9 => absurd h9 h4⟩, by rw [p]; exact runA_step hi h0, ho, ht, by rw [p]; omega⟩
theorem u8_eq (a c : UInt8) : (c == a) = decide ((a.toNat : Int) = (c.toNat : Int)) := by
  by_cases h : c = a
  · rw [h]; simp
  · have hn : ¬ ((a.toNat : Int) = (c.toNat : Int)) := fun e => h (UInt8.toNat_inj.1 (by omega))
    simp [h, hn]
theorem see1 (s : ByteArray) (c : UInt8) (p : Nat) : seeB s ⟨#[c]⟩ p = decide (p < s.size ∧ byteAt s p = c.toNat) := by
  by_cases h : p < s.size
  · rw [seeB_pre _ _ _ (by omega), drop_consB s p h, byteAt_in h]
    show (c == s[p] && true) = _
    rw [u8_eq]
    simp [h]
  · have : ¬ seeB s ⟨#[c]⟩ p = true := fun e => by have := see_lt e; have : p + 1 ≤ s.size := this; omega
    rw [Bool.not_eq_true] at this
    rw [this]
    simp [h]
theorem see2 (s : ByteArray) (c d : UInt8) (p : Nat) : seeB s ⟨#[c, d]⟩ p = decide (p + 1 < s.size ∧ byteAt s p = c.toNat ∧ byteAt s (p + 1) = d.toNat) := by
  by_cases h : p + 1 < s.size
  · have h0 : p < s.size := by omega
    rw [seeB_pre _ _ _ (by omega), drop_consB s p h0, drop_consB s (p + 1) h, byteAt_in h, byteAt_in h0]
    show (c == s[p] && (d == s[p + 1] && true)) = _
    rw [u8_eq, u8_eq]
    simp [h]
  · have : ¬ seeB s ⟨#[c, d]⟩ p = true := fun e => by have := see_lt e; have : p + 2 ≤ s.size := this; omega
    rw [Bool.not_eq_true] at this
    rw [this]
    simp [h]
theorem tok_same (s : ByteArray) (i k : Nat) (h4 : k ≠ 4) (hq : repB k = true → seeB s ⟨#[42]⟩ i = false ∧ seeB s ⟨#[92, 123]⟩ i = false) (hi : i < s.size) : tokenT s i k = tokenT s i 2 := by
  cases hk : repB k with
  | false =>
    have : k = 2 := by
      simp only [repB, Bool.and_eq_false_iff, Bool.not_eq_false', beq_iff_eq] at hk
      rcases hk with hk | hk
      · exact absurd hk h4
      · exact hk
    rw [this]
  | true =>
    obtain ⟨q1, q2⟩ := hq hk
    rw [see1] at q1
    rw [see2] at q2
    have q1' : ¬ byteAt s i = 42 := fun e => by simp [hi, e] at q1
    unfold tokenT
    split
    · rename_i h92
      unfold escapeT
      split
      · rfl
      · rename_i hl
        have q2' : ¬ byteAt s (i + 1) = 123 := fun e => by simp [show i + 1 < s.size by omega, h92, e] at q2
        have q3 : ¬ (byteAt s (i + 1)).toNat = 123 := fun e => q2' (by omega)
        simp only [escB, q3, false_and, false_or, if_false]
    · simp only [q1', h4, show ¬ (2 : Nat) = 4 by omega, false_and, and_false, if_false]
end Go.Proofs.Ytgpciekpmdihnaa
/- bre: Positions of a repeat of a small tree. -/
namespace Go.Proofs.Ytgpciekpmdihnaa
open Go.RowKit
set_option maxRecDepth 100000 in
set_option maxHeartbeats 2000000 in
theorem pos_wide (kd : Nat) (q : Nat → Bool) (lo hi : Int) (gp : Nat) (ks : List Tr) (hsm : 0 ≤ posT (.mk kd q lo hi gp ks) ∧ posT (.mk kd q lo hi gp ks) ≤ 1000000 ∧ (posL ks ≤ 256 ∧ ks.length ≤ 1000000) ∧ smallL ks) (ih : ∀ x ∈ ks, ∀ (w : World) (ok : Nat → Prop) (a : Option Addr) (n c : Nat), Kids w ok (.slice a n c) x.kids → Calls Try.prog 13 #[nodeA x (.slice a n c)] w fun e w' => e = .returned (.int .i64 (posT x)) ∧ Below w.heap.size w w')
    (w : World) (ok : Nat → Prop) (a : Option Addr) (c : Nat) (hk : Kids w ok (.slice a ks.length c) ks) :
    Calls Try.prog 13 #[.agg #[.int .i64 (kd : Nat), .int .u64 (wd q 0 : Nat), .int .u64 (wd q 1 : Nat), .int .u64 (wd q 2 : Nat), .int .u64 (wd q 3 : Nat), .int .i64 lo, .int .i64 hi, .int .i64 (gp : Nat), .slice a ks.length c]] w fun e w' => e = .returned (.int .i64 (posT (.mk kd q lo hi gp ks))) ∧ Below w.heap.size w w' := by
  obtain ⟨hp0, hp1, ⟨hp2, hlen⟩, hp3⟩ := hsm
  have htr : ks.take ks.length = ks := List.take_length
  have HPT : Hid (posT (.mk kd q lo hi gp ks) = if kd = 1 ∨ kd = 6 then 1 else if kd = 5 then (if 0 ≤ hi then posL ks * hi else if 0 < lo then posL ks * lo else posL ks) else posL ks) := hideT (by simp only [posT])
  generalize posT (.mk kd q lo hi gp ks) = p at *
  have HA := hideT (And.intro hk (And.intro ih (And.intro hp3 htr)))
  clear hk ih hp3 htr
  go_enter Try.func13, Try.ntmps13
  go_wp2_with fail
  obtain ⟨X, hX⟩ : ∃ X, X = w.alloc (.cells #[.int .i64 (kd : Nat), .int .u64 (wd q 0 : Nat), .int .u64 (wd q 1 : Nat), .int .u64 (wd q 2 : Nat), .int .u64 (wd q 3 : Nat), .int .i64 lo, .int .i64 hi, .int .i64 (gp : Nat), .slice a ks.length c] 27) := ⟨_, rfl⟩
  have hbX : X.heap[w.heap.size]? = some (.cells #[.int .i64 (kd : Nat), .int .u64 (wd q 0 : Nat), .int .u64 (wd q 1 : Nat), .int .u64 (wd q 2 : Nat), .int .u64 (wd q 3 : Nat), .int .i64 lo, .int .i64 hi, .int .i64 (gp : Nat), .slice a ks.length c] 27 (0, 0)) := by rw [hX]; exact heap_alloc_new w _
  have hBX : Below w.heap.size w X := by rw [hX]; exact (Below.refl _ _).alloc (Nat.le_refl _) _
  rw [← hX]
  clear hX
  have HX := hideT (And.intro hbX hBX)
  clear hbX hBX
  go_loopw [3, 4] (fun v i wr => ∃ k : Nat, k ≤ ks.length ∧ i = .int .i64 k ∧ v = .int .i64 (posL (ks.take k)) ∧ Below X.heap.size X wr) (fun _ i _ => (ks.length - intOf i).toNat)
  case atStart => exact ⟨0, by omega, rfl, rfl, Below.refl _ _⟩
  case round =>
    obtain ⟨k, hk1, rfl, rfl, hB⟩ := hrel
    have hlw : w.heap.size < X.heap.size := (Array.getElem?_eq_some_iff.1 HX.out.1).1
    have hbr := (hB.block _ hlw).trans HX.out.1
    have z0 : wr.cell? ⟨w.heap.size, 0, none⟩ = some (.int .i64 (kd : Nat)) := by simp [World.cell?, hbr]
    have z5 : wr.cell? ⟨w.heap.size, 5, none⟩ = some (.int .i64 lo) := by simp [World.cell?, hbr]
    have z6 : wr.cell? ⟨w.heap.size, 6, none⟩ = some (.int .i64 hi) := by simp [World.cell?, hbr]
    have z8 : wr.cell? ⟨w.heap.size, 8, none⟩ = some (.slice a ks.length c) := by simp [World.cell?, hbr]
    clear hbr hlw
    by_cases hlt : k < ks.length
    · have hkr := kids_below (kids_below HA.out.1 HX.out.2) hB
      obtain ⟨g, c', u, he, _, _, hcell, hku⟩ := kids_at hkr (i := k) (List.getElem?_eq_getElem hlt)
      obtain rfl : a = some ⟨g, 0, none⟩ := by injection he
      obtain ⟨ua, uc, rfl⟩ := kids_shape hku
      have hic := HA.out.2.1 ks[k] (List.getElem_mem hlt) wr ok ua _ uc hku
      have hsum : posL (ks.take (k + 1)) = posL (ks.take k) + posT ks[k] := by
        rw [List.take_succ_eq_append_getElem hlt, posL_app, posL_one]
      have hb1 := small_drop ks HA.out.2.2.1 k
      have hb2 := small_drop ks HA.out.2.2.1 (k + 1)
      have y0 := (hcell 0 _ rfl).1
      have y1 := (hcell 1 _ rfl).1
      have y2 := (hcell 2 _ rfl).1
      have y3 := (hcell 3 _ rfl).1
      have y4 := (hcell 4 _ rfl).1
      have y5 := (hcell 5 _ rfl).1
      have y6 := (hcell 6 _ rfl).1
      have y7 := (hcell 7 _ rfl).1
      have y8 := (hcell 8 _ rfl).1
      rw [Nat.add_zero] at y0
      have k3 : (k : Int) < (ks.length : Int) := by omega
      have k4 : (0 : Int) ≤ (k : Int) := by omega
      have k5 : IntKind.i64.wrap ((k : Int) + 1) = (k : Int) + 1 := by rw [IntKind.wrap_i64]; omega
      have k6 : IntKind.i64.wrap (posL (ks.take k) + posT ks[k]) = posL (ks.take k) + posT ks[k] := by rw [IntKind.wrap_i64]; omega
      have HC := hideT (And.intro hic hsum)
      clear hkr hcell hku he hic hsum hb1 hb2
      go_wp2_with fail
      refine HC.out.1.mono ?_
      rintro e w2 ⟨rfl, hb2⟩
      have HB := hideT (hB.trans (hb2.mono hB.size))
      clear y0 y1 y2 y3 y4 y5 y6 y7 y8 z0 z5 z6 z8 hB hb2
      go_wp2
      exact ⟨⟨k + 1, by omega, by go_num, by rw [HC.out.2], HB.out⟩, by simp [intOf]; omega⟩
    · obtain rfl : k = ks.length := by omega
      have k3 : ¬ (ks.length : Int) < (ks.length : Int) := by omega
      rw [HA.out.2.2.2]
      have HB := hideT (HX.out.2.trans (hB.mono HX.out.2.size))
      generalize posL ks = n at *
      clear hB
      by_cases c1 : kd = 1
      · subst c1
        have hp := HPT.out
        rw [if_pos (.inl rfl)] at hp
        go_wp2
        go_ret
        exact ⟨rfl, HB.out⟩
      by_cases c6 : kd = 6
      · subst c6
        have hp := HPT.out
        rw [if_pos (.inr rfl)] at hp
        go_wp2
        go_ret
        exact ⟨rfl, HB.out⟩
      have e1 : ((kd : Int) == 1) = false := by rw [beq_eq_false_iff_ne]; omega
      have e6 : ((kd : Int) == 6) = false := by rw [beq_eq_false_iff_ne]; omega
      have hp := HPT.out
      rw [if_neg (by omega)] at hp
      by_cases c5 : kd = 5
      · subst c5
        rw [if_pos rfl] at hp
        by_cases h0 : 0 ≤ hi
        · rw [if_pos h0] at hp
          have kk : IntKind.i64.wrap (n * hi) = n * hi := by rw [← hp, IntKind.wrap_i64]; omega
          have HP2 := hideT hp
          clear hp
          go_wp2
          go_ret
          exact ⟨by rw [HP2.out]; rfl, HB.out⟩
        · rw [if_neg h0] at hp
          have h0' : (0 ≤ hi) = False := eq_false h0
          by_cases h1 : 0 < lo
          · rw [if_pos h1] at hp
            have kk : IntKind.i64.wrap (n * lo) = n * lo := by rw [← hp, IntKind.wrap_i64]; omega
            have HP2 := hideT hp
            clear hp
            go_wp2
            go_ret
            exact ⟨by rw [HP2.out]; rfl, HB.out⟩
          · rw [if_neg h1] at hp
            have h1' : (0 < lo) = False := eq_false h1
            have HP2 := hideT hp
            clear hp
            go_wp2
            go_ret
            exact ⟨by rw [HP2.out]; rfl, HB.out⟩
      · have e5 : ((kd : Int) == 5) = false := by rw [beq_eq_false_iff_ne]; omega
        rw [if_neg c5] at hp
        have HP2 := hideT hp
        clear hp
        go_wp2
        go_ret
        exact ⟨by rw [HP2.out]; rfl, HB.out⟩
theorem pos_repeat (t : Tr) (ht : smallT t) (lo hi : Int) (h1 : 0 ≤ lo ∧ lo ≤ 255) (h2 : -1 ≤ hi ∧ hi ≤ 255) (w : World) (ok : Nat → Prop) (a : Option Addr) (c : Nat) (hk : Kids w ok (.slice a 1 c) [t]) :
    Calls Try.prog 13 #[.agg #[.int .i64 5, .int .u64 0, .int .u64 0, .int .u64 0, .int .u64 0, .int .i64 lo, .int .i64 hi, .int .i64 0, .slice a 1 c]] w fun e w' => e = .returned (.int .i64 (posT (repT lo hi t))) ∧ Below w.heap.size w w' := by
  have hp := smallT_pos t ht
  have hm : posT t * timesOf lo hi ≤ 256 * 255 := by
    have ht2 : 0 ≤ timesOf lo hi ∧ timesOf lo hi ≤ 255 := by unfold timesOf; split <;> omega
    exact Int.mul_le_mul hp.2.1 ht2.2 ht2.1 (by omega)
  have h0 : 0 ≤ posT t * timesOf lo hi := Int.mul_nonneg hp.1 (by unfold timesOf; split <;> omega)
  have e := pos_rep lo hi t
  have z0 : wd noneP 0 = 0 := wd_none 0
  have z1 : wd noneP 1 = 0 := wd_none 1
  have z2 : wd noneP 2 = 0 := wd_none 2
  have z3 : wd noneP 3 = 0 := wd_none 3
  have hw := pos_wide 5 noneP lo hi 0 [t] ⟨by show 0 ≤ posT (repT lo hi t); omega, by show posT (repT lo hi t) ≤ 1000000; omega, ⟨by rw [posL_one]; exact hp.2.1, by simp⟩, ⟨ht, trivial⟩⟩
    (fun x hx => by rw [List.mem_singleton.1 hx]; exact fun w ok a n c hk => pos_any _ t (Nat.lt_succ_self _) ht w ok a n c hk) w ok a c hk
  rw [z0, z1, z2, z3] at hw
  exact hw
end Go.Proofs.Ytgpciekpmdihnaa
/- bre: the document's reader: a repeat is read by both alike; what the reader's own memory looks like meanwhile. -/
namespace Go.Proofs.Ytgpciekpmdihnaa
open Go.RowKit
theorem grow_cases (r : Rd) (n : Int) (i : Nat) (h : r.e = 0) : (256 < r.size + n ∧ (r.grow n i).e = 13 ∧ (r.grow n i).place = i) ∨ (r.size + n ≤ 256 ∧ r.grow n i = { r with size := r.size + n }) := by
  unfold Rd.grow
  by_cases hg : r.size + n > 256
  · rw [if_pos hg]
    have := failed_e (r := { r with size := r.size + n }) h 13 i
    exact .inl ⟨hg, this.1, this.2⟩
  · rw [if_neg hg]
    exact .inr ⟨by omega, rfl⟩
theorem docRep_step {s : ByteArray} (hs : s.size ≤ 512) {i k k1 : Nat} {P P1 : Ps} {r : Rd} {ts : List Tr} {t : Tr} (h : Goes s i k P r P1 k1 (ts ++ [t])) (hi : r.pos < s.size) (h7 : (tokenT s r.pos k1).kind = 7) :
    Fails s i k P (({ r with pos := (tokenT s r.pos k1).to } : Rd).grow (posT (repT (tokenT s r.pos k1).lo (tokenT s r.pos k1).hi t) - posT t) r.pos) ∨
    ∃ P2, Goes s i k P (({ r with pos := (tokenT s r.pos k1).to } : Rd).grow (posT (repT (tokenT s r.pos k1).lo (tokenT s r.pos k1).hi t) - posT t) r.pos) P2 7 (ts ++ [repT (tokenT s r.pos k1).lo (tokenT s r.pos k1).hi t]) := by
  obtain ⟨T, hT⟩ : ∃ T, T = tokenT s r.pos k1 := ⟨_, rfl⟩
  have hla : P1.top.parts.getLast? = some t := by rw [h.top]; simp
  have hdl : P1.top.parts.dropLast = ts := by rw [h.top]; simp
  have e : P1.take T = (P1.rep ts t T.lo T.hi).grown := by
    rw [← hT] at h7
    obtain ⟨kd, fr, to, er, q, gp, lo, hi⟩ := T
    have h7' : kd = 7 := h7
    subst h7'
    simp only [Ps.take, hla, hdl]
  have hl := h.sim.well.counts.last t hla
  have hn : P1.size + P1.last * (timesOf T.lo T.hi - 1) = r.size + (posT (repT T.lo T.hi t) - posT t) := by
    rw [pos_rep, hl, h.sim.z, Int.mul_sub, Int.mul_one]
  rw [← hT]
  have hsz : (P1.rep ts t T.lo T.hi).size = P1.size + P1.last * (timesOf T.lo T.hi - 1) := rfl
  rcases grow_cases ({ r with pos := T.to } : Rd) (posT (repT T.lo T.hi t) - posT t) r.pos h.sim.e with ⟨g1, g2, g3⟩ | ⟨g1, g2⟩
  · refine .inl (h.fails (fails_tok hi ?_ ?_ g3))
    · rw [← hT, e]; show bigE (P1.rep ts t T.lo T.hi).size ≠ 0
      rw [hsz, hn]; unfold bigE; rw [if_pos g1]; decide
    · rw [g2, ← hT, e]; show (13 : Int) = bigE (P1.rep ts t T.lo T.hi).size
      rw [hsz, hn]; unfold bigE; rw [if_pos g1]
  · refine .inr ⟨(P1.take T).2, h.trans ?_⟩
    have h0 : (P1.take T).1 = 0 := by
      rw [e]; show bigE (P1.rep ts t T.lo T.hi).size = 0
      rw [hsz, hn]; unfold bigE; rw [if_neg (by have : r.size + (posT (repT T.lo T.hi t) - posT t) ≤ 256 := g1; omega)]
    rw [g2]
    have hk7 : T.kind = 7 := by rw [hT]; exact h7
    have := goes_tok (r' := { ({ r with pos := T.to } : Rd) with size := r.size + (posT (repT T.lo T.hi t) - posT t) }) (ts := ts ++ [repT T.lo T.hi t]) hs h.sim hi (by rw [← hT]; exact h0) (by rw [h7]; omega)
      (by rw [← hT, e]; rfl) (by rw [← hT, e]; rfl) h.sim.e (by rw [← hT]) (by rw [← hT, e]; exact h.sim.g) (by rw [← hT, e]; exact h.sim.c) (by rw [← hT, e]; exact hn.symm)
    rw [h7, ← hT] at this
    exact this
structure RI (s : ByteArray) (b : Nat) (w : World) (ok : Nat → Prop) (W : World) (r : Rd) (t : Tr) (u : Value) : Prop where
  rd : IsRd W b s r
  tb : Blk9 W w.heap.size (nodeV t u)
  zb : Blk9 W (w.heap.size + 1) zero9
  kids : Kids W (fun g => (ok g ∧ g ≠ b ∧ g < w.heap.size) ∨ w.heap.size + 2 ≤ g) u t.kids
  gr : w.grownBy W (some b)
  old : b < w.heap.size
theorem Blk9.lt {W : World} {c : Nat} {vs : List Value} (h : Blk9 W c vs) : c < W.heap.size := (Array.getElem?_eq_some_iff.1 h.2).1
theorem Blk9.far {W W' : World} {c : Nat} {vs : List Value} (h : Blk9 W c vs) (k : W'.heap[c]? = W.heap[c]?) : Blk9 W' c vs := ⟨h.1, k.trans h.2⟩
theorem kids_blk {W : World} {ok : Nat → Prop} {v : Value} {ts : List Tr} (h : Kids W ok v ts) : Kids W (fun g => ok g ∧ g < W.heap.size) v ts := by
  induction h with
  | mk v ts vs hl own hok _ ih => exact .mk v ts vs hl own (fun g hg => ⟨hok g hg, (owns_blk own hg).2.1⟩) ih
theorem RI.step {s : ByteArray} {b : Nat} {w : World} {ok : Nat → Prop} {W W' : World} {r r' : Rd} {t : Tr} {u : Value} (h : RI s b w ok W r t u) (g : W.grownBy W' (some b)) (hr : IsRd W' b s r') : RI s b w ok W' r' t u := by
  have ho := h.old
  have hz := h.zb.lt
  refine ⟨hr, h.tb.far (g.block _ (by omega) (fun e => by cases e; omega)), h.zb.far (g.block _ hz (fun e => by cases e; omega)), ?_, grown_trans h.gr g, ho⟩
  refine (kids_blk h.kids).keep (fun x hx => g.block x hx.2 (fun e => by cases e; rcases hx.1 with h1 | h1; exact h1.2.1 rfl; omega)) (fun x hx => hx.1)
theorem RI.below {s : ByteArray} {b : Nat} {w : World} {ok : Nat → Prop} {W W' : World} {r : Rd} {t : Tr} {u : Value} (h : RI s b w ok W r t u) (g : Below W.heap.size W W') : RI s b w ok W' r t u :=
  h.step (grown_below g _) (h.rd.below g h.rd.lt)
theorem RI.drew {s : ByteArray} {b : Nat} {w : World} {ok : Nat → Prop} {W : World} {r : Rd} {t : Tr} {u : Value} (h : RI s b w ok W r t u) (n : Nat) : RI s b w ok (W.drewN n) r t u := h.step (grown_drew _ _ _) (h.rd.drew n)
theorem RI.place {s : ByteArray} {b : Nat} {w : World} {ok : Nat → Prop} {W : World} {r : Rd} {t : Tr} {u : Value} (h : RI s b w ok W r t u) (p : Nat) : RI s b w ok (W.setCell ⟨b, 1, none⟩ (.int .i64 (p : Nat))) { r with pos := p } t u :=
  h.step (grown_put _ _ _ _) (IsRd.put h.rd 1 _ rfl)
abbrev nine (W : World) (c : Nat) (x0 x1 x2 x3 x4 x5 x6 x7 x8 : Value) : World := ((((((((W.setCell ⟨c, 0, none⟩ x0).setCell ⟨c, 1, none⟩ x1).setCell ⟨c, 2, none⟩ x2).setCell ⟨c, 3, none⟩ x3).setCell ⟨c, 4, none⟩ x4).setCell ⟨c, 5, none⟩ x5).setCell ⟨c, 6, none⟩ x6).setCell ⟨c, 7, none⟩ x7).setCell ⟨c, 8, none⟩ x8
theorem nine_far (W : World) {c : Nat} (x0 x1 x2 x3 x4 x5 x6 x7 x8 : Value) {j : Nat} (h : j ≠ c) : (nine W c x0 x1 x2 x3 x4 x5 x6 x7 x8).heap[j]? = W.heap[j]? := by
  exact (put_far _ c 8 _ h).trans ((put_far _ c 7 _ h).trans ((put_far _ c 6 _ h).trans ((put_far _ c 5 _ h).trans ((put_far _ c 4 _ h).trans ((put_far _ c 3 _ h).trans ((put_far _ c 2 _ h).trans ((put_far _ c 1 _ h).trans (put_far _ c 0 _ h))))))))
theorem nine_at {W : World} {c : Nat} {vs : List Value} (h : Blk9 W c vs) (x0 x1 x2 x3 x4 x5 x6 x7 x8 : Value) : Blk9 (nine W c x0 x1 x2 x3 x4 x5 x6 x7 x8) c [x0, x1, x2, x3, x4, x5, x6, x7, x8] := by
  refine ⟨rfl, ?_⟩
  obtain ⟨hl, hb⟩ := h
  obtain ⟨y0, y1, y2, y3, y4, y5, y6, y7, y8, rfl⟩ : ∃ y0 y1 y2 y3 y4 y5 y6 y7 y8, vs = [y0, y1, y2, y3, y4, y5, y6, y7, y8] := by
    match vs, hl with
    | [y0, y1, y2, y3, y4, y5, y6, y7, y8], _ => exact ⟨_, _, _, _, _, _, _, _, _, rfl⟩
  have h0 := put_same W c 0 x0 hb
  have h1 := put_same _ c 1 x1 h0
  have h2 := put_same _ c 2 x2 h1
  have h3 := put_same _ c 3 x3 h2
  have h4 := put_same _ c 4 x4 h3
  have h5 := put_same _ c 5 x5 h4
  have h6 := put_same _ c 6 x6 h5
  have h7 := put_same _ c 7 x7 h6
  have h8 := put_same _ c 8 x8 h7
  exact h8.trans (by simp)
theorem nine_grown (W : World) (c : Nat) (x0 x1 x2 x3 x4 x5 x6 x7 x8 : Value) : W.grownBy (nine W c x0 x1 x2 x3 x4 x5 x6 x7 x8) (some c) :=
  grown_trans (grown_trans (grown_trans (grown_trans (grown_trans (grown_trans (grown_trans (grown_trans (grown_put W c 0 _) (grown_put _ c 1 _)) (grown_put _ c 2 _)) (grown_put _ c 3 _)) (grown_put _ c 4 _)) (grown_put _ c 5 _)) (grown_put _ c 6 _)) (grown_put _ c 7 _)) (grown_put _ c 8 _)
theorem grown_new {w A B : World} {o : Option Nat} {c : Nat} (h : w.grownBy A o) (k : A.grownBy B (some c)) (hc : w.heap.size ≤ c) : w.grownBy B o :=
  ⟨k.os.trans h.os, k.tape.trans h.tape, k.output.trans h.output, Nat.le_trans h.size k.size, fun j hj hr => (k.block j (Nat.lt_of_lt_of_le hj h.size) (fun e => by cases e; omega)).trans (h.block j hj hr)⟩
theorem set_size (W : World) (a k : Nat) (v : Value) : (W.setCell ⟨a, k, none⟩ v).heap.size = W.heap.size := by
  show (W.heap.modify a _).size = _
  rw [Array.size_modify]
theorem nine_size (W : World) (c : Nat) (x0 x1 x2 x3 x4 x5 x6 x7 x8 : Value) : (nine W c x0 x1 x2 x3 x4 x5 x6 x7 x8).heap.size = W.heap.size := by
  simp only [nine, set_size]
theorem RI.wrap {s : ByteArray} {b : Nat} {w : World} {ok : Nat → Prop} {W : World} {r : Rd} {t : Tr} {u : Value} (h : RI s b w ok W r t u) (lo hi : Int) :
    RI s b w ok ((nine W w.heap.size (.int .i64 5) (.int .u64 0) (.int .u64 0) (.int .u64 0) (.int .u64 0) (.int .i64 lo) (.int .i64 hi) (.int .i64 0) (.slice (some ⟨W.heap.size, 0, none⟩) 1 1)).alloc (.cells (nodeV t u).toArray 27)) r (repT lo hi t) (.slice (some ⟨W.heap.size, 0, none⟩) 1 1) := by
  have ho := h.old
  have hz := h.zb.lt
  have ht := h.tb.lt
  obtain ⟨V, hV⟩ : ∃ V, V = nine W w.heap.size (.int .i64 5) (.int .u64 0) (.int .u64 0) (.int .u64 0) (.int .u64 0) (.int .i64 lo) (.int .i64 hi) (.int .i64 0) (.slice (some ⟨W.heap.size, 0, none⟩) 1 1) := ⟨_, rfl⟩
  have hVs : V.heap.size = W.heap.size := by rw [hV]; exact nine_size _ _ _ _ _ _ _ _ _ _ _
  have hVf : ∀ j, j ≠ w.heap.size → V.heap[j]? = W.heap[j]? := fun j hj => by rw [hV]; exact nine_far _ _ _ _ _ _ _ _ _ _ hj
  have hVt : Blk9 V w.heap.size [.int .i64 5, .int .u64 0, .int .u64 0, .int .u64 0, .int .u64 0, .int .i64 lo, .int .i64 hi, .int .i64 0, .slice (some ⟨W.heap.size, 0, none⟩) 1 1] := by rw [hV]; exact nine_at h.tb _ _ _ _ _ _ _ _ _
  have hVg : W.grownBy V (some w.heap.size) := by rw [hV]; exact nine_grown _ _ _ _ _ _ _ _ _ _ _
  rw [← hV]
  clear hV
  have hb2 : Blk9 (V.alloc (.cells (nodeV t u).toArray 27)) W.heap.size (nodeV t u) := ⟨rfl, by rw [← hVs]; exact heap_alloc_new V _⟩
  have ha : ∀ j, j < W.heap.size → (V.alloc (.cells (nodeV t u).toArray 27)).heap[j]? = V.heap[j]? := fun j hj => Below.heap_alloc _ _ _ (by omega)
  refine ⟨?_, ?_, ?_, ?_, ?_, ho⟩
  · have h2 : _ = _ := h.rd
    show (V.alloc _).heap[b]? = _
    rw [ha b (by omega), hVf b (by omega)]
    exact h2
  · rw [nodeV_rep]
    exact hVt.far (ha _ (by omega))
  · exact h.zb.far ((ha _ (by omega)).trans (hVf _ (by omega)))
  · refine kids_one (b := W.heap.size) (t := t) (u := u) hb2.2 (.inr (by omega)) ?_
    refine (kids_blk h.kids).keep (fun g hg => (ha g hg.2).trans (hVf g (fun e => ?_))) (fun _ hg => hg.1)
    rcases hg.1 with hg | hg <;> omega
  · exact grown_then (grown_new h.gr hVg (Nat.le_refl _)) ((Below.refl _ _).alloc (by rw [hVs]; exact h.gr.size) _)
end Go.Proofs.Ytgpciekpmdihnaa
/- bre: the document's reader: repeats. -/
namespace Go.Proofs.Ytgpciekpmdihnaa
open Go.RowKit
structure RO (s : ByteArray) (b : Nat) (w : World) (ok : Nat → Prop) (W : World) (r : Rd) (t : Tr) (u : Value) : Prop where
  rd : IsRd W b s r
  kids : Kids W (fun g => ok g ∨ w.heap.size ≤ g) u t.kids
  gr : w.grownBy W (some b)
theorem RI.answer {s : ByteArray} {b : Nat} {w : World} {ok : Nat → Prop} {W : World} {r : Rd} {t : Tr} {u : Value} (h : RI s b w ok W r t u) :
    RO s b w ok (nine W (w.heap.size + 1) (.int .i64 (t.kind : Nat)) (.int .u64 (wd t.q 0 : Nat)) (.int .u64 (wd t.q 1 : Nat)) (.int .u64 (wd t.q 2 : Nat)) (.int .u64 (wd t.q 3 : Nat)) (.int .i64 t.lo) (.int .i64 t.hi) (.int .i64 (t.grp : Nat)) u) r t u ∧ Blk9 (nine W (w.heap.size + 1) (.int .i64 (t.kind : Nat)) (.int .u64 (wd t.q 0 : Nat)) (.int .u64 (wd t.q 1 : Nat)) (.int .u64 (wd t.q 2 : Nat)) (.int .u64 (wd t.q 3 : Nat)) (.int .i64 t.lo) (.int .i64 t.hi) (.int .i64 (t.grp : Nat)) u) (w.heap.size + 1) (nodeV t u) := by
  have ho := h.old
  refine ⟨⟨?_, ?_, ?_⟩, nine_at h.zb _ _ _ _ _ _ _ _ _⟩
  · have h2 : _ = _ := h.rd
    exact (nine_far _ _ _ _ _ _ _ _ _ _ (by omega)).trans h2
  · refine h.kids.keep (fun g hg => nine_far _ _ _ _ _ _ _ _ _ _ (fun e => ?_)) (fun g hg => ?_)
    · rcases hg with hg | hg <;> omega
    · rcases hg with hg | hg
      · exact .inl hg.1
      · exact .inr (by omega)
  · exact grown_new h.gr (nine_grown _ _ _ _ _ _ _ _ _ _ _) (by omega)
def RL (s : ByteArray) (i k : Nat) (P : Ps) (ts : List Tr) (r : Rd) (t : Tr) : Prop := Fails s i k P r ∨ ∃ P' k', Goes s i k P r P' k' (ts ++ [t]) ∧ repB k' = true
def RQ (s : ByteArray) (i k : Nat) (P : Ps) (ts : List Tr) (r : Rd) (t : Tr) : Prop := Fails s i k P r ∨ ∃ P' k', Goes s i k P r P' k' (ts ++ [t]) ∧ k' ≠ 4 ∧ (repB k' = true → seeB s ⟨#[42]⟩ r.pos = false ∧ seeB s ⟨#[92, 123]⟩ r.pos = false)
theorem rep_ne4 {k : Nat} (h : repB k = true) : k ≠ 4 := fun e => by rw [e] at h; cases h
theorem star_tok {s : ByteArray} {i k : Nat} (h : seeB s ⟨#[42]⟩ i = true) (hk : repB k = true) : tokenT s i k = ⟨7, i, i + 1, 0, noneP, 0, 0, -1⟩ := by
  rw [see1] at h
  have h1 := of_decide_eq_true h
  have e : byteAt s i = 42 := h1.2
  unfold tokenT
  rw [e]
  rw [if_neg (by omega), if_neg (by omega), if_neg (by omega), if_neg (by omega), if_neg (by omega), if_pos ⟨rfl, hk⟩]
theorem brace_tok {s : ByteArray} {i k : Nat} (h : seeB s ⟨#[92, 123]⟩ i = true) (hk : repB k = true) : tokenT s i k = ivTok s i := by
  have hl := see_lt h
  have hl' : i + 2 ≤ s.size := hl
  rw [see2] at h
  have h1 := of_decide_eq_true h
  have e1 : byteAt s i = 92 := h1.2.1
  have e2 : byteAt s (i + 1) = 123 := h1.2.2
  rw [← interval_join s i hl']
  unfold tokenT
  rw [if_pos e1]
  unfold escapeT
  rw [if_neg (by omega), e2]
  unfold escB
  rw [if_neg (by decide), if_neg (by decide), if_pos ⟨rfl, hk⟩]
theorem iv_bounds (s : ByteArray) (p : Nat) (hp : p ≤ s.size) : (ivAt s p).2.2.2 = true → p ≤ (ivAt s p).1 ∧ (ivAt s p).1 ≤ s.size ∧ (0 ≤ (ivAt s p).2.1 ∧ (ivAt s p).2.1 ≤ 255) ∧ (-1 ≤ (ivAt s p).2.2.1 ∧ (ivAt s p).2.2.1 ≤ 255) := by
  intro h
  have hb := dgAt_bd s p hp
  obtain ⟨p1, lo, hA⟩ : ∃ p1 lo, dgAt s p = (p1, lo) := ⟨_, _, rfl⟩
  obtain ⟨p2, hi, hH⟩ : ∃ p2 hi, ivHi s p1 lo = (p2, hi) := ⟨_, _, rfl⟩
  rw [hA] at hb
  have hb2 : p1 ≤ p2 ∧ p2 ≤ s.size ∧ -1 ≤ hi ∧ hi ≤ 256 := by
    unfold ivHi at hH
    split at hH
    · rename_i hc
      have hc1 : p1 + 1 ≤ s.size := see_lt hc
      have hb3 := dgAt_bd s (p1 + 1) hc1
      rw [hH] at hb3
      simp only at hb3
      omega
    · cases hH
      simp only at hb
      omega
  simp only at hb
  cases hbad : (ivBad lo hi || !seeB s ⟨#[92, 125]⟩ p2) with
  | true => rw [iv_bad hA hH hbad] at h; cases h
  | false =>
    rw [iv_ok hA hH hbad]
    simp only [Bool.or_eq_false_iff, Bool.not_eq_false'] at hbad
    have hl : p2 + 2 ≤ s.size := see_lt hbad.2
    have h3 := hbad.1
    simp only [ivBad, Bool.or_eq_false_iff, decide_eq_false_iff_not] at h3
    simp only
    omega
theorem grow_pos (r : Rd) (n : Int) (i : Nat) : (r.grow n i).pos = r.pos := by
  unfold Rd.grow Rd.failed
  split
  · split <;> rfl
  · rfl
theorem posT_mul {t : Tr} (ht : smallT t) (lo hi : Int) (h1 : 0 ≤ lo ∧ lo ≤ 255) (h2 : -1 ≤ hi ∧ hi ≤ 255) : 0 ≤ posT (repT lo hi t) ∧ posT (repT lo hi t) ≤ 256 * 255 := by
  have hp := smallT_pos t ht
  have ht2 : 0 ≤ timesOf lo hi ∧ timesOf lo hi ≤ 255 := by unfold timesOf; split <;> omega
  rw [pos_rep]
  exact ⟨Int.mul_nonneg hp.1 ht2.1, Int.mul_le_mul hp.2.1 ht2.2 ht2.1 (by omega)⟩
set_option maxRecDepth 100000 in
set_option maxHeartbeats 8000000 in
theorem repeats_any (s : ByteArray) (hs : s.size ≤ 512) (b : Nat) (i k : Nat) (P : Ps) (ts : List Tr) (w : World) (ok : Nat → Prop) (hok : ∀ g, ok g → g ≠ b) (r0 : Rd) (t0 : Tr) (u0 : Value) (hr0 : IsRd w b s r0) (hk0 : Kids w ok u0 t0.kids) (hl0 : RL s i k P ts r0 t0) :
    Calls Try.prog 34 #[.pointer (some ⟨b, 0, none⟩), nodeA t0 u0] w fun x w' => ∃ r t u, x = .returned (nodeA t u) ∧ RO s b w ok w' r t u ∧ RQ s i k P ts r t := by
  have hs30 : s.size ≤ 1073741824 := by omega
  go_enter Try.func34, Try.ntmps34
  go_wp2_with fail
  obtain ⟨X, hX⟩ : ∃ X, X = (w.alloc (.cells #[.int .i64 (t0.kind : Nat), .int .u64 (wd t0.q 0 : Nat), .int .u64 (wd t0.q 1 : Nat), .int .u64 (wd t0.q 2 : Nat), .int .u64 (wd t0.q 3 : Nat), .int .i64 t0.lo, .int .i64 t0.hi, .int .i64 (t0.grp : Nat), u0] 27)).alloc (.cells #[.int .i64 0, .int .u64 0, .int .u64 0, .int .u64 0, .int .u64 0, .int .i64 0, .int .i64 0, .int .i64 0, .slice none 0 0] 27) := ⟨_, rfl⟩
  have hBX : Below w.heap.size w X := by
    rw [hX]
    exact ((Below.refl _ _).alloc (Nat.le_refl _) _).alloc (by rw [World.size_alloc]; omega) _
  have H0 : RI s b w ok X r0 t0 u0 := by
    refine ⟨hr0.below hBX hr0.lt, ⟨rfl, ?_⟩, ⟨rfl, ?_⟩, ?_, grown_below hBX _, hr0.lt⟩
    · rw [hX, Below.heap_alloc _ _ _ (by rw [World.size_alloc]; omega)]
      exact heap_alloc_new w _
    · rw [hX, ← World.size_alloc w (.cells #[.int .i64 (t0.kind : Nat), .int .u64 (wd t0.q 0 : Nat), .int .u64 (wd t0.q 1 : Nat), .int .u64 (wd t0.q 2 : Nat), .int .u64 (wd t0.q 3 : Nat), .int .i64 t0.lo, .int .i64 t0.hi, .int .i64 (t0.grp : Nat), u0] 27)]
      exact heap_alloc_new _ _
    · exact (kids_blk hk0).keep (fun g hg => hBX.block g hg.2) (fun g hg => .inl ⟨hg.1, hok g hg.1, hg.2⟩)
  rw [← hX]
  clear hX hBX hr0 hk0
  go_loopw [] (fun wr => ∃ r t u, Hid (RI s b w ok wr r t u) ∧ Hid (RL s i k P ts r t)) (fun wr => s.size - (intOf ((wr.cell? ⟨b, 1, none⟩).getD (.bool false))).toNat)
  case atStart => exact ⟨r0, t0, u0, H0, hl0⟩
  case round =>
    obtain ⟨r, t, u, HI, HL⟩ := hrel
    obtain ⟨ua, uc, rfl⟩ := kids_shape HI.out.kids
    obtain ⟨rc1, rf1⟩ := HI.out.rd.cell 1 _ rfl
    obtain ⟨rc2, rf2⟩ := HI.out.rd.cell 2 _ rfl
    obtain ⟨tc0, tf0⟩ := HI.out.tb.cell 0 _ rfl
    obtain ⟨tc1, tf1⟩ := HI.out.tb.cell 1 _ rfl
    obtain ⟨tc2, tf2⟩ := HI.out.tb.cell 2 _ rfl
    obtain ⟨tc3, tf3⟩ := HI.out.tb.cell 3 _ rfl
    obtain ⟨tc4, tf4⟩ := HI.out.tb.cell 4 _ rfl
    obtain ⟨tc5, tf5⟩ := HI.out.tb.cell 5 _ rfl
    obtain ⟨tc6, tf6⟩ := HI.out.tb.cell 6 _ rfl
    obtain ⟨tc7, tf7⟩ := HI.out.tb.cell 7 _ rfl
    obtain ⟨tc8, tf8⟩ := HI.out.tb.cell 8 _ rfl
    obtain ⟨zc0, zf0⟩ := HI.out.zb.cell 0 _ rfl
    obtain ⟨zc1, zf1⟩ := HI.out.zb.cell 1 _ rfl
    obtain ⟨zc2, zf2⟩ := HI.out.zb.cell 2 _ rfl
    obtain ⟨zc3, zf3⟩ := HI.out.zb.cell 3 _ rfl
    obtain ⟨zc4, zf4⟩ := HI.out.zb.cell 4 _ rfl
    obtain ⟨zc5, zf5⟩ := HI.out.zb.cell 5 _ rfl
    obtain ⟨zc6, zf6⟩ := HI.out.zb.cell 6 _ rfl
    obtain ⟨zc7, zf7⟩ := HI.out.zb.cell 7 _ rfl
    obtain ⟨zc8, zf8⟩ := HI.out.zb.cell 8 _ rfl
    have ne1 : (w.heap.size = w.heap.size + 1) = False := eq_false (by omega)
    have ne2 : (w.heap.size + 1 = w.heap.size) = False := eq_false (by omega)
    have ne3 : (b = w.heap.size) = False := eq_false (by have := H0.old; omega)
    have ne4 : (b = w.heap.size + 1) = False := eq_false (by have := H0.old; omega)
    have ne5 : (w.heap.size = b) = False := eq_false (by have := H0.old; omega)
    have ne6 : (w.heap.size + 1 = b) = False := eq_false (by have := H0.old; omega)
    rcases HL.out with hf | ⟨P1, k1, hgo, hrep⟩
    · have he : (r.e == 0) = false := by rw [beq_eq_false_iff_ne]; exact hf.e
      have HF := hideT hf
      clear hf
      go_wp2
      obtain ⟨Y, hY⟩ : ∃ Y, Y = ((((((((wr.setCell ⟨w.heap.size + 1, 0, none⟩ (.int .i64 (t.kind : Nat))).setCell ⟨w.heap.size + 1, 1, none⟩ (.int .u64 (wd t.q 0 : Nat))).setCell ⟨w.heap.size + 1, 2, none⟩ (.int .u64 (wd t.q 1 : Nat))).setCell ⟨w.heap.size + 1, 3, none⟩ (.int .u64 (wd t.q 2 : Nat))).setCell ⟨w.heap.size + 1, 4, none⟩ (.int .u64 (wd t.q 3 : Nat))).setCell ⟨w.heap.size + 1, 5, none⟩ (.int .i64 t.lo)).setCell ⟨w.heap.size + 1, 6, none⟩ (.int .i64 t.hi)).setCell ⟨w.heap.size + 1, 7, none⟩ (.int .i64 (t.grp : Nat))).setCell ⟨w.heap.size + 1, 8, none⟩ (.slice ua t.kids.length uc) := ⟨_, rfl⟩
      have hYo : RO s b w ok Y r t (.slice ua t.kids.length uc) ∧ Blk9 Y (w.heap.size + 1) (nodeV t (.slice ua t.kids.length uc)) := by rw [hY]; exact HI.out.answer
      rw [← hY]
      clear hY tc0 tc1 tc2 tc3 tc4 tc5 tc6 tc7 tc8 tf0 tf1 tf2 tf3 tf4 tf5 tf6 tf7 tf8 zc0 zc1 zc2 zc3 zc4 zc5 zc6 zc7 zc8 zf0 zf1 zf2 zf3 zf4 zf5 zf6 zf7 zf8
      have o0 := (hYo.2.cell 0 _ rfl).1
      have o1 := (hYo.2.cell 1 _ rfl).1
      have o2 := (hYo.2.cell 2 _ rfl).1
      have o3 := (hYo.2.cell 3 _ rfl).1
      have o4 := (hYo.2.cell 4 _ rfl).1
      have o5 := (hYo.2.cell 5 _ rfl).1
      have o6 := (hYo.2.cell 6 _ rfl).1
      have o7 := (hYo.2.cell 7 _ rfl).1
      have o8 := (hYo.2.cell 8 _ rfl).1
      refine bodyPost_ret (v := nodeA t (.slice ua t.kids.length uc)) (by simp [results, Try.results34, go_sem, o0, o1, o2, o3, o4, o5, o6, o7, o8]; try rfl) rfl ?_
      exact ⟨r, t, _, rfl, hYo.1, .inl HF.out⟩
    · have HG := hideT (And.intro hgo hrep)
      have he := hgo.sim.e
      rw [he] at rc2
      have hle := hgo.sim.le
      have hS1 := see_any s ⟨#[42]⟩ hs30 (by decide) r hle b wr HI.out.rd
      clear hgo hrep
      go_wp2_with fail
      refine hS1.mono ?_
      rintro e1 w1 ⟨rfl, n1, rfl⟩
      clear hS1
      have hsm := small_mem _ (HG.out.1.sim.well.small P1.top (by simp)) t (by rw [HG.out.1.top]; simp)
      have HG := hideT (And.intro HG.out.1 (And.intro HG.out.2 hsm))
      clear hsm he
      have HI1 := hideT (HI.out.drew n1)
      generalize wr.drewN n1 = W1 at *
      clear rc1 rf1 rc2 rf2 tc0 tc1 tc2 tc3 tc4 tc5 tc6 tc7 tc8 tf0 tf1 tf2 tf3 tf4 tf5 tf6 tf7 tf8 zc0 zc1 zc2 zc3 zc4 zc5 zc6 zc7 zc8 zf0 zf1 zf2 zf3 zf4 zf5 zf6 zf7 zf8
      obtain ⟨rc1, rf1⟩ := HI1.out.rd.cell 1 _ rfl
      obtain ⟨rc2, rf2⟩ := HI1.out.rd.cell 2 _ rfl
      obtain ⟨tc0, tf0⟩ := HI1.out.tb.cell 0 _ rfl
      obtain ⟨tc1, tf1⟩ := HI1.out.tb.cell 1 _ rfl
      obtain ⟨tc2, tf2⟩ := HI1.out.tb.cell 2 _ rfl
      obtain ⟨tc3, tf3⟩ := HI1.out.tb.cell 3 _ rfl
      obtain ⟨tc4, tf4⟩ := HI1.out.tb.cell 4 _ rfl
      obtain ⟨tc5, tf5⟩ := HI1.out.tb.cell 5 _ rfl
      obtain ⟨tc6, tf6⟩ := HI1.out.tb.cell 6 _ rfl
      obtain ⟨tc7, tf7⟩ := HI1.out.tb.cell 7 _ rfl
      obtain ⟨tc8, tf8⟩ := HI1.out.tb.cell 8 _ rfl
      obtain ⟨zc0, zf0⟩ := HI1.out.zb.cell 0 _ rfl
      obtain ⟨zc1, zf1⟩ := HI1.out.zb.cell 1 _ rfl
      obtain ⟨zc2, zf2⟩ := HI1.out.zb.cell 2 _ rfl
      obtain ⟨zc3, zf3⟩ := HI1.out.zb.cell 3 _ rfl
      obtain ⟨zc4, zf4⟩ := HI1.out.zb.cell 4 _ rfl
      obtain ⟨zc5, zf5⟩ := HI1.out.zb.cell 5 _ rfl
      obtain ⟨zc6, zf6⟩ := HI1.out.zb.cell 6 _ rfl
      obtain ⟨zc7, zf7⟩ := HI1.out.zb.cell 7 _ rfl
      obtain ⟨zc8, zf8⟩ := HI1.out.zb.cell 8 _ rfl
      cases hst : seeB s ⟨#[42]⟩ r.pos with
      | true =>
        have hlt : r.pos < s.size := see_lt hst
        have k1 : IntKind.i64.wrap ((r.pos : Int) + 1) = (r.pos : Int) + 1 := by rw [IntKind.wrap_i64]; omega
        have htok := star_tok hst HG.out.2.1
        have hstep := docRep_step hs HG.out.1 hlt (by rw [htok])
        rw [htok] at hstep
        have HS : Hid (RL s i k P ts (({ r with pos := r.pos + 1 } : Rd).grow (posT (repT 0 (-1) t) - posT t) r.pos) (repT 0 (-1) t)) := hstep.imp id (fun ⟨P2, h2⟩ => ⟨P2, 7, h2, rfl⟩)
        clear htok hstep hst
        go_upto_region 14 with fail
        obtain ⟨W2, hW2⟩ : ∃ W2, W2 = W1.setCell ⟨b, 1, none⟩ (.int .i64 ((r.pos : Int) + 1)) := ⟨_, rfl⟩
        have HI2 : Hid (RI s b w ok W2 ({ r with pos := r.pos + 1 } : Rd) t (.slice ua t.kids.length uc)) := by rw [hW2]; exact HI1.out.place (r.pos + 1)
        rw [← hW2]
        clear hW2
        clear rc1 rf1 rc2 rf2 tc0 tc1 tc2 tc3 tc4 tc5 tc6 tc7 tc8 tf0 tf1 tf2 tf3 tf4 tf5 tf6 tf7 tf8 zc0 zc1 zc2 zc3 zc4 zc5 zc6 zc7 zc8 zf0 zf1 zf2 zf3 zf4 zf5 zf6 zf7 zf8
        obtain ⟨tc0, tf0⟩ := HI2.out.tb.cell 0 _ rfl
        obtain ⟨tc1, tf1⟩ := HI2.out.tb.cell 1 _ rfl
        obtain ⟨tc2, tf2⟩ := HI2.out.tb.cell 2 _ rfl
        obtain ⟨tc3, tf3⟩ := HI2.out.tb.cell 3 _ rfl
        obtain ⟨tc4, tf4⟩ := HI2.out.tb.cell 4 _ rfl
        obtain ⟨tc5, tf5⟩ := HI2.out.tb.cell 5 _ rfl
        obtain ⟨tc6, tf6⟩ := HI2.out.tb.cell 6 _ rfl
        obtain ⟨tc7, tf7⟩ := HI2.out.tb.cell 7 _ rfl
        obtain ⟨tc8, tf8⟩ := HI2.out.tb.cell 8 _ rfl
        have hpa := pos_any _ t (Nat.lt_succ_self _) HG.out.2.2 W2 _ ua _ uc HI2.out.kids
        go_wp2_with fail
        refine hpa.mono ?_
        rintro e3 w3 ⟨rfl, hb3⟩
        have HI3 := hideT (HI2.out.below hb3)
        clear hpa hb3 tc0 tc1 tc2 tc3 tc4 tc5 tc6 tc7 tc8 tf0 tf1 tf2 tf3 tf4 tf5 tf6 tf7 tf8
        obtain ⟨tc0, tf0⟩ := HI3.out.tb.cell 0 _ rfl
        obtain ⟨tc1, tf1⟩ := HI3.out.tb.cell 1 _ rfl
        obtain ⟨tc2, tf2⟩ := HI3.out.tb.cell 2 _ rfl
        obtain ⟨tc3, tf3⟩ := HI3.out.tb.cell 3 _ rfl
        obtain ⟨tc4, tf4⟩ := HI3.out.tb.cell 4 _ rfl
        obtain ⟨tc5, tf5⟩ := HI3.out.tb.cell 5 _ rfl
        obtain ⟨tc6, tf6⟩ := HI3.out.tb.cell 6 _ rfl
        obtain ⟨tc7, tf7⟩ := HI3.out.tb.cell 7 _ rfl
        obtain ⟨tc8, tf8⟩ := HI3.out.tb.cell 8 _ rfl
        have hlt3 := HI3.out.tb.lt
        go_upto_region 16 with fail
        obtain ⟨W4, hW4⟩ : ∃ W4, W4 = (((((((((w3.setCell ⟨w.heap.size, 0, none⟩ (.int .i64 5)).setCell ⟨w.heap.size, 1, none⟩ (.int .u64 0)).setCell ⟨w.heap.size, 2, none⟩ (.int .u64 0)).setCell ⟨w.heap.size, 3, none⟩ (.int .u64 0)).setCell ⟨w.heap.size, 4, none⟩ (.int .u64 0)).setCell ⟨w.heap.size, 5, none⟩ (.int .i64 0)).setCell ⟨w.heap.size, 6, none⟩ (.int .i64 (-1))).setCell ⟨w.heap.size, 7, none⟩ (.int .i64 0)).setCell ⟨w.heap.size, 8, none⟩ (.slice (some ⟨w3.heap.size, 0, none⟩) 1 1)).alloc (.cells #[.int .i64 (t.kind : Nat), .int .u64 (wd t.q 0 : Nat), .int .u64 (wd t.q 1 : Nat), .int .u64 (wd t.q 2 : Nat), .int .u64 (wd t.q 3 : Nat), .int .i64 t.lo, .int .i64 t.hi, .int .i64 (t.grp : Nat), (.slice ua t.kids.length uc)] 27) := ⟨_, rfl⟩
        have HI4 : Hid (RI s b w ok W4 ({ r with pos := r.pos + 1 } : Rd) (repT 0 (-1) t) (.slice (some ⟨w3.heap.size, 0, none⟩) 1 1)) := by rw [hW4]; exact HI3.out.wrap 0 (-1)
        rw [← hW4]
        clear hW4 hlt3 tc0 tc1 tc2 tc3 tc4 tc5 tc6 tc7 tc8 tf0 tf1 tf2 tf3 tf4 tf5 tf6 tf7 tf8
        obtain ⟨tc0, _⟩ := HI4.out.tb.cell 0 _ rfl
        have tc1 : W4.cell? ⟨w.heap.size, 1, none⟩ = some (.int .u64 0) := (HI4.out.tb.cell 1 _ rfl).1
        have tc2 : W4.cell? ⟨w.heap.size, 2, none⟩ = some (.int .u64 0) := (HI4.out.tb.cell 2 _ rfl).1
        have tc3 : W4.cell? ⟨w.heap.size, 3, none⟩ = some (.int .u64 0) := (HI4.out.tb.cell 3 _ rfl).1
        have tc4 : W4.cell? ⟨w.heap.size, 4, none⟩ = some (.int .u64 0) := (HI4.out.tb.cell 4 _ rfl).1
        have tc5 : W4.cell? ⟨w.heap.size, 5, none⟩ = some (.int .i64 0) := (HI4.out.tb.cell 5 _ rfl).1
        have tc6 : W4.cell? ⟨w.heap.size, 6, none⟩ = some (.int .i64 (-1)) := (HI4.out.tb.cell 6 _ rfl).1
        have tc7 : W4.cell? ⟨w.heap.size, 7, none⟩ = some (.int .i64 0) := (HI4.out.tb.cell 7 _ rfl).1
        have tc8 := (HI4.out.tb.cell 8 _ rfl).1
        have tc0 : W4.cell? ⟨w.heap.size, 0, none⟩ = some (.int .i64 5) := tc0
        have hpb := pos_repeat t HG.out.2.2 0 (-1) (by omega) (by omega) W4 _ _ 1 HI4.out.kids
        have hpm := posT_mul HG.out.2.2 0 (-1) (by omega) (by omega)
        have hps := (smallT_pos t HG.out.2.2)
        have kk : IntKind.i64.wrap (posT (repT 0 (-1) t) - posT t) = posT (repT 0 (-1) t) - posT t := by rw [IntKind.wrap_i64]; omega
        go_wp2_with fail
        refine hpb.mono ?_
        rintro e5 w5 ⟨rfl, hb5⟩
        have HI5 := hideT (HI4.out.below hb5)
        have hgr := grown_any s ({ r with pos := r.pos + 1 } : Rd) b (posT (repT 0 (-1) t) - posT t) r.pos (by omega) (by have h9 := HG.out.1; have h8 := h9.sim.z; have h7 := h9.sim.well.good.big; have h6 := h9.sim.well.good.bounds; show 0 ≤ r.size ∧ r.size ≤ 1000000000; omega) w5 HI5.out.rd
        clear hpb hb5 tc0 tc1 tc2 tc3 tc4 tc5 tc6 tc7 tc8
        go_wp2_with fail
        refine hgr.mono ?_
        rintro e6 w6 ⟨⟨v6, rfl⟩, hI6, hg6⟩
        have HI6 := hideT (HI5.out.step hg6 hI6)
        clear hgr hI6 hg6
        go_wp2
        exact ⟨⟨_, _, _, HI6, HS⟩, rd_less HI.out.rd HI6.out.rd (by rw [grow_pos]; show r.pos < r.pos + 1; omega) hlt⟩
      | false =>
        have hS2 := see_any s ⟨#[92, 123]⟩ hs30 (by decide) r HG.out.1.sim.le b W1 HI1.out.rd
        go_wp2_with fail
        refine hS2.mono ?_
        rintro e2 w2 ⟨rfl, n2, rfl⟩
        clear hS2
        have HJ := hideT (HI1.out.drew n2)
        generalize W1.drewN n2 = V1 at *
        clear rc1 rf1 rc2 rf2 tc0 tc1 tc2 tc3 tc4 tc5 tc6 tc7 tc8 tf0 tf1 tf2 tf3 tf4 tf5 tf6 tf7 tf8 zc0 zc1 zc2 zc3 zc4 zc5 zc6 zc7 zc8 zf0 zf1 zf2 zf3 zf4 zf5 zf6 zf7 zf8
        obtain ⟨rc1, rf1⟩ := HJ.out.rd.cell 1 _ rfl
        obtain ⟨rc2, rf2⟩ := HJ.out.rd.cell 2 _ rfl
        obtain ⟨tc0, tf0⟩ := HJ.out.tb.cell 0 _ rfl
        obtain ⟨tc1, tf1⟩ := HJ.out.tb.cell 1 _ rfl
        obtain ⟨tc2, tf2⟩ := HJ.out.tb.cell 2 _ rfl
        obtain ⟨tc3, tf3⟩ := HJ.out.tb.cell 3 _ rfl
        obtain ⟨tc4, tf4⟩ := HJ.out.tb.cell 4 _ rfl
        obtain ⟨tc5, tf5⟩ := HJ.out.tb.cell 5 _ rfl
        obtain ⟨tc6, tf6⟩ := HJ.out.tb.cell 6 _ rfl
        obtain ⟨tc7, tf7⟩ := HJ.out.tb.cell 7 _ rfl
        obtain ⟨tc8, tf8⟩ := HJ.out.tb.cell 8 _ rfl
        obtain ⟨zc0, zf0⟩ := HJ.out.zb.cell 0 _ rfl
        obtain ⟨zc1, zf1⟩ := HJ.out.zb.cell 1 _ rfl
        obtain ⟨zc2, zf2⟩ := HJ.out.zb.cell 2 _ rfl
        obtain ⟨zc3, zf3⟩ := HJ.out.zb.cell 3 _ rfl
        obtain ⟨zc4, zf4⟩ := HJ.out.zb.cell 4 _ rfl
        obtain ⟨zc5, zf5⟩ := HJ.out.zb.cell 5 _ rfl
        obtain ⟨zc6, zf6⟩ := HJ.out.zb.cell 6 _ rfl
        obtain ⟨zc7, zf7⟩ := HJ.out.zb.cell 7 _ rfl
        obtain ⟨zc8, zf8⟩ := HJ.out.zb.cell 8 _ rfl
        cases hsb : seeB s ⟨#[92, 123]⟩ r.pos with
        | false =>
          have HQ : Hid (RQ s i k P ts r t) := .inr ⟨P1, k1, HG.out.1, rep_ne4 HG.out.2.1, fun _ => ⟨hst, hsb⟩⟩
          clear hst hsb
          go_wp2
          obtain ⟨Y, hY⟩ : ∃ Y, Y = ((((((((V1.setCell ⟨w.heap.size + 1, 0, none⟩ (.int .i64 (t.kind : Nat))).setCell ⟨w.heap.size + 1, 1, none⟩ (.int .u64 (wd t.q 0 : Nat))).setCell ⟨w.heap.size + 1, 2, none⟩ (.int .u64 (wd t.q 1 : Nat))).setCell ⟨w.heap.size + 1, 3, none⟩ (.int .u64 (wd t.q 2 : Nat))).setCell ⟨w.heap.size + 1, 4, none⟩ (.int .u64 (wd t.q 3 : Nat))).setCell ⟨w.heap.size + 1, 5, none⟩ (.int .i64 t.lo)).setCell ⟨w.heap.size + 1, 6, none⟩ (.int .i64 t.hi)).setCell ⟨w.heap.size + 1, 7, none⟩ (.int .i64 (t.grp : Nat))).setCell ⟨w.heap.size + 1, 8, none⟩ (.slice ua t.kids.length uc) := ⟨_, rfl⟩
          have hYo : RO s b w ok Y r t (.slice ua t.kids.length uc) ∧ Blk9 Y (w.heap.size + 1) (nodeV t (.slice ua t.kids.length uc)) := by rw [hY]; exact HJ.out.answer
          rw [← hY]
          clear hY tc0 tc1 tc2 tc3 tc4 tc5 tc6 tc7 tc8 tf0 tf1 tf2 tf3 tf4 tf5 tf6 tf7 tf8 zc0 zc1 zc2 zc3 zc4 zc5 zc6 zc7 zc8 zf0 zf1 zf2 zf3 zf4 zf5 zf6 zf7 zf8
          have o0 := (hYo.2.cell 0 _ rfl).1
          have o1 := (hYo.2.cell 1 _ rfl).1
          have o2 := (hYo.2.cell 2 _ rfl).1
          have o3 := (hYo.2.cell 3 _ rfl).1
          have o4 := (hYo.2.cell 4 _ rfl).1
          have o5 := (hYo.2.cell 5 _ rfl).1
          have o6 := (hYo.2.cell 6 _ rfl).1
          have o7 := (hYo.2.cell 7 _ rfl).1
          have o8 := (hYo.2.cell 8 _ rfl).1
          refine bodyPost_ret (v := nodeA t (.slice ua t.kids.length uc)) (by simp [results, Try.results34, go_sem, o0, o1, o2, o3, o4, o5, o6, o7, o8]; try rfl) rfl ?_
          exact ⟨r, t, _, rfl, hYo.1, HQ.out⟩
        | true =>
          have hlt2 : r.pos + 2 ≤ s.size := see_lt hsb
          have hlt : r.pos < s.size := by omega
          have k1' : IntKind.i64.wrap ((r.pos : Int) + 2) = (r.pos : Int) + 2 := by rw [IntKind.wrap_i64]; omega
          have htok := brace_tok hsb HG.out.2.1
          go_upto_region 10 with fail
          obtain ⟨V2, hV2⟩ : ∃ V2, V2 = V1.setCell ⟨b, 1, none⟩ (.int .i64 ((r.pos : Int) + 2)) := ⟨_, rfl⟩
          have HJ2 : Hid (RI s b w ok V2 ({ r with pos := r.pos + 2 } : Rd) t (.slice ua t.kids.length uc)) := by rw [hV2]; exact HJ.out.place (r.pos + 2)
          rw [← hV2]
          clear hV2
          have hiv := interval_any s hs30 ({ r with pos := r.pos + 2 } : Rd) hlt2 b V2 HJ2.out.rd
          have hbd := iv_bounds s (r.pos + 2) hlt2
          obtain ⟨q, ivl, ivh, ivo, hiveq⟩ : ∃ q ivl ivh ivo, ivAt s (r.pos + 2) = (q, ivl, ivh, ivo) := ⟨_, _, _, _, rfl⟩
          simp only at hiv
          rw [hiveq] at hiv hbd
          simp only at hiv hbd
          have HT := hideT (And.intro htok hiveq)
          clear htok hiveq hst hsb rc1 rf1 rc2 rf2 tc0 tc1 tc2 tc3 tc4 tc5 tc6 tc7 tc8 tf0 tf1 tf2 tf3 tf4 tf5 tf6 tf7 tf8 zc0 zc1 zc2 zc3 zc4 zc5 zc6 zc7 zc8 zf0 zf1 zf2 zf3 zf4 zf5 zf6 zf7 zf8
          go_wp2_with fail
          refine hiv.mono ?_
          rintro e3 W3 ⟨rfl, hI3, hG3⟩
          have HK := hideT (HJ2.out.step hG3 hI3)
          clear hiv hI3 hG3
          cases ivo with
          | false =>
            have hfl := fail_any s _ b 9 r.pos W3 HK.out.rd
            go_wp2_with fail
            refine hfl.mono ?_
            rintro e4 W4 ⟨⟨v4, rfl⟩, hI4, hG4⟩
            have HK4 := hideT (HK.out.step hG4 hI4)
            have hfe := failed_e (r := ({ r with pos := q } : Rd)) HG.out.1.sim.e 9 r.pos
            have HQ : Hid (RQ s i k P ts (if r.e = 0 then { ({ r with pos := q } : Rd) with e := 9, place := r.pos } else { r with pos := q }) t) := hideT (.inl (HG.out.1.fails (by
              have hv : ivTok s r.pos = faultT 9 r.pos := by unfold ivTok; rw [HT.out.2]; rfl
              have htk : P1.take (tokenT s r.pos k1) = (9, P1) := by rw [HT.out.1, hv]; rfl
              exact fails_tok hlt (by rw [htk]; show (9 : Int) ≠ 0; decide) (by rw [htk]; exact hfe.1) hfe.2)))
            clear hfl hI4 hG4 hfe
            generalize (if r.e = 0 then { ({ r with pos := q } : Rd) with e := 9, place := r.pos } else { r with pos := q }) = rr at *
            obtain ⟨tc0, tf0⟩ := HK4.out.tb.cell 0 _ rfl
            obtain ⟨tc1, tf1⟩ := HK4.out.tb.cell 1 _ rfl
            obtain ⟨tc2, tf2⟩ := HK4.out.tb.cell 2 _ rfl
            obtain ⟨tc3, tf3⟩ := HK4.out.tb.cell 3 _ rfl
            obtain ⟨tc4, tf4⟩ := HK4.out.tb.cell 4 _ rfl
            obtain ⟨tc5, tf5⟩ := HK4.out.tb.cell 5 _ rfl
            obtain ⟨tc6, tf6⟩ := HK4.out.tb.cell 6 _ rfl
            obtain ⟨tc7, tf7⟩ := HK4.out.tb.cell 7 _ rfl
            obtain ⟨tc8, tf8⟩ := HK4.out.tb.cell 8 _ rfl
            obtain ⟨zc0, zf0⟩ := HK4.out.zb.cell 0 _ rfl
            obtain ⟨zc1, zf1⟩ := HK4.out.zb.cell 1 _ rfl
            obtain ⟨zc2, zf2⟩ := HK4.out.zb.cell 2 _ rfl
            obtain ⟨zc3, zf3⟩ := HK4.out.zb.cell 3 _ rfl
            obtain ⟨zc4, zf4⟩ := HK4.out.zb.cell 4 _ rfl
            obtain ⟨zc5, zf5⟩ := HK4.out.zb.cell 5 _ rfl
            obtain ⟨zc6, zf6⟩ := HK4.out.zb.cell 6 _ rfl
            obtain ⟨zc7, zf7⟩ := HK4.out.zb.cell 7 _ rfl
            obtain ⟨zc8, zf8⟩ := HK4.out.zb.cell 8 _ rfl
            go_wp2
            obtain ⟨Y, hY⟩ : ∃ Y, Y = ((((((((W4.setCell ⟨w.heap.size + 1, 0, none⟩ (.int .i64 (t.kind : Nat))).setCell ⟨w.heap.size + 1, 1, none⟩ (.int .u64 (wd t.q 0 : Nat))).setCell ⟨w.heap.size + 1, 2, none⟩ (.int .u64 (wd t.q 1 : Nat))).setCell ⟨w.heap.size + 1, 3, none⟩ (.int .u64 (wd t.q 2 : Nat))).setCell ⟨w.heap.size + 1, 4, none⟩ (.int .u64 (wd t.q 3 : Nat))).setCell ⟨w.heap.size + 1, 5, none⟩ (.int .i64 t.lo)).setCell ⟨w.heap.size + 1, 6, none⟩ (.int .i64 t.hi)).setCell ⟨w.heap.size + 1, 7, none⟩ (.int .i64 (t.grp : Nat))).setCell ⟨w.heap.size + 1, 8, none⟩ (.slice ua t.kids.length uc) := ⟨_, rfl⟩
            have hYo : RO s b w ok Y rr t (.slice ua t.kids.length uc) ∧ Blk9 Y (w.heap.size + 1) (nodeV t (.slice ua t.kids.length uc)) := by rw [hY]; exact HK4.out.answer
            rw [← hY]
            clear hY tc0 tc1 tc2 tc3 tc4 tc5 tc6 tc7 tc8 tf0 tf1 tf2 tf3 tf4 tf5 tf6 tf7 tf8 zc0 zc1 zc2 zc3 zc4 zc5 zc6 zc7 zc8 zf0 zf1 zf2 zf3 zf4 zf5 zf6 zf7 zf8
            have o0 := (hYo.2.cell 0 _ rfl).1
            have o1 := (hYo.2.cell 1 _ rfl).1
            have o2 := (hYo.2.cell 2 _ rfl).1
            have o3 := (hYo.2.cell 3 _ rfl).1
            have o4 := (hYo.2.cell 4 _ rfl).1
            have o5 := (hYo.2.cell 5 _ rfl).1
            have o6 := (hYo.2.cell 6 _ rfl).1
            have o7 := (hYo.2.cell 7 _ rfl).1
            have o8 := (hYo.2.cell 8 _ rfl).1
            refine bodyPost_ret (v := nodeA t (.slice ua t.kids.length uc)) (by simp [results, Try.results34, go_sem, o0, o1, o2, o3, o4, o5, o6, o7, o8]; try rfl) rfl ?_
            exact ⟨rr, t, _, rfl, hYo.1, HQ.out⟩
          | true =>
            obtain ⟨hq1, hq2, hb1, hb2⟩ := hbd rfl
            have hv : ivTok s r.pos = ⟨7, r.pos, q, 0, noneP, 0, ivl, ivh⟩ := by unfold ivTok; rw [HT.out.2]; rfl
            have hstep := docRep_step hs HG.out.1 hlt (by rw [HT.out.1, hv])
            rw [HT.out.1, hv] at hstep
            have HS : Hid (RL s i k P ts (({ r with pos := q } : Rd).grow (posT (repT ivl ivh t) - posT t) r.pos) (repT ivl ivh t)) := hstep.imp id (fun ⟨P2, h2⟩ => ⟨P2, 7, h2, rfl⟩)
            clear hstep hv HT
            go_upto_region 14 with fail
            have HI2 := HK
            obtain ⟨W2, hW2⟩ : ∃ W2, W2 = W3 := ⟨_, rfl⟩
            rw [← hW2] at HI2 ⊢
            clear hW2
            obtain ⟨tc0, tf0⟩ := HI2.out.tb.cell 0 _ rfl
            obtain ⟨tc1, tf1⟩ := HI2.out.tb.cell 1 _ rfl
            obtain ⟨tc2, tf2⟩ := HI2.out.tb.cell 2 _ rfl
            obtain ⟨tc3, tf3⟩ := HI2.out.tb.cell 3 _ rfl
            obtain ⟨tc4, tf4⟩ := HI2.out.tb.cell 4 _ rfl
            obtain ⟨tc5, tf5⟩ := HI2.out.tb.cell 5 _ rfl
            obtain ⟨tc6, tf6⟩ := HI2.out.tb.cell 6 _ rfl
            obtain ⟨tc7, tf7⟩ := HI2.out.tb.cell 7 _ rfl
            obtain ⟨tc8, tf8⟩ := HI2.out.tb.cell 8 _ rfl
            have hpa := pos_any _ t (Nat.lt_succ_self _) HG.out.2.2 W2 _ ua _ uc HI2.out.kids
            go_wp2_with fail
            refine hpa.mono ?_
            rintro e3 w3 ⟨rfl, hb3⟩
            have HI3 := hideT (HI2.out.below hb3)
            clear hpa hb3 tc0 tc1 tc2 tc3 tc4 tc5 tc6 tc7 tc8 tf0 tf1 tf2 tf3 tf4 tf5 tf6 tf7 tf8
            obtain ⟨tc0, tf0⟩ := HI3.out.tb.cell 0 _ rfl
            obtain ⟨tc1, tf1⟩ := HI3.out.tb.cell 1 _ rfl
            obtain ⟨tc2, tf2⟩ := HI3.out.tb.cell 2 _ rfl
            obtain ⟨tc3, tf3⟩ := HI3.out.tb.cell 3 _ rfl
            obtain ⟨tc4, tf4⟩ := HI3.out.tb.cell 4 _ rfl
            obtain ⟨tc5, tf5⟩ := HI3.out.tb.cell 5 _ rfl
            obtain ⟨tc6, tf6⟩ := HI3.out.tb.cell 6 _ rfl
            obtain ⟨tc7, tf7⟩ := HI3.out.tb.cell 7 _ rfl
            obtain ⟨tc8, tf8⟩ := HI3.out.tb.cell 8 _ rfl
            have hlt3 := HI3.out.tb.lt
            go_upto_region 16 with fail
            obtain ⟨W4, hW4⟩ : ∃ W4, W4 = (((((((((w3.setCell ⟨w.heap.size, 0, none⟩ (.int .i64 5)).setCell ⟨w.heap.size, 1, none⟩ (.int .u64 0)).setCell ⟨w.heap.size, 2, none⟩ (.int .u64 0)).setCell ⟨w.heap.size, 3, none⟩ (.int .u64 0)).setCell ⟨w.heap.size, 4, none⟩ (.int .u64 0)).setCell ⟨w.heap.size, 5, none⟩ (.int .i64 ivl)).setCell ⟨w.heap.size, 6, none⟩ (.int .i64 ivh)).setCell ⟨w.heap.size, 7, none⟩ (.int .i64 0)).setCell ⟨w.heap.size, 8, none⟩ (.slice (some ⟨w3.heap.size, 0, none⟩) 1 1)).alloc (.cells #[.int .i64 (t.kind : Nat), .int .u64 (wd t.q 0 : Nat), .int .u64 (wd t.q 1 : Nat), .int .u64 (wd t.q 2 : Nat), .int .u64 (wd t.q 3 : Nat), .int .i64 t.lo, .int .i64 t.hi, .int .i64 (t.grp : Nat), (.slice ua t.kids.length uc)] 27) := ⟨_, rfl⟩
            have HI4 : Hid (RI s b w ok W4 ({ r with pos := q } : Rd) (repT ivl ivh t) (.slice (some ⟨w3.heap.size, 0, none⟩) 1 1)) := by rw [hW4]; exact HI3.out.wrap ivl ivh
            rw [← hW4]
            clear hW4 hlt3 tc0 tc1 tc2 tc3 tc4 tc5 tc6 tc7 tc8 tf0 tf1 tf2 tf3 tf4 tf5 tf6 tf7 tf8
            obtain ⟨tc0, _⟩ := HI4.out.tb.cell 0 _ rfl
            have tc1 : W4.cell? ⟨w.heap.size, 1, none⟩ = some (.int .u64 0) := (HI4.out.tb.cell 1 _ rfl).1
            have tc2 : W4.cell? ⟨w.heap.size, 2, none⟩ = some (.int .u64 0) := (HI4.out.tb.cell 2 _ rfl).1
            have tc3 : W4.cell? ⟨w.heap.size, 3, none⟩ = some (.int .u64 0) := (HI4.out.tb.cell 3 _ rfl).1
            have tc4 : W4.cell? ⟨w.heap.size, 4, none⟩ = some (.int .u64 0) := (HI4.out.tb.cell 4 _ rfl).1
            have tc5 : W4.cell? ⟨w.heap.size, 5, none⟩ = some (.int .i64 ivl) := (HI4.out.tb.cell 5 _ rfl).1
            have tc6 : W4.cell? ⟨w.heap.size, 6, none⟩ = some (.int .i64 ivh) := (HI4.out.tb.cell 6 _ rfl).1
            have tc7 : W4.cell? ⟨w.heap.size, 7, none⟩ = some (.int .i64 0) := (HI4.out.tb.cell 7 _ rfl).1
            have tc8 := (HI4.out.tb.cell 8 _ rfl).1
            have tc0 : W4.cell? ⟨w.heap.size, 0, none⟩ = some (.int .i64 5) := tc0
            have hpb := pos_repeat t HG.out.2.2 ivl ivh (by omega) (by omega) W4 _ _ 1 HI4.out.kids
            have hpm := posT_mul HG.out.2.2 ivl ivh (by omega) (by omega)
            have hps := (smallT_pos t HG.out.2.2)
            have kk : IntKind.i64.wrap (posT (repT ivl ivh t) - posT t) = posT (repT ivl ivh t) - posT t := by rw [IntKind.wrap_i64]; omega
            go_wp2_with fail
            refine hpb.mono ?_
            rintro e5 w5 ⟨rfl, hb5⟩
            have HI5 := hideT (HI4.out.below hb5)
            have hgr := grown_any s ({ r with pos := q } : Rd) b (posT (repT ivl ivh t) - posT t) r.pos (by omega) (by have h9 := HG.out.1; have h8 := h9.sim.z; have h7 := h9.sim.well.good.big; have h6 := h9.sim.well.good.bounds; show 0 ≤ r.size ∧ r.size ≤ 1000000000; omega) w5 HI5.out.rd
            clear hpb hb5 tc0 tc1 tc2 tc3 tc4 tc5 tc6 tc7 tc8
            go_wp2_with fail
            refine hgr.mono ?_
            rintro e6 w6 ⟨⟨v6, rfl⟩, hI6, hg6⟩
            have HI6 := hideT (HI5.out.step hg6 hI6)
            clear hgr hI6 hg6
            go_wp2
            exact ⟨⟨_, _, _, HI6, HS⟩, rd_less HI.out.rd HI6.out.rd (by rw [grow_pos]; show r.pos < q; omega) hlt⟩
end Go.Proofs.Ytgpciekpmdihnaa
/- bre: the document's reader beside the parser: single parts, groups. -/
namespace Go.Proofs.Ytgpciekpmdihnaa
open Go.RowKit
def Quiet (s : ByteArray) (k p : Nat) : Prop := repB k = true → seeB s ⟨#[42]⟩ p = false ∧ seeB s ⟨#[92, 123]⟩ p = false
def PL (s : ByteArray) (i k : Nat) (P : Ps) (ts : List Tr) (r : Rd) (t : Tr) : Prop :=
  Fails s i k P r ∨ ∃ P' k', Goes s i k P r P' k' (ts ++ [t]) ∧ ((t.kind = 2 ∨ t.kind = 3) → k' ≠ 4 ∧ Quiet s k' r.pos) ∧ (¬ (t.kind = 2 ∨ t.kind = 3) → repB k' = true)
theorem leaf_grown {s : ByteArray} (hs : s.size ≤ 512) {r : Rd} {P : Ps} {k : Nat} {ts : List Tr} (h : Sim s r P k) (hts : P.top.parts = ts) (hi : r.pos < s.size) {t : Tr} (hk : (tokenT s r.pos k).kind ≠ 4) (ht : P.take (tokenT s r.pos k) = (P.add t 1).grown) (h23 : ¬ (t.kind = 2 ∨ t.kind = 3)) (hrep : repB (tokenT s r.pos k).kind = true) :
    PL s r.pos k P ts (({ r with pos := (tokenT s r.pos k).to } : Rd).grow 1 r.pos) t := by
  have hz : (P.add t 1).size = r.size + 1 := by rw [h.z]; rfl
  rcases grow_cases ({ r with pos := (tokenT s r.pos k).to } : Rd) 1 r.pos h.e with ⟨g1, g2, g3⟩ | ⟨g1, g2⟩
  · refine .inl (fails_tok hi ?_ ?_ g3)
    · rw [ht]; show bigE (P.add t 1).size ≠ 0
      rw [hz]; unfold bigE; rw [if_pos g1]; decide
    · rw [g2, ht]; show (13 : Int) = bigE (P.add t 1).size
      rw [hz]; unfold bigE; rw [if_pos g1]
  · have h0 : (P.take (tokenT s r.pos k)).1 = 0 := by
      rw [ht]; show bigE (P.add t 1).size = 0
      rw [hz]; unfold bigE; rw [if_neg (by have : r.size + 1 ≤ 256 := g1; omega)]
    rw [g2]
    refine .inr ⟨_, _, goes_tok (r' := { ({ r with pos := (tokenT s r.pos k).to } : Rd) with size := r.size + 1 }) (ts := ts ++ [t]) hs h hi h0 hk (by rw [ht]; rfl) (by rw [ht, ← hts]; rfl) h.e rfl (by rw [ht]; exact h.g) (by rw [ht]; exact h.c) (by rw [ht]; exact hz.symm), fun h9 => absurd h9 h23, fun _ => hrep⟩
theorem leaf_byte {s : ByteArray} (hs : s.size ≤ 512) {r : Rd} {P : Ps} {k : Nat} {ts : List Tr} (h : Sim s r P k) (hts : P.top.parts = ts) (hi : r.pos < s.size) {to : Nat} {q : Nat → Bool} (ht : tokenT s r.pos k = ⟨1, r.pos, to, 0, q, 0, 0, 0⟩) :
    PL s r.pos k P ts (({ r with pos := to } : Rd).grow 1 r.pos) (byteT q) := by
  have := leaf_grown (t := byteT q) hs h hts hi (by rw [ht]; show (1 : Nat) ≠ 4; decide) (by rw [ht]; rfl) (by show ¬ ((1 : Nat) = 2 ∨ (1 : Nat) = 3); decide) (by rw [ht]; rfl)
  rw [ht] at this
  exact this
theorem leaf_back {s : ByteArray} (hs : s.size ≤ 512) {r : Rd} {P : Ps} {k : Nat} {ts : List Tr} (h : Sim s r P k) (hts : P.top.parts = ts) (hi : r.pos < s.size) {to g : Nat} (ht : tokenT s r.pos k = ⟨6, r.pos, to, 0, noneP, g, 0, 0⟩) (hg : r.shut g = true) :
    PL s r.pos k P ts (({ r with pos := to } : Rd).grow 1 r.pos) (backT g) := by
  have := leaf_grown (t := backT g) hs h hts hi (by rw [ht]; show (6 : Nat) ≠ 4; decide) (by rw [ht]; rw [h.c] at hg; simp only [Ps.take, hg, if_true]) (by show ¬ ((6 : Nat) = 2 ∨ (6 : Nat) = 3); decide) (by rw [ht]; rfl)
  rw [ht] at this
  exact this
theorem leaf_fault {s : ByteArray} {r r' : Rd} {P : Ps} {k : Nat} (hi : r.pos < s.size) {e : Int} (he : e ≠ 0) (ht : (P.take (tokenT s r.pos k)).1 = e) (h1 : r'.e = e) (h2 : r'.place = r.pos) : Fails s r.pos k P r' :=
  fails_tok hi (by rw [ht]; exact he) (by rw [ht]; exact h1) h2
theorem leaf_anchor {s : ByteArray} (hs : s.size ≤ 512) {r : Rd} {P : Ps} {k : Nat} {ts : List Tr} (h : Sim s r P k) (hts : P.top.parts = ts) (hi : r.pos < s.size) {t : Tr} (hk : (tokenT s r.pos k).kind ≠ 4) (ht : P.take (tokenT s r.pos k) = (P.add t 0).grown) (h23 : t.kind = 2 ∨ t.kind = 3) (hq : Quiet s (tokenT s r.pos k).kind (tokenT s r.pos k).to) :
    PL s r.pos k P ts ({ r with pos := (tokenT s r.pos k).to } : Rd) t := by
  have hz : (P.add t 0).size = r.size := by rw [h.z]; show P.size + 0 = P.size; omega
  have hb := h.well.good.big
  have h0 : (P.take (tokenT s r.pos k)).1 = 0 := by
    rw [ht]; show bigE (P.add t 0).size = 0
    rw [hz, h.z]; unfold bigE; rw [if_neg (by omega)]
  exact .inr ⟨_, _, goes_tok (r' := ({ r with pos := (tokenT s r.pos k).to } : Rd)) (ts := ts ++ [t]) hs h hi h0 hk (by rw [ht]; rfl) (by rw [ht, ← hts]; rfl) h.e rfl (by rw [ht]; exact h.g) (by rw [ht]; exact h.c) (by rw [ht]; exact hz.symm), fun _ => ⟨hk, hq⟩, fun h9 => absurd h23 h9⟩
theorem leaf_bol {s : ByteArray} (hs : s.size ≤ 512) {r : Rd} {P : Ps} {k : Nat} {ts : List Tr} (h : Sim s r P k) (hts : P.top.parts = ts) (hi : r.pos < s.size) (ht : tokenT s r.pos k = ⟨2, r.pos, r.pos + 1, 0, noneP, 0, 0, 0⟩) :
    PL s r.pos k P ts ({ r with pos := r.pos + 1 } : Rd) bolT := by
  have := leaf_anchor (t := bolT) hs h hts hi (by rw [ht]; show (2 : Nat) ≠ 4; decide) (by rw [ht]; rfl) (.inl rfl) (by rw [ht]; intro h9; cases h9)
  rw [ht] at this
  exact this
theorem shuts_quiet {s : ByteArray} {k p : Nat} (h : shuts s p = true) (hp : p ≤ s.size) : Quiet s k p := by
  intro _
  unfold shuts at h
  rw [Bool.or_eq_true] at h
  rcases h with h | h
  · have e : p = s.size := of_decide_eq_true h
    rw [see1, see2]
    exact ⟨decide_eq_false (fun h9 => by omega), decide_eq_false (fun h9 => by omega)⟩
  · have hp2 := List.isPrefixOf_iff_prefix.1 (show ([92, 41] : List UInt8).isPrefixOf (s.extract p s.size).data.toList = true from h)
    obtain ⟨l, hl⟩ := hp2
    rw [extract_drop] at hl
    have hlen := congrArg List.length hl
    simp only [List.length_append, List.length_cons, List.length_nil, List.length_drop] at hlen
    have h3 : s.data.toList.length = s.size := by simp
    have hi1 : p + 1 < s.size := by omega
    have hi : p < s.size := by omega
    rw [drop_consB s p hi, drop_consB s (p + 1) hi1] at hl
    have e1 : s[p] = 92 := by injection hl with a _; exact a.symm
    have e2 : s[p + 1] = 41 := by injection hl with _ b; injection b with b _; exact b.symm
    rw [see1, see2, byteAt_in hi, byteAt_in hi1, e1, e2]
    exact ⟨by simp, by simp⟩
theorem shuts_see {s : ByteArray} {p : Nat} (hp : p ≤ s.size) : shuts s p = (decide (p = s.size) || seeB s ⟨#[92, 41]⟩ p) := by
  unfold shuts
  rw [seeB_pre _ _ _ hp, extract_drop]
  rfl
theorem leaf_eol {s : ByteArray} (hs : s.size ≤ 512) {r : Rd} {P : Ps} {k : Nat} {ts : List Tr} (h : Sim s r P k) (hts : P.top.parts = ts) (hi : r.pos < s.size) (hsh : shuts s (r.pos + 1) = true) (ht : tokenT s r.pos k = ⟨3, r.pos, r.pos + 1, 0, noneP, 0, 0, 0⟩) :
    PL s r.pos k P ts ({ r with pos := r.pos + 1 } : Rd) eolT := by
  have := leaf_anchor (t := eolT) hs h hts hi (by rw [ht]; show (3 : Nat) ≠ 4; decide) (by rw [ht]; rfl) (.inr rfl) (by rw [ht]; exact shuts_quiet hsh (by show r.pos + 1 ≤ s.size; omega))
  rw [ht] at this
  exact this
theorem grow_keeps (r : Rd) (n : Int) (i : Nat) (h : r.e ≠ 0) : (r.grow n i).e = r.e ∧ (r.grow n i).place = r.place := by
  unfold Rd.grow
  split
  · unfold Rd.failed
    have h9 : ¬ ({ r with size := r.size + n } : Rd).e = 0 := h
    rw [if_neg h9]
    exact ⟨rfl, rfl⟩
  · exact ⟨rfl, rfl⟩
theorem esc_join {s : ByteArray} (hs : s.size ≤ 512) {r : Rd} {P : Ps} {k : Nat} {ts : List Tr} (h : Sim s r P k) (hts : P.top.parts = ts) (hi : r.pos < s.size) (hk : tokenT s r.pos k = tokenT s r.pos (if k = 4 then 4 else 2)) (h92 : byteAt s r.pos = 92)
    (n1 : seeB s ⟨#[92, 40]⟩ r.pos = false) (n2 : seeB s ⟨#[92, 41]⟩ r.pos = false) (n3 : seeB s ⟨#[92, 123]⟩ r.pos = false) (n4 : seeB s ⟨#[92, 125]⟩ r.pos = false) :
    ∃ t, leafV (escR s r).2.1 (escR s r).2.2.1 (escR s r).2.2.2 = nodeA t (.slice none 0 0) ∧ t.kids = [] ∧ PL s r.pos k P ts (escR s r).1 t := by
  have htk : tokenT s r.pos k = escapeT s r.pos (if k = 4 then 4 else 2) := by rw [hk]; unfold tokenT; rw [if_pos h92]
  have hrb : repB (if k = 4 then 4 else 2) = false := by split <;> rfl
  unfold escapeT at htk
  unfold escR
  by_cases he : r.pos + 1 = s.size
  · rw [if_pos he] at htk ⊢
    have hf := failed_e h.e 6 r.pos
    exact ⟨.mk 0 noneP 0 0 0 [], rfl, rfl, .inl (leaf_fault (e := 6) hi (by decide) (by rw [htk]; rfl) hf.1 hf.2)⟩
  · rw [if_neg he] at htk ⊢
    have hl : r.pos + 1 < s.size := by omega
    rw [see2] at n1 n2 n3 n4
    have m1 : ¬ byteAt s (r.pos + 1) = 40 := fun e => by simp [hl, h92, e] at n1
    have m2 : ¬ byteAt s (r.pos + 1) = 41 := fun e => by simp [hl, h92, e] at n2
    have m3 : ¬ byteAt s (r.pos + 1) = 123 := fun e => by simp [hl, h92, e] at n3
    have m4 : ¬ byteAt s (r.pos + 1) = 125 := fun e => by simp [hl, h92, e] at n4
    have hb0 : 0 ≤ byteAt s (r.pos + 1) := by rw [byteAt_in hl]; omega
    obtain ⟨b, hb⟩ : ∃ b : Nat, byteAt s (r.pos + 1) = (b : Int) := ⟨(byteAt s (r.pos + 1)).toNat, by omega⟩
    rw [hb] at htk m1 m2 m3 m4 ⊢
    rw [Int.toNat_natCast] at htk ⊢
    unfold escB at htk
    rw [if_neg (by omega), if_neg (by omega), if_neg (by omega), if_neg (by omega)] at htk
    by_cases c1 : b = 110
    · subst c1
      rw [if_pos rfl] at htk
      rw [if_pos (show ((110 : Nat) : Int) = 110 by decide)]
      exact ⟨byteT (selfP 10), rfl, rfl, leaf_byte hs h hts hi htk⟩
    · rw [if_neg c1] at htk
      rw [if_neg (show ¬ (b : Int) = 110 by omega)]
      by_cases c2 : 49 ≤ (b : Int) ∧ (b : Int) ≤ 57
      · rw [if_pos ⟨by omega, by simp [digB]; omega⟩] at htk
        rw [if_pos c2]
        have hg : ((b : Int) - 48) = ((b - 48 : Nat) : Int) := by omega
        cases hsh : r.shut (b - 48) with
        | true =>
          simp only [if_true]
          exact ⟨backT (b - 48), by rw [hg]; rfl, rfl, leaf_back hs h hts hi htk hsh⟩
        | false =>
          simp only [Bool.false_eq_true, if_false]
          have hf := failed_e (r := ({ r with pos := r.pos + 2 } : Rd)) h.e 11 r.pos
          refine ⟨backT (b - 48), by rw [hg]; rfl, rfl, .inl (leaf_fault (e := 11) hi (by decide) ?_ ?_ ?_)⟩
          · rw [htk]; rw [h.c] at hsh; simp [Ps.take, hsh]
          · exact (grow_keeps _ 1 r.pos (by rw [hf.1]; decide)).1.trans hf.1
          · exact (grow_keeps _ 1 r.pos (by rw [hf.1]; decide)).2.trans hf.2
      · rw [if_neg (by simp [digB]; omega)] at htk
        rw [if_neg c2]
        by_cases c3 : (b : Int) = 48 ∨ letB (b : Int) = true
        · rw [if_pos (by rcases c3 with c3 | c3; · left; simp [digB]; omega
                         · right; exact c3)] at htk
          rw [if_pos c3]
          have hf := failed_e (r := ({ r with pos := r.pos + 2 } : Rd)) h.e 12 r.pos
          refine ⟨byteT (selfP b), rfl, rfl, .inl (leaf_fault (e := 12) hi (by decide) (by rw [htk]; rfl) ?_ ?_)⟩
          · exact (grow_keeps _ 1 r.pos (by rw [hf.1]; decide)).1.trans hf.1
          · exact (grow_keeps _ 1 r.pos (by rw [hf.1]; decide)).2.trans hf.2
        · rw [if_neg (by rintro (c4 | c4); · simp [digB] at c4; omega
                         · exact c3 (.inr c4))] at htk
          rw [if_neg c3]
          exact ⟨byteT (selfP b), rfl, rfl, leaf_byte hs h hts hi htk⟩
end Go.Proofs.Ytgpciekpmdihnaa
