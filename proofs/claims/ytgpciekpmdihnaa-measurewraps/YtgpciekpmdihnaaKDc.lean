/- bre: the document's reader beside the parser: what both come to. -/
import Derived.Test.YtgpciekpmdihnaaKQf
import Derived.Test.YtgpciekpmdihnaaKRm
namespace Go.Proofs.Ytgpciekpmdihnaa
open Go.RowKit
theorem take_kind {s : ByteArray} {P : Ps} {i k : Nat} (hi : i < s.size) (h0 : (P.take (tokenT s i k)).1 = 0) : (tokenT s i k).kind ≠ 0 ∧ i < (tokenT s i k).to ∧ (tokenT s i k).to ≤ s.size := by
  have hta := tokAt_token s i k hi
  have hk : (tokenT s i k).kind ≠ 0 := fun e => by
    have h9 : (P.take (tokenT s i k)).1 = (tokenT s i k).e := by simp only [Ps.take, e]
    rw [h0] at h9
    exact hta.fault e h9.symm
  exact ⟨hk, hta.next hk⟩
theorem runT_far (s : ByteArray) (f i k : Nat) (P : Ps) (hi : s.size ≤ i) : runT s f i k P = .ok P := by
  cases f with
  | zero => rfl
  | succ f => rw [runT, if_neg (by omega)]
theorem runT_fuel (s : ByteArray) : ∀ (f g i k : Nat) (P : Ps), s.size + 1 - i ≤ f → s.size + 1 - i ≤ g → runT s f i k P = runT s g i k P
  | 0, g, i, k, P, h1, h2 => by rw [runT_far s 0 i k P (by omega), runT_far s g i k P (by omega)]
  | f + 1, 0, i, k, P, h1, h2 => by rw [runT_far s _ i k P (by omega), runT_far s 0 i k P (by omega)]
  | f + 1, g + 1, i, k, P, h1, h2 => by
    rw [runT, runT]
    by_cases hi : i < s.size
    · rw [if_pos hi, if_pos hi]
      by_cases h0 : (P.take (tokenT s i k)).1 = 0
      · rw [if_pos h0, if_pos h0]
        have := take_kind hi h0
        exact runT_fuel s f g _ _ _ (by omega) (by omega)
      · rw [if_neg h0, if_neg h0]
    · rw [if_neg hi, if_neg hi]
noncomputable def runA (s : ByteArray) (i k : Nat) (P : Ps) : Except (Int × Nat) Ps := runT s (s.size + 1 - i) i k P
def finT (x : Except (Int × Nat) Ps) : Except (Int × Nat) (List Tr) :=
  match x with
  | .error x => .error x
  | .ok P => if P.outer.length = 0 then .ok P.top.parts else .error (10, P.top.pos)
theorem parseT_run (s : ByteArray) (hs : s.size ≤ 512) : parseT s = finT (runA s 0 4 Ps.start) := by
  unfold parseT finT runA
  rw [if_neg (by omega)]
  rfl
theorem runA_end (s : ByteArray) (i k : Nat) (P : Ps) (h : s.size ≤ i) : runA s i k P = .ok P := runT_far s _ i k P h
theorem runA_step {s : ByteArray} {i k : Nat} {P : Ps} (hi : i < s.size) (h0 : (P.take (tokenT s i k)).1 = 0) : runA s i k P = runA s (tokenT s i k).to (tokenT s i k).kind (P.take (tokenT s i k)).2 := by
  have h1 := take_kind hi h0
  unfold runA
  rw [show s.size + 1 - i = (s.size - i) + 1 by omega, runT, if_pos hi, if_pos h0]
  exact runT_fuel s _ _ _ _ _ (by omega) (by omega)
theorem runA_err {s : ByteArray} {i k : Nat} {P : Ps} (hi : i < s.size) (h0 : (P.take (tokenT s i k)).1 ≠ 0) : runA s i k P = .error ((P.take (tokenT s i k)).1, i) := by
  unfold runA
  rw [show s.size + 1 - i = (s.size - i) + 1 by omega, runT, if_pos hi, if_neg h0]
structure Sim (s : ByteArray) (r : Rd) (P : Ps) (k : Nat) : Prop where
  e : r.e = 0
  g : r.groups = P.groups
  c : r.shut = P.shut
  z : r.size = P.size
  le : r.pos ≤ s.size
  well : Well P k r.pos
  one : k = 4 → P.top.parts = []
structure Fails (s : ByteArray) (i k : Nat) (P : Ps) (r : Rd) : Prop where
  e : r.e ≠ 0
  run : finT (runA s i k P) = .error (r.e, r.place)
structure Goes (s : ByteArray) (i k : Nat) (P : Ps) (r' : Rd) (P' : Ps) (k' : Nat) (ts : List Tr) : Prop where
  sim : Sim s r' P' k'
  run : runA s i k P = runA s r'.pos k' P'
  outer : P'.outer = P.outer
  top : P'.top = { P.top with parts := ts }
  on : i ≤ r'.pos
theorem Fails.keep {s : ByteArray} {i k : Nat} {P : Ps} {r r' : Rd} (h : Fails s i k P r) (h1 : r'.e = r.e) (h2 : r'.place = r.place) : Fails s i k P r' := ⟨by rw [h1]; exact h.e, by rw [h1, h2]; exact h.run⟩
theorem Goes.fails {s : ByteArray} {i k k1 : Nat} {P P1 : Ps} {r1 r' : Rd} {ts : List Tr} (h : Goes s i k P r1 P1 k1 ts) (h2 : Fails s r1.pos k1 P1 r') : Fails s i k P r' := ⟨h2.e, by rw [h.run]; exact h2.run⟩
theorem Goes.trans {s : ByteArray} {i k k1 k2 : Nat} {P P1 P2 : Ps} {r1 r2 : Rd} {ts us : List Tr} (h : Goes s i k P r1 P1 k1 ts) (h2 : Goes s r1.pos k1 P1 r2 P2 k2 us) : Goes s i k P r2 P2 k2 us :=
  ⟨h2.sim, h.run.trans h2.run, h2.outer.trans h.outer, by rw [h2.top, h.top], Nat.le_trans h.on h2.on⟩
theorem Goes.start {s : ByteArray} {k : Nat} {P : Ps} {r : Rd} (h : Sim s r P k) : Goes s r.pos k P r P k P.top.parts := ⟨h, rfl, rfl, rfl, Nat.le_refl _⟩
end Go.Proofs.Ytgpciekpmdihnaa
