/- bre: shaped: what its walks want. -/
import Derived.Test.YtemgfbidfdhanaaDoorKQf
import Derived.Deep.RegionWith
import Derived.Deep.Cut
namespace Go.Proofs.YtemgfbidfdhanaaDoor
open Go.RowKit

/-- Ten bools. -/
abbrev boolsA (c : Nat → Bool) : Array Value := #[.bool (c 0), .bool (c 1), .bool (c 2), .bool (c 3), .bool (c 4), .bool (c 5), .bool (c 6), .bool (c 7), .bool (c 8), .bool (c 9)]

/-- What shaped answers. -/
abbrev shA (s : Sh) : Ending := .returned (.tuple #[.int .i64 (s.1 : Nat), .agg (boolsA s.2), .bool true])

theorem eql_zero (w : World) : (binOp .eql 24 (.agg #[.int .u64 0, .int .u64 0, .int .u64 0, .int .u64 0]) (.agg #[.int .u64 0, .int .u64 0, .int .u64 0, .int .u64 0])).run Tryd.prog w = .ok (.bool true) w := by
  rw [run_eql_words]; rfl

/-- Ten bools written. -/
abbrev put10 (W : World) (b : Nat) (c : Nat → Bool) : World := ((((((((((W.setCell ⟨b, 0, none⟩ (.bool (c 0))).setCell ⟨b, 1, none⟩ (.bool (c 1))).setCell ⟨b, 2, none⟩ (.bool (c 2))).setCell ⟨b, 3, none⟩ (.bool (c 3))).setCell ⟨b, 4, none⟩ (.bool (c 4))).setCell ⟨b, 5, none⟩ (.bool (c 5))).setCell ⟨b, 6, none⟩ (.bool (c 6))).setCell ⟨b, 7, none⟩ (.bool (c 7))).setCell ⟨b, 8, none⟩ (.bool (c 8))).setCell ⟨b, 9, none⟩ (.bool (c 9)))
theorem put10_at {W : World} {b : Nat} {c0 : Nat → Bool} (c : Nat → Bool) (h : W.heap[b]? = some (.cells (boolsA c0) 52 (0, 0))) : (put10 W b c).heap[b]? = some (.cells (boolsA c) 52 (0, 0)) := by
  have h0 := put_same W b 0 (.bool (c 0)) h
  have h1 := put_same _ b 1 (.bool (c 1)) h0
  have h2 := put_same _ b 2 (.bool (c 2)) h1
  have h3 := put_same _ b 3 (.bool (c 3)) h2
  have h4 := put_same _ b 4 (.bool (c 4)) h3
  have h5 := put_same _ b 5 (.bool (c 5)) h4
  have h6 := put_same _ b 6 (.bool (c 6)) h5
  have h7 := put_same _ b 7 (.bool (c 7)) h6
  have h8 := put_same _ b 8 (.bool (c 8)) h7
  have h9 := put_same _ b 9 (.bool (c 9)) h8
  exact h9.trans (by simp)
theorem put10_far (W : World) {b : Nat} (c : Nat → Bool) {j : Nat} (h : j ≠ b) : (put10 W b c).heap[j]? = W.heap[j]? := by
  exact (put_far _ b 9 _ h).trans ((put_far _ b 8 _ h).trans ((put_far _ b 7 _ h).trans ((put_far _ b 6 _ h).trans ((put_far _ b 5 _ h).trans ((put_far _ b 4 _ h).trans ((put_far _ b 3 _ h).trans ((put_far _ b 2 _ h).trans ((put_far _ b 1 _ h).trans (put_far _ b 0 _ h)))))))))
theorem put10_below {B : Nat} {a W : World} (h : Below B a W) {b : Nat} (hb : B ≤ b) (c : Nat → Bool) : Below B a (put10 W b c) :=
  ((((((((((h.setCell (p := ⟨b, 0, none⟩) hb _).setCell (p := ⟨b, 1, none⟩) hb _).setCell (p := ⟨b, 2, none⟩) hb _).setCell (p := ⟨b, 3, none⟩) hb _).setCell (p := ⟨b, 4, none⟩) hb _).setCell (p := ⟨b, 5, none⟩) hb _).setCell (p := ⟨b, 6, none⟩) hb _).setCell (p := ⟨b, 7, none⟩) hb _).setCell (p := ⟨b, 8, none⟩) hb _).setCell (p := ⟨b, 9, none⟩) hb _)

theorem drew_heap (V : World) : V.drew.heap = V.heap := rfl
theorem put10_drew {W : World} {b : Nat} {c0 : Nat → Bool} (c : Nat → Bool) (h : W.heap[b]? = some (.cells (boolsA c0) 52 (0, 0))) : (put10 W b c).drew.heap[b]? = some (.cells (boolsA c) 52 (0, 0)) := by
  rw [drew_heap]; exact put10_at c h
theorem put10c {W : World} {b : Nat} (h : W.heap[b]? = some (.cells #[.bool false, .bool false, .bool false, .bool false, .bool false, .bool false, .bool false, .bool false, .bool false, .bool false] 52 (0, 0))) : W.heap[b]? = some (.cells (boolsA fun _ => false) 52 (0, 0)) := h

/-- One of ten bools set. -/
theorem bools_shut (s : Sh) (g : Nat) (hg : g ≤ 9) : (boolsA s.2).setIfInBounds g (.bool true) = boolsA (s.shut g).2 := by
  have : g = 0 ∨ g = 1 ∨ g = 2 ∨ g = 3 ∨ g = 4 ∨ g = 5 ∨ g = 6 ∨ g = 7 ∨ g = 8 ∨ g = 9 := by omega
  rcases this with rfl | rfl | rfl | rfl | rfl | rfl | rfl | rfl | rfl | rfl <;> simp [Sh.shut]
theorem bools_get (c : Nat → Bool) (g : Nat) (hg : g ≤ 9) : (boolsA c)[g]? = some (.bool (c g)) := by
  have : g = 0 ∨ g = 1 ∨ g = 2 ∨ g = 3 ∨ g = 4 ∨ g = 5 ∨ g = 6 ∨ g = 7 ∨ g = 8 ∨ g = 9 := by omega
  rcases this with rfl | rfl | rfl | rfl | rfl | rfl | rfl | rfl | rfl | rfl <;> rfl
end Go.Proofs.YtemgfbidfdhanaaDoor

/- BreShapes: the place of a fault; a text that is too long; the tree that is nothing. -/
namespace Go.Proofs.YtemgfbidfdhanaaDoor
open Go.RowKit

/-- Every level begins within the text. -/
def AllPos (P : Ps) (n : Nat) : Prop := ∀ l, l ∈ P.outer ++ [P.top] → l.pos ≤ n
theorem allPos_of {P Q : Ps} {n : Nat} (ho : Q.outer = P.outer) (ht : Q.top.pos = P.top.pos) (h : AllPos P n) : AllPos Q n := by
  intro l hl
  rw [ho] at hl
  rcases List.mem_append.1 hl with hl | hl
  · exact h l (List.mem_append_left _ hl)
  · rw [List.mem_singleton.1 hl, ht]; exact h P.top (by simp)
theorem grown_snd (P : Ps) : P.grown.2 = P := by
  unfold Ps.grown
  first | rfl | (split <;> rfl)
theorem pos_take {P : Ps} {n : Nat} (h : AllPos P n) (t : Tk) (hf : t.fr ≤ n) : AllPos (P.take t).2 n := by
  unfold Ps.take
  split
  · exact h
  · rw [grown_snd]; exact allPos_of (P := P) rfl rfl h
  · rw [grown_snd]; exact allPos_of (P := P) rfl rfl h
  · rw [grown_snd]; exact allPos_of (P := P) rfl rfl h
  · split
    · exact h
    · intro l hl
      have hl' : l ∈ (P.outer ++ [P.top]) ++ [⟨t.fr, P.groups + 1, P.size, []⟩] := hl
      rcases List.mem_append.1 hl' with hl | hl
      · exact h l hl
      · rw [List.mem_singleton.1 hl]; exact hf
  · split
    · exact h
    · rename_i l0 hl0
      have hne : P.outer = P.outer.dropLast ++ [l0] := by
        obtain ⟨ys, hys⟩ := List.getLast?_eq_some_iff.1 hl0
        rw [hys, List.dropLast_concat]
      have h0 : l0.pos ≤ n := h l0 (List.mem_append_left _ (by rw [hne]; simp))
      intro l hl
      rcases List.mem_append.1 hl with hl | hl
      · have hl' : l ∈ P.outer.dropLast := hl
        exact h l (List.mem_append_left _ (List.dropLast_subset _ hl'))
      · rw [List.mem_singleton.1 hl]; exact h0
  · split
    · rw [grown_snd]; exact allPos_of (P := P) rfl rfl h
    · exact h
  · split
    · exact h
    · rw [grown_snd]; exact allPos_of (P := P) rfl rfl h

theorem run_place (s : ByteArray) : ∀ (f i k : Nat) (P : Ps), AllPos P s.size → (∀ e p, runT s f i k P = .error (e, p) → e ≠ 0 ∧ p ≤ s.size) ∧ (∀ Q, runT s f i k P = .ok Q → AllPos Q s.size)
  | 0, i, k, P, h => ⟨(fun e p hr => by rw [runT] at hr; cases hr), (fun Q hr => by rw [runT] at hr; cases hr; exact h)⟩
  | f + 1, i, k, P, h => by
    rw [runT]
    by_cases hlt : i < s.size
    · rw [if_pos hlt]
      by_cases h0 : (P.take (tokenT s i k)).1 = 0
      · rw [if_pos h0]
        exact run_place s f _ _ _ (pos_take h _ (by rw [(tokAt_token s i k hlt).fr]; omega))
      · rw [if_neg h0]
        exact ⟨(fun e p hr => by cases hr; exact ⟨h0, by omega⟩), (fun Q hr => by cases hr)⟩
    · rw [if_neg hlt]
      exact ⟨(fun e p hr => by cases hr), (fun Q hr => by cases hr; exact h)⟩

/-- A fault is one, and lies within the text or at its end. -/
theorem parse_place (s : ByteArray) (e : Int) (p : Nat) (h : parseT s = .error (e, p)) : e ≠ 0 ∧ p ≤ s.size := by
  have hst : AllPos Ps.start s.size := fun l hl => by
    have hl' : l = ⟨0, 0, 0, []⟩ := by simpa [Ps.start] using hl
    rw [hl']; exact Nat.zero_le _
  have hr := run_place s (s.size + 1) 0 4 Ps.start hst
  unfold parseT at h
  split at h
  · cases h; exact ⟨by decide, Nat.zero_le _⟩
  · split at h
    · rename_i x hx
      cases h
      exact hr.1 _ _ hx
    · rename_i Q hx
      split at h
      · cases h
      · cases h
        exact ⟨by decide, hr.2 _ hx _ (by simp)⟩

set_option maxRecDepth 100000 in
set_option maxHeartbeats 400000 in
theorem parse_over (s : ByteArray) (hl : 512 < s.size) (w : World) :
    Calls Tryd.prog 4 #[.string s] w fun e w' => e = .returned (.tuple #[.agg #[.int .i64 0, .int .u64 0, .int .u64 0, .int .u64 0, .int .u64 0, .int .i64 0, .int .i64 0, .int .i64 0, .slice none 0 0], .agg #[.int .i64 2, .int .i64 0]]) ∧ Below w.heap.size w w' := by
  have k1 : (512 : Int) < (s.size : Int) := by omega
  go_enter Tryd.func4, Tryd.ntmps4
  go_wp2
  exact bodyPost_ret (v := .tuple #[.agg #[.int .i64 0, .int .u64 0, .int .u64 0, .int .u64 0, .int .u64 0, .int .i64 0, .int .i64 0, .int .i64 0, .slice none 0 0], .agg #[.int .i64 2, .int .i64 0]]) (by simp [results, Tryd.results4, go_sem]) rfl ⟨rfl, ((Below.refl _ _).alloc (Nat.le_refl _) _).alloc (by simp) _⟩

/-- A fault, at a text of any length. -/
theorem parse_fault (s : ByteArray) (er : Int) (p : Nat) (ht : parseT s = .error (er, p)) (w : World) (hg : Glob w) :
    Calls Tryd.prog 4 #[.string s] w fun e w' => e = .returned (.tuple #[.agg #[.int .i64 0, .int .u64 0, .int .u64 0, .int .u64 0, .int .u64 0, .int .i64 0, .int .i64 0, .int .i64 0, .slice none 0 0], .agg #[.int .i64 er, .int .i64 (p : Nat)]]) ∧ Below w.heap.size w w' := by
  by_cases h : s.size ≤ 512
  · exact parse_err s (by omega) er p ht w hg
  · unfold parseT at ht
    rw [if_pos (by omega)] at ht
    cases ht
    exact parse_over s (by omega) w

theorem neq_zero (w : World) : (binOp .neq 24 (.agg #[.int .u64 0, .int .u64 0, .int .u64 0, .int .u64 0]) (.agg #[.int .u64 0, .int .u64 0, .int .u64 0, .int .u64 0])).run Tryd.prog w = .ok (.bool false) w := by
  have h := run_neq_set noneP noneP w
  have e : ∀ i, wd noneP i = 0 := fun i => wd_none i
  rw [e, e, e, e] at h
  rw [show eqB noneP noneP = true by simp [eqB]] at h
  exact h
end Go.Proofs.YtemgfbidfdhanaaDoor
