/- store, pure: files in a list that is kept in the order of their names, what was printed, how much was written. -/
import Derived.Test.YtbibfpgcnmocjaaSn
namespace Go.Proofs.Ytbibfpgcnmocjaa
open Go.RowKit

structure Fl where
  data : List UInt8
  op : Bool
abbrev Fs := List (List UInt8 × Fl)
structure Sr where
  fs : Fs
  out : List UInt8
  wr : Nat
def look : Fs → List UInt8 → Option Fl
  | [], _ => none
  | x :: r, n => if x.1 = n then some x.2 else look r n
def setF : Fs → List UInt8 → Fl → Fs
  | [], _, _ => []
  | x :: r, n, f => if x.1 = n then (n, f) :: r else x :: setF r n f
def insF : Fs → List UInt8 → Fl → Fs
  | [], n, f => [(n, f)]
  | x :: r, n, f => if n < x.1 then (n, f) :: x :: r else x :: insF r n f
def Ris (l : Fs) : Prop := (l.map (·.1)).Pairwise (· < ·)
theorem look_set (n : List UInt8) (f : Fl) (m : List UInt8) : ∀ l : Fs, look (setF l n f) m = if m = n then (look l n).map (fun _ => f) else look l m
  | [] => by unfold setF look; split <;> rfl
  | x :: r => by
    have ih := look_set n f m r
    unfold setF
    by_cases h : x.1 = n
    · rw [if_pos h]
      by_cases e : m = n
      · subst e
        simp [look, h]
      · have e' : ¬ n = m := fun h => e h.symm
        rw [if_neg e]
        simp [look, h, e']
    · rw [if_neg h]
      by_cases e : m = n
      · subst e
        rw [if_pos rfl] at ih ⊢
        simp [look, h, ih]
      · rw [if_neg e] at ih ⊢
        simp only [look]
        rw [ih]
theorem look_ins (n : List UInt8) (f : Fl) (m : List UInt8) : ∀ l : Fs, look l n = none → look (insF l n f) m = if m = n then some f else look l m
  | [], _ => by
    unfold insF
    by_cases e : m = n
    · simp [look, e]
    · have e' : ¬ n = m := fun h => e h.symm
      simp [look, e, e']
  | x :: r, h => by
    have hx : ¬ x.1 = n := fun e => by simp [look, e] at h
    have hr : look r n = none := by simpa [look, hx] using h
    have ih := look_ins n f m r hr
    unfold insF
    split
    · by_cases e : m = n
      · simp [look, e]
      · have e' : ¬ n = m := fun h => e h.symm
        rw [if_neg e]
        simp [look, e']
    · by_cases e : m = n
      · subst e
        rw [if_pos rfl] at ih ⊢
        simp [look, hx, ih]
      · rw [if_neg e] at ih ⊢
        simp only [look]
        rw [ih]
theorem set_same {n : List UInt8} {f : Fl} : ∀ {l : Fs}, look l n = some f → setF l n f = l
  | [], h => by cases h
  | x :: r, h => by
    unfold setF
    by_cases e : x.1 = n
    · rw [if_pos e]
      have : x.2 = f := by simpa [look, e] using h
      rw [← e, ← this]
    · rw [if_neg e, set_same (l := r) (by simpa [look, e] using h)]
theorem len_set (n : List UInt8) (f : Fl) : ∀ l : Fs, (setF l n f).length = l.length
  | [] => rfl
  | x :: r => by
    unfold setF
    split
    · simp
    · simp [len_set n f r]
theorem len_ins (n : List UInt8) (f : Fl) : ∀ l : Fs, (insF l n f).length = l.length + 1
  | [] => rfl
  | x :: r => by
    unfold insF
    split
    · simp
    · simp [len_ins n f r]
theorem names_set (n : List UInt8) (f : Fl) : ∀ l : Fs, (setF l n f).map (·.1) = l.map (·.1)
  | [] => rfl
  | x :: r => by
    unfold setF
    split
    · rename_i h
      simp [h]
    · simp [names_set n f r]
theorem ris_set {l : Fs} (h : Ris l) (n : List UInt8) (f : Fl) : Ris (setF l n f) := by
  unfold Ris
  rw [names_set]
  exact h
theorem mem_ins (n : List UInt8) (f : Fl) (m : List UInt8) : ∀ l : Fs, m ∈ (insF l n f).map (·.1) → m = n ∨ m ∈ l.map (·.1)
  | [], h => by simpa [insF] using h
  | x :: r, h => by
    unfold insF at h
    split at h
    · simpa using h
    · simp only [List.map_cons, List.mem_cons] at h ⊢
      rcases h with h | h
      · exact .inr (.inl h)
      · rcases mem_ins n f m r h with h | h
        · exact .inl h
        · exact .inr (.inr h)
theorem lt_tri {a b : List UInt8} (h : ¬ a < b) (hne : ¬ b = a) : b < a := by
  rcases List.le_total a b with h1 | h1
  · rcases List.le_iff_lt_or_eq.1 h1 with h2 | h2
    · exact absurd h2 h
    · exact absurd h2.symm hne
  · rcases List.le_iff_lt_or_eq.1 h1 with h2 | h2
    · exact h2
    · exact absurd h2 hne
theorem ris_ins (n : List UInt8) (f : Fl) : ∀ l : Fs, Ris l → look l n = none → Ris (insF l n f)
  | [], _, _ => by simp [insF, Ris]
  | x :: r, h, hl => by
    have hx : ¬ x.1 = n := fun e => by simp [look, e] at hl
    have hr : look r n = none := by simpa [look, hx] using hl
    unfold Ris at h ⊢
    simp only [List.map_cons, List.pairwise_cons] at h
    unfold insF
    split
    · rename_i hlt
      simp only [List.map_cons, List.pairwise_cons]
      refine ⟨fun m hm => ?_, h⟩
      rcases List.mem_cons.1 hm with rfl | hm
      · exact hlt
      · exact List.lt_trans hlt (h.1 m hm)
    · rename_i hlt
      simp only [List.map_cons, List.pairwise_cons]
      refine ⟨fun m hm => ?_, ris_ins n f r h.2 hr⟩
      rcases mem_ins n f m r hm with rfl | hm
      · exact lt_tri hlt hx
      · exact h.1 m hm
theorem look_mem {n : List UInt8} : ∀ {l : Fs}, (look l n).isSome = true ↔ n ∈ l.map (·.1)
  | [] => by simp [look]
  | x :: r => by
    by_cases h : x.1 = n
    · simp [look, h]
    · have h' : ¬ n = x.1 := fun e => h e.symm
      have ih := look_mem (n := n) (l := r)
      simp [look, h, h', ih]

def openE (S : Sr) (n : List UInt8) : Nat := if nameB n = false then 3 else if (look S.fs n).isSome then 0 else if 16 ≤ S.fs.length then 4 else 0
def Sr.openS (S : Sr) (n : List UInt8) : Sr := if openE S n = 0 then ⟨if (look S.fs n).isSome then setF S.fs n ⟨[], true⟩ else insF S.fs n ⟨[], true⟩, S.out, S.wr⟩ else S
def printE (S : Sr) (t : List UInt8) : Nat := if 32768 < S.wr + t.length then 16 else 0
def Sr.print (S : Sr) (t : List UInt8) : Sr := if printE S t = 0 then ⟨S.fs, S.out ++ t, S.wr + t.length⟩ else S
def writeE (S : Sr) (n t : List UInt8) : Nat := match look S.fs n with | none => 5 | some f => if f.op = false then 5 else printE S t
def Sr.write (S : Sr) (n t : List UInt8) : Sr := match look S.fs n with | none => S | some f => if writeE S n t = 0 then ⟨setF S.fs n ⟨f.data ++ t, f.op⟩, S.out, S.wr + t.length⟩ else S
def readD (S : Sr) (n : List UInt8) : List UInt8 := match look S.fs n with | none => [] | some f => f.data
theorem nameB_len {n : List UInt8} (h : nameB n = true) : n.length ≤ 64 := by
  unfold nameB at h
  simp only [Bool.and_eq_true, decide_eq_true_eq] at h
  exact h.1.2
/-- What holds of every store that is reached. -/
structure SOk (S : Sr) : Prop where
  wr : S.wr ≤ 32768
  out : S.out.length ≤ S.wr
  len : S.fs.length ≤ 16
  dat : ∀ n f, look S.fs n = some f → f.data.length ≤ 32768 + S.wr
  nam : ∀ n, n ∈ S.fs.map (·.1) → n.length ≤ 64
theorem SOk.openS {S : Sr} (h : SOk S) (n : List UInt8) : SOk (S.openS n) := by
  unfold Sr.openS
  split
  · rename_i h0
    refine ⟨h.wr, h.out, ?_, ?_, ?_⟩
    · show (if (look S.fs n).isSome then setF S.fs n ⟨[], true⟩ else insF S.fs n ⟨[], true⟩).length ≤ 16
      split
      · rw [len_set]
        exact h.len
      · rename_i h1
        rw [len_ins]
        unfold openE at h0
        rw [if_neg h1] at h0
        split at h0
        · cases h0
        · split at h0
          · cases h0
          · omega
    · intro m f hm
      have hm' : look (if (look S.fs n).isSome then setF S.fs n ⟨[], true⟩ else insF S.fs n ⟨[], true⟩) m = some f := hm
      show f.data.length ≤ 32768 + S.wr
      split at hm'
      · rw [look_set] at hm'
        split at hm'
        · obtain ⟨_, _, rfl⟩ := Option.map_eq_some_iff.1 hm'
          exact Nat.zero_le _
        · exact h.dat m f hm'
      · rename_i h1
        rw [look_ins _ _ _ _ (by simpa using h1)] at hm'
        split at hm'
        · cases hm'
          exact Nat.zero_le _
        · exact h.dat m f hm'
    · intro m hm
      have hm' : m ∈ (if (look S.fs n).isSome then setF S.fs n ⟨[], true⟩ else insF S.fs n ⟨[], true⟩).map (·.1) := hm
      split at hm'
      · rw [names_set] at hm'
        exact h.nam m hm'
      · rcases mem_ins n _ m S.fs hm' with rfl | hm'
        · unfold openE at h0
          split at h0
          · cases h0
          · rename_i h2
            exact nameB_len (by simpa using h2)
        · exact h.nam m hm'
  · exact h
theorem printE_le {S : Sr} {t : List UInt8} (h : printE S t = 0) : S.wr + t.length ≤ 32768 := by
  unfold printE at h
  split at h
  · cases h
  · omega
theorem SOk.print {S : Sr} (h : SOk S) (t : List UInt8) : SOk (S.print t) := by
  unfold Sr.print
  split
  · rename_i h0
    have := printE_le h0
    exact ⟨this, by show (S.out ++ t).length ≤ S.wr + t.length; rw [List.length_append]; have := h.out; omega, h.len, fun n f hf => by have := h.dat n f hf; show _ ≤ 32768 + (S.wr + t.length); omega, h.nam⟩
  · exact h
theorem SOk.write {S : Sr} (h : SOk S) (n t : List UInt8) : SOk (S.write n t) := by
  unfold Sr.write
  cases hl : look S.fs n with
  | none => exact h
  | some f =>
    dsimp only
    split
    · rename_i h0
      have hp : printE S t = 0 := by
        unfold writeE at h0
        rw [hl] at h0
        dsimp only at h0
        split at h0
        · cases h0
        · exact h0
      have := printE_le hp
      refine ⟨this, Nat.le_trans h.out (Nat.le_add_right _ _), by show (setF S.fs n _).length ≤ _; rw [len_set]; exact h.len, fun m g hm => ?_, fun m hm => h.nam m (by rw [← names_set n ⟨f.data ++ t, f.op⟩ S.fs]; exact hm)⟩
      have hm' : look (setF S.fs n ⟨f.data ++ t, f.op⟩) m = some g := hm
      show g.data.length ≤ 32768 + (S.wr + t.length)
      rw [look_set] at hm'
      split at hm'
      · obtain ⟨_, _, rfl⟩ := Option.map_eq_some_iff.1 hm'
        have := h.dat n f hl
        show (f.data ++ t).length ≤ _
        rw [List.length_append]
        omega
      · have := h.dat m g hm'
        omega
    · exact h
end Go.Proofs.Ytbibfpgcnmocjaa
