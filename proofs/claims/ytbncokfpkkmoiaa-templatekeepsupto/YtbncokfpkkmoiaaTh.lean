/- template: the document's Parse. -/
import Derived.Test.YtbncokfpkkmoiaaTg
namespace Go.Proofs.Ytbncokfpkkmoiaa
open Go.RowKit

/-- The last part that is gathered isn't a text. -/
def okG (x : Ga) : Prop := ∀ p, x.ps.getLast? = some p → 0 ≤ p.g

theorem ok_plain {x : Ga} (h : okG x) (b : UInt8) : okG (x.plain b) := h
theorem ok_group {x : Ga} (n : Int) (hn : 0 ≤ n) : okG (x.group n) := fun p hp => by
  unfold Ga.group at hp
  rw [List.getLast?_append] at hp
  simp at hp
  rw [← hp]
  exact hn
theorem ok_esc {x : Ga} (h : okG x) (c : UInt8) : okG (x.esc c) := by
  unfold Ga.esc
  split
  · exact ok_group _ (by omega)
  · split <;> exact ok_plain h _

theorem bst_app (l m : List UInt8) : bst l ++ bst m = bst (l ++ m) := by
  apply ByteArray.ext
  simp [bst, ByteArray.data_append]

theorem laid_plain {x : Ga} (h : okG x) (b : UInt8) : laidL x.out.ps ⟨-1, bst [b]⟩ = (x.plain b).out.ps := by
  by_cases hb : x.bs = []
  · have e1 : x.out = x := by unfold Ga.out; rw [if_pos hb]
    rw [e1]
    unfold laidL Ga.plain Ga.out
    rw [hb]
    simp only [List.nil_append, List.cons_ne_nil, if_false]
    split
    · rename_i q hq
      rw [if_neg (fun h2 => by have := h q hq; omega)]
    · rfl
  · have e1 : x.out = ⟨x.ps ++ [⟨-1, bst x.bs⟩], []⟩ := by unfold Ga.out; rw [if_neg hb]
    rw [e1]
    unfold laidL Ga.plain Ga.out
    simp only [List.getLast?_append, List.getLast?_singleton, List.dropLast_concat]
    simp [bst_app]
theorem laid_group (x : Ga) (n : Int) (hn : 0 ≤ n) : laidL x.out.ps ⟨n, bst []⟩ = (x.group n).out.ps := by
  have e : (x.group n).out.ps = x.out.ps ++ [⟨n, bst []⟩] := by
    show (Ga.out ⟨x.out.ps ++ [⟨n, bst []⟩], []⟩).ps = _
    rw [Ga.out, if_pos rfl]
  rw [e]
  unfold laidL
  split
  · rw [if_neg (fun h2 => by have := h2.1; simp only at this; omega)]
  · rfl

theorem ext_one (s : ByteArray) (k : Nat) (h : k < s.size) : s.extract k (k + 1) = bst [s[k]] := by
  apply ByteArray.ext
  apply Array.ext'
  simp only [ByteArray.data_extract, bst, Array.toList_extract]
  rw [List.extract_eq_take_drop]
  have := drop_at s k h
  rw [this]
  simp

/-- Each text that is gathered is short. -/
def shG (x : Ga) (n : Nat) : Prop := (∀ q ∈ x.ps, q.t.size ≤ n) ∧ x.bs.length ≤ n
theorem sh_out {x : Ga} {n : Nat} (h : shG x n) : ∀ q ∈ x.out.ps, q.t.size ≤ n := by
  unfold Ga.out
  split
  · exact h.1
  · intro q hq
    rw [List.mem_append, List.mem_singleton] at hq
    rcases hq with hq | rfl
    · exact h.1 q hq
    · show (bst x.bs).size ≤ n
      rw [bst_size]
      exact h.2
theorem sh_plain {x : Ga} {n : Nat} (h : shG x n) (b : UInt8) : shG (x.plain b) (n + 1) :=
  ⟨fun q hq => Nat.le_succ_of_le (h.1 q hq), by rw [plain_bs]; have := h.2; omega⟩
theorem sh_group {x : Ga} {n : Nat} (h : shG x n) (g : Int) : shG (x.group g) (n + 1) := by
  refine ⟨fun q hq => ?_, by simp [group_bs]⟩
  unfold Ga.group at hq
  rw [List.mem_append, List.mem_singleton] at hq
  rcases hq with hq | rfl
  · exact Nat.le_succ_of_le (sh_out h q hq)
  · show (bst []).size ≤ _
    rw [bst_size]
    simp
theorem sh_esc {x : Ga} {n : Nat} (h : shG x n) (c : UInt8) : shG (x.esc c) (n + 1) := by
  unfold Ga.esc
  split
  · exact sh_group h _
  · split <;> exact sh_plain h _
theorem sh_mono {x : Ga} {n m : Nat} (h : shG x n) (hm : n ≤ m) : shG x m := ⟨fun q hq => Nat.le_trans (h.1 q hq) hm, Nat.le_trans h.2 hm⟩

end Go.Proofs.Ytbncokfpkkmoiaa
