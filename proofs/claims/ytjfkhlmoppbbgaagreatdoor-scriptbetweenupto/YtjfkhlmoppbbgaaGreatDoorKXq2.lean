/- ScriptBetween, pure: what is put ahead of a script. -/
import Derived.Test.YtjfkhlmoppbbgaaGreatDoorKXd2
namespace Go.Proofs.YtjfkhlmoppbbgaaGreatDoor
open Go.RowKit
open scanP scrP tpl ytb

/-- What one byte of front puts ahead. -/
def comL (w : List UInt8) : List UInt8 := (w.take 20).filter (fun b => b ≠ 10)
def itemL (w : List UInt8) (k : UInt8) : List UInt8 := if k.toNat % 5 < 4 then [([32, 9, 59, 10] : List UInt8)[k.toNat % 5]?.getD 0] else 35 :: comL w ++ [10]
def ahL (w : List UInt8) (l : List UInt8) : List UInt8 := 10 :: l.flatMap (itemL w)
theorem ahL_snoc (w l : List UInt8) (k : UInt8) : ahL w (l ++ [k]) = ahL w l ++ itemL w k := by
  unfold ahL
  rw [List.flatMap_append, List.flatMap_cons, List.flatMap_nil, List.append_nil, List.cons_append]
theorem Sep.item (w : List UInt8) (k : UInt8) : Sep (itemL w k) := by
  unfold itemL
  split
  · rename_i h
    have hm : k.toNat % 5 = 0 ∨ k.toNat % 5 = 1 ∨ k.toNat % 5 = 2 ∨ k.toNat % 5 = 3 := by omega
    rcases hm with e | e | e | e <;> rw [e] <;> exact Sep.one rfl
  · exact Sep.note (fun b hb => by
      have := (List.mem_filter.1 hb).2
      simpa using this)
theorem Sep.items (w : List UInt8) : ∀ l : List UInt8, Sep (l.flatMap (itemL w))
  | [] => Sep.nil
  | k :: r => by rw [List.flatMap_cons]; exact (Sep.item w k).app (Sep.items w r)
theorem Sep.ah (w l : List UInt8) : Sep (ahL w l) := by
  have := (Sep.one (b := 10) rfl).app (Sep.items w l)
  exact this
theorem item_len (w : List UInt8) (k : UInt8) : (itemL w k).length ≤ 22 := by
  unfold itemL
  split
  · simp
  · have h1 := List.length_filter_le (fun b => decide (b ≠ 10)) (w.take 20)
    have h2 : (w.take 20).length ≤ 20 := by rw [List.length_take]; omega
    have h3 : (comL w).length ≤ 20 := Nat.le_trans h1 h2
    rw [List.length_append, List.length_cons, List.length_singleton]
    omega
theorem ah_len (w : List UInt8) : ∀ l : List UInt8, (ahL w l).length ≤ 22 * l.length + 1
  | [] => by simp [ahL]
  | k :: r => by
    have h1 := ah_len w r
    have h2 := item_len w k
    unfold ahL at h1 ⊢
    rw [List.flatMap_cons, List.length_cons, List.length_append, List.length_cons]
    rw [List.length_cons] at h1
    omega
theorem com_step (w : List UInt8) (k : Nat) (hk : k < w.length) (h20 : k < 20) : ((w.take (k + 1)).take 20).filter (fun b => decide (b ≠ 10)) = ((w.take k).take 20).filter (fun b => decide (b ≠ 10)) ++ (if w[k] ≠ 10 then [w[k]] else []) := by
  rw [List.take_take, List.take_take, Nat.min_eq_right (by omega), Nat.min_eq_right (by omega), List.take_succ_eq_append_getElem hk, List.filter_append]
  congr 1
  by_cases h : w[k] = 10 <;> simp [h]
end Go.Proofs.YtjfkhlmoppbbgaaGreatDoor
