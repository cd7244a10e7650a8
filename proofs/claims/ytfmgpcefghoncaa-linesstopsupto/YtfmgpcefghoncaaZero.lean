/- all with most = 0, and what all answers for a number from 0 on. -/
import Derived.Test.YtfmgpcefghoncaaAll
namespace Go.Proofs.Ytfmgpcefghoncaa
open Go.RowKit

set_option maxRecDepth 100000 in
set_option maxHeartbeats 1000000 in
theorem all_zero (s : ByteArray) (w : World) :
    Calls Try.prog 9 #[.string s, .int .i64 0] w fun e w' => e = .returned (.tuple #[.slice none 0 0, .bool true]) ∧ Below w.heap.size w w' := by
  have hnil := func_eq_nil
  have hnnil := func_ne_nil
  refine (callsIn_wide (n := 5)).1 ?_
  refine callsIn_of_wp_marks Try.func9 rfl trivial ?_ rfl
  simp only [Try.ntmps9, List.size_toArray, List.length_cons, List.length_nil, Nat.reduceAdd, Nat.reduceSub, Array.replicate_succ, Array.replicate_zero, List.push_toArray, List.append_toArray, List.nil_append, List.cons_append]
  gi_wp2_with (refine ⟨trivial, ?_⟩; gi_at_call 20; refine (all_in _ _ _).mono ?_; rintro e w' ⟨rfl, rfl⟩)
  refine ⟨_, results_all _ _ _ _ _ _ rfl rfl (?_ : _ = some (.slice none 0 0)) (?_ : _ = some (.bool true)), rfl, ?_⟩
  · have h := ((((Boxed.new (w.alloc (.cells #[.int .i64 0] 3)) 22 (.slice none 0 0)).alloc (.cells #[.bool true] 4)).alloc (.cells #[.slice none 0 0] 22)).alloc (.cells #[.string s] 9)).cell
    rwa [World.size_alloc] at h
  · have h := (((Boxed.new ((w.alloc (.cells #[.int .i64 0] 3)).alloc (.cells #[.slice none 0 0] 22)) 4 (.bool true)).alloc (.cells #[.slice none 0 0] 22)).alloc (.cells #[.string s] 9)).cell
    rwa [World.size_alloc, World.size_alloc] at h
  · exact (((((Below.refl _ w).alloc (Nat.le_refl _) _).alloc (by simp) _).alloc (by simp; omega) _).alloc (by simp; omega) _).alloc (by simp; omega) _

theorem all_few (s : ByteArray) (hs : s.size ≤ 1073741824) (m : Int) (h0 : 0 ≤ m) (w : World) :
    Calls Try.prog 9 #[.string s, .int .i64 m] w fun e w' => ∃ v, e = .returned (.tuple #[v, .bool true]) ∧ w'.ownsRow w.heap.size 9 1 v ((cutL s.data.toList).take m.toNat).length (strVals ((cutL s.data.toList).take m.toNat)) ∧ Below w.heap.size w w' := by
  by_cases hm : m = 0
  · subst hm
    refine (all_zero s w).mono ?_
    rintro e w' ⟨rfl, hb⟩
    exact ⟨_, rfl, by simpa [strVals] using World.ownsRow_nil _ _ _ _, hb⟩
  · refine (allCall s hs m (by simpa using hm) w).mono ?_
    rintro e w' ⟨v, pre, rfl, hown, hpre, hb⟩
    have he : pre = (cutL s.data.toList).take m.toNat := by
      rcases hpre with ⟨rfl, hj⟩ | ⟨⟨r, hr⟩, hl⟩
      · have : ¬ m.toNat ≤ (cutL s.data.toList).length := fun hle => hj m.toNat (by omega) hle (by omega)
        rw [List.take_of_length_le (by omega)]
      · rw [← hr, show m.toNat = pre.length by omega, List.take_left]
    subst he
    exact ⟨v, rfl, hown, hb⟩
end Go.Proofs.Ytfmgpcefghoncaa
