/- ytab: two tables compared; tables as variables; awake. -/
import Derived.Test.YtgcjjfidcadlgaaYg
import Derived.Test.YtgcjjfidcadlgaaYf
import Derived.Test.YtgcjjfidcadlgaaYb
import Derived.Lib.QuietBelow
namespace Go.Proofs.Ytgcjjfidcadlgaa
open Go.RowKit

theorem part_u8 (T : Nat → UInt8) (i : Nat) (h : i < 256) (w : World) : (part 5 (arV (btF T)).toArray i).run Try.prog w = .ok (btF T i) w := by
  have e : (arV (btF T)).toArray[i]? = some (btF T i) := by simpa using arV_at (btF T) i h
  have hl : i < (arV (btF T)).length := by rw [arV_len]; exact h
  simp [part, Try.isAgg5, e]

theorem eq_loop (d : Nat) (T : Nat → UInt8) (w : World) (he : ∀ i, (Op.equalIn d 5 (btF T i) (btF T i)).run Try.prog w = .ok true w) : ∀ (l : List Nat), (∀ i ∈ l, i < 256) → (forIn (m := Sem) l ((none, ()) : Option Bool × Unit) (fun i _ => do
      if !(← Op.equalIn d 5 (← part 5 (arV (btF T)).toArray (i * 1)) (← part 5 (arV (btF T)).toArray (i * 1))) then
        pure (.done (some false, ()))
      else pure (.yield (none, ())))).run Try.prog w = .ok (none, ()) w
  | [], _ => by simp
  | i :: l, h => by
    have hi := h i (by simp)
    have := eq_loop d T w he l (fun j hj => h j (by simp [hj]))
    simp only [List.forIn_cons, Sem.run_bind, Nat.mul_one, part_u8 T i hi, Result.andThen_ok, he]
    simpa using this

theorem eq_any (d : Nat) (T : Nat → UInt8) (w : World) (he : ∀ i, (Op.equalIn d 5 (btF T i) (btF T i)).run Try.prog w = .ok true w) : (Op.equalIn (d + 1) 31 (.agg (arV (btF T)).toArray) (.agg (arV (btF T)).toArray)).run Try.prog w = .ok true w := by
  have := eq_loop d T w he (List.range' 0 256 1) (fun i hi => by simp [List.mem_range'] at hi; omega)
  simp only [Op.equalIn, Sem.run_bind, run_underlying und31, Result.andThen_ok, Try.sizeOf5]
  rw [Std.Legacy.Range.forIn_eq_forIn_range']
  erw [this]
  rfl

theorem eq_table (T : Nat → UInt8) (w : World) : (binOp .eql 31 (.agg (arV (btF T)).toArray) (.agg (arV (btF T)).toArray)).run Try.prog w = .ok (.bool true) w := by
  have h := eq_any 9999 T w (fun i => by
    rw [show (9999 : Nat) = 9998 + 1 from rfl, btF, run_equalIn_int w 9998 5 .u8 .u8 _ _ Try.underlying5]
    simp)
  rw [run_eql_struct, h]
  rfl

end Go.Proofs.Ytgcjjfidcadlgaa
