/- Small helpers for all texts: facts closed by arithmetic, a new block, a cell of a block that is written out, literals. -/
import Derived.Below
namespace Go.Proofs.YtcpokkpjeeblnaaGreatDoor
open Go.RowKit
theorem qn {a b : Int} (h : a ≠ b := by omega) : (a == b) = false := beq_eq_false_iff_ne.2 h
theorem qb {a b : Int} (h : a ≠ b := by omega) : (a != b) = true := bne_iff_ne.2 h
theorem qg {p : Prop} (h : ¬p := by omega) : p = False := eq_false h
theorem qt {p : Prop} (h : p := by omega) : p = True := eq_true h
theorem qr {n : Nat} : n ≤ n := Nat.le_refl n
theorem Bal (w : World) (o : Obj) : Below w.heap.size w (w.alloc o) := (Below.refl w.heap.size w).alloc (Nat.le_refl _) o
theorem clq {W : World} {b : Nat} {xs : Array Value} {t : TypeId} {r : Nat × Nat} {v : Value} (k : Nat) (h : W.heap[b]? = some (.cells xs t r)) (hv : xs[k]? = some v) : W.cell? ⟨b, k, none⟩ = some v := by simp [World.cell?, h, hv]
theorem fzq {W : World} {b : Nat} {xs : Array Value} {t : TypeId} (k : Nat) (h : W.heap[b]? = some (.cells xs t (0, 0))) : W.frozen? ⟨b, k, none⟩ = false := by simp [World.frozen?, h]
abbrev Zt : Array Value := #[.int .i64 0, .int .i64 0, .int .i64 0, .int .i64 0, .int .u64 0, .int .u64 0, .int .u64 0, .int .u64 0, .int .i64 0, .int .i64 0, .int .i64 0]
abbrev Zi : Array Value := #[.int .u64 0, .int .u64 0, .int .u64 0, .int .u64 0, .int .u8 0, .bool false, .int .i64 0]
abbrev Zn : Array Value := #[.int .i64 0, .int .u64 0, .int .u64 0, .int .u64 0, .int .u64 0, .int .i64 0, .int .i64 0, .int .i64 0, .slice none 0 0]
abbrev Zw : Array Value := #[.int .u64 0, .int .u64 0, .int .u64 0, .int .u64 0]
abbrev Zq : Array Value := #[.int .i64 0, .int .i64 0, .string ⟨#[]⟩]
end Go.Proofs.YtcpokkpjeeblnaaGreatDoor
