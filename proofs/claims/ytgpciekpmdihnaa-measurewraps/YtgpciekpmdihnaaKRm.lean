/- bre: the interval: the program's token and the document's reading, joined. -/
import Derived.Test.YtgpciekpmdihnaaKTkd
import Derived.Test.YtgpciekpmdihnaaKRe
namespace Go.Proofs.Ytgpciekpmdihnaa
end Go.Proofs.Ytgpciekpmdihnaa
/- bre: the interval, joined: two numbers; neither form. -/
namespace Go.Proofs.Ytgpciekpmdihnaa
end Go.Proofs.Ytgpciekpmdihnaa
/- bre: a node's nine cells; the document's reader: a part of one byte. -/
namespace Go.Proofs.Ytgpciekpmdihnaa
open Go.RowKit
def Blk9 (W : World) (b : Nat) (vs : List Value) : Prop := vs.length = 9 ∧ W.heap[b]? = some (.cells vs.toArray 27 (0, 0))
def zero9 : List Value := [.int .i64 0, .int .u64 0, .int .u64 0, .int .u64 0, .int .u64 0, .int .i64 0, .int .i64 0, .int .i64 0, .slice none 0 0]
theorem Blk9.cell {W : World} {b : Nat} {vs : List Value} (h : Blk9 W b vs) (k : Nat) (v : Value) (hk : vs[k]? = some v) : W.cell? ⟨b, k, none⟩ = some v ∧ W.frozen? ⟨b, k, none⟩ = false := by
  have h2 := h.2
  exact ⟨by simp [World.cell?, h2, hk], by simp [World.frozen?, h2]⟩
theorem Blk9.new (w : World) : Blk9 (w.alloc (.cells #[.int .i64 0, .int .u64 0, .int .u64 0, .int .u64 0, .int .u64 0, .int .i64 0, .int .i64 0, .int .i64 0, .slice none 0 0] 27)) w.heap.size zero9 := ⟨rfl, heap_alloc_new w _⟩
theorem Blk9.below {W W' : World} {b : Nat} {vs : List Value} (h : Blk9 W b vs) {B : Nat} (hb : Below B W W') (hB : W.heap.size ≤ B) : Blk9 W' b vs := ⟨h.1, (hb.block b (Nat.lt_of_lt_of_le (Array.getElem?_eq_some_iff.1 h.2).1 hB)).trans h.2⟩
end Go.Proofs.Ytgpciekpmdihnaa
/- bre: the document's reader: escape, at an n; how blocks last. -/
namespace Go.Proofs.Ytgpciekpmdihnaa
open Go.RowKit
theorem Blk9.grown {W W' : World} {b c : Nat} {vs : List Value} (h : Blk9 W c vs) (g : W.grownBy W' (some b)) (hne : c ≠ b) : Blk9 W' c vs :=
  ⟨h.1, (g.block c (Array.getElem?_eq_some_iff.1 h.2).1 (fun e => hne (by injection e))).trans h.2⟩
theorem IsRd.below {W W' : World} {b B : Nat} {s : ByteArray} {r : Rd} (h : IsRd W b s r) (k : Below B W W') (hb : b < B) : IsRd W' b s r := (k.block b hb).trans h
end Go.Proofs.Ytgpciekpmdihnaa
/- bre: the document's reader: escape, at a byte that stands for itself or may not be escaped. -/
namespace Go.Proofs.Ytgpciekpmdihnaa
open Go.RowKit
end Go.Proofs.Ytgpciekpmdihnaa
/- bre: the document's reader: escape, at a byte that stands for itself or may not be escaped. -/
namespace Go.Proofs.Ytgpciekpmdihnaa
open Go.RowKit
end Go.Proofs.Ytgpciekpmdihnaa
/- bre: the document's reader: escape, at the end, at a digit. -/
namespace Go.Proofs.Ytgpciekpmdihnaa
open Go.RowKit
end Go.Proofs.Ytgpciekpmdihnaa
/- bre: the document's reader: escape, whole. -/
namespace Go.Proofs.Ytgpciekpmdihnaa
open Go.RowKit
end Go.Proofs.Ytgpciekpmdihnaa
