/- bre: the interval: the program's token and the document's reading, joined. -/
import Derived.Test.YtaapmphdnholaaaDoorKTkd
import Derived.Test.YtaapmphdnholaaaDoorKRe
import Derived.Test.YtaapmphdnholaaaDoorKQf
namespace Go.Proofs.YtaapmphdnholaaaDoor

end Go.Proofs.YtaapmphdnholaaaDoor

/- bre: the interval, joined: two numbers; neither form. -/
namespace Go.Proofs.YtaapmphdnholaaaDoor

end Go.Proofs.YtaapmphdnholaaaDoor

/- bre: a node's nine cells; the document's reader: a part of one byte. -/
namespace Go.Proofs.YtaapmphdnholaaaDoor
open Go.RowKit

/-- A block of nine cells, cell by cell. -/
def Blk9 (W : World) (b : Nat) (vs : List Value) : Prop := vs.length = 9 ∧ W.heap[b]? = some (.cells vs.toArray 33 (0, 0))
def zero9 : List Value := [.int .i64 0, .int .u64 0, .int .u64 0, .int .u64 0, .int .u64 0, .int .i64 0, .int .i64 0, .int .i64 0, .slice none 0 0]

theorem Blk9.cell {W : World} {b : Nat} {vs : List Value} (h : Blk9 W b vs) (k : Nat) (v : Value) (hk : vs[k]? = some v) : W.cell? ⟨b, k, none⟩ = some v ∧ W.frozen? ⟨b, k, none⟩ = false := by
  have h2 := h.2
  exact ⟨by simp [World.cell?, h2, hk], by simp [World.frozen?, h2]⟩
theorem Blk9.new (w : World) : Blk9 (w.alloc (.cells #[.int .i64 0, .int .u64 0, .int .u64 0, .int .u64 0, .int .u64 0, .int .i64 0, .int .i64 0, .int .i64 0, .slice none 0 0] 33)) w.heap.size zero9 := ⟨rfl, heap_alloc_new w _⟩
theorem Blk9.below {W W' : World} {b : Nat} {vs : List Value} (h : Blk9 W b vs) {B : Nat} (hb : Below B W W') (hB : W.heap.size ≤ B) : Blk9 W' b vs := ⟨h.1, (hb.block b (Nat.lt_of_lt_of_le (Array.getElem?_eq_some_iff.1 h.2).1 hB)).trans h.2⟩

end Go.Proofs.YtaapmphdnholaaaDoor

/- bre: the document's reader: escape, at an n; how blocks last. -/
namespace Go.Proofs.YtaapmphdnholaaaDoor
open Go.RowKit

theorem grown_below {A B : World} (h : Below A.heap.size A B) (o : Option Nat) : A.grownBy B o := ⟨h.os, h.tape, h.output, h.size, fun j hj _ => h.block j hj⟩
theorem grown_then {A B C : World} {o : Option Nat} (g : A.grownBy B o) (k : Below A.heap.size B C) : A.grownBy C o :=
  ⟨k.os.trans g.os, k.tape.trans g.tape, k.output.trans g.output, Nat.le_trans g.size k.size, fun j hj hr => (k.block j hj).trans (g.block j hj hr)⟩
theorem Blk9.grown {W W' : World} {b c : Nat} {vs : List Value} (h : Blk9 W c vs) (g : W.grownBy W' (some b)) (hne : c ≠ b) : Blk9 W' c vs :=
  ⟨h.1, (g.block c (Array.getElem?_eq_some_iff.1 h.2).1 (fun e => hne (by injection e))).trans h.2⟩
theorem IsRd.below {W W' : World} {b B : Nat} {s : ByteArray} {r : Rd} (h : IsRd W b s r) (k : Below B W W') (hb : b < B) : IsRd W' b s r := (k.block b hb).trans h

end Go.Proofs.YtaapmphdnholaaaDoor

/- bre: the document's reader: escape, at a byte that stands for itself or may not be escaped. -/
namespace Go.Proofs.YtaapmphdnholaaaDoor
open Go.RowKit

end Go.Proofs.YtaapmphdnholaaaDoor

/- bre: the document's reader: escape, at a byte that stands for itself or may not be escaped. -/
namespace Go.Proofs.YtaapmphdnholaaaDoor
open Go.RowKit

end Go.Proofs.YtaapmphdnholaaaDoor

/- bre: the document's reader: escape, at the end, at a digit. -/
namespace Go.Proofs.YtaapmphdnholaaaDoor
open Go.RowKit

end Go.Proofs.YtaapmphdnholaaaDoor

/- bre: the document's reader: escape, whole. -/
namespace Go.Proofs.YtaapmphdnholaaaDoor
open Go.RowKit

end Go.Proofs.YtaapmphdnholaaaDoor

/- bre: the document's reader beside the parser: what both come to. -/
namespace Go.Proofs.YtaapmphdnholaaaDoor
open Go.RowKit

theorem take_kind {s : ByteArray} {P : Ps} {i k : Nat} (hi : i < s.size) (h0 : (P.take (tokenT s i k)).1 = 0) : (tokenT s i k).kind ≠ 0 ∧ i < (tokenT s i k).to ∧ (tokenT s i k).to ≤ s.size := by
  have hta := tokAt_token s i k hi
  have hk : (tokenT s i k).kind ≠ 0 := fun e => by
    have h9 : (P.take (tokenT s i k)).1 = (tokenT s i k).e := by simp only [Ps.take, e]
    rw [h0] at h9
    exact hta.fault e h9.symm
  exact ⟨hk, hta.next hk⟩

theorem runT_far (s : ByteArray) (f i k : Nat) (P : Ps) (hi : s.size ≤ i) : runT s f i k P = .ok P := by
  cases f with
  | zero => rfl
  | succ f => rw [runT, if_neg (by omega)]

theorem runT_fuel (s : ByteArray) : ∀ (f g i k : Nat) (P : Ps), s.size + 1 - i ≤ f → s.size + 1 - i ≤ g → runT s f i k P = runT s g i k P
  | 0, g, i, k, P, h1, h2 => by rw [runT_far s 0 i k P (by omega), runT_far s g i k P (by omega)]
  | f + 1, 0, i, k, P, h1, h2 => by rw [runT_far s _ i k P (by omega), runT_far s 0 i k P (by omega)]
  | f + 1, g + 1, i, k, P, h1, h2 => by
    rw [runT, runT]
    by_cases hi : i < s.size
    · rw [if_pos hi, if_pos hi]
      by_cases h0 : (P.take (tokenT s i k)).1 = 0
      · rw [if_pos h0, if_pos h0]
        have := take_kind hi h0
        exact runT_fuel s f g _ _ _ (by omega) (by omega)
      · rw [if_neg h0, if_neg h0]
    · rw [if_neg hi, if_neg hi]

/-- The parser from a place on. -/
noncomputable def runA (s : ByteArray) (i k : Nat) (P : Ps) : Except (Int × Nat) Ps := runT s (s.size + 1 - i) i k P
/-- What is answered at the end. -/
def finT (x : Except (Int × Nat) Ps) : Except (Int × Nat) (List Tr) :=
  match x with
  | .error x => .error x
  | .ok P => if P.outer.length = 0 then .ok P.top.parts else .error (10, P.top.pos)

theorem parseT_run (s : ByteArray) (hs : s.size ≤ 512) : parseT s = finT (runA s 0 4 Ps.start) := by
  unfold parseT finT runA
  rw [if_neg (by omega)]
  rfl
theorem runA_end (s : ByteArray) (i k : Nat) (P : Ps) (h : s.size ≤ i) : runA s i k P = .ok P := runT_far s _ i k P h
theorem runA_step {s : ByteArray} {i k : Nat} {P : Ps} (hi : i < s.size) (h0 : (P.take (tokenT s i k)).1 = 0) : runA s i k P = runA s (tokenT s i k).to (tokenT s i k).kind (P.take (tokenT s i k)).2 := by
  have h1 := take_kind hi h0
  unfold runA
  rw [show s.size + 1 - i = (s.size - i) + 1 by omega, runT, if_pos hi, if_pos h0]
  exact runT_fuel s _ _ _ _ _ (by omega) (by omega)
theorem runA_err {s : ByteArray} {i k : Nat} {P : Ps} (hi : i < s.size) (h0 : (P.take (tokenT s i k)).1 ≠ 0) : runA s i k P = .error ((P.take (tokenT s i k)).1, i) := by
  unfold runA
  rw [show s.size + 1 - i = (s.size - i) + 1 by omega, runT, if_pos hi, if_neg h0]

/-- The reader r and the parser P have read the same. -/
structure Sim (s : ByteArray) (r : Rd) (P : Ps) (k : Nat) : Prop where
  e : r.e = 0
  g : r.groups = P.groups
  c : r.shut = P.shut
  z : r.size = P.size
  le : r.pos ≤ s.size
  well : Well P k r.pos
  one : k = 4 → P.top.parts = []

/-- The reader has a fault, and the parser comes to it. -/
structure Fails (s : ByteArray) (i k : Nat) (P : Ps) (r : Rd) : Prop where
  e : r.e ≠ 0
  run : finT (runA s i k P) = .error (r.e, r.place)

/-- Reader and parser have come on: the innermost level has these parts. -/
structure Goes (s : ByteArray) (i k : Nat) (P : Ps) (r' : Rd) (P' : Ps) (k' : Nat) (ts : List Tr) : Prop where
  sim : Sim s r' P' k'
  run : runA s i k P = runA s r'.pos k' P'
  outer : P'.outer = P.outer
  top : P'.top = { P.top with parts := ts }
  on : i ≤ r'.pos

theorem Fails.keep {s : ByteArray} {i k : Nat} {P : Ps} {r r' : Rd} (h : Fails s i k P r) (h1 : r'.e = r.e) (h2 : r'.place = r.place) : Fails s i k P r' := ⟨by rw [h1]; exact h.e, by rw [h1, h2]; exact h.run⟩
theorem Goes.trans {s : ByteArray} {i k k1 k2 : Nat} {P P1 P2 : Ps} {r1 r2 : Rd} {ts us : List Tr} (h : Goes s i k P r1 P1 k1 ts) (h2 : Goes s r1.pos k1 P1 r2 P2 k2 us) : Goes s i k P r2 P2 k2 us :=
  ⟨h2.sim, h.run.trans h2.run, h2.outer.trans h.outer, by rw [h2.top, h.top], Nat.le_trans h.on h2.on⟩
theorem Goes.start {s : ByteArray} {k : Nat} {P : Ps} {r : Rd} (h : Sim s r P k) : Goes s r.pos k P r P k P.top.parts := ⟨h, rfl, rfl, rfl, Nat.le_refl _⟩

end Go.Proofs.YtaapmphdnholaaaDoor
