/- bre: the document's reader in memory: its fields; fail, grown, see. -/
import Derived.Test.YtgpciekpmdihnaaKTk
import Derived.Laws.OwnMore
import Derived.Lib.QuietBelow
import Derived.BigQuiet
namespace Go.Proofs.Ytgpciekpmdihnaa
open Go.RowKit
structure Rd where
  pos : Nat
  e : Int
  place : Nat
  groups : Nat
  shut : Nat → Bool
  size : Int
def Rd.cells (s : ByteArray) (r : Rd) : List Value :=
  [.string s, .int .i64 (r.pos : Nat), .int .i64 r.e, .int .i64 (r.place : Nat), .int .i64 (r.groups : Nat), .bool (r.shut 0), .bool (r.shut 1), .bool (r.shut 2), .bool (r.shut 3), .bool (r.shut 4), .bool (r.shut 5), .bool (r.shut 6), .bool (r.shut 7), .bool (r.shut 8), .bool (r.shut 9), .int .i64 r.size]
def IsRd (W : World) (b : Nat) (s : ByteArray) (r : Rd) : Prop := W.heap[b]? = some (.cells (r.cells s).toArray 66 (0, 0))
theorem IsRd.lt {W : World} {b : Nat} {s : ByteArray} {r : Rd} (h : IsRd W b s r) : b < W.heap.size := (Array.getElem?_eq_some_iff.1 h).1
theorem IsRd.cell {W : World} {b : Nat} {s : ByteArray} {r : Rd} (h : IsRd W b s r) (k : Nat) (v : Value) (hk : (r.cells s)[k]? = some v) : W.cell? ⟨b, k, none⟩ = some v ∧ W.frozen? ⟨b, k, none⟩ = false := by
  have h2 : W.heap[b]? = _ := h
  exact ⟨by simp [World.cell?, h2, hk], by simp [World.frozen?, h2]⟩
theorem IsRd.put {W : World} {b : Nat} {s : ByteArray} {r r' : Rd} (h : IsRd W b s r) (k : Nat) (v : Value) (hr : r'.cells s = (r.cells s).set k v) : IsRd (W.setCell ⟨b, k, none⟩ v) b s r' := by
  obtain ⟨hlt, hk⟩ := Array.getElem?_eq_some_iff.1 h
  show (W.heap.modify b _)[b]? = _
  rw [Array.getElem?_eq_getElem (by rw [Array.size_modify]; exact hlt), Array.getElem_modify_self, hk, hr]
  simp only [Option.isSome_none, Bool.false_eq_true, if_false]
  rw [List.setIfInBounds_toArray]
theorem grown_put (W : World) (b k : Nat) (v : Value) : W.grownBy (W.setCell ⟨b, k, none⟩ v) (some b) :=
  ⟨rfl, rfl, rfl, by show W.heap.size ≤ (W.heap.modify b _).size; rw [Array.size_modify]; exact Nat.le_refl _, fun j _ hj => Below.heap_setCell _ _ _ j (fun e => hj (by rw [e]))⟩
theorem grown_trans {A B C : World} {r : Option Nat} (h : A.grownBy B r) (k : B.grownBy C r) : A.grownBy C r :=
  ⟨k.os.trans h.os, k.tape.trans h.tape, k.output.trans h.output, Nat.le_trans h.size k.size, fun j hj hr => (k.block j (Nat.lt_of_lt_of_le hj h.size) hr).trans (h.block j hj hr)⟩
set_option maxRecDepth 100000 in
set_option maxHeartbeats 400000 in
theorem fail_any (s : ByteArray) (r : Rd) (b : Nat) (e : Int) (i : Nat) (w : World) (h : IsRd w b s r) :
    Calls Try.prog 31 #[.pointer (some ⟨b, 0, none⟩), .int .i64 e, .int .i64 (i : Int)] w fun x w' => (∃ v, x = .returned v) ∧ IsRd w' b s (if r.e = 0 then { r with e := e, place := i } else r) ∧ w.grownBy w' (some b) := by
  obtain ⟨c2, f2⟩ := h.cell 2 _ rfl
  obtain ⟨c3, f3⟩ := h.cell 3 _ rfl
  by_cases he : r.e = 0
  · rw [if_pos he]
    rw [he] at c2
    have HE := hideT he
    clear he
    go_enter Try.func31, Try.ntmps31
    go_wp2
    go_end0
    refine ⟨⟨_, rfl⟩, ?_, grown_trans (grown_put w b 2 _) (grown_put _ b 3 _)⟩
    exact IsRd.put (r := { r with e := e }) (IsRd.put h 2 _ rfl) 3 _ rfl
  · rw [if_neg he]
    have hb : (r.e == 0) = false := by rw [beq_eq_false_iff_ne]; exact he
    go_enter Try.func31, Try.ntmps31
    go_wp2
    go_end0
    exact ⟨⟨_, rfl⟩, h, ⟨rfl, rfl, rfl, Nat.le_refl _, fun _ _ _ => rfl⟩⟩
def Rd.failed (r : Rd) (e : Int) (i : Nat) : Rd := if r.e = 0 then { r with e := e, place := i } else r
def Rd.grow (r : Rd) (n : Int) (i : Nat) : Rd := if r.size + n > 256 then ({ r with size := r.size + n } : Rd).failed 13 i else { r with size := r.size + n }
set_option maxRecDepth 100000 in
set_option maxHeartbeats 400000 in
theorem grown_any (s : ByteArray) (r : Rd) (b : Nat) (n : Int) (i : Nat) (hn : -1000000000 ≤ n ∧ n ≤ 1000000000) (hr : 0 ≤ r.size ∧ r.size ≤ 1000000000) (w : World) (h : IsRd w b s r) :
    Calls Try.prog 50 #[.pointer (some ⟨b, 0, none⟩), .int .i64 n, .int .i64 (i : Int)] w fun x w' => (∃ v, x = .returned v) ∧ IsRd w' b s (r.grow n i) ∧ w.grownBy w' (some b) := by
  obtain ⟨c15, f15⟩ := h.cell 15 _ rfl
  have k1 : IntKind.i64.wrap (r.size + n) = r.size + n := by rw [IntKind.wrap_i64]; omega
  have h1 : IsRd (w.setCell ⟨b, 15, none⟩ (.int .i64 (r.size + n))) b s { r with size := r.size + n } := IsRd.put h 15 _ rfl
  have hf := fail_any s { r with size := r.size + n } b 13 i _ h1
  have HG := hideT (And.intro h1 hf)
  clear h1 hf
  unfold Rd.grow
  by_cases hg : r.size + n > 256
  · rw [if_pos hg]
    have k2 : (256 : Int) < r.size + n := hg
    go_enter Try.func50, Try.ntmps50
    go_wp2_with fail
    refine HG.out.2.mono ?_
    rintro e' w2 ⟨⟨v, rfl⟩, hI, hgr⟩
    go_wp2
    go_end0
    exact ⟨⟨_, rfl⟩, hI, grown_trans (grown_put w b 15 _) hgr⟩
  · rw [if_neg hg]
    have k2 : ¬ (256 : Int) < r.size + n := hg
    go_enter Try.func50, Try.ntmps50
    go_wp2
    go_end0
    exact ⟨⟨_, rfl⟩, HG.out.1, grown_put w b 15 _⟩
end Go.Proofs.Ytgpciekpmdihnaa
