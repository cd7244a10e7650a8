/- Walks: All: the lines of a text with their numbers, given one at a time, for every loop body, at every text of at most 2^30 bytes. -/
import Derived.RangeFuncNested
import Derived.RangeFuncBound
import Derived.RangeFuncCalls
import Derived.RangeFuncLeaves
import Derived.RangeFuncBox
import Derived.Shelf.Abstract
import Derived.WalkKit
import Derived.OwnWalkIn
import Derived.TacticsInMore
import Derived.LoopNIn
import Derived.LoopIn
import Derived.Maps.AppendAt
import Derived.Lib.Strings
import Derived.Test.YtfmgpcefghoncaaRefCut
import Derived.Test.YtfmgpcefghoncaaOne
namespace Go.Proofs.Ytfmgpcefghoncaa
open Go.RowKit Go.Shelf

attribute [local go_sem] Oper.semAt_some

/-- The lines with their numbers, from k on. -/
def numb : Nat → List (List UInt8) → List (Nat × List UInt8)
  | _, [] => []
  | k, x :: r => (k, x) :: numb (k + 1) r

theorem numb_append (k : Nat) (l m : List (List UInt8)) : numb k (l ++ m) = numb k l ++ numb (k + l.length) m := by
  induction l generalizing k with
  | nil => simp [numb]
  | cons x r ih => simp only [List.cons_append, numb, ih, List.length_cons]; congr 3; omega
theorem numb_snoc (k : Nat) (l : List (List UInt8)) (x : List UInt8) : numb k (l ++ [x]) = numb k l ++ [(k + l.length, x)] := by rw [numb_append]; rfl
theorem numb_length (k : Nat) (l : List (List UInt8)) : (numb k l).length = l.length := by
  induction l generalizing k with
  | nil => rfl
  | cons x r ih => simp [numb, ih]

theorem str_empty (l : List UInt8) : (str l).toList.isEmpty = l.isEmpty := by rw [Lib.toList_data]; rfl

set_option maxRecDepth 100000 in
set_option maxHeartbeats 1000000 in
theorem iter_in (n : Nat) (hn : 1 ≤ n) (l Bn : Nat) (s : ByteArray) (hs : s.size ≤ 1073741824) (J Jx : List (Nat × List UInt8) → World → Prop)
    (hY : ∀ pre (x : Nat × List UInt8) W, J pre W → pre.length < (cutL s.data.toList).length → YieldAt Fence.wide (n - 1) Try.prog l #[.int .i64 (x.1 : Nat), .string (str x.2)] W fun e W' =>
      (e = .returned (.bool true) ∧ J (pre ++ [x]) W' ∧ True) ∨ (e = .returned (.bool false) ∧ Jx (pre ++ [x]) W'))
    (W : World) (hJ : AbidesFrom W.heap.size J) (hBn : Boxed W Bn 9 (.string s)) (h0 : J [] W) :
    CallsIn Fence.wide n Try.prog 25 #[.func (.yield l) #[] #[], .pointer (some ⟨Bn, 0, none⟩)] W fun e W' => (∃ v, e = .returned v) ∧
      ((∃ ys, ys = numb 1 (cutL s.data.toList) ∧ J ys W') ∨ (∃ pre, pre <+: numb 1 (cutL s.data.toList) ∧ Jx pre W')) := by
  have hc0 := hBn.cell
  have hcl := cutL_le s.data.toList
  have hsz : s.data.toList.length = s.size := by simp
  refine callsIn_of_wp Try.func25 rfl trivial ?_ rfl
  simp only [Try.ntmps25, List.size_toArray, List.length_cons, List.length_nil, Nat.reduceAdd, Nat.reduceSub, Array.replicate_succ, Array.replicate_zero, List.push_toArray, List.append_toArray, List.nil_append, List.cons_append]
  gi_wp2
  gi_loopw [3, 4] (fun rv i wr => ∃ (r : List UInt8) (done : List (List UInt8)), rv = .string (str r) ∧ i = .int .i64 ((done.length : Int) + 1) ∧ Hid (cutL s.data.toList = done ++ cutL r) ∧ r.length ≤ s.size ∧ J (numb 1 done) wr) (fun rv _ _ => match rv with | .string t => t.size | _ => 0)
  case atStart => exact ⟨s.data.toList, [], rfl, rfl, by simp [Hid], by simp, h0⟩
  case round =>
    obtain ⟨r, done, rfl, rfl, HC, hr, hJs⟩ := hrel
    by_cases hr0 : r = []
    · subst hr0
      have he : (str []).toList.isEmpty = true := by rw [str_empty]; rfl
      gi_wp2
      go_end0
      refine ⟨⟨_, rfl⟩, .inl ⟨_, rfl, ?_⟩⟩
      have e := HC.out
      simp only [cutL, cutGo, if_true, List.append_nil] at e
      rw [show cutL s.data.toList = done from e]
      exact hJs
    · have he : (str r).toList.isEmpty = false := by rw [str_empty]; simpa using hr0
      have hcut := cutL_split r hr0
      have hlt := restL_lt r hr0
      have hdl : done.length < (cutL s.data.toList).length := by rw [HC.out, hcut]; simp
      gi_wp2_with fail
      refine ⟨trivial, ?_⟩
      refine (callsIn_wide.2 (cut_one (str r) (by simp [str, ByteArray.size]; omega) _)).mono ?_
      rintro e w1 ⟨⟨ok, rfl⟩, hb1⟩
      have hJ1 : J (numb 1 done) w1 := hJ _ wr w1 none hJs ⟨hb1.os, hb1.tape, hb1.output, hb1.size, fun i hi _ => hb1.block i hi⟩ (fun r e => by cases e)
      have hd1 : (str r).data.toList = r := by simp [str]
      rw [hd1]
      obtain ⟨fn, tmps, assign, body, hy, hR⟩ := hY (numb 1 done) (done.length + 1, headL r) w1 hJ1 (by rw [numb_length]; exact hdl)
      simp only [Int.natCast_add, Int.cast_ofNat_Int] at hy
      have HM : Hid (numb 1 (done ++ [headL r]) = numb 1 done ++ [(done.length + 1, headL r)]) := by
        have h := numb_snoc 1 done (headL r)
        rw [Nat.add_comm 1] at h
        exact h
      have HC2 : Hid (cutL s.data.toList = (done ++ [headL r]) ++ cutL (restL r)) := by
        have h := HC.out
        rw [hcut] at h
        show _ = _
        simpa using h
      have hdl2 : done.length < 1073741824 := by omega
      clear hcut hdl hb1 hJs HC hd1
      gi_wp2
      refine hR.mono ?_
      rintro e W3 (⟨rfl, hJ3, -⟩ | ⟨rfl, hJx3⟩)
      · gi_wp2
        go_roundw
        case rel => exact ⟨restL r, done ++ [headL r], rfl, by simp, HC2, by omega, by rw [HM.out]; exact hJ3⟩
        case measure => simp [str, ByteArray.size]; omega
      · gi_wp2
        refine bodyPost_ret (results_none rfl _ _ _) rfl ?_
        refine ⟨⟨_, rfl⟩, .inr ⟨_, ?_, hJx3⟩⟩
        rw [← HM.out, HC2.out, numb_append 1 (done ++ [headL r]) (cutL (restL r))]
        exact List.prefix_append _ _

set_option maxHeartbeats 1000000 in
theorem all_in (n : Nat) (s : ByteArray) (w : World) :
    CallsIn Fence.wide n Try.prog 20 #[.string s] w fun e w' => e = .returned (.func (.func 25) #[] #[.pointer (some ⟨w.heap.size, 0, none⟩)]) ∧ w' = w.alloc (.cells #[.string s] 9) := by
  refine callsIn_of_wp Try.func20 rfl trivial ?_ rfl
  simp only [Try.ntmps20, List.size_toArray, List.length_cons, List.length_nil, Nat.reduceAdd, Nat.reduceSub, Array.replicate_succ, Array.replicate_zero, List.push_toArray, List.append_toArray, List.nil_append, List.cons_append]
  gi_wp2
  go_ret
  exact ⟨rfl, rfl⟩

def Any2 (_ _ : World) : Prop := True
theorem any2_t {A B C : World} (_ : Any2 A B) (_ : Any2 B C) : Any2 A C := trivial
theorem any2_b {w : World} (W : World) (l : Nat) (o o' : Obj) (_ : w.heap.size ≤ l) (_ : W.heap[l]? = some o) (_ : o.isCells = false) (_ : o.isWalk = false) : Any2 W (W.putObj l o') := trivial

theorem iter_stops (n : Nat) (hn : 1 ≤ n) (Bn : Nat) (s : ByteArray) (hs : s.size ≤ 1073741824) (w : World) (hBn : Boxed w Bn 9 (.string s)) :
    SeqStopsK Fence.wide n Try.prog 25 #[.pointer (some ⟨Bn, 0, none⟩)] (fun x : Nat × List UInt8 => #[Value.int .i64 (x.1 : Nat), .string (str x.2)]) Any2 (fun ys => ys = numb 1 (cutL s.data.toList)) (fun pre => pre <+: numb 1 (cutL s.data.toList)) (cutL s.data.toList).length w := fun l J Jx W hW hJ _ hY h0 =>
  iter_in n hn l Bn s hs J Jx hY W hJ ((hW.block Bn hBn.lt).trans hBn) h0
end Go.Proofs.Ytfmgpcefghoncaa
