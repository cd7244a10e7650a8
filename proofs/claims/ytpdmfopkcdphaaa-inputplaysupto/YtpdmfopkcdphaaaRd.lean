/- input: strings.Contains of a newline, strings.Clone. -/
import Derived.Test.YtpdmfopkcdphaaaRc
import Derived.Lib.IndexAny
import Derived.Shelf.Strconv.Clone
namespace Go.Proofs.Ytpdmfopkcdphaaa
open Go.RowKit

set_option maxRecDepth 100000 in
set_option maxHeartbeats 1000000 in
theorem index_any (s : ByteArray) (c : Int) (w : World) : Calls Try.prog 28 #[.string s, .int .u8 c] w fun e w' => e = .returned (.int .i64 (Lib.indexByte s.data.toList c.toNat.toUInt8)) ∧ w' = w := by
  have h : (callFunc 32 #[.string s, .int .u8 c]).run Try.prog w = .ok (.value (.int .i64 (Lib.indexByte s.data.toList c.toNat.toUInt8))) w := by
    rw [run_callFunc_extern Try.func32 (by kernel_rfl) (by kernel_rfl) (by kernel_rfl) (e := Extern.BytealgIndexByte.indexByte) (by kernel_rfl), Lib.run_indexByteString]
    rfl
  go_enter Try.func28, Try.ntmps28
  go_wp2
  go_ret
  exact ⟨rfl, rfl⟩
theorem index_in (l : List UInt8) (c : UInt8) : 0 ≤ Lib.indexByte l c ↔ c ∈ l := by
  have h := Lib.contains_iff_indexByte l c
  constructor
  · intro h0
    rw [decide_eq_true h0] at h
    simpa using h
  · intro h0
    have h1 : l.contains c = true := by simpa using h0
    rw [h1] at h
    exact of_decide_eq_true h.symm

set_option maxRecDepth 100000 in
set_option maxHeartbeats 1000000 in
theorem nl_index (s : ByteArray) (w : World) : Calls Try.prog 27 #[.string s, .string ⟨#[10]⟩] w fun e w' => ∃ r : Int, e = .returned (.int .i64 r) ∧ w' = w ∧ (0 ≤ r ↔ 10 ∈ s.data.toList) := by
  have H := hideT (index_any s 10)
  have HI := hideT (index_in s.data.toList 10)
  by_cases hs : s = ⟨#[10]⟩
  · subst hs
    go_enter Try.func27, Try.ntmps27
    go_wp2
    go_ret
    exact ⟨0, rfl, rfl, by simp⟩
  · have hb : (([10] : List UInt8) == s.toList) = false := by
      rw [beq_eq_false_iff_ne, ByteArray.toList_eq]
      intro e
      refine hs (ByteArray.ext (Array.toList_inj.1 ?_))
      rw [← e]
    clear hs
    go_enter Try.func27, Try.ntmps27
    go_wp2_with fail
    refine (H.out _).mono ?_
    rintro e w1 ⟨rfl, rfl⟩
    go_wp2
    go_ret
    exact ⟨_, rfl, rfl, HI.out⟩
set_option maxRecDepth 100000 in
set_option maxHeartbeats 1000000 in
theorem nl_index2 (s : ByteArray) (w : World) : Calls Try.prog 25 #[.string s, .string ⟨#[10]⟩] w fun e w' => ∃ r : Int, e = .returned (.int .i64 r) ∧ w' = w ∧ (0 ≤ r ↔ 10 ∈ s.data.toList) := by
  have H := hideT (nl_index s)
  go_enter Try.func25, Try.ntmps25
  go_wp2_with fail
  refine (H.out _).mono ?_
  rintro e w1 ⟨r, rfl, rfl, hr⟩
  have HR := hideT hr
  clear hr
  go_wp2
  go_ret
  exact ⟨_, rfl, rfl, HR.out⟩
set_option maxRecDepth 100000 in
set_option maxHeartbeats 1000000 in
theorem nl_contains (s : ByteArray) (w : World) : Calls Try.prog 23 #[.string s, .string ⟨#[10]⟩] w fun e w' => e = .returned (.bool (decide (10 ∈ s.data.toList))) ∧ w' = w := by
  have H := hideT (nl_index2 s)
  go_enter Try.func23, Try.ntmps23
  go_wp2_with fail
  refine (H.out _).mono ?_
  rintro e w1 ⟨r, rfl, rfl, hr⟩
  have HR := hideT hr
  clear hr
  by_cases h0 : 0 ≤ r
  · have HD := hideT (decide_eq_true (HR.out.1 h0))
    go_wp2
    go_ret
    exact ⟨by rw [HD.out]; rfl, rfl⟩
  · have h1 : (0 ≤ r) = False := by rw [eq_iff_iff, iff_false]; exact h0
    have HD := hideT (decide_eq_false (fun h => h0 (HR.out.2 h)))
    clear h0
    go_wp2
    go_ret
    exact ⟨by rw [HD.out]; rfl, rfl⟩

def lays316_ren : Go.Shelf.Ren := ⟨fun | 316 => 26 | n => n, fun | 37 => 39 | 127 => 48 | n => n, fun | n => n⟩
theorem lays316 : Go.Proofs.LaysM.n316 Try.prog lays316_ren := {
  mixed := by kernel_rfl
  f316 := Try.func26.trans (congrArg some (by kernel_rfl))
  t0 := Try.underlying0
  a0 := Try.isAgg0
  z0 := Try.sizeOf0
  v0 := Try.zeroValue0
  t3 := Try.underlying3
  a3 := Try.isAgg3
  z3 := Try.sizeOf3
  v3 := Try.zeroValue3
  t4 := Try.underlying4
  a4 := Try.isAgg4
  z4 := Try.sizeOf4
  v4 := Try.zeroValue4
  t9 := Try.underlying9
  a9 := Try.isAgg9
  z9 := Try.sizeOf9
  v9 := Try.zeroValue9
  t37 := Try.underlying39
  a37 := Try.isAgg39
  z37 := Try.sizeOf39
  v37 := Try.zeroValue39
  t127 := Try.underlying48
  a127 := Try.isAgg48
  z127 := Try.sizeOf48
  v127 := Try.zeroValue48
  t5 := Try.underlying5
  a5 := Try.isAgg5
  z5 := Try.sizeOf5
  v5 := Try.zeroValue5
  i0 := by kernel_rfl
  i3 := by kernel_rfl
  i4 := by kernel_rfl
  i5 := by kernel_rfl
  i9 := by kernel_rfl
  i37 := by kernel_rfl
  i127 := by kernel_rfl }
set_option maxRecDepth 100000 in
set_option maxHeartbeats 1000000 in
theorem clone_any (s : ByteArray) (w : World) (hs : s.size ≤ 140737488355000) : Calls Try.prog 24 #[.string s] w fun e w' => e = .returned (.string s) ∧ Below w.heap.size w w' := by
  have H := hideT (fun w => Any.stringslite_Clone lays316 s w (by omega))
  go_enter Try.func24, Try.ntmps24
  go_wp2_with fail
  refine (H.out _).mono ?_
  rintro e w1 ⟨rfl, hb⟩
  have B := hideT hb
  clear hb
  go_wp2
  go_ret
  exact ⟨rfl, B.out⟩
end Go.Proofs.Ytpdmfopkcdphaaa
