/- Walks: awake: the calls whose answers the document fixes are answered so. -/
import Derived.Test.YtfmgpcefghoncaaCutC
import Derived.Test.YtfmgpcefghoncaaSame
import Derived.Test.YtfmgpcefghoncaaNum
import Derived.Test.YtfmgpcefghoncaaJoin
import Derived.Test.YtfmgpcefghoncaaTl
namespace Go.Proofs.Ytfmgpcefghoncaa
open Go.RowKit

/-- A slice just written out. -/
theorem row_lit (W : World) (l : List (List UInt8)) (cs : Array Value) (h : cs.toList = strVals l) (c : Nat) : Row (W.alloc (.cells cs 9)) (.slice (some ⟨W.heap.size, 0, none⟩) l.length c) l := by
  refine .inr ⟨W.heap.size, 0, c, rfl, fun i hi => ?_⟩
  have hb : (W.alloc (.cells cs 9)).heap[W.heap.size]? = some (.cells cs 9) := World.alloc_heap_new W _
  rw [Lib.cell_of_heap hb, Nat.zero_add, ← Array.getElem?_toList, h]
  simp [strVals, List.getElem?_eq_getElem hi]

theorem tail_any (s : ByteArray) (hs : s.size ≤ 1073741824) (n : Int) (hn : n ≤ 9223372036854775807) (w : World) :
    Calls Try.prog 18 #[.string s, .int .i64 n] w fun e w' => ∃ v, e = .returned v ∧ w'.ownsRow w.heap.size 9 1 v (tailL (cutL s.data.toList) n).length (strVals (tailL (cutL s.data.toList) n)) ∧ Below w.heap.size w w' := by
  by_cases hp : 0 < n
  · exact tail_some s hs n hp hn w
  · refine (tail_none s n (by omega) w).mono ?_
    rintro e w' ⟨rfl, hb⟩
    have e : tailL (cutL s.data.toList) n = [] := by simp [tailL, hp]
    rw [e]
    exact ⟨_, rfl, World.ownsRow_nil _ _ _ _, hb⟩

set_option maxRecDepth 100000 in
set_option maxHeartbeats 1000000 in
theorem awake_any (w : World) : Calls Try.prog 10 #[] w fun e w' => e = .returned (.bool true) ∧ Below w.heap.size w w' := by
  go_enter Try.func10, Try.ntmps10
  go_wp2_with fail
  refine (number_in ⟨#[97, 10, 98]⟩ (by decide) 2 (by decide) w).mono ?_
  rintro e w1 ⟨rfl, hw1⟩
  have hw1 := hw1.symm
  subst hw1
  rw [show numL (⟨#[97, 10, 98]⟩ : ByteArray).data.toList 2 = 2 by decide]
  go_wp2_with fail
  refine (cutCall ⟨#[97, 10, 10, 98]⟩ (by decide) w).mono ?_
  rintro e w2 ⟨v2, rfl, hown2, hb2⟩
  rw [show cutL (⟨#[97, 10, 10, 98]⟩ : ByteArray).data.toList = [[97], [], [98]] by decide] at hown2
  have hR2 := Row.of_owns hown2
  have hlt2 := hown2.lt
  obtain ⟨pa, ca, rfl⟩ := hR2.shape
  go_wp2_with fail
  have hsz2 := hb2.size
  have hbA := hb2.alloc hsz2 (.cells #[.string ⟨#[97]⟩, .string ⟨#[]⟩, .string ⟨#[98]⟩] 9)
  refine (same_any _ _ [[97], [], [98]] [[97], [], [98]] _ (hR2.below ((Below.refl w2.heap.size w2).alloc (Nat.le_refl _) _) (fun k hk => (hlt2 k hk).2)) (row_lit w2 [[97], [], [98]] _ rfl 3) (by decide) (by decide)).mono ?_
  rintro e w3 ⟨rfl, hb3⟩
  rw [show decide (([[97], [], [98]] : List (List UInt8)) = [[97], [], [98]]) = true by decide]
  have hsz3 := hb3.size
  have hB3 := hbA.trans (hb3.mono (by simp; omega))
  rw [World.size_alloc] at hsz3
  clear hbA hb3 hb2 hown2 hR2 hlt2
  go_wp2_with fail
  have hbB := hB3.alloc hB3.size (.cells #[.string ⟨#[97]⟩, .string ⟨#[]⟩] 9)
  refine (join_any _ [[97], []] _ (row_lit w3 [[97], []] _ rfl 2) (by decide) (by decide)).mono ?_
  rintro e w4 ⟨rfl, hb4⟩
  rw [show str (joinL [[97], []]) = ⟨#[97, 10, 10]⟩ from rfl]
  have hsz4 := hb4.size
  have hszB := hB3.size
  have hB4 := hbB.trans (hb4.mono (by simp; omega))
  clear hbB hb4 hB3
  go_wp2_with fail
  refine (tail_any ⟨#[97, 10, 98, 10, 99]⟩ (by decide) 2 (by decide) w4).mono ?_
  rintro e w5 ⟨v5, rfl, hown5, hb5⟩
  rw [show tailL (cutL (⟨#[97, 10, 98, 10, 99]⟩ : ByteArray).data.toList) 2 = [[98], [99]] by decide] at hown5
  have hR5 := Row.of_owns hown5
  have hlt5 := hown5.lt
  obtain ⟨pb, cb, rfl⟩ := hR5.shape
  have hB5 := hB4.trans (hb5.mono hB4.size)
  clear hb5 hB4 hown5
  go_wp2_with fail
  have hbC := hB5.alloc hB5.size (.cells #[.string ⟨#[98]⟩, .string ⟨#[99]⟩] 9)
  have hsz5 := hB5.size
  refine (same_any _ _ [[98], [99]] [[98], [99]] _ (hR5.below ((Below.refl w5.heap.size w5).alloc (Nat.le_refl _) _) (fun k hk => (hlt5 k hk).2)) (row_lit w5 [[98], [99]] _ rfl 2) (by decide) (by decide)).mono ?_
  rintro e w6 ⟨rfl, hb6⟩
  rw [show decide (([[98], [99]] : List (List UInt8)) = [[98], [99]]) = true by decide]
  have hB6 := hbC.trans (hb6.mono (by simp; omega))
  clear hbC hb6 hB5 hR5 hlt5
  go_wp2
  go_ret
  exact ⟨rfl, hB6⟩
end Go.Proofs.Ytfmgpcefghoncaa
