/- bracket.Parse and the document's Parse, at every text and place: one answer. -/
import Derived.Test.YtiedliahmjiadaaKDocP
set_option maxRecDepth 100000
set_option maxHeartbeats 1000000
namespace Go.Proofs.Ytiedliahmjiadaa
open Go.RowKit
noncomputable def parseX (s : ByteArray) (x : Int) : It := if 0 ≤ x then parseS s x.toNat else .err 1
theorem parse_bad (s : ByteArray) (x : Int) (h : ∀ w, Calls Try.prog 73 #[.string s, .int .i64 x, .int .u8 91] w fun e w' => e = .returned (.bool false) ∧ w' = w) (w : World) :
  Calls Try.prog 66 #[.string s, .int .i64 x] w fun e w' => e = .returned (.tuple #[.agg #[.int .u64 0, .int .u64 0, .int .u64 0, .int .u64 0], .int .i64 0, .int .i64 1]) ∧ Below w.heap.size w w' := by
 have H := hide h
 clear h
 go_enter Try.func66, Try.ntmps66
 go_wp2_with fail
 refine (H.out _).mono ?_
 rintro e ws ⟨rfl, hws⟩
 have hws := hws.symm
 subst hws
 go_wp2
 refine bodyPost_ret (v := .tuple #[.agg #[.int .u64 0, .int .u64 0, .int .u64 0, .int .u64 0], .int .i64 0, .int .i64 1]) ?_ rfl ⟨rfl, (Below.refl w.heap.size w).alloc (Nat.le_refl _) _⟩
 simp [results, Try.results66, go_sem]
theorem parse_any (s : ByteArray) (hs : s.size ≤ 1073741824) (x : Int) (w : World) (hg : Glob w) :
  Calls Try.prog 66 #[.string s, .int .i64 x] w fun e w' => e = .returned (.tuple #[.agg #[.int .u64 (wd (parseX s x).q 0 : Nat), .int .u64 (wd (parseX s x).q 1 : Nat), .int .u64 (wd (parseX s x).q 2 : Nat), .int .u64 (wd (parseX s x).q 3 : Nat)], .int .i64 ((parseX s x).next : Nat), .int .i64 (parseX s x).e]) ∧ Below w.heap.size w w' := by
 have bad : parseX s x = .err 1 → (∀ w, Calls Try.prog 73 #[.string s, .int .i64 x, .int .u8 91] w fun e w' => e = .returned (.bool false) ∧ w' = w) → Calls Try.prog 66 #[.string s, .int .i64 x] w fun e w' => e = .returned (.tuple #[.agg #[.int .u64 (wd (parseX s x).q 0 : Nat), .int .u64 (wd (parseX s x).q 1 : Nat), .int .u64 (wd (parseX s x).q 2 : Nat), .int .u64 (wd (parseX s x).q 3 : Nat)], .int .i64 ((parseX s x).next : Nat), .int .i64 (parseX s x).e]) ∧ Below w.heap.size w w' := by
  intro he h
  rw [he]
  simp only [It.err]
  unfold noneP
  rw [wd_none, wd_none, wd_none, wd_none]
  exact parse_bad s x h w
 by_cases h0 : 0 ≤ x
 ·obtain ⟨i, rfl⟩ : ∃ i : Nat, x = i := ⟨x.toNat, by omega⟩
  have hp : parseX s i = parseS s i := by rw [parseX, if_pos h0, Int.toNat_natCast]
  by_cases h91 : byteAt s i = 91
  ·rw [hp]
   by_cases h94 : byteAt s (i + 1) = 94
   ·exact parse_not s hs i h91 h94 w hg _ _ rfl (by rw [parseS, if_pos h91, if_pos h94])
   ·exact parse_plain s hs i h91 h94 w hg _ _ rfl (by rw [parseS, if_pos h91, if_neg h94])
  ·refine bad (by rw [hp, parseS, if_neg h91]) (fun w => ?_)
   have h := stands_any s i 91 (by decide) w
   rw [show (byteAt s i == 91) = false by simp [h91]] at h
   exact h
 ·exact bad (by rw [parseX, if_neg h0]) (stands_neg s x (by omega) 91)
end Go.Proofs.Ytiedliahmjiadaa
