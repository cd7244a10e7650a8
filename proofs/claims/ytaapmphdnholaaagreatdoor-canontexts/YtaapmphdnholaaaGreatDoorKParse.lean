/- bracket.Parse and the document's Parse, at every text and place: one answer. -/
import Derived.Test.YtaapmphdnholaaaGreatDoorKDocP
set_option maxRecDepth 100000
set_option maxHeartbeats 1000000
namespace Go.Proofs.YtaapmphdnholaaaGreatDoor
open Go.RowKit
noncomputable def xaz (s : ByteArray) (x : Int) : It := if 0 ≤ x then xbn s x.toNat else .err 1
theorem xrl (s : ByteArray) (x : Int) (h : ∀ w, Calls Tryz.prog 86 #[.string s, .int .i64 x, .int .u8 91] w fun e w' => e = .returned (.bool false) ∧ w' = w) (w : World) :
  Calls Tryz.prog 72 #[.string s, .int .i64 x] w fun e w' => e = .returned (.tuple #[.agg #[.int .u64 0, .int .u64 0, .int .u64 0, .int .u64 0], .int .i64 0, .int .i64 1]) ∧ Below w.heap.size w w' := by
 have H := hide h
 clear h
 go_enter Tryz.func72, Tryz.ntmps72
 go_wp2_with fail
 refine (H.out _).mono ?_
 rintro e ws ⟨rfl, hws⟩
 have hws := hws.symm
 subst hws
 go_wp2
 refine bodyPost_ret (v := .tuple #[.agg #[.int .u64 0, .int .u64 0, .int .u64 0, .int .u64 0], .int .i64 0, .int .i64 1]) ?_ rfl ⟨rfl, (Below.refl w.heap.size w).alloc (Nat.le_refl _) _⟩
 simp [results, Tryz.results72, go_sem]
theorem xlb (s : ByteArray) (x : Int) (h : x < 0) (w : World) :
  Calls Tryz.prog 42 #[.string s, .int .i64 x] w fun e w' => e = .returned (.tuple #[.agg #[.int .u64 0, .int .u64 0, .int .u64 0, .int .u64 0], .int .i64 0, .int .i64 1]) ∧ Below w.heap.size w w' := by
 go_enter Tryz.func42, Tryz.ntmps42
 go_wp2
 refine bodyPost_ret (v := .tuple #[.agg #[.int .u64 0, .int .u64 0, .int .u64 0, .int .u64 0], .int .i64 0, .int .i64 1]) ?_ rfl ⟨rfl, ((Below.refl w.heap.size w).alloc (Nat.le_refl _) _).alloc (by simp) _⟩
 simp [results, Tryz.results42, go_sem]
theorem xlc (s : ByteArray) (x : Int) (h : (s.size : Int) ≤ x) (w : World) :
  Calls Tryz.prog 42 #[.string s, .int .i64 x] w fun e w' => e = .returned (.tuple #[.agg #[.int .u64 0, .int .u64 0, .int .u64 0, .int .u64 0], .int .i64 0, .int .i64 1]) ∧ Below w.heap.size w w' := by
 have h0 : ¬ x < 0 := by omega
 go_enter Tryz.func42, Tryz.ntmps42
 go_wp2
 refine bodyPost_ret (v := .tuple #[.agg #[.int .u64 0, .int .u64 0, .int .u64 0, .int .u64 0], .int .i64 0, .int .i64 1]) ?_ rfl ⟨rfl, ((Below.refl w.heap.size w).alloc (Nat.le_refl _) _).alloc (by simp) _⟩
 simp [results, Tryz.results42, go_sem]
theorem xiv (s : ByteArray) (i : Nat) (h : i < s.size) (h91 : ¬ xac s i = 91) (w : World) :
  Calls Tryz.prog 42 #[.string s, .int .i64 i] w fun e w' => e = .returned (.tuple #[.agg #[.int .u64 0, .int .u64 0, .int .u64 0, .int .u64 0], .int .i64 0, .int .i64 1]) ∧ Below w.heap.size w w' := by
 rw [xah h] at h91
 have hb91 : ((s[i].toNat : Int) != 91) = true := by simp [h91]
 clear h91
 go_enter Tryz.func42, Tryz.ntmps42
 go_wp2
 refine bodyPost_ret (v := .tuple #[.agg #[.int .u64 0, .int .u64 0, .int .u64 0, .int .u64 0], .int .i64 0, .int .i64 1]) ?_ rfl ⟨rfl, ((Below.refl w.heap.size w).alloc (Nat.le_refl _) _).alloc (by simp) _⟩
 simp [results, Tryz.results42, go_sem]
theorem xrm (s : ByteArray) (hs : s.size ≤ 1073741824) (x : Int) (w : World) (hg : Glob w) :
  Calls Tryz.prog 72 #[.string s, .int .i64 x] w fun e w' => e = .returned (.tuple #[.agg #[.int .u64 (wd (xaz s x).q 0), .int .u64 (wd (xaz s x).q 1), .int .u64 (wd (xaz s x).q 2), .int .u64 (wd (xaz s x).q 3)], .int .i64 ((xaz s x).next : Nat), .int .i64 (xaz s x).e]) ∧ Below w.heap.size w w' := by
 have bad : xaz s x = .err 1 → (∀ w, Calls Tryz.prog 86 #[.string s, .int .i64 x, .int .u8 91] w fun e w' => e = .returned (.bool false) ∧ w' = w) → Calls Tryz.prog 72 #[.string s, .int .i64 x] w fun e w' => e = .returned (.tuple #[.agg #[.int .u64 (wd (xaz s x).q 0), .int .u64 (wd (xaz s x).q 1), .int .u64 (wd (xaz s x).q 2), .int .u64 (wd (xaz s x).q 3)], .int .i64 ((xaz s x).next : Nat), .int .i64 (xaz s x).e]) ∧ Below w.heap.size w w' := by
  intro he h
  rw [he]
  simp only [It.err]
  unfold xad
  rw [xaa, xaa, xaa, xaa]
  exact xrl s x h w
 by_cases h0 : 0 ≤ x
 ·obtain ⟨i, rfl⟩ : ∃ i : Nat, x = i := ⟨x.toNat, by omega⟩
  have hp : xaz s i = xbn s i := by rw [xaz, if_pos h0, Int.toNat_natCast]
  by_cases h91 : xac s i = 91
  ·rw [hp]
   by_cases h94 : xac s (i + 1) = 94
   ·exact xrk s hs i h91 h94 w hg _ _ rfl (by rw [xbn, if_pos h91, if_pos h94])
   ·exact xm6 s hs i h91 h94 w hg _ _ rfl (by rw [xbn, if_pos h91, if_neg h94])
  ·refine bad (by rw [hp, xbn, if_neg h91]) (fun w => ?_)
   have h := xbl s i 91 (by decide) w
   rw [show (xac s i == 91) = false by simp [h91]] at h
   exact h
 ·exact bad (by rw [xaz, if_neg h0]) (xpv s x (by omega) 91)
theorem xld (s : ByteArray) (hs : s.size ≤ 1073741824) (x : Int) (w : World) :
  Calls Tryz.prog 42 #[.string s, .int .i64 x] w fun e w' => e = .returned (.tuple #[.agg #[.int .u64 (wd (xaz s x).q 0), .int .u64 (wd (xaz s x).q 1), .int .u64 (wd (xaz s x).q 2), .int .u64 (wd (xaz s x).q 3)], .int .i64 ((xaz s x).next : Nat), .int .i64 (xaz s x).e]) ∧ Below w.heap.size w w' := by
 have bad : xaz s x = .err 1 → (Calls Tryz.prog 42 #[.string s, .int .i64 x] w fun e w' => e = .returned (.tuple #[.agg #[.int .u64 0, .int .u64 0, .int .u64 0, .int .u64 0], .int .i64 0, .int .i64 1]) ∧ Below w.heap.size w w') → Calls Tryz.prog 42 #[.string s, .int .i64 x] w fun e w' => e = .returned (.tuple #[.agg #[.int .u64 (wd (xaz s x).q 0), .int .u64 (wd (xaz s x).q 1), .int .u64 (wd (xaz s x).q 2), .int .u64 (wd (xaz s x).q 3)], .int .i64 ((xaz s x).next : Nat), .int .i64 (xaz s x).e]) ∧ Below w.heap.size w w' := by
  intro he h
  rw [he]
  simp only [It.err]
  unfold xad
  rw [xaa, xaa, xaa, xaa]
  exact h
 by_cases h0 : 0 ≤ x
 ·obtain ⟨i, rfl⟩ : ∃ i : Nat, x = i := ⟨x.toNat, by omega⟩
  have hp : xaz s i = xbn s i := by rw [xaz, if_pos h0, Int.toNat_natCast]
  by_cases h91 : xac s i = 91
  ·rw [hp]
   by_cases h94 : xac s (i + 1) = 94
   ·exact xla s hs i h91 h94 w _ _ rfl (by rw [xbn, if_pos h91, if_pos h94])
   ·exact xiu s hs i h91 h94 w _ _ rfl (by rw [xbn, if_pos h91, if_neg h94])
  ·refine bad (by rw [hp, xbn, if_neg h91]) ?_
   by_cases h : i < s.size
   ·exact xiv s i h h91 w
   ·exact xlc s i (by omega) w
 ·exact bad (by rw [xaz, if_neg h0]) (xlb s x (by omega) w)
end Go.Proofs.YtaapmphdnholaaaGreatDoor
