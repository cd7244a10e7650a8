/- bre: Same, of a tree and its like. -/
import Derived.Test.YtaapmphdnholaaaGreatDoorKQf
import Derived.Test.YtaapmphdnholaaaGreatDoorKQt
import Derived.Test.YtaapmphdnholaaaGreatDoorKDm
import Derived.Deep.Cut
import Derived.Lib.QuietBelow
import Derived.Deep.QuietTactic
import Derived.Handy
namespace Go.Proofs.YtaapmphdnholaaaGreatDoor
open Go.RowKit
open Go.Sort
theorem xjk (s : ByteArray) (w : World) (hg : Glob w) : Calls Tryz.prog 8 #[.string s] w (xn8 s w) := by
 by_cases h : s.size ≤ 512
 ·exact xma s h w hg
 ·exact xkr s (by omega) w
theorem doc_ok (s : ByteArray) (ts : List Tr) (h : xav s = .ok ts) (w : World) (hg : Glob w) : Calls Tryz.prog 8 #[.string s] w fun e w' => Below w.heap.size w w' ∧ ∃ a n c, e = .returned (.tuple #[.agg #[.int .i64 0, .int .u64 0, .int .u64 0, .int .u64 0, .int .u64 0, .int .i64 0, .int .i64 0, .int .i64 0, .slice a n c], .int .i64 0, .int .i64 0]) ∧ Kids w' (fun g => w.heap.size ≤ g) (.slice a n c) ts := by
 refine (xjk s w hg).mono ?_
 rintro e w' ⟨hB, ⟨er, p, h1, _⟩ | ⟨us, a, n, c, h1, h2, h3⟩⟩
 ·rw [h] at h1; cases h1
 ·rw [h] at h1
  cases h1
  exact ⟨hB, a, n, c, h2, h3⟩
theorem doc_err (s : ByteArray) (er : Int) (p : Nat) (h : xav s = .error (er, p)) (w : World) (hg : Glob w) : Calls Tryz.prog 8 #[.string s] w fun e w' => Below w.heap.size w w' ∧ e = .returned (.tuple #[.agg #[.int .i64 0, .int .u64 0, .int .u64 0, .int .u64 0, .int .u64 0, .int .i64 0, .int .i64 0, .int .i64 0, .slice none 0 0], .int .i64 er, .int .i64 p]) := by
 refine (xjk s w hg).mono ?_
 rintro e w' ⟨hB, ⟨er', p', h1, h2⟩ | ⟨us, a, n, c, h1, _⟩⟩
 ·rw [h] at h1
  cases h1
  exact ⟨hB, h2⟩
 ·rw [h] at h1; cases h1
namespace parses
end parses
end Go.Proofs.YtaapmphdnholaaaGreatDoor
