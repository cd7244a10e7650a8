/- scan: the document's inside, Blanks, Number. -/
import Derived.Test.YtcfbmdelgfkfeaaDoorSa
import Derived.Test.YtcfbmdelgfkfeaaDoorUk
namespace Go.Proofs.YtcfbmdelgfkfeaaDoor
open Go.RowKit
open scanP

theorem dat_at (s : ByteArray) (k : Nat) (h : k < s.size) : s.data.toList[k]'h = s[k]'h := rfl

set_option maxRecDepth 100000 in
set_option maxHeartbeats 1000000 in
theorem inside_doc (s : ByteArray) (i : Int) (hs : s.size ≤ 140737488355000) (w : World) : Calls Tryd.prog 25 #[.string s, .int .i64 i] w fun e w' => e = .returned (.int .i64 (insN s.size i : Nat)) ∧ w' = w := by
  by_cases h0 : i < 0
  · have e : insN s.size i = 0 := by unfold insN; omega
    rw [e]
    go_enter Tryd.func25, Tryd.ntmps25
    go_wp2
    go_ret
    exact ⟨rfl, rfl⟩
  · have h0' : (i < 0) = False := by rw [eq_iff_iff, iff_false]; exact h0
    by_cases h1 : (s.size : Int) < i
    · have e : insN s.size i = s.size := by unfold insN; omega
      rw [e]
      go_enter Tryd.func25, Tryd.ntmps25
      go_wp2
      go_ret
      exact ⟨rfl, rfl⟩
    · have h1' : ((s.size : Int) < i) = False := by rw [eq_iff_iff, iff_false]; exact h1
      have e : ((insN s.size i : Nat) : Int) = i := by unfold insN; omega
      rw [e]
      go_enter Tryd.func25, Tryd.ntmps25
      go_wp2
      go_ret
      exact ⟨rfl, rfl⟩

end Go.Proofs.YtcfbmdelgfkfeaaDoor
