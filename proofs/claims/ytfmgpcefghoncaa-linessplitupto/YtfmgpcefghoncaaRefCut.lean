/- Walks: the document's Cut: the lines of a text, in a new list, at every text of at most 2^30 bytes. -/
import Derived.Test.YtfmgpcefghoncaaRows
import Derived.WalkKit
import Derived.WalkSpells
import Derived.WalkLawsBesides
import Derived.Test.YtfmgpcefghoncaaPlain
namespace Go.Proofs.Ytfmgpcefghoncaa
open Go.RowKit

theorem owns_below {w w' : World} {base : Nat} {e : TypeId} {size : Nat} {v : Value} {n : Nat} {xs : List Value} (h : w.ownsRow base e size v n xs) (hb : Below w.heap.size w w') : w'.ownsRow base e size v n xs := by
  obtain ⟨hl, h⟩ := h
  refine ⟨hl, ?_⟩
  rcases h with h | ⟨g, cap, cur, hv, hg, hh, rest⟩
  · exact .inl h
  · have hlt : g < w.heap.size := (Array.getElem?_eq_some_iff.1 hh).1
    exact .inr ⟨g, cap, cur, hv, hg, (hb.block g hlt).trans hh, rest⟩

theorem owns_block {w : World} {base : Nat} {e : TypeId} {size : Nat} {v : Value} {n : Nat} {xs : List Value} (h : w.ownsRow base e size v n xs) : ∀ k, v.ownBlock = some k → base ≤ k := by
  rcases h.2 with ⟨rfl, -⟩ | ⟨g, cap, cur, rfl, hg, -⟩
  · intro k hk; cases hk
  · intro k hk; cases hk; exact hg

theorem info9 : (Try.prog.info? 9).map (fun i => (i.zero, i.size, i.bytes)) = some (some (.string ⟨#[]⟩), 1, 16) := by kernel_rfl

theorem byte_ten (s : ByteArray) (k : Nat) (h : k < s.size) (hq : ((s[k].toNat : Int) == 10) = true) : s.data.toList[k]'(by simpa using h) = 10 := by
  have h1 : s[k].toNat = 10 := by rw [beq_iff_eq] at hq; omega
  have h2 : s[k] = 10 := UInt8.toNat_inj.1 h1
  have h3 : s.data[k]'h = 10 := h2
  rw [Array.getElem_toList]
  exact h3

theorem byte_not (s : ByteArray) (k : Nat) (h : k < s.size) (hq : ((s[k].toNat : Int) == 10) = false) : s.data.toList[k]'(by simpa using h) ≠ 10 := by
  intro h2
  rw [Array.getElem_toList] at h2
  have h3 : s[k] = 10 := h2
  rw [h3] at hq
  revert hq
  decide

set_option maxRecDepth 100000 in
set_option maxHeartbeats 1000000 in
theorem refCut_any (s : ByteArray) (hs : s.size ≤ 1073741824) (w : World) :
    Calls Try.prog 12 #[.string s] w fun e w' => ∃ v, e = .returned v ∧ w'.ownsRow w.heap.size 9 1 v (cutL s.data.toList).length (strVals (cutL s.data.toList)) ∧ Below w.heap.size w w' := by
  obtain ⟨i0, hi, hz0, hz1, hz2⟩ := info_parts info9
  go_enter Try.func12, Try.ntmps12
  go_wp2_with fail
  go_loopw [3, 4, 5] (fun v f i wr => ∃ (k j : Nat) (done : List (List UInt8)), Hid (Inv s.data.toList k j done) ∧ j ≤ k ∧ k ≤ s.size ∧ done.length ≤ k ∧ i = .int .i64 k ∧ f = .int .i64 j ∧ wr.ownsRow w.heap.size 9 1 v done.length (strVals done) ∧ Below w.heap.size w wr) (fun _ _ i _ => s.size - (intOf i).toNat)
  case atStart => exact ⟨0, 0, [], Inv.start _, by omega, by omega, by simp, rfl, rfl, World.ownsRow_nil _ _ _ _, Below.refl _ _⟩
  case round =>
    obtain ⟨k, j, done, HI, hjk, hk, hd, rfl, rfl, hown, hB⟩ := hrel
    have hsz := hB.size
    by_cases hlt : k < s.size
    · go_wp2_with (first | (at_builtin; refine wpList_append_own _ rfl _ _ 22 rfl w.heap.size 9 i0 (.string ⟨#[]⟩) 1 16 Try.underlying22 hi hz0 hz1 hz2 rfl (by decide) _ _ _ rfl (hown.alloc _) ⟨wr.heap.size, 0, none⟩ 1 1 [.string (s.extract j k)] rfl rfl ?c1 ?c2 ?c3 ?c4 ?c5 ?_))
      case c1 => exact cell_one_new _ _ _
      case c2 => intro u hu; simp at hu; subst hu; rfl
      case c3 => unfold maxLen; omega
      case c4 => omega
      case c5 => simp; omega
      · intro v' w2 hown2 hgrow _
        have hq : ((s[k].toNat : Int) == 10) = true := by assumption
        have hB2 := (hB.alloc hsz _).grown hgrow (by simp; omega) (owns_block hown)
        have HI2 : Hid _ := HI.out.line (by simpa using hlt) (byte_ten s k hlt hq)
        rw [extract_str, ← strVals_snoc] at hown2
        clear hgrow hown hB HI
        go_wp2
        go_roundw
        case rel => exact ⟨k + 1, k + 1, _, HI2, by omega, by omega, by simp; omega, by go_num, by go_num, by simpa using hown2, hB2⟩
        case measure => simp [intOf]; omega
      · have hq : ((s[k].toNat : Int) == 10) = false := by assumption
        exact ⟨⟨k + 1, j, done, HI.out.byte (by simpa using hlt) (byte_not s k hlt hq), by omega, by omega, by omega, by go_num, rfl, hown, hB⟩, by simp [intOf]; omega⟩
    · obtain rfl : k = s.size := by omega
      have hst : cutL s.data.toList = if j < s.size then done ++ [s.data.toList.drop j] else done := by
        have h := Inv.stop (l := s.data.toList) (f := j) (done := done) (by simpa using HI.out)
        simpa using h
      by_cases hj : j < s.size
      · rw [if_pos hj] at hst
        have HS : Hid _ := hst
        clear hst HI
        go_wp2_with (first | (at_builtin; refine wpList_append_own _ rfl _ _ 22 rfl w.heap.size 9 i0 (.string ⟨#[]⟩) 1 16 Try.underlying22 hi hz0 hz1 hz2 rfl (by decide) _ _ _ rfl (hown.alloc _) ⟨wr.heap.size, 0, none⟩ 1 1 [.string (s.extract j s.size)] rfl rfl ?e1 ?e2 ?e3 ?e4 ?e5 ?_))
        case e1 => exact cell_one_new _ _ _
        case e2 => intro u hu; simp at hu; subst hu; rfl
        case e3 => unfold maxLen; omega
        case e4 => omega
        case e5 => simp; omega
        intro v' w2 hown2 hgrow _
        have hB2 := (hB.alloc hsz _).grown hgrow (by simp; omega) (owns_block hown)
        rw [extract_str, ← strVals_snoc] at hown2
        clear hgrow hown hB
        go_wp2
        go_ret
        have e : (s.data.toList.drop j).take (s.size - j) = s.data.toList.drop j := List.take_of_length_le (by simp)
        rw [e] at hown2
        exact ⟨_, rfl, by rw [HS.out]; simpa using hown2, hB2⟩
      · rw [if_neg hj] at hst
        have HS : Hid _ := hst
        clear hst HI
        go_wp2
        go_ret
        exact ⟨_, rfl, by rw [HS.out]; exact hown, hB⟩
end Go.Proofs.Ytfmgpcefghoncaa
