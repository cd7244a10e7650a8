/- Walks: the document's Tail: the last n lines, at every text of at most 2^30 bytes and every n. -/
import Derived.Test.YtfmgpcefghoncaaSame
namespace Go.Proofs.Ytfmgpcefghoncaa
open Go.RowKit

/-- The last n of the texts. -/
def tailL (L : List (List UInt8)) (n : Int) : List (List UInt8) := if 0 < n then L.drop (L.length - n.toNat) else []

theorem owns_mono {W : World} {base base' : Nat} {e : TypeId} {size : Nat} {v : Value} {n : Nat} {xs : List Value} (h : W.ownsRow base e size v n xs) (hb : base' ≤ base) : W.ownsRow base' e size v n xs := by
  obtain ⟨hl, h⟩ := h
  refine ⟨hl, ?_⟩
  rcases h with h | ⟨g, cap, cur, hv, hg, rest⟩
  · exact .inl h
  · exact .inr ⟨g, cap, cur, hv, by omega, rest⟩

theorem pick_yes (L : List (List UInt8)) (a k : Nat) (hk : k < L.length) (ha : a ≤ k) : (L.take (k + 1)).drop a = (L.take k).drop a ++ [L[k]] := by
  rw [List.take_succ_eq_append_getElem hk, List.drop_append_of_le_length (by simp; omega)]
theorem pick_no (L : List (List UInt8)) (a k : Nat) (ha : k < a) : (L.take (k + 1)).drop a = [] ∧ (L.take k).drop a = [] := by
  constructor <;> (rw [List.drop_eq_nil_iff]; simp; omega)

set_option maxRecDepth 100000 in
set_option maxHeartbeats 1000000 in
theorem refTail_any (s : ByteArray) (hs : s.size ≤ 1073741824) (n : Int) (hn : -9223372036854775808 ≤ n ∧ n ≤ 9223372036854775807) (w : World) :
    Calls Try.prog 19 #[.string s, .int .i64 n] w fun e w' => ∃ v, e = .returned v ∧ w'.ownsRow w.heap.size 9 1 v (tailL (cutL s.data.toList) n).length (strVals (tailL (cutL s.data.toList) n)) ∧ Below w.heap.size w w' := by
  obtain ⟨i0, hi, hz0, hz1, hz2⟩ := info_parts info9
  have hcl := cutL_le s.data.toList
  have hsz : s.data.toList.length = s.size := by simp
  go_enter Try.func19, Try.ntmps19
  go_wp2_with fail
  refine (refCut_any s hs _).mono ?_
  rintro e w1 ⟨v, rfl, hown1, hb1⟩
  have hR := Row.of_owns hown1
  generalize hL : cutL s.data.toList = L at *
  clear hown1
  have hsz1 := hb1.size
  obtain ⟨pa, ca, rfl⟩ := hR.shape
  go_wp2_with fail
  go_loopw [6, 7] (fun o i wr => ∃ k : Nat, k ≤ L.length ∧ i = .int .i64 k ∧ (∃ out, Hid (out = if 0 < n then (L.take k).drop (L.length - n.toNat) else []) ∧ wr.ownsRow w1.heap.size 9 1 o out.length (strVals out)) ∧ Below w1.heap.size w1 wr) (fun _ i _ => L.length - (intOf i).toNat)
  case atStart => exact ⟨0, by omega, rfl, ⟨[], by simp [Hid], World.ownsRow_nil _ _ _ _⟩, Below.refl _ _⟩
  case round =>
    obtain ⟨k, hk, rfl, ⟨out, HO, hown⟩, hB⟩ := hrel
    have hszr := hB.size
    by_cases hlt : k < L.length
    · rcases hR with ⟨rfl, -⟩ | ⟨g, off, c, e1, ha⟩
      · simp at hlt
      cases e1
      have h1 := (hB.cell (p := ⟨g, off + k, none⟩) (cell_lt (ha k hlt))).trans (ha k hlt)
      by_cases hp : 0 < n
      · have hwr : wrap64 ((L.length : Int) - n) = (L.length : Int) - n := by unfold wrap64; omega
        by_cases hge : (L.length : Int) - n ≤ (k : Int)
        · have hol : out.length ≤ k := by rw [HO.out, if_pos hp]; simp; omega
          go_wp2_with (first | (at_builtin; refine wpList_append_own _ rfl _ _ 22 rfl w1.heap.size 9 i0 (.string ⟨#[]⟩) 1 16 Try.underlying22 hi hz0 hz1 hz2 rfl (by decide) _ _ _ rfl (hown.alloc _) ⟨wr.heap.size, 0, none⟩ 1 1 [.string (str L[k])] rfl rfl ?c1 ?c2 ?c3 ?c4 ?c5 ?_))
          case c1 => exact cell_one_new _ _ _
          case c2 => intro u hu; simp at hu; subst hu; rfl
          case c3 => unfold maxLen; omega
          case c4 => omega
          case c5 => simp; omega
          intro v' w2 hown2 hgrow _
          have hB2 := (hB.alloc hszr _).grown hgrow (by simp; omega) (owns_block hown)
          rw [← strVals_snoc] at hown2
          have hy := pick_yes L (L.length - n.toNat) k hlt (by omega)
          have HO2 : Hid (out ++ [L[k]] = if 0 < n then (L.take (k + 1)).drop (L.length - n.toNat) else []) := by
            show _ = _
            rw [if_pos hp, hy, HO.out, if_pos hp]
          clear hgrow hown hB HO hy h1
          go_wp2
          exact ⟨⟨k + 1, by omega, by go_num, ⟨_, HO2, by simpa using hown2⟩, hB2⟩, by simp [intOf]; omega⟩
        · have hno := pick_no L (L.length - n.toNat) k (by omega)
          go_wp2
          exact ⟨⟨k + 1, by omega, by go_num, ⟨out, (show _ = _ by rw [HO.out, if_pos hp, if_pos hp, hno.1, hno.2]), hown⟩, hB⟩, by simp [intOf]; omega⟩
      · go_wp2
        exact ⟨⟨k + 1, by omega, by go_num, ⟨out, (show _ = _ by rw [HO.out, if_neg hp, if_neg hp]), hown⟩, hB⟩, by simp [intOf]; omega⟩
    · obtain rfl : k = L.length := by omega
      go_wp2
      go_ret
      refine ⟨_, rfl, ?_, hb1.trans (hB.mono hsz1)⟩
      have e : out = tailL L n := by rw [HO.out]; simp [tailL]
      rw [e] at hown
      rw [hL]
      exact owns_mono hown hsz1
end Go.Proofs.Ytfmgpcefghoncaa
