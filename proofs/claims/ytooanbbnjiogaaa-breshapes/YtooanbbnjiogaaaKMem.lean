/- Walks: the document's Members and Count: the bytes of a set, rising, in a new list. -/
import Derived.Test.YtooanbbnjiogaaaKCount
namespace Go.Proofs.Ytooanbbnjiogaaa
open Go.RowKit

/-- The members below k, rising. -/
def mem (p : Nat → Bool) (k : Nat) : List Nat := (List.range k).filter p

/-- Bytes as Go holds them. -/
def byteVals (l : List Nat) : List Value := l.map fun n => Value.int .u8 (n : Nat)

theorem mem_succ (p : Nat → Bool) (k : Nat) : mem p (k + 1) = if p k then mem p k ++ [k] else mem p k := by
  unfold mem
  rw [List.range_succ, List.filter_append]
  by_cases h : p k = true <;> simp [h]

theorem mem_le (p : Nat → Bool) (k : Nat) : (mem p k).length ≤ k := by
  have := List.length_filter_le p (List.range k)
  simpa [mem] using this

theorem byteVals_snoc (l : List Nat) (k : Nat) : byteVals (l ++ [k]) = byteVals l ++ [.int .u8 (k : Nat)] := by simp [byteVals]

theorem owns_below {w w' : World} {base : Nat} {e : TypeId} {size : Nat} {v : Value} {n : Nat} {xs : List Value} (h : w.ownsRow base e size v n xs) (hb : Below w.heap.size w w') : w'.ownsRow base e size v n xs := by
  obtain ⟨hl, h⟩ := h
  refine ⟨hl, ?_⟩
  rcases h with h | ⟨g, cap, cur, hv, hg, hh, rest⟩
  · exact .inl h
  · have hlt : g < w.heap.size := (Array.getElem?_eq_some_iff.1 hh).1
    exact .inr ⟨g, cap, cur, hv, hg, (hb.block g hlt).trans hh, rest⟩

theorem owns_block {w : World} {base : Nat} {e : TypeId} {size : Nat} {v : Value} {n : Nat} {xs : List Value} (h : w.ownsRow base e size v n xs) : ∀ k, v.ownBlock = some k → base ≤ k := by
  rcases h.2 with ⟨rfl, -⟩ | ⟨g, cap, cur, rfl, hg, -⟩
  · intro k hk; cases hk
  · intro k hk; cases hk; exact hg

theorem info5 : (Try.prog.info? 5).map (fun i => (i.zero, i.size, i.bytes)) = some (some (.int .u8 0), 1, 1) := by kernel_rfl

set_option maxRecDepth 100000 in
set_option maxHeartbeats 1000000 in
theorem refMembers_any (p : Nat → Bool) (w : World) :
    Calls Try.prog 86 #[.agg #[.int .u64 (wd p 0 : Nat), .int .u64 (wd p 1 : Nat), .int .u64 (wd p 2 : Nat), .int .u64 (wd p 3 : Nat)]] w fun e w' => ∃ v, e = .returned v ∧ w'.ownsRow w.heap.size 5 1 v (card p) (byteVals (mem p 256)) ∧ Below w.heap.size w w' := by
  obtain ⟨i0, hi, hz0, hz1, hz2⟩ := info_parts info5
  go_enter Try.func86, Try.ntmps86
  go_wp2_with fail
  have h0 := holds4_new w p 24
  generalize hW : w.alloc (.cells #[.int .u64 (wd p 0 : Nat), .int .u64 (wd p 1 : Nat), .int .u64 (wd p 2 : Nat), .int .u64 (wd p 3 : Nat)] 24) = W0 at *
  have hs0 : W0.heap.size = w.heap.size + 1 := by rw [← hW]; simp
  have hB0 : Below w.heap.size w W0 := by rw [← hW]; exact (Below.refl _ _).alloc (Nat.le_refl _) _
  clear hW
  go_loopw [3, 4] (fun v i wr => ∃ k : Nat, k ≤ 256 ∧ i = .int .i64 k ∧ wr.ownsRow (w.heap.size + 1) 5 1 v (mem p k).length (byteVals (mem p k)) ∧ Below (w.heap.size + 1) W0 wr) (fun _ i _ => (256 - intOf i).toNat)
  case atStart => exact ⟨0, by omega, rfl, World.ownsRow_nil _ _ _ _, Below.refl _ _⟩
  case round =>
    obtain ⟨k, hk1, rfl, hown, hB⟩ := hrel
    have hp0 := h0.below hB (by omega)
    have hsz := hB.size
    by_cases hlt : k < 256
    · obtain ⟨⟨c0, c1, c2, c3⟩, -⟩ := id hp0
      go_wp2_with fail
      refine (refHas_any p k (by omega) (by omega) _).mono ?_
      rintro e w1 ⟨rfl, hb1⟩
      clear c0 c1 c2 c3
      rw [Int.toNat_natCast]
      have hown1 := owns_below hown hb1
      have hB1 := hB.trans (hb1.mono (by omega))
      have hsz1 := hB1.size
      obtain ⟨b, hb⟩ : ∃ b, p k = b := ⟨_, rfl⟩
      rw [hb]
      have hms := mem_succ p k
      have hle := mem_le p k
      rw [hb] at hms
      have HM : Hid _ := hms
      clear hb hms
      cases b
      · go_wp2
        go_roundw
        case rel => exact ⟨k + 1, by omega, by go_num, by rw [HM.out]; exact hown1, hB1⟩
        case measure => simp [intOf]; omega
      · have hLen : Hid ((mem p k).length ≤ k) := hle
        clear hle
        go_wp2_with (first | (at_builtin; refine wpList_append_own _ rfl _ _ 66 rfl (w.heap.size + 1) 5 i0 (.int .u8 0) 1 1 Try.underlying66 hi hz0 hz1 hz2 rfl (by decide) _ _ _ rfl (hown1.alloc _) ⟨w1.heap.size, 0, none⟩ 1 1 [.int .u8 (k : Nat)] rfl rfl ?c1 ?c2 ?c3 ?c4 ?c5 ?_))
        case c1 => exact cell_one_new _ _ _
        case c2 => intro u hu; simp at hu; subst hu; rfl
        case c3 => have := hLen.out; unfold maxLen; omega
        case c4 => have := hLen.out; omega
        case c5 => simp; omega
        · intro v' w2 hown2 hgrow _
          have hB2 := (hB1.alloc (by omega) _).grown hgrow (by simp; omega) (owns_block hown1)
          rw [← byteVals_snoc] at hown2
          clear hgrow hown1 hB1 hown hB
          go_wp2
          go_roundw
          case rel => exact ⟨k + 1, by omega, by go_num, by rw [HM.out]; simpa using hown2, hB2⟩
          case measure => simp [intOf]; omega
    · obtain rfl : k = 256 := by omega
      go_wp2
      go_ret
      refine ⟨_, rfl, ?_, hB0.trans (hB.mono (by omega))⟩
      obtain ⟨hl, h⟩ := hown
      refine ⟨hl, ?_⟩
      rcases h with h | ⟨g, cap, cur, hv, hg, rest⟩
      · exact .inl h
      · exact .inr ⟨g, cap, cur, hv, by omega, rest⟩

set_option maxHeartbeats 400000 in
theorem refCountD (p : Nat → Bool) (w : World) :
    Calls Try.prog 78 #[.agg #[.int .u64 (wd p 0 : Nat), .int .u64 (wd p 1 : Nat), .int .u64 (wd p 2 : Nat), .int .u64 (wd p 3 : Nat)]] w fun e w' => e = .returned (.int .i64 (card p : Nat)) ∧ Below w.heap.size w w' := by
  go_enter Try.func78, Try.ntmps78
  go_wp2_with fail
  refine (refMembers_any p _).mono ?_
  rintro e w1 ⟨v, rfl, hown, hb1⟩
  have hv : ∃ a c, v = .slice a (card p) c := by
    rcases hown.2 with ⟨rfl, h0⟩ | ⟨g, cap, cur, rfl, -⟩
    · exact ⟨none, 0, by rw [h0]⟩
    · exact ⟨_, _, rfl⟩
  obtain ⟨a, c, hv⟩ := hv
  rw [hv]
  clear hown hv
  go_wp2
  go_ret
  exact ⟨rfl, ((Below.refl _ _).alloc (Nat.le_refl _) _).trans (hb1.mono (by simp))⟩
end Go.Proofs.Ytooanbbnjiogaaa
