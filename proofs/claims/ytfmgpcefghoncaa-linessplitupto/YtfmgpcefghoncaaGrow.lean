/- Walks: slices.Grow at no list, and slices.Concat of two lists of texts wherever they lie. -/
import Derived.Test.YtfmgpcefghoncaaSame
import Derived.Test.YtfmgpcefghoncaaRefTail
import Derived.Shelf.RegionOpenPlain
import Derived.Lib.Walk
import Derived.Lib.SliceRun
import Derived.Lib.AppendZerosOnto
namespace Go.Proofs.Ytfmgpcefghoncaa
open Go.RowKit

set_option maxRecDepth 100000 in
set_option maxHeartbeats 4000000 in
theorem grow_nil (n : Nat) (hn : n ≤ 1073741824) (w : World) :
    Calls Try.prog 31 #[.slice none 0 0, .int .i64 n] w fun e w' => ∃ v, e = .returned v ∧ w'.ownsRow w.heap.size 9 1 v 0 [] ∧ Below w.heap.size w w' := by
  obtain ⟨i0, hi, hz0, hz1, hz2⟩ := info_parts info9
  have h1 : ¬ ((n : Int) < 0) := by omega
  have h3 : wrap64 ((n : Int) - 0) = (n : Int) := by unfold wrap64; omega
  by_cases hp : n = 0
  · subst hp
    go_enter Try.func31, Try.ntmps31
    go_wp2
    go_ret
    exact ⟨_, rfl, World.ownsRow_nil _ _ _ _, Below.refl _ _⟩
  · have h4 : (n : Int) > 0 := by omega
    have hold : (Builtin.firstCells i0.size 0 (.slice none 0 0)).run Try.prog w.drew = .ok ([] : List Value).toArray w.drew := run_firstCells_none w.drew i0.size 0 0 0
    have hfit : Builtin.nextslicecap (0 + n) 0 * i0.bytes ≤ 281474976710656 := growslice_fits (by omega) (by rw [hz2]; omega)
    have hrz : ∀ ty, (Builtin.append_ #[22, 3] ty #[.slice none 0 0, .int .i64 (n : Int)]).run Try.prog w =
        .ok (.slice (some ⟨w.heap.size, 0, none⟩) n (grownCap w n 0 9)) (w.drew.alloc (.cells (([] : List Value).toArray ++ Builtin.zeroCells (Value.string ⟨#[]⟩).cells n ++ Builtin.zeroCells (Value.string ⟨#[]⟩).cells (grownCap w n 0 9 - n)) 9)) := fun ty => by
      have h := Lib.run_append_grow_zeros w 22 3 ty 9 i0 (.string ⟨#[]⟩) .i64 .i64 Try.underlying22 Try.underlying3 hi hz0 none 0 0 [] hold n (by omega) (by omega) (by omega) (by omega) (by rw [hz2]; omega) hfit
      rw [Nat.zero_add] at h
      exact h
    have hGn : n ≤ grownCap w n 0 9 := grownCap_ge w _ _ _
    have hGm := grownCap_le_maxLen w n 0 9 (by unfold maxLen; omega)
    obtain ⟨G, hG⟩ : ∃ G, G = grownCap w n 0 9 := ⟨_, rfl⟩
    rw [← hG] at hrz hGn hGm
    clear hG hold hfit
    generalize hcs : ([] : List Value).toArray ++ Builtin.zeroCells (Value.string ⟨#[]⟩).cells n ++ Builtin.zeroCells (Value.string ⟨#[]⟩).cells (G - n) = cs at hrz
    have hcz : cs.size = G * 1 := by
      rw [← hcs]
      have hz : (Value.string ⟨#[]⟩).cells.size = 1 := rfl
      simp only [Array.size_append, List.size_toArray, size_zeroCells, hz, List.length_nil]
      omega
    go_enter Try.func31, Try.ntmps31
    go_wp2_with (at_builtin; refine Lib.wpList_append_run _ rfl _ _ _ _ rfl _ _ rfl rfl _ _ (hrz _) ?_)
    go_ret
    exact ⟨_, rfl, World.ownsRow_made w cs G (Nat.le_refl _) hGm hcz, ((Below.refl _ w).drew).alloc (Nat.le_refl _) _⟩

set_option maxRecDepth 100000 in
theorem grow_room0 (w : World) :
    Calls Try.prog 31 #[.slice none 0 0, .int .i64 0] w fun e w' => e = .returned (.slice none 0 0) ∧ w' = w := by
  go_enter Try.func31, Try.ntmps31
  go_wp2
  go_ret
  exact ⟨rfl, rfl⟩

/-- What Concat is handed: a row of two slices. -/
def Pair (W : World) (B : Nat) (a b : Value) : Prop := W.cell? ⟨B, 0, none⟩ = some a ∧ W.cell? ⟨B, 1, none⟩ = some b

/-- The cells of a slice of texts, as the append takes them. -/
theorem row_news {W : World} {g off : Nat} {l : List (List UInt8)} (h : ∀ i (h : i < l.length), W.cell? ⟨g, off + i, none⟩ = some (.string (str l[i]))) : ∀ j u, (strVals l)[j]? = some u → W.cell? ((⟨g, off, none⟩ : Addr).add j) = some u := by
  intro j u hj
  have hlt : j < l.length := by
    rcases Nat.lt_or_ge j l.length with h' | h'
    · exact h'
    · rw [List.getElem?_eq_none (by simpa [strVals] using h')] at hj; cases hj
  have hplain : (⟨g, off, none⟩ : Addr).add j = ⟨g, off + j, none⟩ := by unfold Addr.add; split <;> simp_all
  rw [hplain, h j hlt]
  simp only [strVals, List.getElem?_map, List.getElem?_eq_getElem hlt, Option.map_some] at hj
  exact hj

set_option maxRecDepth 100000 in
set_option maxHeartbeats 4000000 in
theorem concat_two (g : Nat) (l m : List (List UInt8)) (o1 o2 c1 c2 B c : Nat) (w : World) (hp : Pair w B (.slice (some ⟨g, o1, none⟩) l.length c1) (.slice (some ⟨g, o2, none⟩) m.length c2))
    (hl : ∀ i (h : i < l.length), w.cell? ⟨g, o1 + i, none⟩ = some (.string (str l[i]))) (hm : ∀ i (h : i < m.length), w.cell? ⟨g, o2 + i, none⟩ = some (.string (str m[i]))) (hg : g < w.heap.size) (hn : l.length + m.length ≤ 1073741824) :
    Calls Try.prog 24 #[.slice (some ⟨B, 0, none⟩) 2 c] w fun e w' => ∃ v, e = .returned v ∧ w'.ownsRow w.heap.size 9 1 v (l ++ m).length (strVals (l ++ m)) ∧ Below w.heap.size w w' := by
  obtain ⟨i0, hi, hz0, hz1, hz2⟩ := info_parts info9
  obtain ⟨p0, p1⟩ := hp
  have hB := cell_lt p0
  have h1 : wrap64 ((0 : Int) + (l.length : Int)) = (l.length : Int) := by unfold wrap64; omega
  have h2 : wrap64 ((l.length : Int) + (m.length : Int)) = (l.length : Int) + (m.length : Int) := by unfold wrap64; omega
  have h3 : ¬ ((l.length : Int) < 0) := by omega
  have h4 : ¬ ((l.length : Int) + (m.length : Int) < 0) := by omega
  go_enter Try.func24, Try.ntmps24
  go_wp2_with fail
  go_loopw [3, 11] (fun z i wr => ((i = .int .i64 0 ∧ z = .int .i64 0) ∨ (i = .int .i64 1 ∧ z = .int .i64 (l.length : Int)) ∨ (i = .int .i64 2 ∧ z = .int .i64 ((l.length : Int) + (m.length : Int)))) ∧ wr = w) (fun _ i _ => 2 - (intOf i).toNat)
  case atStart => exact ⟨.inl ⟨rfl, rfl⟩, rfl⟩
  case round =>
    obtain ⟨⟨rfl, rfl⟩ | ⟨rfl, rfl⟩ | ⟨rfl, rfl⟩, hwr⟩ := hrel
    all_goals (have hwr := hwr.symm; subst hwr)
    · go_wp2
      exact ⟨⟨.inr (.inl ⟨rfl, rfl⟩), trivial⟩, by simp [intOf]⟩
    · go_wp2
      exact ⟨⟨.inr (.inr ⟨rfl, rfl⟩), trivial⟩, by simp [intOf]⟩
    · go_wp2_with fail
      have hgr := grow_nil (l.length + m.length) hn w
      rw [Int.natCast_add] at hgr
      refine hgr.mono ?_
      rintro e w1 ⟨v, rfl, hown, hb1⟩
      clear hgr h1 h2 h3 h4
      have hsz1 := hb1.size
      have q0 := (hb1.cell (p := ⟨B, 0, none⟩) hB).trans p0
      have q1 := (hb1.cell (p := ⟨B, 1, none⟩) hB).trans p1
      go_wp2_with fail
      go_loopw [6, 27] (fun r i wr' => ((i = .int .i64 0 ∧ wr'.ownsRow w.heap.size 9 1 r 0 []) ∨ (i = .int .i64 1 ∧ wr'.ownsRow w.heap.size 9 1 r l.length (strVals l)) ∨ (i = .int .i64 2 ∧ wr'.ownsRow w.heap.size 9 1 r (l ++ m).length (strVals (l ++ m)))) ∧ Below w.heap.size w wr') (fun _ i _ => 2 - (intOf i).toNat)
      case atStart => exact ⟨.inl ⟨rfl, hown⟩, hb1⟩
      case round =>
        obtain ⟨⟨rfl, hown⟩ | ⟨rfl, hown⟩ | ⟨rfl, hown⟩, hBr⟩ := hrel
        · have q0 := (hBr.cell (p := ⟨B, 0, none⟩) hB).trans p0
          have hsz2 := hBr.size
          have hnews := row_news (W := wr) (g := g) (off := o1) (l := l) (fun i h => (hBr.cell (p := ⟨g, o1 + i, none⟩) hg).trans (hl i h))
          go_wp2_with (at_builtin; refine wpList_append_own _ rfl _ _ 22 rfl w.heap.size 9 i0 (.string ⟨#[]⟩) 1 16 Try.underlying22 hi hz0 hz1 hz2 rfl (by decide) _ _ _ rfl hown ⟨g, o1, none⟩ l.length c1 (strVals l) rfl ?k1 hnews ?k2 ?k3 ?k4 hsz2 ?_)
          case k1 => simp [strVals]
          case k2 => intro u hu; simp [strVals] at hu; obtain ⟨x, -, rfl⟩ := hu; rfl
          case k3 => unfold maxLen; omega
          case k4 => omega
          intro v' w2 hown2 hgrow _
          have hb2 := hBr.grown hgrow hsz2 (owns_block hown)
          clear hgrow hown hnews
          go_wp2
          exact ⟨⟨.inr (.inl ⟨rfl, hown2⟩), hb2⟩, by simp [intOf]⟩
        · have q1 := (hBr.cell (p := ⟨B, 1, none⟩) hB).trans p1
          have hsz2 := hBr.size
          have hnews := row_news (W := wr) (g := g) (off := o2) (l := m) (fun i h => (hBr.cell (p := ⟨g, o2 + i, none⟩) hg).trans (hm i h))
          go_wp2_with (at_builtin; refine wpList_append_own _ rfl _ _ 22 rfl w.heap.size 9 i0 (.string ⟨#[]⟩) 1 16 Try.underlying22 hi hz0 hz1 hz2 rfl (by decide) _ _ _ rfl hown ⟨g, o2, none⟩ m.length c2 (strVals m) rfl ?k1 hnews ?k2 ?k3 ?k4 hsz2 ?_)
          case k1 => simp [strVals]
          case k2 => intro u hu; simp [strVals] at hu; obtain ⟨x, -, rfl⟩ := hu; rfl
          case k3 => unfold maxLen; omega
          case k4 => omega
          intro v' w2 hown2 hgrow _
          have hb2 := hBr.grown hgrow hsz2 (owns_block hown)
          have e2 : strVals l ++ strVals m = strVals (l ++ m) := by simp [strVals]
          rw [e2, ← List.length_append] at hown2
          clear hgrow hown hnews
          go_wp2
          exact ⟨⟨.inr (.inr ⟨rfl, hown2⟩), hb2⟩, by simp [intOf]⟩
        · go_wp2
          go_ret
          exact ⟨_, rfl, hown, hBr⟩

set_option maxRecDepth 100000 in
set_option maxHeartbeats 4000000 in
theorem concat_none (B c : Nat) (w : World) (hp : Pair w B (.slice none 0 0) (.slice none 0 0)) :
    Calls Try.prog 24 #[.slice (some ⟨B, 0, none⟩) 2 c] w fun e w' => ∃ v, e = .returned v ∧ w'.ownsRow w.heap.size 9 1 v 0 [] ∧ Below w.heap.size w w' := by
  obtain ⟨p0, p1⟩ := hp
  have hB := cell_lt p0
  have h1 : wrap64 ((0 : Int) + 0) = 0 := by unfold wrap64; omega
  go_enter Try.func24, Try.ntmps24
  go_wp2_with fail
  go_loopw [3, 11] (fun z i wr => ((i = .int .i64 0 ∧ z = .int .i64 0) ∨ (i = .int .i64 1 ∧ z = .int .i64 0) ∨ (i = .int .i64 2 ∧ z = .int .i64 0)) ∧ wr = w) (fun _ i _ => 2 - (intOf i).toNat)
  case atStart => exact ⟨.inl ⟨rfl, rfl⟩, rfl⟩
  case round =>
    obtain ⟨⟨rfl, rfl⟩ | ⟨rfl, rfl⟩ | ⟨rfl, rfl⟩, hwr⟩ := hrel
    all_goals (have hwr := hwr.symm; subst hwr)
    · go_wp2
      exact ⟨⟨.inr (.inl ⟨rfl, rfl⟩), trivial⟩, by simp [intOf]⟩
    · go_wp2
      exact ⟨⟨.inr (.inr ⟨rfl, rfl⟩), trivial⟩, by simp [intOf]⟩
    · go_wp2_with fail
      refine (grow_room0 w).mono ?_
      rintro e w1 ⟨rfl, rfl⟩
      go_wp2_with fail
      go_loopw [6, 27] (fun r i wr' => ((i = .int .i64 0) ∨ (i = .int .i64 1) ∨ (i = .int .i64 2)) ∧ r = .slice none 0 0 ∧ Below w1.heap.size w1 wr') (fun _ i _ => 2 - (intOf i).toNat)
      case atStart => exact ⟨.inl rfl, rfl, Below.refl _ _⟩
      case round =>
        obtain ⟨rfl | rfl | rfl, rfl, hBr⟩ := hrel
        · have q0 := (hBr.cell (p := ⟨B, 0, none⟩) hB).trans p0
          go_wp2
          exact ⟨⟨.inr (.inl rfl), rfl, hBr⟩, by simp [intOf]⟩
        · have q1 := (hBr.cell (p := ⟨B, 1, none⟩) hB).trans p1
          go_wp2
          exact ⟨⟨.inr (.inr rfl), rfl, hBr⟩, by simp [intOf]⟩
        · go_wp2
          go_ret
          exact ⟨_, rfl, World.ownsRow_nil _ _ _ _, hBr⟩
end Go.Proofs.Ytfmgpcefghoncaa
