/- template: the document's laid. -/
import Derived.Test.YtbncokfpkkmoiaaTf
namespace Go.Proofs.Ytbncokfpkkmoiaa
open Go.RowKit

/-- The parts with one more; texts that touch become one. -/
def laidL (l : List Pt) (p : Pt) : List Pt :=
  match l.getLast? with
  | some q => if p.g < 0 ∧ q.g < 0 then l.dropLast ++ [⟨q.g, q.t ++ p.t⟩] else l ++ [p]
  | none => l ++ [p]

theorem ptV_set (m : List Pt) (q : Pt) (t : ByteArray) : (ptV (m ++ [q])).set (m.length * 2 + 1) (.string t) = ptV (m ++ [⟨q.g, t⟩]) := by
  rw [ptV_app, ptV_app, List.set_append_right _ _ (by rw [ptV_len]; omega), ptV_len]
  congr 1
  rw [show m.length * 2 + 1 - m.length * 2 = 1 by omega]
  rfl

/-- A cell of an own row is written. -/
theorem owns_set {W : World} {B e size n g c : Nat} {xs : List Value} (h : W.ownsRow B e size (.slice (some ⟨g, 0, none⟩) n c) n xs) (k : Nat) (u : Value) : (W.setCell ⟨g, k, none⟩ u).ownsRow B e size (.slice (some ⟨g, 0, none⟩) n c) n (xs.set k u) := by
  obtain ⟨hl, h⟩ := h
  refine ⟨by rw [List.length_set]; exact hl, ?_⟩
  rcases h with ⟨h, _⟩ | ⟨g', cap, cur, hv, hg, hh, h1, h2, h3, h4⟩
  · cases h
  · cases hv
    refine .inr ⟨g, c, cur.setIfInBounds k u, rfl, hg, ?_, h1, h2, by simpa using h3, ?_⟩
    · simp only [World.setCell, Array.getElem?_modify, if_true, hh, Option.map_some]
      rfl
    · rw [Array.toList_setIfInBounds, ← h4, List.take_set]

theorem new_cell (W : World) (cs : List Value) (t : TypeId) (j : Nat) (u : Value) (h : cs[j]? = some u) : (W.alloc (.cells cs.toArray t)).cell? ⟨W.heap.size, j, none⟩ = some u := by
  rw [World.cell?, heap_alloc_new W (.cells cs.toArray t)]
  simpa using h

set_option maxRecDepth 100000 in
set_option maxHeartbeats 1000000 in
theorem laid_any {B : Nat} (l : List Pt) (p : Pt) (v : Value) (w : World) (hB : B ≤ w.heap.size) (h : w.ownsRow B 48 2 v l.length (ptV l)) (hl : l.length ≤ 1000000000) (ht : ∀ q ∈ l, q.t.size + p.t.size ≤ 1073741824) :
    Calls Try.prog 23 #[v, .agg #[.int .i64 p.g, .string p.t]] w fun e w' => ∃ v', e = .returned v' ∧ w'.ownsRow B 48 2 v' (laidL l p).length (ptV (laidL l p)) ∧ Below B w w' := by
  obtain ⟨i0, hi0, hz0, hz1, hz2⟩ := info_parts info48
  have hA := (Below.refl w.heap.size w).alloc (Nat.le_refl _) (.cells #[.int .i64 p.g, .string p.t] 48)
  by_cases hm : p.g < 0 ∧ ∃ m q, l = m ++ [q] ∧ q.g < 0
  · obtain ⟨hg0, m, q, rfl, hq⟩ := hm
    have hx : laidL (m ++ [q]) p = m ++ [⟨q.g, q.t ++ p.t⟩] := by
      unfold laidL
      rw [List.getLast?_append, List.getLast?_singleton, List.dropLast_concat]
      simp [hg0, hq]
    rw [hx]
    have hlen : (m ++ [q]).length = m.length + 1 := by simp
    have hlen2 : (m ++ [(⟨q.g, q.t ++ p.t⟩ : Pt)]).length = m.length + 1 := by simp
    rw [hlen2]
    rw [hlen] at h hl
    have hts := ht q (by simp)
    obtain ⟨g, c, rfl⟩ : ∃ g c, v = .slice (some ⟨g, 0, none⟩) (m.length + 1) c := by
      rcases h.2 with ⟨_, h0⟩ | ⟨g, cap, cur, rfl, _⟩
      · omega
      · exact ⟨g, cap, rfl⟩
    have hat := ptV_at (m ++ [q]) m.length q (by simp)
    have hpl : ∀ k, (⟨g, 0, none⟩ : Addr).add k = ⟨g, k, none⟩ := fun k => by unfold Addr.add; split <;> simp_all
    have c0 := h.cells (g := g) rfl _ _ hat.1
    have c1 := h.cells (g := g) rfl _ _ hat.2
    rw [hpl] at c0 c1
    obtain ⟨_, hglt, cur, hgc⟩ := owns_blk (g := g) h rfl
    have d0 := keep_cell hA c0
    have d1 := keep_cell hA c1
    have f1 : (w.alloc (.cells #[.int .i64 p.g, .string p.t] 48)).frozen? ⟨g, m.length * 2 + 1, none⟩ = false := by
      have := (hA.block g hglt).trans hgc
      simp [World.frozen?, this]
    have hnb : w.heap.size ≠ g := by omega
    have HF := hideT (And.intro (owns_set (owns_below h hA) (m.length * 2 + 1) (.string (q.t ++ p.t))) ((hA.mono hB).setCell (p := ⟨g, m.length * 2 + 1, none⟩) (owns_blk (g := g) h rfl).1 (.string (q.t ++ p.t))))
    have n0 : (0 : Int) ≤ (m.length : Int) := by omega
    have k1 : IntKind.i64.wrap (((m.length + 1 : Nat) : Int) - 1) = (m.length : Int) := by rw [IntKind.wrap_i64]; omega
    have n1 : (m.length : Int) < ((m.length + 1 : Nat) : Int) := by omega
    have b0 := new_cell w [.int .i64 p.g, .string p.t] 48 0 _ rfl
    have b1 := new_cell w [.int .i64 p.g, .string p.t] 48 1 _ rfl
    have hcat : q.t.size + p.t.size ≤ 9223372036854775807 := by omega
    clear h hA hat c0 c1 hgc hB ht
    go_enter Try.func23, Try.ntmps23
    go_upto_region 3 with fail
    generalize w.alloc (.cells #[.int .i64 p.g, .string p.t] 48) = X at *
    go_region
    all_goals
      go_wp2
      go_ret
      exact ⟨_, rfl, by rw [← ptV_set]; exact owns_keep HF.out.1 (fun _ _ => rfl), HF.out.2.drew⟩
  · have hx : laidL l p = l ++ [p] := by
      unfold laidL
      split
      · rename_i q hq
        rw [if_neg]
        rintro ⟨h1, h2⟩
        obtain ⟨m, rfl⟩ := List.getLast?_eq_some_iff.1 hq
        exact hm ⟨h1, m, q, rfl, h2⟩
      · rfl
    rw [hx]
    obtain ⟨a, c, rfl⟩ := owns_shape h
    have b0 := new_cell w [.int .i64 p.g, .string p.t] 48 0 _ rfl
    have b1 := new_cell w [.int .i64 p.g, .string p.t] 48 1 _ rfl
    have HX := hideT (And.intro (owns_below h hA) (hA.mono hB))
    have hXs : (w.alloc (.cells #[.int .i64 p.g, .string p.t] 48)).heap.size = w.heap.size + 1 := World.size_alloc _ _
    have HXs := hideT hXs
    have k1 : IntKind.i64.wrap ((l.length : Int) - 1) = (l.length : Int) - 1 := by rw [IntKind.wrap_i64]; omega
    clear hXs
    by_cases hg0 : p.g < 0
    · rcases List.eq_nil_or_concat l with rfl | ⟨m, q, rfl⟩
      · clear h hA hm ht
        have HB := hideT hB
        clear hB
        go_enter Try.func23, Try.ntmps23
        go_upto_region 5 with fail
        generalize w.alloc (.cells #[.int .i64 p.g, .string p.t] 48) = X at *
        have hA2 := (Below.refl X.heap.size X).alloc (Nat.le_refl _) (.cells #[.int .i64 p.g, .string p.t] 48)
        have HN := hideT (new_cells X [.int .i64 p.g, .string p.t] 48)
        replace hB := HB.out
        go_wp2_with (at_builtin; refine wpList_append_lies _ rfl _ _ 22 rfl B 48 i0 _ 2 24 und22 hi0 hz0 hz1 hz2 rfl (by omega) _ 0 (ptV []) rfl (owns_below HX.out.1 hA2) ⟨X.heap.size, 0, none⟩ 1 1 [.int .i64 p.g, .string p.t] rfl rfl (fun j u hj => HN.out j u hj) (by simp [Value.oneCell']) (by omega) (by unfold maxLen; omega) (by omega) (by have := hA2.size; have := HXs.out; omega) _ rfl ?_)
        intro g gc w2 hown hgr hat hglt
        have HF := hideT (And.intro hown (((HX.out.2.trans (hA2.mono (by have := HXs.out; omega))).grown hgr (by have := hA2.size; have := HXs.out; omega) (fun k hk => (owns_blk HX.out.1 hk).1))))
        clear hgr hown
        go_wp2
        go_ret
        exact ⟨_, rfl, HF.out.1, HF.out.2⟩
      · have hq : ¬ q.g < 0 := fun h2 => hm ⟨hg0, m, q, by rw [List.concat_eq_append], h2⟩
        clear hm ht hx k1
        rw [List.concat_eq_append] at h hl HX ⊢
        have hlen : (m ++ [q]).length = m.length + 1 := by simp
        rw [hlen] at h hl HX ⊢
        obtain ⟨g0, c0, e0⟩ : ∃ g c', (Value.slice a (m.length + 1) c) = .slice (some ⟨g, 0, none⟩) (m.length + 1) c' := by
          rcases h.2 with ⟨_, h0⟩ | ⟨g, cap, cur, h0, _⟩
          · omega
          · exact ⟨g, cap, h0⟩
        cases e0
        have hat := ptV_at (m ++ [q]) m.length q (by simp)
        have hpl : ∀ k, (⟨g0, 0, none⟩ : Addr).add k = ⟨g0, k, none⟩ := fun k => by unfold Addr.add; split <;> simp_all
        have c0 := h.cells (g := g0) rfl _ _ hat.1
        rw [hpl] at c0
        have d0 := keep_cell hA c0
        have n0 : (0 : Int) ≤ (m.length : Int) := by omega
        have k2 : IntKind.i64.wrap (((m.length + 1 : Nat) : Int) - 1) = (m.length : Int) := by rw [IntKind.wrap_i64]; omega
        have n1 : (m.length : Int) < ((m.length + 1 : Nat) : Int) := by omega
        clear h hA hat c0
        have HB := hideT hB
        clear hB
        go_enter Try.func23, Try.ntmps23
        go_upto_region 5 with fail
        generalize w.alloc (.cells #[.int .i64 p.g, .string p.t] 48) = X at *
        have hA2 := (Below.refl X.heap.size X).alloc (Nat.le_refl _) (.cells #[.int .i64 p.g, .string p.t] 48)
        have HN := hideT (new_cells X [.int .i64 p.g, .string p.t] 48)
        replace hB := HB.out
        go_wp2_with (at_builtin; refine wpList_append_lies _ rfl _ _ 22 rfl B 48 i0 _ 2 24 und22 hi0 hz0 hz1 hz2 rfl (by omega) _ (m.length + 1) (ptV (m ++ [q])) rfl (owns_below HX.out.1 hA2) ⟨X.heap.size, 0, none⟩ 1 1 [.int .i64 p.g, .string p.t] rfl rfl (fun j u hj => HN.out j u hj) (by simp [Value.oneCell']) (by omega) (by unfold maxLen; omega) (by omega) (by have := hA2.size; have := HXs.out; omega) _ rfl ?_)
        intro g gc w2 hown hgr hat hglt
        have HF := hideT (And.intro hown (((HX.out.2.trans (hA2.mono (by have := HXs.out; omega))).grown hgr (by have := hA2.size; have := HXs.out; omega) (fun k hk => (owns_blk HX.out.1 hk).1))))
        clear hgr hown
        go_wp2
        go_ret
        exact ⟨_, rfl, by rw [ptV_app, List.length_append, hlen]; exact HF.out.1, HF.out.2⟩
    · clear h hA hm ht
      have HB := hideT hB
      clear hB
      go_enter Try.func23, Try.ntmps23
      go_upto_region 5 with fail
      generalize w.alloc (.cells #[.int .i64 p.g, .string p.t] 48) = X at *
      have hA2 := (Below.refl X.heap.size X).alloc (Nat.le_refl _) (.cells #[.int .i64 p.g, .string p.t] 48)
      have HN := hideT (new_cells X [.int .i64 p.g, .string p.t] 48)
      replace hB := HB.out
      go_wp2_with (at_builtin; refine wpList_append_lies _ rfl _ _ 22 rfl B 48 i0 _ 2 24 und22 hi0 hz0 hz1 hz2 rfl (by omega) _ l.length (ptV l) rfl (owns_below HX.out.1 hA2) ⟨X.heap.size, 0, none⟩ 1 1 [.int .i64 p.g, .string p.t] rfl rfl (fun j u hj => HN.out j u hj) (by simp [Value.oneCell']) (by omega) (by unfold maxLen; omega) (by omega) (by have := hA2.size; have := HXs.out; omega) _ rfl ?_)
      intro g gc w2 hown hgr hat hglt
      have HF := hideT (And.intro hown (((HX.out.2.trans (hA2.mono (by have := HXs.out; omega))).grown hgr (by have := hA2.size; have := HXs.out; omega) (fun k hk => (owns_blk HX.out.1 hk).1))))
      clear hgr hown
      go_wp2
      go_ret
      exact ⟨_, rfl, by rw [ptV_app, List.length_append]; exact HF.out.1, HF.out.2⟩

end Go.Proofs.Ytbncokfpkkmoiaa
