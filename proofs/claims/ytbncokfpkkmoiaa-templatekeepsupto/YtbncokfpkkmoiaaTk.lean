/- template: spans in memory; matched. -/
import Derived.Test.YtbncokfpkkmoiaaTj
import Derived.Test.YtbncokfpkkmoiaaTf
namespace Go.Proofs.Ytbncokfpkkmoiaa
open Go.RowKit

/-- The slice v reads as the spans l. -/
def SRow (W : World) (v : Value) (l : List (Int × Int)) : Prop :=
  (l = [] ∧ ∃ p c, v = .slice p 0 c) ∨ (∃ g off c, v = .slice (some ⟨g, off, none⟩) l.length c ∧ ∀ i (h : i < l.length), W.cell? ⟨g, off + i * 2, none⟩ = some (.int .i64 l[i].1) ∧ W.cell? ⟨g, off + i * 2 + 1, none⟩ = some (.int .i64 l[i].2))

theorem SRow.shape {W : World} {v : Value} {l : List (Int × Int)} (h : SRow W v l) : ∃ p c, v = .slice p l.length c := by
  rcases h with ⟨rfl, p, c, rfl⟩ | ⟨g, off, c, rfl, -⟩
  · exact ⟨p, c, rfl⟩
  · exact ⟨_, c, rfl⟩

theorem SRow.stay {W W' : World} {v : Value} {l : List (Int × Int)} (h : SRow W v l) {B : Nat} (hb : Below B W W') (hB : W.heap.size ≤ B) : SRow W' v l := by
  rcases h with ⟨rfl, p, c, rfl⟩ | ⟨g, off, c, rfl, hc⟩
  · exact .inl ⟨rfl, p, c, rfl⟩
  · refine .inr ⟨g, off, c, rfl, fun i hi => ?_⟩
    obtain ⟨h1, h2⟩ := hc i hi
    exact ⟨(hb.cell (p := ⟨g, off + i * 2, none⟩) (Nat.lt_of_lt_of_le (cell_lt h1) hB)).trans h1, (hb.cell (p := ⟨g, off + i * 2 + 1, none⟩) (Nat.lt_of_lt_of_le (cell_lt h2) hB)).trans h2⟩

theorem ext_part (s : ByteArray) (a b : Nat) : s.extract a b = bst ((s.data.toList.drop a).take (b - a)) := by
  apply ByteArray.ext
  apply Array.ext'
  simp only [ByteArray.data_extract, bst, Array.toList_extract]

set_option maxRecDepth 100000 in
set_option maxHeartbeats 1000000 in
theorem matched_any (s : ByteArray) (v : Value) (l : List (Int × Int)) (g : Int) (hg : 0 ≤ g) (w : World) (h : SRow w v l) :
    Calls Try.prog 28 #[.string s, v, .int .i64 g] w fun e w' => e = .returned (.string (bst (matL s.data.toList l g))) ∧ Below w.heap.size w w' := by
  obtain ⟨pa, ca, rfl⟩ := h.shape
  by_cases hlt : (l.length : Int) ≤ g
  · have hm : matL s.data.toList l g = [] := by
      unfold matL
      rw [List.getElem?_eq_none (by omega)]
    rw [hm]
    go_enter Try.func28, Try.ntmps28
    go_wp2
    go_ret
    exact ⟨rfl, Below.refl _ _⟩
  · have hn : g.toNat < l.length := by omega
    rcases h with ⟨rfl, -⟩ | ⟨gb, off, c, e1, ha⟩
    · simp at hn
    cases e1
    obtain ⟨c0, c1⟩ := ha g.toNat hn
    have hgn : ((g.toNat : Nat) : Int) = g := by omega
    obtain ⟨n, rfl⟩ : ∃ n : Nat, g = (n : Int) := ⟨g.toNat, hgn.symm⟩
    simp only [Int.toNat_natCast] at c0 c1 hn
    have hm : matL s.data.toList l (n : Int) = if 0 ≤ l[n].1 ∧ l[n].1 ≤ l[n].2 ∧ l[n].2 ≤ s.data.toList.length then (s.data.toList.drop l[n].1.toNat).take (l[n].2.toNat - l[n].1.toNat) else [] := by
      unfold matL
      rw [Int.toNat_natCast, List.getElem?_eq_getElem hn]
    rw [hm]
    have hlen : s.data.toList.length = s.size := rfl
    rw [hlen]
    have i1 : (n : Int) < (l.length : Int) := by omega
    have i0 : (0 : Int) ≤ (n : Int) := by omega
    have i1' : ((l.length : Int) ≤ (n : Int)) = False := by rw [eq_iff_iff, iff_false]; omega
    have HB := hideT ((Below.refl w.heap.size w).alloc (Nat.le_refl _) (.cells #[.int .i64 l[n].1, .int .i64 l[n].2] 45))
    generalize l[n].1 = f at *
    generalize l[n].2 = t at *
    clear hgn hg hm ha hlt
    by_cases k1 : 0 ≤ f
    · by_cases k2 : f ≤ t
      · by_cases k3 : t ≤ (s.size : Int)
        · obtain ⟨fn, rfl⟩ : ∃ fn : Nat, f = (fn : Int) := ⟨f.toNat, by omega⟩
          obtain ⟨tn, rfl⟩ : ∃ tn : Nat, t = (tn : Int) := ⟨t.toNat, by omega⟩
          rw [if_pos ⟨k1, k2, k3⟩]
          have HX := hideT (ext_part s fn tn)
          simp only [Int.toNat_natCast]
          have k2n : fn ≤ tn := by omega
          have k3n : tn ≤ s.size := by omega
          go_enter Try.func28, Try.ntmps28
          go_wp2
          go_ret
          exact ⟨by rw [← HX.out]; rfl, HB.out⟩
        · rw [if_neg (fun h => k3 h.2.2)]
          have k3' : (s.size : Int) < t := by omega
          go_enter Try.func28, Try.ntmps28
          go_wp2
          go_ret
          exact ⟨rfl, HB.out⟩
      · rw [if_neg (fun h => k2 h.2.1)]
        have k2' : t < f := by omega
        go_enter Try.func28, Try.ntmps28
        go_wp2
        go_ret
        exact ⟨rfl, HB.out⟩
    · rw [if_neg (fun h => k1 h.1)]
      have k1' : f < 0 := by omega
      go_enter Try.func28, Try.ntmps28
      go_wp2
      go_ret
      exact ⟨rfl, HB.out⟩

end Go.Proofs.Ytbncokfpkkmoiaa
