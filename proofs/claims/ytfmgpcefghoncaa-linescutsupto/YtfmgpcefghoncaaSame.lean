/- Walks: the document's Same: are two lists of texts alike, wherever they lie. -/
import Derived.Test.YtfmgpcefghoncaaRows
import Derived.WalkKit
import Derived.WalkSpells
import Derived.WalkLawsBesides
import Derived.Lib.Strings
import Derived.Test.YtfmgpcefghoncaaPlain
import Derived.Test.YtfmgpcefghoncaaRefCut
namespace Go.Proofs.Ytfmgpcefghoncaa
open Go.RowKit

/-- The slice v reads as the texts l. -/
def Row (W : World) (v : Value) (l : List (List UInt8)) : Prop :=
  (l = [] ∧ ∃ p c, v = .slice p 0 c) ∨ (∃ g off c, v = .slice (some ⟨g, off, none⟩) l.length c ∧ ∀ i (h : i < l.length), W.cell? ⟨g, off + i, none⟩ = some (.string (str l[i])))

theorem Row.shape {W : World} {v : Value} {l : List (List UInt8)} (h : Row W v l) : ∃ p c, v = .slice p l.length c := by
  rcases h with ⟨rfl, p, c, rfl⟩ | ⟨g, off, c, rfl, -⟩
  · exact ⟨p, c, rfl⟩
  · exact ⟨_, c, rfl⟩

theorem Row.below {W W' : World} {v : Value} {l : List (List UInt8)} (h : Row W v l) {B : Nat} (hb : Below B W W') (hv : ∀ k, v.ownBlock = some k → k < B) : Row W' v l := by
  rcases h with ⟨rfl, p, c, rfl⟩ | ⟨g, off, c, rfl, hc⟩
  · exact .inl ⟨rfl, p, c, rfl⟩
  · refine .inr ⟨g, off, c, rfl, fun i hi => ?_⟩
    rw [← hc i hi]
    exact hb.cell (p := ⟨g, off + i, none⟩) (hv g rfl)

theorem Row.of_owns {W : World} {base : Nat} {v : Value} {l : List (List UInt8)} (h : W.ownsRow base 9 1 v l.length (strVals l)) : Row W v l := by
  rcases h.2 with ⟨rfl, h0⟩ | ⟨g, cap, cur, rfl, hg, hh, hrest⟩
  · exact .inl ⟨List.eq_nil_of_length_eq_zero h0, none, 0, rfl⟩
  · refine .inr ⟨g, 0, cap, rfl, fun i hi => ?_⟩
    have h2 := h.cells (g := g) rfl i (.string (str l[i])) (by simp [strVals, List.getElem?_eq_getElem hi])
    have hplain : (⟨g, 0, none⟩ : Addr).add i = ⟨g, 0 + i, none⟩ := by unfold Addr.add; split <;> simp_all
    rwa [hplain] at h2

theorem str_list (l : List UInt8) : (str l).toList = l := by rw [Lib.toList_data]; rfl

theorem cell_lt {W : World} {g o : Nat} {v : Value} (h : W.cell? ⟨g, o, none⟩ = some v) : g < W.heap.size := by
  rcases Nat.lt_or_ge g W.heap.size with h' | h'
  · exact h'
  · simp [World.cell?, Array.getElem?_eq_none h'] at h

set_option maxRecDepth 100000 in
set_option maxHeartbeats 1000000 in
theorem same_any (a b : Value) (l m : List (List UInt8)) (w : World) (ha : Row w a l) (hb : Row w b m) (hl : l.length ≤ 1073741824) (hm : m.length ≤ 1073741824) :
    Calls Try.prog 11 #[a, b] w fun e w' => e = .returned (.bool (decide (l = m))) ∧ Below w.heap.size w w' := by
  obtain ⟨pa, ca, rfl⟩ := ha.shape
  obtain ⟨pb, cb, rfl⟩ := hb.shape
  by_cases hlen : l.length = m.length
  · go_enter Try.func11, Try.ntmps11
    go_wp2_with fail
    go_loopw [5] (fun i wr => ∃ k : Nat, k ≤ l.length ∧ i = .int .i64 k ∧ Hid (l.take k = m.take k) ∧ Below w.heap.size w wr) (fun i _ => l.length - (intOf i).toNat)
    case atStart => exact ⟨0, by omega, rfl, by simp [Hid], Below.refl _ _⟩
    case round =>
      obtain ⟨k, hk, rfl, HT, hB⟩ := hrel
      by_cases hlt : k < l.length
      · rcases ha with ⟨rfl, -⟩ | ⟨g, off, c, e1, ha⟩
        · simp at hlt
        rcases hb with ⟨rfl, -⟩ | ⟨g2, off2, c2, e2, hb⟩
        · rw [hlen] at hlt; simp at hlt
        cases e1
        cases e2
        have hlt2 : k < m.length := by omega
        have h1 := (hB.cell (p := ⟨g, off + k, none⟩) (cell_lt (ha k hlt))).trans (ha k hlt)
        have h2 := (hB.cell (p := ⟨g2, off2 + k, none⟩) (cell_lt (hb k hlt2))).trans (hb k hlt2)
        go_wp2_with fail
        go_region
        go_wp2
        · have hq : (!(str l[k]).toList == (str m[k]).toList) = true := by assumption
          rw [str_list, str_list] at hq
          have hne : ¬ l = m := by
            intro e
            subst e
            simp at hq
          go_ret
          exact ⟨by simp [hne], hB.drew⟩
        · have hq : (!(str l[k]).toList == (str m[k]).toList) = false := by assumption
          rw [str_list, str_list] at hq
          have hk2 : l[k] = m[k] := by simpa using hq
          refine ⟨⟨k + 1, by omega, by go_num, ?_, hB.drew⟩, by simp [intOf]; omega⟩
          show _ = _
          rw [List.take_succ_eq_append_getElem hlt, List.take_succ_eq_append_getElem hlt2, HT.out, hk2]
      · obtain rfl : k = l.length := by omega
        have e : l = m := by
          have h := HT.out
          rw [List.take_length, List.take_of_length_le (by omega)] at h
          exact h
        subst e
        go_wp2
        go_ret
        exact ⟨by simp, hB⟩
  · have hne : ¬ l = m := fun e => hlen (by rw [e])
    go_enter Try.func11, Try.ntmps11
    go_wp2
    go_ret
    exact ⟨by simp [hne], Below.refl _ _⟩
end Go.Proofs.Ytfmgpcefghoncaa
