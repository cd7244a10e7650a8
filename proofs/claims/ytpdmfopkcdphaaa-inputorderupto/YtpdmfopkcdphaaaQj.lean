/- input: a program's queue beside two own rows of lines. -/
import Derived.Test.YtpdmfopkcdphaaaQf
namespace Go.Proofs.Ytpdmfopkcdphaaa
open Go.RowKit

theorem own_lt {W : World} {B e size n : Nat} {v : Value} {xs : List Value} (h : W.ownsRow B e size v n xs) {g : Nat} (hg : v.ownBlock = some g) : B ≤ g ∧ g < W.heap.size := by
  rcases h.2 with ⟨rfl, _⟩ | ⟨g', cap, cur, rfl, hb, hh, _⟩
  · cases hg
  · cases hg
    exact ⟨hb, (Array.getElem?_eq_some_iff.1 hh).1⟩
/-- The queue, and two rows of lines, all apart. -/
structure Tri (I : World → (Nat → Prop) → Nat → Qs → Prop) (W wr : World) (B ib : Nat) (q : Qs) (vi : Value) (li : List (List UInt8)) (vo : Value) (lo : List (List UInt8)) : Prop where
  im : ∃ F, I wr F ib q ∧ ∀ k, F k → B ≤ k ∧ vi.ownBlock ≠ some k ∧ vo.ownBlock ≠ some k
  ri : wr.ownsRow B 9 1 vi li.length (strV li)
  ro : wr.ownsRow B 9 1 vo lo.length (strV lo)
  ap : ∀ g, vi.ownBlock = some g → vo.ownBlock ≠ some g
  bl : Below B W wr
  hB : B ≤ wr.heap.size
theorem Tri.swap {I : World → (Nat → Prop) → Nat → Qs → Prop} {W wr : World} {B ib : Nat} {q : Qs} {vi vo : Value} {li lo : List (List UInt8)} (h : Tri I W wr B ib q vi li vo lo) : Tri I W wr B ib q vo lo vi li := by
  obtain ⟨F, hI, hF⟩ := h.im
  exact ⟨⟨F, hI, fun k hk => ⟨(hF k hk).1, (hF k hk).2.2, (hF k hk).2.1⟩⟩, h.ro, h.ri, fun g hg hg2 => h.ap g hg2 hg, h.bl, h.hB⟩
theorem Tri.impl {I : World → (Nat → Prop) → Nat → Qs → Prop} {W wr : World} {B ib : Nat} {q q' : Qs} {vi vo : Value} {li lo : List (List UInt8)} (h : Tri I W wr B ib q vi li vo lo) {f : FuncId} {args : Array Value} {R : Ending} (call : ∀ F, I wr F ib q → Calls Try.prog f args wr fun e w' => e = R ∧ Tch F wr w' ∧ ∃ F', I w' F' ib q' ∧ ∀ k, F' k → F k ∨ wr.heap.size ≤ k) : Calls Try.prog f args wr fun e w' => e = R ∧ Tri I W w' B ib q' vi li vo lo := by
  obtain ⟨F, hI, hF⟩ := h.im
  refine (call F hI).mono ?_
  rintro e w' ⟨rfl, ht, F', hI', hs⟩
  refine ⟨rfl, ⟨F', hI', fun k hk => ?_⟩, owns_keep h.ri (fun g hg => ht.block g (own_lt h.ri hg).2 (fun hk => (hF g hk).2.1 hg)), owns_keep h.ro (fun g hg => ht.block g (own_lt h.ro hg).2 (fun hk => (hF g hk).2.2 hg)), h.ap, h.bl.trans (ht.below (fun k hk => (hF k hk).1) h.hB), Nat.le_trans h.hB ht.size⟩
  rcases hs k hk with h1 | h1
  · exact hF k h1
  · have hB := h.hB
    exact ⟨by omega, fun hg => by have := (own_lt h.ri hg).2; omega, fun hg => by have := (own_lt h.ro hg).2; omega⟩
theorem Tri.still {I : World → (Nat → Prop) → Nat → Qs → Prop} (imp : Imp I) {W wr : World} {B ib : Nat} {q : Qs} {vi vo : Value} {li lo : List (List UInt8)} (h : Tri I W wr B ib q vi li vo lo) {f : FuncId} {args : Array Value} {R : Ending} (call : ∀ F, I wr F ib q → Calls Try.prog f args wr fun e w' => e = R ∧ Below wr.heap.size wr w') : Calls Try.prog f args wr fun e w' => e = R ∧ Tri I W w' B ib q vi li vo lo :=
  h.impl (fun F hI => (call F hI).mono (fun _ _ hc => ⟨hc.1, Tch.of hc.2, F, imp.keep hI hc.2.size (fun k hk => hc.2.block k (imp.lt hI k hk)), fun _ hk => .inl hk⟩))
/-- The first row grew. -/
theorem Tri.app {I : World → (Nat → Prop) → Nat → Qs → Prop} (imp : Imp I) {W wr X w2 : World} {B ib : Nat} {q : Qs} {vi vo v2 : Value} {li lo : List (List UInt8)} {t : List UInt8} (h : Tri I W wr B ib q vi li vo lo) (hX : Below wr.heap.size wr X) (hgr : X.grownBy w2 vi.ownBlock) (hown : w2.ownsRow B 9 1 v2 (li.length + 1) (strV (li ++ [t]))) (hat : ∀ g, v2.ownBlock = some g → vi.ownBlock = some g ∨ wr.heap.size ≤ g) : Tri I W w2 B ib q v2 (li ++ [t]) vo lo := by
  obtain ⟨F, hI, hF⟩ := h.im
  have hB := h.hB
  have hs := hX.size
  have stay : ∀ k, k < wr.heap.size → vi.ownBlock ≠ some k → w2.heap[k]? = wr.heap[k]? := fun k hk hn => (hgr.block k (by omega) (fun e => hn e.symm)).trans (hX.block k hk)
  have hlt := imp.lt hI
  refine ⟨⟨F, imp.keep hI (Nat.le_trans hX.size hgr.size) (fun k hk => stay k (hlt k hk) (hF k hk).2.1), fun k hk => ⟨(hF k hk).1, fun hg => ?_, (hF k hk).2.2⟩⟩, ?_, owns_keep h.ro (fun g hg => stay g (own_lt h.ro hg).2 (fun hg2 => h.ap g hg2 hg)), fun g hg hg2 => ?_, h.bl.trans ((hX.mono hB).trans (below_grown hgr (fun g hg => (own_lt h.ri hg).1) (by omega))), Nat.le_trans hB (Nat.le_trans hX.size hgr.size)⟩
  · rcases hat k hg with h1 | h1
    · exact (hF k hk).2.1 h1
    · have := hlt k hk
      omega
  · rw [List.length_append, List.length_singleton]
    exact hown
  · rcases hat g hg with h1 | h1
    · exact h.ap g h1 hg2
    · have := (own_lt h.ro hg2).2
      omega
/-- The row is read. -/
theorem row_shape {W : World} {B : Nat} {v : Value} {l : List (List UInt8)} (h : W.ownsRow B 9 1 v l.length (strV l)) : ∃ a cp, v = .slice a l.length cp ∧ ∀ (k : Nat) (t : List UInt8), l[k]? = some t → ∃ g, a = some ⟨g, 0, none⟩ ∧ W.cell? ⟨g, k, none⟩ = some (.string ⟨t.toArray⟩) := by
  rcases h.2 with ⟨rfl, h0⟩ | ⟨g, cap, cur, rfl, hr⟩
  · exact ⟨none, 0, by rw [h0], fun k t ht => by
      have := (List.getElem?_eq_some_iff.1 ht).1
      omega⟩
  · refine ⟨some ⟨g, 0, none⟩, cap, rfl, fun k t ht => ⟨g, rfl, ?_⟩⟩
    have h1 := h.cells (g := g) rfl k (.string ⟨t.toArray⟩) (by rw [strV, List.getElem?_map, ht]; rfl)
    have hadd : (⟨g, 0, none⟩ : Addr).add k = ⟨g, k, none⟩ := by unfold Addr.add; split <;> simp_all
    rw [hadd] at h1
    exact h1
/-- An open queue, asked as it is: never the last line. -/
def Qs.slack (q : Qs) : Prop := q.cl = false ∧ q.tk ≤ q.fed.length ∧ (q.fed.length = 0 ∨ q.tk < q.fed.length)
theorem Qs.slack.feed {q : Qs} (h : q.slack) (s : List UInt8) : (q.feed s).slack := by
  unfold Qs.feed
  split
  · refine ⟨h.1, ?_, .inr ?_⟩
    · show q.tk ≤ (q.fed ++ [s]).length
      rw [List.length_append]
      have := h.2.1
      omega
    · show q.tk < (q.fed ++ [s]).length
      rw [List.length_append, List.length_singleton]
      have := h.2.1
      omega
  · exact h
theorem Qs.slack.next {q : Qs} (h : q.slack) : q.next.slack := by
  unfold Qs.next
  split
  · rename_i hc
    unfold Qs.can Qs.ready Qs.wait at hc
    rw [h.1] at hc
    simp only [Bool.false_or, Bool.and_eq_true, decide_eq_true_eq] at hc
    exact ⟨h.1, by show q.tk + 1 ≤ q.fed.length; omega, .inr (by show q.tk + 1 < q.fed.length; omega)⟩
  · exact h
end Go.Proofs.Ytpdmfopkcdphaaa
