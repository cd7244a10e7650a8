/- store: the document's Same, of two lists alike. -/
import Derived.Test.YtbibfpgcnmocjaaSk
import Derived.Laws.StructEq
namespace Go.Proofs.Ytbibfpgcnmocjaa
open Go.RowKit

def bFl (x : It) : ByteArray × ByteArray := (⟨x.1.toArray⟩, ⟨x.2.toArray⟩)
theorem flV_at : ∀ (l : List It) (k : Nat) (x : It), l[k]? = some x → (flV l)[k * 2]? = some (.string ⟨x.1.toArray⟩) ∧ (flV l)[k * 2 + 1]? = some (.string ⟨x.2.toArray⟩)
  | [], k, x, h => by simp at h
  | y :: r, 0, x, h => by
    simp at h
    subst h
    exact ⟨rfl, rfl⟩
  | y :: r, k + 1, x, h => by
    have ih := flV_at r k x (by simpa using h)
    rw [show (k + 1) * 2 = k * 2 + 1 + 1 by omega, show k * 2 + 1 + 1 + 1 = (k * 2 + 1) + 1 + 1 by omega]
    simpa [flV] using ih
theorem frow_owns {W : World} {B : Nat} {v : Value} {l : List It} (h : W.ownsRow B 52 2 v l.length (flV l)) : FRow W v (l.map bFl) := by
  rcases h.2 with ⟨rfl, h0⟩ | ⟨g, cap, cur, rfl, _, hh, _, _, _, ht⟩
  · have : l = [] := List.eq_nil_of_length_eq_zero h0
    subst this
    exact ⟨none, 0, rfl, fun k x hx => by simp at hx⟩
  · refine ⟨some ⟨g, 0, none⟩, cap, by simp, fun k x hx => ?_⟩
    rw [List.getElem?_map] at hx
    obtain ⟨y, hy, rfl⟩ := Option.map_eq_some_iff.1 hx
    obtain ⟨h1, h2⟩ := flV_at l k y hy
    have c1 := h.cells (g := g) rfl _ _ h1
    have c2 := h.cells (g := g) rfl _ _ h2
    have hadd : ∀ j, (⟨g, 0, none⟩ : Addr).add j = ⟨g, j, none⟩ := fun j => by unfold Addr.add; split <;> simp_all
    rw [hadd] at c1 c2
    exact ⟨g, 0, rfl, by rw [Nat.zero_add]; exact c1, by rw [Nat.zero_add]; exact c2⟩

set_option maxRecDepth 100000 in
set_option maxHeartbeats 2000000 in
theorem same_any (W : World) (v1 v2 : Value) (l : List (ByteArray × ByteArray)) (h1 : FRow W v1 l) (h2 : FRow W v2 l) (hl : l.length ≤ 1000000000) : Calls Try.prog 15 #[v1, v2] W fun e w' => e = .returned (.bool true) ∧ Below W.heap.size W w' := by
  obtain ⟨a1, c1, rfl, r1⟩ := h1
  obtain ⟨a2, c2, rfl, r2⟩ := h2
  have H1 := hideT r1
  have H2 := hideT r2
  clear r1 r2
  go_enter Try.func15, Try.ntmps15
  go_wp2_with fail
  go_loopw [5] (fun iv wr => ∃ k : Nat, k ≤ l.length ∧ iv = .int .i64 (k : Nat) ∧ Hid (Below W.heap.size W wr)) (fun iv _ => l.length - (intOf iv).toNat)
  case atStart => exact ⟨0, Nat.zero_le _, rfl, hideT (Below.refl _ _)⟩
  case round =>
    obtain ⟨k, hk, rfl, HB⟩ := hrel
    by_cases hlt : k < l.length
    · have i1 : (k : Int) < (l.length : Int) := by omega
      have i2 : (0 : Int) ≤ (k : Int) := by omega
      obtain ⟨g1, o1, rfl, p1, q1⟩ := H1.out k _ (List.getElem?_eq_getElem hlt)
      obtain ⟨g2, o2, rfl, p2, q2⟩ := H2.out k _ (List.getElem?_eq_getElem hlt)
      have p1 := keep_cell HB.out p1
      have q1 := keep_cell HB.out q1
      have p2 := keep_cell HB.out p2
      have q2 := keep_cell HB.out q2
      generalize (l[k]'hlt) = x at p1 q1 p2 q2
      obtain ⟨x, y⟩ := x
      dsimp only at p1 q1 p2 q2
      have w1 : IntKind.i64.wrap ((k : Int) + 1) = (k : Int) + 1 := by rw [IntKind.wrap_i64]; omega
      go_wp2_with fail
      go_quiet (fail)
      go_wp2
      exact ⟨⟨k + 1, by omega, by go_num, hideT (HB.out.trans (below_drewN _ _ _))⟩, by simp [intOf]; omega⟩
    · obtain rfl : k = l.length := by omega
      have i1 : ((l.length : Int) < (l.length : Int)) = False := by rw [eq_iff_iff, iff_false]; omega
      go_wp2
      go_ret
      exact ⟨rfl, HB.out⟩
end Go.Proofs.Ytbibfpgcnmocjaa
