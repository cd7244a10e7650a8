/- strings.Builder: Reset; String, and what stays. -/
import Derived.Test.YtiegmgcdfafhiaaDoorBu
import Derived.Test.YtiegmgcdfafhiaaDoorHa
namespace Go.Proofs.YtiegmgcdfafhiaaDoor
open Go.RowKit Go.Shelf

theorem ptr61 : Tryd.prog.underlying 61 = some (.pointer 5) := by kernel_rfl
theorem cells5 : Tryd.prog.cellsOf 5 = 1 := by kernel_rfl

theorem freeze_far (w : World) (g n k : Nat) (h : k ≠ g) : (w.freeze ⟨g, 0, none⟩ n).heap[k]? = w.heap[k]? := by
  unfold World.freeze
  split
  · rfl
  · rw [Array.getElem?_modify]
    rw [if_neg (fun e => h e.symm)]
theorem freeze_size (w : World) (g n : Nat) : (w.freeze ⟨g, 0, none⟩ n).heap.size = w.heap.size := by
  unfold World.freeze
  split
  · rfl
  · simp

set_option maxHeartbeats 2000000 in
set_option maxRecDepth 100000 in
theorem string_keep (B b : Nat) (l : List UInt8) (w : World) (h : Lib.IsBuilder 49 5 B b (Lib.byteCells l) w) (h0 : l ≠ []) (hl : l.length ≤ 9223372036854775807) :
    Calls Tryd.prog 25 #[.pointer (some ⟨b, 0, none⟩)] w fun e w' => e = .returned (.string (bst l)) ∧ Below B w w' ∧ KeepB w w' b ∧ w'.heap[b]? = w.heap[b]? ∧ ∃ p v, w.heap[b]? = some (.cells #[p, v] 49 (0, 0)) := by
  obtain ⟨p, hB, v, hbk, hown, hne⟩ : ∃ p, Lib.BuilderAt 49 5 B b p (Lib.byteCells l) w := by
    rcases h with h | h
    · exact ⟨_, h⟩
    · exact ⟨_, h⟩
  have hlen : (Lib.byteCells l).length = l.length := Lib.byteCells_length l
  have hpos : 0 < l.length := List.length_pos_iff.2 h0
  obtain ⟨g, cap, cur, rfl, hbg, hg, hcap, -, hsz, htk⟩ : ∃ g cap cur, v = .slice (some ⟨g, 0, none⟩) l.length cap ∧ B ≤ g ∧ w.heap[g]? = some (.cells cur 5 (0, 0)) ∧ l.length ≤ cap ∧ cap ≤ maxLen ∧ cur.size = cap * 1 ∧ cur.toList.take (l.length * 1) = Lib.byteCells l := by
    rcases hown.2 with ⟨_, h2⟩ | h2
    · omega
    · rw [hlen] at h2; exact h2
  have hgb : g ≠ b := fun e => by
    subst e
    rw [hbk] at hg
    cases hg
  have c1 : w.drew.cell? ⟨b, 1, none⟩ = some (.slice (some ⟨g, 0, none⟩) l.length cap) := by
    have : w.drew.heap[b]? = some (.cells #[p, .slice (some ⟨g, 0, none⟩) l.length cap] 49 (0, 0)) := hbk
    rw [Lib.cell_of_heap this]; rfl
  have c0 : w.cell? ⟨b, 1, none⟩ = some (.slice (some ⟨g, 0, none⟩) l.length cap) := c1
  have hSD : (Builtin.unsafeSliceData_ #[42] 61 #[.slice (some ⟨g, 0, none⟩) l.length cap]).run Tryd.prog w.drew = .ok (.pointer (some ⟨g, 0, none⟩)) w.drew :=
    Lib.run_unsafeSliceData_row _ _ _ _ _ _ (by omega)
  have hcell : ∀ j x, l[j]? = some x → w.drew.cell? ((⟨g, 0, none⟩ : Addr).add j) = some (.int .u8 x.toNat) := by
    intro j x hx
    have h1 := hown.cells (g := g) rfl j (.int .u8 (x.toNat : Nat)) (by rw [Lib.byteCells, List.getElem?_map, hx]; rfl)
    exact h1
  have hUS := Lib.run_unsafeString_row (P := Tryd.prog) w.drew 61 3 9 5 ptr61 cells5 g cur.size (by have hg' : w.drew.heap[g]? = some (.cells cur 5 (0, 0)) := hg; simp [World.shape?, hg']) l h0 (by omega) hl hcell
  have hfb := (freeze_far w.drew g l.length b (fun e => hgb e.symm)).trans (show w.drew.heap[b]? = w.heap[b]? from rfl)
  have HF := hideT (And.intro (Lib.below_freeze ((Below.refl B w).drew) (p := ⟨g, 0, none⟩) hbg l.length) (And.intro (show KeepB w (w.drew.freeze ⟨g, 0, none⟩ l.length) b from fun r hr => by
    have hrg : r ≠ g := fun e => hr.2.2 _ _ hbk (by rw [e]; rfl)
    refine ⟨⟨by rw [freeze_size]; exact hr.1, hr.2.1, fun p' v' hv => ?_⟩, freeze_far _ _ _ _ hrg⟩
    rw [hfb] at hv
    exact hr.2.2 p' v' hv) (And.intro hfb hbk)))
  obtain ⟨F, hFF⟩ : ∃ F, F = w.drew.freeze ⟨g, 0, none⟩ l.length := ⟨_, rfl⟩
  rw [← hFF] at HF hUS
  obtain ⟨bl, hbl⟩ : ∃ bl, bl = bst l := ⟨_, rfl⟩
  rw [show (⟨l.toArray⟩ : ByteArray) = bl from hbl.symm] at hUS
  rw [← hbl]
  clear hFF hbl h hown hbk hfb hcell hg htk hsz hne hgb
  go_enter Tryd.func25, Tryd.ntmps25
  go_wp2_with fail
  go_region
  all_goals (go_wp2; go_ret; exact ⟨rfl, HF.out.1, HF.out.2.1, HF.out.2.2.1, _, _, HF.out.2.2.2⟩)

set_option maxRecDepth 100000 in
set_option maxHeartbeats 1000000 in
theorem reset_any (B b : Nat) (p v : Value) (w : World) (hB : B ≤ b) (hbk : w.heap[b]? = some (.cells #[p, v] 49 (0, 0))) :
    Calls Tryd.prog 26 #[.pointer (some ⟨b, 0, none⟩)] w fun e w' => e = .returned (.tuple #[]) ∧ Lib.IsBuilder 49 5 B b (Lib.byteCells []) w' ∧ Below B w w' ∧ KeepB w w' b := by
  have c0 : w.cell? ⟨b, 0, none⟩ = some p := by simp [World.cell?, hbk]
  have c1 : w.cell? ⟨b, 1, none⟩ = some v := by simp [World.cell?, hbk]
  have f0 : w.frozen? ⟨b, 0, none⟩ = false := by simp [World.frozen?, hbk]
  have f1 : w.frozen? ⟨b, 1, none⟩ = false := by simp [World.frozen?, hbk]
  have hN : ((w.setCell ⟨b, 0, none⟩ (.pointer none)).setCell ⟨b, 1, none⟩ (.slice none 0 0)).heap[b]? = some (.cells #[.pointer none, .slice none 0 0] 49 (0, 0)) := by
    simp only [World.setCell, Array.getElem?_modify, if_true, hbk, Option.map_some]
    rfl
  have HF := hideT (And.intro (show Lib.IsBuilder 49 5 B b (Lib.byteCells []) _ from .inl ⟨hB, _, hN, World.ownsRow_nil _ _ _ _, by simp [Value.ownBlock]⟩) (And.intro (((Below.refl B w).setCell (p := ⟨b, 0, none⟩) hB (.pointer none)).setCell (p := ⟨b, 1, none⟩) hB (.slice none 0 0)) (show KeepB w ((w.setCell ⟨b, 0, none⟩ (.pointer none)).setCell ⟨b, 1, none⟩ (.slice none 0 0)) b from fun r hr =>
    ⟨⟨by simpa using hr.1, hr.2.1, fun p' v' hv => by rw [hN] at hv; cases hv; simp [Value.ownBlock]⟩, (put_far _ _ _ _ hr.2.1).trans (put_far _ _ _ _ hr.2.1)⟩)))
  clear hN hbk
  go_enter Tryd.func26, Tryd.ntmps26
  go_wp2
  go_end0
  exact ⟨rfl, HF.out.1, HF.out.2.1, HF.out.2.2⟩

end Go.Proofs.YtiegmgcdfafhiaaDoor
