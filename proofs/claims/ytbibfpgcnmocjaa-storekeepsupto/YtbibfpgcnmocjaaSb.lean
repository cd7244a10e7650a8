/- store: WriteString, String, Reset of a builder within another block. -/
import Derived.Test.YtbibfpgcnmocjaaSa
namespace Go.Proofs.Ytbibfpgcnmocjaa
open Go.RowKit

theorem BuA.keep {W W' : World} {b k : Nat} {T : TypeId} {cs : Array Value} {p v : Value} {l : List UInt8} (h : BuA W b k T cs p v l) (h1 : W'.heap[b]? = W.heap[b]?) (h2 : ∀ g, v.ownBlock = some g → W'.heap[g]? = W.heap[g]?) : BuA W' b k T cs p v l :=
  ⟨h1.trans h.blk, h.i0, h.i1, h.hp, ownF_keep h.own h2, h.nil⟩
theorem wpList_run {P : Program} {w w' : World} {ops : Array Oper} {rest : List Oper} {op : Oper} {a : Act} {Q : Exit → Act → World → Prop} {v : Value} (hgd : op.guard = none) (sl x : Operand) (t u : TypeId) (ho : op.op = .call { callee := .builtin .append, args := #[sl, x], argTypes := #[t, u] }) (hx : (Builtin.append_ #[t, u] op.type #[a.eval sl, a.eval x]).run P w = .ok v w') (h : wpList P ops Q rest (a.put op.dst v) w') : wpList P ops Q (op :: rest) a w := by
  refine wpList_plain hgd fun K hK => ?_
  unfold Oper.wp
  simp [execOp, ho, resolve, invoke, builtin, hx, Result.andThen]
  exact hK _ _ h
/-- Its block, and its row. -/
def bft (b : Nat) (v : Value) (k : Nat) : Prop := k = b ∨ v.ownBlock = some k

theorem check_any {W : World} {b k : Nat} {T : TypeId} {cs : Array Value} {p v : Value} {l : List UInt8} (h : BuA W b k T cs p v l) (hT : T ≠ 5) (hly : Ly T cs.size k) :
    Calls Try.prog 41 #[.pointer (some ⟨b, k, none⟩)] W fun e w' => e = .returned (.tuple #[]) ∧ BuA w' b k T (cs.setIfInBounds k (.pointer (some ⟨b, k, none⟩))) (.pointer (some ⟨b, k, none⟩)) v l ∧ Tch (fun j => j = b) W w' ∧ w'.heap.size = W.heap.size := by
  have hk : k < cs.size := (Array.getElem?_eq_some_iff.1 h.i0).1
  have hne := fun g (hg : v.ownBlock = some g) => ownF_ne h.own h.blk hT hg
  have hi1 : (cs.setIfInBounds k (.pointer (some ⟨b, k, none⟩)))[k + 1]? = some v := by rw [Array.getElem?_setIfInBounds, if_neg (by omega)]; exact h.i1
  have hi0 : (cs.setIfInBounds k (.pointer (some ⟨b, k, none⟩)))[k]? = some (.pointer (some ⟨b, k, none⟩)) := by rw [Array.getElem?_setIfInBounds, if_pos rfl, if_pos hk]
  obtain ⟨c0, f0⟩ := h.c0
  rcases h.hp with rfl | rfl
  · refine (check_fresh b k T cs.size W c0 (by simp [World.shape?, h.blk]) hk hly f0).mono ?_
    rintro e w' ⟨rfl, rfl⟩
    exact ⟨rfl, ⟨put_same _ _ _ _ h.blk, hi0, hi1, .inr rfl, ownF_keep h.own (fun g hg => put_far _ _ _ _ (hne g hg)), h.nil⟩, (Tch.refl (fun j => j = b) W).put (b := b) rfl _ _, put_size _ _ _ _⟩
  · refine (check_used b k W c0).mono ?_
    rintro e w' ⟨rfl, rfl⟩
    have hs : cs.setIfInBounds k (.pointer (some ⟨b, k, none⟩)) = cs := by
      apply Array.ext_getElem?
      intro j
      rw [Array.getElem?_setIfInBounds]
      by_cases e : k = j
      · subst e
        rw [if_pos rfl, if_pos hk, h.i0]
      · rw [if_neg e]
    rw [hs]
    exact ⟨rfl, h, Tch.refl _ _, rfl⟩

set_option maxHeartbeats 2000000 in
set_option maxRecDepth 100000 in
theorem write_any {W : World} {b k : Nat} {T : TypeId} {cs : Array Value} {p v : Value} {l : List UInt8} (h : BuA W b k T cs p v l) (hT : T ≠ 5) (hly : Ly T cs.size k) (s : ByteArray) (hlen : l.length + s.size ≤ 140737488355328) :
    Calls Try.prog 32 #[.pointer (some ⟨b, k, none⟩), .string s] W fun e w' => e = .returned (.tuple #[.int .i64 s.size, .nilIface]) ∧ ∃ v', BuA w' b k T ((cs.setIfInBounds k (.pointer (some ⟨b, k, none⟩))).setIfInBounds (k + 1) v') (.pointer (some ⟨b, k, none⟩)) v' (l ++ s.data.toList) ∧ Tch (bft b v) W w' ∧ ∀ g, v'.ownBlock = some g → v.ownBlock = some g ∨ W.heap.size ≤ g := by
  have HC := hideT (check_any h hT hly)
  have HT := hideT hT
  clear h hT hly
  go_enter Try.func32, Try.ntmps32
  go_wp2_with fail
  refine HC.out.mono ?_
  rintro e w1 ⟨rfl, h1, ht1, hs1⟩
  have H1 := hideT (And.intro h1 (And.intro ht1 hs1))
  obtain ⟨c1, f1⟩ := h1.c1
  obtain ⟨ao, n, cap, w2, hrun, ho2, hn2, hg2, hw2⟩ := append_str v l h1.own h1.nil s hlen 62
  have hne : v.ownBlock ≠ some b := fun e => ownF_ne h1.own h1.blk HT.out e rfl
  have hb2 : w2.heap[b]? = w1.heap[b]? := hg2.block b h1.blt (fun e => hne e.symm)
  have d1 : w2.cell? ⟨b, k + 1, none⟩ = some v := (World.cell?_of_block (a := ⟨b, k + 1, none⟩) hb2).trans c1
  have e1 : w2.frozen? ⟨b, k + 1, none⟩ = false := (World.frozen?_of_block (a := ⟨b, k + 1, none⟩) hb2).trans f1
  have HF := hideT (show BuA (w2.setCell ⟨b, k + 1, none⟩ (.slice ao n cap)) b k T ((cs.setIfInBounds k (.pointer (some ⟨b, k, none⟩))).setIfInBounds (k + 1) (.slice ao n cap)) (.pointer (some ⟨b, k, none⟩)) (.slice ao n cap) (l ++ s.data.toList) ∧ Tch (bft b v) W (w2.setCell ⟨b, k + 1, none⟩ (.slice ao n cap)) ∧ ∀ g, (Value.slice ao n cap).ownBlock = some g → v.ownBlock = some g ∨ W.heap.size ≤ g from by
    have hk : k + 1 < (cs.setIfInBounds k (.pointer (some ⟨b, k, none⟩))).size := (Array.getElem?_eq_some_iff.1 h1.i1).1
    refine ⟨⟨put_same _ _ _ _ (hb2.trans h1.blk), ?_, ?_, .inr rfl, ownF_keep ho2 (fun g hg => put_far _ _ _ _ (fun e => ?_)), hn2⟩, ((ht1.mono (fun j hj => .inl hj)).trans (Tch.grown (F := bft b v) hg2 (fun g hg => .inr hg)) (fun _ hj => .inl hj)).put (.inl rfl) _ _, fun g hg => ?_⟩
    · rw [Array.getElem?_setIfInBounds, if_neg (by omega)]
      exact h1.i0
    · rw [Array.getElem?_setIfInBounds, if_pos rfl, if_pos hk]
    · rcases hw2 g hg with h | h
      · exact hne (by rw [h, e])
      · have := h1.blt
        omega
    · rcases hw2 g hg with h | h
      · exact .inl h
      · exact .inr (by omega))
  have HR := hideT hrun
  clear h1 ht1 hs1 ho2 hn2 hg2 hw2 hne hb2 H1 HC f1 hrun
  go_wp2_with (at_builtin; refine wpList_run rfl _ _ _ _ rfl HR.out ?_)
  go_wp2
  go_ret2
  exact ⟨rfl, _, HF.out⟩

set_option maxHeartbeats 1000000 in
set_option maxRecDepth 100000 in
theorem reset_any {W : World} {b k : Nat} {T : TypeId} {cs : Array Value} {p v : Value} {l : List UInt8} (h : BuA W b k T cs p v l) :
    Calls Try.prog 34 #[.pointer (some ⟨b, k, none⟩)] W fun e w' => e = .returned (.tuple #[]) ∧ BuA w' b k T ((cs.setIfInBounds k (.pointer none)).setIfInBounds (k + 1) (.slice none 0 0)) (.pointer none) (.slice none 0 0) [] ∧ Tch (fun j => j = b) W w' ∧ w'.heap.size = W.heap.size := by
  obtain ⟨c0, f0⟩ := h.c0
  obtain ⟨c1, f1⟩ := h.c1
  have hk0 : k < cs.size := (Array.getElem?_eq_some_iff.1 h.i0).1
  have hk1 : k + 1 < cs.size := (Array.getElem?_eq_some_iff.1 h.i1).1
  have HF := hideT (show BuA ((W.setCell ⟨b, k, none⟩ (.pointer none)).setCell ⟨b, k + 1, none⟩ (.slice none 0 0)) b k T ((cs.setIfInBounds k (.pointer none)).setIfInBounds (k + 1) (.slice none 0 0)) (.pointer none) (.slice none 0 0) [] from
    ⟨put_same _ _ _ _ (put_same _ _ _ _ h.blk), by rw [Array.getElem?_setIfInBounds, if_neg (by omega), Array.getElem?_setIfInBounds, if_pos rfl, if_pos hk0], by rw [Array.getElem?_setIfInBounds, if_pos rfl, if_pos (by rw [Array.size_setIfInBounds]; exact hk1)], .inl rfl, World.ownsRowF_nil _ _ _ _, fun _ => rfl⟩)
  have HT := hideT (show Tch (fun j => j = b) W ((W.setCell ⟨b, k, none⟩ (.pointer none)).setCell ⟨b, k + 1, none⟩ (.slice none 0 0)) from ((Tch.refl (fun j => j = b) W).put (b := b) rfl _ _).put (b := b) rfl _ _)
  have HZ := hideT (show ((W.setCell ⟨b, k, none⟩ (.pointer none)).setCell ⟨b, k + 1, none⟩ (.slice none 0 0)).heap.size = W.heap.size from (put_size _ _ _ _).trans (put_size _ _ _ _))
  clear h hk0 hk1
  go_enter Try.func34, Try.ntmps34
  go_wp2
  go_end0
  exact ⟨rfl, HF.out, HT.out, HZ.out⟩

theorem froze_block {W : World} {g n cap : Nat} {l : List UInt8} (hn : n = l.length) (h : W.ownsRowF 0 5 1 (.slice (some ⟨g, 0, none⟩) n cap) l.length (Lib.byteCells l)) : (W.freeze ⟨g, 0, none⟩ n).ownsRowF 0 5 1 (.slice (some ⟨g, 0, none⟩) n cap) l.length (Lib.byteCells l) := by
  refine ⟨h.1, ?_⟩
  rcases h.2 with ⟨h1, _⟩ | ⟨g', cap', cur, fz, hv, hb, hh, hf, r⟩
  · cases h1
  · cases hv
    obtain ⟨lo, hi⟩ := fz
    unfold World.freeze
    split
    · exact .inr ⟨g, cap, cur, (lo, hi), rfl, hb, hh, hf, r⟩
    · refine .inr ⟨g, cap, cur, _, rfl, hb, by simp only [Array.getElem?_modify, if_true, hh, Option.map_some]; rfl, ?_, r⟩
      simp only at hf
      split
      · simp only
        omega
      · simp only
        omega
theorem freeze_far (W : World) (g n : Nat) {j : Nat} (h : j ≠ g) : (W.freeze ⟨g, 0, none⟩ n).heap[j]? = W.heap[j]? := by
  unfold World.freeze
  split
  · rfl
  · simp only [Array.getElem?_modify]
    rw [if_neg (fun e => h e.symm)]
theorem freeze_tch (W : World) (g n : Nat) {F : Nat → Prop} (hF : F g) : Tch F W (W.freeze ⟨g, 0, none⟩ n) := by
  refine ⟨?_, ?_, ?_, ?_, fun j _ hj => freeze_far W g n (fun e => hj (by rw [e]; exact hF))⟩
  all_goals (unfold World.freeze; split <;> simp)
theorem infoB1 : Try.prog.cellsOf 5 = 1 := by kernel_rfl

set_option maxHeartbeats 2000000 in
set_option maxRecDepth 100000 in
theorem str_any {W : World} {b k : Nat} {T : TypeId} {cs : Array Value} {p v : Value} {l : List UInt8} (h : BuA W b k T cs p v l) (hT : T ≠ 5) :
    Calls Try.prog 27 #[.pointer (some ⟨b, k, none⟩)] W fun e w' => e = .returned (.string ⟨l.toArray⟩) ∧ BuA w' b k T cs p v l ∧ Tch (fun j => v.ownBlock = some j) W w' ∧ w'.heap.size = W.heap.size := by
  have c1 : W.drew.cell? ⟨b, k + 1, none⟩ = some v := h.c1.1
  by_cases h0 : l = []
  · subst h0
    have hv := h.nil rfl
    subst hv
    have HF := hideT (show BuA W.drew b k T cs p (.slice none 0 0) [] from h.keep rfl (fun _ _ => rfl))
    have hSD : (Builtin.unsafeSliceData_ #[62] 80 #[.slice none 0 0]).run Try.prog W.drew = .ok (.pointer none) W.drew := rfl
    have hUS := Lib.run_unsafeString_none (P := Try.prog) W.drew 80 3 9 none
    have HTC := hideT (show Tch (fun j => (Value.slice none 0 0).ownBlock = some j) W W.drew from Tch.of ((Below.refl _ W).drew))
    clear h
    go_enter Try.func27, Try.ntmps27
    go_wp2
    go_region
    all_goals (go_wp2; go_ret; exact ⟨rfl, HF.out, HTC.out, rfl⟩)
  · have hl0 : l.length ≠ 0 := by simpa using h0
    obtain ⟨g, cap, cur, fz, rfl, hbg, hg, hfz, hnc, hcm, hcs, htake⟩ : ∃ g cap cur fz, v = .slice (some ⟨g, 0, none⟩) l.length cap ∧ 0 ≤ g ∧ W.heap[g]? = some (.cells cur 5 fz) ∧ fz.2 ≤ l.length * 1 ∧ l.length ≤ cap ∧ cap ≤ maxLen ∧ cur.size = cap * 1 ∧ cur.toList.take (l.length * 1) = Lib.byteCells l := by
      rcases h.own.2 with ⟨_, hz⟩ | ⟨g, cap, cur, fz, hv, r⟩
      · exact absurd hz hl0
      · exact ⟨g, cap, cur, fz, hv, r⟩
    have hSD : (Builtin.unsafeSliceData_ #[62] 80 #[.slice (some ⟨g, 0, none⟩) l.length cap]).run Try.prog W.drew = .ok (.pointer (some ⟨g, 0, none⟩)) W.drew := Lib.run_unsafeSliceData_row _ _ _ _ _ _ (by omega)
    have hUS : (Builtin.unsafeString_ #[80, 3] 9 #[.pointer (some ⟨g, 0, none⟩), .int .i64 l.length]).run Try.prog W.drew = .ok (.string ⟨l.toArray⟩) (W.drew.freeze ⟨g, 0, none⟩ l.length) := by
      refine Lib.run_unsafeString_row W.drew 80 3 9 5 Try.underlying80 infoB1 g cur.size (by have hg' : W.drew.heap[g]? = some (.cells cur 5 fz) := hg; simp [World.shape?, hg']) l h0 (by omega) (by unfold maxLen at hcm; omega) ?_
      intro j x hx
      exact h.own.cells (g := g) rfl j (.int .u8 x.toNat) (by simp [Lib.byteCells, hx])
    have hne : b ≠ g := fun e => ownF_ne h.own h.blk hT rfl e.symm
    have HF := hideT (show BuA (W.drew.freeze ⟨g, 0, none⟩ l.length) b k T cs p (.slice (some ⟨g, 0, none⟩) l.length cap) l ∧ Tch (fun j => (Value.slice (some ⟨g, 0, none⟩) l.length cap).ownBlock = some j) W (W.drew.freeze ⟨g, 0, none⟩ l.length) ∧ (W.drew.freeze ⟨g, 0, none⟩ l.length).heap.size = W.heap.size from
      ⟨⟨(freeze_far W.drew g _ hne).trans h.blk, h.i0, h.i1, h.hp, froze_block rfl (show W.drew.ownsRowF 0 5 1 _ _ _ from h.own), h.nil⟩, (Tch.of ((Below.refl _ W).drew)).trans (freeze_tch W.drew g l.length (F := fun j => (Value.slice (some ⟨g, 0, none⟩) l.length cap).ownBlock = some j) rfl) (fun _ hj => .inl hj), by unfold World.freeze; split <;> simp⟩)
    clear h htake hcs hnc hfz hg hcm
    go_enter Try.func27, Try.ntmps27
    go_wp2
    go_region
    all_goals (go_wp2; go_ret; exact ⟨rfl, HF.out⟩)
end Go.Proofs.Ytbibfpgcnmocjaa
