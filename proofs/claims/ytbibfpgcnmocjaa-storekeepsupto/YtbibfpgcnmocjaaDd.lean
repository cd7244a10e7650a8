/- store: the document's New. -/
import Derived.Test.YtbibfpgcnmocjaaDc
namespace Go.Proofs.Ytbibfpgcnmocjaa
open Go.RowKit

/-- The document's store, all of it newer than W0. -/
def Dr (W0 W : World) (b : Nat) (S : Sr) : Prop := ∃ lv ov, DA W W0.heap.size b lv ov S ∧ Below W0.heap.size W0 W
def DNew (W : World) (R : Nat × Fs) (e : Ending) (w' : World) : Prop := Below W.heap.size W w' ∧ ((R.1 ≠ 0 ∧ e = .returned (.tuple #[.pointer none, .int .i64 (R.1 : Nat)])) ∨ (R.1 = 0 ∧ ∃ b, e = .returned (.tuple #[ptrV b, .int .i64 0]) ∧ Dr W w' b ⟨R.2, [], 0⟩))
theorem Dr.step {W0 W W' : World} {b : Nat} {S : Sr} (h : Dr W0 W b S) (hb : Below W.heap.size W W') : Dr W0 W' b S := by
  obtain ⟨lv, ov, hD, h0⟩ := h
  exact ⟨lv, ov, hD.keep (fun k hk => hb.block k (hD.lt hk).2), h0.trans (hb.mono h0.size)⟩
theorem Dr.bel {W0 W : World} {b : Nat} {S : Sr} (h : Dr W0 W b S) : Below W0.heap.size W0 W := by
  obtain ⟨_, _, _, h⟩ := h
  exact h
theorem find_val {fs : Fs} {n : List UInt8} : ((look fs n).isSome = true ∧ 0 ≤ findV (idx fs n)) ∨ ((look fs n).isSome = false ∧ findV (idx fs n) < 0) := by
  cases h : idx fs n with
  | none => exact .inr ⟨by rw [idx_none h]; rfl, by decide⟩
  | some k =>
    obtain ⟨f, h1, _⟩ := idx_some h
    exact .inl ⟨by rw [h1]; rfl, Int.natCast_nonneg _⟩

set_option maxRecDepth 100000 in
set_option maxHeartbeats 4000000 in
theorem docNew_any (W : World) (v : Value) (l : List (ByteArray × ByteArray)) (hv : FRow W v l) (hs : ∀ x ∈ l, x.1.size ≤ 140737488355000 ∧ x.2.size ≤ 140737488355000) : Calls Try.prog 23 #[v] W (DNew W (newR l)) := by
  obtain ⟨a, cp, rfl, hrow⟩ := hv
  by_cases hbig : 16 < l.length
  · have k1 : (16 : Int) < (l.length : Int) := by omega
    have hR : newR l = (4, []) := by unfold newR; rw [if_pos hbig]
    rw [hR]
    clear hbig hrow hR
    go_enter Try.func23, Try.ntmps23
    go_wp2
    go_ret2
    exact ⟨Below.refl _ _, .inl ⟨by decide, rfl⟩⟩
  · have k1 : ((16 : Int) < (l.length : Int)) = False := by rw [eq_iff_iff, iff_false]; omega
    have k2 : (16 < l.length) = False := by rw [eq_iff_iff, iff_false]; exact hbig
    have hl16 : l.length ≤ 16 := by omega
    have hR : newR l = newGo l 0 [] := by unfold newR; rw [if_neg hbig]
    rw [hR]
    clear hbig hR
    obtain ⟨R, hRR⟩ : ∃ R, R = newGo l 0 [] := ⟨_, rfl⟩
    rw [← hRR]
    have HRR := hideT hRR
    clear hRR
    have HROW := hideT hrow
    have HS := hideT hs
    clear hrow hs
    go_enter Try.func23, Try.ntmps23
    go_wp2_with fail
    have HM0 := hideT (show Dr W (W.alloc (.cells #[.slice none 0 0, .slice none 0 0, .string ⟨#[]⟩, .int .i64 0] 37)) W.heap.size ⟨[], [], 0⟩ from ⟨.slice none 0 0, .slice none 0 0, ⟨Nat.le_refl _, heap_alloc_new W _, World.ownsRow_nil _ _ _ _, World.ownsRow_nil _ _ _ _⟩, (Below.refl _ W).alloc (Nat.le_refl _) _⟩)
    obtain ⟨b, hb⟩ : ∃ b, b = W.heap.size := ⟨_, rfl⟩
    obtain ⟨Y, hY⟩ : ∃ Y, Y = W.alloc (.cells #[.slice none 0 0, .slice none 0 0, .string ⟨#[]⟩, .int .i64 0] 37) := ⟨_, rfl⟩
    rw [← hY] at HM0 ⊢
    have HM1 := hideT (show Dr W Y b ⟨[], [], 0⟩ by rw [hb]; exact HM0.out)
    rw [← hb]
    clear hb hY HM0
    go_loopw [5, 6] (fun gv iv wr => ∃ (k g : Nat) (fs : Fs), k ≤ l.length ∧ iv = .int .i64 (k : Nat) ∧ gv = .int .i64 (g : Nat) ∧ g ≤ 32768 ∧ Hid (R = newGo (l.drop k) g fs ∧ fs.length ≤ k ∧ Dr W wr b ⟨fs, [], 0⟩)) (fun _ iv _ => l.length - (intOf iv).toNat)
    case atStart => exact ⟨0, 0, [], Nat.zero_le _, rfl, rfl, Nat.zero_le _, hideT ⟨HRR.out, Nat.le_refl _, HM1.out⟩⟩
    case round =>
      obtain ⟨k, g, fs, hk, rfl, rfl, hg, HI⟩ := hrel
      by_cases hlt : k < l.length
      · have i1 : (k : Int) < (l.length : Int) := by omega
        have i2 : (0 : Int) ≤ (k : Int) := by omega
        have hst := newGo_step hlt g fs
        have hsz := HS.out _ (List.getElem_mem hlt)
        obtain ⟨gb, o, rfl, r1, r2⟩ := HROW.out k _ (List.getElem?_eq_getElem hlt)
        have e1 := keep_cell HI.out.2.2.bel r1
        have e2 := keep_cell HI.out.2.2.bel r2
        generalize (l[k]'hlt) = x at hst hsz e1 e2
        obtain ⟨nm, dt⟩ := x
        dsimp only at hst hsz e1 e2
        have g1 : IntKind.i64.wrap ((g : Int) + (dt.size : Int)) = (g : Int) + (dt.size : Int) := by rw [IntKind.wrap_i64]; omega
        have w1' : IntKind.i64.wrap ((k : Int) + 1) = (k : Int) + 1 := by rw [IntKind.wrap_i64]; omega
        have HNM := hideT (docName_any nm)
        clear r1 r2
        go_wp2_with fail
        refine (HNM.out _).mono ?_
        rintro e w1 ⟨rfl, rfl⟩
        have hX : Below wr.heap.size wr (wr.alloc (.cells #[.string nm, .string dt] 52)) := (Below.refl _ wr).alloc (Nat.le_refl _) _
        have hXn := heap_alloc_new wr (.cells #[.string nm, .string dt] 52)
        generalize wr.alloc (.cells #[.string nm, .string dt] 52) = X at *
        have HMX := hideT (HI.out.2.2.step hX)
        have HRE := hideT (HI.out.1.trans hst)
        have HLE := hideT HI.out.2.1
        generalize wr.heap.size = ob at *
        have x0 : X.cell? ⟨ob, 0, none⟩ = some (.string nm) := by simp [World.cell?, hXn]
        have x1 : X.cell? ⟨ob, 1, none⟩ = some (.string dt) := by simp [World.cell?, hXn]
        clear hX hst HI HRR HROW HS e1 e2 HNM hXn
        cases hnb : nameB nm.data.toList with
        | false =>
          have HR := hideT (show R = (3, fs) by rw [HRE.out, hnb, if_pos rfl])
          clear hnb
          go_wp2
          go_ret2
          exact ⟨HMX.out.bel, .inl ⟨by rw [HR.out]; exact (by decide : (3 : Nat) ≠ 0), by rw [HR.out]; rfl⟩⟩
        | true =>
          have HR := hideT (show R = _ from HRE.out.trans (by rw [hnb, if_neg (by decide)]))
          clear hnb HRE
          have HFI := hideT (show Calls Try.prog 28 #[ptrV b, .string nm] X fun e w' => e = .returned (.int .i64 (findV (idx fs nm.data.toList))) ∧ w' = X from by
            obtain ⟨lv, ov, hD, _⟩ := HMX.out
            exact find_any hD (by have := HLE.out; show fs.length ≤ 1000; omega) nm)
          have hfv := find_val (fs := fs) (n := nm.data.toList)
          generalize findV (idx fs nm.data.toList) = fv at *
          rcases hfv with ⟨hlk, hfv⟩ | ⟨hlk, hfv⟩
          · have HR1 := hideT (show R = (1, fs) from HR.out.trans (by rw [hlk, if_pos (by rfl)]))
            clear HR hlk
            go_wp2_with fail
            refine HFI.out.mono ?_
            rintro e w1 ⟨rfl, rfl⟩
            go_wp2
            go_ret2
            exact ⟨HMX.out.bel, .inl ⟨by rw [HR1.out]; exact (by decide : (1 : Nat) ≠ 0), by rw [HR1.out]; rfl⟩⟩
          · have HR1 := hideT (show R = _ from HR.out.trans (by rw [hlk, if_neg (by decide)]))
            have hfv2 : (0 ≤ fv) = False := by rw [eq_iff_iff, iff_false]; omega
            clear HR hlk
            by_cases hbig : 32768 < g + dt.size
            · have j1 : (32768 : Int) < (g : Int) + (dt.size : Int) := by omega
              have HR2 := hideT (show R = (2, fs) from HR1.out.trans (by rw [if_pos hbig]))
              clear hbig
              go_wp2_with fail
              refine HFI.out.mono ?_
              rintro e w1 ⟨rfl, rfl⟩
              go_wp2
              go_ret2
              exact ⟨HMX.out.bel, .inl ⟨by rw [HR2.out]; exact (by decide : (2 : Nat) ≠ 0), by rw [HR2.out]; rfl⟩⟩
            · have j1 : ((32768 : Int) < (g : Int) + (dt.size : Int)) = False := by rw [eq_iff_iff, iff_false]; omega
              have j2 : (32768 < g + dt.size) = False := by rw [eq_iff_iff, iff_false]; exact hbig
              have HR2 := hideT (show R = _ from HR1.out.trans (by rw [if_neg hbig]))
              have hgd : g + dt.size ≤ 32768 := by omega
              have HPU := hideT (show Calls Try.prog 36 #[ptrV b, .agg #[.string nm, .string dt], .bool false] X fun e w' => e = .returned (.tuple #[]) ∧ Dr W w' b ⟨insF fs nm.data.toList ⟨dt.data.toList, false⟩, [], 0⟩ from by
                obtain ⟨lv, ov, hD, h0⟩ := HMX.out
                have hp := put_any hD (by have := HLE.out; show fs.length ≤ 16; omega) nm.data.toList dt.data.toList false
                rw [arr_list, arr_list] at hp
                refine hp.mono ?_
                rintro e w' ⟨rfl, ht, lv2, ov2, hd, _⟩
                exact ⟨rfl, lv2, ov2, hd, below_of_tch h0 ht (fun k hk => by rw [hk]; exact hD.hb)⟩)
              clear hbig HR1 HMX
              go_wp2_with fail
              refine HFI.out.mono ?_
              rintro e w1 ⟨rfl, rfl⟩
              go_wp2_with fail
              refine HPU.out.mono ?_
              rintro e w2 ⟨rfl, hd⟩
              have HD := hideT hd
              clear hd HPU HFI x0 x1
              go_wp2
              exact ⟨⟨k + 1, g + dt.size, _, by omega, by go_num, by go_num, hgd, hideT ⟨HR2.out, by rw [len_ins]; have := HLE.out; omega, HD.out⟩⟩, by simp [intOf]; omega⟩
      · obtain rfl : k = l.length := by omega
        have i1 : ((l.length : Int) < (l.length : Int)) = False := by rw [eq_iff_iff, iff_false]; omega
        have HR := hideT (show R = (0, fs) by rw [HI.out.1, List.drop_of_length_le (Nat.le_refl _)]; rfl)
        go_wp2
        go_ret2
        exact ⟨HI.out.2.2.bel, .inr ⟨by rw [HR.out], b, rfl, by rw [HR.out]; exact HI.out.2.2⟩⟩
end Go.Proofs.Ytbibfpgcnmocjaa
