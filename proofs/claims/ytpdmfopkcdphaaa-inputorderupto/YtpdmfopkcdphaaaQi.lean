/- input: InputNone, from any program's queue. -/
import Derived.Test.YtpdmfopkcdphaaaQe
import Derived.Laws.OwnMore
import Derived.Laws.IdiomStrings
namespace Go.Proofs.Ytpdmfopkcdphaaa
open Go.RowKit

/-- What is asked of no queue. -/
structure ImpNil : Prop where
  feed : ∀ (W : World) (s : ByteArray), s.size ≤ 140737488355000 → Calls Try.prog 8 #[.pointer none, .string s] W fun e w' => e = .returned (.int .i64 25) ∧ Below W.heap.size W w'
  close : ∀ W : World, Calls Try.prog 10 #[.pointer none] W fun e w' => e = .returned (.int .i64 25) ∧ Below W.heap.size W w'
  next : ∀ W : World, Calls Try.prog 12 #[.pointer none] W fun e w' => e = .returned (.tuple #[.string ⟨#[]⟩, .bool false]) ∧ Below W.heap.size W w'
  ready : ∀ W : World, Calls Try.prog 14 #[.pointer none] W fun e w' => e = .returned (.bool false) ∧ Below W.heap.size W w'
  last : ∀ W : World, Calls Try.prog 16 #[.pointer none] W fun e w' => e = .returned (.bool false) ∧ Below W.heap.size W w'
  number : ∀ W : World, Calls Try.prog 18 #[.pointer none] W fun e w' => e = .returned (.int .i64 0) ∧ Below W.heap.size W w'
  waiting : ∀ W : World, Calls Try.prog 19 #[.pointer none] W fun e w' => e = .returned (.int .i64 0) ∧ Below W.heap.size W w'
  held : ∀ W : World, Calls Try.prog 21 #[.pointer none] W fun e w' => e = .returned (.int .i64 0) ∧ Below W.heap.size W w'
theorem on {W w w' : World} (h : Below W.heap.size W w) (k : Below w.heap.size w w') : Below W.heap.size W w' := h.trans (k.mono h.size)
theorem infoByte : (Try.prog.info? 5).map (fun i => (i.zero, i.size, i.bytes)) = some (some (.int .u8 0), 1, 1) := by kernel_rfl
theorem make_run (m : Nat) (hm : m ≤ 1027) (w : World) : ∃ C : Array Value, C.size = m ∧ (Instr.makeSlice 39 (.int .i64 (m : Int)) (.int .i64 (m : Int))).run Try.prog w = .ok (.slice (some ⟨w.heap.size, 0, none⟩) m m) (w.alloc (.cells C 5)) := by
  obtain ⟨i0, hi, hz0, hz1, hz2⟩ := info_parts infoByte
  refine ⟨madeCells (Value.int .u8 0).cells (m * i0.size), ?_, ?_⟩
  · rw [size_madeCells, hz1]
    omega
  · have h := run_make (P := Try.prog) w 39 5 i0 _ Try.underlying39 hi hz0 .i64 .i64 m m (by omega) (Int.le_refl _) (by rw [hz2]; omega) (by omega)
    simp only [Int.toNat_natCast] at h
    exact h
def fillL (m : Nat) : List UInt8 := List.replicate m 120
theorem fr_below {I : World → (Nat → Prop) → Nat → Qs → Prop} {W0 W : World} {b : Nat} {q : Qs} (h : Fr I W0 W b q) : Below W0.heap.size W0 W := by
  obtain ⟨_, _, hb, _⟩ := h
  exact hb
theorem fr_block {I : World → (Nat → Prop) → Nat → Qs → Prop} {W0 W : World} {b g : Nat} {q : Qs} (h : Fr I W0 W b q) (hg : g < W0.heap.size) : W.heap[g]? = W0.heap[g]? := (fr_below h).block g hg
theorem feed_nl {q : Qs} {l : List UInt8} (hq : q.cl = false) (h : 10 ∈ l) : ((feedE q l : Nat) : Int) = 19 ∧ q.feed l = q := by
  have e : feedE q l = 19 := by unfold feedE; rw [hq, if_neg (by decide), if_pos h]
  refine ⟨by rw [e]; rfl, ?_⟩
  unfold Qs.feed
  rw [e, if_neg (by decide)]
theorem feed_open (l : List UInt8) : (q0.feed l).cl = false := by
  unfold Qs.feed
  split <;> rfl
theorem feed_fill (k : Nat) : feedE q0 (fillL k) = if 1024 < k then 15 else 0 := by
  unfold feedE
  rw [if_neg (by decide), if_neg (by simp [fillL])]
  simp [fillL]
set_option maxRecDepth 100000 in
set_option maxHeartbeats 4000000 in
theorem none_any {I : World → (Nat → Prop) → Nat → Qs → Prop} (imp : Imp I) (nil : ImpNil) (W : World) (s : ByteArray) (hs : s.size ≤ 140737488355000) (c : UInt8) : Calls Try.prog 5 #[.string s, .int .u8 (c.toNat : Nat)] W fun e w' => e = .returned (.bool true) ∧ Below W.heap.size W w' := by
  have IM := hideT imp
  have NI := hideT nil
  clear imp nil
  go_enter Try.func5, Try.ntmps5
  go_wp2_with fail
  refine (NI.out.next W).mono ?_
  rintro e w1 ⟨rfl, h1⟩
  have H1 := hideT h1
  clear h1
  go_wp2_with fail
  refine (awake_any IM.out w1).mono ?_
  rintro e w2 ⟨rfl, h2⟩
  have H2 := hideT (on H1.out h2)
  clear h2 H1
  go_wp2_with fail
  refine (NI.out.feed w2 s hs).mono ?_
  rintro e w3 ⟨rfl, h3⟩
  have H3 := hideT (on H2.out h3)
  clear h3 H2
  go_wp2_with fail
  refine (NI.out.close w3).mono ?_
  rintro e w4 ⟨rfl, h4⟩
  have H4 := hideT (on H3.out h4)
  clear h4 H3
  go_wp2_with fail
  refine (NI.out.ready w4).mono ?_
  rintro e w5 ⟨rfl, h5⟩
  have H5 := hideT (on H4.out h5)
  clear h5 H4
  go_wp2_with fail
  refine (NI.out.last w5).mono ?_
  rintro e w6 ⟨rfl, h6⟩
  have H6 := hideT (on H5.out h6)
  clear h6 H5
  go_wp2_with fail
  refine (NI.out.number w6).mono ?_
  rintro e w7 ⟨rfl, h7⟩
  have H7 := hideT (on H6.out h7)
  clear h7 H6
  go_wp2_with fail
  refine (NI.out.waiting w7).mono ?_
  rintro e w8 ⟨rfl, h8⟩
  have H8 := hideT (on H7.out h8)
  clear h8 H7
  go_wp2_with fail
  refine (NI.out.held w8).mono ?_
  rintro e w9 ⟨rfl, h9⟩
  have H9 := hideT (on H8.out h9)
  clear h9 H8
  obtain ⟨r, hr⟩ : ∃ r : Nat, r = c.toNat % 8 := ⟨_, rfl⟩
  have hr8 : r < 8 := by omega
  have t1 : (c.toNat : Int).tmod 8 = (r : Int) := by rw [hr, Int.tmod_eq_emod_of_nonneg (by omega)]; omega
  have t2 : IntKind.u8.wrap (r : Int) = (r : Int) := by rw [IntKind.wrap_u8]; omega
  clear hr
  obtain ⟨m, hm⟩ : ∃ m : Nat, m = 1020 + r := ⟨_, rfl⟩
  have t3 : (1020 : Int) + (r : Int) = (m : Int) := by omega
  have t4 : IntKind.i64.wrap (m : Int) = (m : Int) := by rw [IntKind.wrap_i64]; omega
  have t5 : IntKind.i64.wrap (r : Int) = (r : Int) := by rw [IntKind.wrap_i64]; omega
  have hm1 : 1020 ≤ m := by omega
  have hm2 : m ≤ 1027 := by omega
  clear hm
  obtain ⟨C, hC, hmk⟩ := make_run m hm2 w9
  have HC := hideT hC
  clear hC
  go_wp2_with fail
  obtain ⟨u0, hu0⟩ : ∃ u0, u0 = w9.alloc (.cells C 5) := ⟨_, rfl⟩
  rw [← hu0]
  have HU := hideT (show u0.heap[w9.heap.size]? = some (.cells C 5 (0, 0)) ∧ Below W.heap.size W u0 ∧ W.heap.size ≤ w9.heap.size from ⟨by rw [hu0]; exact heap_alloc_new w9 _, by rw [hu0]; exact on H9.out ((Below.refl _ _).alloc (Nat.le_refl _) _), H9.out.size⟩)
  obtain ⟨gb, hgb⟩ : ∃ gb, gb = w9.heap.size := ⟨_, rfl⟩
  rw [← hgb] at HU ⊢
  clear hgb hu0 hmk H9 t1 t2 t3 t4 t5
  go_loopw [67] (fun i wr => ∃ (k : Nat) (D : Array Value), k ≤ m ∧ i = .int .i64 k ∧ Hid (D.size = m ∧ wr.heap[gb]? = some (.cells D 5 (0, 0)) ∧ (∀ j, j < k → D[j]? = some (.int .u8 120)) ∧ Below W.heap.size W wr)) (fun i _ => m - (intOf i).toNat)
  case atStart => exact ⟨0, C, by omega, rfl, hideT ⟨HC.out, HU.out.1, fun j hj => by omega, HU.out.2.1⟩⟩
  case round =>
    obtain ⟨k, D, hk, rfl, HI⟩ := hrel
    by_cases hlt : k < m
    · have i1 : (k : Int) < (m : Int) := by omega
      have i2 : (0 : Int) ≤ (k : Int) := by omega
      have hkD : k < D.size := by rw [HI.out.1]; exact hlt
      have c1 : wr.cell? ⟨gb, k, none⟩ = some (D[k]'hkD) := by simp [World.cell?, HI.out.2.1]
      have f1 : wr.frozen? ⟨gb, k, none⟩ = false := by simp [World.frozen?, HI.out.2.1]
      generalize D[k]'hkD = u at c1
      have HN := hideT (show (D.setIfInBounds k (.int .u8 120)).size = m ∧ (wr.setCell ⟨gb, k, none⟩ (.int .u8 120)).heap[gb]? = some (.cells (D.setIfInBounds k (.int .u8 120)) 5 (0, 0)) ∧ (∀ j, j < k + 1 → (D.setIfInBounds k (.int .u8 120))[j]? = some (.int .u8 120)) ∧ Below W.heap.size W (wr.setCell ⟨gb, k, none⟩ (.int .u8 120)) from by
        refine ⟨by rw [Array.size_setIfInBounds]; exact HI.out.1, put_same _ _ k _ HI.out.2.1, fun j hj => ?_, below_put HI.out.2.2.2 HU.out.2.2 k _⟩
        rw [Array.getElem?_setIfInBounds]
        by_cases e : k = j
        · rw [if_pos e, if_pos (by omega)]
        · rw [if_neg e]
          exact HI.out.2.2.1 j (by omega))
      clear hkD
      go_wp2
      exact ⟨⟨k + 1, _, by omega, by go_num, HN⟩, by simp [intOf]; omega⟩
    · obtain rfl : k = m := by omega
      have i1 : ((k : Int) < (k : Int)) = False := by rw [eq_iff_iff, iff_false]; omega
      have conv : ∀ w' : World, w'.heap[gb]? = wr.heap[gb]? → (convert 39 9 (.slice (some ⟨gb, 0, none⟩) k k)).run Try.prog w' = .ok (.string ⟨(fillL k).toArray⟩) w' := by
        intro w' hw
        have h := run_convert_bytes_back (P := Try.prog) w' 39 9 5 ⟨gb, 0, none⟩ k (fillL k) Try.underlying39 Try.underlying5 Try.underlying9 (fun j hj => by
          have hjk : j < k := by simpa [fillL] using hj
          have hadd : (⟨gb, 0, none⟩ : Addr).add j = ⟨gb, j, none⟩ := by unfold Addr.add; split <;> simp_all
          rw [hadd]
          have h1 := HI.out.2.2.1 j hjk
          simp [World.cell?, hw, HI.out.2.1, h1, fillL])
        simpa [fillL] using h
      have HCV := hideT conv
      have HW := hideT HI.out.2.2.2
      have HG := hideT (Array.getElem?_eq_some_iff.1 HI.out.2.1).1
      clear conv HI
      go_wp2_with fail
      refine (frNew IM.out (Below.refl _ wr)).mono ?_
      rintro e w10 ⟨b, rfl, h10⟩
      have H10 := hideT h10
      clear h10
      obtain ⟨X, hX⟩ : ∃ X : ByteArray, X = ⟨(fillL k).toArray⟩ := ⟨_, rfl⟩
      rw [← hX] at HCV
      have hXl : X.data.toList = fillL k := by rw [hX]
      have hXs : X.size = k := by rw [hX]; show (fillL k).toArray.size = _; simp [fillL]
      have cv10 := HCV.out w10 (fr_block H10.out HG.out)
      have HZ := hideT (show X.size ≤ 140737488355000 by omega)
      have h6 : (⟨#[120, 120, 120, 120, 120, 10]⟩ : ByteArray).size = 6 := rfl
      have HZ2 := hideT (show (X ++ ⟨#[120, 120, 120, 120, 120, 10]⟩).size ≤ 140737488355000 by rw [ByteArray.size_append]; omega)
      have HM2 := hideT (show 10 ∈ (X ++ ⟨#[120, 120, 120, 120, 120, 10]⟩).data.toList by simp [ByteArray.data_append])
      have z6 : (9223372036854775807 < X.size + 6) = False := by rw [eq_iff_iff, iff_false]; omega
      have OK0 := hideT (show QOk q0 2 from ⟨by decide, by decide, by simp [q0]⟩)
      have OK1 := hideT (OK0.out.feed X.data.toList)
      have HCL := hideT (feed_open X.data.toList)
      have HE0 := hideT (show feedE q0 X.data.toList = if 1024 < k then 15 else 0 by rw [hXl]; exact feed_fill k)
      clear hX hXl hXs h6
      by_cases hbig : 1024 < k
      · have j1 : (1024 : Int) < (k : Int) := by omega
        have HE := hideT (show ((feedE q0 X.data.toList : Nat) : Int) = 15 by rw [HE0.out, if_pos hbig]; rfl)
        clear hbig
        go_wp2_with fail
        refine (frFeed IM.out H10.out OK0.out (by decide) X HZ.out (E := 15) HE.out (q' := q0.feed X.data.toList) rfl).mono ?_
        rintro e w11 ⟨rfl, h11⟩
        have H11 := hideT h11
        clear h11 H10 cv10
        go_wp2_with fail
        refine (frFeed IM.out H11.out OK1.out (by decide) ⟨#[97, 10, 98]⟩ (by decide) (E := 19) (feed_nl HCL.out (by decide)).1 (q' := q0.feed X.data.toList) (feed_nl HCL.out (by decide)).2).mono ?_
        rintro e w12 ⟨rfl, h12⟩
        have cv12 := HCV.out w12 (fr_block h12 HG.out)
        have H12 := hideT h12
        clear h12 H11
        go_wp2_with fail
        refine (frFeed IM.out H12.out OK1.out (by decide) _ (HZ2.out) (E := 19) (feed_nl HCL.out HM2.out).1 (q' := q0.feed X.data.toList) (feed_nl HCL.out HM2.out).2).mono ?_
        rintro e w13 ⟨rfl, h13⟩
        have H13 := hideT (on HW.out (fr_below h13))
        clear h13 H12 cv12
        go_wp2
        go_ret
        exact ⟨rfl, H13.out⟩
      · have j1 : ((1024 : Int) < (k : Int)) = False := by rw [eq_iff_iff, iff_false]; omega
        have HE := hideT (show ((feedE q0 X.data.toList : Nat) : Int) = 0 by rw [HE0.out, if_neg hbig]; rfl)
        clear hbig
        go_wp2_with fail
        refine (frFeed IM.out H10.out OK0.out (by decide) X HZ.out (E := 0) HE.out (q' := q0.feed X.data.toList) rfl).mono ?_
        rintro e w11 ⟨rfl, h11⟩
        have H11 := hideT h11
        clear h11 H10 cv10
        go_wp2_with fail
        refine (frFeed IM.out H11.out OK1.out (by decide) ⟨#[97, 10, 98]⟩ (by decide) (E := 19) (feed_nl HCL.out (by decide)).1 (q' := q0.feed X.data.toList) (feed_nl HCL.out (by decide)).2).mono ?_
        rintro e w12 ⟨rfl, h12⟩
        have cv12 := HCV.out w12 (fr_block h12 HG.out)
        have H12 := hideT h12
        clear h12 H11
        go_wp2_with fail
        refine (frFeed IM.out H12.out OK1.out (by decide) _ (HZ2.out) (E := 19) (feed_nl HCL.out HM2.out).1 (q' := q0.feed X.data.toList) (feed_nl HCL.out HM2.out).2).mono ?_
        rintro e w13 ⟨rfl, h13⟩
        have H13 := hideT (on HW.out (fr_below h13))
        clear h13 H12 cv12
        go_wp2
        go_ret
        exact ⟨rfl, H13.out⟩
end Go.Proofs.Ytpdmfopkcdphaaa
