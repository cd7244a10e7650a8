/- store: StoreSums. -/
import Derived.Test.YtbibfpgcnmocjaaSi
namespace Go.Proofs.Ytbibfpgcnmocjaa
open Go.RowKit

/-- A store newer than W0, beside block ob. -/
def FrO (W0 W : World) (b : Nat) (S : Sr) (ob : Nat) (o : Obj) : Prop := ∃ F, I0 W F b S ∧ Below W0.heap.size W0 W ∧ (∀ k, F k → W0.heap.size ≤ k ∧ k ≠ ob) ∧ W.heap[ob]? = some o
theorem Fr.at {W0 W : World} {b : Nat} {S : Sr} (h : Fr W0 W b S) (o : Obj) : FrO W0 (W.alloc o) b S W.heap.size o := by
  obtain ⟨F, hI, h0, hF⟩ := h
  have hb : Below W.heap.size W (W.alloc o) := (Below.refl _ W).alloc (Nat.le_refl _) _
  exact ⟨F, hI.keep (fun k hk => hb.block k (hI.lt k hk)), h0.trans (hb.mono h0.size), fun k hk => ⟨hF k hk, by have := hI.lt k hk; omega⟩, heap_alloc_new W o⟩
theorem FrO.drop {W0 W : World} {b ob : Nat} {S : Sr} {o : Obj} (h : FrO W0 W b S ob o) : Fr W0 W b S := by
  obtain ⟨F, hI, h0, hF, _⟩ := h
  exact ⟨F, hI, h0, fun k hk => (hF k hk).1⟩
theorem FrO.blk {W0 W : World} {b ob : Nat} {S : Sr} {o : Obj} (h : FrO W0 W b S ob o) : W.heap[ob]? = some o := by
  obtain ⟨_, _, _, _, h⟩ := h
  exact h
theorem FrO.step {W0 W W' : World} {b ob : Nat} {S : Sr} {o : Obj} (h : FrO W0 W b S ob o) (hb : Below W.heap.size W W') : FrO W0 W' b S ob o := by
  obtain ⟨F, hI, h0, hF, ho⟩ := h
  exact ⟨F, hI.keep (fun k hk => hb.block k (hI.lt k hk)), h0.trans (hb.mono h0.size), hF, (hb.block ob (Array.getElem?_eq_some_iff.1 ho).1).trans ho⟩
theorem FrO.call {W0 W : World} {b ob : Nat} {S S' : Sr} {o : Obj} {f : FuncId} {args : Array Value} {R : Value} (h : FrO W0 W b S ob o) (c : ∀ F, I0 W F b S → Calls Try.prog f args W (Pst F W b S' R)) : Calls Try.prog f args W fun e w' => e = .returned R ∧ FrO W0 w' b S' ob o := by
  obtain ⟨F, hI, h0, hF, ho⟩ := h
  have hlt := (Array.getElem?_eq_some_iff.1 ho).1
  refine (c F hI).mono ?_
  rintro e w' ⟨rfl, ht, F', hI', hs⟩
  refine ⟨rfl, F', hI', below_of_tch h0 ht (fun k hk => (hF k hk).1), fun k hk => ?_, (ht.block ob hlt (fun hk => (hF ob hk).2 rfl)).trans ho⟩
  rcases hs k hk with h | h
  · exact hF k h
  · exact ⟨Nat.le_trans h0.size h, by omega⟩
theorem FrO.ask {W0 W : World} {b ob : Nat} {S : Sr} {o : Obj} {f : FuncId} {args : Array Value} {R : Value} (h : FrO W0 W b S ob o) (c : ∀ F, I0 W F b S → Calls Try.prog f args W fun e w' => e = .returned R ∧ w' = W) : Calls Try.prog f args W fun e w' => e = .returned R ∧ FrO W0 w' b S ob o := by
  have h' := h
  obtain ⟨F, hI, _⟩ := h'
  refine (c F hI).mono ?_
  rintro e w' ⟨rfl, rfl⟩
  exact ⟨rfl, h⟩
theorem op_cells {W : World} {ob : Nat} {x : Op4} (h : W.heap[ob]? = some (.cells #[.int .i64 x.kd, .string x.nm, .string x.tx, .int .u8 (x.tm.toNat : Nat)] 30 (0, 0))) : W.cell? ⟨ob, 0, none⟩ = some (.int .i64 x.kd) ∧ W.cell? ⟨ob, 1, none⟩ = some (.string x.nm) ∧ W.cell? ⟨ob, 2, none⟩ = some (.string x.tx) ∧ W.cell? ⟨ob, 3, none⟩ = some (.int .u8 (x.tm.toNat : Nat)) := by simp [World.cell?, h]
theorem ORow.keep {W W' : World} {v : Value} {l : List Op4} (h : ORow W v l) (hb : Below W.heap.size W W') : ORow W' v l := by
  obtain ⟨a, cp, hv, hc⟩ := h
  refine ⟨a, cp, hv, fun k x hx => ?_⟩
  obtain ⟨g, o, ha, h0, h1, h2, h3⟩ := hc k x hx
  exact ⟨g, o, ha, keep_cell hb h0, keep_cell hb h1, keep_cell hb h2, keep_cell hb h3⟩
/-- All files are open. -/
structure Zs (S : Sr) : Prop where
  ok : SOk S
  op : ∀ n f, look S.fs n = some f → f.op = true
theorem Zs.print {S : Sr} (h : Zs S) (t : List UInt8) : Zs (S.print t) := by
  refine ⟨h.ok.print t, fun n f hf => h.op n f ?_⟩
  unfold Sr.print at hf
  split at hf
  · exact hf
  · exact hf
theorem Zs.openS {S : Sr} (h : Zs S) (m : List UInt8) : Zs (S.openS m) := by
  refine ⟨h.ok.openS m, fun n f hf => ?_⟩
  unfold Sr.openS at hf
  split at hf
  · have hf' : look (if (look S.fs m).isSome then setF S.fs m ⟨[], true⟩ else insF S.fs m ⟨[], true⟩) n = some f := hf
    split at hf'
    · rw [look_set] at hf'
      split at hf'
      · obtain ⟨_, _, rfl⟩ := Option.map_eq_some_iff.1 hf'
        rfl
      · exact h.op n f hf'
    · rename_i h1
      rw [look_ins _ _ _ _ (by simpa using h1)] at hf'
      split at hf'
      · cases hf'
        rfl
      · exact h.op n f hf'
  · exact h.op n f hf
theorem Zs.write {S : Sr} (h : Zs S) (m t : List UInt8) : Zs (S.write m t) := by
  refine ⟨h.ok.write m t, fun n f hf => ?_⟩
  unfold Sr.write at hf
  cases hl : look S.fs m with
  | none =>
    rw [hl] at hf
    exact h.op n f hf
  | some g =>
    rw [hl] at hf
    dsimp only at hf
    split at hf
    · have hf' : look (setF S.fs m ⟨g.data ++ t, g.op⟩) n = some f := hf
      rw [look_set] at hf'
      split at hf'
      · obtain ⟨_, _, rfl⟩ := Option.map_eq_some_iff.1 hf'
        exact h.op m g hl
      · exact h.op n f hf'
    · exact h.op n f hf
theorem print_two (S : Sr) (t : List UInt8) : (printE S t = 0 ∧ S.wr + t.length ≤ 32768 ∧ S.print t = ⟨S.fs, S.out ++ t, S.wr + t.length⟩) ∨ (printE S t = 16 ∧ 32768 < S.wr + t.length ∧ S.print t = S) := by
  unfold Sr.print printE
  by_cases h : 32768 < S.wr + t.length
  · rw [if_pos h]
    exact .inr ⟨rfl, h, rfl⟩
  · rw [if_neg h]
    exact .inl ⟨rfl, by omega, rfl⟩
theorem write_two {S : Sr} {n : List UInt8} {f : Fl} (hl : look S.fs n = some f) (ho : f.op = true) (t : List UInt8) : (writeE S n t = 0 ∧ S.wr + t.length ≤ 32768 ∧ (S.write n t).wr = S.wr + t.length ∧ (S.write n t).out = S.out ∧ readD (S.write n t) n = f.data ++ t) ∨ (writeE S n t = 16 ∧ 32768 < S.wr + t.length ∧ S.write n t = S) := by
  have hw : writeE S n t = printE S t := by unfold writeE; rw [hl]; dsimp only; rw [if_neg (by rw [ho]; decide)]
  unfold Sr.write
  rw [hw, hl]
  dsimp only
  rcases print_two S t with ⟨h1, h2, _⟩ | ⟨h1, h2, _⟩
  · rw [if_pos h1]
    refine .inl ⟨h1, h2, rfl, rfl, ?_⟩
    unfold readD
    show (match look (setF S.fs n ⟨f.data ++ t, f.op⟩) n with | none => [] | some f => f.data) = _
    rw [look_set, if_pos rfl, hl]
    rfl
  · rw [h1]
    exact .inr ⟨rfl, h2, rfl⟩
theorem read_some {S : Sr} {n t : List UInt8} {f : Fl} (hw : writeE S n t = 0) (hl : look S.fs n = some f) : (look (S.write n t).fs n).isSome = true := by
  unfold Sr.write
  rw [hl]
  dsimp only
  rw [if_pos hw]
  show (look (setF S.fs n ⟨f.data ++ t, f.op⟩) n).isSome = true
  rw [look_set, if_pos rfl, hl]
  rfl
theorem open_two {S : Sr} {n : List UInt8} (hl : look S.fs n = none) : (openE S n ≠ 0 ∧ S.openS n = S) ∨ (openE S n = 0 ∧ look (S.openS n).fs n = some ⟨[], true⟩ ∧ (S.openS n).wr = S.wr ∧ (S.openS n).out = S.out) := by
  unfold Sr.openS
  by_cases h : openE S n = 0
  · rw [if_pos h, hl]
    refine .inr ⟨h, ?_, rfl, rfl⟩
    show look (insF S.fs n ⟨[], true⟩) n = _
    rw [look_ins _ _ _ _ hl, if_pos rfl]
  · rw [if_neg h]
    exact .inl ⟨h, rfl⟩
theorem bst_app (a : List UInt8) (x : Op4) : (⟨a.toArray⟩ : ByteArray) ++ opT x = ⟨(a ++ textL x.tx.data.toList x.tm).toArray⟩ := by
  apply ByteArray.ext
  rw [ByteArray.data_append]
  simp [opT]
theorem big_false (a : List UInt8) (t : ByteArray) (h : a.length + t.size ≤ 10000000) : (9223372036854775807 < (⟨a.toArray⟩ : ByteArray).size + t.size) = False := by
  rw [eq_iff_iff, iff_false]
  have : (⟨a.toArray⟩ : ByteArray).size = a.length := by simp [ByteArray.size]
  omega
theorem tmod_two (k : Int) : k.tmod 2 = 0 ∨ k.tmod 2 = 1 ∨ k.tmod 2 = -1 := by
  rcases Int.le_total 0 k with h | h
  · rw [Int.tmod_eq_emod_of_nonneg h]
    omega
  · have h1 : k.tmod 2 = -((-k).tmod 2) := by rw [Int.neg_tmod, Int.neg_neg]
    rw [h1, Int.tmod_eq_emod_of_nonneg (by omega)]
    omega

set_option maxRecDepth 100000 in
set_option maxHeartbeats 8000000 in
theorem sums_walk (W : World) (v : Value) (l : List Op4) (hv : ORow W v l) (hl : l.length ≤ 1000000000) (hs : ∀ x ∈ l, x.nm.size ≤ 140737488355000 ∧ x.tx.size ≤ 140737488355000) : Calls Try.prog 4 #[v] W fun e w' => e = .returned (.bool true) ∧ Below W.heap.size W w' := by
  obtain ⟨a, cp, rfl, hrow⟩ := hv
  have HROW := hideT hrow
  have HS := hideT hs
  clear hrow hs
  go_enter Try.func4, Try.ntmps4
  go_wp2_with fail
  refine (awake_any _).mono ?_
  rintro e w1 ⟨rfl, hb1⟩
  have HB1 := hideT hb1
  clear hb1
  go_wp2_with fail
  refine (new_any w1 (.slice none 0 0) [] ⟨none, 0, rfl, fun k x hx => by simp at hx⟩ (by simp)).mono ?_
  rintro e w2 ⟨hb2, h2⟩
  have hR : newR [] = (0, []) := rfl
  rw [hR] at h2
  rcases h2 with ⟨h2, _⟩ | ⟨_, b, F, rfl, hI, hF⟩
  · exact absurd rfl h2
  have H2 := hideT (show Fr W w2 b ⟨[], [], 0⟩ from ⟨F, hI, HB1.out.trans (hb2.mono HB1.out.size), fun k hk => Nat.le_trans HB1.out.size (hF k hk)⟩)
  clear hb2 hI hF hR HB1
  go_wp2_with fail
  go_loopw [5, 6, 29] (fun sv ov iv wr => ∃ (k : Nat) (S : Sr), k ≤ l.length ∧ iv = .int .i64 (k : Nat) ∧ sv = .int .i64 (S.wr : Nat) ∧ ov = .string ⟨S.out.toArray⟩ ∧ Hid (Zs S ∧ Fr W wr b S)) (fun _ _ iv _ => l.length - (intOf iv).toNat)
  case atStart => exact ⟨0, ⟨[], [], 0⟩, Nat.zero_le _, rfl, rfl, rfl, hideT ⟨⟨⟨by decide, by decide, by decide, fun n f h => (by cases h), fun n h => (by simp at h)⟩, fun n f h => by cases h⟩, H2.out⟩⟩
  case round =>
    obtain ⟨k, S, hk, rfl, rfl, rfl, HI⟩ := hrel
    by_cases hlt : k < l.length
    · have i1 : (k : Int) < (l.length : Int) := by omega
      have i2 : (0 : Int) ≤ (k : Int) := by omega
      have hsz := HS.out _ (List.getElem_mem hlt)
      obtain ⟨gb, o, rfl, r0, r1, r2, r3⟩ := HROW.out k _ (List.getElem?_eq_getElem hlt)
      have e0 := keep_cell HI.out.2.bel r0
      have e1 := keep_cell HI.out.2.bel r1
      have e2 := keep_cell HI.out.2.bel r2
      have e3 := keep_cell HI.out.2.bel r3
      generalize (l[k]'hlt) = x at hsz e0 e1 e2 e3
      obtain ⟨kd, nm, tx, tm⟩ := x
      dsimp only at hsz e0 e1 e2 e3
      clear r0 r1 r2 r3
      have HT := hideT (fun V => text_any V ⟨kd, nm, tx, tm⟩ hsz.2)
      have HX := hideT (HI.out.2.at (.cells #[.int .i64 kd, .string nm, .string tx, .int .u8 (tm.toNat : Nat)] 30))
      have hw := HI.out.1.ok.wr
      have how := HI.out.1.ok.out
      have HZ := hideT HI.out.1
      go_wp2_with fail
      refine (HT.out _).mono ?_
      rintro e w3 ⟨rfl, hb3⟩
      have h3 := HX.out.step hb3
      clear HX hb3 HI e0 e1 e2 e3 HT
      generalize wr.heap.size = ob at *
      obtain ⟨d0, d1, d2, d3⟩ := op_cells (x := ⟨kd, nm, tx, tm⟩) h3.blk
      dsimp only at d0 d1 d2 d3
      have H3 := hideT h3
      clear h3
      have htl := opT_list ⟨kd, nm, tx, tm⟩
      have hts := opT_size ⟨kd, nm, tx, tm⟩
      have HAP := hideT (fun a => bst_app a ⟨kd, nm, tx, tm⟩)
      generalize opT ⟨kd, nm, tx, tm⟩ = t at *
      dsimp only at htl HAP
      generalize textL tx.data.toList tm = T at *
      have hlT : T.length = t.size := by rw [← htl]; rfl
      go_wp2_with fail
      refine (H3.out.call (fun F hI => read_any hI nm (by omega))).mono ?_
      rintro e w4 ⟨rfl, h4⟩
      have H4 := hideT h4
      obtain ⟨d0, d1, d2, d3⟩ := op_cells (x := ⟨kd, nm, tx, tm⟩) h4.blk
      dsimp only at d0 d1 d2 d3
      clear h4 H3
      have m1 : IntKind.i64.wrap (kd.tmod 2) = kd.tmod 2 := by rw [IntKind.wrap_i64]; have := tmod_two kd; omega
      have HLT := hideT (show t.data.toList = T from htl)
      by_cases hp : kd.tmod 2 = 0
      · have m2 : (kd.tmod 2 == 0) = true := by rw [hp]; rfl
        clear hp htl
        go_wp2_with fail
        rcases print_two S T with ⟨q1, q2, q3⟩ | ⟨q1, q2, q3⟩
        · have HQ := hideT (And.intro q1 q3)
          rw [hlT] at q2
          clear q1 q3
          refine (H4.out.call (fun F hI => by have h := print_any hI HZ.out.ok t (by omega); rw [HLT.out, HQ.out.1] at h; exact h)).mono ?_
          rintro e w5 ⟨rfl, h2⟩
          have H5 := hideT (show FrO W w5 b (S.print T) ob (.cells #[.int .i64 kd, .string nm, .string tx, .int .u8 (tm.toNat : Nat)] 30 (0, 0)) from h2)
          obtain ⟨d0, d1, d2, d3⟩ := op_cells (x := ⟨kd, nm, tx, tm⟩) h2.blk
          dsimp only at d0 d1 d2 d3
          clear h2 H4
          have z1 := big_false S.out t (by omega)
          have z2 : IntKind.i64.wrap ((S.wr : Int) + (t.size : Int)) = (S.wr : Int) + (t.size : Int) := by rw [IntKind.wrap_i64]; omega
          have z3 : ((32768 : Int) < (S.wr : Int) + (t.size : Int)) = False := by rw [eq_iff_iff, iff_false]; omega
          go_wp2_with fail
          refine (H5.out.ask (fun F hI => written_any hI)).mono ?_
          rintro e w8 ⟨rfl, h8⟩
          have h8r := show (((S.print T).wr : Nat) : Int) = (S.wr : Int) + (t.size : Int) from by rw [HQ.out.2]; show ((S.wr + T.length : Nat) : Int) = _; rw [hlT]; omega
          have H8 := hideT h8
          clear h8 H5 d0 d1 d2 d3
          go_wp2_with fail
          refine (H8.out.call (fun F hI => out_any hI)).mono ?_
          rintro e w9 ⟨rfl, h9⟩
          have h9r := show (⟨(S.print T).out.toArray⟩ : ByteArray) = ⟨S.out.toArray⟩ ++ t from by rw [HQ.out.2]; exact (HAP.out _).symm
          have H9 := hideT h9
          clear h9 H8
          go_wp2
          exact ⟨⟨k + 1, (S.print T), by omega, by go_num, by first | rfl | rw [h8r], by first | rfl | rw [h9r], hideT ⟨HZ.out.print T, H9.out.drop⟩⟩, by simp [intOf]; omega⟩
        · have HQ := hideT (And.intro q1 q3)
          rw [hlT] at q2
          clear q1 q3
          refine (H4.out.call (fun F hI => by have h := print_any hI HZ.out.ok t (by omega); rw [HLT.out, HQ.out.1, HQ.out.2] at h; exact h)).mono ?_
          rintro e w5 ⟨rfl, h2⟩
          have H5 := hideT (show FrO W w5 b S ob (.cells #[.int .i64 kd, .string nm, .string tx, .int .u8 (tm.toNat : Nat)] 30 (0, 0)) from h2)
          obtain ⟨d0, d1, d2, d3⟩ := op_cells (x := ⟨kd, nm, tx, tm⟩) h2.blk
          dsimp only at d0 d1 d2 d3
          clear h2 H4
          have z2 : IntKind.i64.wrap ((S.wr : Int) + (t.size : Int)) = (S.wr : Int) + (t.size : Int) := by rw [IntKind.wrap_i64]; omega
          have z3 : ((S.wr : Int) + (t.size : Int) ≤ 32768) = False := by rw [eq_iff_iff, iff_false]; omega
          have z4 : ((32768 : Int) < (S.wr : Int)) = False := by rw [eq_iff_iff, iff_false]; omega
          go_wp2_with fail
          refine (H5.out.ask (fun F hI => written_any hI)).mono ?_
          rintro e w8 ⟨rfl, h8⟩
          have h8r := show ((S.wr : Nat) : Int) = (S.wr : Int) from rfl
          have H8 := hideT h8
          clear h8 H5 d0 d1 d2 d3
          go_wp2_with fail
          refine (H8.out.call (fun F hI => out_any hI)).mono ?_
          rintro e w9 ⟨rfl, h9⟩
          have h9r := show (⟨S.out.toArray⟩ : ByteArray) = ⟨S.out.toArray⟩ from rfl
          have H9 := hideT h9
          clear h9 H8
          go_wp2
          exact ⟨⟨k + 1, S, by omega, by go_num, by first | rfl | rw [h8r], by first | rfl | rw [h9r], hideT ⟨HZ.out, H9.out.drop⟩⟩, by simp [intOf]; omega⟩
      · have m2 : (kd.tmod 2 == 0) = false := by rw [beq_eq_false_iff_ne]; exact hp
        clear hp htl
        cases hlk : look S.fs nm.data.toList with
        | some fl =>
          have hr : readD S nm.data.toList = fl.data := by unfold readD; rw [hlk]
          have HRD := hideT hr
          have HF := hideT (show look S.fs nm.data.toList = some fl ∧ fl.op = true from ⟨hlk, HZ.out.op _ _ hlk⟩)
          rw [hr]
          have hdl := HZ.out.ok.dat _ _ hlk
          clear hr hlk
          have HIS := hideT (show (look S.fs nm.data.toList).isSome = true by rw [HF.out.1]; rfl)
          rcases write_two (S := S) HF.out.1 HF.out.2 T with ⟨q1, q2, q3, q4, q5⟩ | ⟨q1, q2, q3⟩
          · have HQ := hideT (And.intro q1 (And.intro q3 (And.intro q4 q5)))
            have q2' : S.wr + t.size ≤ 32768 := by rw [← hlT]; exact q2
            clear q1 q2 q3 q4 q5
            go_wp2_with fail
            refine (H4.out.call (fun F hI => by have h := writeS_any hI (HZ.out).ok nm t (by omega) (by omega); rw [HLT.out, HQ.out.1] at h; exact h)).mono ?_
            rintro e w6 ⟨rfl, h2⟩
            have H6 := hideT (show FrO W w6 b (S.write nm.data.toList T) ob (.cells #[.int .i64 kd, .string nm, .string tx, .int .u8 (tm.toNat : Nat)] 30 (0, 0)) from h2)
            obtain ⟨d0, d1, d2, d3⟩ := op_cells (x := ⟨kd, nm, tx, tm⟩) h2.blk
            dsimp only at d0 d1 d2 d3
            clear h2 H4
            go_wp2_with fail
            refine (H6.out.call (fun F hI => by have h := read_any hI nm (by omega); rw [HQ.out.2.2.2, show (look (S.write nm.data.toList T).fs nm.data.toList).isSome = true from read_some HQ.out.1 HF.out.1, ← HAP.out] at h; exact h)).mono ?_
            rintro e w7 ⟨rfl, h2⟩
            have H7 := hideT (show FrO W w7 b (S.write nm.data.toList T) ob (.cells #[.int .i64 kd, .string nm, .string tx, .int .u8 (tm.toNat : Nat)] 30 (0, 0)) from h2)
            obtain ⟨d0, d1, d2, d3⟩ := op_cells (x := ⟨kd, nm, tx, tm⟩) h2.blk
            dsimp only at d0 d1 d2 d3
            clear h2 H6
            have z1 := big_false (fl.data) t (by omega)
            have z2 : IntKind.i64.wrap ((S.wr : Int) + (t.size : Int)) = (S.wr : Int) + (t.size : Int) := by rw [IntKind.wrap_i64]; omega
            have z3 : ((32768 : Int) < (S.wr : Int) + (t.size : Int)) = False := by rw [eq_iff_iff, iff_false]; omega
            go_wp2_with fail
            refine (H7.out.ask (fun F hI => written_any hI)).mono ?_
            rintro e w8 ⟨rfl, h8⟩
            have h8r := show (((S.write nm.data.toList T).wr : Nat) : Int) = (S.wr : Int) + (t.size : Int) from by rw [HQ.out.2.1, hlT]; omega
            have H8 := hideT h8
            clear h8 H7 d0 d1 d2 d3
            go_wp2_with fail
            refine (H8.out.call (fun F hI => out_any hI)).mono ?_
            rintro e w9 ⟨rfl, h9⟩
            have h9r := show (⟨(S.write nm.data.toList T).out.toArray⟩ : ByteArray) = ⟨S.out.toArray⟩ from by rw [HQ.out.2.2.1]
            have H9 := hideT h9
            clear h9 H8
            go_wp2
            exact ⟨⟨k + 1, (S.write nm.data.toList T), by omega, by go_num, by first | rfl | rw [h8r], by first | rfl | rw [h9r], hideT ⟨(HZ.out).write _ T, H9.out.drop⟩⟩, by simp [intOf]; omega⟩
          · have HQ := hideT (And.intro q1 q3)
            have q2' : 32768 < S.wr + t.size := by rw [← hlT]; exact q2
            clear q1 q2 q3
            go_wp2_with fail
            refine (H4.out.call (fun F hI => by have h := writeS_any hI (HZ.out).ok nm t (by omega) (by omega); rw [HLT.out, HQ.out.1, HQ.out.2] at h; exact h)).mono ?_
            rintro e w6 ⟨rfl, h2⟩
            have H6 := hideT (show FrO W w6 b S ob (.cells #[.int .i64 kd, .string nm, .string tx, .int .u8 (tm.toNat : Nat)] 30 (0, 0)) from h2)
            obtain ⟨d0, d1, d2, d3⟩ := op_cells (x := ⟨kd, nm, tx, tm⟩) h2.blk
            dsimp only at d0 d1 d2 d3
            clear h2 H4
            go_wp2_with fail
            refine (H6.out.call (fun F hI => by have h := read_any hI nm (by omega); rw [HRD.out, HIS.out] at h; exact h)).mono ?_
            rintro e w7 ⟨rfl, h2⟩
            have H7 := hideT (show FrO W w7 b S ob (.cells #[.int .i64 kd, .string nm, .string tx, .int .u8 (tm.toNat : Nat)] 30 (0, 0)) from h2)
            obtain ⟨d0, d1, d2, d3⟩ := op_cells (x := ⟨kd, nm, tx, tm⟩) h2.blk
            dsimp only at d0 d1 d2 d3
            clear h2 H6
            have z2 : IntKind.i64.wrap ((S.wr : Int) + (t.size : Int)) = (S.wr : Int) + (t.size : Int) := by rw [IntKind.wrap_i64]; omega
            have z3 : ((S.wr : Int) + (t.size : Int) ≤ 32768) = False := by rw [eq_iff_iff, iff_false]; omega
            have z4 : ((32768 : Int) < (S.wr : Int)) = False := by rw [eq_iff_iff, iff_false]; omega
            go_wp2_with fail
            refine (H7.out.ask (fun F hI => written_any hI)).mono ?_
            rintro e w8 ⟨rfl, h8⟩
            have h8r := show ((S.wr : Nat) : Int) = (S.wr : Int) from by rfl
            have H8 := hideT h8
            clear h8 H7 d0 d1 d2 d3
            go_wp2_with fail
            refine (H8.out.call (fun F hI => out_any hI)).mono ?_
            rintro e w9 ⟨rfl, h9⟩
            have h9r := show (⟨(S).out.toArray⟩ : ByteArray) = ⟨S.out.toArray⟩ from by rfl
            have H9 := hideT h9
            clear h9 H8
            go_wp2
            exact ⟨⟨k + 1, S, by omega, by go_num, by first | rfl | rw [h8r], by first | rfl | rw [h9r], hideT ⟨HZ.out, H9.out.drop⟩⟩, by simp [intOf]; omega⟩
        | none =>
          have hr : readD S nm.data.toList = [] := by unfold readD; rw [hlk]
          rw [hr]
          clear hr
          rcases open_two hlk with ⟨o1, o2⟩ | ⟨o1, o2, o3, o4⟩
          · have o5 : ((openE S nm.data.toList : Nat) : Int) != 0 := by rw [bne_iff_ne]; omega
            have o6 : (((openE S nm.data.toList : Nat) : Int) == 0) = false := by rw [beq_eq_false_iff_ne]; omega
            have HO := hideT o2
            clear o1 o2 hlk
            go_wp2_with fail
            refine (H4.out.call (fun F hI => by have h := openS_any hI HZ.out.ok nm hsz.1; rw [HO.out] at h; exact h)).mono ?_
            rintro e w5 ⟨rfl, h2⟩
            have H5 := hideT (show FrO W w5 b S ob (.cells #[.int .i64 kd, .string nm, .string tx, .int .u8 (tm.toNat : Nat)] 30 (0, 0)) from h2)
            obtain ⟨d0, d1, d2, d3⟩ := op_cells (x := ⟨kd, nm, tx, tm⟩) h2.blk
            dsimp only at d0 d1 d2 d3
            clear h2 H4
            go_wp2
            exact ⟨⟨k + 1, S, by omega, by go_num, rfl, rfl, hideT ⟨HZ.out, H5.out.drop⟩⟩, by simp [intOf]; omega⟩
          · have HO := hideT (And.intro o1 (And.intro o3 o4))
            have HF := hideT (show look (S.openS nm.data.toList).fs nm.data.toList = some ⟨[], true⟩ ∧ (⟨[], true⟩ : Fl).op = true from ⟨o2, rfl⟩)
            clear o1 o2 o3 o4 hlk
            go_wp2_with fail
            refine (H4.out.call (fun F hI => by have h := openS_any hI HZ.out.ok nm hsz.1; rw [HO.out.1] at h; exact h)).mono ?_
            rintro e w5 ⟨rfl, h2⟩
            have H5 := hideT (show FrO W w5 b (S.openS nm.data.toList) ob (.cells #[.int .i64 kd, .string nm, .string tx, .int .u8 (tm.toNat : Nat)] 30 (0, 0)) from h2)
            obtain ⟨d0, d1, d2, d3⟩ := op_cells (x := ⟨kd, nm, tx, tm⟩) h2.blk
            dsimp only at d0 d1 d2 d3
            clear h2 H4
            have HRD := hideT (show readD (S.openS nm.data.toList) nm.data.toList = [] by unfold readD; rw [HF.out.1])
            have HIS := hideT (show (look (S.openS nm.data.toList).fs nm.data.toList).isSome = true by rw [HF.out.1]; rfl)
            rcases write_two (S := (S.openS nm.data.toList)) HF.out.1 rfl T with ⟨q1, q2, q3, q4, q5⟩ | ⟨q1, q2, q3⟩
            · have HQ := hideT (And.intro q1 (And.intro q3 (And.intro q4 q5)))
              have q2' : S.wr + t.size ≤ 32768 := by rw [← hlT]; rw [HO.out.2.1] at q2; exact q2
              clear q1 q2 q3 q4 q5
              go_wp2_with fail
              refine (H5.out.call (fun F hI => by have h := writeS_any hI ((HZ.out.openS nm.data.toList)).ok nm t (by omega) (by omega); rw [HLT.out, HQ.out.1] at h; exact h)).mono ?_
              rintro e w6 ⟨rfl, h2⟩
              have H6 := hideT (show FrO W w6 b ((S.openS nm.data.toList).write nm.data.toList T) ob (.cells #[.int .i64 kd, .string nm, .string tx, .int .u8 (tm.toNat : Nat)] 30 (0, 0)) from h2)
              obtain ⟨d0, d1, d2, d3⟩ := op_cells (x := ⟨kd, nm, tx, tm⟩) h2.blk
              dsimp only at d0 d1 d2 d3
              clear h2 H5
              go_wp2_with fail
              refine (H6.out.call (fun F hI => by have h := read_any hI nm (by omega); rw [HQ.out.2.2.2, show (look ((S.openS nm.data.toList).write nm.data.toList T).fs nm.data.toList).isSome = true from read_some HQ.out.1 HF.out.1, ← HAP.out] at h; exact h)).mono ?_
              rintro e w7 ⟨rfl, h2⟩
              have H7 := hideT (show FrO W w7 b ((S.openS nm.data.toList).write nm.data.toList T) ob (.cells #[.int .i64 kd, .string nm, .string tx, .int .u8 (tm.toNat : Nat)] 30 (0, 0)) from h2)
              obtain ⟨d0, d1, d2, d3⟩ := op_cells (x := ⟨kd, nm, tx, tm⟩) h2.blk
              dsimp only at d0 d1 d2 d3
              clear h2 H6
              have z1 := big_false (([] : List UInt8)) t (by show 0 + t.size ≤ _; omega)
              have z2 : IntKind.i64.wrap ((S.wr : Int) + (t.size : Int)) = (S.wr : Int) + (t.size : Int) := by rw [IntKind.wrap_i64]; omega
              have z3 : ((32768 : Int) < (S.wr : Int) + (t.size : Int)) = False := by rw [eq_iff_iff, iff_false]; omega
              go_wp2_with fail
              refine (H7.out.ask (fun F hI => written_any hI)).mono ?_
              rintro e w8 ⟨rfl, h8⟩
              have h8r := show ((((S.openS nm.data.toList).write nm.data.toList T).wr : Nat) : Int) = (S.wr : Int) + (t.size : Int) from by rw [HQ.out.2.1, hlT]; have := HO.out.2.1; omega
              have H8 := hideT h8
              clear h8 H7 d0 d1 d2 d3
              go_wp2_with fail
              refine (H8.out.call (fun F hI => out_any hI)).mono ?_
              rintro e w9 ⟨rfl, h9⟩
              have h9r := show (⟨((S.openS nm.data.toList).write nm.data.toList T).out.toArray⟩ : ByteArray) = ⟨S.out.toArray⟩ from by rw [HQ.out.2.2.1]; rw [HO.out.2.2]
              have H9 := hideT h9
              clear h9 H8
              go_wp2
              exact ⟨⟨k + 1, ((S.openS nm.data.toList).write nm.data.toList T), by omega, by go_num, by first | rfl | rw [h8r], by first | rfl | rw [h9r], hideT ⟨((HZ.out.openS nm.data.toList)).write _ T, H9.out.drop⟩⟩, by simp [intOf]; omega⟩
            · have HQ := hideT (And.intro q1 q3)
              have q2' : 32768 < S.wr + t.size := by rw [← hlT]; rw [HO.out.2.1] at q2; exact q2
              clear q1 q2 q3
              go_wp2_with fail
              refine (H5.out.call (fun F hI => by have h := writeS_any hI ((HZ.out.openS nm.data.toList)).ok nm t (by omega) (by omega); rw [HLT.out, HQ.out.1, HQ.out.2] at h; exact h)).mono ?_
              rintro e w6 ⟨rfl, h2⟩
              have H6 := hideT (show FrO W w6 b (S.openS nm.data.toList) ob (.cells #[.int .i64 kd, .string nm, .string tx, .int .u8 (tm.toNat : Nat)] 30 (0, 0)) from h2)
              obtain ⟨d0, d1, d2, d3⟩ := op_cells (x := ⟨kd, nm, tx, tm⟩) h2.blk
              dsimp only at d0 d1 d2 d3
              clear h2 H5
              go_wp2_with fail
              refine (H6.out.call (fun F hI => by have h := read_any hI nm (by omega); rw [HRD.out, HIS.out] at h; exact h)).mono ?_
              rintro e w7 ⟨rfl, h2⟩
              have H7 := hideT (show FrO W w7 b (S.openS nm.data.toList) ob (.cells #[.int .i64 kd, .string nm, .string tx, .int .u8 (tm.toNat : Nat)] 30 (0, 0)) from h2)
              obtain ⟨d0, d1, d2, d3⟩ := op_cells (x := ⟨kd, nm, tx, tm⟩) h2.blk
              dsimp only at d0 d1 d2 d3
              clear h2 H6
              have z2 : IntKind.i64.wrap ((S.wr : Int) + (t.size : Int)) = (S.wr : Int) + (t.size : Int) := by rw [IntKind.wrap_i64]; omega
              have z3 : ((S.wr : Int) + (t.size : Int) ≤ 32768) = False := by rw [eq_iff_iff, iff_false]; omega
              have z4 : ((32768 : Int) < (S.wr : Int)) = False := by rw [eq_iff_iff, iff_false]; omega
              go_wp2_with fail
              refine (H7.out.ask (fun F hI => written_any hI)).mono ?_
              rintro e w8 ⟨rfl, h8⟩
              have h8r := show (((S.openS nm.data.toList).wr : Nat) : Int) = (S.wr : Int) from by rw [HO.out.2.1]
              have H8 := hideT h8
              clear h8 H7 d0 d1 d2 d3
              go_wp2_with fail
              refine (H8.out.call (fun F hI => out_any hI)).mono ?_
              rintro e w9 ⟨rfl, h9⟩
              have h9r := show (⟨((S.openS nm.data.toList)).out.toArray⟩ : ByteArray) = ⟨S.out.toArray⟩ from by rw [HO.out.2.2]
              have H9 := hideT h9
              clear h9 H8
              go_wp2
              exact ⟨⟨k + 1, (S.openS nm.data.toList), by omega, by go_num, by first | rfl | rw [h8r], by first | rfl | rw [h9r], hideT ⟨(HZ.out.openS nm.data.toList), H9.out.drop⟩⟩, by simp [intOf]; omega⟩
    · obtain rfl : k = l.length := by omega
      have i1 : ((l.length : Int) < (l.length : Int)) = False := by rw [eq_iff_iff, iff_false]; omega
      have HB := hideT HI.out.2.bel
      clear HI
      go_wp2
      go_ret
      exact ⟨rfl, HB.out⟩
end Go.Proofs.Ytbibfpgcnmocjaa
