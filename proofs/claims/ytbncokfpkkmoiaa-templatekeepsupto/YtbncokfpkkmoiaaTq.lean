/- template: escape. -/
import Derived.Test.YtbncokfpkkmoiaaTl
import Derived.Lib.ConvBytes
namespace Go.Proofs.Ytbncokfpkkmoiaa
open Go.RowKit

theorem take_snocB (s : ByteArray) (k : Nat) (h : k < s.size) : s.data.toList.take (k + 1) = s.data.toList.take k ++ [s[k]] := by
  rw [List.take_succ_eq_append_getElem (by simpa using h)]; rfl
theorem esc_take (s : ByteArray) (k : Nat) (h : k < s.size) : escL (s.data.toList.take (k + 1)) = escL (s.data.toList.take k) ++ (if (s[k]'h).toNat = 10 then [92, 110] else if (s[k]'h).toNat = 92 ∨ (s[k]'h).toNat = 38 then [92, s[k]'h] else [s[k]'h]) := by
  rw [take_snocB s k h, escL_app]
  simp only [escL, List.append_nil]

theorem bu_blk {T e B b : Nat} {bs : List Value} {W : World} (h : Lib.IsBuilder T e B b bs W) : ∃ p v, W.heap[b]? = some (.cells #[p, v] T (0, 0)) ∧ W.ownsRow B e 1 v bs.length bs := by
  rcases h with ⟨h0, v, h1, h2, h3⟩ | ⟨h0, v, h1, h2, h3⟩
  · exact ⟨_, v, h1, h2⟩
  · exact ⟨_, v, h1, h2⟩

/-- A new block is none of the builder's. -/
theorem keep_below {W W' : World} {b : Nat} (hlt : b < W.heap.size) (hb : Below W.heap.size W W') : KeepB W W' b := fun r hr =>
  ⟨⟨Nat.lt_of_lt_of_le hr.1 hb.size, hr.2.1, fun p v hv => hr.2.2 p v ((hb.block b hlt).symm.trans hv)⟩, hb.block r hr.1⟩
theorem notB_new {W W' : World} {B b : Nat} {bs : List Value} (h : Lib.IsBuilder 58 5 B b bs W) (hb : Below W.heap.size W W') (hs : W.heap.size < W'.heap.size) : NotB W' b W.heap.size := by
  obtain ⟨p, v, h1, h2⟩ := bu_blk h
  have hlt := (Array.getElem?_eq_some_iff.1 h1).1
  refine ⟨hs, by omega, fun p' v' hv => ?_⟩
  rw [hb.block b hlt, h1] at hv
  cases hv
  intro e
  have := (owns_blk h2 e).2.1
  omega

theorem conv_below (w : World) (s : ByteArray) : Below w.heap.size w (Lib.bytesWorld w 5 s) := { os := rfl, tape := rfl, output := rfl, size := by rw [Lib.bytesWorld_size]; omega, block := fun k hk => Lib.bytesWorld_at_old w 5 s k hk }

theorem getD_byte (s : ByteArray) (k : Nat) (h : k < s.size) : (s.data.toList.getD k 0) = s[k]'h := by
  rw [List.getD_eq_getElem?_getD, List.getElem?_eq_getElem (by simpa using h)]
  rfl

set_option maxRecDepth 100000 in
set_option maxHeartbeats 2000000 in
theorem escape_any (B b : Nat) (l : List UInt8) (s : ByteArray) (w : World) (h : Lib.IsBuilder 58 5 B b (Lib.byteCells l) w) (hlen : l.length + 2 * s.size ≤ 140737488355328) (hBw : B ≤ w.heap.size) :
    Calls Try.prog 24 #[.pointer (some ⟨b, 0, none⟩), .string s] w fun e w' => e = .returned (.tuple #[]) ∧ Lib.IsBuilder 58 5 B b (Lib.byteCells (l ++ escL s.data.toList)) w' ∧ Below B w w' := by
  have hconv := Lib.run_convert_string_bytes (P := Try.prog) w 9 50 5 s Try.underlying9 und50 Try.underlying5
  have hX := conv_below w s
  have hXs := Lib.bytesWorld_size w 5 s
  have hXc := Lib.bytesWorld_cell w 5 s
  have hNot := notB_new h hX (by rw [hXs]; omega)
  have hI := bu_stay h hX
  have HX := hideT (And.intro hX (And.intro hXs (And.intro hXc (And.intro hNot hI))))
  have hlist : s.data.toList.length = s.size := rfl
  clear hX hXs hXc hNot hI h
  go_enter Try.func24, Try.ntmps24
  go_wp2_with fail
  generalize Lib.bytesWorld w 5 s = X at *
  clear hconv
  generalize grownCap w s.size 0 5 = cp at *
  go_loopw [9] (fun i wr => ∃ k : Nat, k ≤ s.size ∧ i = .int .i64 k ∧ Lib.IsBuilder 58 5 B b (Lib.byteCells (l ++ escL (s.data.toList.take k))) wr ∧ Below B w wr ∧ KeepB X wr b) (fun i _ => s.size - (intOf i).toNat)
  case atStart => exact ⟨0, by omega, rfl, by simpa [escL] using HX.out.2.2.2.2, HX.out.1.mono hBw, KeepB.refl _ _⟩
  case round =>
    obtain ⟨k, hk, rfl, hb, hB, hK⟩ := hrel
    by_cases hlt : k < s.size
    · obtain ⟨hn, hrow⟩ := hK _ HX.out.2.2.2.1
      have ck : wr.cell? ⟨w.heap.size, k, none⟩ = some (.int .u8 ((s[k]'hlt).toNat : Nat)) := by
        rw [World.cell?_of_block (a := ⟨w.heap.size, k, none⟩) hrow, HX.out.2.2.1 k hlt, getD_byte s k hlt]
      have i1 : (k : Int) < (s.size : Int) := by omega
      have i2 : (0 : Int) ≤ (k : Int) := by omega
      have hel := escL_len (s.data.toList.take k)
      rw [List.length_take, hlist] at hel
      have hel2 : (Lib.byteCells (l ++ escL (s.data.toList.take k))).length + 2 ≤ 140737488355328 := by rw [Lib.byteCells_length, List.length_append]; omega
      have HE := hideT (esc_take s k hlt)
      have hc := (s[k]'hlt).toNat_lt
      have HB := hideT (And.intro hb (And.intro hB (And.intro hK hel2)))
      clear hb hB hK hel hn hrow hel2
      generalize hbyte : s[k]'hlt = c at *
      clear hbyte
      by_cases c1 : c.toNat = 10
      · have e1 : ((c.toNat : Int) == 10) = true := by rw [beq_iff_eq]; omega
        rw [if_pos c1] at HE
        go_wp2_with fail
        refine (writeString_any _ _ _ _ _ HB.out.1 (by have := HB.out.2.2.2; exact this) (by have := HB.out.2.1.size; omega)).mono ?_
        rintro e w1 ⟨rfl, h1, hb1, hk1⟩
        have HF := hideT (And.intro h1 (And.intro (HB.out.2.1.trans hb1) (HB.out.2.2.1.trans hk1)))
        clear h1 hb1 hk1 ck
        go_wp2
        refine ⟨⟨k + 1, by omega, by go_num, .inr ?_, HF.out.2.1, HF.out.2.2⟩, by simp [intOf]; omega⟩
        rw [HE.out, ← List.append_assoc, cells_app _ [92, 110]]
        exact HF.out.1
      · have e1 : ((c.toNat : Int) == 10) = false := by rw [beq_eq_false_iff_ne]; omega
        rw [if_neg c1] at HE
        by_cases c2 : c.toNat = 92 ∨ c.toNat = 38
        · rw [if_pos c2] at HE
          rcases c2 with c2 | c2
          · have e2 : ((c.toNat : Int) == 92) = true := by rw [beq_iff_eq]; omega
            go_wp2_with fail
            refine (writeByte_any _ _ _ _ _ HB.out.1 (by have := HB.out.2.2.2; omega) (by have := HB.out.2.1.size; omega)).mono ?_
            rintro e w1 ⟨rfl, h1, hb1, hk1⟩
            have HF1 := hideT (And.intro h1 (And.intro (HB.out.2.1.trans hb1) (HB.out.2.2.1.trans hk1)))
            clear h1 hb1 hk1 ck
            go_wp2_with fail
            refine (writeByte_any _ _ _ _ _ (.inr HF1.out.1) (by rw [List.length_append]; have := HB.out.2.2.2; simp only [List.length_singleton]; omega) (by have := HF1.out.2.1.size; omega)).mono ?_
            rintro e w2 ⟨rfl, h1, hb1, hk1⟩
            have HF := hideT (And.intro h1 (And.intro (HF1.out.2.1.trans hb1) (HF1.out.2.2.trans hk1)))
            clear h1 hb1 hk1
            go_wp2
            refine ⟨⟨k + 1, by omega, by go_num, .inr ?_, HF.out.2.1, HF.out.2.2⟩, by simp [intOf]; omega⟩
            rw [HE.out, ← List.append_assoc, cells_app _ [92, c], show Lib.byteCells [92, c] = [.int .u8 92] ++ [.int .u8 (c.toNat : Nat)] from rfl, ← List.append_assoc, c2]
            exact HF.out.1
          · have e2 : ((c.toNat : Int) == 92) = false := by rw [beq_eq_false_iff_ne]; omega
            have e3 : ((c.toNat : Int) == 38) = true := by rw [beq_iff_eq]; omega
            go_wp2_with fail
            refine (writeByte_any _ _ _ _ _ HB.out.1 (by have := HB.out.2.2.2; omega) (by have := HB.out.2.1.size; omega)).mono ?_
            rintro e w1 ⟨rfl, h1, hb1, hk1⟩
            have HF1 := hideT (And.intro h1 (And.intro (HB.out.2.1.trans hb1) (HB.out.2.2.1.trans hk1)))
            clear h1 hb1 hk1 ck
            go_wp2_with fail
            refine (writeByte_any _ _ _ _ _ (.inr HF1.out.1) (by rw [List.length_append]; have := HB.out.2.2.2; simp only [List.length_singleton]; omega) (by have := HF1.out.2.1.size; omega)).mono ?_
            rintro e w2 ⟨rfl, h1, hb1, hk1⟩
            have HF := hideT (And.intro h1 (And.intro (HF1.out.2.1.trans hb1) (HF1.out.2.2.trans hk1)))
            clear h1 hb1 hk1
            go_wp2
            refine ⟨⟨k + 1, by omega, by go_num, .inr ?_, HF.out.2.1, HF.out.2.2⟩, by simp [intOf]; omega⟩
            rw [HE.out, ← List.append_assoc, cells_app _ [92, c], show Lib.byteCells [92, c] = [.int .u8 92] ++ [.int .u8 (c.toNat : Nat)] from rfl, ← List.append_assoc, c2]
            exact HF.out.1
        · rw [if_neg c2] at HE
          have e2 : ((c.toNat : Int) == 92) = false := by rw [beq_eq_false_iff_ne]; omega
          have e3 : ((c.toNat : Int) == 38) = false := by rw [beq_eq_false_iff_ne]; omega
          go_wp2_with fail
          refine (writeByte_any _ _ _ _ _ HB.out.1 (by have := HB.out.2.2.2; omega) (by have := HB.out.2.1.size; omega)).mono ?_
          rintro e w1 ⟨rfl, h1, hb1, hk1⟩
          have HF := hideT (And.intro h1 (And.intro (HB.out.2.1.trans hb1) (HB.out.2.2.1.trans hk1)))
          clear h1 hb1 hk1 ck
          go_wp2
          refine ⟨⟨k + 1, by omega, by go_num, .inr ?_, HF.out.2.1, HF.out.2.2⟩, by simp [intOf]; omega⟩
          rw [HE.out, ← List.append_assoc, cells_app _ [c]]
          exact HF.out.1
    · obtain rfl : k = s.size := by omega
      rw [show s.data.toList.take s.size = s.data.toList from List.take_length] at hb
      have HF := hideT (And.intro hb hB)
      clear hb hB hK
      go_wp2
      go_end0
      exact ⟨rfl, HF.out.1, HF.out.2⟩

end Go.Proofs.Ytbncokfpkkmoiaa
