/- ScriptBetween, pure: what is put ahead of a script. -/
import Derived.Test.YtjfkhlmoppbbgaaGreatDoorKXd2
import Derived.Deep.Cut
import Derived.Test.YtjfkhlmoppbbgaaGreatDoorRows
import Derived.SliceStrings
import Derived.Carry
import Derived.ChangeOld
import Derived.ProofKit
import Derived.OpenShut
import Derived.Deep.Slices
namespace Go.Proofs.YtjfkhlmoppbbgaaGreatDoor
open Go.RowKit
open scanP scrP tpl ytb

/-- What one byte of front puts ahead. -/
def comL (w : List UInt8) : List UInt8 := (w.take 20).filter (fun b => b ≠ 10)
def itemL (w : List UInt8) (k : UInt8) : List UInt8 := if k.toNat % 5 < 4 then [([32, 9, 59, 10] : List UInt8)[k.toNat % 5]?.getD 0] else 35 :: comL w ++ [10]
def ahL (w : List UInt8) (l : List UInt8) : List UInt8 := 10 :: l.flatMap (itemL w)
theorem ahL_snoc (w l : List UInt8) (k : UInt8) : ahL w (l ++ [k]) = ahL w l ++ itemL w k := by
  unfold ahL
  rw [List.flatMap_append, List.flatMap_cons, List.flatMap_nil, List.append_nil, List.cons_append]
theorem Sep.item (w : List UInt8) (k : UInt8) : Sep (itemL w k) := by
  unfold itemL
  split
  · rename_i h
    have hm : k.toNat % 5 = 0 ∨ k.toNat % 5 = 1 ∨ k.toNat % 5 = 2 ∨ k.toNat % 5 = 3 := by omega
    rcases hm with e | e | e | e <;> rw [e] <;> exact Sep.one rfl
  · exact Sep.note (fun b hb => by
      have := (List.mem_filter.1 hb).2
      simpa using this)
theorem Sep.items (w : List UInt8) : ∀ l : List UInt8, Sep (l.flatMap (itemL w))
  | [] => Sep.nil
  | k :: r => by rw [List.flatMap_cons]; exact (Sep.item w k).app (Sep.items w r)
theorem Sep.ah (w l : List UInt8) : Sep (ahL w l) := by
  have := (Sep.one (b := 10) rfl).app (Sep.items w l)
  exact this
theorem item_len (w : List UInt8) (k : UInt8) : (itemL w k).length ≤ 22 := by
  unfold itemL
  split
  · simp
  · have h1 := List.length_filter_le (fun b => decide (b ≠ 10)) (w.take 20)
    have h2 : (w.take 20).length ≤ 20 := by rw [List.length_take]; omega
    have h3 : (comL w).length ≤ 20 := Nat.le_trans h1 h2
    rw [List.length_append, List.length_cons, List.length_singleton]
    omega
theorem ah_len (w : List UInt8) : ∀ l : List UInt8, (ahL w l).length ≤ 22 * l.length + 1
  | [] => by simp [ahL]
  | k :: r => by
    have h1 := ah_len w r
    have h2 := item_len w k
    unfold ahL at h1 ⊢
    rw [List.flatMap_cons, List.length_cons, List.length_append, List.length_cons]
    rw [List.length_cons] at h1
    omega
theorem com_step (w : List UInt8) (k : Nat) (hk : k < w.length) (h20 : k < 20) : ((w.take (k + 1)).take 20).filter (fun b => decide (b ≠ 10)) = ((w.take k).take 20).filter (fun b => decide (b ≠ 10)) ++ (if w[k] ≠ 10 then [w[k]] else []) := by
  rw [List.take_take, List.take_take, Nat.min_eq_right (by omega), Nat.min_eq_right (by omega), List.take_succ_eq_append_getElem hk, List.filter_append]
  congr 1
  by_cases h : w[k] = 10 <;> simp [h]
end Go.Proofs.YtjfkhlmoppbbgaaGreatDoor

/- ScriptBetween: what is put ahead. -/
namespace Go.Proofs.YtjfkhlmoppbbgaaGreatDoor
open Go.RowKit
open scanP scrP tpl ytb

def BRow (W : World) (v : Value) (l : List UInt8) : Prop := ∃ a cp, v = .slice a l.length cp ∧ ∀ (k : Nat) (x : UInt8), l[k]? = some x → ∃ g o, a = some ⟨g, o, none⟩ ∧ W.cell? ⟨g, o + k, none⟩ = some (.int .u8 (x.toNat : Nat))
theorem bst_add (l : List UInt8) (b : UInt8) : bst l ++ (⟨#[b]⟩ : ByteArray) = bst (l ++ [b]) := by
  apply ByteArray.ext
  simp [bst, ByteArray.data_append]
theorem ext_at (t : ByteArray) (m : Nat) (h : m < t.size) : t.extract m (m + 1) = (⟨#[t[m]'h]⟩ : ByteArray) := by
  rw [ext_bst, List.drop_eq_getElem_cons (show m < t.data.toList.length from h)]
  rfl
theorem sz_bst (l : List UInt8) (n : Nat) (h : l.length ≤ n) : (bst l).size ≤ n := by rw [bst_size]; exact h
theorem ne_z2 {E : Nat} (h : E ≠ 0) : ((E : Int) != 0) = true := by rw [bne_iff_ne]; omega
set_option maxRecDepth 100000 in
set_option maxHeartbeats 4000000 in
theorem between_any (s t : ByteArray) (v : Value) (l : List UInt8) (hs : s.size ≤ 1048576) (ht : t.size ≤ 1048576) (hl : l.length ≤ 1048576) (w : World) (hB : BRow w v l) (hg : Gl w) : Calls Tryz.prog 5 #[.string s, v, .string t] w fun e w' => e = .returned (.bool true) ∧ Below w.heap.size w w' := by
  have HA := hideT (awake_any w hg)
  have HG := hideT hg
  obtain ⟨a, cp, rfl, hB⟩ := hB
  have HR := hideT hB
  clear hg hB
  go_enter Tryz.func5, Tryz.ntmps5
  go_wp2_with fail
  refine HA.out.mono ?_
  rintro e w1 ⟨rfl, hb⟩
  have HC := hideT (fun (k : Nat) (x : UInt8) (hk : l[k]? = some x) => (let ⟨g, o, e, h⟩ := HR.out k x hk; ⟨g, o, e, (hb.cell (p := ⟨g, o + k, none⟩) (tpl.cell_lt h)).trans h⟩ : ∃ g o, a = some (⟨g, o, none⟩ : Addr) ∧ w1.cell? ⟨g, o + k, none⟩ = some (.int .u8 (x.toNat : Nat))))
  have HB := hideT hb
  clear hb HA HR
  obtain ⟨T, hT⟩ : ∃ T, T = t.data.toList := ⟨_, rfl⟩
  have HT := hideT hT
  clear hT
  go_wp2_with fail
  go_loopw [7, 24] (fun r i wr => ∃ (k : Nat) (A : List UInt8), k ≤ l.length ∧ i = .int .i64 k ∧ r = .string (bst A) ∧ Hid (A = ahL T (l.take k)) ∧ A.length ≤ 22 * k + 1 ∧ wr = w1) (fun _ i _ => l.length - (intOf i).toNat)
  case atStart => exact ⟨0, [10], by omega, rfl, rfl, hideT rfl, by simp, rfl⟩
  case round =>
    obtain ⟨k, A, hk, rfl, rfl, HE, hAl, rfl⟩ := hrel
    by_cases hlt : k < l.length
    · obtain ⟨g, o, rfl, q0⟩ := HC.out k _ (List.getElem?_eq_getElem hlt)
      have HN := hideT (show ahL T (l.take (k + 1)) = A ++ itemL T (l[k]'hlt) by rw [List.take_succ_eq_append_getElem hlt, ahL_snoc, ← HE.out])
      have hil := item_len T (l[k]'hlt)
      generalize (l[k]'hlt) = b at *
      have i1 : (k : Int) < (l.length : Int) := by omega
      have i2 : (0 : Int) ≤ (k : Int) := by omega
      have hm : b.toNat % 5 = 0 ∨ b.toNat % 5 = 1 ∨ b.toNat % 5 = 2 ∨ b.toNat % 5 = 3 ∨ b.toNat % 5 = 4 := by omega
      have hz : (bst A).size ≤ 30000000 := sz_bst A _ (by omega)
      rcases hm with hm | hm | hm | hm | hm
      · have e5 : ((b.toNat : Int)) % 5 = 0 := by omega
        have x5 : (⟨#[32, 9, 59, 10]⟩ : ByteArray).extract 0 1 = ⟨#[32]⟩ := rfl
        have hi : itemL T b = [32] := by unfold itemL; rw [hm]; rfl
        rw [hi] at HN
        clear hi hm hil
        go_wp2_with fail
        exact ⟨⟨k + 1, A ++ [32], by omega, by go_num, by rw [bst_add], hideT HN.out.symm, by rw [List.length_append, List.length_singleton]; omega, trivial⟩, by simp [intOf]; omega⟩
      · have e5 : ((b.toNat : Int)) % 5 = 1 := by omega
        have x5 : (⟨#[32, 9, 59, 10]⟩ : ByteArray).extract 1 2 = ⟨#[9]⟩ := rfl
        have hi : itemL T b = [9] := by unfold itemL; rw [hm]; rfl
        rw [hi] at HN
        clear hi hm hil
        go_wp2_with fail
        exact ⟨⟨k + 1, A ++ [9], by omega, by go_num, by rw [bst_add], hideT HN.out.symm, by rw [List.length_append, List.length_singleton]; omega, trivial⟩, by simp [intOf]; omega⟩
      · have e5 : ((b.toNat : Int)) % 5 = 2 := by omega
        have x5 : (⟨#[32, 9, 59, 10]⟩ : ByteArray).extract 2 3 = ⟨#[59]⟩ := rfl
        have hi : itemL T b = [59] := by unfold itemL; rw [hm]; rfl
        rw [hi] at HN
        clear hi hm hil
        go_wp2_with fail
        exact ⟨⟨k + 1, A ++ [59], by omega, by go_num, by rw [bst_add], hideT HN.out.symm, by rw [List.length_append, List.length_singleton]; omega, trivial⟩, by simp [intOf]; omega⟩
      · have e5 : ((b.toNat : Int)) % 5 = 3 := by omega
        have x5 : (⟨#[32, 9, 59, 10]⟩ : ByteArray).extract 3 4 = ⟨#[10]⟩ := rfl
        have hi : itemL T b = [10] := by unfold itemL; rw [hm]; rfl
        rw [hi] at HN
        clear hi hm hil
        go_wp2_with fail
        exact ⟨⟨k + 1, A ++ [10], by omega, by go_num, by rw [bst_add], hideT HN.out.symm, by rw [List.length_append, List.length_singleton]; omega, trivial⟩, by simp [intOf]; omega⟩
      · have e5 : ((b.toNat : Int)) % 5 = 4 := by omega
        have hi : itemL T b = 35 :: comL T ++ [10] := by unfold itemL; rw [hm]; rfl
        rw [hi] at HN hil
        clear hi hm
        have hTs : T.length = t.size := by rw [HT.out]; rfl
        go_wp2_with fail
        rw [bst_add]
        have h35 : (A ++ [35]).length ≤ 22 * k + 2 := by rw [List.length_append, List.length_singleton]; omega
        obtain ⟨A1, hA1⟩ : ∃ A1, A1 = A ++ [35] := ⟨_, rfl⟩
        rw [← hA1] at h35 ⊢
        have HA1 := hideT hA1
        clear hA1
        go_loopw [7, 10] (fun r i wr' => ∃ (m : Nat) (D : List UInt8), m ≤ 20 ∧ m ≤ t.size ∧ i = .int .i64 m ∧ r = .string (bst D) ∧ Hid (D = A1 ++ ((T.take m).take 20).filter (fun b => decide (b ≠ 10))) ∧ D.length ≤ 22 * k + 2 + m ∧ wr' = wr) (fun _ i _ => 20 - (intOf i).toNat)
        case atStart => exact ⟨0, A1, by omega, by omega, rfl, rfl, hideT (by simp), by omega, rfl⟩
        case round =>
          obtain ⟨m, D, hm20, hmt, rfl, rfl, HD, hDl, rfl⟩ := hrel
          have hzD : (bst D).size ≤ 30000000 := sz_bst D _ (by omega)
          by_cases h1 : m < t.size
          · have j1 : (m : Int) < (t.size : Int) := by omega
            have j1' : decide (m < t.size) = true := by rw [decide_eq_true_iff]; exact h1
            have j2 : (0 : Int) ≤ (m : Int) := by omega
            by_cases h2 : m < 20
            · have j3 : (m : Int) < 20 := by omega
              have j3' : decide (m < 20) = true := by rw [decide_eq_true_iff]; exact h2
              have hst := com_step T m (by omega) h2
              have hTm : T[m]'(by omega) = t[m]'h1 := by
                have := HT.out
                subst this
                rfl
              rw [hTm] at hst
              have wm : IntKind.i64.wrap ((m : Int) + 1) = (m : Int) + 1 := by rw [IntKind.wrap_i64]; omega
              by_cases h3 : t[m]'h1 = 10
              · have c1 := eq_val (c := t[m]'h1) (d := 10) (z := 10) rfl h3
                have HD2 := hideT (show D = A1 ++ ((T.take (m + 1)).take 20).filter (fun b => decide (b ≠ 10)) by rw [hst, if_neg (by rw [h3]; simp), List.append_nil]; exact HD.out)
                clear hst hTm h3
                go_wp2_with fail
                exact ⟨⟨m + 1, D, by omega, by omega, by go_num, rfl, HD2, by omega, trivial⟩, by simp [intOf]; omega⟩
              · have c1 := ne_val (c := t[m]'h1) (d := 10) (z := 10) rfl h3
                have HD2 := hideT (show D ++ [t[m]'h1] = A1 ++ ((T.take (m + 1)).take 20).filter (fun b => decide (b ≠ 10)) by rw [hst, if_pos h3, ← List.append_assoc, ← HD.out])
                have x5 := ext_at t m h1
                clear hst hTm h3
                go_wp2_with fail
                exact ⟨⟨m + 1, D ++ [t[m]'h1], by omega, by omega, by go_num, by rw [bst_add], HD2, by rw [List.length_append, List.length_singleton]; omega, trivial⟩, by simp [intOf]; omega⟩
            · have j3' : decide (m < 20) = false := by rw [decide_eq_false_iff_not]; exact h2
              have j3 : ((m : Int) < 20) = False := by rw [eq_iff_iff, iff_false]; omega
              have hTk : (T.take m).take 20 = T.take 20 := by rw [List.take_take, Nat.min_eq_left (by omega)]
              have HF := hideT (show D ++ [10] = ahL T (l.take (k + 1)) by rw [HN.out, HD.out, hTk, HA1.out]; simp [comL, List.append_assoc])
              clear hTk
              go_wp2_with fail
              exact ⟨⟨k + 1, D ++ [10], by omega, by go_num, by rw [bst_add], HF, by rw [List.length_append, List.length_singleton]; omega, trivial⟩, by simp [intOf]; omega⟩
          · have j1' : decide (m < t.size) = false := by rw [decide_eq_false_iff_not]; exact h1
            have j1 : ((m : Int) < (t.size : Int)) = False := by rw [eq_iff_iff, iff_false]; omega
            have hTk : (T.take m).take 20 = T.take 20 := by rw [List.take_of_length_le (by omega : T.length ≤ m)]
            have HF := hideT (show D ++ [10] = ahL T (l.take (k + 1)) by rw [HN.out, HD.out, hTk, HA1.out]; simp [comL, List.append_assoc])
            clear hTk
            go_wp2_with fail
            exact ⟨⟨k + 1, D ++ [10], by omega, by go_num, by rw [bst_add], HF, by rw [List.length_append, List.length_singleton]; omega, trivial⟩, by simp [intOf]; omega⟩
    · obtain rfl : k = l.length := by omega
      have i1 : ((l.length : Int) < (l.length : Int)) = False := by rw [eq_iff_iff, iff_false]; omega
      have HE2 := HE.out
      rw [List.take_length] at HE2
      have hz : (bst A).size ≤ 30000000 := sz_bst A _ (by omega)
      have HE3 := hideT HE2
      clear HE2 HE
      have HP := hideT (parse_rows s (by omega) wr (HG.out.below HB.out))
      go_wp2_with fail
      refine HP.out.mono ?_
      rintro e w2 ⟨v, rfl, hC, hb⟩
      obtain ⟨S1, hS1⟩ : ∃ S1, S1 = scrR gM s.data.toList := ⟨_, rfl⟩
      rw [← hS1] at hC ⊢
      have HS1 := hideT hS1
      clear hS1
      obtain ⟨LS, qS, ES, PS⟩ := S1
      simp only at hC ⊢
      have a0 := (Below.refl w2.heap.size w2).alloc (Nat.le_refl _) (.cells #[.int .i64 (ES : Int), .int .i64 (PS : Int)] 25)
      have n0 := heap_alloc_new w2 (.cells #[.int .i64 (ES : Int), .int .i64 (PS : Int)] 25)
      have HC2 := hideT (hC.stay a0)
      have HX2 := hideT a0
      have b2 := hb.trans (a0.mono hb.size)
      have HB2 := hideT (HB.out.trans (b2.mono HB.out.size))
      go_upto_region 18 with fail
      revert n0 HC2 HX2 HB2
      generalize w2.alloc (.cells #[.int .i64 (ES : Int), .int .i64 (PS : Int)] 25) = X2
      intro n0 HC2 HX2 HB2
      have q0 : X2.cell? ⟨w2.heap.size, 0, none⟩ = some (.int .i64 (ES : Int)) := by simp only [World.cell?, n0]; rfl
      have HN0 := hideT n0
      clear n0 a0 hC hb b2 HP
      have hAs : (bst A).size = A.length := bst_size A
      have wz : IntKind.i64.wrap (((bst A).size : Int) + (s.size : Int)) = ((bst A).size : Int) + (s.size : Int) := by rw [IntKind.wrap_i64]; omega
      by_cases hsz : A.length + s.size ≤ 4000
      · by_cases h13 : ES = 13
        · have t0 : decide (4000 < ((bst A).size : Int) + (s.size : Int)) = false := by rw [decide_eq_false_iff_not]; omega
          have t3 : decide (4000 < (bst A).size + s.size) = false := by rw [decide_eq_false_iff_not]; omega
          have t5 : ((ES : Int) == 13) = true := by rw [beq_iff_eq]; omega
          clear hAs h13
          go_wp2
          go_ret
          exact ⟨rfl, HB2.out⟩
        · have t0 : decide (4000 < ((bst A).size : Int) + (s.size : Int)) = false := by rw [decide_eq_false_iff_not]; omega
          have t3 : decide (4000 < (bst A).size + s.size) = false := by rw [decide_eq_false_iff_not]; omega
          have t5 : ((ES : Int) == 13) = false := by rw [beq_eq_false_iff_ne]; omega
          have hcat : (bst A ++ s).data.toList = A ++ s.data.toList := by simp [ByteArray.data_append, bst]
          have hcs : (bst A ++ s).size ≤ 140737488355000 := by rw [ByteArray.size_append, bst_size]; omega
          have HP3 := hideT (parse_rows (bst A ++ s) hcs X2 (HG.out.below HB2.out))
          have HA3 := hideT (show ES ≠ 0 ∧ scrR gM (bst A ++ s).data.toList = ([], false, ES, A.length + PS) ∨ ES = 0 ∧ scrR gM (bst A ++ s).data.toList = (LS.map (mv A.length), false, 0, 0) by
            have h := scr_ahead (G := gM) (p := l.flatMap (itemL T)) (l := s.data.toList) (Sep.ah T l) (by
              have e : (10 :: l.flatMap (itemL T)) = A := HE3.out.symm
              rw [e]
              exact hsz)
            have e : (10 :: l.flatMap (itemL T)) = A := HE3.out.symm
            rw [e, ← HS1.out] at h
            rw [hcat]
            exact h)
          clear hcat hcs
          go_wp2_with fail
          refine HP3.out.mono ?_
          rintro e w3 ⟨v3, rfl, hC3, hb3⟩
          rcases HA3.out with ⟨hE, e3⟩ | ⟨hE, e3⟩
          · obtain ⟨N, hN⟩ : ∃ N, N = A.length + PS := ⟨_, rfl⟩
            rw [← hN] at e3
            have HNN := hideT hN
            clear hN
            rw [e3] at hC3 ⊢
            simp only at hC3 ⊢
            obtain ⟨_, cp3, rfl, -⟩ := hC3.read
            have a3 := (Below.refl w3.heap.size w3).alloc (Nat.le_refl _) (.cells #[.int .i64 (ES : Int), .int .i64 (N : Int)] 25)
            have n3 := heap_alloc_new w3 (.cells #[.int .i64 (ES : Int), .int .i64 (N : Int)] 25)
            have b3 := hb3.trans (a3.mono hb3.size)
            have n0 := (b3.block _ (blk_lt HN0.out)).trans HN0.out
            have HB3 := hideT (HB2.out.trans (b3.mono HB2.out.size))
            go_upto_region 21 with fail
            revert HB3
            revert n0
            revert n3
            generalize w3.alloc (.cells #[.int .i64 (ES : Int), .int .i64 (N : Int)] 25) = X3
            intro n3 n0 HB3
            have q1 : X3.cell? ⟨w2.heap.size, 0, none⟩ = some (.int .i64 (ES : Int)) := by simp only [World.cell?, n0]; rfl
            have q2 : X3.cell? ⟨w2.heap.size, 1, none⟩ = some (.int .i64 (PS : Int)) := by simp only [World.cell?, n0]; rfl
            have q3 : X3.cell? ⟨w3.heap.size, 0, none⟩ = some (.int .i64 (ES : Int)) := by simp only [World.cell?, n3]; rfl
            have q4 : X3.cell? ⟨w3.heap.size, 1, none⟩ = some (.int .i64 (N : Int)) := by simp only [World.cell?, n3]; rfl
            have t6 : ((ES : Int) != 0) = true := ne_z2 hE
            have t7 : ((ES : Int) != (ES : Int)) = false := by simp
            have hPS : PS ≤ s.size := by
              have h := (scr_bad (G := gM) (l := s.data.toList) (by rw [← HS1.out]; exact hE)).2.2
              rw [← HS1.out] at h
              exact h
            have wz2 : IntKind.i64.wrap ((PS : Int) + ((bst A).size : Int)) = (PS : Int) + ((bst A).size : Int) := by rw [IntKind.wrap_i64]; omega
            have hN := HNN.out
            have t8 : ((N : Int) == (PS : Int) + ((bst A).size : Int)) = true := by rw [beq_iff_eq]; omega
            clear hAs hN hE e3 n0 n3 a3 b3 hb3 hC3 HA3 HP3 h13
            simp only [List.length_nil]
            go_wp2
            go_ret
            exact ⟨rfl, HB3.out⟩
          · subst hE
            rw [e3] at hC3 ⊢
            simp only at hC3 ⊢
            have z00 : ((0 : Nat) : Int) = 0 := rfl
            have a3 := (Below.refl w3.heap.size w3).alloc (Nat.le_refl _) (.cells #[.int .i64 0, .int .i64 0] 25)
            have n3 := heap_alloc_new w3 (.cells #[.int .i64 0, .int .i64 0] 25)
            have b3 := hb3.trans (a3.mono hb3.size)
            have n0 := (b3.block _ (blk_lt HN0.out)).trans HN0.out
            have HB3 := hideT (HB2.out.trans (b3.mono HB2.out.size))
            have HC3 := hideT (hC3.stay a3)
            have HCS := hideT (HC2.out.stay b3)
            have HX3 := hideT a3
            have HX23 := hideT (HX2.out.trans (b3.mono HX2.out.size))
            simp only [z00] at q0 n0 ⊢
            go_upto_region 21 with fail
            revert HX23
            revert HX3
            revert HCS
            revert HC3
            revert HB3
            revert n0
            revert n3
            generalize w3.alloc (.cells #[.int .i64 0, .int .i64 0] 25) = X3
            intro n3 n0 HB3 HC3 HCS HX3 HX23
            have q1 : X3.cell? ⟨w2.heap.size, 0, none⟩ = some (.int .i64 0) := by simp only [World.cell?, n0]; rfl
            have q3 : X3.cell? ⟨w3.heap.size, 0, none⟩ = some (.int .i64 0) := by simp only [World.cell?, n3]; rfl
            have hE0 : (scrR gM s.data.toList).2.2.1 = 0 := by rw [← HS1.out]
            have hbe := scr_behind hE0 (by show s.size ≤ 4000; omega)
            have fS := scr_fields hE0
            have pS := scr_ps hE0
            rw [← HS1.out] at hbe fS pS
            simp only at hbe fS pS
            have lS : LS.length ≤ 4096 := by have : LS.length ≤ s.size := fS.lenB; omega
            have HPL := hideT (fun c (hc : c ∈ LS) => (by have h1 : c.pl < s.size := fS.pl c hc; omega : c.pl ≤ 10000))
            have HPS := hideT (fun c (hc : c ∈ LS) => (by have h1 : c.ps.length ≤ s.size := pS c hc; omega : c.ps.length ≤ 1000000000000000))
            have HPM := hideT (fun c (hc : c ∈ LS.map (mv A.length)) => (by
              obtain ⟨d, hd, rfl⟩ := List.mem_map.1 hc
              exact HPS.out d hd : c.ps.length ≤ 1000000000000000))
            have HBE := hideT (show scrR gM (s ++ (⟨#[10, 32, 59, 10, 35, 120, 10]⟩ : ByteArray)).data.toList = (LS, qS, 0, 0) by
              rw [show (s ++ (⟨#[10, 32, 59, 10, 35, 120, 10]⟩ : ByteArray)).data.toList = s.data.toList ++ [10, 32, 59, 10, 35, 120, 10] by simp [ByteArray.data_append]]
              exact hbe)
            have hcs4 : (s ++ (⟨#[10, 32, 59, 10, 35, 120, 10]⟩ : ByteArray)).size ≤ 140737488355000 := by rw [ByteArray.size_append]; show s.size + 7 ≤ _; omega
            have HP4 := hideT (parse_rows (s ++ (⟨#[10, 32, 59, 10, 35, 120, 10]⟩ : ByteArray)) hcs4 X3 (HG.out.below HB3.out))
            clear hbe fS pS hE0 hcs4 e3 n0 n3 a3 b3 hb3 hC3 HA3 HP3 h13 HN0 q0
            go_wp2_with fail
            refine HP4.out.mono ?_
            rintro e w4 ⟨v4, rfl, hC4, hb4⟩
            rw [HBE.out] at hC4 ⊢
            simp only [z00] at hC4 ⊢
            have a4 := (Below.refl w4.heap.size w4).alloc (Nat.le_refl _) (.cells #[.int .i64 0, .int .i64 0] 25)
            have n4 := heap_alloc_new w4 (.cells #[.int .i64 0, .int .i64 0] 25)
            have b4 := hb4.trans (a4.mono hb4.size)
            have HB4 := hideT (HB3.out.trans (b4.mono HB3.out.size))
            have HC4 := hideT (hC4.stay a4)
            have HC3b := hideT (HC3.out.stay b4)
            have HCSb := hideT (HCS.out.stay b4)
            have HX4 := hideT a4
            have HX34 := hideT (HX3.out.trans (b4.mono HX3.out.size))
            have HX24 := hideT (HX23.out.trans (b4.mono HX23.out.size))
            go_upto_region 26 with fail
            revert HX24
            revert HX34
            revert HX4
            revert HCSb
            revert HC3b
            revert HC4
            revert HB4
            revert n4
            generalize w4.alloc (.cells #[.int .i64 0, .int .i64 0] 25) = X4
            intro n4 HB4 HC4 HC3b HCSb HX4 HX34 HX24
            have HN4 := hideT n4
            clear n4 a4 b4 hb4 hC4 HP4 HBE HB3 HC3 HCS HX3 HX23 q1 q3
            have HMV := hideT (moved_any v LS A.length X4 w2 HCSb.out.read (by omega) (by omega) HPL.out)
            have hAi : ((bst A).size : Int) = (A.length : Int) := by rw [hAs]
            go_wp2_with fail
            refine HMV.out.mono ?_
            rintro e w5 ⟨v5, L5, rfl, l1, l2, l3, l4⟩
            have x35 := HX34.out.trans (l4.mono HX34.out.size)
            have x25 := HX24.out.trans (l4.mono HX24.out.size)
            have HS5 := hideT (sameList_any v3 v5 _ w5 ((HC3b.out.stay l4).crow (fun pv ps h => h.stay x35 (Nat.le_refl _))) (l1 ▸ (rrow_owns l2 l3).crow (fun pv ps h => h.stay x25 (Nat.le_refl _))) HPM.out (by rw [List.length_map]; omega))
            have H5 := hideT l4
            clear l1 l2 l3 l4 x35 x25 HMV
            go_wp2_with fail
            refine HS5.out.mono ?_
            rintro e w6 ⟨rfl, hb6⟩
            have b46 := H5.out.trans (hb6.mono H5.out.size)
            have n6 := (b46.block _ (blk_lt HN4.out)).trans HN4.out
            have q6 : w6.cell? ⟨w4.heap.size, 0, none⟩ = some (.int .i64 0) := by simp only [World.cell?, n6]; rfl
            have x46 := HX4.out.trans (b46.mono HX4.out.size)
            have x26 := HX24.out.trans (b46.mono HX24.out.size)
            have HS6 := hideT (sameList_any v4 v LS w6 ((HC4.out.stay b46).crow (fun pv ps h => h.stay x46 (Nat.le_refl _))) ((HCSb.out.stay b46).crow (fun pv ps h => h.stay x26 (Nat.le_refl _))) HPS.out (by omega))
            have HB6 := hideT (HB4.out.trans (b46.mono HB4.out.size))
            clear hb6 b46 n6 x46 x26 HS5 H5
            go_wp2_with fail
            refine HS6.out.mono ?_
            rintro e w7 ⟨rfl, hb7⟩
            have HF := hideT (HB6.out.trans (hb7.mono HB6.out.size))
            clear hb7
            go_wp2
            go_ret
            exact ⟨rfl, HF.out⟩
      · have t1 : decide (4000 < ((bst A).size : Int) + (s.size : Int)) = true := by rw [decide_eq_true_iff]; omega
        have t2 : (4000 : Int) < ((bst A).size : Int) + (s.size : Int) := by omega
        have t3 : decide (4000 < (bst A).size + s.size) = true := by rw [decide_eq_true_iff]; omega
        have t4 : 4000 < (bst A).size + s.size := by omega
        clear hAs
        go_wp2
        go_ret
        exact ⟨rfl, HB2.out⟩
end Go.Proofs.YtjfkhlmoppbbgaaGreatDoor

/- Arguments that are lists of bytes. -/
namespace Go.Proofs.YtjfkhlmoppbbgaaGreatDoor
open Go.ChangeShapes Go.WideShapes Go.RowKit

theorem spot_none {W : World} {a : Addr} {v : Value} (h : W.cell? (a.add 0) = some v) : a.spot = none := by
  obtain ⟨g, off, sp⟩ := a
  cases sp with
  | none => rfl
  | some x =>
    simp [Addr.add, World.cell?] at h
    split at h <;> simp_all
theorem bytes_bulk {H : Type} (n : Nat) (D : Nat → DataW H) (h : ∀ i, i < n → ∃ x, D i = .lit (.int .u8 x)) : ∀ m, m ≤ n → Rows.uptoBulkAll ((List.range m).map D) = m := by
  intro m
  induction m with
  | zero => intro _; rfl
  | succ m ih =>
    intro hm
    obtain ⟨x, hx⟩ := h m (by omega)
    have happ : ∀ (a b : List (DataW H)), Rows.uptoBulkAll (a ++ b) = Rows.uptoBulkAll a + Rows.uptoBulkAll b := by
      intro a b
      induction a with
      | nil => simp [Rows.uptoBulkAll]
      | cons y r ih2 => simp only [List.cons_append, Rows.uptoBulkAll, ih2]; omega
    rw [List.range_succ, List.map_append, happ, ih (by omega)]
    simp [Rows.uptoBulkAll, Rows.uptoBulk, hx]
set_option maxRecDepth 100000 in
theorem open_bytes {H : Type} {enc : TypeId × Value → H} {W : World} {b0 base : Nat} {spare : Nat → Bool} {held : Bool} {v : Value} {d : DataW H} {p : List MemPlace} (hv : Value.okWide Tryz.prog W .any b0 35 v) (h : DataW.Trod enc Tryz.prog W base spare held 35 v d p) :
    ∃ l : List UInt8, BRow W v l ∧ l.length ≤ Rows.uptoBulk d := by
  obtain ⟨a0, len, cap, rfl⟩ := okWide_slice Tryz.underlying35 hv
  obtain ⟨fuel, hf⟩ := h
  rcases Deep.open_slice Tryz.underlying35 hf with ⟨hcs, hx⟩ | ⟨a, len', cap', m, n, D, Pl, hcs, _, hl, hm, hz, hx, hcell⟩
  · simp only [Value.cells, List.cons.injEq, Value.slice.injEq, and_true] at hcs
    obtain ⟨rfl, rfl, rfl⟩ := hcs
    exact ⟨[], ⟨none, 0, rfl, fun k x hk => by simp at hk⟩, Nat.zero_le _⟩
  · simp only [Value.cells, List.cons.injEq, Value.slice.injEq, and_true] at hcs
    obtain ⟨rfl, rfl, rfl⟩ := hcs
    simp only [Prod.mk.injEq] at hx
    have hle : len ≤ m := by rw [hz]; split <;> omega
    have each : ∀ i, i < len → ∃ q : UInt8, W.cell? (a.add i) = some (.int .u8 (q.toNat : Nat)) ∧ D i = .lit (.int .u8 (q.toNat : Nat)) := by
      intro i hi
      obtain ⟨cs', h1, h2⟩ := hcell i (by omega)
      obtain ⟨x, e1, e2, e3⟩ := DataW.trod_int Tryz.underlying5 h2
      subst e1
      obtain ⟨_, _, hc⟩ := World.cells?_some h1
      have hc0 := hc 0 (by rw [show Tryz.prog.cellsOf 5 = 1 by kernel_rfl]; omega)
      have hb := bounds_u8 e3
      obtain ⟨q, rfl⟩ : ∃ q : UInt8, x = ((q.toNat : Nat) : Int) := ⟨x.toNat.toUInt8, by rw [UInt8.toNat_ofNat']; omega⟩
      simp only [Prod.mk.injEq] at e2
      rw [show Tryz.prog.cellsOf 5 = 1 by kernel_rfl, Nat.mul_one, Deep.add_add, Nat.add_zero] at hc0
      exact ⟨q, by simpa using hc0, e2.1⟩
    haveI : Inhabited UInt8 := ⟨0⟩
    obtain ⟨q, hq⟩ := Deep.choose_lt each
    refine ⟨(List.range len).map q, ⟨some a, cap, by simp, fun k x hk => ?_⟩, ?_⟩
    · have hk1 : k < len := by
        have := (List.getElem?_eq_some_iff.1 hk).1
        simpa using this
      rw [List.getElem?_map, List.getElem?_range hk1] at hk
      obtain rfl : q k = x := by simpa using hk
      have h1 := (hq k hk1).1
      have h0 := (hq 0 (by omega)).1
      obtain ⟨g, off, sp⟩ := a
      obtain rfl : sp = none := spot_none h0
      refine ⟨g, off, rfl, ?_⟩
      have hplain : (⟨g, off, none⟩ : Addr).add k = ⟨g, off + k, none⟩ := by unfold Addr.add; split <;> simp_all
      rw [hplain] at h1
      exact h1
    · rw [hx.1]
      have := bytes_bulk (H := H) len D (fun i hi => ⟨_, (hq i hi).2⟩) len (Nat.le_refl _)
      simp only [Rows.uptoBulk, this, List.length_map, List.length_range]
      omega
end Go.Proofs.YtjfkhlmoppbbgaaGreatDoor
