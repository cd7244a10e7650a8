/- template: texts that are read as they are. -/
import Derived.Test.YtbncokfpkkmoiaaTp
import Derived.Test.YtbncokfpkkmoiaaTh
namespace Go.Proofs.Ytbncokfpkkmoiaa
open Go.RowKit

def plB (c : UInt8) : Bool := decide (c.toNat ≠ 38 ∧ c.toNat ≠ 92 ∧ c.toNat ≠ 10)
theorem run_plain : ∀ (l : List UInt8) (k : Nat) (x : Ga), l.all plB = true → runP l k x = ((⟨x.ps, x.bs ++ l⟩ : Ga).out, 0, 0)
  | [], k, x, _ => by rw [runP_nil, List.append_nil]
  | c :: r, k, x, h => by
    rw [List.all_cons, Bool.and_eq_true] at h
    have h1 := of_decide_eq_true h.1
    rw [runP_pl c r k x h1.1 h1.2.2 h1.2.1, run_plain r _ _ h.2]
    simp [Ga.plain]
theorem parse_plain (l : List UInt8) (hl : l.length ≤ 500) (h : l.all plB = true) : parseR l = ((⟨[], l⟩ : Ga).out, 0, 0) := by
  unfold parseR
  rw [if_neg (by omega), run_plain l 0 _ h]
  rfl
theorem plain_len (l : List UInt8) : ((⟨[], l⟩ : Ga).out).ps.length = min l.length 1 := by
  unfold Ga.out
  cases l with
  | nil => rfl
  | cons a r => simp
theorem build_plain (l : List UInt8) (hl : l.length ≤ 500) (s : List UInt8) (sp : List (Int × Int)) : buildR s sp ((⟨[], l⟩ : Ga).out).ps [] = (l, 0) := by
  unfold Ga.out
  cases l with
  | nil => rfl
  | cons a r =>
    rw [if_neg (by simp)]
    simp only [List.nil_append]
    have e : pieceL s sp ⟨-1, bst (a :: r)⟩ = a :: r := by
      unfold pieceL
      rw [if_pos rfl]
      exact bst_list _
    rw [build_fit _ _ _ _ _ (by simp) (by rw [e]; simp at hl ⊢; omega), e]
    rfl

def maP : List Pt := [⟨-1, bst [60]⟩, ⟨0, bst []⟩, ⟨-1, bst [62]⟩]
theorem ma_parse : parseR [60, 38, 62] = (⟨maP, []⟩, 0, 0) := by
  unfold parseR
  rw [if_neg (by decide), runP_pl _ _ _ _ (by decide) (by decide) (by decide), runP_amp _ _ _ _ (by decide), runP_pl _ _ _ _ (by decide) (by decide) (by decide), runP_nil]
  rfl
theorem ma_build (s : List UInt8) (n : Nat) (hn : n ≤ 300) (hs : n ≤ s.length) : buildR s [(0, (n : Int))] maP [] = ([60] ++ s.take n ++ [62], 0) := by
  unfold maP
  have e1 : pieceL s [(0, (n : Int))] ⟨-1, bst [60]⟩ = [60] := rfl
  have e3 : pieceL s [(0, (n : Int))] ⟨-1, bst [62]⟩ = [62] := rfl
  have e2 : pieceL s [(0, (n : Int))] ⟨0, bst []⟩ = s.take n := by
    unfold pieceL
    rw [if_neg (by simp)]
    unfold matL
    simp only [Int.toNat_zero, List.getElem?_cons_zero, Int.toNat_natCast, List.drop_zero, Nat.sub_zero]
    rw [if_pos ⟨by omega, by omega, by omega⟩]
  have hl : (s.take n).length = n := by rw [List.length_take]; omega
  rw [build_fit _ _ _ _ _ (by simp) (by rw [e1]; simp), e1, build_fit _ _ _ _ _ (by simp) (by rw [e2, List.length_append, hl]; simp; omega), e2, build_fit _ _ _ _ _ (by simp) (by rw [e3, List.length_append, List.length_append, hl]; simp; omega), e3]
  rfl

set_option maxRecDepth 100000 in
set_option maxHeartbeats 2000000 in
theorem plain_walk (s u : ByteArray) (vs : Value) (sp : List (Int × Int)) (w : World) (hvs : SRow w vs sp) (hs : s.size ≤ 140737488355328) (hu : u.size ≤ 140737488355328) :
    Calls Try.prog 7 #[.string s, .string u, vs] w fun e w' => e = .returned (.bool true) ∧ Below w.heap.size w w' := by
  have HSP := hideT hvs
  obtain ⟨pb, cb, rfl⟩ := hvs.shape
  clear hvs
  have hm1 : min (s.size : Int) 500 = ((min s.size 500 : Nat) : Int) := by omega
  have hm2 : min s.size 500 ≤ s.size := by omega
  have hm3 : min s.size 500 ≤ 500 := by omega
  generalize min s.size 500 = m at *
  have hm4 : (m : Int) ≤ (s.size : Int) := by omega
  have hn1 : min (u.size : Int) 300 = ((min u.size 300 : Nat) : Int) := by omega
  have hn2 : min u.size 300 ≤ u.size := by omega
  have hn3 : min u.size 300 ≤ 300 := by omega
  generalize min u.size 300 = n at *
  have hn4 : (n : Int) ≤ (u.size : Int) := by omega
  have ht : (s.extract 0 m).size ≤ 500 := by rw [ByteArray.size_extract]; omega
  go_enter Try.func7, Try.ntmps7
  go_wp2_with fail
  refine (awake_any _).mono ?_
  rintro e w1 ⟨rfl, hb1⟩
  have H1 := hideT hb1
  clear hb1
  go_wp2_with fail
  generalize s.extract 0 m = t at *
  clear hm1 hm2 hm3 hm4
  go_loopw [7] (fun i wr => ∃ k : Nat, k ≤ t.size ∧ i = .int .i64 k ∧ (t.data.toList.take k).all plB = true ∧ wr = w1) (fun i _ => t.size - (intOf i).toNat)
  case atStart => exact ⟨0, by omega, rfl, by simp, rfl⟩
  case round =>
    obtain ⟨k, hk, rfl, hall, rfl⟩ := hrel
    by_cases hlt : k < t.size
    · have i1 : (k : Int) < (t.size : Int) := by omega
      have i2 : (0 : Int) ≤ (k : Int) := by omega
      have hall2 : (t.data.toList.take (k + 1)).all plB = (plB (t[k]'hlt)) := by
        rw [List.take_succ_eq_append_getElem (by simpa using hlt), List.all_append, hall]
        simp
        rfl
      have HA := hideT hall2
      clear hall2
      have hc := (t[k]'hlt).toNat_lt
      by_cases c1 : (t[k]'hlt).toNat = 38
      · have e1 : (((t[k]'hlt).toNat : Int) == 38) = true := by rw [beq_iff_eq]; omega
        go_wp2
        go_ret
        exact ⟨rfl, H1.out⟩
      have e1 : (((t[k]'hlt).toNat : Int) == 38) = false := by rw [beq_eq_false_iff_ne]; omega
      by_cases c2 : (t[k]'hlt).toNat = 92
      · have e2 : (((t[k]'hlt).toNat : Int) == 92) = true := by rw [beq_iff_eq]; omega
        go_wp2
        go_ret
        exact ⟨rfl, H1.out⟩
      have e2 : (((t[k]'hlt).toNat : Int) == 92) = false := by rw [beq_eq_false_iff_ne]; omega
      by_cases c3 : (t[k]'hlt).toNat = 10
      · have e3 : (((t[k]'hlt).toNat : Int) == 10) = true := by rw [beq_iff_eq]; omega
        go_wp2
        go_ret
        exact ⟨rfl, H1.out⟩
      have e3 : (((t[k]'hlt).toNat : Int) == 10) = false := by rw [beq_eq_false_iff_ne]; omega
      go_wp2
      exact ⟨⟨k + 1, by omega, by go_num, by rw [HA.out]; unfold plB; exact decide_eq_true ⟨c1, c2, c3⟩, trivial⟩, by simp [intOf]; omega⟩
    · obtain rfl : k = t.size := by omega
      rw [show t.data.toList.take t.size = t.data.toList from List.take_length] at hall
      have hp := parse_any t (by omega) wr
      rw [parse_plain t.data.toList ht hall] at hp
      have hbl := build_plain t.data.toList ht u.data.toList sp
      have hpl := plain_len t.data.toList
      rw [show t.data.toList.length = t.size from rfl] at hpl
      have hts : ∀ q ∈ ((⟨[], t.data.toList⟩ : Ga).out).ps, q.t.size ≤ 140737488355328 := by
        intro q hq
        have h5 := sh_out (x := ⟨[], t.data.toList⟩) (n := 500) ⟨by simp, ht⟩ q hq
        omega
      generalize ((⟨[], t.data.toList⟩ : Ga).out) = y at *
      have HP := hideT hp
      have HY := hideT (And.intro hbl (And.intro hpl hts))
      clear hp hbl hpl hts hall
      have hmin : min (t.size : Int) 1 = (y.ps.length : Int) := by rw [HY.out.2.1]; omega
      go_wp2_with fail
      refine HP.out.mono ?_
      rintro e w2 ⟨v, rfl, hO, hb2⟩
      obtain ⟨a, c, rfl⟩ := owns_shape hO
      have hA1 := (Below.refl w2.heap.size w2).alloc (Nat.le_refl _) (.cells #[.int .i64 0, .int .i64 0] 25)
      have hr1 : PRow (w2.alloc (.cells #[.int .i64 0, .int .i64 0] 25)) (.slice a y.ps.length c) y.ps := by
        have := PRow.of_owns hO
        exact this.stay hA1 (Nat.le_refl _)
      have hW : Below w.heap.size w (w2.alloc (.cells #[.int .i64 0, .int .i64 0] 25)) := (H1.out.trans (hb2.mono H1.out.size)).trans (hA1.mono (by have := H1.out.size; have := hb2.size; omega))
      have hbu := build_any _ _ y.ps u sp _ hr1 (HSP.out.stay hW (Nat.le_refl _)) (by rw [HY.out.2.1]; omega) HY.out.2.2 hu
      rw [HY.out.1, bst_data] at hbu
      have HB := hideT hbu
      have hf1 := heap_alloc_new w2 (.cells #[.int .i64 0, .int .i64 0] 25)
      have H2 := hideT (And.intro hW (And.intro hf1 (And.intro (World.size_alloc w2 (.cells #[.int .i64 0, .int .i64 0] 25)) hb2.size)))
      clear hO hb2 hA1 hr1 hW hbu hf1
      go_wp2_with fail
      refine HB.out.mono ?_
      rintro e w3 ⟨rfl, hb3⟩
      have f3 := (hb3.block w2.heap.size (by rw [H2.out.2.2.1]; omega)).trans H2.out.2.1
      have u0 : w3.cell? ⟨w2.heap.size, 0, none⟩ = some (.int .i64 0) := by simp [World.cell?, f3]
      have H3 := hideT (And.intro (H2.out.1.trans (hb3.mono H2.out.1.size)) (And.intro f3 (show w2.heap.size < w3.heap.size by have := hb3.size; rw [H2.out.2.2.1] at this; omega)))
      clear f3 hb3
      have hp4 := parse_any ⟨#[60, 38, 62]⟩ (by decide) w3
      rw [show (⟨#[60, 38, 62]⟩ : ByteArray).data.toList = [60, 38, 62] from rfl, ma_parse] at hp4
      have HP4 := hideT hp4
      clear hp4
      go_wp2_with fail
      refine HP4.out.mono ?_
      rintro e w4 ⟨v4, rfl, hO4, hb4⟩
      obtain ⟨a4, c4, rfl⟩ := owns_shape hO4
      have f4 := (hb4.block w2.heap.size H3.out.2.2).trans H3.out.2.1
      have v0 : w4.cell? ⟨w2.heap.size, 0, none⟩ = some (.int .i64 0) := by simp [World.cell?, f4]
      have v1 : w4.cell? ⟨w2.heap.size, 1, none⟩ = some (.int .i64 0) := by simp [World.cell?, f4]
      have g0 : w4.frozen? ⟨w2.heap.size, 0, none⟩ = false := by simp [World.frozen?, f4]
      have g1 : w4.frozen? ⟨w2.heap.size, 1, none⟩ = false := by simp [World.frozen?, f4]
      have hx4 := put2 f4 (.int .i64 0) (.int .i64 0)
      have ho4 := owns_put2 hO4 f4 (by decide) (.int .i64 0) (.int .i64 0)
      have hw24 : w.heap.size ≤ w2.heap.size := Nat.le_trans H1.out.size H2.out.2.2.2
      have hbx : Below w.heap.size w ((w4.setCell ⟨w2.heap.size, 0, none⟩ (.int .i64 0)).setCell ⟨w2.heap.size, 1, none⟩ (.int .i64 0)) := ((H3.out.1.trans (hb4.mono H3.out.1.size)).setCell (p := ⟨w2.heap.size, 0, none⟩) hw24 (.int .i64 0)).setCell (p := ⟨w2.heap.size, 1, none⟩) hw24 (.int .i64 0)
      have hxs : ((w4.setCell ⟨w2.heap.size, 0, none⟩ (.int .i64 0)).setCell ⟨w2.heap.size, 1, none⟩ (.int .i64 0)).heap.size = w4.heap.size := by simp
      clear u0
      go_wp2_with fail
      generalize hX : (w4.setCell ⟨w2.heap.size, 0, none⟩ (.int .i64 0)).setCell ⟨w2.heap.size, 1, none⟩ (.int .i64 0) = X at *
      clear hX v0 v1 g0 g1 f4 hb4 hO4
      have hA5 := (Below.refl X.heap.size X).alloc (Nat.le_refl _) (.cells #[.int .i64 0, .int .i64 (n : Int)] 45)
      have hN5 := new_cell X [.int .i64 0, .int .i64 (n : Int)] 45
      rw [hxs] at hN5
      have hS5 : SRow (X.alloc (.cells #[.int .i64 0, .int .i64 (n : Int)] 45)) (.slice (some ⟨w4.heap.size, 0, none⟩) 1 1) [(0, (n : Int))] := .inr ⟨_, 0, 1, rfl, fun i hi => by
        match i, hi with
        | 0, _ => exact ⟨hN5 0 _ rfl, hN5 1 _ rfl⟩⟩
      have hbu5 := build_any _ _ maP u [(0, (n : Int))] _ ((PRow.of_owns ho4).stay hA5 (Nat.le_refl _)) hS5 (by decide) (by decide) hu
      rw [ma_build u.data.toList n hn3 hn2] at hbu5
      have heq : bst ([60] ++ u.data.toList.take n ++ [62]) = (⟨#[60]⟩ : ByteArray) ++ u.extract 0 n ++ ⟨#[62]⟩ := by
        rw [ext_part u 0 n, List.drop_zero, Nat.sub_zero, ← bst_app, ← bst_app]
        rfl
      simp only [heq] at hbu5
      have hus : (u.extract 0 n).size ≤ 300 := by rw [ByteArray.size_extract]; omega
      have H5 := hideT (And.intro (hbx.trans (hA5.mono hbx.size)) (And.intro hx4 (And.intro hA5 (show w2.heap.size < X.heap.size by exact (Array.getElem?_eq_some_iff.1 hx4).1))))
      refine hbu5.mono ?_
      rintro e w5 ⟨rfl, hb5⟩
      have f5 := (hb5.block w2.heap.size (Nat.lt_of_lt_of_le H5.out.2.2.2 H5.out.2.2.1.size)).trans ((H5.out.2.2.1.block _ H5.out.2.2.2).trans H5.out.2.1)
      have t0 : w5.cell? ⟨w2.heap.size, 0, none⟩ = some (.int .i64 0) := by simp [World.cell?, f5]
      have H6 := hideT (H5.out.1.trans (hb5.mono H5.out.1.size))
      clear f5 hb5 hbu5 hbx hA5 hx4 hN5 hS5 ho4 hxs heq
      go_wp2
      go_ret
      exact ⟨rfl, H6.out⟩

end Go.Proofs.Ytbncokfpkkmoiaa
