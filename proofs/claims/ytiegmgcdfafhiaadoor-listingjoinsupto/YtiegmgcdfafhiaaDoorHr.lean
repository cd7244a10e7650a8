/- listing: the document's Read; the walk of ListingReads. -/
import Derived.Test.YtiegmgcdfafhiaaDoorHq
import Derived.Test.YtiegmgcdfafhiaaDoorHm
namespace Go.Proofs.YtiegmgcdfafhiaaDoor
open Go.RowKit

def allL (l : List (List UInt8)) : List UInt8 := (l.map fun x => x.dropLast).flatten
theorem all_at (l : List (List UInt8)) (k : Nat) (h : k < l.length) : allL (l.take (k + 1)) = allL (l.take k) ++ (l[k]).dropLast := by
  rw [List.take_succ_eq_append_getElem h]
  unfold allL
  simp only [List.map_append, List.flatten_append, List.map_cons, List.map_nil, List.flatten_cons, List.flatten_nil, List.append_nil]
theorem all_lines (t : List UInt8) : allL (linesL t) = escT t := lines_esc t
theorem read_empty {l : List (List UInt8)} (h : [] ∈ l) : readR l = ([], 19) := read_none fun t e => by
  subst e
  obtain ⟨i, hi, e⟩ := List.mem_iff_getElem.1 h
  have h1 := lines_ok t i [] (by rw [List.getElem?_eq_getElem hi, e])
  have h2 := h1.2.2
  simp at h2
theorem read_bad {l : List (List UInt8)} (h : plR (allL l) [] = none) : readR l = ([], 19) := read_none fun t e => by
  subst e
  rw [all_lines, pl_all] at h
  cases h
theorem read_ok {l : List (List UInt8)} {t : List UInt8} (h : linesL t = l) : readR l = (t, 0) := by
  subst h
  exact read_lines t
theorem read_ne {l : List (List UInt8)} {t : List UInt8} (h : plR (allL l) [] = some t) (hne : linesL t ≠ l) : readR l = ([], 19) := read_none fun u e => by
  subst e
  rw [all_lines, pl_all] at h
  have h2 := Option.some.inj h
  simp at h2
  exact hne (by rw [h2])
theorem pl_len : ∀ (n : Nat) (l acc r : List UInt8), l.length ≤ n → plR l acc = some r → r.length ≤ acc.length + l.length
  | n, [], acc, r, _, h => by
    rw [pl_nil] at h
    cases h
    simp
  | 0, x :: l, acc, r, hn, h => by simp at hn
  | n + 1, x :: l, acc, r, hn, h => by
    simp only [List.length_cons] at hn ⊢
    by_cases h1 : x.toNat = 92
    · match l with
      | [] => rw [pl_end x acc h1] at h; cases h
      | y :: q =>
        by_cases h2 : 0 ≤ letR y
        · rw [pl_let x y q acc h1 h2] at h
          have := pl_len n q _ r (by simp at hn; omega) h
          simp at this ⊢
          omega
        · match q with
          | [] => rw [pl_short x y [] acc h1 h2 (by simp)] at h; cases h
          | [z] => rw [pl_short x y [z] acc h1 h2 (by simp)] at h; cases h
          | z :: v :: q' =>
            rw [pl_oct x y z v q' acc h1 h2] at h
            cases ho : octN y z v with
            | none => rw [ho] at h; cases h
            | some m =>
              rw [ho] at h
              have := pl_len n q' _ r (by simp at hn; omega) h
              simp at this ⊢
              omega
    · rw [pl_one x l acc h1] at h
      have := pl_len n l _ r (by omega) h
      simp at this
      omega
theorem all_len (l : List (List UInt8)) : (allL l).length ≤ totL l := by
  induction l with
  | nil => simp [allL]
  | cons x r ih =>
    have h2 : (allL (x :: r)).length = (x.length - 1) + (allL r).length := by simp [allL]
    have h3 : totL (x :: r) = x.length + totL r := by simp [totL]
    omega

set_option maxRecDepth 100000 in
set_option maxHeartbeats 4000000 in
theorem docRead_any (v : Value) (l : List (List UInt8)) (w : World) (hv : Row w v l) (hn : l.length ≤ 1073741824) (ht : totL l ≤ 1073741823) :
    Calls Tryd.prog 17 #[v] w fun e w' => e = .returned (.tuple #[.string (bst (readR l).1), .int .i64 ((readR l).2 : Nat)]) ∧ Below w.heap.size w w' := by
  have HV := hideT hv
  obtain ⟨pv, cv, rfl⟩ := hv.shape
  generalize hR : readR l = R
  have HR := hideT hR
  clear hR
  go_enter Tryd.func17, Tryd.ntmps17
  go_wp2_with fail
  go_loopw [4, 5] (fun av i wr => ∃ (k : Nat) (A : ByteArray), k ≤ l.length ∧ i = .int .i64 k ∧ av = .string A ∧ Hid (A.data.toList = allL (l.take k)) ∧ A.size ≤ totL (l.take k) ∧ Below w.heap.size w wr) (fun _ i _ => l.length - (intOf i).toNat)
  case atStart => exact ⟨0, ⟨#[]⟩, by omega, rfl, rfl, hideT (by simp [allL]), by show (0 : Nat) ≤ _; omega, Below.refl _ _⟩
  case round =>
    obtain ⟨k, A, hk, rfl, rfl, HA, hal, hB⟩ := hrel
    by_cases hlt : k < l.length
    · have i1 : (k : Int) < (l.length : Int) := by omega
      have i2 : (0 : Int) ≤ (k : Int) := by omega
      rcases hv with ⟨rfl, -⟩ | ⟨gb, off, c, e1, ha⟩
      · simp at hlt
      cases e1
      have a1 := ha k hlt
      have c1 := (hB.cell (p := ⟨gb, off + k, none⟩) (cell_lt a1)).trans a1
      have hta := tot_at l k hlt
      have htt := tot_take l (k + 1)
      have haa := all_at l k hlt
      obtain ⟨ls, hls⟩ : ∃ ls, bst l[k] = ls := ⟨_, rfl⟩
      have hlz : ls.size = (l[k]).length := by rw [← hls, bst_size]
      have hlw : ls.data.toList = l[k] := by rw [← hls, bst_list]
      rw [hls] at c1
      have HB := hideT hB
      by_cases h0 : ls.size = 0
      · have e0 : ((ls.size : Int) == 0) = true := by rw [beq_iff_eq]; omega
        have HE := hideT (show R = ([], 19) from HR.out.symm.trans (read_empty (by
          have : l[k] = [] := List.eq_nil_of_length_eq_zero (by omega)
          rw [← this]
          exact List.getElem_mem hlt)))
        clear ha a1 hta htt haa hls hlz hlw hal hB h0
        go_wp2
        go_ret2
        exact ⟨by rw [HE.out]; rfl, HB.out⟩
      · have e0 : ((ls.size : Int) == 0) = false := by rw [beq_eq_false_iff_ne]; omega
        have i3 : (0 : Int) ≤ (ls.size : Int) - 1 := by omega
        have i4 : (ls.size : Int) - 1 ≤ (ls.size : Int) := by omega
        have i5 : (ls.size : Int) ≤ 1073741824 := by omega
        have hef := ext_front ls
        have hes : (ls.extract 0 (ls.size - 1)).size = ls.size - 1 := by rw [ByteArray.size_extract]; omega
        have hcast : (ls.size : Int) - 1 = ((ls.size - 1 : Nat) : Int) := by omega
        obtain ⟨r0, hr0⟩ : ∃ r0, ls.extract 0 (ls.size - 1) = r0 := ⟨_, rfl⟩
        have hr1 : ls.extract 0 ((ls.size : Int) - 1).toNat = r0 := by rw [hcast, Int.toNat_natCast]; exact hr0
        rw [hr0] at hef hes
        obtain ⟨A2, hA2⟩ : ∃ A2, A ++ r0 = A2 := ⟨_, rfl⟩
        have q1 : (9223372036854775807 < A.size + r0.size) = False := by rw [eq_iff_iff, iff_false]; omega
        have HZ := hideT (show A2.data.toList = allL (l.take (k + 1)) by rw [← hA2, ByteArray.data_append, Array.toList_append, HA.out, hef, hlw, haa])
        have HZ2 := hideT (show A2.size ≤ totL (l.take (k + 1)) by rw [← hA2, ByteArray.size_append]; omega)
        clear ha a1 hta htt haa hls hlz hlw hal hB hef hes hcast h0
        go_wp2
        exact ⟨⟨k + 1, A2, by omega, by go_num, rfl, HZ, HZ2.out, HB.out⟩, by simp [intOf]; omega⟩
    · obtain rfl : k = l.length := by omega
      have i1 : (((l.length : Nat) : Int) < (l.length : Int)) = False := by simp
      rw [List.take_length] at HA hal
      have HP := hideT (plain_any A (by omega) wr)
      have HB := hideT hB
      clear hB
      rw [HA.out] at HP
      cases hp : plR (allL l) [] with
      | none =>
        rw [hp] at HP
        have HE := hideT (show R = ([], 19) from HR.out.symm.trans (read_bad hp))
        clear hp
        go_wp2_with fail
        refine HP.out.mono ?_
        rintro e w1 ⟨rfl, hb1⟩
        rw [show plV none = .tuple #[.string ⟨#[]⟩, .bool false] from rfl]
        have HB2 := hideT (HB.out.trans (hb1.mono HB.out.size))
        clear hb1
        go_wp2
        go_ret2
        exact ⟨by rw [HE.out]; rfl, HB2.out⟩
      | some t =>
        rw [hp] at HP
        have htl := pl_len _ _ _ _ (Nat.le_refl _) hp
        have hall := all_len l
        simp only [List.length_nil] at htl
        have hln := fun w => docLines_any (bst t) (by rw [bst_size]; omega) w
        rw [bst_list] at hln
        have hll := lines_len t
        have HL := hideT hln
        have HPP := hideT hp
        clear hln hp
        obtain ⟨bt, hbt⟩ : ∃ bt, bt = bst t := ⟨_, rfl⟩
        rw [show plV (some t) = .tuple #[.string (bst t), .bool true] from rfl, ← hbt] at HP
        rw [← hbt] at HL
        have HBT := hideT hbt
        clear hbt
        go_wp2_with fail
        refine HP.out.mono ?_
        rintro e w1 ⟨rfl, hb1⟩
        have HB2 := hideT (HB.out.trans (hb1.mono HB.out.size))
        clear hb1
        go_wp2_with fail
        refine (HL.out _).mono ?_
        rintro e w2 ⟨v2, rfl, hO2, hb2⟩
        obtain ⟨a2, c2, rfl⟩ := owns_shape hO2
        have HB3 := hideT (HB2.out.trans (hb2.mono HB2.out.size))
        have hrow2 := Row.of_owns hO2
        have hrow1 := HV.out.stay HB3.out (Nat.le_refl _)
        clear hO2 hb2 hv
        by_cases hlen : (linesL t).length = l.length
        · have e1 : (((linesL t).length : Int) != (l.length : Int)) = false := by rw [bne_eq_false_iff_eq]; omega
          have HLN := hideT hlen
          generalize hML : linesL t = ML at *
          have HML := hideT hML
          clear hML hlen
          have HRW := hideT (And.intro hrow2 hrow1)
          clear hrow1 hrow2
          go_wp2_with fail
          go_loopw [10] (fun i wr => ∃ k : Nat, k ≤ l.length ∧ i = .int .i64 k ∧ Hid (ML.take k = l.take k) ∧ Below w2.heap.size w2 wr) (fun i _ => l.length - (intOf i).toNat)
          case atStart => exact ⟨0, by omega, rfl, hideT (by simp), Below.refl _ _⟩
          case round =>
            obtain ⟨k, hk, rfl, HT, hB⟩ := hrel
            by_cases hlt2 : k < l.length
            · have hlt3 : k < ML.length := by rw [HLN.out]; exact hlt2
              have j1 : (k : Int) < (l.length : Int) := by omega
              have j2 : (k : Int) < (ML.length : Int) := by omega
              have j3 : (0 : Int) ≤ (k : Int) := by omega
              obtain ⟨hrow2, hrow1⟩ := HRW.out
              rcases hrow2 with ⟨h, -⟩ | ⟨g1, o1, d1, f1, hr1⟩
              · rw [h] at hlt3; simp at hlt3
              rcases hrow1 with ⟨h, -⟩ | ⟨g2, o2, d2, f2, hr2⟩
              · rw [h] at hlt2; simp at hlt2
              cases f1
              cases f2
              have h1 := (hB.cell (p := ⟨g1, o1 + k, none⟩) (cell_lt (hr1 k hlt3))).trans (hr1 k hlt3)
              have h2 := (hB.cell (p := ⟨g2, o2 + k, none⟩) (cell_lt (hr2 k hlt2))).trans (hr2 k hlt2)
              have hsx := bst_toList ML[k]
              have hsy := bst_toList l[k]
              have HB4 := hideT hB
              clear hB hr1 hr2
              generalize hx : bst ML[k] = sx at *
              generalize hy : bst l[k] = sy at *
              have HXY := hideT (And.intro hsx hsy)
              clear hx hy hsx hsy
              by_cases hq : ML[k] = l[k]
              · have q1 : (sx.toList == sy.toList) = true := by rw [HXY.out.1, HXY.out.2, hq]; simp
                have q2 : (!sx.toList == sy.toList) = false := by rw [q1]; rfl
                have HT2 := hideT (show ML.take (k + 1) = l.take (k + 1) by rw [List.take_succ_eq_append_getElem hlt3, List.take_succ_eq_append_getElem hlt2, HT.out, hq])
                clear hq HT
                go_wp2_with fail
                go_quiet (fail)
                have HX := hideT (HB4.out.trans (below_drewN w2.heap.size wr nq))
                generalize wr.drewN nq = X at *
                go_wp2
                exact ⟨⟨k + 1, by omega, by go_num, HT2, HX.out⟩, by simp [intOf]; omega⟩
              · have q1 : (sx.toList == sy.toList) = false := by rw [HXY.out.1, HXY.out.2, beq_eq_false_iff_ne]; exact hq
                have q2 : (!sx.toList == sy.toList) = true := by rw [q1]; rfl
                have HE := hideT (show R = ([], 19) from HR.out.symm.trans (read_ne HPP.out (fun e => hq (by
                  have e2 : ML = l := HML.out.symm.trans e
                  subst e2
                  rfl))))
                clear hq HT
                go_wp2_with fail
                go_quiet (fail)
                have HX := hideT (HB3.out.trans ((HB4.out.trans (below_drewN w2.heap.size wr nq)).mono HB3.out.size))
                generalize wr.drewN nq = X at *
                go_wp2
                go_ret2
                exact ⟨by rw [HE.out]; rfl, HX.out⟩
            · obtain rfl : k = l.length := by omega
              have j1 : (((l.length : Nat) : Int) < (ML.length : Int)) = False := by rw [eq_iff_iff, iff_false]; have := HLN.out; omega
              have hE : ML = l := by
                have h := HT.out
                rw [List.take_length, List.take_of_length_le (by rw [HLN.out]; omega)] at h
                exact h
              have HE := hideT (show R = (t, 0) from HR.out.symm.trans (read_ok (HML.out.trans hE)))
              have HX := hideT (HB3.out.trans (hB.mono HB3.out.size))
              clear hE hB HT
              go_wp2
              go_ret2
              exact ⟨by rw [HE.out, HBT.out]; rfl, HX.out⟩
        · have e1 : (((linesL t).length : Int) != (l.length : Int)) = true := by rw [bne_iff_ne]; omega
          have HE := hideT (show R = ([], 19) from HR.out.symm.trans (read_ne HPP.out (fun e => hlen (by rw [e]))))
          clear hlen hrow1 hrow2
          go_wp2
          go_ret2
          exact ⟨by rw [HE.out]; rfl, HB3.out⟩

set_option maxRecDepth 100000 in
set_option maxHeartbeats 2000000 in
theorem reads_walk (v : Value) (l : List (List UInt8)) (hv0 : totL l + l.length ≤ 1048576) (w : World) (hg : Glob w) (hv : Row w v l) : Calls Tryd.prog 4 #[v] w fun e w' => e = .returned (.bool true) ∧ Below w.heap.size w w' := by
  have HP := hideT (read_any v l w hv (by omega) (by omega) hg)
  have HD := hideT (fun w1 (h : Row w1 v l) => docRead_any v l w1 h (by omega) (by omega))
  have HV := hideT hv
  have HG := hideT hg
  obtain ⟨pv, cv, rfl⟩ := hv.shape
  clear hv hg
  generalize readR l = R at *
  obtain ⟨x, er⟩ := R
  simp only at HP HD
  generalize bst x = bx at *
  go_enter Tryd.func4, Tryd.ntmps4
  go_wp2_with fail
  refine HP.out.mono ?_
  rintro e w1 ⟨rfl, hb1⟩
  have H1 := hideT hb1
  clear hb1
  go_wp2_with fail
  refine (HD.out _ (HV.out.stay H1.out (Nat.le_refl _))).mono ?_
  rintro e w2 ⟨rfl, hb2⟩
  have H2 := hideT (H1.out.trans (hb2.mono H1.out.size))
  clear hb2
  go_wp2_with fail
  refine (awake_any _ (HG.out.stay H2.out)).mono ?_
  rintro e w3 ⟨rfl, hb3⟩
  have H3 := hideT (H2.out.trans (hb3.mono H2.out.size))
  clear hb3
  go_wp2
  go_ret
  exact ⟨rfl, H3.out⟩

end Go.Proofs.YtiegmgcdfafhiaaDoor
