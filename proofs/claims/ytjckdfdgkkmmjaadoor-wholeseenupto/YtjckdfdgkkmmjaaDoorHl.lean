/- listing: Equal of two lists of texts; Read. -/
import Derived.Test.YtjckdfdgkkmmjaaDoorHk
namespace Go.Proofs.YtjckdfdgkkmmjaaDoor
open Go.RowKit

set_option maxRecDepth 100000 in
set_option maxHeartbeats 1000000 in
theorem equal_any (a b : Value) (l m : List (List UInt8)) (w : World) (ha : Row w a l) (hb : Row w b m) (hl : l.length ≤ 1073741824) (hm : m.length ≤ 1073741824) :
    Calls Tryd.prog 9 #[a, b] w fun e w' => e = .returned (.bool (decide (l = m))) ∧ Below w.heap.size w w' := by
  obtain ⟨pa, ca, rfl⟩ := ha.shape
  obtain ⟨pb, cb, rfl⟩ := hb.shape
  by_cases hlen : l.length = m.length
  · go_enter Tryd.func9, Tryd.ntmps9
    go_wp2_with fail
    go_loopw [13] (fun i wr => ∃ k : Nat, k ≤ l.length ∧ i = .int .i64 k ∧ Hid (l.take k = m.take k) ∧ Below w.heap.size w wr) (fun i _ => l.length - (intOf i).toNat)
    case atStart => exact ⟨0, by omega, rfl, by simp [Hid], Below.refl _ _⟩
    case round =>
      obtain ⟨k, hk, rfl, HT, hB⟩ := hrel
      by_cases hlt : k < l.length
      · rcases ha with ⟨rfl, -⟩ | ⟨g, off, c, e1, ha⟩
        · simp at hlt
        rcases hb with ⟨rfl, -⟩ | ⟨g2, off2, c2, e2, hb⟩
        · rw [hlen] at hlt; simp at hlt
        cases e1
        cases e2
        have hlt2 : k < m.length := by omega
        have h1 := (hB.cell (p := ⟨g, off + k, none⟩) (cell_lt (ha k hlt))).trans (ha k hlt)
        have h2 := (hB.cell (p := ⟨g2, off2 + k, none⟩) (cell_lt (hb k hlt2))).trans (hb k hlt2)
        go_wp2_with fail
        go_region
        go_wp2
        · have hq : (!(bst l[k]).toList == (bst m[k]).toList) = true := by assumption
          rw [bst_toList, bst_toList] at hq
          have hne : ¬ l = m := by
            intro e
            subst e
            simp at hq
          go_ret
          exact ⟨by simp [hne], hB.drew⟩
        · have hq : (!(bst l[k]).toList == (bst m[k]).toList) = false := by assumption
          rw [bst_toList, bst_toList] at hq
          have hk2 : l[k] = m[k] := by simpa using hq
          refine ⟨⟨k + 1, by omega, by go_num, ?_, hB.drew⟩, by simp [intOf]; omega⟩
          show _ = _
          rw [List.take_succ_eq_append_getElem hlt, List.take_succ_eq_append_getElem hlt2, HT.out, hk2]
      · obtain rfl : k = l.length := by omega
        have e : l = m := by
          have h := HT.out
          rw [List.take_length, List.take_of_length_le (by omega)] at h
          exact h
        subst e
        go_wp2
        go_ret
        exact ⟨by simp, hB⟩
  · have hne : ¬ l = m := fun e => hlen (by rw [e])
    go_enter Tryd.func9, Tryd.ntmps9
    go_wp2
    go_ret
    exact ⟨by simp [hne], Below.refl _ _⟩


theorem mdec_len : ∀ (n : Nat) (l : List UInt8), l.length ≤ n → (mdec l).length ≤ l.length
  | 0, l, h => by
    have : l = [] := List.eq_nil_of_length_eq_zero (by omega)
    rw [this, mdec_nil]
    exact Nat.le_refl _
  | n + 1, l, h => by
    by_cases hl : l = []
    · rw [hl, mdec_nil]
      exact Nat.le_refl _
    · have h1 := unesc_pos l
      have h2 := unesc_le l hl
      have h3 := mdec_len n (l.drop (unesc l).2) (by rw [List.length_drop]; omega)
      rw [mdec_cons l hl, List.length_cons]
      rw [List.length_drop] at h3
      omega
theorem meant_len (l : List (List UInt8)) : (meantL l).length ≤ totL l := by
  induction l with
  | nil => simp [meantL]
  | cons x r ih =>
    have h1 := mdec_len _ x.dropLast (Nat.le_refl _)
    have h2 : (meantL (x :: r)).length = (mdec x.dropLast).length + (meantL r).length := by simp [meantL]
    have h3 : totL (x :: r) = x.length + totL r := by simp [totL]
    rw [List.length_dropLast] at h1
    omega

set_option maxRecDepth 100000 in
set_option maxHeartbeats 2000000 in
theorem read_any (v : Value) (l : List (List UInt8)) (w : World) (hv : Row w v l) (hn : l.length ≤ 1073741824) (ht : totL l ≤ 1073741823) (hg : Glob w) :
    Calls Tryd.prog 4 #[v] w fun e w' => e = .returned (.tuple #[.string (bst (readR l).1), .int .i64 ((readR l).2 : Nat)]) ∧ Below w.heap.size w w' := by
  have hml := meant_len l
  have hll := lines_len (meantL l)
  have HM := hideT (meant_any v l w hv hn (by omega) hg)
  have hln := fun w => lines_any (bst (meantL l)) (by rw [bst_size]; omega) w
  rw [bst_list] at hln
  have HL := hideT hln
  have HE := hideT (fun a w1 (h1 : Row w1 a (linesL (meantL l))) (h2 : Row w1 v l) => equal_any a v (linesL (meantL l)) l w1 h1 h2 (by omega) hn)
  have HV := hideT hv
  have hR : readR l = if linesL (meantL l) = l then (meantL l, 0) else ([], 19) := rfl
  rw [hR]
  obtain ⟨pv, cv, rfl⟩ := hv.shape
  clear hv hg hln hll hR
  generalize hbm : bst (meantL l) = bm at *
  have HBM := hideT hbm
  clear hbm
  by_cases heq : linesL (meantL l) = l
  · rw [if_pos heq]
    have hdec : decide (linesL (meantL l) = l) = true := decide_eq_true heq
    rw [hdec] at HE
    clear hdec heq
    go_enter Tryd.func4, Tryd.ntmps4
    go_wp2_with fail
    refine HM.out.mono ?_
    rintro e w1 ⟨rfl, hb1⟩
    have H1 := hideT hb1
    clear hb1
    go_wp2_with fail
    refine (HL.out _).mono ?_
    rintro e w2 ⟨v2, rfl, hO2, hb2⟩
    obtain ⟨a2, c2, rfl⟩ := owns_shape hO2
    have H2 := hideT (HE.out _ w2 (Row.of_owns hO2) ((HV.out.stay H1.out (Nat.le_refl _)).stay hb2 (Nat.le_refl _)))
    have H3 := hideT (H1.out.trans (hb2.mono H1.out.size))
    clear hO2 hb2
    go_wp2_with fail
    refine H2.out.mono ?_
    rintro e w3 ⟨rfl, hb3⟩
    have H4 := hideT (H3.out.trans (hb3.mono H3.out.size))
    clear hb3
    go_wp2
    go_ret2
    exact ⟨by rw [HBM.out]; rfl, H4.out⟩
  · rw [if_neg heq]
    have hdec : decide (linesL (meantL l) = l) = false := decide_eq_false heq
    rw [hdec] at HE
    clear hdec heq
    go_enter Tryd.func4, Tryd.ntmps4
    go_wp2_with fail
    refine HM.out.mono ?_
    rintro e w1 ⟨rfl, hb1⟩
    have H1 := hideT hb1
    clear hb1
    go_wp2_with fail
    refine (HL.out _).mono ?_
    rintro e w2 ⟨v2, rfl, hO2, hb2⟩
    obtain ⟨a2, c2, rfl⟩ := owns_shape hO2
    have H2 := hideT (HE.out _ w2 (Row.of_owns hO2) ((HV.out.stay H1.out (Nat.le_refl _)).stay hb2 (Nat.le_refl _)))
    have H3 := hideT (H1.out.trans (hb2.mono H1.out.size))
    clear hO2 hb2
    go_wp2_with fail
    refine H2.out.mono ?_
    rintro e w3 ⟨rfl, hb3⟩
    have H4 := hideT (H3.out.trans (hb3.mono H3.out.size))
    clear hb3
    go_wp2
    go_ret2
    exact ⟨rfl, H4.out⟩

end Go.Proofs.YtjckdfdgkkmmjaaDoor
