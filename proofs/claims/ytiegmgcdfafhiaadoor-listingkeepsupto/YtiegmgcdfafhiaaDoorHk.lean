/- listing: meant. -/
import Derived.Test.YtiegmgcdfafhiaaDoorHj
import Derived.Test.YtiegmgcdfafhiaaDoorHh
import Derived.Test.YtiegmgcdfafhiaaDoorBu
namespace Go.Proofs.YtiegmgcdfafhiaaDoor
open Go.RowKit

/-- All bytes of texts. -/
def totL (l : List (List UInt8)) : Nat := (l.map List.length).sum
theorem tot_app (l m : List (List UInt8)) : totL (l ++ m) = totL l + totL m := by simp [totL]
theorem tot_take (l : List (List UInt8)) (k : Nat) : totL (l.take k) ≤ totL l := by
  have h := tot_app (l.take k) (l.drop k)
  rw [List.take_append_drop] at h
  omega
theorem tot_at (l : List (List UInt8)) (k : Nat) (h : k < l.length) : totL (l.take (k + 1)) = totL (l.take k) + (l[k]).length := by
  rw [List.take_succ_eq_append_getElem h, tot_app]
  simp [totL]
theorem mdec_nil : mdec [] = [] := by unfold mdec; simp
theorem mdec_cons (l : List UInt8) (h : l ≠ []) : mdec l = (unesc l).1 :: mdec (l.drop (unesc l).2) := by rw [mdec, dif_neg h]
theorem meant_at (l : List (List UInt8)) (k : Nat) (h : k < l.length) : meantL (l.take (k + 1)) = meantL (l.take k) ++ mdec (l[k]).dropLast := by
  rw [List.take_succ_eq_append_getElem h]
  unfold meantL
  simp only [List.map_append, List.flatten_append, List.map_cons, List.map_nil, List.flatten_cons, List.flatten_nil, List.append_nil]
theorem ext_drop (s : ByteArray) (n : Nat) : (s.extract n s.size).data.toList = s.data.toList.drop n := by
  simp only [ByteArray.data_extract, Array.toList_extract, List.extract_eq_take_drop]
  exact List.take_of_length_le (by simp)
theorem ext_front (s : ByteArray) : (s.extract 0 (s.size - 1)).data.toList = s.data.toList.dropLast := by
  simp only [ByteArray.data_extract, Array.toList_extract, List.extract_eq_take_drop, List.drop_zero, Nat.sub_zero]
  rw [List.dropLast_eq_take]
  rfl

set_option maxRecDepth 100000 in
set_option maxHeartbeats 4000000 in
theorem meant_any (v : Value) (l : List (List UInt8)) (w : World) (hv : Row w v l) (hn : l.length ≤ 1073741824) (ht : totL l ≤ 1073741824) (hg : Glob w) :
    Calls Tryd.prog 19 #[v] w fun e w' => e = .returned (.string (bst (meantL l))) ∧ Below w.heap.size w w' := by
  obtain ⟨pv, cv, rfl⟩ := hv.shape
  have hF := Lib.fresh_isBuilder 49 5 w
  have hB0 := (Below.refl w.heap.size w).alloc (Nat.le_refl _) (.cells #[.pointer none, .slice none 0 0] 49)
  have H0 := hideT (And.intro hF hB0)
  have HG := hideT hg
  clear hF hB0 hg
  go_enter Tryd.func19, Tryd.ntmps19
  go_wp2_with fail
  go_loopw [11] (fun i wr => ∃ (k : Nat) (acc : List UInt8), k ≤ l.length ∧ i = .int .i64 k ∧ Hid (meantL (l.take k) = acc) ∧ acc.length ≤ totL (l.take k) ∧ Lib.IsBuilder 49 5 w.heap.size w.heap.size (Lib.byteCells acc) wr ∧ Below w.heap.size w wr) (fun i _ => l.length - (intOf i).toNat)
  case atStart => exact ⟨0, [], by omega, rfl, hideT (by simp [meantL]), by simp, H0.out.1, H0.out.2⟩
  case round =>
    obtain ⟨k, acc, hk, rfl, HA, hal, hI, hB⟩ := hrel
    by_cases hlt : k < l.length
    · have i1 : (k : Int) < (l.length : Int) := by omega
      have i2 : (0 : Int) ≤ (k : Int) := by omega
      rcases hv with ⟨rfl, -⟩ | ⟨gb, off, c, e1, ha⟩
      · simp at hlt
      cases e1
      have a1 := ha k hlt
      have c1 := (hB.cell (p := ⟨gb, off + k, none⟩) (cell_lt a1)).trans a1
      have hta := tot_at l k hlt
      have htt := tot_take l (k + 1)
      have hma := meant_at l k hlt
      have HI := hideT (And.intro hI hB)
      obtain ⟨ls, hls⟩ : ∃ ls, bst l[k] = ls := ⟨_, rfl⟩
      have hlz : ls.size = (l[k]).length := by rw [← hls, bst_size]
      have hlw : ls.data.toList = l[k] := by rw [← hls, bst_list]
      rw [hls] at c1
      rw [HA.out] at hma
      rw [← hlw] at hma
      have HM := hideT hma
      have hmx : max ((ls.size : Int) - 1) 0 = ((ls.size - 1 : Nat) : Int) := by omega
      have i3 : ((ls.size - 1 : Nat) : Int) ≤ (ls.size : Int) := by omega
      have i4 : (0 : Int) ≤ ((ls.size - 1 : Nat) : Int) := by omega
      have i5 : (ls.size : Int) ≤ 1073741824 := by omega
      have hef := ext_front ls
      have hes : (ls.extract 0 (ls.size - 1)).size = ls.size - 1 := by rw [ByteArray.size_extract]; omega
      obtain ⟨r0, hr0⟩ : ∃ r0, ls.extract 0 (ls.size - 1) = r0 := ⟨_, rfl⟩
      rw [hr0] at hef hes
      have HE := hideT (And.intro hef hes)
      have HZ := hideT (And.intro hlz (And.intro hta (And.intro htt hal)))
      clear ha a1 hta htt hma hI hB hls hlz hlw hef hes hal
      go_wp2_with fail
      clear c1 hmx i3 i4 hr0
      go_loopw [6] (fun rv wr => ∃ (r : ByteArray) (done : List UInt8), rv = .string r ∧ Hid (acc ++ mdec ls.data.toList.dropLast = done ++ mdec r.data.toList) ∧ done.length + r.size ≤ totL (l.take (k + 1)) ∧ Lib.IsBuilder 49 5 w.heap.size w.heap.size (Lib.byteCells done) wr ∧ Below w.heap.size w wr) (fun rv _ => match rv with | .string r => r.size | _ => 0)
      case atStart => exact ⟨r0, acc, rfl, hideT (by rw [HE.out.1]), by have h1 := HE.out.2; have h2 := HZ.out; omega, HI.out.1, HI.out.2⟩
      case round =>
        obtain ⟨r, done, rfl, HQ, hdl, hI, hB⟩ := hrel
        have hrl : r.data.toList.length = r.size := rfl
        by_cases hr : r.size = 0
        · have he : r.toList.isEmpty = true := by rw [Lib.toList_data, List.eq_nil_of_length_eq_zero (hrl.trans hr)]; rfl
          have hq := HQ.out
          rw [List.eq_nil_of_length_eq_zero (hrl.trans hr), mdec_nil, List.append_nil] at hq
          have HU := hideT (show meantL (l.take (k + 1)) = done from HM.out.trans hq)
          have HI2 := hideT (And.intro hI hB)
          clear hI hB hq
          go_wp2
          exact ⟨⟨k + 1, done, by omega, by go_num, HU, by omega, HI2.out.1, HI2.out.2⟩, by simp [intOf]; omega⟩
        · have he : r.toList.isEmpty = false := by
            rw [Lib.toList_data]
            cases h : r.data.toList with
            | nil => rw [h] at hrl; simp at hrl; omega
            | cons => rfl
          have htt := HZ.out.2.2.1
          have hnn : r.data.toList ≠ [] := fun e => by rw [e] at hrl; simp at hrl; omega
          have hup := unesc_pos r.data.toList
          have hul := unesc_le r.data.toList hnn
          rw [hrl] at hul
          have hq := HQ.out
          rw [mdec_cons _ hnn] at hq
          have HUN := hideT (unescape_any r (by omega) hr wr (HG.out.stay hB))
          have hxd := ext_drop r (unesc r.data.toList).2
          have hxs : (r.extract (unesc r.data.toList).2 r.size).size = r.size - (unesc r.data.toList).2 := by rw [ByteArray.size_extract]; omega
          have HI2 := hideT (And.intro hI hB)
          have HQ2 := hideT hq
          clear hI hB hq HQ
          generalize (unesc r.data.toList).1 = ub at *
          generalize (unesc r.data.toList).2 = un at *
          have j1 : (un : Int) ≤ (r.size : Int) := by omega
          have j2 : (0 : Int) ≤ (un : Int) := by omega
          obtain ⟨r2, hr2⟩ : ∃ r2, r.extract un r.size = r2 := ⟨_, rfl⟩
          rw [hr2] at hxd hxs
          have HX := hideT (And.intro hxd hxs)
          clear hxd hxs
          go_wp2_with fail
          refine HUN.out.mono ?_
          rintro e w1 ⟨rfl, hb1⟩
          have HI3 := hideT (And.intro (bu_stay HI2.out.1 hb1) (HI2.out.2.trans (hb1.mono HI2.out.2.size)))
          clear hb1
          go_wp2_with fail
          refine (writeByte_any _ _ _ _ _ HI3.out.1 (by rw [Lib.byteCells_length]; omega) (by have := HI3.out.2.size; omega)).mono ?_
          rintro e w2 ⟨rfl, h2, hb2, -⟩
          have HI4 := hideT (And.intro h2 (HI3.out.2.trans hb2))
          clear h2 hb2
          go_wp2
          refine ⟨⟨r2, done ++ [ub], rfl, hideT (by rw [HQ2.out, HX.out.1]; simp), by rw [HX.out.2, List.length_append]; simp only [List.length_singleton]; omega, .inr ?_, HI4.out.2⟩, by show r2.size < r.size; rw [HX.out.2]; omega⟩
          rw [cells_app]
          exact HI4.out.1
    · obtain rfl : k = l.length := by omega
      have i1 : (((l.length : Nat) : Int) < (l.length : Int)) = False := by simp
      have hq := HA.out
      rw [List.take_length] at hq
      have HI := hideT (And.intro hI hB)
      have HQ := hideT hq
      clear hI hB hq
      go_wp2_with fail
      refine (builderString_any _ _ _ _ HI.out.1 (by have := HI.out.2.size; omega)).mono ?_
      rintro e w1 ⟨rfl, hb1⟩
      have HB := hideT (HI.out.2.trans hb1)
      clear hb1
      go_wp2
      go_ret
      exact ⟨by rw [HQ.out]; rfl, HB.out⟩

end Go.Proofs.YtiegmgcdfafhiaaDoor
