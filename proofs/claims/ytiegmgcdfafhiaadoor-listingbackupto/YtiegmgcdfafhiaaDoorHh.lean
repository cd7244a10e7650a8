/- listing: Same; the document's Lines. -/
import Derived.Test.YtiegmgcdfafhiaaDoorHf
import Derived.Test.YtiegmgcdfafhiaaDoorHc
namespace Go.Proofs.YtiegmgcdfafhiaaDoor
open Go.RowKit

/-- The slice v reads as the texts l. -/
def Row (W : World) (v : Value) (l : List (List UInt8)) : Prop :=
  (l = [] ∧ ∃ p c, v = .slice p 0 c) ∨ (∃ g off c, v = .slice (some ⟨g, off, none⟩) l.length c ∧ ∀ i (h : i < l.length), W.cell? ⟨g, off + i, none⟩ = some (.string (bst l[i])))

theorem Row.shape {W : World} {v : Value} {l : List (List UInt8)} (h : Row W v l) : ∃ p c, v = .slice p l.length c := by
  rcases h with ⟨rfl, p, c, rfl⟩ | ⟨g, off, c, rfl, -⟩
  · exact ⟨p, c, rfl⟩
  · exact ⟨_, c, rfl⟩

theorem Row.below {W W' : World} {v : Value} {l : List (List UInt8)} (h : Row W v l) {B : Nat} (hb : Below B W W') (hv : ∀ k, v.ownBlock = some k → k < B) : Row W' v l := by
  rcases h with ⟨rfl, p, c, rfl⟩ | ⟨g, off, c, rfl, hc⟩
  · exact .inl ⟨rfl, p, c, rfl⟩
  · refine .inr ⟨g, off, c, rfl, fun i hi => ?_⟩
    rw [← hc i hi]
    exact hb.cell (p := ⟨g, off + i, none⟩) (hv g rfl)

theorem Row.of_owns {W : World} {base : Nat} {v : Value} {l : List (List UInt8)} (h : W.ownsRow base 9 1 v l.length (stV l)) : Row W v l := by
  rcases h.2 with ⟨rfl, h0⟩ | ⟨g, cap, cur, rfl, hg, hh, hrest⟩
  · exact .inl ⟨List.eq_nil_of_length_eq_zero h0, none, 0, rfl⟩
  · refine .inr ⟨g, 0, cap, rfl, fun i hi => ?_⟩
    have h2 := h.cells (g := g) rfl i (.string (bst l[i])) (by simp [stV, List.getElem?_eq_getElem hi])
    have hplain : (⟨g, 0, none⟩ : Addr).add i = ⟨g, 0 + i, none⟩ := by unfold Addr.add; split <;> simp_all
    rwa [hplain] at h2

theorem bst_toList (l : List UInt8) : (bst l).toList = l := by rw [Lib.toList_data]; rfl

set_option maxRecDepth 100000 in
set_option maxHeartbeats 1000000 in
theorem same_any (a b : Value) (l m : List (List UInt8)) (w : World) (ha : Row w a l) (hb : Row w b m) (hl : l.length ≤ 1073741824) (hm : m.length ≤ 1073741824) :
    Calls Tryd.prog 13 #[a, b] w fun e w' => e = .returned (.bool (decide (l = m))) ∧ Below w.heap.size w w' := by
  obtain ⟨pa, ca, rfl⟩ := ha.shape
  obtain ⟨pb, cb, rfl⟩ := hb.shape
  by_cases hlen : l.length = m.length
  · go_enter Tryd.func13, Tryd.ntmps13
    go_wp2_with fail
    go_loopw [5] (fun i wr => ∃ k : Nat, k ≤ l.length ∧ i = .int .i64 k ∧ Hid (l.take k = m.take k) ∧ Below w.heap.size w wr) (fun i _ => l.length - (intOf i).toNat)
    case atStart => exact ⟨0, by omega, rfl, by simp [Hid], Below.refl _ _⟩
    case round =>
      obtain ⟨k, hk, rfl, HT, hB⟩ := hrel
      by_cases hlt : k < l.length
      · rcases ha with ⟨rfl, -⟩ | ⟨g, off, c, e1, ha⟩
        · simp at hlt
        rcases hb with ⟨rfl, -⟩ | ⟨g2, off2, c2, e2, hb⟩
        · rw [hlen] at hlt; simp at hlt
        cases e1
        cases e2
        have hlt2 : k < m.length := by omega
        have h1 := (hB.cell (p := ⟨g, off + k, none⟩) (cell_lt (ha k hlt))).trans (ha k hlt)
        have h2 := (hB.cell (p := ⟨g2, off2 + k, none⟩) (cell_lt (hb k hlt2))).trans (hb k hlt2)
        go_wp2_with fail
        go_region
        go_wp2
        · have hq : (!(bst l[k]).toList == (bst m[k]).toList) = true := by assumption
          rw [bst_toList, bst_toList] at hq
          have hne : ¬ l = m := by
            intro e
            subst e
            simp at hq
          go_ret
          exact ⟨by simp [hne], hB.drew⟩
        · have hq : (!(bst l[k]).toList == (bst m[k]).toList) = false := by assumption
          rw [bst_toList, bst_toList] at hq
          have hk2 : l[k] = m[k] := by simpa using hq
          refine ⟨⟨k + 1, by omega, by go_num, ?_, hB.drew⟩, by simp [intOf]; omega⟩
          show _ = _
          rw [List.take_succ_eq_append_getElem hlt, List.take_succ_eq_append_getElem hlt2, HT.out, hk2]
      · obtain rfl : k = l.length := by omega
        have e : l = m := by
          have h := HT.out
          rw [List.take_length, List.take_of_length_le (by omega)] at h
          exact h
        subst e
        go_wp2
        go_ret
        exact ⟨by simp, hB⟩
  · have hne : ¬ l = m := fun e => hlen (by rw [e])
    go_enter Tryd.func13, Tryd.ntmps13
    go_wp2
    go_ret
    exact ⟨by simp [hne], Below.refl _ _⟩

/-- What a slice reads as stays, where nothing old is changed. -/
theorem Row.stay {W W' : World} {v : Value} {l : List (List UInt8)} (h : Row W v l) {B : Nat} (hb : Below B W W') (hB : W.heap.size ≤ B) : Row W' v l := by
  rcases h with ⟨rfl, p, c, rfl⟩ | ⟨g, off, c, rfl, hc⟩
  · exact .inl ⟨rfl, p, c, rfl⟩
  · refine .inr ⟨g, off, c, rfl, fun i hi => ?_⟩
    have h1 := hc i hi
    rw [← h1]
    exact hb.cell (p := ⟨g, off + i, none⟩) (Nat.lt_of_lt_of_le (cell_lt h1) hB)

set_option maxRecDepth 100000 in
set_option maxHeartbeats 2000000 in
theorem docLines_any (s : ByteArray) (hs : s.size ≤ 1073741824) (w : World) :
    Calls Tryd.prog 15 #[.string s] w fun e w' => ∃ v, e = .returned v ∧ w'.ownsRow w.heap.size 9 1 v (linesL s.data.toList).length (stV (linesL s.data.toList)) ∧ Below w.heap.size w w' := by
  have hlen : s.data.toList.length = s.size := rfl
  obtain ⟨i0, hi, hz0, hz1, hz2⟩ := info_parts strs_info
  have hcnt := lines_len s.data.toList
  generalize hR : linesL s.data.toList = R at *
  have HR := hideT hR
  clear hR
  go_enter Tryd.func15, Tryd.ntmps15
  go_wp2_with fail
  go_loopw [3, 4, 5] (fun v ls i wr => ∃ (k : Nat) (done : List (List UInt8)) (line : List UInt8), k ≤ s.size ∧ i = .int .i64 k ∧ ls = .string (bst line) ∧ wr.ownsRow w.heap.size 9 1 v done.length (stV done) ∧ Below w.heap.size w wr ∧ Hid (R = done ++ lnR (s.data.toList.drop k) line) ∧ line.length ≤ 69) (fun _ _ i _ => s.size - (intOf i).toNat)
  case atStart => exact ⟨0, [], [], by omega, rfl, rfl, World.ownsRow_nil _ _ _ _, Below.refl _ _, hideT (by rw [← HR.out]; simp [linesL]), by simp⟩
  case round =>
    obtain ⟨k, done, line, hk, rfl, rfl, hO, hB, HQ, hl⟩ := hrel
    have hdl : done.length ≤ R.length := by rw [HQ.out]; simp
    have HO := hideT (And.intro hO hB)
    obtain ⟨va, vc, rfl⟩ := owns_shape hO
    clear hO hB
    have hls : (bst line).size = line.length := bst_size line
    by_cases hlt : k < s.size
    · have i1 : (k : Int) < (s.size : Int) := by omega
      have i2 : (0 : Int) ≤ (k : Int) := by omega
      have hq := HQ.out
      rw [drop_at s k hlt] at hq
      have hel := escB_len (s[k]'hlt)
      have hes : (bst (escB (s[k]'hlt))).size = (escB (s[k]'hlt)).length := bst_size _
      have HE := hideT (docEscape_any (s[k]'hlt) wr)
      by_cases hbig : 69 < line.length + (escB (s[k]'hlt)).length
      · rw [lnR_big _ _ _ hbig] at hq
        have HU := hideT (show R = (done ++ [line ++ [92]]) ++ lnR (s.data.toList.drop (k + 1)) (escB (s[k]'hlt)) by rw [hq]; simp)
        have x1 : bst line ++ (⟨#[92]⟩ : ByteArray) = bst (line ++ [92]) := bst_app line [92]
        have x2 : (⟨#[]⟩ : ByteArray) ++ bst (escB (s[k]'hlt)) = bst (escB (s[k]'hlt)) := bst_app [] _
        have g1 : (69 : Int) < ((bst line).size : Int) + ((bst (escB (s[k]'hlt))).size : Int) := by omega
        have q1 : (9223372036854775807 < (bst line).size + 1) = False := by rw [eq_iff_iff, iff_false]; omega
        have q2 : (9223372036854775807 < (bst (escB (s[k]'hlt))).size) = False := by rw [eq_iff_iff, iff_false]; omega
        have q3 : (9223372036854775807 < 0 + (bst (escB (s[k]'hlt))).size) = False := by rw [eq_iff_iff, iff_false]; omega
        have j1 : ((bst line).size : Int) ≤ 69 := by omega
        have j2 : ((bst (escB (s[k]'hlt))).size : Int) ≤ 4 := by omega
        clear hq hls hes HQ
        generalize hes : bst (escB (s[k]'hlt)) = es at *
        have HES := hideT hes
        generalize bst line = sl at *
        generalize hl1 : bst (line ++ [92]) = l1 at *
        have HL1 := hideT hl1
        clear hes hl1
        go_wp2_with fail
        refine HE.out.mono ?_
        rintro e w1 ⟨rfl, hb1⟩
        have HB := hideT (And.intro (owns_below HO.out.1 hb1) (HO.out.2.trans (hb1.mono HO.out.2.size)))
        clear hb1
        have HA := hideT ((Below.refl w1.heap.size w1).alloc (Nat.le_refl _) (.cells #[.string l1] 9))
        have HN := hideT (new_cells w1 [.string l1] 9)
        go_wp2_with (at_builtin; refine wpList_append_lies _ rfl _ _ 22 rfl w.heap.size 9 i0 _ 1 16 Tryd.underlying22 hi hz0 hz1 hz2 rfl (by omega) (.slice va done.length vc) done.length (stV done) rfl (owns_below HB.out.1 HA.out) ⟨w1.heap.size, 0, none⟩ 1 1 [.string l1] rfl rfl (fun j u hj => HN.out j u hj) (by simp [Value.oneCell']) (by omega) (by unfold maxLen; omega) (by omega) (by have := HB.out.2.size; simp; omega) _ rfl ?_)
        intro g gc w2 hown' hgrow hat hglt
        have HF := hideT (And.intro hown' ((HB.out.2.trans (HA.out.mono HB.out.2.size)).grown hgrow (by have := HB.out.2.size; have := HA.out.size; omega) (fun k hk => (HB.out.1.lt k hk).1)))
        clear hown' hgrow hat hglt
        go_wp2
        refine ⟨⟨k + 1, done ++ [line ++ [92]], escB (s[k]'hlt), by omega, by go_num, by rw [HES.out], ?_, HF.out.2, HU, by omega⟩, by simp [intOf]; omega⟩
        rw [stV_app, List.length_append]
        have h := HF.out.1
        rw [← HL1.out] at h
        exact h
      · rw [lnR_fit _ _ _ hbig] at hq
        have HU := hideT hq
        have x1 : bst line ++ bst (escB (s[k]'hlt)) = bst (line ++ escB (s[k]'hlt)) := bst_app _ _
        have g1 : ((69 : Int) < ((bst line).size : Int) + ((bst (escB (s[k]'hlt))).size : Int)) = False := by rw [eq_iff_iff, iff_false]; omega
        have q1 : (9223372036854775807 < (bst line).size + (bst (escB (s[k]'hlt))).size) = False := by rw [eq_iff_iff, iff_false]; omega
        have j1 : ((bst line).size : Int) ≤ 69 := by omega
        have j2 : ((bst (escB (s[k]'hlt))).size : Int) ≤ 4 := by omega
        clear hq hls hes HQ
        generalize bst (escB (s[k]'hlt)) = es at *
        generalize bst line = sl at *
        generalize hl1 : bst (line ++ escB (s[k]'hlt)) = l1 at *
        have HL1 := hideT hl1
        clear hl1
        go_wp2_with fail
        refine HE.out.mono ?_
        rintro e w1 ⟨rfl, hb1⟩
        have HB := hideT (And.intro (owns_below HO.out.1 hb1) (HO.out.2.trans (hb1.mono HO.out.2.size)))
        clear hb1
        go_wp2
        exact ⟨⟨k + 1, done, line ++ escB (s[k]'hlt), by omega, by go_num, by rw [HL1.out], HB.out.1, HB.out.2, HU, by rw [List.length_append]; omega⟩, by simp [intOf]; omega⟩
    · have i1 : ((k : Int) < (s.size : Int)) = False := by rw [eq_iff_iff, iff_false]; omega
      have hq := HQ.out
      rw [show s.data.toList.drop k = [] by rw [List.drop_eq_nil_iff, hlen]; omega, lnR_end] at hq
      have HU := hideT hq
      have x1 : bst line ++ (⟨#[36]⟩ : ByteArray) = bst (line ++ [36]) := bst_app line [36]
      have q1 : (9223372036854775807 < (bst line).size + 1) = False := by rw [eq_iff_iff, iff_false]; omega
      clear hq hls HQ
      generalize bst line = sl at *
      generalize hl1 : bst (line ++ [36]) = l1 at *
      have HL1 := hideT hl1
      clear hl1
      have HA := hideT ((Below.refl wr.heap.size wr).alloc (Nat.le_refl _) (.cells #[.string l1] 9))
      have HN := hideT (new_cells wr [.string l1] 9)
      go_wp2_with (at_builtin; refine wpList_append_lies _ rfl _ _ 22 rfl w.heap.size 9 i0 _ 1 16 Tryd.underlying22 hi hz0 hz1 hz2 rfl (by omega) (.slice va done.length vc) done.length (stV done) rfl (owns_below HO.out.1 HA.out) ⟨wr.heap.size, 0, none⟩ 1 1 [.string l1] rfl rfl (fun j u hj => HN.out j u hj) (by simp [Value.oneCell']) (by omega) (by unfold maxLen; omega) (by omega) (by have := HO.out.2.size; simp; omega) _ rfl ?_)
      intro g gc w2 hown' hgrow hat hglt
      have HF := hideT (And.intro hown' ((HO.out.2.trans (HA.out.mono HO.out.2.size)).grown hgrow (by have := HO.out.2.size; have := HA.out.size; omega) (fun k hk => (HO.out.1.lt k hk).1)))
      clear hown' hgrow hat hglt
      go_wp2
      go_ret
      refine ⟨_, rfl, ?_, HF.out.2⟩
      have h := HF.out.1
      rw [← HL1.out] at h
      rw [HU.out, stV_app, List.length_append]
      exact h

end Go.Proofs.YtiegmgcdfafhiaaDoor
