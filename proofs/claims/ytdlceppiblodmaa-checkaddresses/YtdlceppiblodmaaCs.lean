/- check: the document's Check, its walk. -/
import Derived.Test.YtdlceppiblodmaaCr
namespace Go.Proofs.Ytdlceppiblodmaa
open Go.RowKit
open chkP

set_option maxRecDepth 100000 in
set_option maxHeartbeats 4000000 in
theorem docCheck_any {W : World} {lv : Value} {l : List (Cm × Rst)} (hr : FRow W lv l) (hl : l.length ≤ 100000000) : Calls Try.prog 8 #[lv] W fun e w' => e = .returned (.tuple #[.int .i64 ((chkR (l.map Prod.fst)).1 : Nat), .int .i64 (chkR (l.map Prod.fst)).2]) ∧ Below W.heap.size W w' := by
  have HCR := hideT hr.crow
  obtain ⟨a, cp, rfl, hrow⟩ := hr
  obtain ⟨L, hL⟩ : ∃ L, L = l.map Prod.fst := ⟨_, rfl⟩
  have HLL := hideT (show L.length = l.length by rw [hL, List.length_map])
  have HLG := hideT (show ∀ k (h : k < l.length) (h' : k < L.length), L[k]'h' = (l[k]'h).1 from fun k h h' => by simp only [hL, List.getElem_map])
  rw [← hL] at HCR ⊢
  clear hL
  obtain ⟨R, hR⟩ : ∃ R, R = chkR L := ⟨_, rfl⟩
  rw [← hR]
  have HR := hideT hR
  have HROW := hideT hrow
  clear hR hrow
  go_enter Try.func8, Try.ntmps8
  go_wp2_with fail
  go_loopw [4, 5] (fun dv v wr => ∃ k d : Nat, k ≤ l.length ∧ d ≤ k ∧ dv = .int .i64 (d : Nat) ∧ v = .int .i64 (k : Nat) ∧ Hid (goR (L.take k) d (L.drop k) = goR [] 0 L) ∧ Hid (Below W.heap.size W wr)) (fun _ v _ => l.length - (intOf v).toNat)
  case atStart => exact ⟨0, 0, Nat.zero_le _, Nat.le_refl _, rfl, rfl, hideT rfl, hideT (Below.refl _ _)⟩
  case round =>
    obtain ⟨k, d, hk, hd, rfl, rfl, HJ, HB⟩ := hrel
    by_cases hlt : k < l.length
    · have i1 : (k : Int) < (l.length : Int) := by omega
      have i2 : (0 : Int) ≤ (k : Int) := by omega
      have hlt' : k < L.length := by rw [HLL.out]; exact hlt
      obtain ⟨g, o, rfl, hrg, hlen⟩ := HROW.out k _ (List.getElem?_eq_getElem hlt)
      have hst : goR (L.take k) d (L.drop k) = if (oneR (L.take k) d (L[k]'hlt')).1 ≠ 0 then .inl ((oneR (L.take k) d (L[k]'hlt')).1, (L[k]'hlt').pl) else goR (L.take (k + 1)) (oneR (L.take k) d (L[k]'hlt')).2 (L.drop (k + 1)) := by
        rw [List.drop_eq_getElem_cons hlt', goR, List.take_succ_eq_append_getElem hlt']
      rw [HLG.out k hlt hlt'] at hst
      generalize (l[k]'hlt) = p at *
      obtain ⟨x, r⟩ := p
      have hrw := range_keep hrg (HB.out.block g (range_lt hrg))
      have HST := hideT hst
      have HRG := hideT hrw
      have HLEN := hideT hlen
      clear hst hrg hrw hlen hlt'
      go_upto_region 5 with fail
      go_wp2_with (first | (refine load_cmd rfl _ rfl g (o + k * 19) rfl x r HRG.out ?_) | (refine store_cmd rfl _ _ rfl wr.heap.size x r rfl rfl zc rfl (heap_alloc_new wr _) ?_))
      intro w1 hblk hbel hfar
      have hb1 := hbel W.heap.size W HB.out.size ((HB.out).alloc HB.out.size _)
      obtain ⟨nb, hnb⟩ : ∃ nb, nb = wr.heap.size := ⟨_, rfl⟩
      have HNB := hideT hnb
      rw [← hnb] at hblk hfar ⊢
      have HBK := hideT hblk
      have HB1 := hideT hb1
      clear hblk hfar hbel hb1 hnb
      go_wp2_with (refine load_cmd rfl _ rfl nb 0 rfl x r (range_block HBK.out) ?_)
      refine (addresses_any x r w1).mono ?_
      rintro e w2 ⟨rfl, hb2⟩
      have hbk2 : w2.heap[nb]? = some (.cells (cmV x r).toArray 27 (0, 0)) := (hb2.block nb (Array.getElem?_eq_some_iff.1 HBK.out).1).trans HBK.out
      have b0 : w2.cell? ⟨nb, 0, none⟩ = some (.int .i64 x.pl) := by have h := range_block hbk2 0 _ rfl; simpa using h
      have b8 : w2.cell? ⟨nb, 8, none⟩ = some (.int .u8 (x.nm.toNat : Nat)) := by have h := range_block hbk2 8 _ rfl; simpa using h
      have b9 : w2.cell? ⟨nb, 9, none⟩ = some (.string ⟨x.lb.toArray⟩) := by have h := range_block hbk2 9 _ rfl; simpa using h
      have HB2 := hideT (HB1.out.trans (hb2.mono HB1.out.size))
      have HIN := hideT (show ∀ y, goR [] 0 L = .inl y → R = y from fun y hy => by rw [HR.out, chkR, hy])
      have dr : (d : Int) ≤ 100000000 := by omega
      clear hb2 hbk2
      by_cases he : adrR x = 0
      · have hone : oneR (L.take k) d x = if x.nm = 123 then (if 16 < d + 1 then (13, d + 1) else (0, d + 1)) else if x.nm = 125 then (if d = 0 then (23, 0) else (0, d - 1)) else if x.nm = 58 ∧ (x.lb = [] ∨ 32 < x.lb.length ∨ labB (L.take k) x.lb = true) then (22, d) else (0, d) := by
          unfold oneR
          rw [if_neg (by rw [he]; simp)]
        rw [he]
        have HON := hideT hone
        clear hone he
        have HFB := hideT (show ∀ ee dd, oneR (L.take k) d x = (ee, dd) → ee ≠ 0 → R = (ee, x.pl) from fun ee dd h1 h2 => HIN.out _ (by rw [← HJ.out, HST.out, h1, if_pos h2]))
        have HNX := hideT (show ∀ dd, oneR (L.take k) d x = (0, dd) → goR (L.take (k + 1)) dd (L.drop (k + 1)) = goR [] 0 L from fun dd h1 => by rw [← HJ.out, HST.out, h1, if_neg (by simp)])
        have w0 : IntKind.i64.wrap ((d : Int) + 1) = (d : Int) + 1 := by rw [IntKind.wrap_i64]; omega
        have w3 : IntKind.i64.wrap ((d : Int) - 1) = (d : Int) - 1 := by rw [IntKind.wrap_i64]; omega
        by_cases k1 : x.nm = 123
        · have m1 : ((x.nm.toNat : Int) == 123) = true := by rw [k1]; rfl
          have m2 : ((x.nm.toNat : Int) == 125) = false := ne_byte x.nm 125 (by decide) (by rw [k1]; decide)
          have m3 : ((x.nm.toNat : Int) == 58) = false := ne_byte x.nm 58 (by decide) (by rw [k1]; decide)
          by_cases h16 : 16 < d + 1
          · have n1 : (16 : Int) < (d : Int) + 1 := by omega
            have HF := hideT (HFB.out 13 (d + 1) (by rw [HON.out, if_pos k1, if_pos h16]) (by decide))
            clear k1 h16
            go_wp2_with fail
            go_quiet (fail)
            go_wp2
            go_ret2
            exact ⟨by rw [HF.out]; rfl, HB2.out.trans (below_drewN _ _ _)⟩
          · have n1 : ((16 : Int) < (d : Int) + 1) = False := by rw [eq_iff_iff, iff_false]; omega
            have HN := hideT (HNX.out (d + 1) (by rw [HON.out, if_pos k1, if_neg h16]))
            clear k1 h16
            go_wp2
            exact ⟨⟨k + 1, d + 1, by omega, by omega, by go_num, by go_num, HN, HB2⟩, by simp [intOf]; omega⟩
        · have m1 : ((x.nm.toNat : Int) == 123) = false := ne_byte x.nm 123 (by decide) k1
          by_cases k2 : x.nm = 125
          · have m2 : ((x.nm.toNat : Int) == 125) = true := by rw [k2]; rfl
            have m3 : ((x.nm.toNat : Int) == 58) = false := ne_byte x.nm 58 (by decide) (by rw [k2]; decide)
            by_cases h0 : d = 0
            · have HF := hideT (HFB.out 23 0 (by rw [HON.out, if_neg k1, if_pos k2, if_pos h0]) (by decide))
              have n1 : (d : Int) - 1 < 0 := by omega
              clear k1 k2 h0
              go_wp2_with fail
              go_quiet (fail)
              go_wp2
              go_ret2
              exact ⟨by rw [HF.out]; rfl, HB2.out.trans (below_drewN _ _ _)⟩
            · have n1 : ((d : Int) - 1 < 0) = False := by rw [eq_iff_iff, iff_false]; omega
              have HN := hideT (HNX.out (d - 1) (by rw [HON.out, if_neg k1, if_pos k2, if_neg h0]))
              have n2 : (d : Int) - 1 = ((d - 1 : Nat) : Int) := by omega
              have HN2 := hideT n2
              clear k1 k2 h0 n2
              go_wp2
              exact ⟨⟨k + 1, d - 1, by omega, by omega, by rw [HN2.out], by go_num, HN, HB2⟩, by simp [intOf]; omega⟩
          · have m2 : ((x.nm.toNat : Int) == 125) = false := ne_byte x.nm 125 (by decide) k2
            by_cases k3 : x.nm = 58
            · have m3 : ((x.nm.toNat : Int) == 58) = true := by rw [k3]; rfl
              have HBAD := hideT (show (x.lb = [] ∨ 32 < x.lb.length ∨ labB (L.take k) x.lb = true) → R = (22, x.pl) from fun h => HFB.out 22 d (by rw [HON.out, if_neg k1, if_neg k2, if_pos ⟨k3, h⟩]) (by decide))
              have HGOOD := hideT (show ¬ (x.lb = [] ∨ 32 < x.lb.length ∨ labB (L.take k) x.lb = true) → goR (L.take (k + 1)) d (L.drop (k + 1)) = goR [] 0 L from fun h => HNX.out d (by rw [HON.out, if_neg k1, if_neg k2, if_neg (fun h2 => h h2.2)]))
              clear k1 k2 k3
              by_cases e1 : x.lb = []
              · rw [e1] at b9
                have HF := hideT (HBAD.out (.inl e1))
                clear e1
                go_wp2_with fail
                go_quiet (fail)
                go_wp2
                go_ret2
                exact ⟨by rw [HF.out]; rfl, HB2.out.trans (below_drewN _ _ _)⟩
              · have e1' : x.lb.isEmpty = false := by simpa using e1
                by_cases e2 : 32 < x.lb.length
                · have e2' : (32 : Int) < (x.lb.length : Int) := by omega
                  have HF := hideT (HBAD.out (.inr (.inl e2)))
                  clear e1 e2
                  go_wp2_with fail
                  go_quiet (fail)
                  go_wp2
                  go_ret2
                  exact ⟨by rw [HF.out]; rfl, HB2.out.trans (below_drewN _ _ _)⟩
                · have e2' : ((32 : Int) < (x.lb.length : Int)) = False := by rw [eq_iff_iff, iff_false]; omega
                  have e2'' : (32 < x.lb.length) = False := by rw [eq_iff_iff, iff_false]; omega
                  have HLA := hideT (docLabel_any (HCR.out.step HB2.out) k (by rw [HLL.out]; omega) (by rw [HLL.out]; omega) x.lb)
                  have HSG := hideT (lab_sign x.lb (L.take k) 0)
                  obtain ⟨z, hz⟩ : ∃ z, z = labI x.lb (L.take k) 0 := ⟨_, rfl⟩
                  rw [← hz] at HLA HSG
                  have HE := hideT (And.intro e1 e2)
                  clear e1 e2 hz
                  go_wp2_with fail
                  refine HLA.out.mono ?_
                  rintro e w3' ⟨rfl, hb3⟩
                  have d0 := keep_cell hb3 b0
                  have HB3 := hideT (HB2.out.trans (hb3.mono HB2.out.size))
                  clear hb3 HLA
                  by_cases hz0 : 0 ≤ z
                  · have HF := hideT (HBAD.out (.inr (.inr (HSG.out.1 hz0))))
                    go_wp2_with fail
                    go_quiet (fail)
                    go_wp2
                    go_ret2
                    exact ⟨by rw [HF.out]; rfl, HB3.out.trans (below_drewN _ _ _)⟩
                  · have z1 : (0 ≤ z) = False := by rw [eq_iff_iff, iff_false]; exact hz0
                    have HN := hideT (HGOOD.out (by
                      rintro (h | h | h)
                      · exact HE.out.1 h
                      · exact HE.out.2 h
                      · exact hz0 (HSG.out.2 h)))
                    clear hz0
                    go_wp2
                    exact ⟨⟨k + 1, d, by omega, by omega, by go_num, by go_num, HN, HB3⟩, by simp [intOf]; omega⟩
            · have m3 : ((x.nm.toNat : Int) == 58) = false := ne_byte x.nm 58 (by decide) k3
              have HN := hideT (HNX.out d (by rw [HON.out, if_neg k1, if_neg k2, if_neg (fun h => k3 h.1)]))
              clear k1 k2 k3
              go_wp2
              exact ⟨⟨k + 1, d, by omega, by omega, by go_num, by go_num, HN, HB2⟩, by simp [intOf]; omega⟩
      · have z1 : (((adrR x : Nat) : Int) == 0) = false := by rw [beq_eq_false_iff_ne]; omega
        have z2 : (((adrR x : Nat) : Int) != 0) = true := by rw [bne_iff_ne]; omega
        have z3 : (adrR x = 0) = False := by rw [eq_iff_iff, iff_false]; exact he
        have hone : oneR (L.take k) d x = (adrR x, d) := by unfold oneR; rw [if_pos he]
        have HF := hideT (HIN.out (adrR x, x.pl) (by rw [← HJ.out, HST.out, hone, if_pos he]))
        clear hone he
        go_wp2_with fail
        go_quiet (fail)
        go_wp2
        go_ret2
        exact ⟨by rw [HF.out]; rfl, HB2.out.trans (below_drewN _ _ _)⟩
    · obtain rfl : k = l.length := by omega
      have i1 : ((l.length : Int) < (l.length : Int)) = False := by rw [eq_iff_iff, iff_false]; omega
      have hgo : goR [] 0 L = .inr d := by
        have h1 := HJ.out
        rw [← HLL.out, List.take_length, List.drop_of_length_le (Nat.le_refl _)] at h1
        exact h1.symm
      have hol := open_len L [] 0 [] rfl d hgo
      have hmap := idx_open L L 0 [] rfl
      have hilt := idx_lt L 0 [] (fun i hi => by cases hi)
      have HCW := hideT (HCR.out.step HB.out)
      by_cases h0 : d = 0
      · have HV := hideT (show R = match jumpR L L with
          | some p => (22, p)
          | none => (0, 0) by rw [HR.out, chkR, hgo, h0]; cases jumpR L L <;> rfl)
        have n1 : (0 < d) = False := by rw [eq_iff_iff, iff_false]; omega
        clear hgo hol hmap hilt HJ h0 hd
        go_wp2_with fail
        have HBO := hideT HB.out
        go_loopw [9] (fun v w' => ∃ k : Nat, k ≤ l.length ∧ v = .int .i64 (k : Nat) ∧ Hid (jumpR L (L.drop k) = jumpR L L) ∧ Hid (Below W.heap.size W w')) (fun v _ => l.length - (intOf v).toNat)
        case atStart => exact ⟨0, Nat.zero_le _, rfl, hideT rfl, HBO⟩
        case round =>
          obtain ⟨k, hk, rfl, HJ, HB⟩ := hrel
          by_cases hlt : k < l.length
          · have i1 : (k : Int) < (l.length : Int) := by omega
            have i2 : (0 : Int) ≤ (k : Int) := by omega
            have hlt' : k < L.length := by rw [HLL.out]; exact hlt
            obtain ⟨g, o, rfl, hrg, hlen⟩ := HROW.out k _ (List.getElem?_eq_getElem hlt)
            have hst : jumpR L (L.drop k) = if ((L[k]'hlt').nm = 98 ∨ (L[k]'hlt').nm = 116) ∧ (L[k]'hlt').lb ≠ [] ∧ labB L (L[k]'hlt').lb = false then some (L[k]'hlt').pl else jumpR L (L.drop (k + 1)) := by
              rw [List.drop_eq_getElem_cons hlt', jumpR]
            rw [HLG.out k hlt hlt'] at hst
            generalize (l[k]'hlt) = p at *
            obtain ⟨x, r⟩ := p
            have hrw := range_keep hrg (HB.out.block g (range_lt hrg))
            have HST := hideT hst
            have HRG := hideT hrw
            clear hst hrg hrw hlen hlt'
            go_upto_region 25 with fail
            go_wp2_with (first | (refine load_cmd rfl _ rfl g (o + k * 19) rfl x r HRG.out ?_) | (refine store_cmd rfl _ _ rfl wr.heap.size x r rfl rfl zc rfl (heap_alloc_new wr _) ?_))
            intro w1 hblk hbel hfar
            have hb1 := hbel W.heap.size W HB.out.size ((HB.out).alloc HB.out.size _)
            obtain ⟨nb, hnb⟩ : ∃ nb, nb = wr.heap.size := ⟨_, rfl⟩
            rw [← hnb] at hblk hfar ⊢
            have HB1 := hideT hb1
            have b0 : w1.cell? ⟨nb, 0, none⟩ = some (.int .i64 x.pl) := by have h := range_block hblk 0 _ rfl; simpa using h
            have b8 : w1.cell? ⟨nb, 8, none⟩ = some (.int .u8 (x.nm.toNat : Nat)) := by have h := range_block hblk 8 _ rfl; simpa using h
            have b9 : w1.cell? ⟨nb, 9, none⟩ = some (.string ⟨x.lb.toArray⟩) := by have h := range_block hblk 9 _ rfl; simpa using h
            have HIN := hideT (in_any x.nm ⟨#[98, 116]⟩ (by decide) w1)
            obtain ⟨bt, hbt⟩ : ∃ bt, bt = (⟨#[98, 116]⟩ : ByteArray).data.toList.contains x.nm := ⟨_, rfl⟩
            rw [← hbt] at HIN
            have HBT := hideT (show bt = true ↔ (x.nm = 98 ∨ x.nm = 116) by rw [hbt]; simp)
            have HNX := hideT (show ¬ ((x.nm = 98 ∨ x.nm = 116) ∧ x.lb ≠ [] ∧ labB L x.lb = false) → jumpR L (L.drop (k + 1)) = jumpR L L from fun hn => by rw [← HJ.out, HST.out, if_neg hn])
            clear hblk hbel hfar hb1 hnb hbt
            go_wp2_with fail
            refine HIN.out.mono ?_
            rintro e w2 ⟨rfl, rfl⟩
            clear HIN
            cases bt with
            | false =>
              have HN := hideT (HNX.out (fun h => by have := HBT.out.2 h.1; cases this))
              go_wp2
              exact ⟨⟨k + 1, by omega, by go_num, HN, HB1⟩, by simp [intOf]; omega⟩
            | true =>
              by_cases e1 : x.lb = []
              · rw [e1] at b9
                have HN := hideT (HNX.out (fun h => h.2.1 e1))
                clear e1
                go_wp2
                exact ⟨⟨k + 1, by omega, by go_num, HN, HB1⟩, by simp [intOf]; omega⟩
              · have e1' : x.lb.isEmpty = false := by simpa using e1
                have HE := hideT e1
                have HLA := hideT (docLabel_any (HCR.out.step HB1.out) L.length (Nat.le_refl _) (by rw [HLL.out]; omega) x.lb)
                rw [List.take_length, HLL.out] at HLA
                have HSG := hideT (lab_sign x.lb L 0)
                obtain ⟨z, hz⟩ : ∃ z, z = labI x.lb L 0 := ⟨_, rfl⟩
                rw [← hz] at HLA HSG
                clear e1 hz
                go_wp2_with fail
                refine HLA.out.mono ?_
                rintro e w3' ⟨rfl, hb3⟩
                have d0 := keep_cell hb3 b0
                have HB3 := hideT (HB1.out.trans (hb3.mono HB1.out.size))
                clear hb3 HLA
                by_cases hz0 : 0 ≤ z
                · have z1 : (z < 0) = False := by rw [eq_iff_iff, iff_false]; omega
                  have HN := hideT (HNX.out (fun h => by rw [HSG.out.1 hz0] at h; cases h.2.2))
                  clear hz0
                  go_wp2
                  exact ⟨⟨k + 1, by omega, by go_num, HN, HB3⟩, by simp [intOf]; omega⟩
                · have z1 : z < 0 := by omega
                  have hlf : labB L x.lb = false := by
                    cases hh : labB L x.lb with
                    | false => rfl
                    | true => exact absurd (HSG.out.2 hh) hz0
                  have HF := hideT (show R = (22, x.pl) by
                    have hj : jumpR L L = some x.pl := by rw [← HJ.out, HST.out, if_pos ⟨HBT.out.1 (by trivial), HE.out, hlf⟩]
                    rw [HV.out, hj])
                  clear hz0 hlf
                  go_wp2_with fail
                  go_quiet (fail)
                  go_wp2
                  go_ret2
                  exact ⟨by rw [HF.out]; rfl, HB3.out.trans (below_drewN _ _ _)⟩
          · obtain rfl : k = l.length := by omega
            have i1 : ((l.length : Int) < (l.length : Int)) = False := by rw [eq_iff_iff, iff_false]; omega
            have HF := hideT (show R = (0, 0) by
              have hj : jumpR L L = none := by
                have h1 := HJ.out
                rw [← HLL.out, List.drop_of_length_le (Nat.le_refl _)] at h1
                exact h1.symm
              rw [HV.out, hj])
            go_wp2
            go_ret2
            exact ⟨by rw [HF.out]; rfl, HB.out⟩
      · have n1 : 0 < d := by omega
        have HOP := hideT (open_any HCW.out (by rw [HLL.out]; exact hl))
        rw [HLL.out] at HOP
        obtain ⟨I, hI⟩ : ∃ I, I = idxR L 0 [] := ⟨_, rfl⟩
        rw [← hI] at hmap hilt HOP
        have hmap' : I.map (fun i => (L.getD i (cm 0 0)).pl) = openR L [] := hmap
        cases I with
        | nil =>
          have := congrArg List.length hmap'
          rw [hol] at this
          exact absurd this.symm h0
        | cons i I =>
          have hil : i < l.length := by have := hilt i (by simp); rw [← HLL.out]; omega
          have hil' : i < L.length := by rw [HLL.out]; exact hil
          have HIL := hideT (show I.length + 1 = d by have := congrArg List.length hmap'; rw [hol, List.length_map, List.length_cons] at this; exact this)
          have HV := hideT (show R = (23, (l[i]'hil).1.pl) by
            rw [HR.out, chkR, hgo]
            show (if d ≠ 0 then _ else _) = _
            rw [if_pos h0, ← hmap', List.map_cons, List.headD_cons, List.getD_eq_getElem?_getD, List.getElem?_eq_getElem hil']
            show (23, (L[i]'hil').pl) = _
            rw [HLG.out i hil hil'])
          obtain ⟨g, o, rfl, hrg, hlx⟩ := HROW.out i _ (List.getElem?_eq_getElem hil)
          have hrw := range_keep hrg (HB.out.block g (range_lt hrg))
          have c0 : wr.cell? ⟨g, o + i * 19, none⟩ = some (.int .i64 (l[i]'hil).1.pl) := hrw 0 _ rfl
          generalize (l[i]'hil).1.pl = pp at *
          have HCI := hideT c0
          have q5 : (0 : Int) ≤ (i : Int) := by omega
          have q6 : (i : Int) < (l.length : Int) := by omega
          clear hgo hol hmap hmap' hilt hI hrg hrw hil' HJ c0 hlx hil
          go_wp2_with fail
          refine HOP.out.mono ?_
          rintro e w1 ⟨v, rfl, hA⟩
          rw [List.reverse_cons] at hA
          have hown := hA.own
          rw [List.length_append, List.length_singleton, natsV_app] at hown
          rcases hown.2 with ⟨_, h2⟩ | ⟨g9, c9, cur, rfl, _⟩
          · omega
          · have hlast : w1.cell? ⟨g9, I.reverse.length, none⟩ = some (.int .i64 (i : Int)) := by
              have h1 := hown.cells (g := g9) rfl I.reverse.length (.int .i64 (i : Int)) (by rw [List.getElem?_append_right (by rw [natsV_len]; exact Nat.le_refl _), natsV_len]; simp)
              have hadd : (⟨g9, 0, none⟩ : Addr).add I.reverse.length = ⟨g9, I.reverse.length, none⟩ := by unfold Addr.add; split <;> simp_all
              rw [hadd] at h1
              exact h1
            have d0 := keep_cell hA.below HCI.out
            have HF := hideT (HB.out.trans (hA.below.mono HB.out.size))
            have HML := hideT (show I.reverse.length ≤ 100000000 by rw [List.length_reverse]; have := HIL.out; omega)
            obtain ⟨M, hM⟩ : ∃ M : Nat, M = I.reverse.length := ⟨_, rfl⟩
            rw [← hM] at hlast HML ⊢
            have j2 : IntKind.i64.wrap ((M : Int) + 1 - 1) = (M : Int) := by have := HML.out; rw [IntKind.wrap_i64]; omega
            have j2' : IntKind.i64.wrap (M : Int) = (M : Int) := by have := HML.out; rw [IntKind.wrap_i64]; omega
            have j3 : (0 : Int) ≤ (M : Int) := by omega
            have j4 : (M : Int) < (M : Int) + 1 := by omega
            clear hown hA hM
            go_wp2_with fail
            go_quiet (fail)
            go_wp2
            go_ret2
            exact ⟨by rw [HV.out]; rfl, HF.out.trans (below_drewN _ _ _)⟩
end Go.Proofs.Ytdlceppiblodmaa
