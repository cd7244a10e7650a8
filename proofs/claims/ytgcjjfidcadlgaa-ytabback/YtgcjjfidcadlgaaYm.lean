/- ytab: the walk of YtabBack. -/
import Derived.Test.YtgcjjfidcadlgaaYl
import Derived.Test.YtgcjjfidcadlgaaYj
namespace Go.Proofs.Ytgcjjfidcadlgaa
open Go.RowKit Go.Sort

theorem zero39 {Z0 : Array Value} (hZ0 : Z0 = (arV (seenF [])).toArray) : ∀ w, (zeroValue 39).run Try.prog w = .ok (.agg Z0) w := by rw [hZ0, ← seen_nil]; exact (zero_of_info inf39).1
theorem turn_str (l : List UInt8) (k : Nat) : (bst l).extract k (bst l).size ++ (bst l).extract 0 k = bst (turnL l k) := by
  apply ByteArray.ext
  apply Array.ext'
  have e : (bst l).size = l.length := bst_size l
  rw [e]
  simp only [ByteArray.data_append, ByteArray.data_extract, bst, Array.toList_append, Array.toList_extract, turnL, List.extract_eq_take_drop]
  rw [List.take_of_length_le (by simp), Nat.sub_zero, List.drop_zero]

set_option maxRecDepth 100000 in
set_option maxHeartbeats 8000000 in
theorem back_walk (b s : ByteArray) (tn : Int) (hb : b.size ≤ 140737488355000) (hs : s.size ≤ 140737488355000) (ht : 0 ≤ tn ∧ tn ≤ 255) (w : World) : Calls Try.prog 6 #[.string b, .string s, .int .u8 tn] w fun e w' => e = .returned (.bool true) ∧ Below w.heap.size w w' := by
  have hlb : b.data.toList.length = b.size := rfl
  obtain ⟨Z9, hZ9⟩ : ∃ Z, Z = (arV (seenF [])).toArray := ⟨_, rfl⟩
  obtain ⟨Z, hZ⟩ : ∃ Z, Z = (arV fun _ => .int .u8 0).toArray := ⟨_, rfl⟩
  have hz := zero31 hZ
  have hz9 := zero39 hZ9
  have HZ := hideT hZ
  have HZ9 := hideT hZ9
  clear hZ hZ9
  go_enter Try.func6, Try.ntmps6
  go_wp2_with fail
  refine (awake_any _).mono ?_
  rintro e w0 ⟨rfl, hb0⟩
  have hN0 := ArAt.new w0 39 (seenF [])
  have hA0 := (Below.refl w0.heap.size w0).alloc (Nat.le_refl _) (.cells (arV (seenF [])).toArray 39)
  rw [← HZ9.out] at hN0 hA0
  have H0 := hideT (And.intro hN0 (And.intro (hb0.trans (hA0.mono hb0.size)) hb0.size))
  clear hN0 hA0 hb0
  go_wp2_with fail
  clear hz9
  go_loopw [7, 9] (fun v i wr => ∃ (k : Nat) (l : List UInt8), k ≤ b.size ∧ i = .int .i64 k ∧ v = .string (bst l) ∧ ArAt wr w0.heap.size 39 (seenF (b.data.toList.take k)) ∧ Below w.heap.size w wr ∧ l.Nodup ∧ ∀ c, c ∈ l ↔ c ∈ b.data.toList.take k) (fun _ i _ => b.size - (intOf i).toNat)
  case atStart => exact ⟨0, [], by omega, rfl, rfl, by simpa using H0.out.1, H0.out.2.1, by simp, by simp⟩
  case round =>
    obtain ⟨k, l, hk, rfl, rfl, hT, hB, hn, hm⟩ := hrel
    have hle := nodup_bytes hn
    by_cases hlt : k < b.size
    · have i1 : (k : Int) < (b.size : Int) := by omega
      have i2 : (0 : Int) ≤ (k : Int) := by omega
      have i3 : (k : Int) + 1 ≤ (b.size : Int) := by omega
      have i4 : (k : Int) ≤ (k : Int) + 1 := by omega
      have hcl := (b[k]'hlt).toNat_lt
      have hc := hT.cell (b[k]'hlt).toNat hcl
      have hf := hT.frozen (b[k]'hlt).toNat
      rw [seen_mem] at hc
      have j1 : (0 : Int) ≤ ((b[k]'hlt).toNat : Int) := by omega
      have j2 : ((b[k]'hlt).toNat : Int) < 256 := by omega
      by_cases hm2 : b[k]'hlt ∈ b.data.toList.take k
      · rw [decide_eq_true hm2] at hc
        have hT2 : ArAt wr w0.heap.size 39 (seenF (b.data.toList.take (k + 1))) := by
          have e : seenF (b.data.toList.take (k + 1)) = seenF (b.data.toList.take k) := by
            rw [take_snocB b k hlt, ← seen_snoc]
            funext j
            by_cases hj : j = (b[k]'hlt).toNat
            · rw [if_pos hj, hj, seen_mem, decide_eq_true hm2]
            · rw [if_neg hj]
          rw [e]
          exact hT
        have HR := hideT (And.intro hT2 (And.intro hB (And.intro hn (fun c => show c ∈ l ↔ c ∈ b.data.toList.take (k + 1) by
          rw [take_snocB b k hlt, List.mem_append, List.mem_singleton, hm c]
          constructor
          · exact .inl
          · rintro (h | rfl)
            · exact h
            · exact hm2))))
        clear hT hB hn hm hm2 hT2
        generalize hfs : bst l = fs at *
        have HFS := hideT hfs
        clear hfs
        go_wp2
        obtain h := HR.out
        exact ⟨⟨k + 1, l, by omega, by go_num, by rw [HFS.out], h.1, h.2.1, h.2.2.1, h.2.2.2⟩, by simp [intOf]; omega⟩
      · rw [decide_eq_false hm2] at hc
        have hS := hT.set (b[k]'hlt).toNat (.bool true)
        rw [seen_snoc, ← take_snocB b k hlt] at hS
        have hx := ext_one b k hlt
        have hap : bst l ++ bst [b[k]'hlt] = bst (l ++ [b[k]'hlt]) := bst_app _ _
        have q1 : (9223372036854775807 < (bst l).size + (bst [b[k]'hlt]).size) = False := by rw [eq_iff_iff, iff_false, bst_size, bst_size]; simp; omega
        have HR := hideT (And.intro hS (And.intro (hB.setCell (p := ⟨w0.heap.size, (b[k]'hlt).toNat, none⟩) (by exact H0.out.2.2) (.bool true)) (And.intro (show (l ++ [b[k]'hlt]).Nodup by
          rw [List.nodup_append]
          refine ⟨hn, by simp, fun x hx y hy e => ?_⟩
          rw [List.mem_singleton] at hy
          subst hy
          subst e
          exact hm2 ((hm _).1 hx)) (fun c => show c ∈ l ++ [b[k]'hlt] ↔ c ∈ b.data.toList.take (k + 1) by
            rw [take_snocB b k hlt, List.mem_append, List.mem_append, hm c]))))
        clear hT hB hn hm hm2 hS
        generalize hfs : bst (l ++ [b[k]'hlt]) = fs2 at *
        have HFS := hideT hfs
        clear hfs
        generalize bst l = fs at *
        generalize bst [b[k]'hlt] = f1 at *
        go_wp2
        exact ⟨⟨k + 1, l ++ [b[k]'hlt], by omega, by go_num, by rw [HFS.out], HR.out.1, HR.out.2.1, HR.out.2.2.1, HR.out.2.2.2⟩, by simp [intOf]; omega⟩
    · have i1 : ((k : Int) < (b.size : Int)) = False := by rw [eq_iff_iff, iff_false]; omega
      clear hT hm hk H0
      by_cases hl0 : l = []
      · have hl1 : l.length = 0 := by rw [hl0]; rfl
        obtain ⟨m, hm⟩ : ∃ m, m = turnL l 0 := ⟨_, rfl⟩
        have hml : l.length = m.length := by rw [hm, turn_len l 0 (by omega)]
        have hmn : m.Nodup := by rw [hm]; exact turn_nodup 0 hn
        have hmm : ∀ c, c ∈ m → c ∈ l := fun c hc => turn_mem 0 c (hm ▸ hc)
        have hback := back_all hn hmn hml hmm s.data.toList
        obtain ⟨A1, hA1⟩ : ∃ A, A = (arV (btF (newT l m))).toArray := ⟨_, rfl⟩
        obtain ⟨A2, hA2⟩ : ∃ A, A = (arV (btF (newT m l))).toArray := ⟨_, rfl⟩
        obtain ⟨A3, hA3⟩ : ∃ A, A = (arV (btF (newT (l ++ [120]) m))).toArray := ⟨_, rfl⟩
        obtain ⟨A4, hA4⟩ : ∃ A, A = (arV (btF (newT (l ++ l) (m ++ m)))).toArray := ⟨_, rfl⟩
        have z1 := sizeA hA1
        have z2 := sizeA hA2
        have z3 := sizeA hA3
        have z4 := sizeA hA4
        have n1 := fun w => newC (A := A1) (bst l) (bst m) (by rw [bst_size]; omega) w (by rw [bst_list, bst_list]; exact hA1)
        have n2 := fun w => newC (A := A2) (bst m) (bst l) (by rw [bst_size]; omega) w (by rw [bst_list, bst_list]; exact hA2)
        have n3 := fun w => newC (A := A3) (bst (l ++ [120])) (bst m) (by rw [bst_size]; simp; omega) w (by rw [bst_list, bst_list]; exact hA3)
        have n4 := fun w => newC (A := A4) (bst (l ++ l)) (bst (m ++ m)) (by rw [bst_size]; simp; omega) w (by rw [bst_list, bst_list]; exact hA4)
        rw [bst_list, bst_list, newE_ok hn hml] at n1
        rw [bst_list, bst_list, newE_ok hmn hml.symm] at n2
        rw [bst_list, bst_list, newE_len (by simp; omega)] at n3
        have hE4 : newE (l ++ l) (m ++ m) = 0 := by
          have e : m = [] := List.eq_nil_of_length_eq_zero (by omega)
          rw [hl0, e]
          exact newE_nil
        rw [bst_list, bst_list, hE4] at n4
        have V1 := hideT (fun w2 => var_store (newT l m) w2 hA1 HZ.out)
        have V2 := hideT (fun w2 => var_store (newT m l) w2 hA2 HZ.out)
        have V3 := hideT (fun w2 => var_store (newT (l ++ [120]) m) w2 hA3 HZ.out)
        have V4 := hideT (fun w2 => var_store (newT (l ++ l) (m ++ m)) w2 hA4 HZ.out)
        have R1 := hideT (fun W b (h : ArAt W b 31 (btF (newT l m))) d os => load_regrown hA1 h d os)
        have R2 := hideT (fun W b (h : ArAt W b 31 (btF (newT m l))) d os => load_regrown hA2 h d os)
        have p1 := fun w => applyC (newT l m) s hs w hA1
        have p2 := fun w => applyC (newT m l) (bst (appL (newT l m) s.data.toList)) (by rw [bst_size]; simpa [appL] using hs) w hA2
        rw [bst_list, hback, bst_data] at p2
        have x3 : bst l ++ ⟨#[120]⟩ = bst (l ++ [120]) := bst_app l [120]
        have x4 : bst l ++ bst l = bst (l ++ l) := bst_app l l
        have x5 : bst m ++ bst m = bst (m ++ m) := bst_app m m
        have hts := turn_str l 0
        rw [← hm] at hts
        have hfs : (bst l).size = l.length := bst_size l
        have hms : (bst m).size = m.length := bst_size m
        have hx1s : ((bst l).extract 0 (bst l).size).size ≤ 256 := by rw [ByteArray.size_extract]; omega
        have hx2s : ((bst l).extract 0 0).size ≤ 256 := by rw [ByteArray.size_extract]; omega
        generalize bst (appL (newT l m) s.data.toList) = sx at *
        generalize bst (l ++ [120]) = f3 at *
        generalize bst (l ++ l) = f4 at *
        generalize bst (m ++ m) = t4 at *
        generalize bst m = ts at *
        have hemp : (bst l).toList.isEmpty = true := by rw [Lib.toList_data, bst_list, hl0]; rfl
        generalize bst l = fs at *
        have N1 := hideT n1
        have N2 := hideT n2
        have N3 := hideT n3
        have N4 := hideT n4
        have P1 := hideT p1
        have P2 := hideT p2
        obtain ⟨x1, hx1⟩ : ∃ x, fs.extract 0 fs.size = x := ⟨_, rfl⟩
        obtain ⟨x2, hx2⟩ : ∃ x, fs.extract 0 0 = x := ⟨_, rfl⟩
        rw [hx1] at hx1s hts
        rw [hx2] at hx2s hts
        have q0 : (9223372036854775807 < x1.size + x2.size) = False := by rw [eq_iff_iff, iff_false]; omega
        have q3 : (9223372036854775807 < fs.size + 1) = False := by rw [eq_iff_iff, iff_false]; omega
        have q4 : (9223372036854775807 < fs.size + fs.size) = False := by rw [eq_iff_iff, iff_false]; omega
        have q5 : (9223372036854775807 < ts.size + ts.size) = False := by rw [eq_iff_iff, iff_false]; omega
        have g1 : (0 : Int) ≤ (fs.size : Int) := by omega
        have g2 : (0 : Int) ≤ (0 : Int) := by omega
        have g3 : ((0 : Int) < (fs.size : Int)) = False := by rw [eq_iff_iff, iff_false]; omega
        have q6 : (9223372036854775807 < ts.size) = False := by rw [eq_iff_iff, iff_false]; omega
        have hxt : x1 = ts := by
          have e : x2 = ByteArray.empty := by rw [← hx2]; simp
          rw [← hts, e]
          simp
        have g7 : (0 < fs.size) = False := by rw [eq_iff_iff, iff_false]; omega
        have g8 : decide ((0 : Int) < (fs.size : Int)) = false := decide_eq_false (by omega)
        clear n1 n2 n3 n4 p1 p2 hA1 hA2 hA3 hA4 hm hml hmn hmm hback hx1s hx2s hms hn hle
        clear hl1 hfs hl0
        have HB1 := hideT hB
        clear hB
        go_wp2_with fail
        go_quiet (fail)
        have HX := hideT (HB1.out.trans (below_drewN w.heap.size wr nq))
        generalize wr.drewN nq = X at *
        clear hts hx1 hx2 hxt
        go_wp2_with fail
        refine (N1.out _).mono ?_
        rintro e w1 ⟨rfl, hb1⟩
        obtain ⟨W1, hst1, hT1, hB1, hs1⟩ := V1.out w1
        have hX1 := HX.out.trans (hb1.mono HX.out.size)
        have G1 := hideT (And.intro hT1 (hX1.trans (hB1.mono hX1.size)))
        clear hb1 hT1 hB1 hs1 hX1
        go_wp2_with fail
        clear hst1
        refine (N2.out _).mono ?_
        rintro e w2 ⟨rfl, hb2⟩
        obtain ⟨W2, hst2, hT2, hB2, hs2⟩ := V2.out w2
        have hX2 := G1.out.2.trans (hb2.mono G1.out.2.size)
        have G2 := hideT (And.intro ((G1.out.1.stay hb2).stay (hB2.mono (Nat.le_refl _))) (And.intro hT2 (hX2.trans (hB2.mono hX2.size))))
        clear hb2 hT2 hB2 hs2 hX2
        go_wp2_with fail
        clear hst2
        refine (N3.out _).mono ?_
        rintro e w3 ⟨rfl, hb3⟩
        obtain ⟨W3, hst3, hT3, hB3, hs3⟩ := V3.out w3
        have hX3 := G2.out.2.2.trans (hb3.mono G2.out.2.2.size)
        have G3 := hideT (And.intro ((G2.out.1.stay hb3).stay (hB3.mono (Nat.le_refl _))) (And.intro ((G2.out.2.1.stay hb3).stay (hB3.mono (Nat.le_refl _))) (hX3.trans (hB3.mono hX3.size))))
        clear hb3 hT3 hB3 hs3 hX3
        go_wp2_with fail
        clear hst3
        refine (N4.out _).mono ?_
        rintro e w4 ⟨rfl, hb4⟩
        obtain ⟨W4, hst4, hT4, hB4, hs4⟩ := V4.out w4
        have hX4 := G3.out.2.2.trans (hb4.mono G3.out.2.2.size)
        have G4 := hideT (And.intro ((G3.out.1.stay hb4).stay (hB4.mono (Nat.le_refl _))) (And.intro ((G3.out.2.1.stay hb4).stay (hB4.mono (Nat.le_refl _))) (hX4.trans (hB4.mono hX4.size))))
        clear hb4 hT4 hB4 hs4 hX4
        go_wp2_with fail
        clear hst4
        have l1 := R1.out _ _ G4.out.1
        have l2 := R2.out _ _ G4.out.2.1
        have cP : Hid (∀ d os, Calls Try.prog 12 #[.agg A1, .string s] (grow (redrawn W4 d) os) fun e w'' => e = .returned (.string sx) ∧ ∃ p : Regrown, w'' = grow (redrawn W4 p.d) p.os) := fun d os => Calls.regrown_of (P1.out _)
        have cQ : Hid (∀ d os, Calls Try.prog 12 #[.agg A2, .string sx] (grow (redrawn W4 d) os) fun e w'' => e = .returned (.string s) ∧ ∃ p : Regrown, w'' = grow (redrawn W4 p.d) p.os) := fun d os => Calls.regrown_of (P2.out _)
        refine wp_region_quiet_below (by kernel_rfl) (by kernel_rfl) ?_
        refine q_load l2 rfl rfl rfl (by rfl) ?_
        refine q_load l1 rfl rfl rfl (by rfl) ?_
        iterate 6 (quiet_step (first | with_reducible exact cP.out _ _ | with_reducible exact cQ.out _ _))
        refine wpQuiet_nil ?_
        intro _ hw'
        obtain ⟨⟨dq, osq⟩, hw''⟩ := hw'
        subst hw''
        have G5 := hideT (G4.out.2.2.trans ((below_regrown W4 dq osq).mono G4.out.2.2.size))
        clear l1 l2 cP cQ
        generalize grow (redrawn W4 dq) osq = W5 at *
        go_wp2
        go_ret
        exact ⟨rfl, G5.out⟩
      · obtain ⟨kk, hkk⟩ : ∃ kk : Nat, tn.tmod (l.length : Int) = (kk : Int) := ⟨(tn.tmod (l.length : Int)).toNat, by
          rw [Int.toNat_of_nonneg (Int.tmod_nonneg _ ht.1)]⟩
        have hpos : 0 < l.length := List.length_pos_iff.2 hl0
        have hk2 : kk < l.length := by
          have := Int.tmod_lt_of_pos tn (show (0 : Int) < (l.length : Int) by omega)
          omega
        obtain ⟨m, hm⟩ : ∃ m, m = turnL l kk := ⟨_, rfl⟩
        have hml : l.length = m.length := by rw [hm, turn_len l kk (by omega)]
        have hmn : m.Nodup := by rw [hm]; exact turn_nodup kk hn
        have hmm : ∀ c, c ∈ m → c ∈ l := fun c hc => turn_mem kk c (hm ▸ hc)
        have hback := back_all hn hmn hml hmm s.data.toList
        obtain ⟨A1, hA1⟩ : ∃ A, A = (arV (btF (newT l m))).toArray := ⟨_, rfl⟩
        obtain ⟨A2, hA2⟩ : ∃ A, A = (arV (btF (newT m l))).toArray := ⟨_, rfl⟩
        obtain ⟨A3, hA3⟩ : ∃ A, A = (arV (btF (newT (l ++ [120]) m))).toArray := ⟨_, rfl⟩
        obtain ⟨A4, hA4⟩ : ∃ A, A = (arV (btF (newT (l ++ l) (m ++ m)))).toArray := ⟨_, rfl⟩
        have z1 := sizeA hA1
        have z2 := sizeA hA2
        have z3 := sizeA hA3
        have z4 := sizeA hA4
        have n1 := fun w => newC (A := A1) (bst l) (bst m) (by rw [bst_size]; omega) w (by rw [bst_list, bst_list]; exact hA1)
        have n2 := fun w => newC (A := A2) (bst m) (bst l) (by rw [bst_size]; omega) w (by rw [bst_list, bst_list]; exact hA2)
        have n3 := fun w => newC (A := A3) (bst (l ++ [120])) (bst m) (by rw [bst_size]; simp; omega) w (by rw [bst_list, bst_list]; exact hA3)
        have n4 := fun w => newC (A := A4) (bst (l ++ l)) (bst (m ++ m)) (by rw [bst_size]; simp; omega) w (by rw [bst_list, bst_list]; exact hA4)
        rw [bst_list, bst_list, newE_ok hn hml] at n1
        rw [bst_list, bst_list, newE_ok hmn hml.symm] at n2
        rw [bst_list, bst_list, newE_len (by simp; omega)] at n3
        have hE4 : newE (l ++ l) (m ++ m) = 21 := newE_two hl0
        rw [bst_list, bst_list, hE4] at n4
        have V1 := hideT (fun w2 => var_store (newT l m) w2 hA1 HZ.out)
        have V2 := hideT (fun w2 => var_store (newT m l) w2 hA2 HZ.out)
        have V3 := hideT (fun w2 => var_store (newT (l ++ [120]) m) w2 hA3 HZ.out)
        have V4 := hideT (fun w2 => var_store (newT (l ++ l) (m ++ m)) w2 hA4 HZ.out)
        have R1 := hideT (fun W b (h : ArAt W b 31 (btF (newT l m))) d os => load_regrown hA1 h d os)
        have R2 := hideT (fun W b (h : ArAt W b 31 (btF (newT m l))) d os => load_regrown hA2 h d os)
        have p1 := fun w => applyC (newT l m) s hs w hA1
        have p2 := fun w => applyC (newT m l) (bst (appL (newT l m) s.data.toList)) (by rw [bst_size]; simpa [appL] using hs) w hA2
        rw [bst_list, hback, bst_data] at p2
        have x3 : bst l ++ ⟨#[120]⟩ = bst (l ++ [120]) := bst_app l [120]
        have x4 : bst l ++ bst l = bst (l ++ l) := bst_app l l
        have x5 : bst m ++ bst m = bst (m ++ m) := bst_app m m
        have hts := turn_str l kk
        rw [← hm] at hts
        have hfs : (bst l).size = l.length := bst_size l
        have hms : (bst m).size = m.length := bst_size m
        have hx1s : ((bst l).extract kk (bst l).size).size ≤ 256 := by rw [ByteArray.size_extract]; omega
        have hx2s : ((bst l).extract 0 kk).size ≤ 256 := by rw [ByteArray.size_extract]; omega
        generalize bst (appL (newT l m) s.data.toList) = sx at *
        generalize bst (l ++ [120]) = f3 at *
        generalize bst (l ++ l) = f4 at *
        generalize bst (m ++ m) = t4 at *
        generalize bst m = ts at *
        have hemp : (bst l).toList.isEmpty = false := by rw [Lib.toList_data, bst_list]; simpa using hl0
        generalize bst l = fs at *
        have N1 := hideT n1
        have N2 := hideT n2
        have N3 := hideT n3
        have N4 := hideT n4
        have P1 := hideT p1
        have P2 := hideT p2
        obtain ⟨x1, hx1⟩ : ∃ x, fs.extract kk fs.size = x := ⟨_, rfl⟩
        obtain ⟨x2, hx2⟩ : ∃ x, fs.extract 0 kk = x := ⟨_, rfl⟩
        rw [hx1] at hx1s hts
        rw [hx2] at hx2s hts
        have q0 : (9223372036854775807 < x1.size + x2.size) = False := by rw [eq_iff_iff, iff_false]; omega
        have q3 : (9223372036854775807 < fs.size + 1) = False := by rw [eq_iff_iff, iff_false]; omega
        have q4 : (9223372036854775807 < fs.size + fs.size) = False := by rw [eq_iff_iff, iff_false]; omega
        have q5 : (9223372036854775807 < ts.size + ts.size) = False := by rw [eq_iff_iff, iff_false]; omega
        have g1 : (kk : Int) ≤ (fs.size : Int) := by omega
        have g2 : (0 : Int) ≤ (kk : Int) := by omega
        have g3 : (0 : Int) < (fs.size : Int) := by omega
        have g4 : IntKind.i64.wrap tn = tn := by rw [IntKind.wrap_i64]; omega
        have g5 : ((fs.size : Int) == 0) = false := by rw [beq_eq_false_iff_ne]; omega
        have g6 : tn.tmod (fs.size : Int) = (kk : Int) := by rw [hfs]; exact hkk
        clear n1 n2 n3 n4 p1 p2 hA1 hA2 hA3 hA4 hm hml hmn hmm hback hx1s hx2s hms hn hle
        clear hkk hpos hk2 hfs hl0
        have HB1 := hideT hB
        clear hB
        go_wp2_with fail
        go_quiet (fail)
        have HX := hideT (HB1.out.trans (below_drewN w.heap.size wr nq))
        generalize wr.drewN nq = X at *
        clear hts hx1 hx2
        go_wp2_with fail
        refine (N1.out _).mono ?_
        rintro e w1 ⟨rfl, hb1⟩
        obtain ⟨W1, hst1, hT1, hB1, hs1⟩ := V1.out w1
        have hX1 := HX.out.trans (hb1.mono HX.out.size)
        have G1 := hideT (And.intro hT1 (hX1.trans (hB1.mono hX1.size)))
        clear hb1 hT1 hB1 hs1 hX1
        go_wp2_with fail
        clear hst1
        refine (N2.out _).mono ?_
        rintro e w2 ⟨rfl, hb2⟩
        obtain ⟨W2, hst2, hT2, hB2, hs2⟩ := V2.out w2
        have hX2 := G1.out.2.trans (hb2.mono G1.out.2.size)
        have G2 := hideT (And.intro ((G1.out.1.stay hb2).stay (hB2.mono (Nat.le_refl _))) (And.intro hT2 (hX2.trans (hB2.mono hX2.size))))
        clear hb2 hT2 hB2 hs2 hX2
        go_wp2_with fail
        clear hst2
        refine (N3.out _).mono ?_
        rintro e w3 ⟨rfl, hb3⟩
        obtain ⟨W3, hst3, hT3, hB3, hs3⟩ := V3.out w3
        have hX3 := G2.out.2.2.trans (hb3.mono G2.out.2.2.size)
        have G3 := hideT (And.intro ((G2.out.1.stay hb3).stay (hB3.mono (Nat.le_refl _))) (And.intro ((G2.out.2.1.stay hb3).stay (hB3.mono (Nat.le_refl _))) (hX3.trans (hB3.mono hX3.size))))
        clear hb3 hT3 hB3 hs3 hX3
        go_wp2_with fail
        clear hst3
        refine (N4.out _).mono ?_
        rintro e w4 ⟨rfl, hb4⟩
        obtain ⟨W4, hst4, hT4, hB4, hs4⟩ := V4.out w4
        have hX4 := G3.out.2.2.trans (hb4.mono G3.out.2.2.size)
        have G4 := hideT (And.intro ((G3.out.1.stay hb4).stay (hB4.mono (Nat.le_refl _))) (And.intro ((G3.out.2.1.stay hb4).stay (hB4.mono (Nat.le_refl _))) (hX4.trans (hB4.mono hX4.size))))
        clear hb4 hT4 hB4 hs4 hX4
        go_wp2_with fail
        clear hst4
        have l1 := R1.out _ _ G4.out.1
        have l2 := R2.out _ _ G4.out.2.1
        have cP : Hid (∀ d os, Calls Try.prog 12 #[.agg A1, .string s] (grow (redrawn W4 d) os) fun e w'' => e = .returned (.string sx) ∧ ∃ p : Regrown, w'' = grow (redrawn W4 p.d) p.os) := fun d os => Calls.regrown_of (P1.out _)
        have cQ : Hid (∀ d os, Calls Try.prog 12 #[.agg A2, .string sx] (grow (redrawn W4 d) os) fun e w'' => e = .returned (.string s) ∧ ∃ p : Regrown, w'' = grow (redrawn W4 p.d) p.os) := fun d os => Calls.regrown_of (P2.out _)
        refine wp_region_quiet_below (by kernel_rfl) (by kernel_rfl) ?_
        refine q_load l2 rfl rfl rfl (by rfl) ?_
        refine q_load l1 rfl rfl rfl (by rfl) ?_
        iterate 6 (quiet_step (first | with_reducible exact cP.out _ _ | with_reducible exact cQ.out _ _))
        refine wpQuiet_nil ?_
        intro _ hw'
        obtain ⟨⟨dq, osq⟩, hw''⟩ := hw'
        subst hw''
        have G5 := hideT (G4.out.2.2.trans ((below_regrown W4 dq osq).mono G4.out.2.2.size))
        clear l1 l2 cP cQ
        generalize grow (redrawn W4 dq) osq = W5 at *
        go_wp2
        go_ret
        exact ⟨rfl, G5.out⟩

end Go.Proofs.Ytgcjjfidcadlgaa
