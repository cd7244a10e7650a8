/- WholeSeen: the walk. -/
import Derived.Test.YtjckdfdgkkmmjaaDoorWp
namespace Go.Proofs.YtjckdfdgkkmmjaaDoor
open Go.RowKit Go.Sort

set_option maxRecDepth 100000 in
set_option maxHeartbeats 8000000 in
theorem seen_walk (a b : ByteArray) (tn : Int) (hs : a.size + b.size ≤ 1048576) (ht : 0 ≤ tn ∧ tn ≤ 255) (w : World) (hg : Glob w) : Calls Tryd.prog 3 #[.string a, .string b, .int .u8 tn] w fun e w' => e = .returned (.bool true) ∧ Below w.heap.size w w' := by
  obtain ⟨t, rfl⟩ := Int.eq_ofNat_of_zero_le ht.1
  have HG := hideT hg
  clear hg
  obtain ⟨Z, hZ⟩ : ∃ Z, Z = (arV fun _ => Value.int .u8 0).toArray := ⟨_, rfl⟩
  have MK := hideT (fun W => make256 hZ W)
  have hz := zero31 hZ
  have HZ := hideT hZ
  have hn := fr_nodup 0
  have hm := fr_nodup t
  have hl : (frL 0).length = (frL t).length := by rw [fr_len, fr_len]
  have hback := back_all hn hm hl (fun c _ => fr_mem 0 c) a.data.toList
  obtain ⟨A1, hA1⟩ : ∃ A, A = (arV (btF (newT (frL 0) (frL t)))).toArray := ⟨_, rfl⟩
  obtain ⟨A2, hA2⟩ : ∃ A, A = (arV (btF (newT (frL t) (frL 0)))).toArray := ⟨_, rfl⟩
  have n1 := fun w => newC (A := A1) (bst (frL 0)) (bst (frL t)) (by rw [bst_size, fr_len]; omega) w (by rw [bst_list, bst_list]; exact hA1)
  have n2 := fun w => newC (A := A2) (bst (frL t)) (bst (frL 0)) (by rw [bst_size, fr_len]; omega) w (by rw [bst_list, bst_list]; exact hA2)
  rw [bst_list, bst_list, newE_ok hn hl] at n1
  rw [bst_list, bst_list, newE_ok hm hl.symm] at n2
  have V1 := hideT (fun w2 => var_store (newT (frL 0) (frL t)) w2 hA1 hZ)
  have V2 := hideT (fun w2 => var_store (newT (frL t) (frL 0)) w2 hA2 hZ)
  have R1 := hideT (fun W b (h : ArAt W b 28 (btF (newT (frL 0) (frL t)))) => load_all hA1 h)
  have R2 := hideT (fun W b (h : ArAt W b 28 (btF (newT (frL t) (frL 0)))) => load_all hA2 h)
  have z1 := sizeA hA1
  have z2 := sizeA hA2
  have p1 := fun w => applyC (newT (frL 0) (frL t)) a (by omega) w hA1
  have p2 := fun w => applyC (newT (frL t) (frL 0)) (bst (appL (newT (frL 0) (frL t)) a.data.toList)) (by rw [bst_size]; simp [appL]; omega) w hA2
  rw [bst_list, hback, bst_data] at p2
  generalize bst (appL (newT (frL 0) (frL t)) a.data.toList) = sx at *
  have N1 := hideT n1
  have N2 := hideT n2
  have P1 := hideT p1
  have P2 := hideT p2
  clear hZ n1 n2 p1 p2 hA1 hA2 hback hn hm hl
  have HL0 := hideT (fun w => lines_any ⟨#[97, 0]⟩ (by decide) w)
  have hrd := fun v w1 (h : Row w1 v (linesL [97, 0])) (hg : Glob w1) => read_any v _ w1 h (by have := lines_len [97, 0]; simp at this; omega) (by have := lines_tot [97, 0]; simp at this; omega) hg
  rw [read_lines] at hrd
  simp only at hrd
  have HR0 := hideT hrd
  clear hrd
  go_enter Tryd.func3, Tryd.ntmps3
  go_wp2_with fail
  refine (HL0.out _).mono ?_
  rintro e w1 ⟨v1, rfl, hO1, hb1⟩
  obtain ⟨a1, c1, rfl⟩ := owns_shape hO1
  have H1 := hideT (And.intro (Row.of_owns hO1) hb1)
  clear hO1 hb1
  go_wp2_with fail
  refine (HR0.out _ _ H1.out.1 (HG.out.stay H1.out.2)).mono ?_
  rintro e w2 ⟨rfl, hb2⟩
  have H2 := hideT (And.intro (HG.out.stay (H1.out.2.trans (hb2.mono H1.out.2.size))) (H1.out.2.trans (hb2.mono H1.out.2.size)))
  clear hb2 H1 HL0 HR0
  have hx0 : bst [97, 0] = ⟨#[97, 0]⟩ := rfl
  go_wp2_with fail
  have hlx := lines_len a.data.toList
  have hly := lines_len b.data.toList
  have hza : a.data.toList.length = a.size := rfl
  have hzb : b.data.toList.length = b.size := rfl
  refine (lines_any a (by omega) _).mono ?_
  rintro e w3 ⟨v3, rfl, hO3, hb3⟩
  obtain ⟨a3, c3, rfl⟩ := owns_shape hO3
  have H3 := hideT (And.intro (Row.of_owns hO3) (H2.out.2.trans (hb3.mono H2.out.2.size)))
  clear hO3 hb3
  go_wp2_with fail
  refine (lines_any b (by omega) _).mono ?_
  rintro e w4 ⟨v4, rfl, hO4, hb4⟩
  obtain ⟨a4, c4, rfl⟩ := owns_shape hO4
  have H4 := hideT (And.intro (H3.out.1.stay hb4 (Nat.le_refl _)) (And.intro (Row.of_owns hO4) (H3.out.2.trans (hb4.mono H3.out.2.size))))
  clear hO4 hb4 H3 H2
  have HI := hideT (fun h : linesL a.data.toList = linesL b.data.toList => lines_inj h)
  have HE := hideT (fun h : a = b => show linesL a.data.toList = linesL b.data.toList by rw [h])
  have hla := lines_len a.data.toList
  have hlt := lines_tot a.data.toList
  have HLa := hideT (fun w => lines_any a (by omega) w)
  have hrd := fun v w1 (h : Row w1 v (linesL a.data.toList)) (hg : Glob w1) => read_any v _ w1 h (by omega) (by omega) hg
  rw [read_lines] at hrd
  simp only at hrd
  rw [bst_data] at hrd
  have HRa := hideT hrd
  clear hrd hla hlt
  have hcx : (linesL a.data.toList).length ≤ 1048577 := by omega
  have hcy : (linesL b.data.toList).length ≤ 1048577 := by omega
  clear hlx hly hza hzb
  generalize linesL a.data.toList = X at *
  generalize linesL b.data.toList = Y at *
  by_cases hab : a = b
  · have hXY := HE.out hab
    subst hXY
    have HAB := hideT hab
    clear HI HE
    clear hab
    go_wp2_with fail
    go_loopw [11, 12] (fun v i wr => ∃ k : Nat, k ≤ X.length ∧ v = .bool true ∧ i = .int .i64 k ∧ Below w4.heap.size w4 wr) (fun _ i _ => X.length - (intOf i).toNat)
    case atStart => exact ⟨0, by omega, rfl, rfl, Below.refl _ _⟩
    case round =>
      obtain ⟨k, hk, rfl, rfl, hB⟩ := hrel
      by_cases hlt : k < X.length
      · have i1 : (k : Int) < (X.length : Int) := by omega
        have i2 : (0 : Int) ≤ (k : Int) := by omega
        rcases H4.out.1 with ⟨h, -⟩ | ⟨g, off, c, e1, ha⟩
        · rw [h] at hlt; simp at hlt
        rcases H4.out.2.1 with ⟨h, -⟩ | ⟨g2, off2, c2, e2, hb⟩
        · rw [h] at hlt; simp at hlt
        cases e1
        cases e2
        have h1 := (hB.cell (p := ⟨g, off + k, none⟩) (cell_lt (ha k hlt))).trans (ha k hlt)
        have h2 := (hB.cell (p := ⟨g2, off2 + k, none⟩) (cell_lt (hb k hlt))).trans (hb k hlt)
        have HB := hideT hB
        clear hB ha hb
        generalize bst X[k] = xs at *
        go_wp2_with fail
        go_region
        go_wp2
        exact ⟨⟨k + 1, by omega, rfl, by go_num, HB.out.drew⟩, by simp [intOf]; omega⟩
      · have i1 : ((k : Int) < (X.length : Int)) = False := by rw [eq_iff_iff, iff_false]; omega
        have hab : a.toList = b.toList := by rw [HAB.out]
        have HB := hideT (H4.out.2.2.trans (hB.mono H4.out.2.2.size))
        clear hB H4 hk hlt
        go_wp2_with fail
        clear i1 hab
        have mk := MK.out
        go_region
        · clear mk
          have h5 := made_two wr HZ.out
          have H5 := hideT (And.intro (HB.out.trans (h5.2.2.mono HB.out.size)) HB.out.size)
          obtain ⟨hA, hC, -⟩ := h5
          clear HB
          generalize ((wr.alloc (Obj.cells Z 5)).alloc (Obj.cells Z 5)).drew = W5 at *
          have hpq : wr.heap.size ≠ wr.heap.size + 1 := by omega
          have hge : w.heap.size ≤ wr.heap.size + 1 := Nat.le_succ_of_le H5.out.2
          have hgf : w.heap.size ≤ wr.heap.size := H5.out.2
          have HB := hideT H5.out.1
          clear H5
          generalize wr.heap.size + 1 = q at *
          generalize wr.heap.size = p at *
          have HP := hideT (And.intro hA (And.intro hC (And.intro hpq (And.intro hgf hge))))
          clear hA hC hpq hgf hge
          go_wp2_with fail
          go_loopw [67] (fun n wr => ∃ k : Nat, k ≤ 256 ∧ n = .int .i64 k ∧ ArAt wr p 5 (tuF 0 k) ∧ ArAt wr q 5 (tuF t k) ∧ Below w.heap.size w wr) (fun n _ => 256 - (intOf n).toNat)
          case atStart => exact ⟨0, by omega, rfl, by rw [tu_zero]; exact HP.out.1, by rw [tu_zero]; exact HP.out.2.1, HB.out⟩
          case round =>
            obtain ⟨k, hk, rfl, hA, hC, hB⟩ := hrel
            by_cases hlt : k < 256
            · have i1 : (k : Int) < (256 : Int) := by omega
              have i2 : (0 : Int) ≤ (k : Int) := by omega
              have i3 : IntKind.u8.wrap (k : Int) = (k : Int) := by rw [IntKind.wrap_u8]; omega
              obtain ⟨y, hy⟩ : ∃ y : Nat, y = (k + t) % 256 := ⟨_, rfl⟩
              have i4 : IntKind.u8.wrap ((k : Int) + (t : Int)) = (y : Int) := by rw [IntKind.wrap_u8, hy]; omega
              have c1 := hA.cell k hlt
              have f1 := hA.frozen k
              have hS1 := hA.set k (.int .u8 (k : Nat))
              have e1 : (fun j => if j = k then Value.int .u8 (k : Nat) else tuF 0 k j) = tuF 0 (k + 1) := by
                rw [← tu_next 0 k, Nat.add_zero, Nat.mod_eq_of_lt hlt]
              rw [e1] at hS1
              have hpq : q ≠ p := fun h => HP.out.2.2.1 h.symm
              have hC1 : ArAt (wr.setCell ⟨p, k, none⟩ (.int .u8 (k : Nat))) q 5 (tuF t k) := (put_far wr p k _ hpq).trans hC
              have c2 := hC1.cell k hlt
              have f2 := hC1.frozen k
              have hS2 := hC1.set k (.int .u8 (y : Nat))
              rw [hy, tu_next t k, ← hy] at hS2
              have hA2 : ArAt ((wr.setCell ⟨p, k, none⟩ (.int .u8 (k : Nat))).setCell ⟨q, k, none⟩ (.int .u8 (y : Nat))) p 5 (tuF 0 (k + 1)) := (put_far _ q k _ hpq.symm).trans hS1
              have HR := hideT (And.intro hA2 (And.intro hS2 ((hB.setCell (p := ⟨p, k, none⟩) HP.out.2.2.2.1 (.int .u8 (k : Nat))).setCell (p := ⟨q, k, none⟩) HP.out.2.2.2.2 (.int .u8 (y : Nat)))))
              clear hA hC hB hS1 hS2 hC1 hA2 e1 hy hpq
              go_wp2
              exact ⟨⟨k + 1, by omega, by go_num, HR.out.1, HR.out.2.1, HR.out.2.2⟩, by simp [intOf]; omega⟩
            · obtain rfl : k = 256 := by omega
              have i1 : (((256 : Nat) : Int) < 256) = False := by simp
              have v1 := conv_tu hA
              have v2 := conv_tu hC
              have HQ := hideT (And.intro hA (And.intro hC hB))
              clear hA hC hB hk hlt
              go_wp2_with fail
              clear v1 v2 i1
              refine (N1.out _).mono ?_
              rintro e w6 ⟨rfl, hb6⟩
              obtain ⟨W6, hst6, hT6, hB6, hs6⟩ := V1.out w6
              have hX6 := HQ.out.2.2.trans (hb6.mono HQ.out.2.2.size)
              have hA6 := (HQ.out.1.stay hb6).stay (hB6.mono (Nat.le_refl _))
              have hC6 := (HQ.out.2.1.stay hb6).stay (hB6.mono (Nat.le_refl _))
              have G6 := hideT (And.intro hT6 (And.intro hA6 (And.intro hC6 (hX6.trans (hB6.mono hX6.size)))))
              have v1 := conv_tu hA6
              have v2 := conv_tu hC6
              clear hb6 hT6 hB6 hs6 hX6 hA6 hC6
              go_wp2_with fail
              clear v1 v2 hst6
              refine (N2.out _).mono ?_
              rintro e w7 ⟨rfl, hb7⟩
              obtain ⟨W7, hst7, hT7, hB7, hs7⟩ := V2.out w7
              have hX7 := G6.out.2.2.2.trans (hb7.mono G6.out.2.2.2.size)
              have G7 := hideT (And.intro ((G6.out.1.stay hb7).stay (hB7.mono (Nat.le_refl _))) (And.intro hT7 (hX7.trans (hB7.mono hX7.size))))
              clear hb7 hT7 hB7 hs7 hX7
              go_wp2_with fail
              clear hst7
              have l1 := hideT (R1.out _ _ G7.out.1)
              have l2 := hideT (R2.out _ _ G7.out.2.1)
              have s0 : Below W7.heap.size W7 W7.drew := (Below.refl _ _).drew
              refine wp_region_held (S := fun V => Below W7.heap.size W7 V) (by kernel_rfl) ?_
              refine take_d 0 (some 106) rfl rfl (by kernel_rfl) (by kernel_rfl) (by kernel_rfl) (fun _ _ _ h => h) (by rfl) s0 (fun V hV => load_yield rfl rfl (l2.out V hV)) ?_
              refine take_d 1 (some 107) rfl rfl (by kernel_rfl) (by kernel_rfl) (by kernel_rfl) (fun _ _ _ h => h) (by rfl) s0 (fun V hV => load_yield rfl rfl (l1.out V hV)) ?_
              refine' take_d 2 (some 108) rfl rfl (by kernel_rfl) (by kernel_rfl) (by kernel_rfl) (fun _ _ _ h => h) (by rfl) s0 ?Aphy1 ?Aprest1
              case Aphy1 => intro V _; go_simp; (try with_reducible rfl)
              refine wpAnyH_all (rs := [3]) (by kernel_rfl) (by simp) (fun i hi => ?_)
              obtain rfl : i = 3 := List.mem_singleton.1 hi
              refine op_call (some 109) rfl rfl (by rfl) (by go_simp; (try with_reducible rfl)) (R := fun v w' => v = .string sx ∧ Below W7.heap.size W7 w') ((P1.out _).mono (fun e w' h => ⟨_, h.1, rfl, s0.trans (h.2.mono s0.size)⟩)) ?_
              rintro v8 w8 ⟨rfl, hb8⟩
              refine And.intro hb8 ?_
              refine wpAnyH_all (rs := [4]) (by kernel_rfl) (by simp) (fun i hi => ?_)
              obtain rfl : i = 4 := List.mem_singleton.1 hi
              refine op_call (some 110) rfl rfl (by rfl) (by go_simp; (try with_reducible rfl)) (R := fun v w' => v = .string a ∧ Below W7.heap.size W7 w') ((P2.out _).mono (fun e w' h => ⟨_, h.1, rfl, hb8.trans (h.2.mono hb8.size)⟩)) ?_
              rintro v9 w9 ⟨rfl, hb9⟩
              refine And.intro hb9 ?_
              refine wpAnyH_all (rs := [5]) (by kernel_rfl) (by simp) (fun i hi => ?_)
              obtain rfl : i = 5 := List.mem_singleton.1 hi
              refine op_call (some 111) rfl rfl (by rfl) (by go_simp; (try with_reducible rfl)) (R := fun v w' => Row w' v X ∧ Below W7.heap.size W7 w') ((HLa.out _).mono (fun e w' h => by
                obtain ⟨v, h1, h2, h3⟩ := h
                exact ⟨v, h1, Row.of_owns h2, hb9.trans (h3.mono hb9.size)⟩)) ?_
              rintro v10 w10 ⟨hr10, hb10⟩
              refine And.intro hb10 ?_
              refine wpAnyH_all (rs := [6]) (by kernel_rfl) (by simp) (fun i hi => ?_)
              obtain rfl : i = 6 := List.mem_singleton.1 hi
              refine op_call (some 112) rfl rfl (by rfl) (by go_simp; (try with_reducible rfl)) (R := fun v w' => v = .tuple #[.string a, .int .i64 ((0 : Nat) : Int)] ∧ Below W7.heap.size W7 w') ((HRa.out _ _ hr10 (HG.out.stay (G7.out.2.2.trans (hb10.mono G7.out.2.2.size)))).mono (fun e w' h => ⟨_, h.1, rfl, hb10.trans (h.2.mono hb10.size)⟩)) ?_
              rintro v11 w11 ⟨rfl, hb11⟩
              refine And.intro hb11 ?_
              refine' take_d 7 (some 105) rfl rfl (by kernel_rfl) (by kernel_rfl) (by kernel_rfl) (fun _ _ _ h => h) (wanted_none rfl _) hb11 ?Aphy2 ?Aprest2
              case Aphy2 => intro V _; go_simp; (try with_reducible rfl)
              refine' take_d 8 (some 113) rfl rfl (by kernel_rfl) (by kernel_rfl) (by kernel_rfl) (fun _ _ _ h => h) (wanted_none rfl _) hb11 ?Aphy3 ?Aprest3
              case Aphy3 => intro V _; go_simp; (try with_reducible rfl)
              refine' take_d 9 (some 114) rfl rfl (by kernel_rfl) (by kernel_rfl) (by kernel_rfl) (fun _ _ _ h => h) (wanted_none rfl _) hb11 ?Aphy4 ?Aprest4
              case Aphy4 => intro V _; go_simp; (try with_reducible rfl)
              refine' take_d 10 (some 20) rfl rfl (by kernel_rfl) (by kernel_rfl) (by kernel_rfl) (fun _ _ _ h => h) (wanted_none rfl _) hb11 ?Aphy5 ?Aprest5
              case Aphy5 => intro V _; go_simp; (try with_reducible rfl)
              refine' take_d 11 (some 21) rfl rfl (by kernel_rfl) (by kernel_rfl) (by kernel_rfl) (fun _ _ _ h => h) (wanted_none rfl _) hb11 ?Aphy6 ?Aprest6
              case Aphy6 => intro V _; go_simp; (try with_reducible rfl)
              refine wpAnyH_done (by kernel_rfl) ?_ _
              have HF := hideT (G7.out.2.2.trans (hb11.mono G7.out.2.2.size))
              clear hb8 hb9 hb10 hb11 hr10 s0 l1 l2
              simp only [Act.put, List.setIfInBounds_toArray, List.set_cons_zero, List.set_cons_succ]
              go_wp2
              go_ret
              exact ⟨rfl, HF.out⟩
        · clear mk
          have h5 := made_two wr HZ.out
          have H5 := hideT (And.intro (HB.out.trans (h5.2.2.mono HB.out.size)) HB.out.size)
          obtain ⟨hA, hC, -⟩ := h5
          clear HB
          generalize ((wr.alloc (Obj.cells Z 5)).alloc (Obj.cells Z 5)).drew = W5 at *
          have hpq : wr.heap.size ≠ wr.heap.size + 1 := by omega
          have hge : w.heap.size ≤ wr.heap.size + 1 := Nat.le_succ_of_le H5.out.2
          have hgf : w.heap.size ≤ wr.heap.size := H5.out.2
          have HB := hideT H5.out.1
          clear H5
          generalize wr.heap.size + 1 = p at *
          generalize wr.heap.size = q at *
          have HP := hideT (And.intro hC (And.intro hA (And.intro hpq.symm (And.intro hge hgf))))
          clear hA hC hpq hgf hge
          go_wp2_with fail
          go_loopw [67] (fun n wr => ∃ k : Nat, k ≤ 256 ∧ n = .int .i64 k ∧ ArAt wr p 5 (tuF 0 k) ∧ ArAt wr q 5 (tuF t k) ∧ Below w.heap.size w wr) (fun n _ => 256 - (intOf n).toNat)
          case atStart => exact ⟨0, by omega, rfl, by rw [tu_zero]; exact HP.out.1, by rw [tu_zero]; exact HP.out.2.1, HB.out⟩
          case round =>
            obtain ⟨k, hk, rfl, hA, hC, hB⟩ := hrel
            by_cases hlt : k < 256
            · have i1 : (k : Int) < (256 : Int) := by omega
              have i2 : (0 : Int) ≤ (k : Int) := by omega
              have i3 : IntKind.u8.wrap (k : Int) = (k : Int) := by rw [IntKind.wrap_u8]; omega
              obtain ⟨y, hy⟩ : ∃ y : Nat, y = (k + t) % 256 := ⟨_, rfl⟩
              have i4 : IntKind.u8.wrap ((k : Int) + (t : Int)) = (y : Int) := by rw [IntKind.wrap_u8, hy]; omega
              have c1 := hA.cell k hlt
              have f1 := hA.frozen k
              have hS1 := hA.set k (.int .u8 (k : Nat))
              have e1 : (fun j => if j = k then Value.int .u8 (k : Nat) else tuF 0 k j) = tuF 0 (k + 1) := by
                rw [← tu_next 0 k, Nat.add_zero, Nat.mod_eq_of_lt hlt]
              rw [e1] at hS1
              have hpq : q ≠ p := fun h => HP.out.2.2.1 h.symm
              have hC1 : ArAt (wr.setCell ⟨p, k, none⟩ (.int .u8 (k : Nat))) q 5 (tuF t k) := (put_far wr p k _ hpq).trans hC
              have c2 := hC1.cell k hlt
              have f2 := hC1.frozen k
              have hS2 := hC1.set k (.int .u8 (y : Nat))
              rw [hy, tu_next t k, ← hy] at hS2
              have hA2 : ArAt ((wr.setCell ⟨p, k, none⟩ (.int .u8 (k : Nat))).setCell ⟨q, k, none⟩ (.int .u8 (y : Nat))) p 5 (tuF 0 (k + 1)) := (put_far _ q k _ hpq.symm).trans hS1
              have HR := hideT (And.intro hA2 (And.intro hS2 ((hB.setCell (p := ⟨p, k, none⟩) HP.out.2.2.2.1 (.int .u8 (k : Nat))).setCell (p := ⟨q, k, none⟩) HP.out.2.2.2.2 (.int .u8 (y : Nat)))))
              clear hA hC hB hS1 hS2 hC1 hA2 e1 hy hpq
              go_wp2
              exact ⟨⟨k + 1, by omega, by go_num, HR.out.1, HR.out.2.1, HR.out.2.2⟩, by simp [intOf]; omega⟩
            · obtain rfl : k = 256 := by omega
              have i1 : (((256 : Nat) : Int) < 256) = False := by simp
              have v1 := conv_tu hA
              have v2 := conv_tu hC
              have HQ := hideT (And.intro hA (And.intro hC hB))
              clear hA hC hB hk hlt
              go_wp2_with fail
              clear v1 v2 i1
              refine (N1.out _).mono ?_
              rintro e w6 ⟨rfl, hb6⟩
              obtain ⟨W6, hst6, hT6, hB6, hs6⟩ := V1.out w6
              have hX6 := HQ.out.2.2.trans (hb6.mono HQ.out.2.2.size)
              have hA6 := (HQ.out.1.stay hb6).stay (hB6.mono (Nat.le_refl _))
              have hC6 := (HQ.out.2.1.stay hb6).stay (hB6.mono (Nat.le_refl _))
              have G6 := hideT (And.intro hT6 (And.intro hA6 (And.intro hC6 (hX6.trans (hB6.mono hX6.size)))))
              have v1 := conv_tu hA6
              have v2 := conv_tu hC6
              clear hb6 hT6 hB6 hs6 hX6 hA6 hC6
              go_wp2_with fail
              clear v1 v2 hst6
              refine (N2.out _).mono ?_
              rintro e w7 ⟨rfl, hb7⟩
              obtain ⟨W7, hst7, hT7, hB7, hs7⟩ := V2.out w7
              have hX7 := G6.out.2.2.2.trans (hb7.mono G6.out.2.2.2.size)
              have G7 := hideT (And.intro ((G6.out.1.stay hb7).stay (hB7.mono (Nat.le_refl _))) (And.intro hT7 (hX7.trans (hB7.mono hX7.size))))
              clear hb7 hT7 hB7 hs7 hX7
              go_wp2_with fail
              clear hst7
              have l1 := hideT (R1.out _ _ G7.out.1)
              have l2 := hideT (R2.out _ _ G7.out.2.1)
              have s0 : Below W7.heap.size W7 W7.drew := (Below.refl _ _).drew
              refine wp_region_held (S := fun V => Below W7.heap.size W7 V) (by kernel_rfl) ?_
              refine take_d 0 (some 106) rfl rfl (by kernel_rfl) (by kernel_rfl) (by kernel_rfl) (fun _ _ _ h => h) (by rfl) s0 (fun V hV => load_yield rfl rfl (l2.out V hV)) ?_
              refine take_d 1 (some 107) rfl rfl (by kernel_rfl) (by kernel_rfl) (by kernel_rfl) (fun _ _ _ h => h) (by rfl) s0 (fun V hV => load_yield rfl rfl (l1.out V hV)) ?_
              refine' take_d 2 (some 108) rfl rfl (by kernel_rfl) (by kernel_rfl) (by kernel_rfl) (fun _ _ _ h => h) (by rfl) s0 ?Aqhy1 ?Aqrest1
              case Aqhy1 => intro V _; go_simp; (try with_reducible rfl)
              refine wpAnyH_all (rs := [3]) (by kernel_rfl) (by simp) (fun i hi => ?_)
              obtain rfl : i = 3 := List.mem_singleton.1 hi
              refine op_call (some 109) rfl rfl (by rfl) (by go_simp; (try with_reducible rfl)) (R := fun v w' => v = .string sx ∧ Below W7.heap.size W7 w') ((P1.out _).mono (fun e w' h => ⟨_, h.1, rfl, s0.trans (h.2.mono s0.size)⟩)) ?_
              rintro v8 w8 ⟨rfl, hb8⟩
              refine And.intro hb8 ?_
              refine wpAnyH_all (rs := [4]) (by kernel_rfl) (by simp) (fun i hi => ?_)
              obtain rfl : i = 4 := List.mem_singleton.1 hi
              refine op_call (some 110) rfl rfl (by rfl) (by go_simp; (try with_reducible rfl)) (R := fun v w' => v = .string a ∧ Below W7.heap.size W7 w') ((P2.out _).mono (fun e w' h => ⟨_, h.1, rfl, hb8.trans (h.2.mono hb8.size)⟩)) ?_
              rintro v9 w9 ⟨rfl, hb9⟩
              refine And.intro hb9 ?_
              refine wpAnyH_all (rs := [5]) (by kernel_rfl) (by simp) (fun i hi => ?_)
              obtain rfl : i = 5 := List.mem_singleton.1 hi
              refine op_call (some 111) rfl rfl (by rfl) (by go_simp; (try with_reducible rfl)) (R := fun v w' => Row w' v X ∧ Below W7.heap.size W7 w') ((HLa.out _).mono (fun e w' h => by
                obtain ⟨v, h1, h2, h3⟩ := h
                exact ⟨v, h1, Row.of_owns h2, hb9.trans (h3.mono hb9.size)⟩)) ?_
              rintro v10 w10 ⟨hr10, hb10⟩
              refine And.intro hb10 ?_
              refine wpAnyH_all (rs := [6]) (by kernel_rfl) (by simp) (fun i hi => ?_)
              obtain rfl : i = 6 := List.mem_singleton.1 hi
              refine op_call (some 112) rfl rfl (by rfl) (by go_simp; (try with_reducible rfl)) (R := fun v w' => v = .tuple #[.string a, .int .i64 ((0 : Nat) : Int)] ∧ Below W7.heap.size W7 w') ((HRa.out _ _ hr10 (HG.out.stay (G7.out.2.2.trans (hb10.mono G7.out.2.2.size)))).mono (fun e w' h => ⟨_, h.1, rfl, hb10.trans (h.2.mono hb10.size)⟩)) ?_
              rintro v11 w11 ⟨rfl, hb11⟩
              refine And.intro hb11 ?_
              refine' take_d 7 (some 105) rfl rfl (by kernel_rfl) (by kernel_rfl) (by kernel_rfl) (fun _ _ _ h => h) (wanted_none rfl _) hb11 ?Aqhy2 ?Aqrest2
              case Aqhy2 => intro V _; go_simp; (try with_reducible rfl)
              refine' take_d 8 (some 113) rfl rfl (by kernel_rfl) (by kernel_rfl) (by kernel_rfl) (fun _ _ _ h => h) (wanted_none rfl _) hb11 ?Aqhy3 ?Aqrest3
              case Aqhy3 => intro V _; go_simp; (try with_reducible rfl)
              refine' take_d 9 (some 114) rfl rfl (by kernel_rfl) (by kernel_rfl) (by kernel_rfl) (fun _ _ _ h => h) (wanted_none rfl _) hb11 ?Aqhy4 ?Aqrest4
              case Aqhy4 => intro V _; go_simp; (try with_reducible rfl)
              refine' take_d 10 (some 20) rfl rfl (by kernel_rfl) (by kernel_rfl) (by kernel_rfl) (fun _ _ _ h => h) (wanted_none rfl _) hb11 ?Aqhy5 ?Aqrest5
              case Aqhy5 => intro V _; go_simp; (try with_reducible rfl)
              refine' take_d 11 (some 21) rfl rfl (by kernel_rfl) (by kernel_rfl) (by kernel_rfl) (fun _ _ _ h => h) (wanted_none rfl _) hb11 ?Aqhy6 ?Aqrest6
              case Aqhy6 => intro V _; go_simp; (try with_reducible rfl)
              refine wpAnyH_done (by kernel_rfl) ?_ _
              have HF := hideT (G7.out.2.2.trans (hb11.mono G7.out.2.2.size))
              clear hb8 hb9 hb10 hb11 hr10 s0 l1 l2
              simp only [Act.put, List.setIfInBounds_toArray, List.set_cons_zero, List.set_cons_succ]
              go_wp2
              go_ret
              exact ⟨rfl, HF.out⟩
  · have HNE := hideT (fun h : X = Y => hab (ByteArray.ext (Array.ext' (HI.out h))))
    have hl0 : (a.toList == b.toList) = false := by
      rw [beq_eq_false_iff_ne]
      intro h
      rw [Lib.toList_data, Lib.toList_data] at h
      exact hab (ByteArray.ext (Array.ext' h))
    have HL0 := hideT hl0
    clear HI HE hl0 hab
    have hq : ((X.length : Int) == (Y.length : Int)) = decide (X.length = Y.length) := by
      rw [Bool.eq_iff_iff, beq_iff_eq, decide_eq_true_iff]
      omega
    go_wp2_with fail
    clear hq
    go_loopw [11, 12] (fun v i wr => ∃ k : Nat, k ≤ X.length ∧ v = .bool (decide (X.length = Y.length ∧ X.take k = Y.take k)) ∧ i = .int .i64 k ∧ Below w4.heap.size w4 wr) (fun _ i _ => X.length - (intOf i).toNat)
    case atStart => exact ⟨0, by omega, by simp, rfl, Below.refl _ _⟩
    case round =>
      obtain ⟨k, hk, rfl, rfl, hB⟩ := hrel
      by_cases hsm : X.length = Y.length ∧ X.take k = Y.take k
      · rw [decide_eq_true hsm]
        have hlt : k < X.length := by
          rcases Nat.lt_or_ge k X.length with h | h
          · exact h
          · have h2 := hsm.2
            rw [List.take_of_length_le h, List.take_of_length_le (by omega)] at h2
            exact (HNE.out h2).elim
        have hlt2 : k < Y.length := by omega
        have i1 : (k : Int) < (X.length : Int) := by omega
        have i2 : (0 : Int) ≤ (k : Int) := by omega
        have i3 : (k : Int) < (Y.length : Int) := by omega
        rcases H4.out.1 with ⟨h, -⟩ | ⟨g, off, c, e1, ha⟩
        · rw [h] at hlt; simp at hlt
        rcases H4.out.2.1 with ⟨h, -⟩ | ⟨g2, off2, c2, e2, hb⟩
        · rw [h] at hlt2; simp at hlt2
        cases e1
        cases e2
        have h1 := (hB.cell (p := ⟨g, off + k, none⟩) (cell_lt (ha k hlt))).trans (ha k hlt)
        have h2 := (hB.cell (p := ⟨g2, off2 + k, none⟩) (cell_lt (hb k hlt2))).trans (hb k hlt2)
        have hst : ((bst X[k]).toList == (bst Y[k]).toList) = decide (X.length = Y.length ∧ X.take (k + 1) = Y.take (k + 1)) := by
          rw [bst_toList, bst_toList, Bool.eq_iff_iff, beq_iff_eq, decide_eq_true_iff, List.take_succ_eq_append_getElem hlt, List.take_succ_eq_append_getElem hlt2, hsm.2]
          exact ⟨fun h => ⟨hsm.1, by rw [h]⟩, fun h => by have := List.append_cancel_left h.2; simpa using this⟩
        have HST := hideT hst
        have HB := hideT hB
        clear hB ha hb hsm hst
        generalize bst X[k] = xs at *
        generalize bst Y[k] = ys at *
        go_wp2_with fail
        go_region
        go_wp2
        exact ⟨⟨k + 1, by omega, by rw [HST.out], by go_num, HB.out.drew⟩, by simp [intOf]; omega⟩
      · rw [decide_eq_false hsm]
        have HB := hideT (H4.out.2.2.trans (hB.mono H4.out.2.2.size))
        have hl0 := HL0.out
        clear hB H4 hk hsm
        go_wp2_with fail
        clear hl0
        have mk := MK.out
        go_region
        · clear mk
          have h5 := made_two wr HZ.out
          have H5 := hideT (And.intro (HB.out.trans (h5.2.2.mono HB.out.size)) HB.out.size)
          obtain ⟨hA, hC, -⟩ := h5
          clear HB
          generalize ((wr.alloc (Obj.cells Z 5)).alloc (Obj.cells Z 5)).drew = W5 at *
          have hpq : wr.heap.size ≠ wr.heap.size + 1 := by omega
          have hge : w.heap.size ≤ wr.heap.size + 1 := Nat.le_succ_of_le H5.out.2
          have hgf : w.heap.size ≤ wr.heap.size := H5.out.2
          have HB := hideT H5.out.1
          clear H5
          generalize wr.heap.size + 1 = q at *
          generalize wr.heap.size = p at *
          have HP := hideT (And.intro hA (And.intro hC (And.intro hpq (And.intro hgf hge))))
          clear hA hC hpq hgf hge
          go_wp2_with fail
          go_loopw [67] (fun n wr => ∃ k : Nat, k ≤ 256 ∧ n = .int .i64 k ∧ ArAt wr p 5 (tuF 0 k) ∧ ArAt wr q 5 (tuF t k) ∧ Below w.heap.size w wr) (fun n _ => 256 - (intOf n).toNat)
          case atStart => exact ⟨0, by omega, rfl, by rw [tu_zero]; exact HP.out.1, by rw [tu_zero]; exact HP.out.2.1, HB.out⟩
          case round =>
            obtain ⟨k, hk, rfl, hA, hC, hB⟩ := hrel
            by_cases hlt : k < 256
            · have i1 : (k : Int) < (256 : Int) := by omega
              have i2 : (0 : Int) ≤ (k : Int) := by omega
              have i3 : IntKind.u8.wrap (k : Int) = (k : Int) := by rw [IntKind.wrap_u8]; omega
              obtain ⟨y, hy⟩ : ∃ y : Nat, y = (k + t) % 256 := ⟨_, rfl⟩
              have i4 : IntKind.u8.wrap ((k : Int) + (t : Int)) = (y : Int) := by rw [IntKind.wrap_u8, hy]; omega
              have c1 := hA.cell k hlt
              have f1 := hA.frozen k
              have hS1 := hA.set k (.int .u8 (k : Nat))
              have e1 : (fun j => if j = k then Value.int .u8 (k : Nat) else tuF 0 k j) = tuF 0 (k + 1) := by
                rw [← tu_next 0 k, Nat.add_zero, Nat.mod_eq_of_lt hlt]
              rw [e1] at hS1
              have hpq : q ≠ p := fun h => HP.out.2.2.1 h.symm
              have hC1 : ArAt (wr.setCell ⟨p, k, none⟩ (.int .u8 (k : Nat))) q 5 (tuF t k) := (put_far wr p k _ hpq).trans hC
              have c2 := hC1.cell k hlt
              have f2 := hC1.frozen k
              have hS2 := hC1.set k (.int .u8 (y : Nat))
              rw [hy, tu_next t k, ← hy] at hS2
              have hA2 : ArAt ((wr.setCell ⟨p, k, none⟩ (.int .u8 (k : Nat))).setCell ⟨q, k, none⟩ (.int .u8 (y : Nat))) p 5 (tuF 0 (k + 1)) := (put_far _ q k _ hpq.symm).trans hS1
              have HR := hideT (And.intro hA2 (And.intro hS2 ((hB.setCell (p := ⟨p, k, none⟩) HP.out.2.2.2.1 (.int .u8 (k : Nat))).setCell (p := ⟨q, k, none⟩) HP.out.2.2.2.2 (.int .u8 (y : Nat)))))
              clear hA hC hB hS1 hS2 hC1 hA2 e1 hy hpq
              go_wp2
              exact ⟨⟨k + 1, by omega, by go_num, HR.out.1, HR.out.2.1, HR.out.2.2⟩, by simp [intOf]; omega⟩
            · obtain rfl : k = 256 := by omega
              have i1 : (((256 : Nat) : Int) < 256) = False := by simp
              have v1 := conv_tu hA
              have v2 := conv_tu hC
              have HQ := hideT (And.intro hA (And.intro hC hB))
              clear hA hC hB hk hlt
              go_wp2_with fail
              clear v1 v2 i1
              refine (N1.out _).mono ?_
              rintro e w6 ⟨rfl, hb6⟩
              obtain ⟨W6, hst6, hT6, hB6, hs6⟩ := V1.out w6
              have hX6 := HQ.out.2.2.trans (hb6.mono HQ.out.2.2.size)
              have hA6 := (HQ.out.1.stay hb6).stay (hB6.mono (Nat.le_refl _))
              have hC6 := (HQ.out.2.1.stay hb6).stay (hB6.mono (Nat.le_refl _))
              have G6 := hideT (And.intro hT6 (And.intro hA6 (And.intro hC6 (hX6.trans (hB6.mono hX6.size)))))
              have v1 := conv_tu hA6
              have v2 := conv_tu hC6
              clear hb6 hT6 hB6 hs6 hX6 hA6 hC6
              go_wp2_with fail
              clear v1 v2 hst6
              refine (N2.out _).mono ?_
              rintro e w7 ⟨rfl, hb7⟩
              obtain ⟨W7, hst7, hT7, hB7, hs7⟩ := V2.out w7
              have hX7 := G6.out.2.2.2.trans (hb7.mono G6.out.2.2.2.size)
              have G7 := hideT (And.intro ((G6.out.1.stay hb7).stay (hB7.mono (Nat.le_refl _))) (And.intro hT7 (hX7.trans (hB7.mono hX7.size))))
              clear hb7 hT7 hB7 hs7 hX7
              go_wp2_with fail
              clear hst7
              have l1 := hideT (R1.out _ _ G7.out.1)
              have l2 := hideT (R2.out _ _ G7.out.2.1)
              have s0 : Below W7.heap.size W7 W7.drew := (Below.refl _ _).drew
              refine wp_region_held (S := fun V => Below W7.heap.size W7 V) (by kernel_rfl) ?_
              refine take_d 0 (some 106) rfl rfl (by kernel_rfl) (by kernel_rfl) (by kernel_rfl) (fun _ _ _ h => h) (by rfl) s0 (fun V hV => load_yield rfl rfl (l2.out V hV)) ?_
              refine take_d 1 (some 107) rfl rfl (by kernel_rfl) (by kernel_rfl) (by kernel_rfl) (fun _ _ _ h => h) (by rfl) s0 (fun V hV => load_yield rfl rfl (l1.out V hV)) ?_
              refine' take_d 2 (some 108) rfl rfl (by kernel_rfl) (by kernel_rfl) (by kernel_rfl) (fun _ _ _ h => h) (by rfl) s0 ?phy1 ?prest1
              case phy1 => intro V _; go_simp; (try with_reducible rfl)
              refine wpAnyH_all (rs := [3]) (by kernel_rfl) (by simp) (fun i hi => ?_)
              obtain rfl : i = 3 := List.mem_singleton.1 hi
              refine op_call (some 109) rfl rfl (by rfl) (by go_simp; (try with_reducible rfl)) (R := fun v w' => v = .string sx ∧ Below W7.heap.size W7 w') ((P1.out _).mono (fun e w' h => ⟨_, h.1, rfl, s0.trans (h.2.mono s0.size)⟩)) ?_
              rintro v8 w8 ⟨rfl, hb8⟩
              refine And.intro hb8 ?_
              refine wpAnyH_all (rs := [4]) (by kernel_rfl) (by simp) (fun i hi => ?_)
              obtain rfl : i = 4 := List.mem_singleton.1 hi
              refine op_call (some 110) rfl rfl (by rfl) (by go_simp; (try with_reducible rfl)) (R := fun v w' => v = .string a ∧ Below W7.heap.size W7 w') ((P2.out _).mono (fun e w' h => ⟨_, h.1, rfl, hb8.trans (h.2.mono hb8.size)⟩)) ?_
              rintro v9 w9 ⟨rfl, hb9⟩
              refine And.intro hb9 ?_
              refine wpAnyH_all (rs := [5]) (by kernel_rfl) (by simp) (fun i hi => ?_)
              obtain rfl : i = 5 := List.mem_singleton.1 hi
              refine op_call (some 111) rfl rfl (by rfl) (by go_simp; (try with_reducible rfl)) (R := fun v w' => Row w' v X ∧ Below W7.heap.size W7 w') ((HLa.out _).mono (fun e w' h => by
                obtain ⟨v, h1, h2, h3⟩ := h
                exact ⟨v, h1, Row.of_owns h2, hb9.trans (h3.mono hb9.size)⟩)) ?_
              rintro v10 w10 ⟨hr10, hb10⟩
              refine And.intro hb10 ?_
              refine wpAnyH_all (rs := [6]) (by kernel_rfl) (by simp) (fun i hi => ?_)
              obtain rfl : i = 6 := List.mem_singleton.1 hi
              refine op_call (some 112) rfl rfl (by rfl) (by go_simp; (try with_reducible rfl)) (R := fun v w' => v = .tuple #[.string a, .int .i64 ((0 : Nat) : Int)] ∧ Below W7.heap.size W7 w') ((HRa.out _ _ hr10 (HG.out.stay (G7.out.2.2.trans (hb10.mono G7.out.2.2.size)))).mono (fun e w' h => ⟨_, h.1, rfl, hb10.trans (h.2.mono hb10.size)⟩)) ?_
              rintro v11 w11 ⟨rfl, hb11⟩
              refine And.intro hb11 ?_
              refine' take_d 7 (some 105) rfl rfl (by kernel_rfl) (by kernel_rfl) (by kernel_rfl) (fun _ _ _ h => h) (wanted_none rfl _) hb11 ?phy2 ?prest2
              case phy2 => intro V _; go_simp; (try with_reducible rfl)
              refine' take_d 8 (some 113) rfl rfl (by kernel_rfl) (by kernel_rfl) (by kernel_rfl) (fun _ _ _ h => h) (wanted_none rfl _) hb11 ?phy3 ?prest3
              case phy3 => intro V _; go_simp; (try with_reducible rfl)
              refine' take_d 9 (some 114) rfl rfl (by kernel_rfl) (by kernel_rfl) (by kernel_rfl) (fun _ _ _ h => h) (wanted_none rfl _) hb11 ?phy4 ?prest4
              case phy4 => intro V _; go_simp; (try with_reducible rfl)
              refine' take_d 10 (some 20) rfl rfl (by kernel_rfl) (by kernel_rfl) (by kernel_rfl) (fun _ _ _ h => h) (wanted_none rfl _) hb11 ?phy5 ?prest5
              case phy5 => intro V _; go_simp; (try with_reducible rfl)
              refine' take_d 11 (some 21) rfl rfl (by kernel_rfl) (by kernel_rfl) (by kernel_rfl) (fun _ _ _ h => h) (wanted_none rfl _) hb11 ?phy6 ?prest6
              case phy6 => intro V _; go_simp; (try with_reducible rfl)
              refine wpAnyH_done (by kernel_rfl) ?_ _
              have HF := hideT (G7.out.2.2.trans (hb11.mono G7.out.2.2.size))
              clear hb8 hb9 hb10 hb11 hr10 s0 l1 l2
              simp only [Act.put, List.setIfInBounds_toArray, List.set_cons_zero, List.set_cons_succ]
              go_wp2
              go_ret
              exact ⟨rfl, HF.out⟩
        · clear mk
          have h5 := made_two wr HZ.out
          have H5 := hideT (And.intro (HB.out.trans (h5.2.2.mono HB.out.size)) HB.out.size)
          obtain ⟨hA, hC, -⟩ := h5
          clear HB
          generalize ((wr.alloc (Obj.cells Z 5)).alloc (Obj.cells Z 5)).drew = W5 at *
          have hpq : wr.heap.size ≠ wr.heap.size + 1 := by omega
          have hge : w.heap.size ≤ wr.heap.size + 1 := Nat.le_succ_of_le H5.out.2
          have hgf : w.heap.size ≤ wr.heap.size := H5.out.2
          have HB := hideT H5.out.1
          clear H5
          generalize wr.heap.size + 1 = p at *
          generalize wr.heap.size = q at *
          have HP := hideT (And.intro hC (And.intro hA (And.intro hpq.symm (And.intro hge hgf))))
          clear hA hC hpq hgf hge
          go_wp2_with fail
          go_loopw [67] (fun n wr => ∃ k : Nat, k ≤ 256 ∧ n = .int .i64 k ∧ ArAt wr p 5 (tuF 0 k) ∧ ArAt wr q 5 (tuF t k) ∧ Below w.heap.size w wr) (fun n _ => 256 - (intOf n).toNat)
          case atStart => exact ⟨0, by omega, rfl, by rw [tu_zero]; exact HP.out.1, by rw [tu_zero]; exact HP.out.2.1, HB.out⟩
          case round =>
            obtain ⟨k, hk, rfl, hA, hC, hB⟩ := hrel
            by_cases hlt : k < 256
            · have i1 : (k : Int) < (256 : Int) := by omega
              have i2 : (0 : Int) ≤ (k : Int) := by omega
              have i3 : IntKind.u8.wrap (k : Int) = (k : Int) := by rw [IntKind.wrap_u8]; omega
              obtain ⟨y, hy⟩ : ∃ y : Nat, y = (k + t) % 256 := ⟨_, rfl⟩
              have i4 : IntKind.u8.wrap ((k : Int) + (t : Int)) = (y : Int) := by rw [IntKind.wrap_u8, hy]; omega
              have c1 := hA.cell k hlt
              have f1 := hA.frozen k
              have hS1 := hA.set k (.int .u8 (k : Nat))
              have e1 : (fun j => if j = k then Value.int .u8 (k : Nat) else tuF 0 k j) = tuF 0 (k + 1) := by
                rw [← tu_next 0 k, Nat.add_zero, Nat.mod_eq_of_lt hlt]
              rw [e1] at hS1
              have hpq : q ≠ p := fun h => HP.out.2.2.1 h.symm
              have hC1 : ArAt (wr.setCell ⟨p, k, none⟩ (.int .u8 (k : Nat))) q 5 (tuF t k) := (put_far wr p k _ hpq).trans hC
              have c2 := hC1.cell k hlt
              have f2 := hC1.frozen k
              have hS2 := hC1.set k (.int .u8 (y : Nat))
              rw [hy, tu_next t k, ← hy] at hS2
              have hA2 : ArAt ((wr.setCell ⟨p, k, none⟩ (.int .u8 (k : Nat))).setCell ⟨q, k, none⟩ (.int .u8 (y : Nat))) p 5 (tuF 0 (k + 1)) := (put_far _ q k _ hpq.symm).trans hS1
              have HR := hideT (And.intro hA2 (And.intro hS2 ((hB.setCell (p := ⟨p, k, none⟩) HP.out.2.2.2.1 (.int .u8 (k : Nat))).setCell (p := ⟨q, k, none⟩) HP.out.2.2.2.2 (.int .u8 (y : Nat)))))
              clear hA hC hB hS1 hS2 hC1 hA2 e1 hy hpq
              go_wp2
              exact ⟨⟨k + 1, by omega, by go_num, HR.out.1, HR.out.2.1, HR.out.2.2⟩, by simp [intOf]; omega⟩
            · obtain rfl : k = 256 := by omega
              have i1 : (((256 : Nat) : Int) < 256) = False := by simp
              have v1 := conv_tu hA
              have v2 := conv_tu hC
              have HQ := hideT (And.intro hA (And.intro hC hB))
              clear hA hC hB hk hlt
              go_wp2_with fail
              clear v1 v2 i1
              refine (N1.out _).mono ?_
              rintro e w6 ⟨rfl, hb6⟩
              obtain ⟨W6, hst6, hT6, hB6, hs6⟩ := V1.out w6
              have hX6 := HQ.out.2.2.trans (hb6.mono HQ.out.2.2.size)
              have hA6 := (HQ.out.1.stay hb6).stay (hB6.mono (Nat.le_refl _))
              have hC6 := (HQ.out.2.1.stay hb6).stay (hB6.mono (Nat.le_refl _))
              have G6 := hideT (And.intro hT6 (And.intro hA6 (And.intro hC6 (hX6.trans (hB6.mono hX6.size)))))
              have v1 := conv_tu hA6
              have v2 := conv_tu hC6
              clear hb6 hT6 hB6 hs6 hX6 hA6 hC6
              go_wp2_with fail
              clear v1 v2 hst6
              refine (N2.out _).mono ?_
              rintro e w7 ⟨rfl, hb7⟩
              obtain ⟨W7, hst7, hT7, hB7, hs7⟩ := V2.out w7
              have hX7 := G6.out.2.2.2.trans (hb7.mono G6.out.2.2.2.size)
              have G7 := hideT (And.intro ((G6.out.1.stay hb7).stay (hB7.mono (Nat.le_refl _))) (And.intro hT7 (hX7.trans (hB7.mono hX7.size))))
              clear hb7 hT7 hB7 hs7 hX7
              go_wp2_with fail
              clear hst7
              have l1 := hideT (R1.out _ _ G7.out.1)
              have l2 := hideT (R2.out _ _ G7.out.2.1)
              have s0 : Below W7.heap.size W7 W7.drew := (Below.refl _ _).drew
              refine wp_region_held (S := fun V => Below W7.heap.size W7 V) (by kernel_rfl) ?_
              refine take_d 0 (some 106) rfl rfl (by kernel_rfl) (by kernel_rfl) (by kernel_rfl) (fun _ _ _ h => h) (by rfl) s0 (fun V hV => load_yield rfl rfl (l2.out V hV)) ?_
              refine take_d 1 (some 107) rfl rfl (by kernel_rfl) (by kernel_rfl) (by kernel_rfl) (fun _ _ _ h => h) (by rfl) s0 (fun V hV => load_yield rfl rfl (l1.out V hV)) ?_
              refine' take_d 2 (some 108) rfl rfl (by kernel_rfl) (by kernel_rfl) (by kernel_rfl) (fun _ _ _ h => h) (by rfl) s0 ?qhy1 ?qrest1
              case qhy1 => intro V _; go_simp; (try with_reducible rfl)
              refine wpAnyH_all (rs := [3]) (by kernel_rfl) (by simp) (fun i hi => ?_)
              obtain rfl : i = 3 := List.mem_singleton.1 hi
              refine op_call (some 109) rfl rfl (by rfl) (by go_simp; (try with_reducible rfl)) (R := fun v w' => v = .string sx ∧ Below W7.heap.size W7 w') ((P1.out _).mono (fun e w' h => ⟨_, h.1, rfl, s0.trans (h.2.mono s0.size)⟩)) ?_
              rintro v8 w8 ⟨rfl, hb8⟩
              refine And.intro hb8 ?_
              refine wpAnyH_all (rs := [4]) (by kernel_rfl) (by simp) (fun i hi => ?_)
              obtain rfl : i = 4 := List.mem_singleton.1 hi
              refine op_call (some 110) rfl rfl (by rfl) (by go_simp; (try with_reducible rfl)) (R := fun v w' => v = .string a ∧ Below W7.heap.size W7 w') ((P2.out _).mono (fun e w' h => ⟨_, h.1, rfl, hb8.trans (h.2.mono hb8.size)⟩)) ?_
              rintro v9 w9 ⟨rfl, hb9⟩
              refine And.intro hb9 ?_
              refine wpAnyH_all (rs := [5]) (by kernel_rfl) (by simp) (fun i hi => ?_)
              obtain rfl : i = 5 := List.mem_singleton.1 hi
              refine op_call (some 111) rfl rfl (by rfl) (by go_simp; (try with_reducible rfl)) (R := fun v w' => Row w' v X ∧ Below W7.heap.size W7 w') ((HLa.out _).mono (fun e w' h => by
                obtain ⟨v, h1, h2, h3⟩ := h
                exact ⟨v, h1, Row.of_owns h2, hb9.trans (h3.mono hb9.size)⟩)) ?_
              rintro v10 w10 ⟨hr10, hb10⟩
              refine And.intro hb10 ?_
              refine wpAnyH_all (rs := [6]) (by kernel_rfl) (by simp) (fun i hi => ?_)
              obtain rfl : i = 6 := List.mem_singleton.1 hi
              refine op_call (some 112) rfl rfl (by rfl) (by go_simp; (try with_reducible rfl)) (R := fun v w' => v = .tuple #[.string a, .int .i64 ((0 : Nat) : Int)] ∧ Below W7.heap.size W7 w') ((HRa.out _ _ hr10 (HG.out.stay (G7.out.2.2.trans (hb10.mono G7.out.2.2.size)))).mono (fun e w' h => ⟨_, h.1, rfl, hb10.trans (h.2.mono hb10.size)⟩)) ?_
              rintro v11 w11 ⟨rfl, hb11⟩
              refine And.intro hb11 ?_
              refine' take_d 7 (some 105) rfl rfl (by kernel_rfl) (by kernel_rfl) (by kernel_rfl) (fun _ _ _ h => h) (wanted_none rfl _) hb11 ?qhy2 ?qrest2
              case qhy2 => intro V _; go_simp; (try with_reducible rfl)
              refine' take_d 8 (some 113) rfl rfl (by kernel_rfl) (by kernel_rfl) (by kernel_rfl) (fun _ _ _ h => h) (wanted_none rfl _) hb11 ?qhy3 ?qrest3
              case qhy3 => intro V _; go_simp; (try with_reducible rfl)
              refine' take_d 9 (some 114) rfl rfl (by kernel_rfl) (by kernel_rfl) (by kernel_rfl) (fun _ _ _ h => h) (wanted_none rfl _) hb11 ?qhy4 ?qrest4
              case qhy4 => intro V _; go_simp; (try with_reducible rfl)
              refine' take_d 10 (some 20) rfl rfl (by kernel_rfl) (by kernel_rfl) (by kernel_rfl) (fun _ _ _ h => h) (wanted_none rfl _) hb11 ?qhy5 ?qrest5
              case qhy5 => intro V _; go_simp; (try with_reducible rfl)
              refine' take_d 11 (some 21) rfl rfl (by kernel_rfl) (by kernel_rfl) (by kernel_rfl) (fun _ _ _ h => h) (wanted_none rfl _) hb11 ?qhy6 ?qrest6
              case qhy6 => intro V _; go_simp; (try with_reducible rfl)
              refine wpAnyH_done (by kernel_rfl) ?_ _
              have HF := hideT (G7.out.2.2.trans (hb11.mono G7.out.2.2.size))
              clear hb8 hb9 hb10 hb11 hr10 s0 l1 l2
              simp only [Act.put, List.setIfInBounds_toArray, List.set_cons_zero, List.set_cons_succ]
              go_wp2
              go_ret
              exact ⟨rfl, HF.out⟩

end Go.Proofs.YtjckdfdgkkmmjaaDoor
