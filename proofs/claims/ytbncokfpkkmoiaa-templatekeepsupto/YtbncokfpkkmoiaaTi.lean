/- template: the document's Parse, the walk. -/
import Derived.Test.YtbncokfpkkmoiaaTh
namespace Go.Proofs.Ytbncokfpkkmoiaa
open Go.RowKit

theorem one_le (l : List UInt8) (h : l.length ≤ 1) : (bst l).size ≤ 1 := by rw [bst_size]; exact h

set_option maxRecDepth 100000 in
set_option maxHeartbeats 4000000 in
theorem docParse_any (s : ByteArray) (hs : s.size ≤ 4611686018427387904) (w : World) :
    Calls Try.prog 10 #[.string s] w fun e w' => ∃ v, e = .returned (.tuple #[v, .int .i64 ((parseR s.data.toList).2.1 : Nat), .int .i64 ((parseR s.data.toList).2.2 : Nat)]) ∧ w'.ownsRow w.heap.size 48 2 v (parseR s.data.toList).1.ps.length (ptV (parseR s.data.toList).1.ps) ∧ Below w.heap.size w w' := by
  have hlen : s.data.toList.length = s.size := rfl
  by_cases hbig : 4096 < s.size
  · have hp : parseR s.data.toList = (⟨[], []⟩, 2, 0) := by unfold parseR; rw [hlen, if_pos hbig]
    rw [hp]
    have i1 : (4096 : Int) < (s.size : Int) := by omega
    go_enter Try.func10, Try.ntmps10
    go_wp2
    go_ret3
    exact ⟨.slice none 0 0, rfl, World.ownsRow_nil _ _ _ _, Below.refl _ _⟩
  · have hp : parseR s.data.toList = runP s.data.toList 0 ⟨[], []⟩ := by unfold parseR; rw [hlen, if_neg hbig]
    rw [hp]
    generalize hR : runP s.data.toList 0 ⟨[], []⟩ = R
    have HR := hideT hR
    clear hR hp
    have i1 : ((s.size : Int) ≤ 4096) := by omega
    have i1' : ((4096 : Int) < (s.size : Int)) = False := by rw [eq_iff_iff, iff_false]; omega
    go_enter Try.func10, Try.ntmps10
    go_wp2_with fail
    go_loopw [5, 6] (fun v i wr => ∃ (k : Nat) (x : Ga), k ≤ s.size ∧ i = .int .i64 k ∧ wr.ownsRow w.heap.size 48 2 v x.out.ps.length (ptV x.out.ps) ∧ Below w.heap.size w wr ∧ runP (s.data.toList.drop k) k x = runP s.data.toList 0 ⟨[], []⟩ ∧ okG x ∧ shG x k ∧ x.wt ≤ k) (fun _ i _ => s.size - (intOf i).toNat)
    case atStart => exact ⟨0, ⟨[], []⟩, by omega, rfl, World.ownsRow_nil _ _ _ _, Below.refl _ _, by simp, by intro p hp; simp at hp, by simp [shG], by simp [Ga.wt]⟩
    case round =>
      obtain ⟨k, x, hk, rfl, hO, hBw, hrun, hok, hsh, hwt⟩ := hrel
      have how : x.out.ps.length ≤ k := by rw [out_wt]; exact hwt
      have hso := sh_out hsh
      obtain ⟨va, vc, rfl⟩ := owns_shape hO
      by_cases hlt : k < s.size
      · have i2 : (k : Int) < (s.size : Int) := by omega
        have i3 : (0 : Int) ≤ (k : Int) := by omega
        have i4 : (k : Int) + 1 ≤ (s.size : Int) := by omega
        rw [drop_at s k hlt] at hrun
        have hx1 := ext_one s k hlt
        by_cases c2 : (s[k]'hlt).toNat = 10
        · rw [runP_nl _ _ _ _ c2] at hrun
          have e2 : (((s[k]'hlt).toNat : Int) == 10) = true := by rw [beq_iff_eq]; omega
          obtain rfl := hrun.trans HR.out
          clear HR
          have HB := hideT (fun o : Obj => hBw.alloc hBw.size o)
          clear hO hBw hok hsh hwt hso
          go_wp2
          go_ret3
          exact ⟨.slice none 0 0, rfl, World.ownsRow_nil _ _ _ _, HB.out _⟩
        have e2 : (((s[k]'hlt).toNat : Int) == 10) = false := by rw [beq_eq_false_iff_ne]; omega
        by_cases c1 : (s[k]'hlt).toNat = 38
        · rw [runP_amp _ _ _ _ c1] at hrun
          have e1 : (((s[k]'hlt).toNat : Int) == 38) = true := by rw [beq_iff_eq]; omega
          have e3 : (((s[k]'hlt).toNat : Int) == 92) = false := by rw [beq_eq_false_iff_ne]; omega
          have HA := hideT ((Below.refl wr.heap.size wr).alloc (Nat.le_refl _) (.cells #[.int .i64 0, .string ⟨#[]⟩] 48))
          have HT : Hid (∀ q ∈ x.out.ps, q.t.size + (⟨0, bst []⟩ : Pt).t.size ≤ 1073741824) := hideT (fun q hq => by
            have h5 := hso q hq
            have h6 := one_le [] (by simp)
            show q.t.size + (bst []).size ≤ 1073741824
            omega)
          have HW := hideT hwt
          have HS := hideT (And.intro hrun (And.intro (ok_group (x := x) 0 (Int.le_refl _)) (And.intro (sh_group hsh 0) (group_wt x 0))))
          have HO := hideT (And.intro hO hBw)
          clear hO hBw hrun hok hsh hwt hso
          go_wp2_with fail
          refine (laid_any x.out.ps ⟨0, bst []⟩ _ _ (by have := HA.out.size; have := HO.out.2.size; omega) (owns_below HO.out.1 HA.out) (by omega) HT.out).mono ?_
          rintro e w1 ⟨v1, rfl, h1, hb1⟩
          rw [laid_group x 0 (by omega)] at h1
          obtain ⟨a1, c1', rfl⟩ := owns_shape h1
          have HH := hideT (And.intro h1 ((HO.out.2.trans (HA.out.mono HO.out.2.size)).trans hb1))
          clear h1 hb1
          go_wp2
          exact ⟨⟨k + 1, x.group 0, by omega, by go_num, HH.out.1, HH.out.2, HS.out.1, HS.out.2.1, sh_mono HS.out.2.2.1 (by omega), by have := HS.out.2.2.2; have := HW.out; omega⟩, by simp [intOf]; omega⟩
        have e1 : (((s[k]'hlt).toNat : Int) == 38) = false := by rw [beq_eq_false_iff_ne]; omega
        by_cases c3 : (s[k]'hlt).toNat = 92
        · have e3 : (((s[k]'hlt).toNat : Int) == 92) = true := by rw [beq_iff_eq]; omega
          by_cases c4 : k + 1 = s.size
          · rw [show s.data.toList.drop (k + 1) = [] by rw [List.drop_eq_nil_iff, hlen]; omega, runP_end _ _ _ c3] at hrun
            have e4 : ((k : Int) + 1 == (s.size : Int)) = true := by rw [beq_iff_eq]; omega
            obtain rfl := hrun.trans HR.out
            clear HR
            have HB := hideT (fun o : Obj => hBw.alloc hBw.size o)
            clear hO hBw hok hsh hwt hso
            go_wp2
            go_ret3
            exact ⟨.slice none 0 0, rfl, World.ownsRow_nil _ _ _ _, HB.out _⟩
          · have hlt2 : k + 1 < s.size := by omega
            rw [drop_at s (k + 1) hlt2, runP_esc _ _ _ _ _ c3] at hrun
            have e4 : ((k : Int) + 1 == (s.size : Int)) = false := by rw [beq_eq_false_iff_ne]; omega
            have i5 : (k : Int) + 1 < (s.size : Int) := by omega
            have i6 : (0 : Int) ≤ (k : Int) + 1 := by omega
            have i7 : (k : Int) + 1 + 1 ≤ (s.size : Int) := by omega
            have hx2 := ext_one s (k + 1) hlt2
            have hcl := (s[k + 1]'hlt2).toNat_lt
            have hE : x.esc (s[k + 1]'hlt2) = if 48 ≤ (s[k + 1]'hlt2).toNat ∧ (s[k + 1]'hlt2).toNat ≤ 57 then x.group (((s[k + 1]'hlt2).toNat - 48 : Nat) : Int) else if (s[k + 1]'hlt2).toNat = 110 then x.plain 10 else x.plain (s[k + 1]'hlt2) := rfl
            by_cases d1 : 48 ≤ (s[k + 1]'hlt2).toNat ∧ (s[k + 1]'hlt2).toNat ≤ 57
            · rw [hE, if_pos d1] at hrun
              have f1 : (48 : Int) ≤ ((s[k + 1]'hlt2).toNat : Int) := by omega
              have f2 : ((s[k + 1]'hlt2).toNat : Int) ≤ 57 := by omega
              have f3 : (((s[k + 1]'hlt2).toNat : Int) == 110) = false := by rw [beq_eq_false_iff_ne]; omega
              have f4 : IntKind.u8.wrap (((s[k + 1]'hlt2).toNat : Int) - 48) = (((s[k + 1]'hlt2).toNat - 48 : Nat) : Int) := by rw [IntKind.wrap_u8]; omega
              have f5 : IntKind.i64.wrap (((s[k + 1]'hlt2).toNat - 48 : Nat) : Int) = (((s[k + 1]'hlt2).toNat - 48 : Nat) : Int) := by rw [IntKind.wrap_i64]; omega
              clear hE
              have HA := hideT ((Below.refl wr.heap.size wr).alloc (Nat.le_refl _) (.cells #[.int .i64 (((s[k + 1]'hlt2).toNat - 48 : Nat) : Int), .string ⟨#[]⟩] 48))
              have HT : Hid (∀ q ∈ x.out.ps, q.t.size + (⟨(((s[k + 1]'hlt2).toNat - 48 : Nat) : Int), bst []⟩ : Pt).t.size ≤ 1073741824) := hideT (fun q hq => by
                have h5 := hso q hq
                have h6 := one_le [] (by simp)
                show q.t.size + (bst []).size ≤ 1073741824
                omega)
              have HW := hideT hwt
              have HS := hideT (And.intro hrun (And.intro (ok_group (x := x) (((s[k + 1]'hlt2).toNat - 48 : Nat) : Int) (by omega)) (And.intro (sh_group hsh (((s[k + 1]'hlt2).toNat - 48 : Nat) : Int)) (group_wt x (((s[k + 1]'hlt2).toNat - 48 : Nat) : Int)))))
              have HO := hideT (And.intro hO hBw)
              clear hO hBw hrun hok hsh hwt hso
              go_wp2_with fail
              refine (laid_any x.out.ps ⟨(((s[k + 1]'hlt2).toNat - 48 : Nat) : Int), bst []⟩ _ _ (by have := HA.out.size; have := HO.out.2.size; omega) (owns_below HO.out.1 HA.out) (by omega) HT.out).mono ?_
              rintro e w1 ⟨v1, rfl, h1, hb1⟩
              rw [laid_group x _ (by omega)] at h1
              obtain ⟨a1, c1', rfl⟩ := owns_shape h1
              have HH := hideT (And.intro h1 ((HO.out.2.trans (HA.out.mono HO.out.2.size)).trans hb1))
              clear h1 hb1
              go_wp2
              exact ⟨⟨k + 2, x.group (((s[k + 1]'hlt2).toNat - 48 : Nat) : Int), by omega, by go_num, HH.out.1, HH.out.2, HS.out.1, HS.out.2.1, sh_mono HS.out.2.2.1 (by omega), by have := HS.out.2.2.2; have := HW.out; omega⟩, by simp [intOf]; omega⟩
            · rw [hE, if_neg d1] at hrun
              clear hE
              by_cases d2 : (s[k + 1]'hlt2).toNat = 110
              · rw [if_pos d2] at hrun
                have f3 : (((s[k + 1]'hlt2).toNat : Int) == 110) = true := by rw [beq_iff_eq]; omega
                have f1 : (48 : Int) ≤ ((s[k + 1]'hlt2).toNat : Int) := by omega
                have f2 : (((s[k + 1]'hlt2).toNat : Int) ≤ 57) = False := by rw [eq_iff_iff, iff_false]; omega
                have HA := hideT ((Below.refl wr.heap.size wr).alloc (Nat.le_refl _) (.cells #[.int .i64 (-1), .string ⟨#[10]⟩] 48))
                have HT : Hid (∀ q ∈ x.out.ps, q.t.size + (⟨-1, bst [10]⟩ : Pt).t.size ≤ 1073741824) := hideT (fun q hq => by
                  have h5 := hso q hq
                  have h6 := one_le [10] (by simp)
                  show q.t.size + (bst [10]).size ≤ 1073741824
                  omega)
                have HW := hideT hwt
                have HS := hideT (And.intro hrun (And.intro (ok_plain hok 10) (And.intro (sh_plain hsh 10) (plain_wt x 10))))
                have HO := hideT (And.intro hO hBw)
                clear hO hBw hrun hsh hwt hso
                go_wp2_with fail
                refine (laid_any x.out.ps ⟨-1, bst [10]⟩ _ _ (by have := HA.out.size; have := HO.out.2.size; omega) (owns_below HO.out.1 HA.out) (by omega) HT.out).mono ?_
                rintro e w1 ⟨v1, rfl, h1, hb1⟩
                rw [laid_plain hok] at h1
                obtain ⟨a1, c1', rfl⟩ := owns_shape h1
                have HH := hideT (And.intro h1 ((HO.out.2.trans (HA.out.mono HO.out.2.size)).trans hb1))
                clear h1 hb1
                go_wp2
                exact ⟨⟨k + 2, x.plain 10, by omega, by go_num, HH.out.1, HH.out.2, HS.out.1, HS.out.2.1, sh_mono HS.out.2.2.1 (by omega), by have := HS.out.2.2.2; have := HW.out; omega⟩, by simp [intOf]; omega⟩
              · rw [if_neg d2] at hrun
                have f3 : (((s[k + 1]'hlt2).toNat : Int) == 110) = false := by rw [beq_eq_false_iff_ne]; omega
                by_cases d3 : 48 ≤ (s[k + 1]'hlt2).toNat
                · have f1 : (48 : Int) ≤ ((s[k + 1]'hlt2).toNat : Int) := by omega
                  have f2 : (((s[k + 1]'hlt2).toNat : Int) ≤ 57) = False := by rw [eq_iff_iff, iff_false]; omega
                  have HA := hideT ((Below.refl wr.heap.size wr).alloc (Nat.le_refl _) (.cells #[.int .i64 (-1), .string (bst [(s[k + 1]'hlt2)])] 48))
                  have HT : Hid (∀ q ∈ x.out.ps, q.t.size + (⟨-1, bst [(s[k + 1]'hlt2)]⟩ : Pt).t.size ≤ 1073741824) := hideT (fun q hq => by
                    have h5 := hso q hq
                    have h6 := one_le [(s[k + 1]'hlt2)] (by simp)
                    show q.t.size + (bst [(s[k + 1]'hlt2)]).size ≤ 1073741824
                    omega)
                  have HW := hideT hwt
                  have HS := hideT (And.intro hrun (And.intro (ok_plain hok (s[k + 1]'hlt2)) (And.intro (sh_plain hsh (s[k + 1]'hlt2)) (plain_wt x (s[k + 1]'hlt2)))))
                  have HO := hideT (And.intro hO hBw)
                  clear hO hBw hrun hsh hwt hso
                  go_wp2_with fail
                  refine (laid_any x.out.ps ⟨-1, bst [(s[k + 1]'hlt2)]⟩ _ _ (by have := HA.out.size; have := HO.out.2.size; omega) (owns_below HO.out.1 HA.out) (by omega) HT.out).mono ?_
                  rintro e w1 ⟨v1, rfl, h1, hb1⟩
                  rw [laid_plain hok] at h1
                  obtain ⟨a1, c1', rfl⟩ := owns_shape h1
                  have HH := hideT (And.intro h1 ((HO.out.2.trans (HA.out.mono HO.out.2.size)).trans hb1))
                  clear h1 hb1
                  go_wp2
                  exact ⟨⟨k + 2, x.plain (s[k + 1]'hlt2), by omega, by go_num, HH.out.1, HH.out.2, HS.out.1, HS.out.2.1, sh_mono HS.out.2.2.1 (by omega), by have := HS.out.2.2.2; have := HW.out; omega⟩, by simp [intOf]; omega⟩
                · have f1 : ((48 : Int) ≤ ((s[k + 1]'hlt2).toNat : Int)) = False := by rw [eq_iff_iff, iff_false]; omega
                  have HA := hideT ((Below.refl wr.heap.size wr).alloc (Nat.le_refl _) (.cells #[.int .i64 (-1), .string (bst [(s[k + 1]'hlt2)])] 48))
                  have HT : Hid (∀ q ∈ x.out.ps, q.t.size + (⟨-1, bst [(s[k + 1]'hlt2)]⟩ : Pt).t.size ≤ 1073741824) := hideT (fun q hq => by
                    have h5 := hso q hq
                    have h6 := one_le [(s[k + 1]'hlt2)] (by simp)
                    show q.t.size + (bst [(s[k + 1]'hlt2)]).size ≤ 1073741824
                    omega)
                  have HW := hideT hwt
                  have HS := hideT (And.intro hrun (And.intro (ok_plain hok (s[k + 1]'hlt2)) (And.intro (sh_plain hsh (s[k + 1]'hlt2)) (plain_wt x (s[k + 1]'hlt2)))))
                  have HO := hideT (And.intro hO hBw)
                  clear hO hBw hrun hsh hwt hso
                  go_wp2_with fail
                  refine (laid_any x.out.ps ⟨-1, bst [(s[k + 1]'hlt2)]⟩ _ _ (by have := HA.out.size; have := HO.out.2.size; omega) (owns_below HO.out.1 HA.out) (by omega) HT.out).mono ?_
                  rintro e w1 ⟨v1, rfl, h1, hb1⟩
                  rw [laid_plain hok] at h1
                  obtain ⟨a1, c1', rfl⟩ := owns_shape h1
                  have HH := hideT (And.intro h1 ((HO.out.2.trans (HA.out.mono HO.out.2.size)).trans hb1))
                  clear h1 hb1
                  go_wp2
                  exact ⟨⟨k + 2, x.plain (s[k + 1]'hlt2), by omega, by go_num, HH.out.1, HH.out.2, HS.out.1, HS.out.2.1, sh_mono HS.out.2.2.1 (by omega), by have := HS.out.2.2.2; have := HW.out; omega⟩, by simp [intOf]; omega⟩
        · have e3 : (((s[k]'hlt).toNat : Int) == 92) = false := by rw [beq_eq_false_iff_ne]; omega
          rw [runP_pl _ _ _ _ c1 c2 c3] at hrun
          have HA := hideT ((Below.refl wr.heap.size wr).alloc (Nat.le_refl _) (.cells #[.int .i64 (-1), .string (bst [(s[k]'hlt)])] 48))
          have HT : Hid (∀ q ∈ x.out.ps, q.t.size + (⟨-1, bst [(s[k]'hlt)]⟩ : Pt).t.size ≤ 1073741824) := hideT (fun q hq => by
            have h5 := hso q hq
            have h6 := one_le [(s[k]'hlt)] (by simp)
            show q.t.size + (bst [(s[k]'hlt)]).size ≤ 1073741824
            omega)
          have HW := hideT hwt
          have HS := hideT (And.intro hrun (And.intro (ok_plain hok (s[k]'hlt)) (And.intro (sh_plain hsh (s[k]'hlt)) (plain_wt x (s[k]'hlt)))))
          have HO := hideT (And.intro hO hBw)
          clear hO hBw hrun hsh hwt hso
          go_wp2_with fail
          refine (laid_any x.out.ps ⟨-1, bst [(s[k]'hlt)]⟩ _ _ (by have := HA.out.size; have := HO.out.2.size; omega) (owns_below HO.out.1 HA.out) (by omega) HT.out).mono ?_
          rintro e w1 ⟨v1, rfl, h1, hb1⟩
          rw [laid_plain hok] at h1
          obtain ⟨a1, c1', rfl⟩ := owns_shape h1
          have HH := hideT (And.intro h1 ((HO.out.2.trans (HA.out.mono HO.out.2.size)).trans hb1))
          clear h1 hb1
          go_wp2
          exact ⟨⟨k + 1, x.plain (s[k]'hlt), by omega, by go_num, HH.out.1, HH.out.2, HS.out.1, HS.out.2.1, sh_mono HS.out.2.2.1 (by omega), by have := HS.out.2.2.2; have := HW.out; omega⟩, by simp [intOf]; omega⟩
      · obtain rfl : k = s.size := by omega
        rw [show s.data.toList.drop s.size = [] by rw [List.drop_eq_nil_iff, hlen]; omega, runP_nil] at hrun
        obtain rfl := hrun.trans HR.out
        clear HR
        go_wp2
        go_ret3
        exact ⟨_, rfl, hO, hBw⟩

end Go.Proofs.Ytbncokfpkkmoiaa
