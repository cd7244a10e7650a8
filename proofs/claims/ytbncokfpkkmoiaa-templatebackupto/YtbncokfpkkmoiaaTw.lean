/- template: the walk of TemplateBack. -/
import Derived.Test.YtbncokfpkkmoiaaTv
import Derived.Test.YtbncokfpkkmoiaaTt
namespace Go.Proofs.Ytbncokfpkkmoiaa
open Go.RowKit

theorem text_len : ∀ (ps : List Pt) (l L : List UInt8), textR ps l = some L → L.length ≤ l.length + 2 * bulkP ps
  | [], l, L, h => by
    cases h
    omega
  | p :: r, l, L, h => by
    by_cases hb : p.g < -1 ∨ 9 < p.g
    · rw [text_bad p r l hb] at h
      cases h
    · rw [text_ok p r l hb] at h
      have h1 := text_len r _ _ h
      have h2 := oneT_len p
      rw [List.length_append] at h1
      simp only [bulkP]
      omega

set_option maxRecDepth 100000 in
set_option maxHeartbeats 8000000 in
theorem back_walk (v vs : Value) (ps : List Pt) (t u : ByteArray) (sp : List (Int × Int)) (w : World) (hv : PRow w v ps) (hvs : SRow w vs sp) (hn : bulkP ps ≤ 1048576) (ht : t.size ≤ 1048576) (hu : u.size ≤ 1048576) :
    Calls Try.prog 6 #[v, .string t, .string u, vs] w fun e w' => e = .returned (.bool true) ∧ Below w.heap.size w w' := by
  have hpl := bulkP_len ps
  have HV := hideT (And.intro hv hvs)
  have HPC := hideT (parse_any t (by omega))
  have hE := parse_end t.data.toList
  generalize parseR t.data.toList = RT at *
  obtain ⟨yy, er, pl⟩ := RT
  have HE := hideT (show (er ≠ 0 ∧ yy = ⟨[], []⟩) ∨ (er = 0 ∧ ∃ y, yy = y.out ∧ nfG y ∧ wtG y ≤ 16384) from hE)
  have htx := fun (w1 : World) (hb : Below w.heap.size w w1) => text_any v ps w1 (hv.stay hb (Nat.le_refl _)) hn
  obtain ⟨pa, ca, rfl⟩ := hv.shape
  obtain ⟨pb, cb, rfl⟩ := hvs.shape
  clear hv hvs hE
  cases hTR : textR ps [] with
  | none =>
    rw [hTR] at htx
    have HT := hideT htx
    clear htx hTR
    go_enter Try.func6, Try.ntmps6
    go_wp2_with fail
    refine (awake_any _).mono ?_
    rintro e w1 ⟨rfl, hb1⟩
    have HA := hideT hb1
    clear hb1
    go_wp2_with fail
    refine (HT.out _ HA.out).mono ?_
    rintro e w2 ⟨rfl, hb2⟩
    have HW := hideT (HA.out.trans (hb2.mono HA.out.size))
    clear hb2
    have hz : (txR none).1 = [] := rfl
    have hz2 : (txR none).2 = 1 := rfl
    simp only [hz, hz2]
    go_wp2_with fail
    refine (HPC.out _).mono ?_
    rintro e x1 ⟨vC, rfl, hO, hb⟩
    obtain ⟨a, c, rfl⟩ := owns_shape hO
    have hA := (Below.refl x1.heap.size x1).alloc (Nat.le_refl _) (.cells #[.int .i64 (er : Nat), .int .i64 (pl : Nat)] 25)
    have hf := heap_alloc_new x1 (.cells #[.int .i64 (er : Nat), .int .i64 (pl : Nat)] 25)
    have hB1 := HW.out.trans (hb.mono HW.out.size)
    have H1 := hideT (And.intro (hB1.trans (hA.mono hB1.size)) (And.intro (owns_below hO hA) (And.intro hf (show w.heap.size ≤ x1.heap.size from hB1.size))))
    have hpr := (PRow.of_owns hO).stay hA (Nat.le_refl _)
    clear hA hf hB1 hb hO
    rcases HE.out with ⟨e1, e2⟩ | ⟨e1, y, e2, e3, e4⟩
    · have e5 : ((er : Int) != 0) = true := by rw [bne_iff_ne]; omega
      have e6 : yy.ps.length = 0 := by rw [e2]; rfl
      clear hpr e2
      go_wp2
      go_ret
      exact ⟨rfl, H1.out.1⟩
    · have e5 : ((er : Int) != 0) = false := by rw [bne_eq_false_iff_eq]; omega
      have hok : okPs yy.ps := by rw [e2]; exact ok_out e3.2
      have hbk : bulkP yy.ps ≤ 16384 := by rw [e2, bulk_out]; exact e4
      have hnf : (gaL ⟨[], []⟩ yy.ps).out = yy := by rw [e2]; exact nf_out e3
      obtain ⟨L2, hL2⟩ := text_some yy.ps [] hok
      have htx := text_any _ yy.ps _ hpr (by omega)
      rw [hL2] at htx
      have HT := hideT htx
      have hlen := text_len yy.ps [] L2 hL2
      have HL2 := hideT (And.intro hL2 (And.intro hnf hbk))
      clear htx hok hbk hnf hL2 e1 e2 e3 e4 hpr
      simp only [List.length_nil] at hlen
      have hl2 : L2.length ≤ 32768 := by have := HL2.out.2.2; omega
      clear hlen
      go_wp2_with fail
      refine HT.out.mono ?_
      rintro e x2 ⟨rfl, hb2⟩
      have H2 := hideT (And.intro (H1.out.1.trans (hb2.mono H1.out.1.size)) (And.intro (owns_below H1.out.2.1 hb2) ((hb2.block x1.heap.size (by simp)).trans H1.out.2.2.1)))
      clear hb2
      have hp3 := parse_any (bst L2) (by rw [bst_size]; omega) x2
      rw [bst_list] at hp3
      have hs2 := bst_size L2
      by_cases hb4 : L2.length ≤ 4096
      · have h5 := parse_text HL2.out.1 hb4
        rw [h5.2, HL2.out.2.1] at hp3
        have HP3 := hideT hp3
        have j1 : ((4096 : Int) < ((bst L2).size : Int)) = False := by rw [eq_iff_iff, iff_false, hs2]; omega
        clear h5 hp3 hs2
        have hz : (txR (some L2)).1 = L2 := rfl
        have hz2 : (txR (some L2)).2 = 0 := rfl
        simp only [hz, hz2] at *
        generalize bst L2 = sL at *
        go_wp2_with fail
        refine HP3.out.mono ?_
        rintro e x3 ⟨v3, rfl, hO3, hb3⟩
        obtain ⟨a3, c3, rfl⟩ := owns_shape hO3
        have f3 := (hb3.block x1.heap.size (Array.getElem?_eq_some_iff.1 H2.out.2.2).1).trans H2.out.2.2
        have v0 : x3.cell? ⟨x1.heap.size, 0, none⟩ = some (.int .i64 (er : Nat)) := by simp [World.cell?, f3]
        have v1 : x3.cell? ⟨x1.heap.size, 1, none⟩ = some (.int .i64 (pl : Nat)) := by simp [World.cell?, f3]
        have g0 : x3.frozen? ⟨x1.heap.size, 0, none⟩ = false := by simp [World.frozen?, f3]
        have g1 : x3.frozen? ⟨x1.heap.size, 1, none⟩ = false := by simp [World.frozen?, f3]
        have hx := put2 f3 (.int .i64 0) (.int .i64 0)
        have r1 := PRow.of_owns (owns_put2 (owns_below H2.out.2.1 hb3) f3 (by decide) (.int .i64 0) (.int .i64 0))
        have r2 := PRow.of_owns (owns_put2 hO3 f3 (by decide) (.int .i64 0) (.int .i64 0))
        have hbx := ((H2.out.1.trans (hb3.mono H2.out.1.size)).setCell (p := ⟨x1.heap.size, 0, none⟩) H1.out.2.2.2 (.int .i64 0)).setCell (p := ⟨x1.heap.size, 1, none⟩) H1.out.2.2.2 (.int .i64 0)
        have HS := hideT (same_any _ _ yy.ps _ r1 r2 (owns_len hO3))
        have H4 := hideT (And.intro hbx hx)
        have u0 : ((x3.setCell ⟨x1.heap.size, 0, none⟩ (.int .i64 0)).setCell ⟨x1.heap.size, 1, none⟩ (.int .i64 0)).cell? ⟨x1.heap.size, 0, none⟩ = some (.int .i64 0) := by simp only [World.cell?, hx]; rfl
        clear f3 hx r1 r2 hbx hO3 hb3
        go_wp2_with fail
        refine HS.out.mono ?_
        rintro e x5 ⟨rfl, hb5⟩
        have H5 := hideT (H4.out.1.trans (hb5.mono H4.out.1.size))
        clear hb5
        go_wp2
        go_ret
        exact ⟨rfl, H5.out⟩
      · generalize parseR L2 = R3 at *
        obtain ⟨y3, e3, p3⟩ := R3
        have HP3 := hideT hp3
        have j1 : (4096 : Int) < ((bst L2).size : Int) := by rw [hs2]; omega
        clear hp3 hs2
        have hz : (txR (some L2)).1 = L2 := rfl
        have hz2 : (txR (some L2)).2 = 0 := rfl
        simp only [hz, hz2] at *
        generalize bst L2 = sL at *
        go_wp2_with fail
        refine HP3.out.mono ?_
        rintro e x3 ⟨v3, rfl, hO3, hb3⟩
        obtain ⟨a3, c3, rfl⟩ := owns_shape hO3
        have f3 := (hb3.block x1.heap.size (Array.getElem?_eq_some_iff.1 H2.out.2.2).1).trans H2.out.2.2
        have v0 : x3.cell? ⟨x1.heap.size, 0, none⟩ = some (.int .i64 (er : Nat)) := by simp [World.cell?, f3]
        have v1 : x3.cell? ⟨x1.heap.size, 1, none⟩ = some (.int .i64 (pl : Nat)) := by simp [World.cell?, f3]
        have g0 : x3.frozen? ⟨x1.heap.size, 0, none⟩ = false := by simp [World.frozen?, f3]
        have g1 : x3.frozen? ⟨x1.heap.size, 1, none⟩ = false := by simp [World.frozen?, f3]
        have hbx := ((H2.out.1.trans (hb3.mono H2.out.1.size)).setCell (p := ⟨x1.heap.size, 0, none⟩) H1.out.2.2.2 (.int .i64 (e3 : Nat))).setCell (p := ⟨x1.heap.size, 1, none⟩) H1.out.2.2.2 (.int .i64 (p3 : Nat))
        have H4 := hideT hbx
        clear f3 hbx hO3 hb3
        go_wp2
        go_ret
        exact ⟨rfl, H4.out⟩
  | some L =>
    rw [hTR] at htx
    have hz : (txR (some L)).1 = L := rfl
    have hz2 : (txR (some L)).2 = 0 := rfl
    simp only [hz, hz2] at htx
    have HT := hideT htx
    have hll := text_len ps [] L hTR
    simp only [List.length_nil] at hll
    clear htx hz hz2
    have hs1 := bst_size L
    by_cases hb0 : L.length ≤ 4096
    · obtain ⟨hok, hpt⟩ := parse_text hTR hb0
      have hpB := fun w1 => parse_any (bst L) (by rw [bst_size]; omega) w1
      rw [bst_list, hpt] at hpB
      have hEB := parse_end L
      rw [hpt] at hEB
      have hzb : bulkP (gaL ⟨[], []⟩ ps).out.ps ≤ 16384 := by
        rcases hEB with ⟨h1, _⟩ | ⟨_, y, h1, h2, h3⟩
        · exact absurd rfl h1
        · rw [show (gaL ⟨[], []⟩ ps).out = y.out from h1, bulk_out]
          exact h3
      have hrf := refs_back ps
      have hbd := build_back u.data.toList sp hok
      have j0 : ((bst L).size : Int) ≤ 4096 := by rw [hs1]; omega
      generalize (gaL ⟨[], []⟩ ps).out = z at *
      have hzl := bulkP_len z.ps
      have HPB := hideT hpB
      have HZ := hideT (And.intro hzb (And.intro hrf hbd))
      have hzl2 : z.ps.length ≤ 16384 := by omega
      clear hpB hEB hpt hok hrf hbd hzb hzl hs1 hTR hll
      generalize bst L = sL at *
      have hb17 := fun (w1 : World) (hb : Below w.heap.size w w1) => build_any _ _ ps u sp w1 (HV.out.1.stay hb (Nat.le_refl _)) (HV.out.2.stay hb (Nat.le_refl _)) (by omega) (fun p hp => by have := bulkP_mem ps p hp; omega) (by omega)
      have hbz := fun (w1 : World) (hb : Below w.heap.size w w1) (v1 : Value) (hr : PRow w1 v1 z.ps) => build_any v1 _ z.ps u sp w1 hr (HV.out.2.stay hb (Nat.le_refl _)) (by omega) (fun p hp => by have := bulkP_mem z.ps p hp; have := HZ.out.1; omega) (by omega)
      rw [HZ.out.2.2] at hbz
      generalize buildR u.data.toList sp ps [] = RB at *
      obtain ⟨lb, eb⟩ := RB
      have HB := hideT (And.intro hb17 hbz)
      have hrz := fun (w1 : World) (v1 : Value) (hr : PRow w1 v1 z.ps) => refs_any v1 z.ps w1 hr (by omega)
      rw [HZ.out.2.1] at hrz
      have hrp := fun (w1 : World) (hb : Below w.heap.size w w1) => refs_any _ ps w1 (HV.out.1.stay hb (Nat.le_refl _)) (by omega)
      generalize refsN ps 0 = rn at *
      have HR := hideT (And.intro hrz hrp)
      clear hb17 hbz hrz hrp HZ
      go_enter Try.func6, Try.ntmps6
      go_wp2_with fail
      refine (awake_any _).mono ?_
      rintro e w1 ⟨rfl, hb1⟩
      have HA := hideT hb1
      clear hb1
      go_wp2_with fail
      refine (HT.out _ HA.out).mono ?_
      rintro e w2 ⟨rfl, hb2⟩
      have H2 := hideT (HA.out.trans (hb2.mono HA.out.size))
      clear hb2
      go_wp2_with fail
      refine (HPB.out _).mono ?_
      rintro e w3 ⟨v3, rfl, hO, hb3⟩
      obtain ⟨a3, c3, rfl⟩ := owns_shape hO
      have hA3 := (Below.refl w3.heap.size w3).alloc (Nat.le_refl _) (.cells #[.int .i64 0, .int .i64 0] 25)
      have hB3 := H2.out.trans (hb3.mono H2.out.size)
      have H3 := hideT (And.intro (hB3.trans (hA3.mono hB3.size)) ((PRow.of_owns hO).stay hA3 (Nat.le_refl _)))
      clear hO hb3 hA3 hB3
      go_wp2_with fail
      refine (HR.out.1 _ _ H3.out.2).mono ?_
      rintro e w4 ⟨rfl, hb4⟩
      have H4 := hideT (And.intro (H3.out.1.trans (hb4.mono H3.out.1.size)) (H3.out.2.stay hb4 (Nat.le_refl _)))
      clear hb4
      go_wp2_with fail
      refine (HR.out.2 _ H4.out.1).mono ?_
      rintro e w5 ⟨rfl, hb5⟩
      have H5 := hideT (And.intro (H4.out.1.trans (hb5.mono H4.out.1.size)) (H4.out.2.stay hb5 (Nat.le_refl _)))
      clear hb5
      go_wp2_with fail
      refine (HB.out.1 _ H5.out.1).mono ?_
      rintro e w6 ⟨rfl, hb6⟩
      have H6 := hideT (And.intro (H5.out.1.trans (hb6.mono H5.out.1.size)) (H5.out.2.stay hb6 (Nat.le_refl _)))
      clear hb6
      go_wp2_with fail
      refine (HB.out.2 _ H6.out.1 _ H6.out.2).mono ?_
      rintro e w7 ⟨rfl, hb7⟩
      have HW := hideT (H6.out.1.trans (hb7.mono H6.out.1.size))
      clear hb7
      go_wp2_with fail
      refine (HPC.out _).mono ?_
      rintro e x1 ⟨vC, rfl, hO, hb⟩
      obtain ⟨a, c, rfl⟩ := owns_shape hO
      have hA := (Below.refl x1.heap.size x1).alloc (Nat.le_refl _) (.cells #[.int .i64 (er : Nat), .int .i64 (pl : Nat)] 25)
      have hf := heap_alloc_new x1 (.cells #[.int .i64 (er : Nat), .int .i64 (pl : Nat)] 25)
      have hB1 := HW.out.trans (hb.mono HW.out.size)
      have H1 := hideT (And.intro (hB1.trans (hA.mono hB1.size)) (And.intro (owns_below hO hA) (And.intro hf (show w.heap.size ≤ x1.heap.size from hB1.size))))
      have hpr := (PRow.of_owns hO).stay hA (Nat.le_refl _)
      clear hA hf hB1 hb hO
      rcases HE.out with ⟨e1, e2⟩ | ⟨e1, y, e2, e3, e4⟩
      · have e5 : ((er : Int) != 0) = true := by rw [bne_iff_ne]; omega
        have e6 : yy.ps.length = 0 := by rw [e2]; rfl
        clear hpr e2
        go_wp2
        go_ret
        exact ⟨rfl, H1.out.1⟩
      · have e5 : ((er : Int) != 0) = false := by rw [bne_eq_false_iff_eq]; omega
        have hok : okPs yy.ps := by rw [e2]; exact ok_out e3.2
        have hbk : bulkP yy.ps ≤ 16384 := by rw [e2, bulk_out]; exact e4
        have hnf : (gaL ⟨[], []⟩ yy.ps).out = yy := by rw [e2]; exact nf_out e3
        obtain ⟨L2, hL2⟩ := text_some yy.ps [] hok
        have htx := text_any _ yy.ps _ hpr (by omega)
        rw [hL2] at htx
        have HT := hideT htx
        have hlen := text_len yy.ps [] L2 hL2
        have HL2 := hideT (And.intro hL2 (And.intro hnf hbk))
        clear htx hok hbk hnf hL2 e1 e2 e3 e4 hpr
        simp only [List.length_nil] at hlen
        have hl2 : L2.length ≤ 32768 := by have := HL2.out.2.2; omega
        clear hlen
        go_wp2_with fail
        refine HT.out.mono ?_
        rintro e x2 ⟨rfl, hb2⟩
        have H2 := hideT (And.intro (H1.out.1.trans (hb2.mono H1.out.1.size)) (And.intro (owns_below H1.out.2.1 hb2) ((hb2.block x1.heap.size (by simp)).trans H1.out.2.2.1)))
        clear hb2
        have hp3 := parse_any (bst L2) (by rw [bst_size]; omega) x2
        rw [bst_list] at hp3
        have hs2 := bst_size L2
        by_cases hb4 : L2.length ≤ 4096
        · have h5 := parse_text HL2.out.1 hb4
          rw [h5.2, HL2.out.2.1] at hp3
          have HP3 := hideT hp3
          have j1 : ((4096 : Int) < ((bst L2).size : Int)) = False := by rw [eq_iff_iff, iff_false, hs2]; omega
          clear h5 hp3 hs2
          have hz : (txR (some L2)).1 = L2 := rfl
          have hz2 : (txR (some L2)).2 = 0 := rfl
          simp only [hz, hz2] at *
          generalize bst L2 = sL at *
          go_wp2_with fail
          refine HP3.out.mono ?_
          rintro e x3 ⟨v3, rfl, hO3, hb3⟩
          obtain ⟨a3, c3, rfl⟩ := owns_shape hO3
          have f3 := (hb3.block x1.heap.size (Array.getElem?_eq_some_iff.1 H2.out.2.2).1).trans H2.out.2.2
          have v0 : x3.cell? ⟨x1.heap.size, 0, none⟩ = some (.int .i64 (er : Nat)) := by simp [World.cell?, f3]
          have v1 : x3.cell? ⟨x1.heap.size, 1, none⟩ = some (.int .i64 (pl : Nat)) := by simp [World.cell?, f3]
          have g0 : x3.frozen? ⟨x1.heap.size, 0, none⟩ = false := by simp [World.frozen?, f3]
          have g1 : x3.frozen? ⟨x1.heap.size, 1, none⟩ = false := by simp [World.frozen?, f3]
          have hx := put2 f3 (.int .i64 0) (.int .i64 0)
          have r1 := PRow.of_owns (owns_put2 (owns_below H2.out.2.1 hb3) f3 (by decide) (.int .i64 0) (.int .i64 0))
          have r2 := PRow.of_owns (owns_put2 hO3 f3 (by decide) (.int .i64 0) (.int .i64 0))
          have hbx := ((H2.out.1.trans (hb3.mono H2.out.1.size)).setCell (p := ⟨x1.heap.size, 0, none⟩) H1.out.2.2.2 (.int .i64 0)).setCell (p := ⟨x1.heap.size, 1, none⟩) H1.out.2.2.2 (.int .i64 0)
          have HS := hideT (same_any _ _ yy.ps _ r1 r2 (owns_len hO3))
          have H4 := hideT (And.intro hbx hx)
          have u0 : ((x3.setCell ⟨x1.heap.size, 0, none⟩ (.int .i64 0)).setCell ⟨x1.heap.size, 1, none⟩ (.int .i64 0)).cell? ⟨x1.heap.size, 0, none⟩ = some (.int .i64 0) := by simp only [World.cell?, hx]; rfl
          clear f3 hx r1 r2 hbx hO3 hb3
          go_wp2_with fail
          refine HS.out.mono ?_
          rintro e x5 ⟨rfl, hb5⟩
          have H5 := hideT (H4.out.1.trans (hb5.mono H4.out.1.size))
          clear hb5
          go_wp2
          go_ret
          exact ⟨rfl, H5.out⟩
        · generalize parseR L2 = R3 at *
          obtain ⟨y3, e3, p3⟩ := R3
          have HP3 := hideT hp3
          have j1 : (4096 : Int) < ((bst L2).size : Int) := by rw [hs2]; omega
          clear hp3 hs2
          have hz : (txR (some L2)).1 = L2 := rfl
          have hz2 : (txR (some L2)).2 = 0 := rfl
          simp only [hz, hz2] at *
          generalize bst L2 = sL at *
          go_wp2_with fail
          refine HP3.out.mono ?_
          rintro e x3 ⟨v3, rfl, hO3, hb3⟩
          obtain ⟨a3, c3, rfl⟩ := owns_shape hO3
          have f3 := (hb3.block x1.heap.size (Array.getElem?_eq_some_iff.1 H2.out.2.2).1).trans H2.out.2.2
          have v0 : x3.cell? ⟨x1.heap.size, 0, none⟩ = some (.int .i64 (er : Nat)) := by simp [World.cell?, f3]
          have v1 : x3.cell? ⟨x1.heap.size, 1, none⟩ = some (.int .i64 (pl : Nat)) := by simp [World.cell?, f3]
          have g0 : x3.frozen? ⟨x1.heap.size, 0, none⟩ = false := by simp [World.frozen?, f3]
          have g1 : x3.frozen? ⟨x1.heap.size, 1, none⟩ = false := by simp [World.frozen?, f3]
          have hbx := ((H2.out.1.trans (hb3.mono H2.out.1.size)).setCell (p := ⟨x1.heap.size, 0, none⟩) H1.out.2.2.2 (.int .i64 (e3 : Nat))).setCell (p := ⟨x1.heap.size, 1, none⟩) H1.out.2.2.2 (.int .i64 (p3 : Nat))
          have H4 := hideT hbx
          clear f3 hbx hO3 hb3
          go_wp2
          go_ret
          exact ⟨rfl, H4.out⟩
    · have j0 : (((bst L).size : Int) ≤ 4096) = False := by rw [eq_iff_iff, iff_false, hs1]; omega
      clear hs1 hTR hll
      generalize bst L = sL at *
      go_enter Try.func6, Try.ntmps6
      go_wp2_with fail
      refine (awake_any _).mono ?_
      rintro e w1 ⟨rfl, hb1⟩
      have HA := hideT hb1
      clear hb1
      go_wp2_with fail
      refine (HT.out _ HA.out).mono ?_
      rintro e w2 ⟨rfl, hb2⟩
      have HW := hideT (HA.out.trans (hb2.mono HA.out.size))
      clear hb2
      go_wp2_with fail
      refine (HPC.out _).mono ?_
      rintro e x1 ⟨vC, rfl, hO, hb⟩
      obtain ⟨a, c, rfl⟩ := owns_shape hO
      have hA := (Below.refl x1.heap.size x1).alloc (Nat.le_refl _) (.cells #[.int .i64 (er : Nat), .int .i64 (pl : Nat)] 25)
      have hf := heap_alloc_new x1 (.cells #[.int .i64 (er : Nat), .int .i64 (pl : Nat)] 25)
      have hB1 := HW.out.trans (hb.mono HW.out.size)
      have H1 := hideT (And.intro (hB1.trans (hA.mono hB1.size)) (And.intro (owns_below hO hA) (And.intro hf (show w.heap.size ≤ x1.heap.size from hB1.size))))
      have hpr := (PRow.of_owns hO).stay hA (Nat.le_refl _)
      clear hA hf hB1 hb hO
      rcases HE.out with ⟨e1, e2⟩ | ⟨e1, y, e2, e3, e4⟩
      · have e5 : ((er : Int) != 0) = true := by rw [bne_iff_ne]; omega
        have e6 : yy.ps.length = 0 := by rw [e2]; rfl
        clear hpr e2
        go_wp2
        go_ret
        exact ⟨rfl, H1.out.1⟩
      · have e5 : ((er : Int) != 0) = false := by rw [bne_eq_false_iff_eq]; omega
        have hok : okPs yy.ps := by rw [e2]; exact ok_out e3.2
        have hbk : bulkP yy.ps ≤ 16384 := by rw [e2, bulk_out]; exact e4
        have hnf : (gaL ⟨[], []⟩ yy.ps).out = yy := by rw [e2]; exact nf_out e3
        obtain ⟨L2, hL2⟩ := text_some yy.ps [] hok
        have htx := text_any _ yy.ps _ hpr (by omega)
        rw [hL2] at htx
        have HT := hideT htx
        have hlen := text_len yy.ps [] L2 hL2
        have HL2 := hideT (And.intro hL2 (And.intro hnf hbk))
        clear htx hok hbk hnf hL2 e1 e2 e3 e4 hpr
        simp only [List.length_nil] at hlen
        have hl2 : L2.length ≤ 32768 := by have := HL2.out.2.2; omega
        clear hlen
        go_wp2_with fail
        refine HT.out.mono ?_
        rintro e x2 ⟨rfl, hb2⟩
        have H2 := hideT (And.intro (H1.out.1.trans (hb2.mono H1.out.1.size)) (And.intro (owns_below H1.out.2.1 hb2) ((hb2.block x1.heap.size (by simp)).trans H1.out.2.2.1)))
        clear hb2
        have hp3 := parse_any (bst L2) (by rw [bst_size]; omega) x2
        rw [bst_list] at hp3
        have hs2 := bst_size L2
        by_cases hb4 : L2.length ≤ 4096
        · have h5 := parse_text HL2.out.1 hb4
          rw [h5.2, HL2.out.2.1] at hp3
          have HP3 := hideT hp3
          have j1 : ((4096 : Int) < ((bst L2).size : Int)) = False := by rw [eq_iff_iff, iff_false, hs2]; omega
          clear h5 hp3 hs2
          have hz : (txR (some L2)).1 = L2 := rfl
          have hz2 : (txR (some L2)).2 = 0 := rfl
          simp only [hz, hz2] at *
          generalize bst L2 = sL at *
          go_wp2_with fail
          refine HP3.out.mono ?_
          rintro e x3 ⟨v3, rfl, hO3, hb3⟩
          obtain ⟨a3, c3, rfl⟩ := owns_shape hO3
          have f3 := (hb3.block x1.heap.size (Array.getElem?_eq_some_iff.1 H2.out.2.2).1).trans H2.out.2.2
          have v0 : x3.cell? ⟨x1.heap.size, 0, none⟩ = some (.int .i64 (er : Nat)) := by simp [World.cell?, f3]
          have v1 : x3.cell? ⟨x1.heap.size, 1, none⟩ = some (.int .i64 (pl : Nat)) := by simp [World.cell?, f3]
          have g0 : x3.frozen? ⟨x1.heap.size, 0, none⟩ = false := by simp [World.frozen?, f3]
          have g1 : x3.frozen? ⟨x1.heap.size, 1, none⟩ = false := by simp [World.frozen?, f3]
          have hx := put2 f3 (.int .i64 0) (.int .i64 0)
          have r1 := PRow.of_owns (owns_put2 (owns_below H2.out.2.1 hb3) f3 (by decide) (.int .i64 0) (.int .i64 0))
          have r2 := PRow.of_owns (owns_put2 hO3 f3 (by decide) (.int .i64 0) (.int .i64 0))
          have hbx := ((H2.out.1.trans (hb3.mono H2.out.1.size)).setCell (p := ⟨x1.heap.size, 0, none⟩) H1.out.2.2.2 (.int .i64 0)).setCell (p := ⟨x1.heap.size, 1, none⟩) H1.out.2.2.2 (.int .i64 0)
          have HS := hideT (same_any _ _ yy.ps _ r1 r2 (owns_len hO3))
          have H4 := hideT (And.intro hbx hx)
          have u0 : ((x3.setCell ⟨x1.heap.size, 0, none⟩ (.int .i64 0)).setCell ⟨x1.heap.size, 1, none⟩ (.int .i64 0)).cell? ⟨x1.heap.size, 0, none⟩ = some (.int .i64 0) := by simp only [World.cell?, hx]; rfl
          clear f3 hx r1 r2 hbx hO3 hb3
          go_wp2_with fail
          refine HS.out.mono ?_
          rintro e x5 ⟨rfl, hb5⟩
          have H5 := hideT (H4.out.1.trans (hb5.mono H4.out.1.size))
          clear hb5
          go_wp2
          go_ret
          exact ⟨rfl, H5.out⟩
        · generalize parseR L2 = R3 at *
          obtain ⟨y3, e3, p3⟩ := R3
          have HP3 := hideT hp3
          have j1 : (4096 : Int) < ((bst L2).size : Int) := by rw [hs2]; omega
          clear hp3 hs2
          have hz : (txR (some L2)).1 = L2 := rfl
          have hz2 : (txR (some L2)).2 = 0 := rfl
          simp only [hz, hz2] at *
          generalize bst L2 = sL at *
          go_wp2_with fail
          refine HP3.out.mono ?_
          rintro e x3 ⟨v3, rfl, hO3, hb3⟩
          obtain ⟨a3, c3, rfl⟩ := owns_shape hO3
          have f3 := (hb3.block x1.heap.size (Array.getElem?_eq_some_iff.1 H2.out.2.2).1).trans H2.out.2.2
          have v0 : x3.cell? ⟨x1.heap.size, 0, none⟩ = some (.int .i64 (er : Nat)) := by simp [World.cell?, f3]
          have v1 : x3.cell? ⟨x1.heap.size, 1, none⟩ = some (.int .i64 (pl : Nat)) := by simp [World.cell?, f3]
          have g0 : x3.frozen? ⟨x1.heap.size, 0, none⟩ = false := by simp [World.frozen?, f3]
          have g1 : x3.frozen? ⟨x1.heap.size, 1, none⟩ = false := by simp [World.frozen?, f3]
          have hbx := ((H2.out.1.trans (hb3.mono H2.out.1.size)).setCell (p := ⟨x1.heap.size, 0, none⟩) H1.out.2.2.2 (.int .i64 (e3 : Nat))).setCell (p := ⟨x1.heap.size, 1, none⟩) H1.out.2.2.2 (.int .i64 (p3 : Nat))
          have H4 := hideT hbx
          clear f3 hbx hO3 hb3
          go_wp2
          go_ret
          exact ⟨rfl, H4.out⟩

end Go.Proofs.Ytbncokfpkkmoiaa
