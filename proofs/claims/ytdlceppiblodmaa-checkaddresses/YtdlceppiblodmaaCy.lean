/- CheckAddresses: the walk. -/
import Derived.Test.YtdlceppiblodmaaCx
namespace Go.Proofs.Ytdlceppiblodmaa
open Go.RowKit
open chkP

set_option maxRecDepth 100000 in
set_option maxHeartbeats 8000000 in
theorem addresses_walk (W : World) : Calls Try.prog 6 #[] W fun e w' => e = .returned (.bool true) ∧ Below W.heap.size W w' := by
  go_enter Try.func6, Try.ntmps6
  go_wp2_with fail
  have hA : Below W.heap.size W (W.alloc (.cells #[.int .i64 2, .int .i64 0, .string ⟨#[]⟩] 24)) := (Below.refl _ _).alloc (Nat.le_refl _) _
  have hAb := heap_alloc_new W (.cells #[.int .i64 2, .int .i64 0, .string ⟨#[]⟩] 24)
  have hAs : W.heap.size < (W.alloc (.cells #[.int .i64 2, .int .i64 0, .string ⟨#[]⟩] 24)).heap.size := by rw [World.size_alloc]; omega
  obtain ⟨Y, hY⟩ : ∃ Y, Y = W.alloc (.cells #[.int .i64 2, .int .i64 0, .string ⟨#[]⟩] 24) := ⟨_, rfl⟩
  rw [← hY] at hA hAb hAs ⊢
  obtain ⟨na, hna⟩ : ∃ na, na = W.heap.size := ⟨_, rfl⟩
  rw [← hna] at hAb hAs ⊢
  have HNA := hideT hna
  have HY := hideT hA
  have HYB := hideT hAb
  have HYS := hideT hAs
  clear hA hAb hAs hY hna
  go_loopw [17] (fun v wr => ∃ k : Nat, k ≤ 256 ∧ v = .int .i64 (k : Nat) ∧ Hid (Below Y.heap.size Y wr)) (fun v _ => 256 - (intOf v).toNat)
  case atStart => exact ⟨0, by omega, rfl, hideT (Below.refl _ _)⟩
  case round =>
    obtain ⟨k, hk, rfl, HB⟩ := hrel
    by_cases hlt : k < 256
    · obtain ⟨q, rfl⟩ : ∃ q : UInt8, k = q.toNat := ⟨UInt8.ofNat k, by simp; omega⟩
      have i1 : (q.toNat : Int) < 256 := by omega
      have u1 : IntKind.u8.wrap (q.toNat : Int) = (q.toNat : Int) := by rw [IntKind.wrap_u8]; omega
      have u2 : ((q.toNat : Int) % 256) = (q.toNat : Int) := by omega
      have HQ := hideT (show addrB 2 q = true by have := addrs_all q.toNat hlt; rwa [UInt8.ofNat_toNat] at this)
      clear hlt
      go_upto_region 6 with fail
      go_wp2_with (refine store_cmd rfl _ _ rfl wr.heap.size ⟨0, 0, 0, false, q, [120]⟩ rst0 rfl rfl zc rfl (heap_alloc_new wr _) ?_)
      intro w1 hblk hbel hfar
      have hb1 := hbel Y.heap.size Y HB.out.size ((HB.out).alloc HB.out.size _)
      obtain ⟨nc, hnc⟩ : ∃ nc, nc = wr.heap.size := ⟨_, rfl⟩
      have HNC := hideT (show Y.heap.size ≤ nc by rw [hnc]; exact HB.out.size)
      rw [← hnc] at hblk ⊢
      have HC1 := hideT hblk
      have HB1 := hideT hb1
      clear hblk hbel hfar hb1 hnc HB
      go_upto_region 8 with fail
      go_cut [24] from 23 to 23 (fun s24 w' => s24 = .int .u8 (q.toNat : Nat) ∧ w' = w1)
      case first =>
        go_wp2
        go_meet
        exact ⟨rfl, rfl⟩
      case rest =>
      obtain ⟨rfl, hwc⟩ := hcut
      subst hwc
      rename_i KB hKB
      refine hKB _ _ ?_
      go_cut [5] from 25 to 53 (fun s5 w' => s5 = .int .i64 (mostR q) ∧ w' = wc)
      case first =>
        by_cases h58 : q.toNat = 58
        · have HM := hideT (show mostR q = 0 by rw [show q = UInt8.ofNat 58 from UInt8.toNat_inj.1 (by rw [h58]; rfl)]; decide +kernel)
          have n58 : ((q.toNat : Int) == 58) = true := is_byte q 58 h58
          have n125 : ((q.toNat : Int) == 125) = false := no_byte q 125 (by omega)
          have n97 : ((q.toNat : Int) == 97) = false := no_byte q 97 (by omega)
          have n105 : ((q.toNat : Int) == 105) = false := no_byte q 105 (by omega)
          have n114 : ((q.toNat : Int) == 114) = false := no_byte q 114 (by omega)
          have n113 : ((q.toNat : Int) == 113) = false := no_byte q 113 (by omega)
          have n61 : ((q.toNat : Int) == 61) = false := no_byte q 61 (by omega)
          have n123 : ((q.toNat : Int) == 123) = false := no_byte q 123 (by omega)
          have n98 : ((q.toNat : Int) == 98) = false := no_byte q 98 (by omega)
          have n99 : ((q.toNat : Int) == 99) = false := no_byte q 99 (by omega)
          have n100 : ((q.toNat : Int) == 100) = false := no_byte q 100 (by omega)
          have n68 : ((q.toNat : Int) == 68) = false := no_byte q 68 (by omega)
          have n103 : ((q.toNat : Int) == 103) = false := no_byte q 103 (by omega)
          have n71 : ((q.toNat : Int) == 71) = false := no_byte q 71 (by omega)
          have n104 : ((q.toNat : Int) == 104) = false := no_byte q 104 (by omega)
          have n72 : ((q.toNat : Int) == 72) = false := no_byte q 72 (by omega)
          have n108 : ((q.toNat : Int) == 108) = false := no_byte q 108 (by omega)
          have n110 : ((q.toNat : Int) == 110) = false := no_byte q 110 (by omega)
          have n78 : ((q.toNat : Int) == 78) = false := no_byte q 78 (by omega)
          have n112 : ((q.toNat : Int) == 112) = false := no_byte q 112 (by omega)
          have n80 : ((q.toNat : Int) == 80) = false := no_byte q 80 (by omega)
          have n115 : ((q.toNat : Int) == 115) = false := no_byte q 115 (by omega)
          have n116 : ((q.toNat : Int) == 116) = false := no_byte q 116 (by omega)
          have n119 : ((q.toNat : Int) == 119) = false := no_byte q 119 (by omega)
          have n120 : ((q.toNat : Int) == 120) = false := no_byte q 120 (by omega)
          have n121 : ((q.toNat : Int) == 121) = false := no_byte q 121 (by omega)
          clear h58
          go_wp2
          go_meet
          exact ⟨by rw [HM.out], rfl⟩
        by_cases h125 : q.toNat = 125
        · have HM := hideT (show mostR q = 0 by rw [show q = UInt8.ofNat 125 from UInt8.toNat_inj.1 (by rw [h125]; rfl)]; decide +kernel)
          have n58 : ((q.toNat : Int) == 58) = false := no_byte q 58 h58
          have n125 : ((q.toNat : Int) == 125) = true := is_byte q 125 h125
          have n97 : ((q.toNat : Int) == 97) = false := no_byte q 97 (by omega)
          have n105 : ((q.toNat : Int) == 105) = false := no_byte q 105 (by omega)
          have n114 : ((q.toNat : Int) == 114) = false := no_byte q 114 (by omega)
          have n113 : ((q.toNat : Int) == 113) = false := no_byte q 113 (by omega)
          have n61 : ((q.toNat : Int) == 61) = false := no_byte q 61 (by omega)
          have n123 : ((q.toNat : Int) == 123) = false := no_byte q 123 (by omega)
          have n98 : ((q.toNat : Int) == 98) = false := no_byte q 98 (by omega)
          have n99 : ((q.toNat : Int) == 99) = false := no_byte q 99 (by omega)
          have n100 : ((q.toNat : Int) == 100) = false := no_byte q 100 (by omega)
          have n68 : ((q.toNat : Int) == 68) = false := no_byte q 68 (by omega)
          have n103 : ((q.toNat : Int) == 103) = false := no_byte q 103 (by omega)
          have n71 : ((q.toNat : Int) == 71) = false := no_byte q 71 (by omega)
          have n104 : ((q.toNat : Int) == 104) = false := no_byte q 104 (by omega)
          have n72 : ((q.toNat : Int) == 72) = false := no_byte q 72 (by omega)
          have n108 : ((q.toNat : Int) == 108) = false := no_byte q 108 (by omega)
          have n110 : ((q.toNat : Int) == 110) = false := no_byte q 110 (by omega)
          have n78 : ((q.toNat : Int) == 78) = false := no_byte q 78 (by omega)
          have n112 : ((q.toNat : Int) == 112) = false := no_byte q 112 (by omega)
          have n80 : ((q.toNat : Int) == 80) = false := no_byte q 80 (by omega)
          have n115 : ((q.toNat : Int) == 115) = false := no_byte q 115 (by omega)
          have n116 : ((q.toNat : Int) == 116) = false := no_byte q 116 (by omega)
          have n119 : ((q.toNat : Int) == 119) = false := no_byte q 119 (by omega)
          have n120 : ((q.toNat : Int) == 120) = false := no_byte q 120 (by omega)
          have n121 : ((q.toNat : Int) == 121) = false := no_byte q 121 (by omega)
          clear h58 h125
          go_wp2
          go_meet
          exact ⟨by rw [HM.out], rfl⟩
        by_cases h97 : q.toNat = 97
        · have HM := hideT (show mostR q = 1 by rw [show q = UInt8.ofNat 97 from UInt8.toNat_inj.1 (by rw [h97]; rfl)]; decide +kernel)
          have n58 : ((q.toNat : Int) == 58) = false := no_byte q 58 h58
          have n125 : ((q.toNat : Int) == 125) = false := no_byte q 125 h125
          have n97 : ((q.toNat : Int) == 97) = true := is_byte q 97 h97
          have n105 : ((q.toNat : Int) == 105) = false := no_byte q 105 (by omega)
          have n114 : ((q.toNat : Int) == 114) = false := no_byte q 114 (by omega)
          have n113 : ((q.toNat : Int) == 113) = false := no_byte q 113 (by omega)
          have n61 : ((q.toNat : Int) == 61) = false := no_byte q 61 (by omega)
          have n123 : ((q.toNat : Int) == 123) = false := no_byte q 123 (by omega)
          have n98 : ((q.toNat : Int) == 98) = false := no_byte q 98 (by omega)
          have n99 : ((q.toNat : Int) == 99) = false := no_byte q 99 (by omega)
          have n100 : ((q.toNat : Int) == 100) = false := no_byte q 100 (by omega)
          have n68 : ((q.toNat : Int) == 68) = false := no_byte q 68 (by omega)
          have n103 : ((q.toNat : Int) == 103) = false := no_byte q 103 (by omega)
          have n71 : ((q.toNat : Int) == 71) = false := no_byte q 71 (by omega)
          have n104 : ((q.toNat : Int) == 104) = false := no_byte q 104 (by omega)
          have n72 : ((q.toNat : Int) == 72) = false := no_byte q 72 (by omega)
          have n108 : ((q.toNat : Int) == 108) = false := no_byte q 108 (by omega)
          have n110 : ((q.toNat : Int) == 110) = false := no_byte q 110 (by omega)
          have n78 : ((q.toNat : Int) == 78) = false := no_byte q 78 (by omega)
          have n112 : ((q.toNat : Int) == 112) = false := no_byte q 112 (by omega)
          have n80 : ((q.toNat : Int) == 80) = false := no_byte q 80 (by omega)
          have n115 : ((q.toNat : Int) == 115) = false := no_byte q 115 (by omega)
          have n116 : ((q.toNat : Int) == 116) = false := no_byte q 116 (by omega)
          have n119 : ((q.toNat : Int) == 119) = false := no_byte q 119 (by omega)
          have n120 : ((q.toNat : Int) == 120) = false := no_byte q 120 (by omega)
          have n121 : ((q.toNat : Int) == 121) = false := no_byte q 121 (by omega)
          clear h58 h125 h97
          go_wp2
          go_meet
          exact ⟨by rw [HM.out], rfl⟩
        by_cases h105 : q.toNat = 105
        · have HM := hideT (show mostR q = 1 by rw [show q = UInt8.ofNat 105 from UInt8.toNat_inj.1 (by rw [h105]; rfl)]; decide +kernel)
          have n58 : ((q.toNat : Int) == 58) = false := no_byte q 58 h58
          have n125 : ((q.toNat : Int) == 125) = false := no_byte q 125 h125
          have n97 : ((q.toNat : Int) == 97) = false := no_byte q 97 h97
          have n105 : ((q.toNat : Int) == 105) = true := is_byte q 105 h105
          have n114 : ((q.toNat : Int) == 114) = false := no_byte q 114 (by omega)
          have n113 : ((q.toNat : Int) == 113) = false := no_byte q 113 (by omega)
          have n61 : ((q.toNat : Int) == 61) = false := no_byte q 61 (by omega)
          have n123 : ((q.toNat : Int) == 123) = false := no_byte q 123 (by omega)
          have n98 : ((q.toNat : Int) == 98) = false := no_byte q 98 (by omega)
          have n99 : ((q.toNat : Int) == 99) = false := no_byte q 99 (by omega)
          have n100 : ((q.toNat : Int) == 100) = false := no_byte q 100 (by omega)
          have n68 : ((q.toNat : Int) == 68) = false := no_byte q 68 (by omega)
          have n103 : ((q.toNat : Int) == 103) = false := no_byte q 103 (by omega)
          have n71 : ((q.toNat : Int) == 71) = false := no_byte q 71 (by omega)
          have n104 : ((q.toNat : Int) == 104) = false := no_byte q 104 (by omega)
          have n72 : ((q.toNat : Int) == 72) = false := no_byte q 72 (by omega)
          have n108 : ((q.toNat : Int) == 108) = false := no_byte q 108 (by omega)
          have n110 : ((q.toNat : Int) == 110) = false := no_byte q 110 (by omega)
          have n78 : ((q.toNat : Int) == 78) = false := no_byte q 78 (by omega)
          have n112 : ((q.toNat : Int) == 112) = false := no_byte q 112 (by omega)
          have n80 : ((q.toNat : Int) == 80) = false := no_byte q 80 (by omega)
          have n115 : ((q.toNat : Int) == 115) = false := no_byte q 115 (by omega)
          have n116 : ((q.toNat : Int) == 116) = false := no_byte q 116 (by omega)
          have n119 : ((q.toNat : Int) == 119) = false := no_byte q 119 (by omega)
          have n120 : ((q.toNat : Int) == 120) = false := no_byte q 120 (by omega)
          have n121 : ((q.toNat : Int) == 121) = false := no_byte q 121 (by omega)
          clear h58 h125 h97 h105
          go_wp2
          go_meet
          exact ⟨by rw [HM.out], rfl⟩
        by_cases h114 : q.toNat = 114
        · have HM := hideT (show mostR q = 1 by rw [show q = UInt8.ofNat 114 from UInt8.toNat_inj.1 (by rw [h114]; rfl)]; decide +kernel)
          have n58 : ((q.toNat : Int) == 58) = false := no_byte q 58 h58
          have n125 : ((q.toNat : Int) == 125) = false := no_byte q 125 h125
          have n97 : ((q.toNat : Int) == 97) = false := no_byte q 97 h97
          have n105 : ((q.toNat : Int) == 105) = false := no_byte q 105 h105
          have n114 : ((q.toNat : Int) == 114) = true := is_byte q 114 h114
          have n113 : ((q.toNat : Int) == 113) = false := no_byte q 113 (by omega)
          have n61 : ((q.toNat : Int) == 61) = false := no_byte q 61 (by omega)
          have n123 : ((q.toNat : Int) == 123) = false := no_byte q 123 (by omega)
          have n98 : ((q.toNat : Int) == 98) = false := no_byte q 98 (by omega)
          have n99 : ((q.toNat : Int) == 99) = false := no_byte q 99 (by omega)
          have n100 : ((q.toNat : Int) == 100) = false := no_byte q 100 (by omega)
          have n68 : ((q.toNat : Int) == 68) = false := no_byte q 68 (by omega)
          have n103 : ((q.toNat : Int) == 103) = false := no_byte q 103 (by omega)
          have n71 : ((q.toNat : Int) == 71) = false := no_byte q 71 (by omega)
          have n104 : ((q.toNat : Int) == 104) = false := no_byte q 104 (by omega)
          have n72 : ((q.toNat : Int) == 72) = false := no_byte q 72 (by omega)
          have n108 : ((q.toNat : Int) == 108) = false := no_byte q 108 (by omega)
          have n110 : ((q.toNat : Int) == 110) = false := no_byte q 110 (by omega)
          have n78 : ((q.toNat : Int) == 78) = false := no_byte q 78 (by omega)
          have n112 : ((q.toNat : Int) == 112) = false := no_byte q 112 (by omega)
          have n80 : ((q.toNat : Int) == 80) = false := no_byte q 80 (by omega)
          have n115 : ((q.toNat : Int) == 115) = false := no_byte q 115 (by omega)
          have n116 : ((q.toNat : Int) == 116) = false := no_byte q 116 (by omega)
          have n119 : ((q.toNat : Int) == 119) = false := no_byte q 119 (by omega)
          have n120 : ((q.toNat : Int) == 120) = false := no_byte q 120 (by omega)
          have n121 : ((q.toNat : Int) == 121) = false := no_byte q 121 (by omega)
          clear h58 h125 h97 h105 h114
          go_wp2
          go_meet
          exact ⟨by rw [HM.out], rfl⟩
        by_cases h113 : q.toNat = 113
        · have HM := hideT (show mostR q = 1 by rw [show q = UInt8.ofNat 113 from UInt8.toNat_inj.1 (by rw [h113]; rfl)]; decide +kernel)
          have n58 : ((q.toNat : Int) == 58) = false := no_byte q 58 h58
          have n125 : ((q.toNat : Int) == 125) = false := no_byte q 125 h125
          have n97 : ((q.toNat : Int) == 97) = false := no_byte q 97 h97
          have n105 : ((q.toNat : Int) == 105) = false := no_byte q 105 h105
          have n114 : ((q.toNat : Int) == 114) = false := no_byte q 114 h114
          have n113 : ((q.toNat : Int) == 113) = true := is_byte q 113 h113
          have n61 : ((q.toNat : Int) == 61) = false := no_byte q 61 (by omega)
          have n123 : ((q.toNat : Int) == 123) = false := no_byte q 123 (by omega)
          have n98 : ((q.toNat : Int) == 98) = false := no_byte q 98 (by omega)
          have n99 : ((q.toNat : Int) == 99) = false := no_byte q 99 (by omega)
          have n100 : ((q.toNat : Int) == 100) = false := no_byte q 100 (by omega)
          have n68 : ((q.toNat : Int) == 68) = false := no_byte q 68 (by omega)
          have n103 : ((q.toNat : Int) == 103) = false := no_byte q 103 (by omega)
          have n71 : ((q.toNat : Int) == 71) = false := no_byte q 71 (by omega)
          have n104 : ((q.toNat : Int) == 104) = false := no_byte q 104 (by omega)
          have n72 : ((q.toNat : Int) == 72) = false := no_byte q 72 (by omega)
          have n108 : ((q.toNat : Int) == 108) = false := no_byte q 108 (by omega)
          have n110 : ((q.toNat : Int) == 110) = false := no_byte q 110 (by omega)
          have n78 : ((q.toNat : Int) == 78) = false := no_byte q 78 (by omega)
          have n112 : ((q.toNat : Int) == 112) = false := no_byte q 112 (by omega)
          have n80 : ((q.toNat : Int) == 80) = false := no_byte q 80 (by omega)
          have n115 : ((q.toNat : Int) == 115) = false := no_byte q 115 (by omega)
          have n116 : ((q.toNat : Int) == 116) = false := no_byte q 116 (by omega)
          have n119 : ((q.toNat : Int) == 119) = false := no_byte q 119 (by omega)
          have n120 : ((q.toNat : Int) == 120) = false := no_byte q 120 (by omega)
          have n121 : ((q.toNat : Int) == 121) = false := no_byte q 121 (by omega)
          clear h58 h125 h97 h105 h114 h113
          go_wp2
          go_meet
          exact ⟨by rw [HM.out], rfl⟩
        by_cases h61 : q.toNat = 61
        · have HM := hideT (show mostR q = 1 by rw [show q = UInt8.ofNat 61 from UInt8.toNat_inj.1 (by rw [h61]; rfl)]; decide +kernel)
          have n58 : ((q.toNat : Int) == 58) = false := no_byte q 58 h58
          have n125 : ((q.toNat : Int) == 125) = false := no_byte q 125 h125
          have n97 : ((q.toNat : Int) == 97) = false := no_byte q 97 h97
          have n105 : ((q.toNat : Int) == 105) = false := no_byte q 105 h105
          have n114 : ((q.toNat : Int) == 114) = false := no_byte q 114 h114
          have n113 : ((q.toNat : Int) == 113) = false := no_byte q 113 h113
          have n61 : ((q.toNat : Int) == 61) = true := is_byte q 61 h61
          have n123 : ((q.toNat : Int) == 123) = false := no_byte q 123 (by omega)
          have n98 : ((q.toNat : Int) == 98) = false := no_byte q 98 (by omega)
          have n99 : ((q.toNat : Int) == 99) = false := no_byte q 99 (by omega)
          have n100 : ((q.toNat : Int) == 100) = false := no_byte q 100 (by omega)
          have n68 : ((q.toNat : Int) == 68) = false := no_byte q 68 (by omega)
          have n103 : ((q.toNat : Int) == 103) = false := no_byte q 103 (by omega)
          have n71 : ((q.toNat : Int) == 71) = false := no_byte q 71 (by omega)
          have n104 : ((q.toNat : Int) == 104) = false := no_byte q 104 (by omega)
          have n72 : ((q.toNat : Int) == 72) = false := no_byte q 72 (by omega)
          have n108 : ((q.toNat : Int) == 108) = false := no_byte q 108 (by omega)
          have n110 : ((q.toNat : Int) == 110) = false := no_byte q 110 (by omega)
          have n78 : ((q.toNat : Int) == 78) = false := no_byte q 78 (by omega)
          have n112 : ((q.toNat : Int) == 112) = false := no_byte q 112 (by omega)
          have n80 : ((q.toNat : Int) == 80) = false := no_byte q 80 (by omega)
          have n115 : ((q.toNat : Int) == 115) = false := no_byte q 115 (by omega)
          have n116 : ((q.toNat : Int) == 116) = false := no_byte q 116 (by omega)
          have n119 : ((q.toNat : Int) == 119) = false := no_byte q 119 (by omega)
          have n120 : ((q.toNat : Int) == 120) = false := no_byte q 120 (by omega)
          have n121 : ((q.toNat : Int) == 121) = false := no_byte q 121 (by omega)
          clear h58 h125 h97 h105 h114 h113 h61
          go_wp2
          go_meet
          exact ⟨by rw [HM.out], rfl⟩
        by_cases h123 : q.toNat = 123
        · have HM := hideT (show mostR q = 2 by rw [show q = UInt8.ofNat 123 from UInt8.toNat_inj.1 (by rw [h123]; rfl)]; decide +kernel)
          have n58 : ((q.toNat : Int) == 58) = false := no_byte q 58 h58
          have n125 : ((q.toNat : Int) == 125) = false := no_byte q 125 h125
          have n97 : ((q.toNat : Int) == 97) = false := no_byte q 97 h97
          have n105 : ((q.toNat : Int) == 105) = false := no_byte q 105 h105
          have n114 : ((q.toNat : Int) == 114) = false := no_byte q 114 h114
          have n113 : ((q.toNat : Int) == 113) = false := no_byte q 113 h113
          have n61 : ((q.toNat : Int) == 61) = false := no_byte q 61 h61
          have n123 : ((q.toNat : Int) == 123) = true := is_byte q 123 h123
          have n98 : ((q.toNat : Int) == 98) = false := no_byte q 98 (by omega)
          have n99 : ((q.toNat : Int) == 99) = false := no_byte q 99 (by omega)
          have n100 : ((q.toNat : Int) == 100) = false := no_byte q 100 (by omega)
          have n68 : ((q.toNat : Int) == 68) = false := no_byte q 68 (by omega)
          have n103 : ((q.toNat : Int) == 103) = false := no_byte q 103 (by omega)
          have n71 : ((q.toNat : Int) == 71) = false := no_byte q 71 (by omega)
          have n104 : ((q.toNat : Int) == 104) = false := no_byte q 104 (by omega)
          have n72 : ((q.toNat : Int) == 72) = false := no_byte q 72 (by omega)
          have n108 : ((q.toNat : Int) == 108) = false := no_byte q 108 (by omega)
          have n110 : ((q.toNat : Int) == 110) = false := no_byte q 110 (by omega)
          have n78 : ((q.toNat : Int) == 78) = false := no_byte q 78 (by omega)
          have n112 : ((q.toNat : Int) == 112) = false := no_byte q 112 (by omega)
          have n80 : ((q.toNat : Int) == 80) = false := no_byte q 80 (by omega)
          have n115 : ((q.toNat : Int) == 115) = false := no_byte q 115 (by omega)
          have n116 : ((q.toNat : Int) == 116) = false := no_byte q 116 (by omega)
          have n119 : ((q.toNat : Int) == 119) = false := no_byte q 119 (by omega)
          have n120 : ((q.toNat : Int) == 120) = false := no_byte q 120 (by omega)
          have n121 : ((q.toNat : Int) == 121) = false := no_byte q 121 (by omega)
          clear h58 h125 h97 h105 h114 h113 h61 h123
          go_wp2
          go_meet
          exact ⟨by rw [HM.out], rfl⟩
        by_cases h98 : q.toNat = 98
        · have HM := hideT (show mostR q = 2 by rw [show q = UInt8.ofNat 98 from UInt8.toNat_inj.1 (by rw [h98]; rfl)]; decide +kernel)
          have n58 : ((q.toNat : Int) == 58) = false := no_byte q 58 h58
          have n125 : ((q.toNat : Int) == 125) = false := no_byte q 125 h125
          have n97 : ((q.toNat : Int) == 97) = false := no_byte q 97 h97
          have n105 : ((q.toNat : Int) == 105) = false := no_byte q 105 h105
          have n114 : ((q.toNat : Int) == 114) = false := no_byte q 114 h114
          have n113 : ((q.toNat : Int) == 113) = false := no_byte q 113 h113
          have n61 : ((q.toNat : Int) == 61) = false := no_byte q 61 h61
          have n123 : ((q.toNat : Int) == 123) = false := no_byte q 123 h123
          have n98 : ((q.toNat : Int) == 98) = true := is_byte q 98 h98
          have n99 : ((q.toNat : Int) == 99) = false := no_byte q 99 (by omega)
          have n100 : ((q.toNat : Int) == 100) = false := no_byte q 100 (by omega)
          have n68 : ((q.toNat : Int) == 68) = false := no_byte q 68 (by omega)
          have n103 : ((q.toNat : Int) == 103) = false := no_byte q 103 (by omega)
          have n71 : ((q.toNat : Int) == 71) = false := no_byte q 71 (by omega)
          have n104 : ((q.toNat : Int) == 104) = false := no_byte q 104 (by omega)
          have n72 : ((q.toNat : Int) == 72) = false := no_byte q 72 (by omega)
          have n108 : ((q.toNat : Int) == 108) = false := no_byte q 108 (by omega)
          have n110 : ((q.toNat : Int) == 110) = false := no_byte q 110 (by omega)
          have n78 : ((q.toNat : Int) == 78) = false := no_byte q 78 (by omega)
          have n112 : ((q.toNat : Int) == 112) = false := no_byte q 112 (by omega)
          have n80 : ((q.toNat : Int) == 80) = false := no_byte q 80 (by omega)
          have n115 : ((q.toNat : Int) == 115) = false := no_byte q 115 (by omega)
          have n116 : ((q.toNat : Int) == 116) = false := no_byte q 116 (by omega)
          have n119 : ((q.toNat : Int) == 119) = false := no_byte q 119 (by omega)
          have n120 : ((q.toNat : Int) == 120) = false := no_byte q 120 (by omega)
          have n121 : ((q.toNat : Int) == 121) = false := no_byte q 121 (by omega)
          clear h58 h125 h97 h105 h114 h113 h61 h123 h98
          go_wp2
          go_meet
          exact ⟨by rw [HM.out], rfl⟩
        by_cases h99 : q.toNat = 99
        · have HM := hideT (show mostR q = 2 by rw [show q = UInt8.ofNat 99 from UInt8.toNat_inj.1 (by rw [h99]; rfl)]; decide +kernel)
          have n58 : ((q.toNat : Int) == 58) = false := no_byte q 58 h58
          have n125 : ((q.toNat : Int) == 125) = false := no_byte q 125 h125
          have n97 : ((q.toNat : Int) == 97) = false := no_byte q 97 h97
          have n105 : ((q.toNat : Int) == 105) = false := no_byte q 105 h105
          have n114 : ((q.toNat : Int) == 114) = false := no_byte q 114 h114
          have n113 : ((q.toNat : Int) == 113) = false := no_byte q 113 h113
          have n61 : ((q.toNat : Int) == 61) = false := no_byte q 61 h61
          have n123 : ((q.toNat : Int) == 123) = false := no_byte q 123 h123
          have n98 : ((q.toNat : Int) == 98) = false := no_byte q 98 h98
          have n99 : ((q.toNat : Int) == 99) = true := is_byte q 99 h99
          have n100 : ((q.toNat : Int) == 100) = false := no_byte q 100 (by omega)
          have n68 : ((q.toNat : Int) == 68) = false := no_byte q 68 (by omega)
          have n103 : ((q.toNat : Int) == 103) = false := no_byte q 103 (by omega)
          have n71 : ((q.toNat : Int) == 71) = false := no_byte q 71 (by omega)
          have n104 : ((q.toNat : Int) == 104) = false := no_byte q 104 (by omega)
          have n72 : ((q.toNat : Int) == 72) = false := no_byte q 72 (by omega)
          have n108 : ((q.toNat : Int) == 108) = false := no_byte q 108 (by omega)
          have n110 : ((q.toNat : Int) == 110) = false := no_byte q 110 (by omega)
          have n78 : ((q.toNat : Int) == 78) = false := no_byte q 78 (by omega)
          have n112 : ((q.toNat : Int) == 112) = false := no_byte q 112 (by omega)
          have n80 : ((q.toNat : Int) == 80) = false := no_byte q 80 (by omega)
          have n115 : ((q.toNat : Int) == 115) = false := no_byte q 115 (by omega)
          have n116 : ((q.toNat : Int) == 116) = false := no_byte q 116 (by omega)
          have n119 : ((q.toNat : Int) == 119) = false := no_byte q 119 (by omega)
          have n120 : ((q.toNat : Int) == 120) = false := no_byte q 120 (by omega)
          have n121 : ((q.toNat : Int) == 121) = false := no_byte q 121 (by omega)
          clear h58 h125 h97 h105 h114 h113 h61 h123 h98 h99
          go_wp2
          go_meet
          exact ⟨by rw [HM.out], rfl⟩
        by_cases h100 : q.toNat = 100
        · have HM := hideT (show mostR q = 2 by rw [show q = UInt8.ofNat 100 from UInt8.toNat_inj.1 (by rw [h100]; rfl)]; decide +kernel)
          have n58 : ((q.toNat : Int) == 58) = false := no_byte q 58 h58
          have n125 : ((q.toNat : Int) == 125) = false := no_byte q 125 h125
          have n97 : ((q.toNat : Int) == 97) = false := no_byte q 97 h97
          have n105 : ((q.toNat : Int) == 105) = false := no_byte q 105 h105
          have n114 : ((q.toNat : Int) == 114) = false := no_byte q 114 h114
          have n113 : ((q.toNat : Int) == 113) = false := no_byte q 113 h113
          have n61 : ((q.toNat : Int) == 61) = false := no_byte q 61 h61
          have n123 : ((q.toNat : Int) == 123) = false := no_byte q 123 h123
          have n98 : ((q.toNat : Int) == 98) = false := no_byte q 98 h98
          have n99 : ((q.toNat : Int) == 99) = false := no_byte q 99 h99
          have n100 : ((q.toNat : Int) == 100) = true := is_byte q 100 h100
          have n68 : ((q.toNat : Int) == 68) = false := no_byte q 68 (by omega)
          have n103 : ((q.toNat : Int) == 103) = false := no_byte q 103 (by omega)
          have n71 : ((q.toNat : Int) == 71) = false := no_byte q 71 (by omega)
          have n104 : ((q.toNat : Int) == 104) = false := no_byte q 104 (by omega)
          have n72 : ((q.toNat : Int) == 72) = false := no_byte q 72 (by omega)
          have n108 : ((q.toNat : Int) == 108) = false := no_byte q 108 (by omega)
          have n110 : ((q.toNat : Int) == 110) = false := no_byte q 110 (by omega)
          have n78 : ((q.toNat : Int) == 78) = false := no_byte q 78 (by omega)
          have n112 : ((q.toNat : Int) == 112) = false := no_byte q 112 (by omega)
          have n80 : ((q.toNat : Int) == 80) = false := no_byte q 80 (by omega)
          have n115 : ((q.toNat : Int) == 115) = false := no_byte q 115 (by omega)
          have n116 : ((q.toNat : Int) == 116) = false := no_byte q 116 (by omega)
          have n119 : ((q.toNat : Int) == 119) = false := no_byte q 119 (by omega)
          have n120 : ((q.toNat : Int) == 120) = false := no_byte q 120 (by omega)
          have n121 : ((q.toNat : Int) == 121) = false := no_byte q 121 (by omega)
          clear h58 h125 h97 h105 h114 h113 h61 h123 h98 h99 h100
          go_wp2
          go_meet
          exact ⟨by rw [HM.out], rfl⟩
        by_cases h68 : q.toNat = 68
        · have HM := hideT (show mostR q = 2 by rw [show q = UInt8.ofNat 68 from UInt8.toNat_inj.1 (by rw [h68]; rfl)]; decide +kernel)
          have n58 : ((q.toNat : Int) == 58) = false := no_byte q 58 h58
          have n125 : ((q.toNat : Int) == 125) = false := no_byte q 125 h125
          have n97 : ((q.toNat : Int) == 97) = false := no_byte q 97 h97
          have n105 : ((q.toNat : Int) == 105) = false := no_byte q 105 h105
          have n114 : ((q.toNat : Int) == 114) = false := no_byte q 114 h114
          have n113 : ((q.toNat : Int) == 113) = false := no_byte q 113 h113
          have n61 : ((q.toNat : Int) == 61) = false := no_byte q 61 h61
          have n123 : ((q.toNat : Int) == 123) = false := no_byte q 123 h123
          have n98 : ((q.toNat : Int) == 98) = false := no_byte q 98 h98
          have n99 : ((q.toNat : Int) == 99) = false := no_byte q 99 h99
          have n100 : ((q.toNat : Int) == 100) = false := no_byte q 100 h100
          have n68 : ((q.toNat : Int) == 68) = true := is_byte q 68 h68
          have n103 : ((q.toNat : Int) == 103) = false := no_byte q 103 (by omega)
          have n71 : ((q.toNat : Int) == 71) = false := no_byte q 71 (by omega)
          have n104 : ((q.toNat : Int) == 104) = false := no_byte q 104 (by omega)
          have n72 : ((q.toNat : Int) == 72) = false := no_byte q 72 (by omega)
          have n108 : ((q.toNat : Int) == 108) = false := no_byte q 108 (by omega)
          have n110 : ((q.toNat : Int) == 110) = false := no_byte q 110 (by omega)
          have n78 : ((q.toNat : Int) == 78) = false := no_byte q 78 (by omega)
          have n112 : ((q.toNat : Int) == 112) = false := no_byte q 112 (by omega)
          have n80 : ((q.toNat : Int) == 80) = false := no_byte q 80 (by omega)
          have n115 : ((q.toNat : Int) == 115) = false := no_byte q 115 (by omega)
          have n116 : ((q.toNat : Int) == 116) = false := no_byte q 116 (by omega)
          have n119 : ((q.toNat : Int) == 119) = false := no_byte q 119 (by omega)
          have n120 : ((q.toNat : Int) == 120) = false := no_byte q 120 (by omega)
          have n121 : ((q.toNat : Int) == 121) = false := no_byte q 121 (by omega)
          clear h58 h125 h97 h105 h114 h113 h61 h123 h98 h99 h100 h68
          go_wp2
          go_meet
          exact ⟨by rw [HM.out], rfl⟩
        by_cases h103 : q.toNat = 103
        · have HM := hideT (show mostR q = 2 by rw [show q = UInt8.ofNat 103 from UInt8.toNat_inj.1 (by rw [h103]; rfl)]; decide +kernel)
          have n58 : ((q.toNat : Int) == 58) = false := no_byte q 58 h58
          have n125 : ((q.toNat : Int) == 125) = false := no_byte q 125 h125
          have n97 : ((q.toNat : Int) == 97) = false := no_byte q 97 h97
          have n105 : ((q.toNat : Int) == 105) = false := no_byte q 105 h105
          have n114 : ((q.toNat : Int) == 114) = false := no_byte q 114 h114
          have n113 : ((q.toNat : Int) == 113) = false := no_byte q 113 h113
          have n61 : ((q.toNat : Int) == 61) = false := no_byte q 61 h61
          have n123 : ((q.toNat : Int) == 123) = false := no_byte q 123 h123
          have n98 : ((q.toNat : Int) == 98) = false := no_byte q 98 h98
          have n99 : ((q.toNat : Int) == 99) = false := no_byte q 99 h99
          have n100 : ((q.toNat : Int) == 100) = false := no_byte q 100 h100
          have n68 : ((q.toNat : Int) == 68) = false := no_byte q 68 h68
          have n103 : ((q.toNat : Int) == 103) = true := is_byte q 103 h103
          have n71 : ((q.toNat : Int) == 71) = false := no_byte q 71 (by omega)
          have n104 : ((q.toNat : Int) == 104) = false := no_byte q 104 (by omega)
          have n72 : ((q.toNat : Int) == 72) = false := no_byte q 72 (by omega)
          have n108 : ((q.toNat : Int) == 108) = false := no_byte q 108 (by omega)
          have n110 : ((q.toNat : Int) == 110) = false := no_byte q 110 (by omega)
          have n78 : ((q.toNat : Int) == 78) = false := no_byte q 78 (by omega)
          have n112 : ((q.toNat : Int) == 112) = false := no_byte q 112 (by omega)
          have n80 : ((q.toNat : Int) == 80) = false := no_byte q 80 (by omega)
          have n115 : ((q.toNat : Int) == 115) = false := no_byte q 115 (by omega)
          have n116 : ((q.toNat : Int) == 116) = false := no_byte q 116 (by omega)
          have n119 : ((q.toNat : Int) == 119) = false := no_byte q 119 (by omega)
          have n120 : ((q.toNat : Int) == 120) = false := no_byte q 120 (by omega)
          have n121 : ((q.toNat : Int) == 121) = false := no_byte q 121 (by omega)
          clear h58 h125 h97 h105 h114 h113 h61 h123 h98 h99 h100 h68 h103
          go_wp2
          go_meet
          exact ⟨by rw [HM.out], rfl⟩
        by_cases h71 : q.toNat = 71
        · have HM := hideT (show mostR q = 2 by rw [show q = UInt8.ofNat 71 from UInt8.toNat_inj.1 (by rw [h71]; rfl)]; decide +kernel)
          have n58 : ((q.toNat : Int) == 58) = false := no_byte q 58 h58
          have n125 : ((q.toNat : Int) == 125) = false := no_byte q 125 h125
          have n97 : ((q.toNat : Int) == 97) = false := no_byte q 97 h97
          have n105 : ((q.toNat : Int) == 105) = false := no_byte q 105 h105
          have n114 : ((q.toNat : Int) == 114) = false := no_byte q 114 h114
          have n113 : ((q.toNat : Int) == 113) = false := no_byte q 113 h113
          have n61 : ((q.toNat : Int) == 61) = false := no_byte q 61 h61
          have n123 : ((q.toNat : Int) == 123) = false := no_byte q 123 h123
          have n98 : ((q.toNat : Int) == 98) = false := no_byte q 98 h98
          have n99 : ((q.toNat : Int) == 99) = false := no_byte q 99 h99
          have n100 : ((q.toNat : Int) == 100) = false := no_byte q 100 h100
          have n68 : ((q.toNat : Int) == 68) = false := no_byte q 68 h68
          have n103 : ((q.toNat : Int) == 103) = false := no_byte q 103 h103
          have n71 : ((q.toNat : Int) == 71) = true := is_byte q 71 h71
          have n104 : ((q.toNat : Int) == 104) = false := no_byte q 104 (by omega)
          have n72 : ((q.toNat : Int) == 72) = false := no_byte q 72 (by omega)
          have n108 : ((q.toNat : Int) == 108) = false := no_byte q 108 (by omega)
          have n110 : ((q.toNat : Int) == 110) = false := no_byte q 110 (by omega)
          have n78 : ((q.toNat : Int) == 78) = false := no_byte q 78 (by omega)
          have n112 : ((q.toNat : Int) == 112) = false := no_byte q 112 (by omega)
          have n80 : ((q.toNat : Int) == 80) = false := no_byte q 80 (by omega)
          have n115 : ((q.toNat : Int) == 115) = false := no_byte q 115 (by omega)
          have n116 : ((q.toNat : Int) == 116) = false := no_byte q 116 (by omega)
          have n119 : ((q.toNat : Int) == 119) = false := no_byte q 119 (by omega)
          have n120 : ((q.toNat : Int) == 120) = false := no_byte q 120 (by omega)
          have n121 : ((q.toNat : Int) == 121) = false := no_byte q 121 (by omega)
          clear h58 h125 h97 h105 h114 h113 h61 h123 h98 h99 h100 h68 h103 h71
          go_wp2
          go_meet
          exact ⟨by rw [HM.out], rfl⟩
        by_cases h104 : q.toNat = 104
        · have HM := hideT (show mostR q = 2 by rw [show q = UInt8.ofNat 104 from UInt8.toNat_inj.1 (by rw [h104]; rfl)]; decide +kernel)
          have n58 : ((q.toNat : Int) == 58) = false := no_byte q 58 h58
          have n125 : ((q.toNat : Int) == 125) = false := no_byte q 125 h125
          have n97 : ((q.toNat : Int) == 97) = false := no_byte q 97 h97
          have n105 : ((q.toNat : Int) == 105) = false := no_byte q 105 h105
          have n114 : ((q.toNat : Int) == 114) = false := no_byte q 114 h114
          have n113 : ((q.toNat : Int) == 113) = false := no_byte q 113 h113
          have n61 : ((q.toNat : Int) == 61) = false := no_byte q 61 h61
          have n123 : ((q.toNat : Int) == 123) = false := no_byte q 123 h123
          have n98 : ((q.toNat : Int) == 98) = false := no_byte q 98 h98
          have n99 : ((q.toNat : Int) == 99) = false := no_byte q 99 h99
          have n100 : ((q.toNat : Int) == 100) = false := no_byte q 100 h100
          have n68 : ((q.toNat : Int) == 68) = false := no_byte q 68 h68
          have n103 : ((q.toNat : Int) == 103) = false := no_byte q 103 h103
          have n71 : ((q.toNat : Int) == 71) = false := no_byte q 71 h71
          have n104 : ((q.toNat : Int) == 104) = true := is_byte q 104 h104
          have n72 : ((q.toNat : Int) == 72) = false := no_byte q 72 (by omega)
          have n108 : ((q.toNat : Int) == 108) = false := no_byte q 108 (by omega)
          have n110 : ((q.toNat : Int) == 110) = false := no_byte q 110 (by omega)
          have n78 : ((q.toNat : Int) == 78) = false := no_byte q 78 (by omega)
          have n112 : ((q.toNat : Int) == 112) = false := no_byte q 112 (by omega)
          have n80 : ((q.toNat : Int) == 80) = false := no_byte q 80 (by omega)
          have n115 : ((q.toNat : Int) == 115) = false := no_byte q 115 (by omega)
          have n116 : ((q.toNat : Int) == 116) = false := no_byte q 116 (by omega)
          have n119 : ((q.toNat : Int) == 119) = false := no_byte q 119 (by omega)
          have n120 : ((q.toNat : Int) == 120) = false := no_byte q 120 (by omega)
          have n121 : ((q.toNat : Int) == 121) = false := no_byte q 121 (by omega)
          clear h58 h125 h97 h105 h114 h113 h61 h123 h98 h99 h100 h68 h103 h71 h104
          go_wp2
          go_meet
          exact ⟨by rw [HM.out], rfl⟩
        by_cases h72 : q.toNat = 72
        · have HM := hideT (show mostR q = 2 by rw [show q = UInt8.ofNat 72 from UInt8.toNat_inj.1 (by rw [h72]; rfl)]; decide +kernel)
          have n58 : ((q.toNat : Int) == 58) = false := no_byte q 58 h58
          have n125 : ((q.toNat : Int) == 125) = false := no_byte q 125 h125
          have n97 : ((q.toNat : Int) == 97) = false := no_byte q 97 h97
          have n105 : ((q.toNat : Int) == 105) = false := no_byte q 105 h105
          have n114 : ((q.toNat : Int) == 114) = false := no_byte q 114 h114
          have n113 : ((q.toNat : Int) == 113) = false := no_byte q 113 h113
          have n61 : ((q.toNat : Int) == 61) = false := no_byte q 61 h61
          have n123 : ((q.toNat : Int) == 123) = false := no_byte q 123 h123
          have n98 : ((q.toNat : Int) == 98) = false := no_byte q 98 h98
          have n99 : ((q.toNat : Int) == 99) = false := no_byte q 99 h99
          have n100 : ((q.toNat : Int) == 100) = false := no_byte q 100 h100
          have n68 : ((q.toNat : Int) == 68) = false := no_byte q 68 h68
          have n103 : ((q.toNat : Int) == 103) = false := no_byte q 103 h103
          have n71 : ((q.toNat : Int) == 71) = false := no_byte q 71 h71
          have n104 : ((q.toNat : Int) == 104) = false := no_byte q 104 h104
          have n72 : ((q.toNat : Int) == 72) = true := is_byte q 72 h72
          have n108 : ((q.toNat : Int) == 108) = false := no_byte q 108 (by omega)
          have n110 : ((q.toNat : Int) == 110) = false := no_byte q 110 (by omega)
          have n78 : ((q.toNat : Int) == 78) = false := no_byte q 78 (by omega)
          have n112 : ((q.toNat : Int) == 112) = false := no_byte q 112 (by omega)
          have n80 : ((q.toNat : Int) == 80) = false := no_byte q 80 (by omega)
          have n115 : ((q.toNat : Int) == 115) = false := no_byte q 115 (by omega)
          have n116 : ((q.toNat : Int) == 116) = false := no_byte q 116 (by omega)
          have n119 : ((q.toNat : Int) == 119) = false := no_byte q 119 (by omega)
          have n120 : ((q.toNat : Int) == 120) = false := no_byte q 120 (by omega)
          have n121 : ((q.toNat : Int) == 121) = false := no_byte q 121 (by omega)
          clear h58 h125 h97 h105 h114 h113 h61 h123 h98 h99 h100 h68 h103 h71 h104 h72
          go_wp2
          go_meet
          exact ⟨by rw [HM.out], rfl⟩
        by_cases h108 : q.toNat = 108
        · have HM := hideT (show mostR q = 2 by rw [show q = UInt8.ofNat 108 from UInt8.toNat_inj.1 (by rw [h108]; rfl)]; decide +kernel)
          have n58 : ((q.toNat : Int) == 58) = false := no_byte q 58 h58
          have n125 : ((q.toNat : Int) == 125) = false := no_byte q 125 h125
          have n97 : ((q.toNat : Int) == 97) = false := no_byte q 97 h97
          have n105 : ((q.toNat : Int) == 105) = false := no_byte q 105 h105
          have n114 : ((q.toNat : Int) == 114) = false := no_byte q 114 h114
          have n113 : ((q.toNat : Int) == 113) = false := no_byte q 113 h113
          have n61 : ((q.toNat : Int) == 61) = false := no_byte q 61 h61
          have n123 : ((q.toNat : Int) == 123) = false := no_byte q 123 h123
          have n98 : ((q.toNat : Int) == 98) = false := no_byte q 98 h98
          have n99 : ((q.toNat : Int) == 99) = false := no_byte q 99 h99
          have n100 : ((q.toNat : Int) == 100) = false := no_byte q 100 h100
          have n68 : ((q.toNat : Int) == 68) = false := no_byte q 68 h68
          have n103 : ((q.toNat : Int) == 103) = false := no_byte q 103 h103
          have n71 : ((q.toNat : Int) == 71) = false := no_byte q 71 h71
          have n104 : ((q.toNat : Int) == 104) = false := no_byte q 104 h104
          have n72 : ((q.toNat : Int) == 72) = false := no_byte q 72 h72
          have n108 : ((q.toNat : Int) == 108) = true := is_byte q 108 h108
          have n110 : ((q.toNat : Int) == 110) = false := no_byte q 110 (by omega)
          have n78 : ((q.toNat : Int) == 78) = false := no_byte q 78 (by omega)
          have n112 : ((q.toNat : Int) == 112) = false := no_byte q 112 (by omega)
          have n80 : ((q.toNat : Int) == 80) = false := no_byte q 80 (by omega)
          have n115 : ((q.toNat : Int) == 115) = false := no_byte q 115 (by omega)
          have n116 : ((q.toNat : Int) == 116) = false := no_byte q 116 (by omega)
          have n119 : ((q.toNat : Int) == 119) = false := no_byte q 119 (by omega)
          have n120 : ((q.toNat : Int) == 120) = false := no_byte q 120 (by omega)
          have n121 : ((q.toNat : Int) == 121) = false := no_byte q 121 (by omega)
          clear h58 h125 h97 h105 h114 h113 h61 h123 h98 h99 h100 h68 h103 h71 h104 h72 h108
          go_wp2
          go_meet
          exact ⟨by rw [HM.out], rfl⟩
        by_cases h110 : q.toNat = 110
        · have HM := hideT (show mostR q = 2 by rw [show q = UInt8.ofNat 110 from UInt8.toNat_inj.1 (by rw [h110]; rfl)]; decide +kernel)
          have n58 : ((q.toNat : Int) == 58) = false := no_byte q 58 h58
          have n125 : ((q.toNat : Int) == 125) = false := no_byte q 125 h125
          have n97 : ((q.toNat : Int) == 97) = false := no_byte q 97 h97
          have n105 : ((q.toNat : Int) == 105) = false := no_byte q 105 h105
          have n114 : ((q.toNat : Int) == 114) = false := no_byte q 114 h114
          have n113 : ((q.toNat : Int) == 113) = false := no_byte q 113 h113
          have n61 : ((q.toNat : Int) == 61) = false := no_byte q 61 h61
          have n123 : ((q.toNat : Int) == 123) = false := no_byte q 123 h123
          have n98 : ((q.toNat : Int) == 98) = false := no_byte q 98 h98
          have n99 : ((q.toNat : Int) == 99) = false := no_byte q 99 h99
          have n100 : ((q.toNat : Int) == 100) = false := no_byte q 100 h100
          have n68 : ((q.toNat : Int) == 68) = false := no_byte q 68 h68
          have n103 : ((q.toNat : Int) == 103) = false := no_byte q 103 h103
          have n71 : ((q.toNat : Int) == 71) = false := no_byte q 71 h71
          have n104 : ((q.toNat : Int) == 104) = false := no_byte q 104 h104
          have n72 : ((q.toNat : Int) == 72) = false := no_byte q 72 h72
          have n108 : ((q.toNat : Int) == 108) = false := no_byte q 108 h108
          have n110 : ((q.toNat : Int) == 110) = true := is_byte q 110 h110
          have n78 : ((q.toNat : Int) == 78) = false := no_byte q 78 (by omega)
          have n112 : ((q.toNat : Int) == 112) = false := no_byte q 112 (by omega)
          have n80 : ((q.toNat : Int) == 80) = false := no_byte q 80 (by omega)
          have n115 : ((q.toNat : Int) == 115) = false := no_byte q 115 (by omega)
          have n116 : ((q.toNat : Int) == 116) = false := no_byte q 116 (by omega)
          have n119 : ((q.toNat : Int) == 119) = false := no_byte q 119 (by omega)
          have n120 : ((q.toNat : Int) == 120) = false := no_byte q 120 (by omega)
          have n121 : ((q.toNat : Int) == 121) = false := no_byte q 121 (by omega)
          clear h58 h125 h97 h105 h114 h113 h61 h123 h98 h99 h100 h68 h103 h71 h104 h72 h108 h110
          go_wp2
          go_meet
          exact ⟨by rw [HM.out], rfl⟩
        by_cases h78 : q.toNat = 78
        · have HM := hideT (show mostR q = 2 by rw [show q = UInt8.ofNat 78 from UInt8.toNat_inj.1 (by rw [h78]; rfl)]; decide +kernel)
          have n58 : ((q.toNat : Int) == 58) = false := no_byte q 58 h58
          have n125 : ((q.toNat : Int) == 125) = false := no_byte q 125 h125
          have n97 : ((q.toNat : Int) == 97) = false := no_byte q 97 h97
          have n105 : ((q.toNat : Int) == 105) = false := no_byte q 105 h105
          have n114 : ((q.toNat : Int) == 114) = false := no_byte q 114 h114
          have n113 : ((q.toNat : Int) == 113) = false := no_byte q 113 h113
          have n61 : ((q.toNat : Int) == 61) = false := no_byte q 61 h61
          have n123 : ((q.toNat : Int) == 123) = false := no_byte q 123 h123
          have n98 : ((q.toNat : Int) == 98) = false := no_byte q 98 h98
          have n99 : ((q.toNat : Int) == 99) = false := no_byte q 99 h99
          have n100 : ((q.toNat : Int) == 100) = false := no_byte q 100 h100
          have n68 : ((q.toNat : Int) == 68) = false := no_byte q 68 h68
          have n103 : ((q.toNat : Int) == 103) = false := no_byte q 103 h103
          have n71 : ((q.toNat : Int) == 71) = false := no_byte q 71 h71
          have n104 : ((q.toNat : Int) == 104) = false := no_byte q 104 h104
          have n72 : ((q.toNat : Int) == 72) = false := no_byte q 72 h72
          have n108 : ((q.toNat : Int) == 108) = false := no_byte q 108 h108
          have n110 : ((q.toNat : Int) == 110) = false := no_byte q 110 h110
          have n78 : ((q.toNat : Int) == 78) = true := is_byte q 78 h78
          have n112 : ((q.toNat : Int) == 112) = false := no_byte q 112 (by omega)
          have n80 : ((q.toNat : Int) == 80) = false := no_byte q 80 (by omega)
          have n115 : ((q.toNat : Int) == 115) = false := no_byte q 115 (by omega)
          have n116 : ((q.toNat : Int) == 116) = false := no_byte q 116 (by omega)
          have n119 : ((q.toNat : Int) == 119) = false := no_byte q 119 (by omega)
          have n120 : ((q.toNat : Int) == 120) = false := no_byte q 120 (by omega)
          have n121 : ((q.toNat : Int) == 121) = false := no_byte q 121 (by omega)
          clear h58 h125 h97 h105 h114 h113 h61 h123 h98 h99 h100 h68 h103 h71 h104 h72 h108 h110 h78
          go_wp2
          go_meet
          exact ⟨by rw [HM.out], rfl⟩
        by_cases h112 : q.toNat = 112
        · have HM := hideT (show mostR q = 2 by rw [show q = UInt8.ofNat 112 from UInt8.toNat_inj.1 (by rw [h112]; rfl)]; decide +kernel)
          have n58 : ((q.toNat : Int) == 58) = false := no_byte q 58 h58
          have n125 : ((q.toNat : Int) == 125) = false := no_byte q 125 h125
          have n97 : ((q.toNat : Int) == 97) = false := no_byte q 97 h97
          have n105 : ((q.toNat : Int) == 105) = false := no_byte q 105 h105
          have n114 : ((q.toNat : Int) == 114) = false := no_byte q 114 h114
          have n113 : ((q.toNat : Int) == 113) = false := no_byte q 113 h113
          have n61 : ((q.toNat : Int) == 61) = false := no_byte q 61 h61
          have n123 : ((q.toNat : Int) == 123) = false := no_byte q 123 h123
          have n98 : ((q.toNat : Int) == 98) = false := no_byte q 98 h98
          have n99 : ((q.toNat : Int) == 99) = false := no_byte q 99 h99
          have n100 : ((q.toNat : Int) == 100) = false := no_byte q 100 h100
          have n68 : ((q.toNat : Int) == 68) = false := no_byte q 68 h68
          have n103 : ((q.toNat : Int) == 103) = false := no_byte q 103 h103
          have n71 : ((q.toNat : Int) == 71) = false := no_byte q 71 h71
          have n104 : ((q.toNat : Int) == 104) = false := no_byte q 104 h104
          have n72 : ((q.toNat : Int) == 72) = false := no_byte q 72 h72
          have n108 : ((q.toNat : Int) == 108) = false := no_byte q 108 h108
          have n110 : ((q.toNat : Int) == 110) = false := no_byte q 110 h110
          have n78 : ((q.toNat : Int) == 78) = false := no_byte q 78 h78
          have n112 : ((q.toNat : Int) == 112) = true := is_byte q 112 h112
          have n80 : ((q.toNat : Int) == 80) = false := no_byte q 80 (by omega)
          have n115 : ((q.toNat : Int) == 115) = false := no_byte q 115 (by omega)
          have n116 : ((q.toNat : Int) == 116) = false := no_byte q 116 (by omega)
          have n119 : ((q.toNat : Int) == 119) = false := no_byte q 119 (by omega)
          have n120 : ((q.toNat : Int) == 120) = false := no_byte q 120 (by omega)
          have n121 : ((q.toNat : Int) == 121) = false := no_byte q 121 (by omega)
          clear h58 h125 h97 h105 h114 h113 h61 h123 h98 h99 h100 h68 h103 h71 h104 h72 h108 h110 h78 h112
          go_wp2
          go_meet
          exact ⟨by rw [HM.out], rfl⟩
        by_cases h80 : q.toNat = 80
        · have HM := hideT (show mostR q = 2 by rw [show q = UInt8.ofNat 80 from UInt8.toNat_inj.1 (by rw [h80]; rfl)]; decide +kernel)
          have n58 : ((q.toNat : Int) == 58) = false := no_byte q 58 h58
          have n125 : ((q.toNat : Int) == 125) = false := no_byte q 125 h125
          have n97 : ((q.toNat : Int) == 97) = false := no_byte q 97 h97
          have n105 : ((q.toNat : Int) == 105) = false := no_byte q 105 h105
          have n114 : ((q.toNat : Int) == 114) = false := no_byte q 114 h114
          have n113 : ((q.toNat : Int) == 113) = false := no_byte q 113 h113
          have n61 : ((q.toNat : Int) == 61) = false := no_byte q 61 h61
          have n123 : ((q.toNat : Int) == 123) = false := no_byte q 123 h123
          have n98 : ((q.toNat : Int) == 98) = false := no_byte q 98 h98
          have n99 : ((q.toNat : Int) == 99) = false := no_byte q 99 h99
          have n100 : ((q.toNat : Int) == 100) = false := no_byte q 100 h100
          have n68 : ((q.toNat : Int) == 68) = false := no_byte q 68 h68
          have n103 : ((q.toNat : Int) == 103) = false := no_byte q 103 h103
          have n71 : ((q.toNat : Int) == 71) = false := no_byte q 71 h71
          have n104 : ((q.toNat : Int) == 104) = false := no_byte q 104 h104
          have n72 : ((q.toNat : Int) == 72) = false := no_byte q 72 h72
          have n108 : ((q.toNat : Int) == 108) = false := no_byte q 108 h108
          have n110 : ((q.toNat : Int) == 110) = false := no_byte q 110 h110
          have n78 : ((q.toNat : Int) == 78) = false := no_byte q 78 h78
          have n112 : ((q.toNat : Int) == 112) = false := no_byte q 112 h112
          have n80 : ((q.toNat : Int) == 80) = true := is_byte q 80 h80
          have n115 : ((q.toNat : Int) == 115) = false := no_byte q 115 (by omega)
          have n116 : ((q.toNat : Int) == 116) = false := no_byte q 116 (by omega)
          have n119 : ((q.toNat : Int) == 119) = false := no_byte q 119 (by omega)
          have n120 : ((q.toNat : Int) == 120) = false := no_byte q 120 (by omega)
          have n121 : ((q.toNat : Int) == 121) = false := no_byte q 121 (by omega)
          clear h58 h125 h97 h105 h114 h113 h61 h123 h98 h99 h100 h68 h103 h71 h104 h72 h108 h110 h78 h112 h80
          go_wp2
          go_meet
          exact ⟨by rw [HM.out], rfl⟩
        by_cases h115 : q.toNat = 115
        · have HM := hideT (show mostR q = 2 by rw [show q = UInt8.ofNat 115 from UInt8.toNat_inj.1 (by rw [h115]; rfl)]; decide +kernel)
          have n58 : ((q.toNat : Int) == 58) = false := no_byte q 58 h58
          have n125 : ((q.toNat : Int) == 125) = false := no_byte q 125 h125
          have n97 : ((q.toNat : Int) == 97) = false := no_byte q 97 h97
          have n105 : ((q.toNat : Int) == 105) = false := no_byte q 105 h105
          have n114 : ((q.toNat : Int) == 114) = false := no_byte q 114 h114
          have n113 : ((q.toNat : Int) == 113) = false := no_byte q 113 h113
          have n61 : ((q.toNat : Int) == 61) = false := no_byte q 61 h61
          have n123 : ((q.toNat : Int) == 123) = false := no_byte q 123 h123
          have n98 : ((q.toNat : Int) == 98) = false := no_byte q 98 h98
          have n99 : ((q.toNat : Int) == 99) = false := no_byte q 99 h99
          have n100 : ((q.toNat : Int) == 100) = false := no_byte q 100 h100
          have n68 : ((q.toNat : Int) == 68) = false := no_byte q 68 h68
          have n103 : ((q.toNat : Int) == 103) = false := no_byte q 103 h103
          have n71 : ((q.toNat : Int) == 71) = false := no_byte q 71 h71
          have n104 : ((q.toNat : Int) == 104) = false := no_byte q 104 h104
          have n72 : ((q.toNat : Int) == 72) = false := no_byte q 72 h72
          have n108 : ((q.toNat : Int) == 108) = false := no_byte q 108 h108
          have n110 : ((q.toNat : Int) == 110) = false := no_byte q 110 h110
          have n78 : ((q.toNat : Int) == 78) = false := no_byte q 78 h78
          have n112 : ((q.toNat : Int) == 112) = false := no_byte q 112 h112
          have n80 : ((q.toNat : Int) == 80) = false := no_byte q 80 h80
          have n115 : ((q.toNat : Int) == 115) = true := is_byte q 115 h115
          have n116 : ((q.toNat : Int) == 116) = false := no_byte q 116 (by omega)
          have n119 : ((q.toNat : Int) == 119) = false := no_byte q 119 (by omega)
          have n120 : ((q.toNat : Int) == 120) = false := no_byte q 120 (by omega)
          have n121 : ((q.toNat : Int) == 121) = false := no_byte q 121 (by omega)
          clear h58 h125 h97 h105 h114 h113 h61 h123 h98 h99 h100 h68 h103 h71 h104 h72 h108 h110 h78 h112 h80 h115
          go_wp2
          go_meet
          exact ⟨by rw [HM.out], rfl⟩
        by_cases h116 : q.toNat = 116
        · have HM := hideT (show mostR q = 2 by rw [show q = UInt8.ofNat 116 from UInt8.toNat_inj.1 (by rw [h116]; rfl)]; decide +kernel)
          have n58 : ((q.toNat : Int) == 58) = false := no_byte q 58 h58
          have n125 : ((q.toNat : Int) == 125) = false := no_byte q 125 h125
          have n97 : ((q.toNat : Int) == 97) = false := no_byte q 97 h97
          have n105 : ((q.toNat : Int) == 105) = false := no_byte q 105 h105
          have n114 : ((q.toNat : Int) == 114) = false := no_byte q 114 h114
          have n113 : ((q.toNat : Int) == 113) = false := no_byte q 113 h113
          have n61 : ((q.toNat : Int) == 61) = false := no_byte q 61 h61
          have n123 : ((q.toNat : Int) == 123) = false := no_byte q 123 h123
          have n98 : ((q.toNat : Int) == 98) = false := no_byte q 98 h98
          have n99 : ((q.toNat : Int) == 99) = false := no_byte q 99 h99
          have n100 : ((q.toNat : Int) == 100) = false := no_byte q 100 h100
          have n68 : ((q.toNat : Int) == 68) = false := no_byte q 68 h68
          have n103 : ((q.toNat : Int) == 103) = false := no_byte q 103 h103
          have n71 : ((q.toNat : Int) == 71) = false := no_byte q 71 h71
          have n104 : ((q.toNat : Int) == 104) = false := no_byte q 104 h104
          have n72 : ((q.toNat : Int) == 72) = false := no_byte q 72 h72
          have n108 : ((q.toNat : Int) == 108) = false := no_byte q 108 h108
          have n110 : ((q.toNat : Int) == 110) = false := no_byte q 110 h110
          have n78 : ((q.toNat : Int) == 78) = false := no_byte q 78 h78
          have n112 : ((q.toNat : Int) == 112) = false := no_byte q 112 h112
          have n80 : ((q.toNat : Int) == 80) = false := no_byte q 80 h80
          have n115 : ((q.toNat : Int) == 115) = false := no_byte q 115 h115
          have n116 : ((q.toNat : Int) == 116) = true := is_byte q 116 h116
          have n119 : ((q.toNat : Int) == 119) = false := no_byte q 119 (by omega)
          have n120 : ((q.toNat : Int) == 120) = false := no_byte q 120 (by omega)
          have n121 : ((q.toNat : Int) == 121) = false := no_byte q 121 (by omega)
          clear h58 h125 h97 h105 h114 h113 h61 h123 h98 h99 h100 h68 h103 h71 h104 h72 h108 h110 h78 h112 h80 h115 h116
          go_wp2
          go_meet
          exact ⟨by rw [HM.out], rfl⟩
        by_cases h119 : q.toNat = 119
        · have HM := hideT (show mostR q = 2 by rw [show q = UInt8.ofNat 119 from UInt8.toNat_inj.1 (by rw [h119]; rfl)]; decide +kernel)
          have n58 : ((q.toNat : Int) == 58) = false := no_byte q 58 h58
          have n125 : ((q.toNat : Int) == 125) = false := no_byte q 125 h125
          have n97 : ((q.toNat : Int) == 97) = false := no_byte q 97 h97
          have n105 : ((q.toNat : Int) == 105) = false := no_byte q 105 h105
          have n114 : ((q.toNat : Int) == 114) = false := no_byte q 114 h114
          have n113 : ((q.toNat : Int) == 113) = false := no_byte q 113 h113
          have n61 : ((q.toNat : Int) == 61) = false := no_byte q 61 h61
          have n123 : ((q.toNat : Int) == 123) = false := no_byte q 123 h123
          have n98 : ((q.toNat : Int) == 98) = false := no_byte q 98 h98
          have n99 : ((q.toNat : Int) == 99) = false := no_byte q 99 h99
          have n100 : ((q.toNat : Int) == 100) = false := no_byte q 100 h100
          have n68 : ((q.toNat : Int) == 68) = false := no_byte q 68 h68
          have n103 : ((q.toNat : Int) == 103) = false := no_byte q 103 h103
          have n71 : ((q.toNat : Int) == 71) = false := no_byte q 71 h71
          have n104 : ((q.toNat : Int) == 104) = false := no_byte q 104 h104
          have n72 : ((q.toNat : Int) == 72) = false := no_byte q 72 h72
          have n108 : ((q.toNat : Int) == 108) = false := no_byte q 108 h108
          have n110 : ((q.toNat : Int) == 110) = false := no_byte q 110 h110
          have n78 : ((q.toNat : Int) == 78) = false := no_byte q 78 h78
          have n112 : ((q.toNat : Int) == 112) = false := no_byte q 112 h112
          have n80 : ((q.toNat : Int) == 80) = false := no_byte q 80 h80
          have n115 : ((q.toNat : Int) == 115) = false := no_byte q 115 h115
          have n116 : ((q.toNat : Int) == 116) = false := no_byte q 116 h116
          have n119 : ((q.toNat : Int) == 119) = true := is_byte q 119 h119
          have n120 : ((q.toNat : Int) == 120) = false := no_byte q 120 (by omega)
          have n121 : ((q.toNat : Int) == 121) = false := no_byte q 121 (by omega)
          clear h58 h125 h97 h105 h114 h113 h61 h123 h98 h99 h100 h68 h103 h71 h104 h72 h108 h110 h78 h112 h80 h115 h116 h119
          go_wp2
          go_meet
          exact ⟨by rw [HM.out], rfl⟩
        by_cases h120 : q.toNat = 120
        · have HM := hideT (show mostR q = 2 by rw [show q = UInt8.ofNat 120 from UInt8.toNat_inj.1 (by rw [h120]; rfl)]; decide +kernel)
          have n58 : ((q.toNat : Int) == 58) = false := no_byte q 58 h58
          have n125 : ((q.toNat : Int) == 125) = false := no_byte q 125 h125
          have n97 : ((q.toNat : Int) == 97) = false := no_byte q 97 h97
          have n105 : ((q.toNat : Int) == 105) = false := no_byte q 105 h105
          have n114 : ((q.toNat : Int) == 114) = false := no_byte q 114 h114
          have n113 : ((q.toNat : Int) == 113) = false := no_byte q 113 h113
          have n61 : ((q.toNat : Int) == 61) = false := no_byte q 61 h61
          have n123 : ((q.toNat : Int) == 123) = false := no_byte q 123 h123
          have n98 : ((q.toNat : Int) == 98) = false := no_byte q 98 h98
          have n99 : ((q.toNat : Int) == 99) = false := no_byte q 99 h99
          have n100 : ((q.toNat : Int) == 100) = false := no_byte q 100 h100
          have n68 : ((q.toNat : Int) == 68) = false := no_byte q 68 h68
          have n103 : ((q.toNat : Int) == 103) = false := no_byte q 103 h103
          have n71 : ((q.toNat : Int) == 71) = false := no_byte q 71 h71
          have n104 : ((q.toNat : Int) == 104) = false := no_byte q 104 h104
          have n72 : ((q.toNat : Int) == 72) = false := no_byte q 72 h72
          have n108 : ((q.toNat : Int) == 108) = false := no_byte q 108 h108
          have n110 : ((q.toNat : Int) == 110) = false := no_byte q 110 h110
          have n78 : ((q.toNat : Int) == 78) = false := no_byte q 78 h78
          have n112 : ((q.toNat : Int) == 112) = false := no_byte q 112 h112
          have n80 : ((q.toNat : Int) == 80) = false := no_byte q 80 h80
          have n115 : ((q.toNat : Int) == 115) = false := no_byte q 115 h115
          have n116 : ((q.toNat : Int) == 116) = false := no_byte q 116 h116
          have n119 : ((q.toNat : Int) == 119) = false := no_byte q 119 h119
          have n120 : ((q.toNat : Int) == 120) = true := is_byte q 120 h120
          have n121 : ((q.toNat : Int) == 121) = false := no_byte q 121 (by omega)
          clear h58 h125 h97 h105 h114 h113 h61 h123 h98 h99 h100 h68 h103 h71 h104 h72 h108 h110 h78 h112 h80 h115 h116 h119 h120
          go_wp2
          go_meet
          exact ⟨by rw [HM.out], rfl⟩
        by_cases h121 : q.toNat = 121
        · have HM := hideT (show mostR q = 2 by rw [show q = UInt8.ofNat 121 from UInt8.toNat_inj.1 (by rw [h121]; rfl)]; decide +kernel)
          have n58 : ((q.toNat : Int) == 58) = false := no_byte q 58 h58
          have n125 : ((q.toNat : Int) == 125) = false := no_byte q 125 h125
          have n97 : ((q.toNat : Int) == 97) = false := no_byte q 97 h97
          have n105 : ((q.toNat : Int) == 105) = false := no_byte q 105 h105
          have n114 : ((q.toNat : Int) == 114) = false := no_byte q 114 h114
          have n113 : ((q.toNat : Int) == 113) = false := no_byte q 113 h113
          have n61 : ((q.toNat : Int) == 61) = false := no_byte q 61 h61
          have n123 : ((q.toNat : Int) == 123) = false := no_byte q 123 h123
          have n98 : ((q.toNat : Int) == 98) = false := no_byte q 98 h98
          have n99 : ((q.toNat : Int) == 99) = false := no_byte q 99 h99
          have n100 : ((q.toNat : Int) == 100) = false := no_byte q 100 h100
          have n68 : ((q.toNat : Int) == 68) = false := no_byte q 68 h68
          have n103 : ((q.toNat : Int) == 103) = false := no_byte q 103 h103
          have n71 : ((q.toNat : Int) == 71) = false := no_byte q 71 h71
          have n104 : ((q.toNat : Int) == 104) = false := no_byte q 104 h104
          have n72 : ((q.toNat : Int) == 72) = false := no_byte q 72 h72
          have n108 : ((q.toNat : Int) == 108) = false := no_byte q 108 h108
          have n110 : ((q.toNat : Int) == 110) = false := no_byte q 110 h110
          have n78 : ((q.toNat : Int) == 78) = false := no_byte q 78 h78
          have n112 : ((q.toNat : Int) == 112) = false := no_byte q 112 h112
          have n80 : ((q.toNat : Int) == 80) = false := no_byte q 80 h80
          have n115 : ((q.toNat : Int) == 115) = false := no_byte q 115 h115
          have n116 : ((q.toNat : Int) == 116) = false := no_byte q 116 h116
          have n119 : ((q.toNat : Int) == 119) = false := no_byte q 119 h119
          have n120 : ((q.toNat : Int) == 120) = false := no_byte q 120 h120
          have n121 : ((q.toNat : Int) == 121) = true := is_byte q 121 h121
          clear h58 h125 h97 h105 h114 h113 h61 h123 h98 h99 h100 h68 h103 h71 h104 h72 h108 h110 h78 h112 h80 h115 h116 h119 h120 h121
          go_wp2
          go_meet
          exact ⟨by rw [HM.out], rfl⟩
        have HM := hideT (most_rest q h58 h125 h97 h105 h114 h113 h61 h123 h98 h99 h100 h68 h103 h71 h104 h72 h108 h110 h78 h112 h80 h115 h116 h119 h120 h121)
        have n58 : ((q.toNat : Int) == 58) = false := no_byte q 58 h58
        have n125 : ((q.toNat : Int) == 125) = false := no_byte q 125 h125
        have n97 : ((q.toNat : Int) == 97) = false := no_byte q 97 h97
        have n105 : ((q.toNat : Int) == 105) = false := no_byte q 105 h105
        have n114 : ((q.toNat : Int) == 114) = false := no_byte q 114 h114
        have n113 : ((q.toNat : Int) == 113) = false := no_byte q 113 h113
        have n61 : ((q.toNat : Int) == 61) = false := no_byte q 61 h61
        have n123 : ((q.toNat : Int) == 123) = false := no_byte q 123 h123
        have n98 : ((q.toNat : Int) == 98) = false := no_byte q 98 h98
        have n99 : ((q.toNat : Int) == 99) = false := no_byte q 99 h99
        have n100 : ((q.toNat : Int) == 100) = false := no_byte q 100 h100
        have n68 : ((q.toNat : Int) == 68) = false := no_byte q 68 h68
        have n103 : ((q.toNat : Int) == 103) = false := no_byte q 103 h103
        have n71 : ((q.toNat : Int) == 71) = false := no_byte q 71 h71
        have n104 : ((q.toNat : Int) == 104) = false := no_byte q 104 h104
        have n72 : ((q.toNat : Int) == 72) = false := no_byte q 72 h72
        have n108 : ((q.toNat : Int) == 108) = false := no_byte q 108 h108
        have n110 : ((q.toNat : Int) == 110) = false := no_byte q 110 h110
        have n78 : ((q.toNat : Int) == 78) = false := no_byte q 78 h78
        have n112 : ((q.toNat : Int) == 112) = false := no_byte q 112 h112
        have n80 : ((q.toNat : Int) == 80) = false := no_byte q 80 h80
        have n115 : ((q.toNat : Int) == 115) = false := no_byte q 115 h115
        have n116 : ((q.toNat : Int) == 116) = false := no_byte q 116 h116
        have n119 : ((q.toNat : Int) == 119) = false := no_byte q 119 h119
        have n120 : ((q.toNat : Int) == 120) = false := no_byte q 120 h120
        have n121 : ((q.toNat : Int) == 121) = false := no_byte q 121 h121
        clear h58 h125 h97 h105 h114 h113 h61 h123 h98 h99 h100 h68 h103 h71 h104 h72 h108 h110 h78 h112 h80 h115 h116 h119 h120 h121
        go_wp2
        go_meet
        exact ⟨by rw [HM.out], rfl⟩
      case rest =>
      obtain ⟨rfl, hwc⟩ := hcut
      subst hwc
      rename_i KC hKC
      refine hKC _ _ ?_
      obtain ⟨w2, hw2⟩ : ∃ w2, w2 = wc := ⟨_, rfl⟩
      rw [← hw2] at HC1 HB1 ⊢
      clear hw2
      go_upto_region 38 with fail
      go_cut [6, 7, 8, 9] from 54 to 57 (fun s6 s7 s8 s9 w' => ∃ b6 b7 b8 b9, s6 = .pointer (some ⟨b6, 0, none⟩) ∧ s7 = .pointer (some ⟨b7, 0, none⟩) ∧ s8 = .pointer (some ⟨b8, 0, none⟩) ∧ s9 = .pointer (some ⟨b9, 0, none⟩) ∧ Hid (Four w2 w' ⟨0, 0, 0, false, q, [120]⟩ ⟨0, 0, 0, false, q, [120]⟩ ⟨0, 0, 0, false, q, [120]⟩ ⟨0, 0, 0, false, q, [120]⟩ rst0 b6 b7 b8 b9))
      case first =>
        have s0 : Below w2.heap.size w2 w2.drew := (Below.refl _ _).drew
        have HRG := hideT (fun (V : World) (hV : Below w2.heap.size w2 V) => range_block (cs := cmV ⟨0, 0, 0, false, q, [120]⟩ rst0) ((hV.block nc (Array.getElem?_eq_some_iff.1 HC1.out).1).trans HC1.out))
        obtain ⟨N, hN⟩ : ∃ N, N = w2.heap.size := ⟨_, rfl⟩
        obtain ⟨V1, hV1⟩ : ∃ V, V = World.alloc w2.drew (.cells zc.toArray 27) := ⟨_, rfl⟩
        obtain ⟨V2, hV2⟩ : ∃ V, V = World.alloc V1 (.cells zc.toArray 27) := ⟨_, rfl⟩
        obtain ⟨V3, hV3⟩ : ∃ V, V = World.alloc V2 (.cells zc.toArray 27) := ⟨_, rfl⟩
        obtain ⟨V4, hV4⟩ : ∃ V, V = World.alloc V3 (.cells zc.toArray 27) := ⟨_, rfl⟩
        have z0 : w2.drew.heap.size = N := hN.symm
        have z1 : V1.heap.size = N + 1 := by rw [hV1, World.size_alloc, z0]
        have z2 : V2.heap.size = N + 2 := by rw [hV2, World.size_alloc, z1]
        have z3 : V3.heap.size = N + 3 := by rw [hV3, World.size_alloc, z2]
        have z4 : V4.heap.size = N + 4 := by rw [hV4, World.size_alloc, z3]
        have s1 : Below w2.heap.size w2 V1 := by rw [hV1]; exact s0.alloc (by rw [z0]; omega) _
        have s2 : Below w2.heap.size w2 V2 := by rw [hV2]; exact s1.alloc (by rw [z1]; omega) _
        have s3 : Below w2.heap.size w2 V3 := by rw [hV3]; exact s2.alloc (by rw [z2]; omega) _
        have s4 : Below w2.heap.size w2 V4 := by rw [hV4]; exact s3.alloc (by rw [z3]; omega) _
        have k0 : V4.heap[N]? = some (.cells zc.toArray 27 (0, 0)) := by
          have h := heap_alloc_new w2.drew (.cells zc.toArray 27)
          rw [← hV1, z0] at h
          have h2 : V2.heap[N]? = V1.heap[N]? := by rw [hV2]; exact Below.heap_alloc V1 _ _ (by rw [z1]; omega)
          have h3 : V3.heap[N]? = V2.heap[N]? := by rw [hV3]; exact Below.heap_alloc V2 _ _ (by rw [z2]; omega)
          have h4 : V4.heap[N]? = V3.heap[N]? := by rw [hV4]; exact Below.heap_alloc V3 _ _ (by rw [z3]; omega)
          rw [h4, h3, h2]
          exact h
        have k1 : V4.heap[N + 1]? = some (.cells zc.toArray 27 (0, 0)) := by
          have h := heap_alloc_new V1 (.cells zc.toArray 27)
          rw [← hV2, z1] at h
          have h3 : V3.heap[N + 1]? = V2.heap[N + 1]? := by rw [hV3]; exact Below.heap_alloc V2 _ _ (by rw [z2]; omega)
          have h4 : V4.heap[N + 1]? = V3.heap[N + 1]? := by rw [hV4]; exact Below.heap_alloc V3 _ _ (by rw [z3]; omega)
          rw [h4, h3]
          exact h
        have k2 : V4.heap[N + 2]? = some (.cells zc.toArray 27 (0, 0)) := by
          have h := heap_alloc_new V2 (.cells zc.toArray 27)
          rw [← hV3, z2] at h
          have h4 : V4.heap[N + 2]? = V3.heap[N + 2]? := by rw [hV4]; exact Below.heap_alloc V3 _ _ (by rw [z3]; omega)
          rw [h4]
          exact h
        have k3 : V4.heap[N + 3]? = some (.cells zc.toArray 27 (0, 0)) := by
          have h := heap_alloc_new V3 (.cells zc.toArray 27)
          rw [← hV4, z3] at h
          skip
          exact h
        skip
        refine wp_region_held (S := fun V => Below w2.heap.size w2 V) (by kernel_rfl) ?_
        refine' take_d 0 (some 54) rfl rfl (by kernel_rfl) (by kernel_rfl) (by kernel_rfl) (fun _ _ _ h => h) (wanted_none rfl _) s0 ?tk1 ?rs1
        case tk1 => intro V hV; exact load_yield rfl rfl (HRG.out V hV)
        refine' take_d 1 (some 55) rfl rfl (by kernel_rfl) (by kernel_rfl) (by kernel_rfl) (fun _ _ _ h => h) (wanted_none rfl _) s0 ?tk2 ?rs2
        case tk2 => intro V hV; exact load_yield rfl rfl (HRG.out V hV)
        refine' take_d 2 (some 56) rfl rfl (by kernel_rfl) (by kernel_rfl) (by kernel_rfl) (fun _ _ _ h => h) (wanted_none rfl _) s0 ?tk3 ?rs3
        case tk3 => intro V hV; exact load_yield rfl rfl (HRG.out V hV)
        refine' take_d 3 (some 57) rfl rfl (by kernel_rfl) (by kernel_rfl) (by kernel_rfl) (fun _ _ _ h => h) (wanted_none rfl _) s0 ?tk4 ?rs4
        case tk4 => intro V hV; exact load_yield rfl rfl (HRG.out V hV)
        simp only [Act.put, List.setIfInBounds_toArray, List.set_cons_zero, List.set_cons_succ]
        refine wpAnyH_all (rs := [4, 5, 6, 7]) (by kernel_rfl) (by simp) (fun i hi => ?_)
        simp only [List.mem_cons, List.not_mem_nil, or_false] at hi
        rcases hi with rfl | rfl | rfl | rfl
        · refine op_value (some 6) (w' := V1) rfl rfl (wanted_none rfl _) (alloc_to rfl hV1 z0) ?_
          refine And.intro s1 ?_
          refine wpAnyH_all (rs := [5, 6, 7]) (by kernel_rfl) (by simp) (fun i hi => ?_)
          simp only [List.mem_cons, List.not_mem_nil, or_false] at hi
          rcases hi with rfl | rfl | rfl
          · refine op_value (some 7) (w' := V2) rfl rfl (wanted_none rfl _) (alloc_to rfl hV2 z1) ?_
            refine And.intro s2 ?_
            refine wpAnyH_all (rs := [6, 7]) (by kernel_rfl) (by simp) (fun i hi => ?_)
            simp only [List.mem_cons, List.not_mem_nil, or_false] at hi
            rcases hi with rfl | rfl
            · refine op_value (some 8) (w' := V3) rfl rfl (wanted_none rfl _) (alloc_to rfl hV3 z2) ?_
              refine And.intro s3 ?_
              refine wpAnyH_all (rs := [7]) (by kernel_rfl) (by simp) (fun i hi => ?_)
              obtain rfl : i = 7 := List.mem_singleton.1 hi
              refine op_value (some 9) (w' := V4) rfl rfl (wanted_none rfl _) (alloc_to rfl hV4 z3) ?_
              refine And.intro s4 ?_
              simp only [Act.put, List.setIfInBounds_toArray, List.set_cons_zero, List.set_cons_succ]
              refine wpAnyH_all (rs := [8]) (by kernel_rfl) (by simp) (fun i hi => ?_)
              obtain rfl : i = 8 := List.mem_singleton.1 hi
              refine op_store_cmd rfl rfl rfl _ _ rfl N ⟨0, 0, 0, false, q, [120]⟩ rst0 rfl rfl zc rfl k0 ?_
              intro X8 e8 f8 g8
              have t8 := f8 w2.heap.size w2 (by omega) s4
              refine And.intro t8 ?_
              have m8_1 := (g8 (N + 1) (by omega)).trans k1
              have m8_2 := (g8 (N + 2) (by omega)).trans k2
              have m8_3 := (g8 (N + 3) (by omega)).trans k3
              refine wpAnyH_all (rs := [9]) (by kernel_rfl) (by simp) (fun i hi => ?_)
              obtain rfl : i = 9 := List.mem_singleton.1 hi
              refine op_store_cmd rfl rfl rfl _ _ rfl (N + 1) ⟨0, 0, 0, false, q, [120]⟩ rst0 rfl rfl zc rfl m8_1 ?_
              intro X9 e9 f9 g9
              have t9 := f9 w2.heap.size w2 (by omega) t8
              refine And.intro t9 ?_
              have m9_0 := (g9 N (by omega)).trans e8
              have m9_2 := (g9 (N + 2) (by omega)).trans m8_2
              have m9_3 := (g9 (N + 3) (by omega)).trans m8_3
              refine wpAnyH_all (rs := [10]) (by kernel_rfl) (by simp) (fun i hi => ?_)
              obtain rfl : i = 10 := List.mem_singleton.1 hi
              refine op_store_cmd rfl rfl rfl _ _ rfl (N + 2) ⟨0, 0, 0, false, q, [120]⟩ rst0 rfl rfl zc rfl m9_2 ?_
              intro X10 e10 f10 g10
              have t10 := f10 w2.heap.size w2 (by omega) t9
              refine And.intro t10 ?_
              have m10_0 := (g10 N (by omega)).trans m9_0
              have m10_1 := (g10 (N + 1) (by omega)).trans e9
              have m10_3 := (g10 (N + 3) (by omega)).trans m9_3
              refine wpAnyH_all (rs := [11]) (by kernel_rfl) (by simp) (fun i hi => ?_)
              obtain rfl : i = 11 := List.mem_singleton.1 hi
              refine op_store_cmd rfl rfl rfl _ _ rfl (N + 3) ⟨0, 0, 0, false, q, [120]⟩ rst0 rfl rfl zc rfl m10_3 ?_
              intro X11 e11 f11 g11
              have t11 := f11 w2.heap.size w2 (by omega) t10
              refine And.intro t11 ?_
              have m11_0 := (g11 N (by omega)).trans m10_0
              have m11_1 := (g11 (N + 1) (by omega)).trans m10_1
              have m11_2 := (g11 (N + 2) (by omega)).trans e10
              refine wpAnyH_done (by kernel_rfl) ?_ _
              simp only [Act.put]
              go_wp2
              go_meet
              exact ⟨N, (N + 1), (N + 2), (N + 3), rfl, rfl, rfl, rfl, hideT ⟨t11, by omega, by omega, by omega, by omega, by omega, by omega, by omega, by omega, by omega, by omega, m11_0, m11_1, m11_2, e11⟩⟩
            · refine op_value (some 9) (w' := V3) rfl rfl (wanted_none rfl _) (alloc_to rfl hV3 z2) ?_
              refine And.intro s3 ?_
              refine wpAnyH_all (rs := [6]) (by kernel_rfl) (by simp) (fun i hi => ?_)
              obtain rfl : i = 6 := List.mem_singleton.1 hi
              refine op_value (some 8) (w' := V4) rfl rfl (wanted_none rfl _) (alloc_to rfl hV4 z3) ?_
              refine And.intro s4 ?_
              simp only [Act.put, List.setIfInBounds_toArray, List.set_cons_zero, List.set_cons_succ]
              refine wpAnyH_all (rs := [8]) (by kernel_rfl) (by simp) (fun i hi => ?_)
              obtain rfl : i = 8 := List.mem_singleton.1 hi
              refine op_store_cmd rfl rfl rfl _ _ rfl N ⟨0, 0, 0, false, q, [120]⟩ rst0 rfl rfl zc rfl k0 ?_
              intro X8 e8 f8 g8
              have t8 := f8 w2.heap.size w2 (by omega) s4
              refine And.intro t8 ?_
              have m8_1 := (g8 (N + 1) (by omega)).trans k1
              have m8_2 := (g8 (N + 2) (by omega)).trans k2
              have m8_3 := (g8 (N + 3) (by omega)).trans k3
              refine wpAnyH_all (rs := [9]) (by kernel_rfl) (by simp) (fun i hi => ?_)
              obtain rfl : i = 9 := List.mem_singleton.1 hi
              refine op_store_cmd rfl rfl rfl _ _ rfl (N + 1) ⟨0, 0, 0, false, q, [120]⟩ rst0 rfl rfl zc rfl m8_1 ?_
              intro X9 e9 f9 g9
              have t9 := f9 w2.heap.size w2 (by omega) t8
              refine And.intro t9 ?_
              have m9_0 := (g9 N (by omega)).trans e8
              have m9_2 := (g9 (N + 2) (by omega)).trans m8_2
              have m9_3 := (g9 (N + 3) (by omega)).trans m8_3
              refine wpAnyH_all (rs := [10]) (by kernel_rfl) (by simp) (fun i hi => ?_)
              obtain rfl : i = 10 := List.mem_singleton.1 hi
              refine op_store_cmd rfl rfl rfl _ _ rfl (N + 3) ⟨0, 0, 0, false, q, [120]⟩ rst0 rfl rfl zc rfl m9_3 ?_
              intro X10 e10 f10 g10
              have t10 := f10 w2.heap.size w2 (by omega) t9
              refine And.intro t10 ?_
              have m10_0 := (g10 N (by omega)).trans m9_0
              have m10_1 := (g10 (N + 1) (by omega)).trans e9
              have m10_2 := (g10 (N + 2) (by omega)).trans m9_2
              refine wpAnyH_all (rs := [11]) (by kernel_rfl) (by simp) (fun i hi => ?_)
              obtain rfl : i = 11 := List.mem_singleton.1 hi
              refine op_store_cmd rfl rfl rfl _ _ rfl (N + 2) ⟨0, 0, 0, false, q, [120]⟩ rst0 rfl rfl zc rfl m10_2 ?_
              intro X11 e11 f11 g11
              have t11 := f11 w2.heap.size w2 (by omega) t10
              refine And.intro t11 ?_
              have m11_0 := (g11 N (by omega)).trans m10_0
              have m11_1 := (g11 (N + 1) (by omega)).trans m10_1
              have m11_3 := (g11 (N + 3) (by omega)).trans e10
              refine wpAnyH_done (by kernel_rfl) ?_ _
              simp only [Act.put]
              go_wp2
              go_meet
              exact ⟨N, (N + 1), (N + 3), (N + 2), rfl, rfl, rfl, rfl, hideT ⟨t11, by omega, by omega, by omega, by omega, by omega, by omega, by omega, by omega, by omega, by omega, m11_0, m11_1, m11_3, e11⟩⟩
          · refine op_value (some 8) (w' := V2) rfl rfl (wanted_none rfl _) (alloc_to rfl hV2 z1) ?_
            refine And.intro s2 ?_
            refine wpAnyH_all (rs := [5, 7]) (by kernel_rfl) (by simp) (fun i hi => ?_)
            simp only [List.mem_cons, List.not_mem_nil, or_false] at hi
            rcases hi with rfl | rfl
            · refine op_value (some 7) (w' := V3) rfl rfl (wanted_none rfl _) (alloc_to rfl hV3 z2) ?_
              refine And.intro s3 ?_
              refine wpAnyH_all (rs := [7]) (by kernel_rfl) (by simp) (fun i hi => ?_)
              obtain rfl : i = 7 := List.mem_singleton.1 hi
              refine op_value (some 9) (w' := V4) rfl rfl (wanted_none rfl _) (alloc_to rfl hV4 z3) ?_
              refine And.intro s4 ?_
              simp only [Act.put, List.setIfInBounds_toArray, List.set_cons_zero, List.set_cons_succ]
              refine wpAnyH_all (rs := [8]) (by kernel_rfl) (by simp) (fun i hi => ?_)
              obtain rfl : i = 8 := List.mem_singleton.1 hi
              refine op_store_cmd rfl rfl rfl _ _ rfl N ⟨0, 0, 0, false, q, [120]⟩ rst0 rfl rfl zc rfl k0 ?_
              intro X8 e8 f8 g8
              have t8 := f8 w2.heap.size w2 (by omega) s4
              refine And.intro t8 ?_
              have m8_1 := (g8 (N + 1) (by omega)).trans k1
              have m8_2 := (g8 (N + 2) (by omega)).trans k2
              have m8_3 := (g8 (N + 3) (by omega)).trans k3
              refine wpAnyH_all (rs := [9]) (by kernel_rfl) (by simp) (fun i hi => ?_)
              obtain rfl : i = 9 := List.mem_singleton.1 hi
              refine op_store_cmd rfl rfl rfl _ _ rfl (N + 2) ⟨0, 0, 0, false, q, [120]⟩ rst0 rfl rfl zc rfl m8_2 ?_
              intro X9 e9 f9 g9
              have t9 := f9 w2.heap.size w2 (by omega) t8
              refine And.intro t9 ?_
              have m9_0 := (g9 N (by omega)).trans e8
              have m9_1 := (g9 (N + 1) (by omega)).trans m8_1
              have m9_3 := (g9 (N + 3) (by omega)).trans m8_3
              refine wpAnyH_all (rs := [10]) (by kernel_rfl) (by simp) (fun i hi => ?_)
              obtain rfl : i = 10 := List.mem_singleton.1 hi
              refine op_store_cmd rfl rfl rfl _ _ rfl (N + 1) ⟨0, 0, 0, false, q, [120]⟩ rst0 rfl rfl zc rfl m9_1 ?_
              intro X10 e10 f10 g10
              have t10 := f10 w2.heap.size w2 (by omega) t9
              refine And.intro t10 ?_
              have m10_0 := (g10 N (by omega)).trans m9_0
              have m10_2 := (g10 (N + 2) (by omega)).trans e9
              have m10_3 := (g10 (N + 3) (by omega)).trans m9_3
              refine wpAnyH_all (rs := [11]) (by kernel_rfl) (by simp) (fun i hi => ?_)
              obtain rfl : i = 11 := List.mem_singleton.1 hi
              refine op_store_cmd rfl rfl rfl _ _ rfl (N + 3) ⟨0, 0, 0, false, q, [120]⟩ rst0 rfl rfl zc rfl m10_3 ?_
              intro X11 e11 f11 g11
              have t11 := f11 w2.heap.size w2 (by omega) t10
              refine And.intro t11 ?_
              have m11_0 := (g11 N (by omega)).trans m10_0
              have m11_1 := (g11 (N + 1) (by omega)).trans e10
              have m11_2 := (g11 (N + 2) (by omega)).trans m10_2
              refine wpAnyH_done (by kernel_rfl) ?_ _
              simp only [Act.put]
              go_wp2
              go_meet
              exact ⟨N, (N + 2), (N + 1), (N + 3), rfl, rfl, rfl, rfl, hideT ⟨t11, by omega, by omega, by omega, by omega, by omega, by omega, by omega, by omega, by omega, by omega, m11_0, m11_2, m11_1, e11⟩⟩
            · refine op_value (some 9) (w' := V3) rfl rfl (wanted_none rfl _) (alloc_to rfl hV3 z2) ?_
              refine And.intro s3 ?_
              refine wpAnyH_all (rs := [5]) (by kernel_rfl) (by simp) (fun i hi => ?_)
              obtain rfl : i = 5 := List.mem_singleton.1 hi
              refine op_value (some 7) (w' := V4) rfl rfl (wanted_none rfl _) (alloc_to rfl hV4 z3) ?_
              refine And.intro s4 ?_
              simp only [Act.put, List.setIfInBounds_toArray, List.set_cons_zero, List.set_cons_succ]
              refine wpAnyH_all (rs := [8]) (by kernel_rfl) (by simp) (fun i hi => ?_)
              obtain rfl : i = 8 := List.mem_singleton.1 hi
              refine op_store_cmd rfl rfl rfl _ _ rfl N ⟨0, 0, 0, false, q, [120]⟩ rst0 rfl rfl zc rfl k0 ?_
              intro X8 e8 f8 g8
              have t8 := f8 w2.heap.size w2 (by omega) s4
              refine And.intro t8 ?_
              have m8_1 := (g8 (N + 1) (by omega)).trans k1
              have m8_2 := (g8 (N + 2) (by omega)).trans k2
              have m8_3 := (g8 (N + 3) (by omega)).trans k3
              refine wpAnyH_all (rs := [9]) (by kernel_rfl) (by simp) (fun i hi => ?_)
              obtain rfl : i = 9 := List.mem_singleton.1 hi
              refine op_store_cmd rfl rfl rfl _ _ rfl (N + 3) ⟨0, 0, 0, false, q, [120]⟩ rst0 rfl rfl zc rfl m8_3 ?_
              intro X9 e9 f9 g9
              have t9 := f9 w2.heap.size w2 (by omega) t8
              refine And.intro t9 ?_
              have m9_0 := (g9 N (by omega)).trans e8
              have m9_1 := (g9 (N + 1) (by omega)).trans m8_1
              have m9_2 := (g9 (N + 2) (by omega)).trans m8_2
              refine wpAnyH_all (rs := [10]) (by kernel_rfl) (by simp) (fun i hi => ?_)
              obtain rfl : i = 10 := List.mem_singleton.1 hi
              refine op_store_cmd rfl rfl rfl _ _ rfl (N + 1) ⟨0, 0, 0, false, q, [120]⟩ rst0 rfl rfl zc rfl m9_1 ?_
              intro X10 e10 f10 g10
              have t10 := f10 w2.heap.size w2 (by omega) t9
              refine And.intro t10 ?_
              have m10_0 := (g10 N (by omega)).trans m9_0
              have m10_2 := (g10 (N + 2) (by omega)).trans m9_2
              have m10_3 := (g10 (N + 3) (by omega)).trans e9
              refine wpAnyH_all (rs := [11]) (by kernel_rfl) (by simp) (fun i hi => ?_)
              obtain rfl : i = 11 := List.mem_singleton.1 hi
              refine op_store_cmd rfl rfl rfl _ _ rfl (N + 2) ⟨0, 0, 0, false, q, [120]⟩ rst0 rfl rfl zc rfl m10_2 ?_
              intro X11 e11 f11 g11
              have t11 := f11 w2.heap.size w2 (by omega) t10
              refine And.intro t11 ?_
              have m11_0 := (g11 N (by omega)).trans m10_0
              have m11_1 := (g11 (N + 1) (by omega)).trans e10
              have m11_3 := (g11 (N + 3) (by omega)).trans m10_3
              refine wpAnyH_done (by kernel_rfl) ?_ _
              simp only [Act.put]
              go_wp2
              go_meet
              exact ⟨N, (N + 3), (N + 1), (N + 2), rfl, rfl, rfl, rfl, hideT ⟨t11, by omega, by omega, by omega, by omega, by omega, by omega, by omega, by omega, by omega, by omega, m11_0, m11_3, m11_1, e11⟩⟩
          · refine op_value (some 9) (w' := V2) rfl rfl (wanted_none rfl _) (alloc_to rfl hV2 z1) ?_
            refine And.intro s2 ?_
            refine wpAnyH_all (rs := [5, 6]) (by kernel_rfl) (by simp) (fun i hi => ?_)
            simp only [List.mem_cons, List.not_mem_nil, or_false] at hi
            rcases hi with rfl | rfl
            · refine op_value (some 7) (w' := V3) rfl rfl (wanted_none rfl _) (alloc_to rfl hV3 z2) ?_
              refine And.intro s3 ?_
              refine wpAnyH_all (rs := [6]) (by kernel_rfl) (by simp) (fun i hi => ?_)
              obtain rfl : i = 6 := List.mem_singleton.1 hi
              refine op_value (some 8) (w' := V4) rfl rfl (wanted_none rfl _) (alloc_to rfl hV4 z3) ?_
              refine And.intro s4 ?_
              simp only [Act.put, List.setIfInBounds_toArray, List.set_cons_zero, List.set_cons_succ]
              refine wpAnyH_all (rs := [8]) (by kernel_rfl) (by simp) (fun i hi => ?_)
              obtain rfl : i = 8 := List.mem_singleton.1 hi
              refine op_store_cmd rfl rfl rfl _ _ rfl N ⟨0, 0, 0, false, q, [120]⟩ rst0 rfl rfl zc rfl k0 ?_
              intro X8 e8 f8 g8
              have t8 := f8 w2.heap.size w2 (by omega) s4
              refine And.intro t8 ?_
              have m8_1 := (g8 (N + 1) (by omega)).trans k1
              have m8_2 := (g8 (N + 2) (by omega)).trans k2
              have m8_3 := (g8 (N + 3) (by omega)).trans k3
              refine wpAnyH_all (rs := [9]) (by kernel_rfl) (by simp) (fun i hi => ?_)
              obtain rfl : i = 9 := List.mem_singleton.1 hi
              refine op_store_cmd rfl rfl rfl _ _ rfl (N + 2) ⟨0, 0, 0, false, q, [120]⟩ rst0 rfl rfl zc rfl m8_2 ?_
              intro X9 e9 f9 g9
              have t9 := f9 w2.heap.size w2 (by omega) t8
              refine And.intro t9 ?_
              have m9_0 := (g9 N (by omega)).trans e8
              have m9_1 := (g9 (N + 1) (by omega)).trans m8_1
              have m9_3 := (g9 (N + 3) (by omega)).trans m8_3
              refine wpAnyH_all (rs := [10]) (by kernel_rfl) (by simp) (fun i hi => ?_)
              obtain rfl : i = 10 := List.mem_singleton.1 hi
              refine op_store_cmd rfl rfl rfl _ _ rfl (N + 3) ⟨0, 0, 0, false, q, [120]⟩ rst0 rfl rfl zc rfl m9_3 ?_
              intro X10 e10 f10 g10
              have t10 := f10 w2.heap.size w2 (by omega) t9
              refine And.intro t10 ?_
              have m10_0 := (g10 N (by omega)).trans m9_0
              have m10_1 := (g10 (N + 1) (by omega)).trans m9_1
              have m10_2 := (g10 (N + 2) (by omega)).trans e9
              refine wpAnyH_all (rs := [11]) (by kernel_rfl) (by simp) (fun i hi => ?_)
              obtain rfl : i = 11 := List.mem_singleton.1 hi
              refine op_store_cmd rfl rfl rfl _ _ rfl (N + 1) ⟨0, 0, 0, false, q, [120]⟩ rst0 rfl rfl zc rfl m10_1 ?_
              intro X11 e11 f11 g11
              have t11 := f11 w2.heap.size w2 (by omega) t10
              refine And.intro t11 ?_
              have m11_0 := (g11 N (by omega)).trans m10_0
              have m11_2 := (g11 (N + 2) (by omega)).trans m10_2
              have m11_3 := (g11 (N + 3) (by omega)).trans e10
              refine wpAnyH_done (by kernel_rfl) ?_ _
              simp only [Act.put]
              go_wp2
              go_meet
              exact ⟨N, (N + 2), (N + 3), (N + 1), rfl, rfl, rfl, rfl, hideT ⟨t11, by omega, by omega, by omega, by omega, by omega, by omega, by omega, by omega, by omega, by omega, m11_0, m11_2, m11_3, e11⟩⟩
            · refine op_value (some 8) (w' := V3) rfl rfl (wanted_none rfl _) (alloc_to rfl hV3 z2) ?_
              refine And.intro s3 ?_
              refine wpAnyH_all (rs := [5]) (by kernel_rfl) (by simp) (fun i hi => ?_)
              obtain rfl : i = 5 := List.mem_singleton.1 hi
              refine op_value (some 7) (w' := V4) rfl rfl (wanted_none rfl _) (alloc_to rfl hV4 z3) ?_
              refine And.intro s4 ?_
              simp only [Act.put, List.setIfInBounds_toArray, List.set_cons_zero, List.set_cons_succ]
              refine wpAnyH_all (rs := [8]) (by kernel_rfl) (by simp) (fun i hi => ?_)
              obtain rfl : i = 8 := List.mem_singleton.1 hi
              refine op_store_cmd rfl rfl rfl _ _ rfl N ⟨0, 0, 0, false, q, [120]⟩ rst0 rfl rfl zc rfl k0 ?_
              intro X8 e8 f8 g8
              have t8 := f8 w2.heap.size w2 (by omega) s4
              refine And.intro t8 ?_
              have m8_1 := (g8 (N + 1) (by omega)).trans k1
              have m8_2 := (g8 (N + 2) (by omega)).trans k2
              have m8_3 := (g8 (N + 3) (by omega)).trans k3
              refine wpAnyH_all (rs := [9]) (by kernel_rfl) (by simp) (fun i hi => ?_)
              obtain rfl : i = 9 := List.mem_singleton.1 hi
              refine op_store_cmd rfl rfl rfl _ _ rfl (N + 3) ⟨0, 0, 0, false, q, [120]⟩ rst0 rfl rfl zc rfl m8_3 ?_
              intro X9 e9 f9 g9
              have t9 := f9 w2.heap.size w2 (by omega) t8
              refine And.intro t9 ?_
              have m9_0 := (g9 N (by omega)).trans e8
              have m9_1 := (g9 (N + 1) (by omega)).trans m8_1
              have m9_2 := (g9 (N + 2) (by omega)).trans m8_2
              refine wpAnyH_all (rs := [10]) (by kernel_rfl) (by simp) (fun i hi => ?_)
              obtain rfl : i = 10 := List.mem_singleton.1 hi
              refine op_store_cmd rfl rfl rfl _ _ rfl (N + 2) ⟨0, 0, 0, false, q, [120]⟩ rst0 rfl rfl zc rfl m9_2 ?_
              intro X10 e10 f10 g10
              have t10 := f10 w2.heap.size w2 (by omega) t9
              refine And.intro t10 ?_
              have m10_0 := (g10 N (by omega)).trans m9_0
              have m10_1 := (g10 (N + 1) (by omega)).trans m9_1
              have m10_3 := (g10 (N + 3) (by omega)).trans e9
              refine wpAnyH_all (rs := [11]) (by kernel_rfl) (by simp) (fun i hi => ?_)
              obtain rfl : i = 11 := List.mem_singleton.1 hi
              refine op_store_cmd rfl rfl rfl _ _ rfl (N + 1) ⟨0, 0, 0, false, q, [120]⟩ rst0 rfl rfl zc rfl m10_1 ?_
              intro X11 e11 f11 g11
              have t11 := f11 w2.heap.size w2 (by omega) t10
              refine And.intro t11 ?_
              have m11_0 := (g11 N (by omega)).trans m10_0
              have m11_2 := (g11 (N + 2) (by omega)).trans e10
              have m11_3 := (g11 (N + 3) (by omega)).trans m10_3
              refine wpAnyH_done (by kernel_rfl) ?_ _
              simp only [Act.put]
              go_wp2
              go_meet
              exact ⟨N, (N + 3), (N + 2), (N + 1), rfl, rfl, rfl, rfl, hideT ⟨t11, by omega, by omega, by omega, by omega, by omega, by omega, by omega, by omega, by omega, by omega, m11_0, m11_3, m11_2, e11⟩⟩
        · refine op_value (some 7) (w' := V1) rfl rfl (wanted_none rfl _) (alloc_to rfl hV1 z0) ?_
          refine And.intro s1 ?_
          refine wpAnyH_all (rs := [4, 6, 7]) (by kernel_rfl) (by simp) (fun i hi => ?_)
          simp only [List.mem_cons, List.not_mem_nil, or_false] at hi
          rcases hi with rfl | rfl | rfl
          · refine op_value (some 6) (w' := V2) rfl rfl (wanted_none rfl _) (alloc_to rfl hV2 z1) ?_
            refine And.intro s2 ?_
            refine wpAnyH_all (rs := [6, 7]) (by kernel_rfl) (by simp) (fun i hi => ?_)
            simp only [List.mem_cons, List.not_mem_nil, or_false] at hi
            rcases hi with rfl | rfl
            · refine op_value (some 8) (w' := V3) rfl rfl (wanted_none rfl _) (alloc_to rfl hV3 z2) ?_
              refine And.intro s3 ?_
              refine wpAnyH_all (rs := [7]) (by kernel_rfl) (by simp) (fun i hi => ?_)
              obtain rfl : i = 7 := List.mem_singleton.1 hi
              refine op_value (some 9) (w' := V4) rfl rfl (wanted_none rfl _) (alloc_to rfl hV4 z3) ?_
              refine And.intro s4 ?_
              simp only [Act.put, List.setIfInBounds_toArray, List.set_cons_zero, List.set_cons_succ]
              refine wpAnyH_all (rs := [8]) (by kernel_rfl) (by simp) (fun i hi => ?_)
              obtain rfl : i = 8 := List.mem_singleton.1 hi
              refine op_store_cmd rfl rfl rfl _ _ rfl (N + 1) ⟨0, 0, 0, false, q, [120]⟩ rst0 rfl rfl zc rfl k1 ?_
              intro X8 e8 f8 g8
              have t8 := f8 w2.heap.size w2 (by omega) s4
              refine And.intro t8 ?_
              have m8_0 := (g8 N (by omega)).trans k0
              have m8_2 := (g8 (N + 2) (by omega)).trans k2
              have m8_3 := (g8 (N + 3) (by omega)).trans k3
              refine wpAnyH_all (rs := [9]) (by kernel_rfl) (by simp) (fun i hi => ?_)
              obtain rfl : i = 9 := List.mem_singleton.1 hi
              refine op_store_cmd rfl rfl rfl _ _ rfl N ⟨0, 0, 0, false, q, [120]⟩ rst0 rfl rfl zc rfl m8_0 ?_
              intro X9 e9 f9 g9
              have t9 := f9 w2.heap.size w2 (by omega) t8
              refine And.intro t9 ?_
              have m9_1 := (g9 (N + 1) (by omega)).trans e8
              have m9_2 := (g9 (N + 2) (by omega)).trans m8_2
              have m9_3 := (g9 (N + 3) (by omega)).trans m8_3
              refine wpAnyH_all (rs := [10]) (by kernel_rfl) (by simp) (fun i hi => ?_)
              obtain rfl : i = 10 := List.mem_singleton.1 hi
              refine op_store_cmd rfl rfl rfl _ _ rfl (N + 2) ⟨0, 0, 0, false, q, [120]⟩ rst0 rfl rfl zc rfl m9_2 ?_
              intro X10 e10 f10 g10
              have t10 := f10 w2.heap.size w2 (by omega) t9
              refine And.intro t10 ?_
              have m10_0 := (g10 N (by omega)).trans e9
              have m10_1 := (g10 (N + 1) (by omega)).trans m9_1
              have m10_3 := (g10 (N + 3) (by omega)).trans m9_3
              refine wpAnyH_all (rs := [11]) (by kernel_rfl) (by simp) (fun i hi => ?_)
              obtain rfl : i = 11 := List.mem_singleton.1 hi
              refine op_store_cmd rfl rfl rfl _ _ rfl (N + 3) ⟨0, 0, 0, false, q, [120]⟩ rst0 rfl rfl zc rfl m10_3 ?_
              intro X11 e11 f11 g11
              have t11 := f11 w2.heap.size w2 (by omega) t10
              refine And.intro t11 ?_
              have m11_0 := (g11 N (by omega)).trans m10_0
              have m11_1 := (g11 (N + 1) (by omega)).trans m10_1
              have m11_2 := (g11 (N + 2) (by omega)).trans e10
              refine wpAnyH_done (by kernel_rfl) ?_ _
              simp only [Act.put]
              go_wp2
              go_meet
              exact ⟨(N + 1), N, (N + 2), (N + 3), rfl, rfl, rfl, rfl, hideT ⟨t11, by omega, by omega, by omega, by omega, by omega, by omega, by omega, by omega, by omega, by omega, m11_1, m11_0, m11_2, e11⟩⟩
            · refine op_value (some 9) (w' := V3) rfl rfl (wanted_none rfl _) (alloc_to rfl hV3 z2) ?_
              refine And.intro s3 ?_
              refine wpAnyH_all (rs := [6]) (by kernel_rfl) (by simp) (fun i hi => ?_)
              obtain rfl : i = 6 := List.mem_singleton.1 hi
              refine op_value (some 8) (w' := V4) rfl rfl (wanted_none rfl _) (alloc_to rfl hV4 z3) ?_
              refine And.intro s4 ?_
              simp only [Act.put, List.setIfInBounds_toArray, List.set_cons_zero, List.set_cons_succ]
              refine wpAnyH_all (rs := [8]) (by kernel_rfl) (by simp) (fun i hi => ?_)
              obtain rfl : i = 8 := List.mem_singleton.1 hi
              refine op_store_cmd rfl rfl rfl _ _ rfl (N + 1) ⟨0, 0, 0, false, q, [120]⟩ rst0 rfl rfl zc rfl k1 ?_
              intro X8 e8 f8 g8
              have t8 := f8 w2.heap.size w2 (by omega) s4
              refine And.intro t8 ?_
              have m8_0 := (g8 N (by omega)).trans k0
              have m8_2 := (g8 (N + 2) (by omega)).trans k2
              have m8_3 := (g8 (N + 3) (by omega)).trans k3
              refine wpAnyH_all (rs := [9]) (by kernel_rfl) (by simp) (fun i hi => ?_)
              obtain rfl : i = 9 := List.mem_singleton.1 hi
              refine op_store_cmd rfl rfl rfl _ _ rfl N ⟨0, 0, 0, false, q, [120]⟩ rst0 rfl rfl zc rfl m8_0 ?_
              intro X9 e9 f9 g9
              have t9 := f9 w2.heap.size w2 (by omega) t8
              refine And.intro t9 ?_
              have m9_1 := (g9 (N + 1) (by omega)).trans e8
              have m9_2 := (g9 (N + 2) (by omega)).trans m8_2
              have m9_3 := (g9 (N + 3) (by omega)).trans m8_3
              refine wpAnyH_all (rs := [10]) (by kernel_rfl) (by simp) (fun i hi => ?_)
              obtain rfl : i = 10 := List.mem_singleton.1 hi
              refine op_store_cmd rfl rfl rfl _ _ rfl (N + 3) ⟨0, 0, 0, false, q, [120]⟩ rst0 rfl rfl zc rfl m9_3 ?_
              intro X10 e10 f10 g10
              have t10 := f10 w2.heap.size w2 (by omega) t9
              refine And.intro t10 ?_
              have m10_0 := (g10 N (by omega)).trans e9
              have m10_1 := (g10 (N + 1) (by omega)).trans m9_1
              have m10_2 := (g10 (N + 2) (by omega)).trans m9_2
              refine wpAnyH_all (rs := [11]) (by kernel_rfl) (by simp) (fun i hi => ?_)
              obtain rfl : i = 11 := List.mem_singleton.1 hi
              refine op_store_cmd rfl rfl rfl _ _ rfl (N + 2) ⟨0, 0, 0, false, q, [120]⟩ rst0 rfl rfl zc rfl m10_2 ?_
              intro X11 e11 f11 g11
              have t11 := f11 w2.heap.size w2 (by omega) t10
              refine And.intro t11 ?_
              have m11_0 := (g11 N (by omega)).trans m10_0
              have m11_1 := (g11 (N + 1) (by omega)).trans m10_1
              have m11_3 := (g11 (N + 3) (by omega)).trans e10
              refine wpAnyH_done (by kernel_rfl) ?_ _
              simp only [Act.put]
              go_wp2
              go_meet
              exact ⟨(N + 1), N, (N + 3), (N + 2), rfl, rfl, rfl, rfl, hideT ⟨t11, by omega, by omega, by omega, by omega, by omega, by omega, by omega, by omega, by omega, by omega, m11_1, m11_0, m11_3, e11⟩⟩
          · refine op_value (some 8) (w' := V2) rfl rfl (wanted_none rfl _) (alloc_to rfl hV2 z1) ?_
            refine And.intro s2 ?_
            refine wpAnyH_all (rs := [4, 7]) (by kernel_rfl) (by simp) (fun i hi => ?_)
            simp only [List.mem_cons, List.not_mem_nil, or_false] at hi
            rcases hi with rfl | rfl
            · refine op_value (some 6) (w' := V3) rfl rfl (wanted_none rfl _) (alloc_to rfl hV3 z2) ?_
              refine And.intro s3 ?_
              refine wpAnyH_all (rs := [7]) (by kernel_rfl) (by simp) (fun i hi => ?_)
              obtain rfl : i = 7 := List.mem_singleton.1 hi
              refine op_value (some 9) (w' := V4) rfl rfl (wanted_none rfl _) (alloc_to rfl hV4 z3) ?_
              refine And.intro s4 ?_
              simp only [Act.put, List.setIfInBounds_toArray, List.set_cons_zero, List.set_cons_succ]
              refine wpAnyH_all (rs := [8]) (by kernel_rfl) (by simp) (fun i hi => ?_)
              obtain rfl : i = 8 := List.mem_singleton.1 hi
              refine op_store_cmd rfl rfl rfl _ _ rfl (N + 2) ⟨0, 0, 0, false, q, [120]⟩ rst0 rfl rfl zc rfl k2 ?_
              intro X8 e8 f8 g8
              have t8 := f8 w2.heap.size w2 (by omega) s4
              refine And.intro t8 ?_
              have m8_0 := (g8 N (by omega)).trans k0
              have m8_1 := (g8 (N + 1) (by omega)).trans k1
              have m8_3 := (g8 (N + 3) (by omega)).trans k3
              refine wpAnyH_all (rs := [9]) (by kernel_rfl) (by simp) (fun i hi => ?_)
              obtain rfl : i = 9 := List.mem_singleton.1 hi
              refine op_store_cmd rfl rfl rfl _ _ rfl N ⟨0, 0, 0, false, q, [120]⟩ rst0 rfl rfl zc rfl m8_0 ?_
              intro X9 e9 f9 g9
              have t9 := f9 w2.heap.size w2 (by omega) t8
              refine And.intro t9 ?_
              have m9_1 := (g9 (N + 1) (by omega)).trans m8_1
              have m9_2 := (g9 (N + 2) (by omega)).trans e8
              have m9_3 := (g9 (N + 3) (by omega)).trans m8_3
              refine wpAnyH_all (rs := [10]) (by kernel_rfl) (by simp) (fun i hi => ?_)
              obtain rfl : i = 10 := List.mem_singleton.1 hi
              refine op_store_cmd rfl rfl rfl _ _ rfl (N + 1) ⟨0, 0, 0, false, q, [120]⟩ rst0 rfl rfl zc rfl m9_1 ?_
              intro X10 e10 f10 g10
              have t10 := f10 w2.heap.size w2 (by omega) t9
              refine And.intro t10 ?_
              have m10_0 := (g10 N (by omega)).trans e9
              have m10_2 := (g10 (N + 2) (by omega)).trans m9_2
              have m10_3 := (g10 (N + 3) (by omega)).trans m9_3
              refine wpAnyH_all (rs := [11]) (by kernel_rfl) (by simp) (fun i hi => ?_)
              obtain rfl : i = 11 := List.mem_singleton.1 hi
              refine op_store_cmd rfl rfl rfl _ _ rfl (N + 3) ⟨0, 0, 0, false, q, [120]⟩ rst0 rfl rfl zc rfl m10_3 ?_
              intro X11 e11 f11 g11
              have t11 := f11 w2.heap.size w2 (by omega) t10
              refine And.intro t11 ?_
              have m11_0 := (g11 N (by omega)).trans m10_0
              have m11_1 := (g11 (N + 1) (by omega)).trans e10
              have m11_2 := (g11 (N + 2) (by omega)).trans m10_2
              refine wpAnyH_done (by kernel_rfl) ?_ _
              simp only [Act.put]
              go_wp2
              go_meet
              exact ⟨(N + 2), N, (N + 1), (N + 3), rfl, rfl, rfl, rfl, hideT ⟨t11, by omega, by omega, by omega, by omega, by omega, by omega, by omega, by omega, by omega, by omega, m11_2, m11_0, m11_1, e11⟩⟩
            · refine op_value (some 9) (w' := V3) rfl rfl (wanted_none rfl _) (alloc_to rfl hV3 z2) ?_
              refine And.intro s3 ?_
              refine wpAnyH_all (rs := [4]) (by kernel_rfl) (by simp) (fun i hi => ?_)
              obtain rfl : i = 4 := List.mem_singleton.1 hi
              refine op_value (some 6) (w' := V4) rfl rfl (wanted_none rfl _) (alloc_to rfl hV4 z3) ?_
              refine And.intro s4 ?_
              simp only [Act.put, List.setIfInBounds_toArray, List.set_cons_zero, List.set_cons_succ]
              refine wpAnyH_all (rs := [8]) (by kernel_rfl) (by simp) (fun i hi => ?_)
              obtain rfl : i = 8 := List.mem_singleton.1 hi
              refine op_store_cmd rfl rfl rfl _ _ rfl (N + 3) ⟨0, 0, 0, false, q, [120]⟩ rst0 rfl rfl zc rfl k3 ?_
              intro X8 e8 f8 g8
              have t8 := f8 w2.heap.size w2 (by omega) s4
              refine And.intro t8 ?_
              have m8_0 := (g8 N (by omega)).trans k0
              have m8_1 := (g8 (N + 1) (by omega)).trans k1
              have m8_2 := (g8 (N + 2) (by omega)).trans k2
              refine wpAnyH_all (rs := [9]) (by kernel_rfl) (by simp) (fun i hi => ?_)
              obtain rfl : i = 9 := List.mem_singleton.1 hi
              refine op_store_cmd rfl rfl rfl _ _ rfl N ⟨0, 0, 0, false, q, [120]⟩ rst0 rfl rfl zc rfl m8_0 ?_
              intro X9 e9 f9 g9
              have t9 := f9 w2.heap.size w2 (by omega) t8
              refine And.intro t9 ?_
              have m9_1 := (g9 (N + 1) (by omega)).trans m8_1
              have m9_2 := (g9 (N + 2) (by omega)).trans m8_2
              have m9_3 := (g9 (N + 3) (by omega)).trans e8
              refine wpAnyH_all (rs := [10]) (by kernel_rfl) (by simp) (fun i hi => ?_)
              obtain rfl : i = 10 := List.mem_singleton.1 hi
              refine op_store_cmd rfl rfl rfl _ _ rfl (N + 1) ⟨0, 0, 0, false, q, [120]⟩ rst0 rfl rfl zc rfl m9_1 ?_
              intro X10 e10 f10 g10
              have t10 := f10 w2.heap.size w2 (by omega) t9
              refine And.intro t10 ?_
              have m10_0 := (g10 N (by omega)).trans e9
              have m10_2 := (g10 (N + 2) (by omega)).trans m9_2
              have m10_3 := (g10 (N + 3) (by omega)).trans m9_3
              refine wpAnyH_all (rs := [11]) (by kernel_rfl) (by simp) (fun i hi => ?_)
              obtain rfl : i = 11 := List.mem_singleton.1 hi
              refine op_store_cmd rfl rfl rfl _ _ rfl (N + 2) ⟨0, 0, 0, false, q, [120]⟩ rst0 rfl rfl zc rfl m10_2 ?_
              intro X11 e11 f11 g11
              have t11 := f11 w2.heap.size w2 (by omega) t10
              refine And.intro t11 ?_
              have m11_0 := (g11 N (by omega)).trans m10_0
              have m11_1 := (g11 (N + 1) (by omega)).trans e10
              have m11_3 := (g11 (N + 3) (by omega)).trans m10_3
              refine wpAnyH_done (by kernel_rfl) ?_ _
              simp only [Act.put]
              go_wp2
              go_meet
              exact ⟨(N + 3), N, (N + 1), (N + 2), rfl, rfl, rfl, rfl, hideT ⟨t11, by omega, by omega, by omega, by omega, by omega, by omega, by omega, by omega, by omega, by omega, m11_3, m11_0, m11_1, e11⟩⟩
          · refine op_value (some 9) (w' := V2) rfl rfl (wanted_none rfl _) (alloc_to rfl hV2 z1) ?_
            refine And.intro s2 ?_
            refine wpAnyH_all (rs := [4, 6]) (by kernel_rfl) (by simp) (fun i hi => ?_)
            simp only [List.mem_cons, List.not_mem_nil, or_false] at hi
            rcases hi with rfl | rfl
            · refine op_value (some 6) (w' := V3) rfl rfl (wanted_none rfl _) (alloc_to rfl hV3 z2) ?_
              refine And.intro s3 ?_
              refine wpAnyH_all (rs := [6]) (by kernel_rfl) (by simp) (fun i hi => ?_)
              obtain rfl : i = 6 := List.mem_singleton.1 hi
              refine op_value (some 8) (w' := V4) rfl rfl (wanted_none rfl _) (alloc_to rfl hV4 z3) ?_
              refine And.intro s4 ?_
              simp only [Act.put, List.setIfInBounds_toArray, List.set_cons_zero, List.set_cons_succ]
              refine wpAnyH_all (rs := [8]) (by kernel_rfl) (by simp) (fun i hi => ?_)
              obtain rfl : i = 8 := List.mem_singleton.1 hi
              refine op_store_cmd rfl rfl rfl _ _ rfl (N + 2) ⟨0, 0, 0, false, q, [120]⟩ rst0 rfl rfl zc rfl k2 ?_
              intro X8 e8 f8 g8
              have t8 := f8 w2.heap.size w2 (by omega) s4
              refine And.intro t8 ?_
              have m8_0 := (g8 N (by omega)).trans k0
              have m8_1 := (g8 (N + 1) (by omega)).trans k1
              have m8_3 := (g8 (N + 3) (by omega)).trans k3
              refine wpAnyH_all (rs := [9]) (by kernel_rfl) (by simp) (fun i hi => ?_)
              obtain rfl : i = 9 := List.mem_singleton.1 hi
              refine op_store_cmd rfl rfl rfl _ _ rfl N ⟨0, 0, 0, false, q, [120]⟩ rst0 rfl rfl zc rfl m8_0 ?_
              intro X9 e9 f9 g9
              have t9 := f9 w2.heap.size w2 (by omega) t8
              refine And.intro t9 ?_
              have m9_1 := (g9 (N + 1) (by omega)).trans m8_1
              have m9_2 := (g9 (N + 2) (by omega)).trans e8
              have m9_3 := (g9 (N + 3) (by omega)).trans m8_3
              refine wpAnyH_all (rs := [10]) (by kernel_rfl) (by simp) (fun i hi => ?_)
              obtain rfl : i = 10 := List.mem_singleton.1 hi
              refine op_store_cmd rfl rfl rfl _ _ rfl (N + 3) ⟨0, 0, 0, false, q, [120]⟩ rst0 rfl rfl zc rfl m9_3 ?_
              intro X10 e10 f10 g10
              have t10 := f10 w2.heap.size w2 (by omega) t9
              refine And.intro t10 ?_
              have m10_0 := (g10 N (by omega)).trans e9
              have m10_1 := (g10 (N + 1) (by omega)).trans m9_1
              have m10_2 := (g10 (N + 2) (by omega)).trans m9_2
              refine wpAnyH_all (rs := [11]) (by kernel_rfl) (by simp) (fun i hi => ?_)
              obtain rfl : i = 11 := List.mem_singleton.1 hi
              refine op_store_cmd rfl rfl rfl _ _ rfl (N + 1) ⟨0, 0, 0, false, q, [120]⟩ rst0 rfl rfl zc rfl m10_1 ?_
              intro X11 e11 f11 g11
              have t11 := f11 w2.heap.size w2 (by omega) t10
              refine And.intro t11 ?_
              have m11_0 := (g11 N (by omega)).trans m10_0
              have m11_2 := (g11 (N + 2) (by omega)).trans m10_2
              have m11_3 := (g11 (N + 3) (by omega)).trans e10
              refine wpAnyH_done (by kernel_rfl) ?_ _
              simp only [Act.put]
              go_wp2
              go_meet
              exact ⟨(N + 2), N, (N + 3), (N + 1), rfl, rfl, rfl, rfl, hideT ⟨t11, by omega, by omega, by omega, by omega, by omega, by omega, by omega, by omega, by omega, by omega, m11_2, m11_0, m11_3, e11⟩⟩
            · refine op_value (some 8) (w' := V3) rfl rfl (wanted_none rfl _) (alloc_to rfl hV3 z2) ?_
              refine And.intro s3 ?_
              refine wpAnyH_all (rs := [4]) (by kernel_rfl) (by simp) (fun i hi => ?_)
              obtain rfl : i = 4 := List.mem_singleton.1 hi
              refine op_value (some 6) (w' := V4) rfl rfl (wanted_none rfl _) (alloc_to rfl hV4 z3) ?_
              refine And.intro s4 ?_
              simp only [Act.put, List.setIfInBounds_toArray, List.set_cons_zero, List.set_cons_succ]
              refine wpAnyH_all (rs := [8]) (by kernel_rfl) (by simp) (fun i hi => ?_)
              obtain rfl : i = 8 := List.mem_singleton.1 hi
              refine op_store_cmd rfl rfl rfl _ _ rfl (N + 3) ⟨0, 0, 0, false, q, [120]⟩ rst0 rfl rfl zc rfl k3 ?_
              intro X8 e8 f8 g8
              have t8 := f8 w2.heap.size w2 (by omega) s4
              refine And.intro t8 ?_
              have m8_0 := (g8 N (by omega)).trans k0
              have m8_1 := (g8 (N + 1) (by omega)).trans k1
              have m8_2 := (g8 (N + 2) (by omega)).trans k2
              refine wpAnyH_all (rs := [9]) (by kernel_rfl) (by simp) (fun i hi => ?_)
              obtain rfl : i = 9 := List.mem_singleton.1 hi
              refine op_store_cmd rfl rfl rfl _ _ rfl N ⟨0, 0, 0, false, q, [120]⟩ rst0 rfl rfl zc rfl m8_0 ?_
              intro X9 e9 f9 g9
              have t9 := f9 w2.heap.size w2 (by omega) t8
              refine And.intro t9 ?_
              have m9_1 := (g9 (N + 1) (by omega)).trans m8_1
              have m9_2 := (g9 (N + 2) (by omega)).trans m8_2
              have m9_3 := (g9 (N + 3) (by omega)).trans e8
              refine wpAnyH_all (rs := [10]) (by kernel_rfl) (by simp) (fun i hi => ?_)
              obtain rfl : i = 10 := List.mem_singleton.1 hi
              refine op_store_cmd rfl rfl rfl _ _ rfl (N + 2) ⟨0, 0, 0, false, q, [120]⟩ rst0 rfl rfl zc rfl m9_2 ?_
              intro X10 e10 f10 g10
              have t10 := f10 w2.heap.size w2 (by omega) t9
              refine And.intro t10 ?_
              have m10_0 := (g10 N (by omega)).trans e9
              have m10_1 := (g10 (N + 1) (by omega)).trans m9_1
              have m10_3 := (g10 (N + 3) (by omega)).trans m9_3
              refine wpAnyH_all (rs := [11]) (by kernel_rfl) (by simp) (fun i hi => ?_)
              obtain rfl : i = 11 := List.mem_singleton.1 hi
              refine op_store_cmd rfl rfl rfl _ _ rfl (N + 1) ⟨0, 0, 0, false, q, [120]⟩ rst0 rfl rfl zc rfl m10_1 ?_
              intro X11 e11 f11 g11
              have t11 := f11 w2.heap.size w2 (by omega) t10
              refine And.intro t11 ?_
              have m11_0 := (g11 N (by omega)).trans m10_0
              have m11_2 := (g11 (N + 2) (by omega)).trans e10
              have m11_3 := (g11 (N + 3) (by omega)).trans m10_3
              refine wpAnyH_done (by kernel_rfl) ?_ _
              simp only [Act.put]
              go_wp2
              go_meet
              exact ⟨(N + 3), N, (N + 2), (N + 1), rfl, rfl, rfl, rfl, hideT ⟨t11, by omega, by omega, by omega, by omega, by omega, by omega, by omega, by omega, by omega, by omega, m11_3, m11_0, m11_2, e11⟩⟩
        · refine op_value (some 8) (w' := V1) rfl rfl (wanted_none rfl _) (alloc_to rfl hV1 z0) ?_
          refine And.intro s1 ?_
          refine wpAnyH_all (rs := [4, 5, 7]) (by kernel_rfl) (by simp) (fun i hi => ?_)
          simp only [List.mem_cons, List.not_mem_nil, or_false] at hi
          rcases hi with rfl | rfl | rfl
          · refine op_value (some 6) (w' := V2) rfl rfl (wanted_none rfl _) (alloc_to rfl hV2 z1) ?_
            refine And.intro s2 ?_
            refine wpAnyH_all (rs := [5, 7]) (by kernel_rfl) (by simp) (fun i hi => ?_)
            simp only [List.mem_cons, List.not_mem_nil, or_false] at hi
            rcases hi with rfl | rfl
            · refine op_value (some 7) (w' := V3) rfl rfl (wanted_none rfl _) (alloc_to rfl hV3 z2) ?_
              refine And.intro s3 ?_
              refine wpAnyH_all (rs := [7]) (by kernel_rfl) (by simp) (fun i hi => ?_)
              obtain rfl : i = 7 := List.mem_singleton.1 hi
              refine op_value (some 9) (w' := V4) rfl rfl (wanted_none rfl _) (alloc_to rfl hV4 z3) ?_
              refine And.intro s4 ?_
              simp only [Act.put, List.setIfInBounds_toArray, List.set_cons_zero, List.set_cons_succ]
              refine wpAnyH_all (rs := [8]) (by kernel_rfl) (by simp) (fun i hi => ?_)
              obtain rfl : i = 8 := List.mem_singleton.1 hi
              refine op_store_cmd rfl rfl rfl _ _ rfl (N + 1) ⟨0, 0, 0, false, q, [120]⟩ rst0 rfl rfl zc rfl k1 ?_
              intro X8 e8 f8 g8
              have t8 := f8 w2.heap.size w2 (by omega) s4
              refine And.intro t8 ?_
              have m8_0 := (g8 N (by omega)).trans k0
              have m8_2 := (g8 (N + 2) (by omega)).trans k2
              have m8_3 := (g8 (N + 3) (by omega)).trans k3
              refine wpAnyH_all (rs := [9]) (by kernel_rfl) (by simp) (fun i hi => ?_)
              obtain rfl : i = 9 := List.mem_singleton.1 hi
              refine op_store_cmd rfl rfl rfl _ _ rfl (N + 2) ⟨0, 0, 0, false, q, [120]⟩ rst0 rfl rfl zc rfl m8_2 ?_
              intro X9 e9 f9 g9
              have t9 := f9 w2.heap.size w2 (by omega) t8
              refine And.intro t9 ?_
              have m9_0 := (g9 N (by omega)).trans m8_0
              have m9_1 := (g9 (N + 1) (by omega)).trans e8
              have m9_3 := (g9 (N + 3) (by omega)).trans m8_3
              refine wpAnyH_all (rs := [10]) (by kernel_rfl) (by simp) (fun i hi => ?_)
              obtain rfl : i = 10 := List.mem_singleton.1 hi
              refine op_store_cmd rfl rfl rfl _ _ rfl N ⟨0, 0, 0, false, q, [120]⟩ rst0 rfl rfl zc rfl m9_0 ?_
              intro X10 e10 f10 g10
              have t10 := f10 w2.heap.size w2 (by omega) t9
              refine And.intro t10 ?_
              have m10_1 := (g10 (N + 1) (by omega)).trans m9_1
              have m10_2 := (g10 (N + 2) (by omega)).trans e9
              have m10_3 := (g10 (N + 3) (by omega)).trans m9_3
              refine wpAnyH_all (rs := [11]) (by kernel_rfl) (by simp) (fun i hi => ?_)
              obtain rfl : i = 11 := List.mem_singleton.1 hi
              refine op_store_cmd rfl rfl rfl _ _ rfl (N + 3) ⟨0, 0, 0, false, q, [120]⟩ rst0 rfl rfl zc rfl m10_3 ?_
              intro X11 e11 f11 g11
              have t11 := f11 w2.heap.size w2 (by omega) t10
              refine And.intro t11 ?_
              have m11_0 := (g11 N (by omega)).trans e10
              have m11_1 := (g11 (N + 1) (by omega)).trans m10_1
              have m11_2 := (g11 (N + 2) (by omega)).trans m10_2
              refine wpAnyH_done (by kernel_rfl) ?_ _
              simp only [Act.put]
              go_wp2
              go_meet
              exact ⟨(N + 1), (N + 2), N, (N + 3), rfl, rfl, rfl, rfl, hideT ⟨t11, by omega, by omega, by omega, by omega, by omega, by omega, by omega, by omega, by omega, by omega, m11_1, m11_2, m11_0, e11⟩⟩
            · refine op_value (some 9) (w' := V3) rfl rfl (wanted_none rfl _) (alloc_to rfl hV3 z2) ?_
              refine And.intro s3 ?_
              refine wpAnyH_all (rs := [5]) (by kernel_rfl) (by simp) (fun i hi => ?_)
              obtain rfl : i = 5 := List.mem_singleton.1 hi
              refine op_value (some 7) (w' := V4) rfl rfl (wanted_none rfl _) (alloc_to rfl hV4 z3) ?_
              refine And.intro s4 ?_
              simp only [Act.put, List.setIfInBounds_toArray, List.set_cons_zero, List.set_cons_succ]
              refine wpAnyH_all (rs := [8]) (by kernel_rfl) (by simp) (fun i hi => ?_)
              obtain rfl : i = 8 := List.mem_singleton.1 hi
              refine op_store_cmd rfl rfl rfl _ _ rfl (N + 1) ⟨0, 0, 0, false, q, [120]⟩ rst0 rfl rfl zc rfl k1 ?_
              intro X8 e8 f8 g8
              have t8 := f8 w2.heap.size w2 (by omega) s4
              refine And.intro t8 ?_
              have m8_0 := (g8 N (by omega)).trans k0
              have m8_2 := (g8 (N + 2) (by omega)).trans k2
              have m8_3 := (g8 (N + 3) (by omega)).trans k3
              refine wpAnyH_all (rs := [9]) (by kernel_rfl) (by simp) (fun i hi => ?_)
              obtain rfl : i = 9 := List.mem_singleton.1 hi
              refine op_store_cmd rfl rfl rfl _ _ rfl (N + 3) ⟨0, 0, 0, false, q, [120]⟩ rst0 rfl rfl zc rfl m8_3 ?_
              intro X9 e9 f9 g9
              have t9 := f9 w2.heap.size w2 (by omega) t8
              refine And.intro t9 ?_
              have m9_0 := (g9 N (by omega)).trans m8_0
              have m9_1 := (g9 (N + 1) (by omega)).trans e8
              have m9_2 := (g9 (N + 2) (by omega)).trans m8_2
              refine wpAnyH_all (rs := [10]) (by kernel_rfl) (by simp) (fun i hi => ?_)
              obtain rfl : i = 10 := List.mem_singleton.1 hi
              refine op_store_cmd rfl rfl rfl _ _ rfl N ⟨0, 0, 0, false, q, [120]⟩ rst0 rfl rfl zc rfl m9_0 ?_
              intro X10 e10 f10 g10
              have t10 := f10 w2.heap.size w2 (by omega) t9
              refine And.intro t10 ?_
              have m10_1 := (g10 (N + 1) (by omega)).trans m9_1
              have m10_2 := (g10 (N + 2) (by omega)).trans m9_2
              have m10_3 := (g10 (N + 3) (by omega)).trans e9
              refine wpAnyH_all (rs := [11]) (by kernel_rfl) (by simp) (fun i hi => ?_)
              obtain rfl : i = 11 := List.mem_singleton.1 hi
              refine op_store_cmd rfl rfl rfl _ _ rfl (N + 2) ⟨0, 0, 0, false, q, [120]⟩ rst0 rfl rfl zc rfl m10_2 ?_
              intro X11 e11 f11 g11
              have t11 := f11 w2.heap.size w2 (by omega) t10
              refine And.intro t11 ?_
              have m11_0 := (g11 N (by omega)).trans e10
              have m11_1 := (g11 (N + 1) (by omega)).trans m10_1
              have m11_3 := (g11 (N + 3) (by omega)).trans m10_3
              refine wpAnyH_done (by kernel_rfl) ?_ _
              simp only [Act.put]
              go_wp2
              go_meet
              exact ⟨(N + 1), (N + 3), N, (N + 2), rfl, rfl, rfl, rfl, hideT ⟨t11, by omega, by omega, by omega, by omega, by omega, by omega, by omega, by omega, by omega, by omega, m11_1, m11_3, m11_0, e11⟩⟩
          · refine op_value (some 7) (w' := V2) rfl rfl (wanted_none rfl _) (alloc_to rfl hV2 z1) ?_
            refine And.intro s2 ?_
            refine wpAnyH_all (rs := [4, 7]) (by kernel_rfl) (by simp) (fun i hi => ?_)
            simp only [List.mem_cons, List.not_mem_nil, or_false] at hi
            rcases hi with rfl | rfl
            · refine op_value (some 6) (w' := V3) rfl rfl (wanted_none rfl _) (alloc_to rfl hV3 z2) ?_
              refine And.intro s3 ?_
              refine wpAnyH_all (rs := [7]) (by kernel_rfl) (by simp) (fun i hi => ?_)
              obtain rfl : i = 7 := List.mem_singleton.1 hi
              refine op_value (some 9) (w' := V4) rfl rfl (wanted_none rfl _) (alloc_to rfl hV4 z3) ?_
              refine And.intro s4 ?_
              simp only [Act.put, List.setIfInBounds_toArray, List.set_cons_zero, List.set_cons_succ]
              refine wpAnyH_all (rs := [8]) (by kernel_rfl) (by simp) (fun i hi => ?_)
              obtain rfl : i = 8 := List.mem_singleton.1 hi
              refine op_store_cmd rfl rfl rfl _ _ rfl (N + 2) ⟨0, 0, 0, false, q, [120]⟩ rst0 rfl rfl zc rfl k2 ?_
              intro X8 e8 f8 g8
              have t8 := f8 w2.heap.size w2 (by omega) s4
              refine And.intro t8 ?_
              have m8_0 := (g8 N (by omega)).trans k0
              have m8_1 := (g8 (N + 1) (by omega)).trans k1
              have m8_3 := (g8 (N + 3) (by omega)).trans k3
              refine wpAnyH_all (rs := [9]) (by kernel_rfl) (by simp) (fun i hi => ?_)
              obtain rfl : i = 9 := List.mem_singleton.1 hi
              refine op_store_cmd rfl rfl rfl _ _ rfl (N + 1) ⟨0, 0, 0, false, q, [120]⟩ rst0 rfl rfl zc rfl m8_1 ?_
              intro X9 e9 f9 g9
              have t9 := f9 w2.heap.size w2 (by omega) t8
              refine And.intro t9 ?_
              have m9_0 := (g9 N (by omega)).trans m8_0
              have m9_2 := (g9 (N + 2) (by omega)).trans e8
              have m9_3 := (g9 (N + 3) (by omega)).trans m8_3
              refine wpAnyH_all (rs := [10]) (by kernel_rfl) (by simp) (fun i hi => ?_)
              obtain rfl : i = 10 := List.mem_singleton.1 hi
              refine op_store_cmd rfl rfl rfl _ _ rfl N ⟨0, 0, 0, false, q, [120]⟩ rst0 rfl rfl zc rfl m9_0 ?_
              intro X10 e10 f10 g10
              have t10 := f10 w2.heap.size w2 (by omega) t9
              refine And.intro t10 ?_
              have m10_1 := (g10 (N + 1) (by omega)).trans e9
              have m10_2 := (g10 (N + 2) (by omega)).trans m9_2
              have m10_3 := (g10 (N + 3) (by omega)).trans m9_3
              refine wpAnyH_all (rs := [11]) (by kernel_rfl) (by simp) (fun i hi => ?_)
              obtain rfl : i = 11 := List.mem_singleton.1 hi
              refine op_store_cmd rfl rfl rfl _ _ rfl (N + 3) ⟨0, 0, 0, false, q, [120]⟩ rst0 rfl rfl zc rfl m10_3 ?_
              intro X11 e11 f11 g11
              have t11 := f11 w2.heap.size w2 (by omega) t10
              refine And.intro t11 ?_
              have m11_0 := (g11 N (by omega)).trans e10
              have m11_1 := (g11 (N + 1) (by omega)).trans m10_1
              have m11_2 := (g11 (N + 2) (by omega)).trans m10_2
              refine wpAnyH_done (by kernel_rfl) ?_ _
              simp only [Act.put]
              go_wp2
              go_meet
              exact ⟨(N + 2), (N + 1), N, (N + 3), rfl, rfl, rfl, rfl, hideT ⟨t11, by omega, by omega, by omega, by omega, by omega, by omega, by omega, by omega, by omega, by omega, m11_2, m11_1, m11_0, e11⟩⟩
            · refine op_value (some 9) (w' := V3) rfl rfl (wanted_none rfl _) (alloc_to rfl hV3 z2) ?_
              refine And.intro s3 ?_
              refine wpAnyH_all (rs := [4]) (by kernel_rfl) (by simp) (fun i hi => ?_)
              obtain rfl : i = 4 := List.mem_singleton.1 hi
              refine op_value (some 6) (w' := V4) rfl rfl (wanted_none rfl _) (alloc_to rfl hV4 z3) ?_
              refine And.intro s4 ?_
              simp only [Act.put, List.setIfInBounds_toArray, List.set_cons_zero, List.set_cons_succ]
              refine wpAnyH_all (rs := [8]) (by kernel_rfl) (by simp) (fun i hi => ?_)
              obtain rfl : i = 8 := List.mem_singleton.1 hi
              refine op_store_cmd rfl rfl rfl _ _ rfl (N + 3) ⟨0, 0, 0, false, q, [120]⟩ rst0 rfl rfl zc rfl k3 ?_
              intro X8 e8 f8 g8
              have t8 := f8 w2.heap.size w2 (by omega) s4
              refine And.intro t8 ?_
              have m8_0 := (g8 N (by omega)).trans k0
              have m8_1 := (g8 (N + 1) (by omega)).trans k1
              have m8_2 := (g8 (N + 2) (by omega)).trans k2
              refine wpAnyH_all (rs := [9]) (by kernel_rfl) (by simp) (fun i hi => ?_)
              obtain rfl : i = 9 := List.mem_singleton.1 hi
              refine op_store_cmd rfl rfl rfl _ _ rfl (N + 1) ⟨0, 0, 0, false, q, [120]⟩ rst0 rfl rfl zc rfl m8_1 ?_
              intro X9 e9 f9 g9
              have t9 := f9 w2.heap.size w2 (by omega) t8
              refine And.intro t9 ?_
              have m9_0 := (g9 N (by omega)).trans m8_0
              have m9_2 := (g9 (N + 2) (by omega)).trans m8_2
              have m9_3 := (g9 (N + 3) (by omega)).trans e8
              refine wpAnyH_all (rs := [10]) (by kernel_rfl) (by simp) (fun i hi => ?_)
              obtain rfl : i = 10 := List.mem_singleton.1 hi
              refine op_store_cmd rfl rfl rfl _ _ rfl N ⟨0, 0, 0, false, q, [120]⟩ rst0 rfl rfl zc rfl m9_0 ?_
              intro X10 e10 f10 g10
              have t10 := f10 w2.heap.size w2 (by omega) t9
              refine And.intro t10 ?_
              have m10_1 := (g10 (N + 1) (by omega)).trans e9
              have m10_2 := (g10 (N + 2) (by omega)).trans m9_2
              have m10_3 := (g10 (N + 3) (by omega)).trans m9_3
              refine wpAnyH_all (rs := [11]) (by kernel_rfl) (by simp) (fun i hi => ?_)
              obtain rfl : i = 11 := List.mem_singleton.1 hi
              refine op_store_cmd rfl rfl rfl _ _ rfl (N + 2) ⟨0, 0, 0, false, q, [120]⟩ rst0 rfl rfl zc rfl m10_2 ?_
              intro X11 e11 f11 g11
              have t11 := f11 w2.heap.size w2 (by omega) t10
              refine And.intro t11 ?_
              have m11_0 := (g11 N (by omega)).trans e10
              have m11_1 := (g11 (N + 1) (by omega)).trans m10_1
              have m11_3 := (g11 (N + 3) (by omega)).trans m10_3
              refine wpAnyH_done (by kernel_rfl) ?_ _
              simp only [Act.put]
              go_wp2
              go_meet
              exact ⟨(N + 3), (N + 1), N, (N + 2), rfl, rfl, rfl, rfl, hideT ⟨t11, by omega, by omega, by omega, by omega, by omega, by omega, by omega, by omega, by omega, by omega, m11_3, m11_1, m11_0, e11⟩⟩
          · refine op_value (some 9) (w' := V2) rfl rfl (wanted_none rfl _) (alloc_to rfl hV2 z1) ?_
            refine And.intro s2 ?_
            refine wpAnyH_all (rs := [4, 5]) (by kernel_rfl) (by simp) (fun i hi => ?_)
            simp only [List.mem_cons, List.not_mem_nil, or_false] at hi
            rcases hi with rfl | rfl
            · refine op_value (some 6) (w' := V3) rfl rfl (wanted_none rfl _) (alloc_to rfl hV3 z2) ?_
              refine And.intro s3 ?_
              refine wpAnyH_all (rs := [5]) (by kernel_rfl) (by simp) (fun i hi => ?_)
              obtain rfl : i = 5 := List.mem_singleton.1 hi
              refine op_value (some 7) (w' := V4) rfl rfl (wanted_none rfl _) (alloc_to rfl hV4 z3) ?_
              refine And.intro s4 ?_
              simp only [Act.put, List.setIfInBounds_toArray, List.set_cons_zero, List.set_cons_succ]
              refine wpAnyH_all (rs := [8]) (by kernel_rfl) (by simp) (fun i hi => ?_)
              obtain rfl : i = 8 := List.mem_singleton.1 hi
              refine op_store_cmd rfl rfl rfl _ _ rfl (N + 2) ⟨0, 0, 0, false, q, [120]⟩ rst0 rfl rfl zc rfl k2 ?_
              intro X8 e8 f8 g8
              have t8 := f8 w2.heap.size w2 (by omega) s4
              refine And.intro t8 ?_
              have m8_0 := (g8 N (by omega)).trans k0
              have m8_1 := (g8 (N + 1) (by omega)).trans k1
              have m8_3 := (g8 (N + 3) (by omega)).trans k3
              refine wpAnyH_all (rs := [9]) (by kernel_rfl) (by simp) (fun i hi => ?_)
              obtain rfl : i = 9 := List.mem_singleton.1 hi
              refine op_store_cmd rfl rfl rfl _ _ rfl (N + 3) ⟨0, 0, 0, false, q, [120]⟩ rst0 rfl rfl zc rfl m8_3 ?_
              intro X9 e9 f9 g9
              have t9 := f9 w2.heap.size w2 (by omega) t8
              refine And.intro t9 ?_
              have m9_0 := (g9 N (by omega)).trans m8_0
              have m9_1 := (g9 (N + 1) (by omega)).trans m8_1
              have m9_2 := (g9 (N + 2) (by omega)).trans e8
              refine wpAnyH_all (rs := [10]) (by kernel_rfl) (by simp) (fun i hi => ?_)
              obtain rfl : i = 10 := List.mem_singleton.1 hi
              refine op_store_cmd rfl rfl rfl _ _ rfl N ⟨0, 0, 0, false, q, [120]⟩ rst0 rfl rfl zc rfl m9_0 ?_
              intro X10 e10 f10 g10
              have t10 := f10 w2.heap.size w2 (by omega) t9
              refine And.intro t10 ?_
              have m10_1 := (g10 (N + 1) (by omega)).trans m9_1
              have m10_2 := (g10 (N + 2) (by omega)).trans m9_2
              have m10_3 := (g10 (N + 3) (by omega)).trans e9
              refine wpAnyH_all (rs := [11]) (by kernel_rfl) (by simp) (fun i hi => ?_)
              obtain rfl : i = 11 := List.mem_singleton.1 hi
              refine op_store_cmd rfl rfl rfl _ _ rfl (N + 1) ⟨0, 0, 0, false, q, [120]⟩ rst0 rfl rfl zc rfl m10_1 ?_
              intro X11 e11 f11 g11
              have t11 := f11 w2.heap.size w2 (by omega) t10
              refine And.intro t11 ?_
              have m11_0 := (g11 N (by omega)).trans e10
              have m11_2 := (g11 (N + 2) (by omega)).trans m10_2
              have m11_3 := (g11 (N + 3) (by omega)).trans m10_3
              refine wpAnyH_done (by kernel_rfl) ?_ _
              simp only [Act.put]
              go_wp2
              go_meet
              exact ⟨(N + 2), (N + 3), N, (N + 1), rfl, rfl, rfl, rfl, hideT ⟨t11, by omega, by omega, by omega, by omega, by omega, by omega, by omega, by omega, by omega, by omega, m11_2, m11_3, m11_0, e11⟩⟩
            · refine op_value (some 7) (w' := V3) rfl rfl (wanted_none rfl _) (alloc_to rfl hV3 z2) ?_
              refine And.intro s3 ?_
              refine wpAnyH_all (rs := [4]) (by kernel_rfl) (by simp) (fun i hi => ?_)
              obtain rfl : i = 4 := List.mem_singleton.1 hi
              refine op_value (some 6) (w' := V4) rfl rfl (wanted_none rfl _) (alloc_to rfl hV4 z3) ?_
              refine And.intro s4 ?_
              simp only [Act.put, List.setIfInBounds_toArray, List.set_cons_zero, List.set_cons_succ]
              refine wpAnyH_all (rs := [8]) (by kernel_rfl) (by simp) (fun i hi => ?_)
              obtain rfl : i = 8 := List.mem_singleton.1 hi
              refine op_store_cmd rfl rfl rfl _ _ rfl (N + 3) ⟨0, 0, 0, false, q, [120]⟩ rst0 rfl rfl zc rfl k3 ?_
              intro X8 e8 f8 g8
              have t8 := f8 w2.heap.size w2 (by omega) s4
              refine And.intro t8 ?_
              have m8_0 := (g8 N (by omega)).trans k0
              have m8_1 := (g8 (N + 1) (by omega)).trans k1
              have m8_2 := (g8 (N + 2) (by omega)).trans k2
              refine wpAnyH_all (rs := [9]) (by kernel_rfl) (by simp) (fun i hi => ?_)
              obtain rfl : i = 9 := List.mem_singleton.1 hi
              refine op_store_cmd rfl rfl rfl _ _ rfl (N + 2) ⟨0, 0, 0, false, q, [120]⟩ rst0 rfl rfl zc rfl m8_2 ?_
              intro X9 e9 f9 g9
              have t9 := f9 w2.heap.size w2 (by omega) t8
              refine And.intro t9 ?_
              have m9_0 := (g9 N (by omega)).trans m8_0
              have m9_1 := (g9 (N + 1) (by omega)).trans m8_1
              have m9_3 := (g9 (N + 3) (by omega)).trans e8
              refine wpAnyH_all (rs := [10]) (by kernel_rfl) (by simp) (fun i hi => ?_)
              obtain rfl : i = 10 := List.mem_singleton.1 hi
              refine op_store_cmd rfl rfl rfl _ _ rfl N ⟨0, 0, 0, false, q, [120]⟩ rst0 rfl rfl zc rfl m9_0 ?_
              intro X10 e10 f10 g10
              have t10 := f10 w2.heap.size w2 (by omega) t9
              refine And.intro t10 ?_
              have m10_1 := (g10 (N + 1) (by omega)).trans m9_1
              have m10_2 := (g10 (N + 2) (by omega)).trans e9
              have m10_3 := (g10 (N + 3) (by omega)).trans m9_3
              refine wpAnyH_all (rs := [11]) (by kernel_rfl) (by simp) (fun i hi => ?_)
              obtain rfl : i = 11 := List.mem_singleton.1 hi
              refine op_store_cmd rfl rfl rfl _ _ rfl (N + 1) ⟨0, 0, 0, false, q, [120]⟩ rst0 rfl rfl zc rfl m10_1 ?_
              intro X11 e11 f11 g11
              have t11 := f11 w2.heap.size w2 (by omega) t10
              refine And.intro t11 ?_
              have m11_0 := (g11 N (by omega)).trans e10
              have m11_2 := (g11 (N + 2) (by omega)).trans m10_2
              have m11_3 := (g11 (N + 3) (by omega)).trans m10_3
              refine wpAnyH_done (by kernel_rfl) ?_ _
              simp only [Act.put]
              go_wp2
              go_meet
              exact ⟨(N + 3), (N + 2), N, (N + 1), rfl, rfl, rfl, rfl, hideT ⟨t11, by omega, by omega, by omega, by omega, by omega, by omega, by omega, by omega, by omega, by omega, m11_3, m11_2, m11_0, e11⟩⟩
        · refine op_value (some 9) (w' := V1) rfl rfl (wanted_none rfl _) (alloc_to rfl hV1 z0) ?_
          refine And.intro s1 ?_
          refine wpAnyH_all (rs := [4, 5, 6]) (by kernel_rfl) (by simp) (fun i hi => ?_)
          simp only [List.mem_cons, List.not_mem_nil, or_false] at hi
          rcases hi with rfl | rfl | rfl
          · refine op_value (some 6) (w' := V2) rfl rfl (wanted_none rfl _) (alloc_to rfl hV2 z1) ?_
            refine And.intro s2 ?_
            refine wpAnyH_all (rs := [5, 6]) (by kernel_rfl) (by simp) (fun i hi => ?_)
            simp only [List.mem_cons, List.not_mem_nil, or_false] at hi
            rcases hi with rfl | rfl
            · refine op_value (some 7) (w' := V3) rfl rfl (wanted_none rfl _) (alloc_to rfl hV3 z2) ?_
              refine And.intro s3 ?_
              refine wpAnyH_all (rs := [6]) (by kernel_rfl) (by simp) (fun i hi => ?_)
              obtain rfl : i = 6 := List.mem_singleton.1 hi
              refine op_value (some 8) (w' := V4) rfl rfl (wanted_none rfl _) (alloc_to rfl hV4 z3) ?_
              refine And.intro s4 ?_
              simp only [Act.put, List.setIfInBounds_toArray, List.set_cons_zero, List.set_cons_succ]
              refine wpAnyH_all (rs := [8]) (by kernel_rfl) (by simp) (fun i hi => ?_)
              obtain rfl : i = 8 := List.mem_singleton.1 hi
              refine op_store_cmd rfl rfl rfl _ _ rfl (N + 1) ⟨0, 0, 0, false, q, [120]⟩ rst0 rfl rfl zc rfl k1 ?_
              intro X8 e8 f8 g8
              have t8 := f8 w2.heap.size w2 (by omega) s4
              refine And.intro t8 ?_
              have m8_0 := (g8 N (by omega)).trans k0
              have m8_2 := (g8 (N + 2) (by omega)).trans k2
              have m8_3 := (g8 (N + 3) (by omega)).trans k3
              refine wpAnyH_all (rs := [9]) (by kernel_rfl) (by simp) (fun i hi => ?_)
              obtain rfl : i = 9 := List.mem_singleton.1 hi
              refine op_store_cmd rfl rfl rfl _ _ rfl (N + 2) ⟨0, 0, 0, false, q, [120]⟩ rst0 rfl rfl zc rfl m8_2 ?_
              intro X9 e9 f9 g9
              have t9 := f9 w2.heap.size w2 (by omega) t8
              refine And.intro t9 ?_
              have m9_0 := (g9 N (by omega)).trans m8_0
              have m9_1 := (g9 (N + 1) (by omega)).trans e8
              have m9_3 := (g9 (N + 3) (by omega)).trans m8_3
              refine wpAnyH_all (rs := [10]) (by kernel_rfl) (by simp) (fun i hi => ?_)
              obtain rfl : i = 10 := List.mem_singleton.1 hi
              refine op_store_cmd rfl rfl rfl _ _ rfl (N + 3) ⟨0, 0, 0, false, q, [120]⟩ rst0 rfl rfl zc rfl m9_3 ?_
              intro X10 e10 f10 g10
              have t10 := f10 w2.heap.size w2 (by omega) t9
              refine And.intro t10 ?_
              have m10_0 := (g10 N (by omega)).trans m9_0
              have m10_1 := (g10 (N + 1) (by omega)).trans m9_1
              have m10_2 := (g10 (N + 2) (by omega)).trans e9
              refine wpAnyH_all (rs := [11]) (by kernel_rfl) (by simp) (fun i hi => ?_)
              obtain rfl : i = 11 := List.mem_singleton.1 hi
              refine op_store_cmd rfl rfl rfl _ _ rfl N ⟨0, 0, 0, false, q, [120]⟩ rst0 rfl rfl zc rfl m10_0 ?_
              intro X11 e11 f11 g11
              have t11 := f11 w2.heap.size w2 (by omega) t10
              refine And.intro t11 ?_
              have m11_1 := (g11 (N + 1) (by omega)).trans m10_1
              have m11_2 := (g11 (N + 2) (by omega)).trans m10_2
              have m11_3 := (g11 (N + 3) (by omega)).trans e10
              refine wpAnyH_done (by kernel_rfl) ?_ _
              simp only [Act.put]
              go_wp2
              go_meet
              exact ⟨(N + 1), (N + 2), (N + 3), N, rfl, rfl, rfl, rfl, hideT ⟨t11, by omega, by omega, by omega, by omega, by omega, by omega, by omega, by omega, by omega, by omega, m11_1, m11_2, m11_3, e11⟩⟩
            · refine op_value (some 8) (w' := V3) rfl rfl (wanted_none rfl _) (alloc_to rfl hV3 z2) ?_
              refine And.intro s3 ?_
              refine wpAnyH_all (rs := [5]) (by kernel_rfl) (by simp) (fun i hi => ?_)
              obtain rfl : i = 5 := List.mem_singleton.1 hi
              refine op_value (some 7) (w' := V4) rfl rfl (wanted_none rfl _) (alloc_to rfl hV4 z3) ?_
              refine And.intro s4 ?_
              simp only [Act.put, List.setIfInBounds_toArray, List.set_cons_zero, List.set_cons_succ]
              refine wpAnyH_all (rs := [8]) (by kernel_rfl) (by simp) (fun i hi => ?_)
              obtain rfl : i = 8 := List.mem_singleton.1 hi
              refine op_store_cmd rfl rfl rfl _ _ rfl (N + 1) ⟨0, 0, 0, false, q, [120]⟩ rst0 rfl rfl zc rfl k1 ?_
              intro X8 e8 f8 g8
              have t8 := f8 w2.heap.size w2 (by omega) s4
              refine And.intro t8 ?_
              have m8_0 := (g8 N (by omega)).trans k0
              have m8_2 := (g8 (N + 2) (by omega)).trans k2
              have m8_3 := (g8 (N + 3) (by omega)).trans k3
              refine wpAnyH_all (rs := [9]) (by kernel_rfl) (by simp) (fun i hi => ?_)
              obtain rfl : i = 9 := List.mem_singleton.1 hi
              refine op_store_cmd rfl rfl rfl _ _ rfl (N + 3) ⟨0, 0, 0, false, q, [120]⟩ rst0 rfl rfl zc rfl m8_3 ?_
              intro X9 e9 f9 g9
              have t9 := f9 w2.heap.size w2 (by omega) t8
              refine And.intro t9 ?_
              have m9_0 := (g9 N (by omega)).trans m8_0
              have m9_1 := (g9 (N + 1) (by omega)).trans e8
              have m9_2 := (g9 (N + 2) (by omega)).trans m8_2
              refine wpAnyH_all (rs := [10]) (by kernel_rfl) (by simp) (fun i hi => ?_)
              obtain rfl : i = 10 := List.mem_singleton.1 hi
              refine op_store_cmd rfl rfl rfl _ _ rfl (N + 2) ⟨0, 0, 0, false, q, [120]⟩ rst0 rfl rfl zc rfl m9_2 ?_
              intro X10 e10 f10 g10
              have t10 := f10 w2.heap.size w2 (by omega) t9
              refine And.intro t10 ?_
              have m10_0 := (g10 N (by omega)).trans m9_0
              have m10_1 := (g10 (N + 1) (by omega)).trans m9_1
              have m10_3 := (g10 (N + 3) (by omega)).trans e9
              refine wpAnyH_all (rs := [11]) (by kernel_rfl) (by simp) (fun i hi => ?_)
              obtain rfl : i = 11 := List.mem_singleton.1 hi
              refine op_store_cmd rfl rfl rfl _ _ rfl N ⟨0, 0, 0, false, q, [120]⟩ rst0 rfl rfl zc rfl m10_0 ?_
              intro X11 e11 f11 g11
              have t11 := f11 w2.heap.size w2 (by omega) t10
              refine And.intro t11 ?_
              have m11_1 := (g11 (N + 1) (by omega)).trans m10_1
              have m11_2 := (g11 (N + 2) (by omega)).trans e10
              have m11_3 := (g11 (N + 3) (by omega)).trans m10_3
              refine wpAnyH_done (by kernel_rfl) ?_ _
              simp only [Act.put]
              go_wp2
              go_meet
              exact ⟨(N + 1), (N + 3), (N + 2), N, rfl, rfl, rfl, rfl, hideT ⟨t11, by omega, by omega, by omega, by omega, by omega, by omega, by omega, by omega, by omega, by omega, m11_1, m11_3, m11_2, e11⟩⟩
          · refine op_value (some 7) (w' := V2) rfl rfl (wanted_none rfl _) (alloc_to rfl hV2 z1) ?_
            refine And.intro s2 ?_
            refine wpAnyH_all (rs := [4, 6]) (by kernel_rfl) (by simp) (fun i hi => ?_)
            simp only [List.mem_cons, List.not_mem_nil, or_false] at hi
            rcases hi with rfl | rfl
            · refine op_value (some 6) (w' := V3) rfl rfl (wanted_none rfl _) (alloc_to rfl hV3 z2) ?_
              refine And.intro s3 ?_
              refine wpAnyH_all (rs := [6]) (by kernel_rfl) (by simp) (fun i hi => ?_)
              obtain rfl : i = 6 := List.mem_singleton.1 hi
              refine op_value (some 8) (w' := V4) rfl rfl (wanted_none rfl _) (alloc_to rfl hV4 z3) ?_
              refine And.intro s4 ?_
              simp only [Act.put, List.setIfInBounds_toArray, List.set_cons_zero, List.set_cons_succ]
              refine wpAnyH_all (rs := [8]) (by kernel_rfl) (by simp) (fun i hi => ?_)
              obtain rfl : i = 8 := List.mem_singleton.1 hi
              refine op_store_cmd rfl rfl rfl _ _ rfl (N + 2) ⟨0, 0, 0, false, q, [120]⟩ rst0 rfl rfl zc rfl k2 ?_
              intro X8 e8 f8 g8
              have t8 := f8 w2.heap.size w2 (by omega) s4
              refine And.intro t8 ?_
              have m8_0 := (g8 N (by omega)).trans k0
              have m8_1 := (g8 (N + 1) (by omega)).trans k1
              have m8_3 := (g8 (N + 3) (by omega)).trans k3
              refine wpAnyH_all (rs := [9]) (by kernel_rfl) (by simp) (fun i hi => ?_)
              obtain rfl : i = 9 := List.mem_singleton.1 hi
              refine op_store_cmd rfl rfl rfl _ _ rfl (N + 1) ⟨0, 0, 0, false, q, [120]⟩ rst0 rfl rfl zc rfl m8_1 ?_
              intro X9 e9 f9 g9
              have t9 := f9 w2.heap.size w2 (by omega) t8
              refine And.intro t9 ?_
              have m9_0 := (g9 N (by omega)).trans m8_0
              have m9_2 := (g9 (N + 2) (by omega)).trans e8
              have m9_3 := (g9 (N + 3) (by omega)).trans m8_3
              refine wpAnyH_all (rs := [10]) (by kernel_rfl) (by simp) (fun i hi => ?_)
              obtain rfl : i = 10 := List.mem_singleton.1 hi
              refine op_store_cmd rfl rfl rfl _ _ rfl (N + 3) ⟨0, 0, 0, false, q, [120]⟩ rst0 rfl rfl zc rfl m9_3 ?_
              intro X10 e10 f10 g10
              have t10 := f10 w2.heap.size w2 (by omega) t9
              refine And.intro t10 ?_
              have m10_0 := (g10 N (by omega)).trans m9_0
              have m10_1 := (g10 (N + 1) (by omega)).trans e9
              have m10_2 := (g10 (N + 2) (by omega)).trans m9_2
              refine wpAnyH_all (rs := [11]) (by kernel_rfl) (by simp) (fun i hi => ?_)
              obtain rfl : i = 11 := List.mem_singleton.1 hi
              refine op_store_cmd rfl rfl rfl _ _ rfl N ⟨0, 0, 0, false, q, [120]⟩ rst0 rfl rfl zc rfl m10_0 ?_
              intro X11 e11 f11 g11
              have t11 := f11 w2.heap.size w2 (by omega) t10
              refine And.intro t11 ?_
              have m11_1 := (g11 (N + 1) (by omega)).trans m10_1
              have m11_2 := (g11 (N + 2) (by omega)).trans m10_2
              have m11_3 := (g11 (N + 3) (by omega)).trans e10
              refine wpAnyH_done (by kernel_rfl) ?_ _
              simp only [Act.put]
              go_wp2
              go_meet
              exact ⟨(N + 2), (N + 1), (N + 3), N, rfl, rfl, rfl, rfl, hideT ⟨t11, by omega, by omega, by omega, by omega, by omega, by omega, by omega, by omega, by omega, by omega, m11_2, m11_1, m11_3, e11⟩⟩
            · refine op_value (some 8) (w' := V3) rfl rfl (wanted_none rfl _) (alloc_to rfl hV3 z2) ?_
              refine And.intro s3 ?_
              refine wpAnyH_all (rs := [4]) (by kernel_rfl) (by simp) (fun i hi => ?_)
              obtain rfl : i = 4 := List.mem_singleton.1 hi
              refine op_value (some 6) (w' := V4) rfl rfl (wanted_none rfl _) (alloc_to rfl hV4 z3) ?_
              refine And.intro s4 ?_
              simp only [Act.put, List.setIfInBounds_toArray, List.set_cons_zero, List.set_cons_succ]
              refine wpAnyH_all (rs := [8]) (by kernel_rfl) (by simp) (fun i hi => ?_)
              obtain rfl : i = 8 := List.mem_singleton.1 hi
              refine op_store_cmd rfl rfl rfl _ _ rfl (N + 3) ⟨0, 0, 0, false, q, [120]⟩ rst0 rfl rfl zc rfl k3 ?_
              intro X8 e8 f8 g8
              have t8 := f8 w2.heap.size w2 (by omega) s4
              refine And.intro t8 ?_
              have m8_0 := (g8 N (by omega)).trans k0
              have m8_1 := (g8 (N + 1) (by omega)).trans k1
              have m8_2 := (g8 (N + 2) (by omega)).trans k2
              refine wpAnyH_all (rs := [9]) (by kernel_rfl) (by simp) (fun i hi => ?_)
              obtain rfl : i = 9 := List.mem_singleton.1 hi
              refine op_store_cmd rfl rfl rfl _ _ rfl (N + 1) ⟨0, 0, 0, false, q, [120]⟩ rst0 rfl rfl zc rfl m8_1 ?_
              intro X9 e9 f9 g9
              have t9 := f9 w2.heap.size w2 (by omega) t8
              refine And.intro t9 ?_
              have m9_0 := (g9 N (by omega)).trans m8_0
              have m9_2 := (g9 (N + 2) (by omega)).trans m8_2
              have m9_3 := (g9 (N + 3) (by omega)).trans e8
              refine wpAnyH_all (rs := [10]) (by kernel_rfl) (by simp) (fun i hi => ?_)
              obtain rfl : i = 10 := List.mem_singleton.1 hi
              refine op_store_cmd rfl rfl rfl _ _ rfl (N + 2) ⟨0, 0, 0, false, q, [120]⟩ rst0 rfl rfl zc rfl m9_2 ?_
              intro X10 e10 f10 g10
              have t10 := f10 w2.heap.size w2 (by omega) t9
              refine And.intro t10 ?_
              have m10_0 := (g10 N (by omega)).trans m9_0
              have m10_1 := (g10 (N + 1) (by omega)).trans e9
              have m10_3 := (g10 (N + 3) (by omega)).trans m9_3
              refine wpAnyH_all (rs := [11]) (by kernel_rfl) (by simp) (fun i hi => ?_)
              obtain rfl : i = 11 := List.mem_singleton.1 hi
              refine op_store_cmd rfl rfl rfl _ _ rfl N ⟨0, 0, 0, false, q, [120]⟩ rst0 rfl rfl zc rfl m10_0 ?_
              intro X11 e11 f11 g11
              have t11 := f11 w2.heap.size w2 (by omega) t10
              refine And.intro t11 ?_
              have m11_1 := (g11 (N + 1) (by omega)).trans m10_1
              have m11_2 := (g11 (N + 2) (by omega)).trans e10
              have m11_3 := (g11 (N + 3) (by omega)).trans m10_3
              refine wpAnyH_done (by kernel_rfl) ?_ _
              simp only [Act.put]
              go_wp2
              go_meet
              exact ⟨(N + 3), (N + 1), (N + 2), N, rfl, rfl, rfl, rfl, hideT ⟨t11, by omega, by omega, by omega, by omega, by omega, by omega, by omega, by omega, by omega, by omega, m11_3, m11_1, m11_2, e11⟩⟩
          · refine op_value (some 8) (w' := V2) rfl rfl (wanted_none rfl _) (alloc_to rfl hV2 z1) ?_
            refine And.intro s2 ?_
            refine wpAnyH_all (rs := [4, 5]) (by kernel_rfl) (by simp) (fun i hi => ?_)
            simp only [List.mem_cons, List.not_mem_nil, or_false] at hi
            rcases hi with rfl | rfl
            · refine op_value (some 6) (w' := V3) rfl rfl (wanted_none rfl _) (alloc_to rfl hV3 z2) ?_
              refine And.intro s3 ?_
              refine wpAnyH_all (rs := [5]) (by kernel_rfl) (by simp) (fun i hi => ?_)
              obtain rfl : i = 5 := List.mem_singleton.1 hi
              refine op_value (some 7) (w' := V4) rfl rfl (wanted_none rfl _) (alloc_to rfl hV4 z3) ?_
              refine And.intro s4 ?_
              simp only [Act.put, List.setIfInBounds_toArray, List.set_cons_zero, List.set_cons_succ]
              refine wpAnyH_all (rs := [8]) (by kernel_rfl) (by simp) (fun i hi => ?_)
              obtain rfl : i = 8 := List.mem_singleton.1 hi
              refine op_store_cmd rfl rfl rfl _ _ rfl (N + 2) ⟨0, 0, 0, false, q, [120]⟩ rst0 rfl rfl zc rfl k2 ?_
              intro X8 e8 f8 g8
              have t8 := f8 w2.heap.size w2 (by omega) s4
              refine And.intro t8 ?_
              have m8_0 := (g8 N (by omega)).trans k0
              have m8_1 := (g8 (N + 1) (by omega)).trans k1
              have m8_3 := (g8 (N + 3) (by omega)).trans k3
              refine wpAnyH_all (rs := [9]) (by kernel_rfl) (by simp) (fun i hi => ?_)
              obtain rfl : i = 9 := List.mem_singleton.1 hi
              refine op_store_cmd rfl rfl rfl _ _ rfl (N + 3) ⟨0, 0, 0, false, q, [120]⟩ rst0 rfl rfl zc rfl m8_3 ?_
              intro X9 e9 f9 g9
              have t9 := f9 w2.heap.size w2 (by omega) t8
              refine And.intro t9 ?_
              have m9_0 := (g9 N (by omega)).trans m8_0
              have m9_1 := (g9 (N + 1) (by omega)).trans m8_1
              have m9_2 := (g9 (N + 2) (by omega)).trans e8
              refine wpAnyH_all (rs := [10]) (by kernel_rfl) (by simp) (fun i hi => ?_)
              obtain rfl : i = 10 := List.mem_singleton.1 hi
              refine op_store_cmd rfl rfl rfl _ _ rfl (N + 1) ⟨0, 0, 0, false, q, [120]⟩ rst0 rfl rfl zc rfl m9_1 ?_
              intro X10 e10 f10 g10
              have t10 := f10 w2.heap.size w2 (by omega) t9
              refine And.intro t10 ?_
              have m10_0 := (g10 N (by omega)).trans m9_0
              have m10_2 := (g10 (N + 2) (by omega)).trans m9_2
              have m10_3 := (g10 (N + 3) (by omega)).trans e9
              refine wpAnyH_all (rs := [11]) (by kernel_rfl) (by simp) (fun i hi => ?_)
              obtain rfl : i = 11 := List.mem_singleton.1 hi
              refine op_store_cmd rfl rfl rfl _ _ rfl N ⟨0, 0, 0, false, q, [120]⟩ rst0 rfl rfl zc rfl m10_0 ?_
              intro X11 e11 f11 g11
              have t11 := f11 w2.heap.size w2 (by omega) t10
              refine And.intro t11 ?_
              have m11_1 := (g11 (N + 1) (by omega)).trans e10
              have m11_2 := (g11 (N + 2) (by omega)).trans m10_2
              have m11_3 := (g11 (N + 3) (by omega)).trans m10_3
              refine wpAnyH_done (by kernel_rfl) ?_ _
              simp only [Act.put]
              go_wp2
              go_meet
              exact ⟨(N + 2), (N + 3), (N + 1), N, rfl, rfl, rfl, rfl, hideT ⟨t11, by omega, by omega, by omega, by omega, by omega, by omega, by omega, by omega, by omega, by omega, m11_2, m11_3, m11_1, e11⟩⟩
            · refine op_value (some 7) (w' := V3) rfl rfl (wanted_none rfl _) (alloc_to rfl hV3 z2) ?_
              refine And.intro s3 ?_
              refine wpAnyH_all (rs := [4]) (by kernel_rfl) (by simp) (fun i hi => ?_)
              obtain rfl : i = 4 := List.mem_singleton.1 hi
              refine op_value (some 6) (w' := V4) rfl rfl (wanted_none rfl _) (alloc_to rfl hV4 z3) ?_
              refine And.intro s4 ?_
              simp only [Act.put, List.setIfInBounds_toArray, List.set_cons_zero, List.set_cons_succ]
              refine wpAnyH_all (rs := [8]) (by kernel_rfl) (by simp) (fun i hi => ?_)
              obtain rfl : i = 8 := List.mem_singleton.1 hi
              refine op_store_cmd rfl rfl rfl _ _ rfl (N + 3) ⟨0, 0, 0, false, q, [120]⟩ rst0 rfl rfl zc rfl k3 ?_
              intro X8 e8 f8 g8
              have t8 := f8 w2.heap.size w2 (by omega) s4
              refine And.intro t8 ?_
              have m8_0 := (g8 N (by omega)).trans k0
              have m8_1 := (g8 (N + 1) (by omega)).trans k1
              have m8_2 := (g8 (N + 2) (by omega)).trans k2
              refine wpAnyH_all (rs := [9]) (by kernel_rfl) (by simp) (fun i hi => ?_)
              obtain rfl : i = 9 := List.mem_singleton.1 hi
              refine op_store_cmd rfl rfl rfl _ _ rfl (N + 2) ⟨0, 0, 0, false, q, [120]⟩ rst0 rfl rfl zc rfl m8_2 ?_
              intro X9 e9 f9 g9
              have t9 := f9 w2.heap.size w2 (by omega) t8
              refine And.intro t9 ?_
              have m9_0 := (g9 N (by omega)).trans m8_0
              have m9_1 := (g9 (N + 1) (by omega)).trans m8_1
              have m9_3 := (g9 (N + 3) (by omega)).trans e8
              refine wpAnyH_all (rs := [10]) (by kernel_rfl) (by simp) (fun i hi => ?_)
              obtain rfl : i = 10 := List.mem_singleton.1 hi
              refine op_store_cmd rfl rfl rfl _ _ rfl (N + 1) ⟨0, 0, 0, false, q, [120]⟩ rst0 rfl rfl zc rfl m9_1 ?_
              intro X10 e10 f10 g10
              have t10 := f10 w2.heap.size w2 (by omega) t9
              refine And.intro t10 ?_
              have m10_0 := (g10 N (by omega)).trans m9_0
              have m10_2 := (g10 (N + 2) (by omega)).trans e9
              have m10_3 := (g10 (N + 3) (by omega)).trans m9_3
              refine wpAnyH_all (rs := [11]) (by kernel_rfl) (by simp) (fun i hi => ?_)
              obtain rfl : i = 11 := List.mem_singleton.1 hi
              refine op_store_cmd rfl rfl rfl _ _ rfl N ⟨0, 0, 0, false, q, [120]⟩ rst0 rfl rfl zc rfl m10_0 ?_
              intro X11 e11 f11 g11
              have t11 := f11 w2.heap.size w2 (by omega) t10
              refine And.intro t11 ?_
              have m11_1 := (g11 (N + 1) (by omega)).trans e10
              have m11_2 := (g11 (N + 2) (by omega)).trans m10_2
              have m11_3 := (g11 (N + 3) (by omega)).trans m10_3
              refine wpAnyH_done (by kernel_rfl) ?_ _
              simp only [Act.put]
              go_wp2
              go_meet
              exact ⟨(N + 3), (N + 2), (N + 1), N, rfl, rfl, rfl, rfl, hideT ⟨t11, by omega, by omega, by omega, by omega, by omega, by omega, by omega, by omega, by omega, by omega, m11_3, m11_2, m11_1, e11⟩⟩
      case rest =>
      obtain ⟨b6, b7, b8, b9, rfl, rfl, rfl, rfl, HFwc⟩ := hcut
      have HAA := hideT (show ∀ V : World, Below w2.heap.size w2 V → V.cell? ⟨na, 0, none⟩ = some (.int .i64 2) ∧ V.cell? ⟨na, 1, none⟩ = some (.int .i64 0) ∧ V.cell? ⟨na, 2, none⟩ = some (.string ⟨#[]⟩) from fun V hV => by
        have h1 : V.heap[na]? = some (.cells #[.int .i64 2, .int .i64 0, .string ⟨#[]⟩] 24 (0, 0)) := (hV.block na (by have := HB1.out.size; have := HYS.out; omega)).trans ((HB1.out.block na HYS.out).trans HYB.out)
        exact ⟨by simp [World.cell?, h1], by simp [World.cell?, h1], by simp [World.cell?, h1]⟩)
      obtain ⟨a0wc, a1wc, a2wc⟩ := HAA.out wc HFwc.out.below
      go_wp2_with (refine store_adr rfl _ _ rfl b6 1 rfl rfl ((cmV ⟨0, 0, 0, false, q, [120]⟩ rst0).take 1) (((cmV ⟨0, 0, 0, false, q, [120]⟩ rst0).drop 1).take 3) ((cmV ⟨0, 0, 0, false, q, [120]⟩ rst0).drop 4) ⟨0, 0, 0, false, q, [120]⟩ ⟨0, 2, 0, false, q, [120]⟩ rfl rfl rfl rfl HFwc.out.k6 ?_)
      intro wd pwd qwd rwd
      have HFwd := hideT (HFwc.out.set6 pwd qwd rwd)
      obtain ⟨a0wd, a1wd, a2wd⟩ := HAA.out wd HFwd.out.below
      clear pwd qwd rwd HFwc a0wc a1wc a2wc
      go_wp2_with (refine store_adr rfl _ _ rfl b6 4 rfl rfl ((cmV ⟨0, 2, 0, false, q, [120]⟩ rst0).take 4) (((cmV ⟨0, 2, 0, false, q, [120]⟩ rst0).drop 4).take 3) ((cmV ⟨0, 2, 0, false, q, [120]⟩ rst0).drop 7) ⟨0, 2, 0, false, q, [120]⟩ ⟨0, 2, 2, false, q, [120]⟩ rfl rfl rfl rfl HFwd.out.k6 ?_)
      intro we pwe qwe rwe
      have HFwe := hideT (HFwd.out.set6 pwe qwe rwe)
      obtain ⟨a0we, a1we, a2we⟩ := HAA.out we HFwe.out.below
      clear pwe qwe rwe HFwd a0wd a1wd a2wd
      go_wp2_with (refine store_adr rfl _ _ rfl b7 1 rfl rfl ((cmV ⟨0, 0, 0, false, q, [120]⟩ rst0).take 1) (((cmV ⟨0, 0, 0, false, q, [120]⟩ rst0).drop 1).take 3) ((cmV ⟨0, 0, 0, false, q, [120]⟩ rst0).drop 4) ⟨0, 0, 0, false, q, [120]⟩ ⟨0, 2, 0, false, q, [120]⟩ rfl rfl rfl rfl HFwe.out.k7 ?_)
      intro wf pwf qwf rwf
      have HFwf := hideT (HFwe.out.set7 pwf qwf rwf)
      obtain ⟨a0wf, a1wf, a2wf⟩ := HAA.out wf HFwf.out.below
      clear pwf qwf rwf HFwe a0we a1we a2we
      go_wp2_with (refine store_adr rfl _ _ rfl b8 4 rfl rfl ((cmV ⟨0, 0, 0, false, q, [120]⟩ rst0).take 4) (((cmV ⟨0, 0, 0, false, q, [120]⟩ rst0).drop 4).take 3) ((cmV ⟨0, 0, 0, false, q, [120]⟩ rst0).drop 7) ⟨0, 0, 0, false, q, [120]⟩ ⟨0, 0, 2, false, q, [120]⟩ rfl rfl rfl rfl HFwf.out.k8 ?_)
      intro wg pwg qwg rwg
      have HFwg := hideT (HFwf.out.set8 pwg qwg rwg)
      obtain ⟨a0wg, a1wg, a2wg⟩ := HAA.out wg HFwg.out.below
      clear pwg qwg rwg HFwf a0wf a1wf a2wf
      have c97 : wg.cell? ⟨b9, 7, none⟩ = some (.bool false) := by have h := range_block HFwg.out.k9 7 _ rfl; simpa using h
      have f97 : wg.frozen? ⟨b9, 7, none⟩ = false := by simp [World.frozen?, HFwg.out.k9]
      go_upto_region 44 with fail
      have HFwh := hideT (HFwg.out.set9 (y := ⟨0, 0, 0, true, q, [120]⟩) (w2 := wg.setCell ⟨b9, 7, none⟩ (.bool true)) (by rw [put_same _ _ _ _ HFwg.out.k9]; rfl) (fun B X hB hX => below_put hX hB _ _) (fun k hk => put_far _ _ _ _ hk))
      obtain ⟨wh, hwh⟩ : ∃ wh, wh = wg.setCell ⟨b9, 7, none⟩ (.bool true) := ⟨_, rfl⟩
      rw [← hwh] at HFwh ⊢
      clear hwh c97 f97 HFwg a0wg a1wg a2wg
      obtain ⟨m0, hm0⟩ : ∃ m0, m0 = mostR q := ⟨_, rfl⟩
      have HM0 := hideT hm0
      rw [← hm0]
      clear hm0
      go_upto_region 46 with fail
      have hwb : Below wh.heap.size wh ((wh.alloc (.cells (cmX (zr [cm 123 0])).toArray 27)).alloc (.cells #[.bool (m0 == 2), .bool (decide (1 ≤ m0)), .bool false, .bool (decide (1 ≤ m0))] 4)) := ((Below.refl _ _).alloc (Nat.le_refl _) _).alloc (by simp) _
      have hwa : ((wh.alloc (.cells (cmX (zr [cm 123 0])).toArray 27)).alloc (.cells #[.bool (m0 == 2), .bool (decide (1 ≤ m0)), .bool false, .bool (decide (1 ≤ m0))] 4)).heap[wh.heap.size]? = some (.cells (cmX (zr [cm 123 0])).toArray 27 (0, 0)) := (Below.heap_alloc _ _ _ (by simp)).trans (heap_alloc_new wh _)
      have hwf : ((wh.alloc (.cells (cmX (zr [cm 123 0])).toArray 27)).alloc (.cells #[.bool (m0 == 2), .bool (decide (1 ≤ m0)), .bool false, .bool (decide (1 ≤ m0))] 4)).heap[wh.heap.size + 1]? = some (.cells #[.bool (m0 == 2), .bool (decide (1 ≤ m0)), .bool false, .bool (decide (1 ≤ m0))] 4 (0, 0)) := by
        have h1 := heap_alloc_new (wh.alloc (.cells (cmX (zr [cm 123 0])).toArray 27)) (.cells #[.bool (m0 == 2), .bool (decide (1 ≤ m0)), .bool false, .bool (decide (1 ≤ m0))] 4)
        rw [World.size_alloc] at h1
        exact h1
      obtain ⟨wi, hwi⟩ : ∃ wi, wi = ((wh.alloc (.cells (cmX (zr [cm 123 0])).toArray 27)).alloc (.cells #[.bool (m0 == 2), .bool (decide (1 ≤ m0)), .bool false, .bool (decide (1 ≤ m0))] 4)) := ⟨_, rfl⟩
      rw [← hwi] at hwb hwa hwf
      have hgoal : ∀ (p q : World → Prop), p wi → (p wi → q wi) → q ((wh.alloc (.cells (cmX (zr [cm 123 0])).toArray 27)).alloc (.cells #[.bool (m0 == 2), .bool (decide (1 ≤ m0)), .bool false, .bool (decide (1 ≤ m0))] 4)) := fun p q h1 h2 => by rw [← hwi]; exact h2 h1
      refine hgoal (fun _ => True) _ trivial (fun _ => ?_)
      clear hgoal
      obtain ⟨nh, hnh⟩ : ∃ nh, nh = wh.heap.size := ⟨_, rfl⟩
      rw [← hnh] at hwa hwf ⊢
      have HFwi := hideT (HFwh.out.step hwb)
      have HWA := hideT hwa
      have HWF := hideT hwf
      have HNH := hideT (show w2.heap.size ≤ nh by rw [hnh]; exact HFwh.out.below.size)
      clear hwb hwa hwf hwi hnh HFwh
      refine wp_region_lit (l := [_, _, _, _, _, _, _]) ?_
      refine load_cmd rfl _ rfl b6 0 rfl ⟨0, 2, 2, false, q, [120]⟩ rst0 (range_block HFwi.out.k6) ?_
      simp only [Act.put, List.setIfInBounds_toArray, List.set_cons_zero, List.set_cons_succ]
      refine load_cmd rfl _ rfl b7 0 rfl ⟨0, 2, 0, false, q, [120]⟩ rst0 (range_block HFwi.out.k7) ?_
      simp only [Act.put, List.setIfInBounds_toArray, List.set_cons_zero, List.set_cons_succ]
      refine load_cmd rfl _ rfl b8 0 rfl ⟨0, 0, 2, false, q, [120]⟩ rst0 (range_block HFwi.out.k8) ?_
      simp only [Act.put, List.setIfInBounds_toArray, List.set_cons_zero, List.set_cons_succ]
      refine load_cmd rfl _ rfl b9 0 rfl ⟨0, 0, 0, true, q, [120]⟩ rst0 (range_block HFwi.out.k9) ?_
      simp only [Act.put, List.setIfInBounds_toArray, List.set_cons_zero, List.set_cons_succ]
      refine wl_value rfl (build4 _ _ _ _ rfl ⟨0, 2, 2, false, q, [120]⟩ ⟨0, 2, 0, false, q, [120]⟩ ⟨0, 0, 2, false, q, [120]⟩ ⟨0, 0, 0, true, q, [120]⟩ rfl rfl rfl rfl) ?_
      simp only [Act.put, List.setIfInBounds_toArray, List.set_cons_zero, List.set_cons_succ]
      have hjb : Below wi.heap.size wi (wi.alloc (.cells (cmX [(⟨0, 2, 2, false, q, [120]⟩, rst0), (⟨0, 2, 0, false, q, [120]⟩, rst0), (⟨0, 0, 2, false, q, [120]⟩, rst0), (⟨0, 0, 0, true, q, [120]⟩, rst0)]).toArray 27)) := (Below.refl _ _).alloc (Nat.le_refl _) _
      have hjk := heap_alloc_new wi (.cells (cmX [(⟨0, 2, 2, false, q, [120]⟩, rst0), (⟨0, 2, 0, false, q, [120]⟩, rst0), (⟨0, 0, 2, false, q, [120]⟩, rst0), (⟨0, 0, 0, true, q, [120]⟩, rst0)]).toArray 27)
      obtain ⟨wj, hwj⟩ : ∃ wj, wj = wi.alloc (.cells (cmX [(⟨0, 2, 2, false, q, [120]⟩, rst0), (⟨0, 2, 0, false, q, [120]⟩, rst0), (⟨0, 0, 2, false, q, [120]⟩, rst0), (⟨0, 0, 0, true, q, [120]⟩, rst0)]).toArray 27) := ⟨_, rfl⟩
      rw [← hwj] at hjb hjk ⊢
      obtain ⟨nj, hnj⟩ : ∃ nj, nj = wi.heap.size := ⟨_, rfl⟩
      rw [← hnj] at hjk ⊢
      have HJB := hideT (HFwi.out.below.trans (hjb.mono HFwi.out.below.size))
      have HJK := hideT hjk
      have HJA := hideT ((hjb.block nh (Array.getElem?_eq_some_iff.1 HWA.out).1).trans HWA.out)
      have HJF := hideT ((hjb.block (nh + 1) (Array.getElem?_eq_some_iff.1 HWF.out).1).trans HWF.out)
      clear hjb hjk hwj hnj HFwi HWA HWF
      go_wp2_with fail
      go_loopw [82] (fun v w' => ∃ j : Nat, j ≤ 4 ∧ v = .int .i64 (j : Nat) ∧ Hid (Below wj.heap.size wj w')) (fun v _ => 4 - (intOf v).toNat)
      case atStart => exact ⟨0, by omega, rfl, hideT (Below.refl _ _)⟩
      case round =>
        obtain ⟨j, hj, rfl, HB⟩ := hrel
        by_cases hlj : j < 4
        · have j1 : (j : Int) < 4 := by omega
          have j2 : (0 : Int) ≤ (j : Int) := by omega
          have hrj := range_block HJK.out
          obtain ⟨x, f, hx, hf, hrg, hcf, hlab⟩ : ∃ x f, (fourR 2 q)[j]? = some x ∧ (fitR q)[j]? = some f ∧ wj.rangeAt nj (j * 19) (cmV x rst0) ∧ wj.cell? ⟨nh + 1, j, none⟩ = some (.bool f) ∧ x.lb.length ≤ 1000000000000000 := by
            have hM : (m0 == 2) = decide (mostR q = 2) := by rw [← HM0.out]; rfl
            have hM1 : decide (1 ≤ m0) = decide (1 ≤ mostR q) := by rw [← HM0.out]
            have hg : ∀ (i : Nat) (c : Cm), (fourR 2 q)[i]? = some c → wj.rangeAt nj (i * 19) (cmV c rst0) := fun i c hc jj v hv => by
              have hj19 : jj < 19 := by rw [← cmV_len c rst0]; exact (List.getElem?_eq_some_iff.1 hv).1
              have := hrj (i * 19 + jj) v (by
                have h2 := cmX_get [(⟨0, 2, 2, false, q, [120]⟩, rst0), (⟨0, 2, 0, false, q, [120]⟩, rst0), (⟨0, 0, 2, false, q, [120]⟩, rst0), (⟨0, 0, 0, true, q, [120]⟩, rst0)] i jj (c, rst0) (by
                  have h3 : (((fourR 2 q).map fun c => (c, rst0)))[i]? = some (c, rst0) := by rw [List.getElem?_map, hc]; rfl
                  exact h3) hj19
                rw [h2]
                exact hv)
              rw [Nat.zero_add] at this
              exact this
            have hc : ∀ (i : Nat) (b : Bool), ([m0 == 2, decide (1 ≤ m0), false, decide (1 ≤ m0)] : List Bool)[i]? = some b → wj.cell? ⟨nh + 1, i, none⟩ = some (.bool b) := fun i b hb => by
              simp only [World.cell?, HJF.out]
              have : (([m0 == 2, decide (1 ≤ m0), false, decide (1 ≤ m0)] : List Bool).map Value.bool)[i]? = some (.bool b) := by rw [List.getElem?_map, hb]; rfl
              simpa using this
            rcases (show j = 0 ∨ j = 1 ∨ j = 2 ∨ j = 3 by omega) with rfl | rfl | rfl | rfl
            · exact ⟨_, _, rfl, rfl, hg 0 _ rfl, by rw [← hM]; exact hc 0 _ rfl, by simp⟩
            · exact ⟨_, _, rfl, rfl, hg 1 _ rfl, by rw [← hM1]; exact hc 1 _ rfl, by simp⟩
            · exact ⟨_, _, rfl, rfl, hg 2 _ rfl, hc 2 _ rfl, by simp⟩
            · exact ⟨_, _, rfl, rfl, hg 3 _ rfl, by rw [← hM1]; exact hc 3 _ rfl, by simp⟩
          have HOK := hideT (four_ok HQ.out j x f hx hf)
          have HLAB := hideT hlab
          have HCF := hideT (keep_cell HB.out hcf)
          have HRW := hideT (range_keep hrg (HB.out.block nj (Array.getElem?_eq_some_iff.1 HJK.out).1))
          have HAR := hideT (range_keep (range_block (cs := cmV (cm 123 0) rst0) HJA.out) (HB.out.block nh (Array.getElem?_eq_some_iff.1 HJA.out).1))
          clear hx hf hrg hcf hlab hrj
          go_upto_region 48 with fail
          go_wp2_with (first | (refine load_cmd rfl _ rfl nj (j * 19) rfl x rst0 HRW.out ?_) | (refine store_cmd rfl _ _ rfl wr.heap.size x rst0 rfl rfl zc rfl (heap_alloc_new wr _) ?_))
          intro wk hblk hbel hfar
          have hbk := hbel wj.heap.size wj HB.out.size ((HB.out).alloc HB.out.size _)
          have hbk2 := hbel wr.heap.size wr (Nat.le_refl _) ((Below.refl _ wr).alloc (Nat.le_refl _) _)
          obtain ⟨nd, hnd⟩ : ∃ nd, nd = wr.heap.size := ⟨_, rfl⟩
          rw [← hnd] at hblk ⊢
          have HKB := hideT hbk
          have HKK := hideT hblk
          have HKF := hideT (keep_cell hbk2 HCF.out)
          have HKA := hideT (range_keep HAR.out (hbk2.block nh (range_lt HAR.out)))
          clear hblk hbel hfar hbk hbk2 hnd HCF HRW HAR
          go_wp2_with fail
          obtain ⟨E, hE⟩ : ∃ E, E = (chkR [cm 123 0, x]).1 := ⟨_, rfl⟩
          obtain ⟨pp, hpp⟩ : ∃ pp, pp = (chkR [cm 123 0, x]).2 := ⟨_, rfl⟩
          have HCH := hideT (fun (V : World) (v : Value) (h : CRow V v [cm 123 0, x]) => show Calls Try.prog 7 #[v] V fun en w' => en = .returned (.agg #[.int .i64 (E : Nat), .int .i64 pp]) ∧ Below V.heap.size V w' from by rw [hE, hpp]; exact check_any h (by simp))
          rw [← hE] at HOK
          clear hE hpp
          go_cut [14] from 87 to 92 (fun s14 w' => ∃ nr, s14 = .pointer (some ⟨nr, 0, none⟩) ∧ Hid (Below wk.heap.size wk w' ∧ w'.heap[nr]? = some (.cells #[.int .i64 (E : Nat), .int .i64 pp] 30 (0, 0))))
          case first =>
            have s0 : Below wk.heap.size wk wk.drew := (Below.refl _ _).drew
            have HRG := hideT (fun (V : World) (hV : Below wk.heap.size wk V) => range_block (cs := cmV x rst0) ((hV.block nd (Array.getElem?_eq_some_iff.1 HKK.out).1).trans HKK.out))
            have HRA := hideT (fun (V : World) (hV : Below wk.heap.size wk V) => range_keep HKA.out (hV.block nh (range_lt HKA.out)))
            refine wp_region_held (S := fun V => Below wk.heap.size wk V) (by kernel_rfl) ?_
            refine' take_d 0 (some 87) rfl rfl (by kernel_rfl) (by kernel_rfl) (by kernel_rfl) (fun _ _ _ h => h) (wanted_none rfl _) s0 ?tk5 ?rs5
            case tk5 => intro V hV; go_simp; (try with_reducible rfl)
            refine' take_d 1 (some 88) rfl rfl (by kernel_rfl) (by kernel_rfl) (by kernel_rfl) (fun _ _ _ h => h) (wanted_none rfl _) s0 ?tk6 ?rs6
            case tk6 => intro V hV; go_simp; (try with_reducible rfl)
            simp only [Act.put, List.setIfInBounds_toArray, List.set_cons_zero, List.set_cons_succ]
            refine' take_d 2 (some 89) rfl rfl (by kernel_rfl) (by kernel_rfl) (by kernel_rfl) (fun _ _ _ h => h) (wanted_none rfl _) s0 ?tk7 ?rs7
            case tk7 => intro V hV; exact load_yield rfl rfl (HRG.out V hV)
            refine wpAnyH_all (rs := [3, 6]) (by kernel_rfl) (by simp) (fun i hi => ?_)
            simp only [List.mem_cons, List.not_mem_nil, or_false] at hi
            rcases hi with rfl | rfl
            · obtain ⟨U1, hU1⟩ : ∃ V, V = World.alloc wk.drew (.cells (cmV x rst0).toArray 27) := ⟨_, rfl⟩
              obtain ⟨nU1, hnU1⟩ : ∃ n : Nat, n = wk.drew.heap.size := ⟨_, rfl⟩
              have zU1 : wk.heap.size ≤ nU1 := by rw [hnU1]; exact s0.size
              have bU1 : Below wk.heap.size wk U1 := by rw [hU1]; exact s0.alloc (by rw [← hnU1]; exact zU1) _
              have cU1 : Below wk.drew.heap.size wk.drew U1 := by rw [hU1]; exact (Below.refl _ _).alloc (Nat.le_refl _) _
              have kU1 : U1.heap[nU1]? = some (.cells (cmV x rst0).toArray 27 (0, 0)) := by rw [hU1, hnU1]; exact heap_alloc_new wk.drew _
              refine op_value (some 90) (w' := U1) (v := .slice (some ⟨nU1, 0, none⟩) 1 1) rfl rfl (wanted_none rfl _) (by rw [hU1, hnU1]; exact build1 _ rfl x rfl) ?_
              clear hU1 hnU1
              refine And.intro bU1 ?_
              simp only [Act.put, List.setIfInBounds_toArray, List.set_cons_zero, List.set_cons_succ]
              refine wpAnyH_all (rs := [4, 6]) (by kernel_rfl) (by simp) (fun i hi => ?_)
              simp only [List.mem_cons, List.not_mem_nil, or_false] at hi
              rcases hi with rfl | rfl
              · obtain ⟨ng, hng⟩ : ∃ n : Nat, n = U1.heap.size := ⟨_, rfl⟩
                refine op_grow (some 91) rfl rfl rfl _ _ rfl nh nU1 rfl rfl (cm 123 0) x (by simp [cm]) HLAB.out (HRA.out _ bU1) (range_block kU1) ng hng.symm ?_
                intro capU2 U2 cU2 rowU2
                have bU2 : Below wk.heap.size wk U2 := bU1.trans (cU2.mono bU1.size)
                refine And.intro bU2 ?_
                have kbU2 := (cU2.block _ (Array.getElem?_eq_some_iff.1 kU1).1).trans kU1
                simp only [Act.put, List.setIfInBounds_toArray, List.set_cons_zero, List.set_cons_succ]
                refine wpAnyH_all (rs := [5, 6]) (by kernel_rfl) (by simp) (fun i hi => ?_)
                simp only [List.mem_cons, List.not_mem_nil, or_false] at hi
                rcases hi with rfl | rfl
                · refine op_call (some 92) rfl rfl (wanted_none rfl _) (by go_simp; (try with_reducible rfl)) (R := fun v w' => v = .agg #[.int .i64 (E : Nat), .int .i64 pp] ∧ Below U2.heap.size U2 w') ((HCH.out U2 (.slice (some ⟨ng, 0, none⟩) 2 capU2) rowU2).mono (fun en w' h => ⟨_, h.1, rfl, h.2⟩)) ?_
                  rintro vU3 U3 ⟨rfl, cU3⟩
                  have bU3 : Below wk.heap.size wk U3 := bU2.trans (cU3.mono bU2.size)
                  refine And.intro bU3 ?_
                  have kbU3 := (cU3.block _ (Array.getElem?_eq_some_iff.1 kbU2).1).trans kbU2
                  have rwU3 := rowU2.step cU3
                  simp only [Act.put, List.setIfInBounds_toArray, List.set_cons_zero, List.set_cons_succ]
                  refine wpAnyH_all (rs := [6]) (by kernel_rfl) (by simp) (fun i hi => ?_)
                  obtain rfl : i = 6 := List.mem_singleton.1 hi
                  obtain ⟨U4, hU4⟩ : ∃ V, V = World.alloc U3 (.cells #[.int .i64 0, .int .i64 0] 30) := ⟨_, rfl⟩
                  obtain ⟨nU4, hnU4⟩ : ∃ n : Nat, n = U3.heap.size := ⟨_, rfl⟩
                  have zU4 : wk.heap.size ≤ nU4 := by rw [hnU4]; exact bU3.size
                  have bU4 : Below wk.heap.size wk U4 := by rw [hU4]; exact bU3.alloc (by rw [← hnU4]; exact zU4) _
                  have cU4 : Below U3.heap.size U3 U4 := by rw [hU4]; exact (Below.refl _ _).alloc (Nat.le_refl _) _
                  have kU4 : U4.heap[nU4]? = some (.cells #[.int .i64 0, .int .i64 0] 30 (0, 0)) := by rw [hU4, hnU4]; exact heap_alloc_new U3 _
                  refine op_value (some 14) (w' := U4) (v := .pointer (some ⟨nU4, 0, none⟩)) rfl rfl (wanted_none rfl _) (by rw [hU4, hnU4]; exact allocF rfl) ?_
                  clear hU4 hnU4
                  refine And.intro bU4 ?_
                  have kbU4 := (cU4.block _ (Array.getElem?_eq_some_iff.1 kbU3).1).trans kbU3
                  have rwU4 := rwU3.step cU4
                  simp only [Act.put, List.setIfInBounds_toArray, List.set_cons_zero, List.set_cons_succ]
                  refine wpAnyH_all (rs := [7]) (by kernel_rfl) (by simp) (fun i hi => ?_)
                  obtain rfl : i = 7 := List.mem_singleton.1 hi
                  have r0 : U4.cell? ⟨nU4, 0, none⟩ = some (.int .i64 0) := by simp [World.cell?, kU4]
                  have r1 : U4.cell? ⟨nU4, 1, none⟩ = some (.int .i64 0) := by simp [World.cell?, kU4]
                  have q0 : U4.frozen? ⟨nU4, 0, none⟩ = false := by simp [World.frozen?, kU4]
                  have q1 : U4.frozen? ⟨nU4, 1, none⟩ = false := by simp [World.frozen?, kU4]
                  refine op_skip (w' := (U4.setCell ⟨nU4, 0, none⟩ (.int .i64 (E : Nat))).setCell ⟨nU4, 1, none⟩ (.int .i64 pp)) rfl rfl (wanted_none rfl _) (by go_simp; (try with_reducible rfl)) ?_
                  have tb := below_put (below_put bU4 zU4 0 (.int .i64 (E : Nat))) zU4 1 (.int .i64 pp)
                  refine And.intro tb ?_
                  refine wpAnyH_done (by kernel_rfl) ?_ _
                  simp only [Act.put]
                  have tk := put_same _ _ 1 (.int .i64 pp) (put_same _ _ 0 (.int .i64 (E : Nat)) kU4)
                  go_wp2
                  go_meet
                  exact ⟨nU4, rfl, hideT ⟨tb, tk⟩⟩
                · obtain ⟨U6, hU6⟩ : ∃ V, V = World.alloc U2 (.cells #[.int .i64 0, .int .i64 0] 30) := ⟨_, rfl⟩
                  obtain ⟨nU6, hnU6⟩ : ∃ n : Nat, n = U2.heap.size := ⟨_, rfl⟩
                  have zU6 : wk.heap.size ≤ nU6 := by rw [hnU6]; exact bU2.size
                  have bU6 : Below wk.heap.size wk U6 := by rw [hU6]; exact bU2.alloc (by rw [← hnU6]; exact zU6) _
                  have cU6 : Below U2.heap.size U2 U6 := by rw [hU6]; exact (Below.refl _ _).alloc (Nat.le_refl _) _
                  have kU6 : U6.heap[nU6]? = some (.cells #[.int .i64 0, .int .i64 0] 30 (0, 0)) := by rw [hU6, hnU6]; exact heap_alloc_new U2 _
                  refine op_value (some 14) (w' := U6) (v := .pointer (some ⟨nU6, 0, none⟩)) rfl rfl (wanted_none rfl _) (by rw [hU6, hnU6]; exact allocF rfl) ?_
                  clear hU6 hnU6
                  refine And.intro bU6 ?_
                  have kbU6 := (cU6.block _ (Array.getElem?_eq_some_iff.1 kbU2).1).trans kbU2
                  have rwU6 := rowU2.step cU6
                  simp only [Act.put, List.setIfInBounds_toArray, List.set_cons_zero, List.set_cons_succ]
                  refine wpAnyH_all (rs := [5]) (by kernel_rfl) (by simp) (fun i hi => ?_)
                  obtain rfl : i = 5 := List.mem_singleton.1 hi
                  refine op_call (some 92) rfl rfl (wanted_none rfl _) (by go_simp; (try with_reducible rfl)) (R := fun v w' => v = .agg #[.int .i64 (E : Nat), .int .i64 pp] ∧ Below U6.heap.size U6 w') ((HCH.out U6 (.slice (some ⟨ng, 0, none⟩) 2 capU2) rwU6).mono (fun en w' h => ⟨_, h.1, rfl, h.2⟩)) ?_
                  rintro vU7 U7 ⟨rfl, cU7⟩
                  have bU7 : Below wk.heap.size wk U7 := bU6.trans (cU7.mono bU6.size)
                  refine And.intro bU7 ?_
                  have kbU7 := (cU7.block _ (Array.getElem?_eq_some_iff.1 kbU6).1).trans kbU6
                  have krU7 := (cU7.block _ (Array.getElem?_eq_some_iff.1 kU6).1).trans kU6
                  have rwU7 := rwU6.step cU7
                  simp only [Act.put, List.setIfInBounds_toArray, List.set_cons_zero, List.set_cons_succ]
                  refine wpAnyH_all (rs := [7]) (by kernel_rfl) (by simp) (fun i hi => ?_)
                  obtain rfl : i = 7 := List.mem_singleton.1 hi
                  have r0 : U7.cell? ⟨nU6, 0, none⟩ = some (.int .i64 0) := by simp [World.cell?, krU7]
                  have r1 : U7.cell? ⟨nU6, 1, none⟩ = some (.int .i64 0) := by simp [World.cell?, krU7]
                  have q0 : U7.frozen? ⟨nU6, 0, none⟩ = false := by simp [World.frozen?, krU7]
                  have q1 : U7.frozen? ⟨nU6, 1, none⟩ = false := by simp [World.frozen?, krU7]
                  refine op_skip (w' := (U7.setCell ⟨nU6, 0, none⟩ (.int .i64 (E : Nat))).setCell ⟨nU6, 1, none⟩ (.int .i64 pp)) rfl rfl (wanted_none rfl _) (by go_simp; (try with_reducible rfl)) ?_
                  have tb := below_put (below_put bU7 zU6 0 (.int .i64 (E : Nat))) zU6 1 (.int .i64 pp)
                  refine And.intro tb ?_
                  refine wpAnyH_done (by kernel_rfl) ?_ _
                  simp only [Act.put]
                  have tk := put_same _ _ 1 (.int .i64 pp) (put_same _ _ 0 (.int .i64 (E : Nat)) krU7)
                  go_wp2
                  go_meet
                  exact ⟨nU6, rfl, hideT ⟨tb, tk⟩⟩
              · obtain ⟨U9, hU9⟩ : ∃ V, V = World.alloc U1 (.cells #[.int .i64 0, .int .i64 0] 30) := ⟨_, rfl⟩
                obtain ⟨nU9, hnU9⟩ : ∃ n : Nat, n = U1.heap.size := ⟨_, rfl⟩
                have zU9 : wk.heap.size ≤ nU9 := by rw [hnU9]; exact bU1.size
                have bU9 : Below wk.heap.size wk U9 := by rw [hU9]; exact bU1.alloc (by rw [← hnU9]; exact zU9) _
                have cU9 : Below U1.heap.size U1 U9 := by rw [hU9]; exact (Below.refl _ _).alloc (Nat.le_refl _) _
                have kU9 : U9.heap[nU9]? = some (.cells #[.int .i64 0, .int .i64 0] 30 (0, 0)) := by rw [hU9, hnU9]; exact heap_alloc_new U1 _
                refine op_value (some 14) (w' := U9) (v := .pointer (some ⟨nU9, 0, none⟩)) rfl rfl (wanted_none rfl _) (by rw [hU9, hnU9]; exact allocF rfl) ?_
                clear hU9 hnU9
                refine And.intro bU9 ?_
                have kbU9 := (cU9.block _ (Array.getElem?_eq_some_iff.1 kU1).1).trans kU1
                simp only [Act.put, List.setIfInBounds_toArray, List.set_cons_zero, List.set_cons_succ]
                refine wpAnyH_all (rs := [4]) (by kernel_rfl) (by simp) (fun i hi => ?_)
                obtain rfl : i = 4 := List.mem_singleton.1 hi
                obtain ⟨ng, hng⟩ : ∃ n : Nat, n = U9.heap.size := ⟨_, rfl⟩
                refine op_grow (some 91) rfl rfl rfl _ _ rfl nh nU1 rfl rfl (cm 123 0) x (by simp [cm]) HLAB.out (HRA.out _ bU9) (range_block kbU9) ng hng.symm ?_
                intro capU10 U10 cU10 rowU10
                have bU10 : Below wk.heap.size wk U10 := bU9.trans (cU10.mono bU9.size)
                refine And.intro bU10 ?_
                have kbU10 := (cU10.block _ (Array.getElem?_eq_some_iff.1 kbU9).1).trans kbU9
                have krU10 := (cU10.block _ (Array.getElem?_eq_some_iff.1 kU9).1).trans kU9
                simp only [Act.put, List.setIfInBounds_toArray, List.set_cons_zero, List.set_cons_succ]
                refine wpAnyH_all (rs := [5]) (by kernel_rfl) (by simp) (fun i hi => ?_)
                obtain rfl : i = 5 := List.mem_singleton.1 hi
                refine op_call (some 92) rfl rfl (wanted_none rfl _) (by go_simp; (try with_reducible rfl)) (R := fun v w' => v = .agg #[.int .i64 (E : Nat), .int .i64 pp] ∧ Below U10.heap.size U10 w') ((HCH.out U10 (.slice (some ⟨ng, 0, none⟩) 2 capU10) rowU10).mono (fun en w' h => ⟨_, h.1, rfl, h.2⟩)) ?_
                rintro vU11 U11 ⟨rfl, cU11⟩
                have bU11 : Below wk.heap.size wk U11 := bU10.trans (cU11.mono bU10.size)
                refine And.intro bU11 ?_
                have kbU11 := (cU11.block _ (Array.getElem?_eq_some_iff.1 kbU10).1).trans kbU10
                have krU11 := (cU11.block _ (Array.getElem?_eq_some_iff.1 krU10).1).trans krU10
                have rwU11 := rowU10.step cU11
                simp only [Act.put, List.setIfInBounds_toArray, List.set_cons_zero, List.set_cons_succ]
                refine wpAnyH_all (rs := [7]) (by kernel_rfl) (by simp) (fun i hi => ?_)
                obtain rfl : i = 7 := List.mem_singleton.1 hi
                have r0 : U11.cell? ⟨nU9, 0, none⟩ = some (.int .i64 0) := by simp [World.cell?, krU11]
                have r1 : U11.cell? ⟨nU9, 1, none⟩ = some (.int .i64 0) := by simp [World.cell?, krU11]
                have q0 : U11.frozen? ⟨nU9, 0, none⟩ = false := by simp [World.frozen?, krU11]
                have q1 : U11.frozen? ⟨nU9, 1, none⟩ = false := by simp [World.frozen?, krU11]
                refine op_skip (w' := (U11.setCell ⟨nU9, 0, none⟩ (.int .i64 (E : Nat))).setCell ⟨nU9, 1, none⟩ (.int .i64 pp)) rfl rfl (wanted_none rfl _) (by go_simp; (try with_reducible rfl)) ?_
                have tb := below_put (below_put bU11 zU9 0 (.int .i64 (E : Nat))) zU9 1 (.int .i64 pp)
                refine And.intro tb ?_
                refine wpAnyH_done (by kernel_rfl) ?_ _
                simp only [Act.put]
                have tk := put_same _ _ 1 (.int .i64 pp) (put_same _ _ 0 (.int .i64 (E : Nat)) krU11)
                go_wp2
                go_meet
                exact ⟨nU9, rfl, hideT ⟨tb, tk⟩⟩
            · obtain ⟨U13, hU13⟩ : ∃ V, V = World.alloc wk.drew (.cells #[.int .i64 0, .int .i64 0] 30) := ⟨_, rfl⟩
              obtain ⟨nU13, hnU13⟩ : ∃ n : Nat, n = wk.drew.heap.size := ⟨_, rfl⟩
              have zU13 : wk.heap.size ≤ nU13 := by rw [hnU13]; exact s0.size
              have bU13 : Below wk.heap.size wk U13 := by rw [hU13]; exact s0.alloc (by rw [← hnU13]; exact zU13) _
              have cU13 : Below wk.drew.heap.size wk.drew U13 := by rw [hU13]; exact (Below.refl _ _).alloc (Nat.le_refl _) _
              have kU13 : U13.heap[nU13]? = some (.cells #[.int .i64 0, .int .i64 0] 30 (0, 0)) := by rw [hU13, hnU13]; exact heap_alloc_new wk.drew _
              refine op_value (some 14) (w' := U13) (v := .pointer (some ⟨nU13, 0, none⟩)) rfl rfl (wanted_none rfl _) (by rw [hU13, hnU13]; exact allocF rfl) ?_
              clear hU13 hnU13
              refine And.intro bU13 ?_
              simp only [Act.put, List.setIfInBounds_toArray, List.set_cons_zero, List.set_cons_succ]
              refine wpAnyH_all (rs := [3]) (by kernel_rfl) (by simp) (fun i hi => ?_)
              obtain rfl : i = 3 := List.mem_singleton.1 hi
              obtain ⟨U14, hU14⟩ : ∃ V, V = World.alloc U13 (.cells (cmV x rst0).toArray 27) := ⟨_, rfl⟩
              obtain ⟨nU14, hnU14⟩ : ∃ n : Nat, n = U13.heap.size := ⟨_, rfl⟩
              have zU14 : wk.heap.size ≤ nU14 := by rw [hnU14]; exact bU13.size
              have bU14 : Below wk.heap.size wk U14 := by rw [hU14]; exact bU13.alloc (by rw [← hnU14]; exact zU14) _
              have cU14 : Below U13.heap.size U13 U14 := by rw [hU14]; exact (Below.refl _ _).alloc (Nat.le_refl _) _
              have kU14 : U14.heap[nU14]? = some (.cells (cmV x rst0).toArray 27 (0, 0)) := by rw [hU14, hnU14]; exact heap_alloc_new U13 _
              refine op_value (some 90) (w' := U14) (v := .slice (some ⟨nU14, 0, none⟩) 1 1) rfl rfl (wanted_none rfl _) (by rw [hU14, hnU14]; exact build1 _ rfl x rfl) ?_
              clear hU14 hnU14
              refine And.intro bU14 ?_
              have krU14 := (cU14.block _ (Array.getElem?_eq_some_iff.1 kU13).1).trans kU13
              simp only [Act.put, List.setIfInBounds_toArray, List.set_cons_zero, List.set_cons_succ]
              refine wpAnyH_all (rs := [4]) (by kernel_rfl) (by simp) (fun i hi => ?_)
              obtain rfl : i = 4 := List.mem_singleton.1 hi
              obtain ⟨ng, hng⟩ : ∃ n : Nat, n = U14.heap.size := ⟨_, rfl⟩
              refine op_grow (some 91) rfl rfl rfl _ _ rfl nh nU14 rfl rfl (cm 123 0) x (by simp [cm]) HLAB.out (HRA.out _ bU14) (range_block kU14) ng hng.symm ?_
              intro capU15 U15 cU15 rowU15
              have bU15 : Below wk.heap.size wk U15 := bU14.trans (cU15.mono bU14.size)
              refine And.intro bU15 ?_
              have kbU15 := (cU15.block _ (Array.getElem?_eq_some_iff.1 kU14).1).trans kU14
              have krU15 := (cU15.block _ (Array.getElem?_eq_some_iff.1 krU14).1).trans krU14
              simp only [Act.put, List.setIfInBounds_toArray, List.set_cons_zero, List.set_cons_succ]
              refine wpAnyH_all (rs := [5]) (by kernel_rfl) (by simp) (fun i hi => ?_)
              obtain rfl : i = 5 := List.mem_singleton.1 hi
              refine op_call (some 92) rfl rfl (wanted_none rfl _) (by go_simp; (try with_reducible rfl)) (R := fun v w' => v = .agg #[.int .i64 (E : Nat), .int .i64 pp] ∧ Below U15.heap.size U15 w') ((HCH.out U15 (.slice (some ⟨ng, 0, none⟩) 2 capU15) rowU15).mono (fun en w' h => ⟨_, h.1, rfl, h.2⟩)) ?_
              rintro vU16 U16 ⟨rfl, cU16⟩
              have bU16 : Below wk.heap.size wk U16 := bU15.trans (cU16.mono bU15.size)
              refine And.intro bU16 ?_
              have kbU16 := (cU16.block _ (Array.getElem?_eq_some_iff.1 kbU15).1).trans kbU15
              have krU16 := (cU16.block _ (Array.getElem?_eq_some_iff.1 krU15).1).trans krU15
              have rwU16 := rowU15.step cU16
              simp only [Act.put, List.setIfInBounds_toArray, List.set_cons_zero, List.set_cons_succ]
              refine wpAnyH_all (rs := [7]) (by kernel_rfl) (by simp) (fun i hi => ?_)
              obtain rfl : i = 7 := List.mem_singleton.1 hi
              have r0 : U16.cell? ⟨nU13, 0, none⟩ = some (.int .i64 0) := by simp [World.cell?, krU16]
              have r1 : U16.cell? ⟨nU13, 1, none⟩ = some (.int .i64 0) := by simp [World.cell?, krU16]
              have q0 : U16.frozen? ⟨nU13, 0, none⟩ = false := by simp [World.frozen?, krU16]
              have q1 : U16.frozen? ⟨nU13, 1, none⟩ = false := by simp [World.frozen?, krU16]
              refine op_skip (w' := (U16.setCell ⟨nU13, 0, none⟩ (.int .i64 (E : Nat))).setCell ⟨nU13, 1, none⟩ (.int .i64 pp)) rfl rfl (wanted_none rfl _) (by go_simp; (try with_reducible rfl)) ?_
              have tb := below_put (below_put bU16 zU13 0 (.int .i64 (E : Nat))) zU13 1 (.int .i64 pp)
              refine And.intro tb ?_
              refine wpAnyH_done (by kernel_rfl) ?_ _
              simp only [Act.put]
              have tk := put_same _ _ 1 (.int .i64 pp) (put_same _ _ 0 (.int .i64 (E : Nat)) krU16)
              go_wp2
              go_meet
              exact ⟨nU13, rfl, hideT ⟨tb, tk⟩⟩
          case rest =>
          obtain ⟨nr, rfl, HRES⟩ := hcut
          have r0 : wc.cell? ⟨nr, 0, none⟩ = some (.int .i64 (E : Nat)) := by simp [World.cell?, HRES.out.2]
          have r1 : wc.cell? ⟨nr, 1, none⟩ = some (.int .i64 pp) := by simp [World.cell?, HRES.out.2]
          have cf := keep_cell HRES.out.1 HKF.out
          have HWF := hideT (HKB.out.trans (HRES.out.1.mono HKB.out.size))
          have hok := HOK.out
          have hm0 := HM0.out
          rw [← hm0] at hok
          clear HRES HKF HKK HKA HCH hm0 HKB HOK
          by_cases e17 : E = 17
          · subst e17
            have hf : f = false := by have := hok.1; cases f <;> simp_all
            have n1 : (m0 < 0) = False := by have := hok.2; rw [eq_iff_iff, iff_false]; intro h; simp [h] at this
            subst hf
            clear hok
            go_wp2
            exact ⟨⟨j + 1, by omega, by go_num, HWF⟩, by simp [intOf]; omega⟩
          · by_cases e18 : E = 18
            · subst e18
              have hf : f = false := by have := hok.1; cases f <;> simp_all
              have n1 : m0 < 0 := by have := hok.2; simpa using this
              subst hf
              clear hok e17
              go_wp2
              exact ⟨⟨j + 1, by omega, by go_num, HWF⟩, by simp [intOf]; omega⟩
            · have hf : f = true := by have := hok.1; cases f <;> simp_all
              have n1 : (m0 < 0) = False := by have := hok.2; rw [eq_iff_iff, iff_false]; intro h; simp [h, e18] at this
              have q17 : ((E : Int) == 17) = false := by rw [beq_eq_false_iff_ne]; omega
              have q18 : ((E : Int) == 18) = false := by rw [beq_eq_false_iff_ne]; omega
              subst hf
              clear hok e17 e18
              go_wp2
              exact ⟨⟨j + 1, by omega, by go_num, HWF⟩, by simp [intOf]; omega⟩
        · obtain rfl : j = 4 := by omega
          have HWF := hideT ((show Below Y.heap.size Y wr from HB1.out.trans ((HJB.out.trans (HB.out.mono HJB.out.size)).mono HB1.out.size)))
          clear HB HJB HJK HJA HJF HAA HC1
          go_wp2
          exact ⟨⟨q.toNat + 1, by omega, by go_num, HWF⟩, by simp [intOf]; omega⟩
    · obtain rfl : k = 256 := by omega
      have HWF := hideT (show Below W.heap.size W wr from HY.out.trans (HB.out.mono (Nat.le_of_lt (by rw [← HNA.out]; exact HYS.out))))
      go_wp2_with fail
      refine (awake_any wr).mono ?_
      rintro e w5 ⟨rfl, hb5⟩
      have HF := hideT (HWF.out.trans (hb5.mono HWF.out.size))
      clear hb5
      go_wp2
      go_ret
      exact ⟨rfl, HF.out⟩
end Go.Proofs.Ytdlceppiblodmaa
