/- WaysRuns: the walk. -/
import Derived.Test.YtolpakpdkheanaaKTj
set_option maxRecDepth 100000
set_option maxHeartbeats 1500000
namespace Go.Proofs.Ytolpakpdkheanaa.tly
open Go.RowKit Go.Proofs.Ytolpakpdkheanaa.br
theorem awake_w (W : World) (hg : Glob W) : Calls Try.prog 9 #[] W fun e w' => e = .returned (.bool true) ∧ Below W.heap.size W w' := by
 have hA := count_any ⟨#[92, 40, 97, 42, 92, 41, 42]⟩ ⟨#[97, 97, 97]⟩ (by decide) (by decide) 0 W hg
 rw [show countR ⟨#[92, 40, 97, 42, 92, 41, 42]⟩ ⟨#[97, 97, 97]⟩ 0 = (8, 0) by
  rw [show (0 : Int) = ((0 : Nat) : Int) from rfl, countR_ok p1_p (by decide) (Nat.zero_le _)]
  rw [show bnS ⟨#[97, 97, 97]⟩ = [97, 97, 97] from rfl, aw1_c]; rfl] at hA
 have hB : ∀ V : World, Glob V → Calls Try.prog 10 #[.string ⟨#[92, 40, 97, 42, 92, 41, 92, 49]⟩, .string ⟨#[97, 97]⟩, .int .i64 0] V fun e W' => e = .returned (.tuple #[.int .i64 6, .int .i64 0]) ∧ Below V.heap.size V W' := fun V hV => by
  have h := count_any ⟨#[92, 40, 97, 42, 92, 41, 92, 49]⟩ ⟨#[97, 97]⟩ (by decide) (by decide) 0 V hV
  rwa [show countR ⟨#[92, 40, 97, 42, 92, 41, 92, 49]⟩ ⟨#[97, 97]⟩ 0 = (6, 0) by
   rw [show (0 : Int) = ((0 : Nat) : Int) from rfl, countR_ok p4_p (by decide) (Nat.zero_le _)]
   rw [show bnS ⟨#[97, 97]⟩ = [97, 97] from rfl, aw2_c]; rfl] at h
 have HB := hideT hB
 have HG := hideT hg
 clear hB hg
 go_enter Try.func9, Try.ntmps9
 go_wp2_with fail
 refine hA.mono ?_
 rintro e w1 ⟨rfl, hb1⟩
 have hB2 := HB.out w1 (HG.out.below hb1 (Nat.le_refl _))
 have H1 := hideT hb1
 clear hb1 hA HB
 go_wp2_with fail
 refine hB2.mono ?_
 rintro e w2 ⟨rfl, hb2⟩
 have H2 := hideT (H1.out.trans (hb2.mono H1.out.size))
 clear hb2 hB2 H1
 go_wp2
 go_ret
 exact ⟨rfl, H2.out⟩
theorem run_ct {text : ByteArray} {ts : List Tr} (hp : parseT text = .ok ts) (hz : text.size ≤ 1073741824) {k : Nat} (hk : k < 40) {r : Nat} (hr : countT (catT ts) (List.replicate k 97) 0 = r) (V : World) (hV : Glob V) : Calls Try.prog 10 #[.string text, .string (repB 97 k), .int .i64 0] V fun e W' => e = .returned (.tuple #[.int .i64 (r : Nat), .int .i64 0]) ∧ Below V.heap.size V W' := by
 have h := count_any text (repB 97 k) hz (by rw [repB_size]; omega) 0 V hV
 rwa [show countR text (repB 97 k) 0 = ((r : Int), 0) by
  rw [show (0 : Int) = ((0 : Nat) : Int) from rfl, countR_ok hp (by rw [repB_size]; omega) (Nat.zero_le _), repB_nums]
  rw [show (97 : UInt8).toNat = 97 from rfl, hr]; rfl] at h
theorem walk_runs (a0 : Int) (w0 : (Lit.int .u8 a0).wf = true) (W : World) (hg : Glob W) : Calls Try.prog 3 #[.int .u8 a0] W fun e w' => e = .returned (.bool true) ∧ Below W.heap.size W w' := by
 obtain ⟨b0, b1⟩ : 0 ≤ a0 ∧ a0 ≤ 255 := bounds_u8 w0
 obtain ⟨n, rfl⟩ := Int.eq_ofNat_of_zero_le b0
 have HA := hideT (awake_w W hg)
 have HG := hideT hg
 clear hg w0 b0 b1
 go_enter Try.func3, Try.ntmps3
 go_wp2_with fail
 refine HA.out.mono ?_
 rintro e W1 ⟨rfl, hB1⟩
 have HB := hideT hB1
 have HG1 := hideT (HG.out.below hB1 (Nat.le_refl _))
 clear hB1 HA HG
 go_wp2_with fail
 obtain ⟨a, ha, ha4⟩ : ∃ a : Nat, (n : Int) % 40 = (a : Int) ∧ a < 40 := ⟨n % 40, rfl, Nat.mod_lt _ (by omega)⟩
 rw [ha]
 have HN := hideT ha4
 clear ha ha4
 have e0 : (⟨#[]⟩ : ByteArray) = repB 97 0 := rfl
 go_loopw [4, 17] (fun sv iv wr => ∃ k : Nat, k ≤ a ∧ sv = .string (repB 97 k) ∧ iv = .int .i64 (k : Nat) ∧ Hid (wr = W1)) (fun _ iv _ => (a - intOf iv).toNat)
 case atStart => exact ⟨0, by omega, rfl, rfl, hideT rfl⟩
 case round =>
  obtain ⟨k, hk, rfl, rfl, HW⟩ := hrel
  by_cases hlt : k < a
  · have i1 : (k : Int) < (a : Int) := by omega
    have k9 : k < 40 := by have := HN.out; omega
    have z1 : ¬ 9223372036854775807 < (repB 97 k).size + (⟨#[97]⟩ : ByteArray).size := by rw [repB_size]; show ¬ 9223372036854775807 < k + 1; omega
    have HL := hideT hlt
    clear hlt hk
    go_wp2
    exact ⟨⟨k + 1, HL.out, by rw [repB_next], by go_num, HW⟩, by simp [intOf]; have := HL.out; omega⟩
  · have i1 : ((k : Int) < (a : Int)) = False := by rw [eq_iff_iff, iff_false]; omega
    obtain rfl : k = a := by omega
    obtain rfl := HW.out
    clear hlt hk
    obtain ⟨r1, hr1⟩ : ∃ r, r = min (2 ^ k) 4097 := ⟨_, rfl⟩
    obtain ⟨r3, hr3⟩ : ∃ r, r = min ((k + 1) * (k + 2) * (k + 3) / 6) 4097 := ⟨_, rfl⟩
    have hc1 := run_ct p1_p (by decide) HN.out (r := r1) (by rw [hr1]; exact Nat.eq_of_beq_eq_true (all_at r1_c HN.out)) wr HG1.out
    have hc2 : ∀ V, Glob V → _ := run_ct p2_p (by decide) HN.out (r := k + 1) (Nat.eq_of_beq_eq_true (all_at r2_c HN.out))
    have hc3 : ∀ V, Glob V → _ := run_ct p3_p (by decide) HN.out (r := r3) (by rw [hr3]; exact Nat.eq_of_beq_eq_true (all_at r3_c HN.out))
    have HC := hideT (And.intro hc2 hc3)
    have HR := hideT (And.intro hr1 hr3)
    clear hc2 hc3 hr1 hr3
    go_wp2_with fail
    refine hc1.mono ?_
    rintro e w2 ⟨rfl, hb2⟩
    have hc2 := HC.out.1 w2 (HG1.out.below hb2 (Nat.le_refl _))
    have HG2 := hideT (And.intro (HG1.out.below hb2 (Nat.le_refl _)) (HB.out.trans (hb2.mono HB.out.size)))
    clear hc1 hb2
    go_wp2_with fail
    refine hc2.mono ?_
    rintro e w3 ⟨rfl, hb3⟩
    have hc3 := HC.out.2 w3 (HG2.out.1.below hb3 (Nat.le_refl _))
    have HG3 := hideT (HG2.out.2.trans (hb3.mono HG2.out.2.size))
    clear hc2 hb3
    go_wp2_with fail
    refine hc3.mono ?_
    rintro e w4 ⟨rfl, hb4⟩
    have HG4 := hideT (HG3.out.trans (hb4.mono HG3.out.size))
    clear hc3 hb4
    clear e0
    have h40 : k = 0 ∨ k = 1 ∨ k = 2 ∨ k = 3 ∨ k = 4 ∨ k = 5 ∨ k = 6 ∨ k = 7 ∨ k = 8 ∨ k = 9 ∨ k = 10 ∨ k = 11 ∨ k = 12 ∨ k = 13 ∨ k = 14 ∨ k = 15 ∨ k = 16 ∨ k = 17 ∨ k = 18 ∨ k = 19 ∨ k = 20 ∨ k = 21 ∨ k = 22 ∨ k = 23 ∨ k = 24 ∨ k = 25 ∨ k = 26 ∨ k = 27 ∨ k = 28 ∨ k = 29 ∨ k = 30 ∨ k = 31 ∨ k = 32 ∨ k = 33 ∨ k = 34 ∨ k = 35 ∨ k = 36 ∨ k = 37 ∨ k = 38 ∨ k = 39 := by have := HN.out; omega
    clear HC
    rcases h40 with rfl | rfl | rfl | rfl | rfl | rfl | rfl | rfl | rfl | rfl | rfl | rfl | rfl | rfl | rfl | rfl | rfl | rfl | rfl | rfl | rfl | rfl | rfl | rfl | rfl | rfl | rfl | rfl | rfl | rfl | rfl | rfl | rfl | rfl | rfl | rfl | rfl | rfl | rfl | rfl
    · obtain rfl : r1 = 1 := HR.out.1.trans (by decide +kernel)
      obtain rfl : r3 = 1 := HR.out.2.trans (by decide +kernel)
      have m1 : min (1 : Int) 4097 = 1 := by decide +kernel
      have m3 : min (1 : Int) 4097 = 1 := by decide +kernel
      clear HR HN i1
      go_wp2
      go_ret
      exact ⟨rfl, HG4.out⟩
    · obtain rfl : r1 = 2 := HR.out.1.trans (by decide +kernel)
      obtain rfl : r3 = 4 := HR.out.2.trans (by decide +kernel)
      have m1 : min (2 : Int) 4097 = 2 := by decide +kernel
      have m3 : min (4 : Int) 4097 = 4 := by decide +kernel
      clear HR HN i1
      go_wp2
      go_ret
      exact ⟨rfl, HG4.out⟩
    · obtain rfl : r1 = 4 := HR.out.1.trans (by decide +kernel)
      obtain rfl : r3 = 10 := HR.out.2.trans (by decide +kernel)
      have m1 : min (4 : Int) 4097 = 4 := by decide +kernel
      have m3 : min (10 : Int) 4097 = 10 := by decide +kernel
      clear HR HN i1
      go_wp2
      go_ret
      exact ⟨rfl, HG4.out⟩
    · obtain rfl : r1 = 8 := HR.out.1.trans (by decide +kernel)
      obtain rfl : r3 = 20 := HR.out.2.trans (by decide +kernel)
      have m1 : min (8 : Int) 4097 = 8 := by decide +kernel
      have m3 : min (20 : Int) 4097 = 20 := by decide +kernel
      clear HR HN i1
      go_wp2
      go_ret
      exact ⟨rfl, HG4.out⟩
    · obtain rfl : r1 = 16 := HR.out.1.trans (by decide +kernel)
      obtain rfl : r3 = 35 := HR.out.2.trans (by decide +kernel)
      have m1 : min (16 : Int) 4097 = 16 := by decide +kernel
      have m3 : min (35 : Int) 4097 = 35 := by decide +kernel
      clear HR HN i1
      go_wp2
      go_ret
      exact ⟨rfl, HG4.out⟩
    · obtain rfl : r1 = 32 := HR.out.1.trans (by decide +kernel)
      obtain rfl : r3 = 56 := HR.out.2.trans (by decide +kernel)
      have m1 : min (32 : Int) 4097 = 32 := by decide +kernel
      have m3 : min (56 : Int) 4097 = 56 := by decide +kernel
      clear HR HN i1
      go_wp2
      go_ret
      exact ⟨rfl, HG4.out⟩
    · obtain rfl : r1 = 64 := HR.out.1.trans (by decide +kernel)
      obtain rfl : r3 = 84 := HR.out.2.trans (by decide +kernel)
      have m1 : min (64 : Int) 4097 = 64 := by decide +kernel
      have m3 : min (84 : Int) 4097 = 84 := by decide +kernel
      clear HR HN i1
      go_wp2
      go_ret
      exact ⟨rfl, HG4.out⟩
    · obtain rfl : r1 = 128 := HR.out.1.trans (by decide +kernel)
      obtain rfl : r3 = 120 := HR.out.2.trans (by decide +kernel)
      have m1 : min (128 : Int) 4097 = 128 := by decide +kernel
      have m3 : min (120 : Int) 4097 = 120 := by decide +kernel
      clear HR HN i1
      go_wp2
      go_ret
      exact ⟨rfl, HG4.out⟩
    · obtain rfl : r1 = 256 := HR.out.1.trans (by decide +kernel)
      obtain rfl : r3 = 165 := HR.out.2.trans (by decide +kernel)
      have m1 : min (256 : Int) 4097 = 256 := by decide +kernel
      have m3 : min (165 : Int) 4097 = 165 := by decide +kernel
      clear HR HN i1
      go_wp2
      go_ret
      exact ⟨rfl, HG4.out⟩
    · obtain rfl : r1 = 512 := HR.out.1.trans (by decide +kernel)
      obtain rfl : r3 = 220 := HR.out.2.trans (by decide +kernel)
      have m1 : min (512 : Int) 4097 = 512 := by decide +kernel
      have m3 : min (220 : Int) 4097 = 220 := by decide +kernel
      clear HR HN i1
      go_wp2
      go_ret
      exact ⟨rfl, HG4.out⟩
    · obtain rfl : r1 = 1024 := HR.out.1.trans (by decide +kernel)
      obtain rfl : r3 = 286 := HR.out.2.trans (by decide +kernel)
      have m1 : min (1024 : Int) 4097 = 1024 := by decide +kernel
      have m3 : min (286 : Int) 4097 = 286 := by decide +kernel
      clear HR HN i1
      go_wp2
      go_ret
      exact ⟨rfl, HG4.out⟩
    · obtain rfl : r1 = 2048 := HR.out.1.trans (by decide +kernel)
      obtain rfl : r3 = 364 := HR.out.2.trans (by decide +kernel)
      have m1 : min (2048 : Int) 4097 = 2048 := by decide +kernel
      have m3 : min (364 : Int) 4097 = 364 := by decide +kernel
      clear HR HN i1
      go_wp2
      go_ret
      exact ⟨rfl, HG4.out⟩
    · obtain rfl : r1 = 4096 := HR.out.1.trans (by decide +kernel)
      obtain rfl : r3 = 455 := HR.out.2.trans (by decide +kernel)
      have m1 : min (4096 : Int) 4097 = 4096 := by decide +kernel
      have m3 : min (455 : Int) 4097 = 455 := by decide +kernel
      clear HR HN i1
      go_wp2
      go_ret
      exact ⟨rfl, HG4.out⟩
    · obtain rfl : r1 = 4097 := HR.out.1.trans (by decide +kernel)
      obtain rfl : r3 = 560 := HR.out.2.trans (by decide +kernel)
      have m1 : min (8192 : Int) 4097 = 4097 := by decide +kernel
      have m3 : min (560 : Int) 4097 = 560 := by decide +kernel
      clear HR HN i1
      go_wp2
      go_ret
      exact ⟨rfl, HG4.out⟩
    · obtain rfl : r1 = 4097 := HR.out.1.trans (by decide +kernel)
      obtain rfl : r3 = 680 := HR.out.2.trans (by decide +kernel)
      have m1 : min (16384 : Int) 4097 = 4097 := by decide +kernel
      have m3 : min (680 : Int) 4097 = 680 := by decide +kernel
      clear HR HN i1
      go_wp2
      go_ret
      exact ⟨rfl, HG4.out⟩
    · obtain rfl : r1 = 4097 := HR.out.1.trans (by decide +kernel)
      obtain rfl : r3 = 816 := HR.out.2.trans (by decide +kernel)
      have m1 : min (32768 : Int) 4097 = 4097 := by decide +kernel
      have m3 : min (816 : Int) 4097 = 816 := by decide +kernel
      clear HR HN i1
      go_wp2
      go_ret
      exact ⟨rfl, HG4.out⟩
    · obtain rfl : r1 = 4097 := HR.out.1.trans (by decide +kernel)
      obtain rfl : r3 = 969 := HR.out.2.trans (by decide +kernel)
      have m1 : min (65536 : Int) 4097 = 4097 := by decide +kernel
      have m3 : min (969 : Int) 4097 = 969 := by decide +kernel
      clear HR HN i1
      go_wp2
      go_ret
      exact ⟨rfl, HG4.out⟩
    · obtain rfl : r1 = 4097 := HR.out.1.trans (by decide +kernel)
      obtain rfl : r3 = 1140 := HR.out.2.trans (by decide +kernel)
      have m1 : min (131072 : Int) 4097 = 4097 := by decide +kernel
      have m3 : min (1140 : Int) 4097 = 1140 := by decide +kernel
      clear HR HN i1
      go_wp2
      go_ret
      exact ⟨rfl, HG4.out⟩
    · obtain rfl : r1 = 4097 := HR.out.1.trans (by decide +kernel)
      obtain rfl : r3 = 1330 := HR.out.2.trans (by decide +kernel)
      have m1 : min (262144 : Int) 4097 = 4097 := by decide +kernel
      have m3 : min (1330 : Int) 4097 = 1330 := by decide +kernel
      clear HR HN i1
      go_wp2
      go_ret
      exact ⟨rfl, HG4.out⟩
    · obtain rfl : r1 = 4097 := HR.out.1.trans (by decide +kernel)
      obtain rfl : r3 = 1540 := HR.out.2.trans (by decide +kernel)
      have m1 : min (524288 : Int) 4097 = 4097 := by decide +kernel
      have m3 : min (1540 : Int) 4097 = 1540 := by decide +kernel
      clear HR HN i1
      go_wp2
      go_ret
      exact ⟨rfl, HG4.out⟩
    · obtain rfl : r1 = 4097 := HR.out.1.trans (by decide +kernel)
      obtain rfl : r3 = 1771 := HR.out.2.trans (by decide +kernel)
      have m1 : min (1048576 : Int) 4097 = 4097 := by decide +kernel
      have m3 : min (1771 : Int) 4097 = 1771 := by decide +kernel
      clear HR HN i1
      go_wp2
      go_ret
      exact ⟨rfl, HG4.out⟩
    · obtain rfl : r1 = 4097 := HR.out.1.trans (by decide +kernel)
      obtain rfl : r3 = 2024 := HR.out.2.trans (by decide +kernel)
      have m1 : min (2097152 : Int) 4097 = 4097 := by decide +kernel
      have m3 : min (2024 : Int) 4097 = 2024 := by decide +kernel
      clear HR HN i1
      go_wp2
      go_ret
      exact ⟨rfl, HG4.out⟩
    · obtain rfl : r1 = 4097 := HR.out.1.trans (by decide +kernel)
      obtain rfl : r3 = 2300 := HR.out.2.trans (by decide +kernel)
      have m1 : min (4194304 : Int) 4097 = 4097 := by decide +kernel
      have m3 : min (2300 : Int) 4097 = 2300 := by decide +kernel
      clear HR HN i1
      go_wp2
      go_ret
      exact ⟨rfl, HG4.out⟩
    · obtain rfl : r1 = 4097 := HR.out.1.trans (by decide +kernel)
      obtain rfl : r3 = 2600 := HR.out.2.trans (by decide +kernel)
      have m1 : min (8388608 : Int) 4097 = 4097 := by decide +kernel
      have m3 : min (2600 : Int) 4097 = 2600 := by decide +kernel
      clear HR HN i1
      go_wp2
      go_ret
      exact ⟨rfl, HG4.out⟩
    · obtain rfl : r1 = 4097 := HR.out.1.trans (by decide +kernel)
      obtain rfl : r3 = 2925 := HR.out.2.trans (by decide +kernel)
      have m1 : min (16777216 : Int) 4097 = 4097 := by decide +kernel
      have m3 : min (2925 : Int) 4097 = 2925 := by decide +kernel
      clear HR HN i1
      go_wp2
      go_ret
      exact ⟨rfl, HG4.out⟩
    · obtain rfl : r1 = 4097 := HR.out.1.trans (by decide +kernel)
      obtain rfl : r3 = 3276 := HR.out.2.trans (by decide +kernel)
      have m1 : min (33554432 : Int) 4097 = 4097 := by decide +kernel
      have m3 : min (3276 : Int) 4097 = 3276 := by decide +kernel
      clear HR HN i1
      go_wp2
      go_ret
      exact ⟨rfl, HG4.out⟩
    · obtain rfl : r1 = 4097 := HR.out.1.trans (by decide +kernel)
      obtain rfl : r3 = 3654 := HR.out.2.trans (by decide +kernel)
      have m1 : min (67108864 : Int) 4097 = 4097 := by decide +kernel
      have m3 : min (3654 : Int) 4097 = 3654 := by decide +kernel
      clear HR HN i1
      go_wp2
      go_ret
      exact ⟨rfl, HG4.out⟩
    · obtain rfl : r1 = 4097 := HR.out.1.trans (by decide +kernel)
      obtain rfl : r3 = 4060 := HR.out.2.trans (by decide +kernel)
      have m1 : min (134217728 : Int) 4097 = 4097 := by decide +kernel
      have m3 : min (4060 : Int) 4097 = 4060 := by decide +kernel
      clear HR HN i1
      go_wp2
      go_ret
      exact ⟨rfl, HG4.out⟩
    · obtain rfl : r1 = 4097 := HR.out.1.trans (by decide +kernel)
      obtain rfl : r3 = 4097 := HR.out.2.trans (by decide +kernel)
      have m1 : min (268435456 : Int) 4097 = 4097 := by decide +kernel
      have m3 : min (4495 : Int) 4097 = 4097 := by decide +kernel
      clear HR HN i1
      go_wp2
      go_ret
      exact ⟨rfl, HG4.out⟩
    · obtain rfl : r1 = 4097 := HR.out.1.trans (by decide +kernel)
      obtain rfl : r3 = 4097 := HR.out.2.trans (by decide +kernel)
      have m1 : min (536870912 : Int) 4097 = 4097 := by decide +kernel
      have m3 : min (4960 : Int) 4097 = 4097 := by decide +kernel
      clear HR HN i1
      go_wp2
      go_ret
      exact ⟨rfl, HG4.out⟩
    · obtain rfl : r1 = 4097 := HR.out.1.trans (by decide +kernel)
      obtain rfl : r3 = 4097 := HR.out.2.trans (by decide +kernel)
      have m1 : min (1073741824 : Int) 4097 = 4097 := by decide +kernel
      have m3 : min (5456 : Int) 4097 = 4097 := by decide +kernel
      clear HR HN i1
      go_wp2
      go_ret
      exact ⟨rfl, HG4.out⟩
    · obtain rfl : r1 = 4097 := HR.out.1.trans (by decide +kernel)
      obtain rfl : r3 = 4097 := HR.out.2.trans (by decide +kernel)
      have m1 : min (2147483648 : Int) 4097 = 4097 := by decide +kernel
      have m3 : min (5984 : Int) 4097 = 4097 := by decide +kernel
      clear HR HN i1
      go_wp2
      go_ret
      exact ⟨rfl, HG4.out⟩
    · obtain rfl : r1 = 4097 := HR.out.1.trans (by decide +kernel)
      obtain rfl : r3 = 4097 := HR.out.2.trans (by decide +kernel)
      have m1 : min (4294967296 : Int) 4097 = 4097 := by decide +kernel
      have m3 : min (6545 : Int) 4097 = 4097 := by decide +kernel
      clear HR HN i1
      go_wp2
      go_ret
      exact ⟨rfl, HG4.out⟩
    · obtain rfl : r1 = 4097 := HR.out.1.trans (by decide +kernel)
      obtain rfl : r3 = 4097 := HR.out.2.trans (by decide +kernel)
      have m1 : min (8589934592 : Int) 4097 = 4097 := by decide +kernel
      have m3 : min (7140 : Int) 4097 = 4097 := by decide +kernel
      clear HR HN i1
      go_wp2
      go_ret
      exact ⟨rfl, HG4.out⟩
    · obtain rfl : r1 = 4097 := HR.out.1.trans (by decide +kernel)
      obtain rfl : r3 = 4097 := HR.out.2.trans (by decide +kernel)
      have m1 : min (17179869184 : Int) 4097 = 4097 := by decide +kernel
      have m3 : min (7770 : Int) 4097 = 4097 := by decide +kernel
      clear HR HN i1
      go_wp2
      go_ret
      exact ⟨rfl, HG4.out⟩
    · obtain rfl : r1 = 4097 := HR.out.1.trans (by decide +kernel)
      obtain rfl : r3 = 4097 := HR.out.2.trans (by decide +kernel)
      have m1 : min (34359738368 : Int) 4097 = 4097 := by decide +kernel
      have m3 : min (8436 : Int) 4097 = 4097 := by decide +kernel
      clear HR HN i1
      go_wp2
      go_ret
      exact ⟨rfl, HG4.out⟩
    · obtain rfl : r1 = 4097 := HR.out.1.trans (by decide +kernel)
      obtain rfl : r3 = 4097 := HR.out.2.trans (by decide +kernel)
      have m1 : min (68719476736 : Int) 4097 = 4097 := by decide +kernel
      have m3 : min (9139 : Int) 4097 = 4097 := by decide +kernel
      clear HR HN i1
      go_wp2
      go_ret
      exact ⟨rfl, HG4.out⟩
    · obtain rfl : r1 = 4097 := HR.out.1.trans (by decide +kernel)
      obtain rfl : r3 = 4097 := HR.out.2.trans (by decide +kernel)
      have m1 : min (137438953472 : Int) 4097 = 4097 := by decide +kernel
      have m3 : min (9880 : Int) 4097 = 4097 := by decide +kernel
      clear HR HN i1
      go_wp2
      go_ret
      exact ⟨rfl, HG4.out⟩
    · obtain rfl : r1 = 4097 := HR.out.1.trans (by decide +kernel)
      obtain rfl : r3 = 4097 := HR.out.2.trans (by decide +kernel)
      have m1 : min (274877906944 : Int) 4097 = 4097 := by decide +kernel
      have m3 : min (10660 : Int) 4097 = 4097 := by decide +kernel
      clear HR HN i1
      go_wp2
      go_ret
      exact ⟨rfl, HG4.out⟩
    · obtain rfl : r1 = 4097 := HR.out.1.trans (by decide +kernel)
      obtain rfl : r3 = 4097 := HR.out.2.trans (by decide +kernel)
      have m1 : min (549755813888 : Int) 4097 = 4097 := by decide +kernel
      have m3 : min (11480 : Int) 4097 = 4097 := by decide +kernel
      clear HR HN i1
      go_wp2
      go_ret
      exact ⟨rfl, HG4.out⟩
end Go.Proofs.Ytolpakpdkheanaa.tly
