/- tally: more and behind. -/
import Derived.Test.YtolpakpdkheanaaKTh
set_option maxRecDepth 100000
set_option maxHeartbeats 1500000
namespace Go.Proofs.Ytolpakpdkheanaa.tly
open Go.RowKit Go.Maps Go.WideMaps Go.Proofs.Ytolpakpdkheanaa.br
/-- a table of at most 256 positions over at most 1024 bytes -/
structure FitB (B : Tb) (s : ByteArray) : Prop where
 N : B.takes.length ≤ 256
 s : s.size ≤ 1024
 la : ∀ k i, (B.last.getD k []).getD i 0 ≤ 4097
def moreR (B : Tb) (s : List Nat) (r : Nat) (l : Stp) (w : Nat) : Nat := match r with
 | 0 => w
 | r + 1 => moreF (fun q => (liveF B s r).getD q false) (behF B s r) l w
theorem beh_eq (B : Tb) (s : List Nat) (r pos : Nat) : behF B s r pos = moreR B s r (B.next.getD pos []) (lastAt B s.length (s.length - r) pos) := by
 cases r with
 | zero => rw [behF, moreR, Nat.sub_zero]
 | succ r => rfl
theorem more_le (live : Nat → Bool) (beh : Nat → Nat) : ∀ (l : Stp) (w : Nat), w ≤ 4097 → moreF live beh l w ≤ 4097
 | [], w, h => h
 | x :: l, w, h => by
  unfold moreF
  cases Nat.blt 4096 w with
  | true => exact h
  | false =>
   rw [cond_false]
   refine more_le live beh l _ ?_
   cases live x.1 with
   | true => exact capN_le _
   | false => exact h
theorem beh_le {B : Tb} {s : ByteArray} (hf : FitB B s) (r pos : Nat) : behF B (bnS s) r pos ≤ 4097 := by
 rw [beh_eq]
 cases r with
 | zero => exact hf.la _ _
 | succ r => exact more_le _ _ _ _ (hf.la _ _)
section
variable (B : Tb) (s : ByteArray) (X T gt gn gl : Nat) (ge : Nat → Nat) (lo M : Nat)
def MoreIH (r : Nat) : Prop := ∀ (pl : Nat), pl + r = s.size → lo ≤ pl → ∀ (W : World) (v : Value) (l : Stp) (w0 : Nat) (S : Nat → Prop), TcV W X T s B gt gn gl ge lo M → StR W S v l → (∀ g, S g → g < W.heap.size) → StOk B.takes.length l → w0 ≤ 4097 →
 Calls Try.prog 27 #[.pointer (some ⟨T, 0, none⟩), .int .i64 (w0 : Nat), v, .int .i64 (pl : Nat)] W fun e W' => e = .returned (.int .i64 (moreR B (bnS s) r l w0 : Nat)) ∧ TcV W' X T s B gt gn gl ge lo M ∧ TiF M M W W'
def BehIH (r : Nat) : Prop := ∀ (pl : Nat), pl + r = s.size → lo < pl → ∀ (W : World) (pos : Nat), TcV W X T s B gt gn gl ge lo M → pos < B.takes.length →
 Calls Try.prog 52 #[.pointer (some ⟨T, 0, none⟩), .agg #[.int .i64 (pos : Nat), .int .i64 (pl : Nat)]] W fun e W' => e = .returned (.int .i64 (behF B (bnS s) r pos : Nat)) ∧ TcV W' X T s B gt gn gl ge lo M ∧ TiF M M W W'
end
variable {B : Tb} {s : ByteArray} {X T gt gn gl : Nat} {ge : Nat → Nat} {lo M : Nat}
theorem TcV.map {W : World} (h : TcV W X T s B gt gn gl ge lo M) : ∃ es c, W.heap[M]? = some (.map es c) := h.co.blk
theorem TcV.mlt {W : World} (h : TcV W X T s B gt gn gl ge lo M) : M < W.heap.size := by
 obtain ⟨es, c, hm⟩ := h.map
 exact (Array.getElem?_eq_some_iff.1 hm).1
theorem more_0 : MoreIH B s X T gt gn gl ge lo M 0 := fun pl hpl hlo W v l w0 S hT hv hS ho hw => by
 obtain rfl : pl = s.size := by omega
 obtain ⟨a, c, rfl⟩ := hv.shape
 have HT := hideT hT
 have c1 := hT.ta.c1
 clear hT hv hS ho hw hlo hpl
 go_enter Try.func27, Try.ntmps27
 go_wp2
 go_ret
 exact ⟨rfl, HT.out, TiF.refl _ _ _⟩
theorem more_step {live : Nat → Bool} {beh : Nat → Nat} {l : Stp} {k : Nat} {x : Nat × Nat} {w : Nat} (hx : l[k]? = some x) (hw : ¬ 4096 < w) : moreF live beh (l.drop k) w = moreF live beh (l.drop (k + 1)) (bif live x.1 then capN (w + x.2 * beh x.1) else w) := by
 obtain ⟨h1, h2⟩ := List.getElem?_eq_some_iff.1 hx
 rw [List.drop_eq_getElem_cons h1, h2, moreF]
 have : Nat.blt 4096 w = false := by cases e : Nat.blt 4096 w with | false => rfl | true => exact absurd (Nat.le_of_ble_eq_true e) hw
 rw [this, cond_false]
theorem more_stop {live : Nat → Bool} {beh : Nat → Nat} {l : Stp} {w : Nat} (hw : 4096 < w) : moreF live beh l w = w := by
 cases l with
 | nil => rfl
 | cons x l =>
  unfold moreF
  rw [show Nat.blt 4096 w = true from Nat.ble_eq_true_of_le hw, cond_true]
theorem more_s (hf : FitB B s) {r : Nat} (ih : BehIH B s X T gt gn gl ge lo M r) : MoreIH B s X T gt gn gl ge lo M (r + 1) := fun pl hpl hlo W v l w0 S hT hv hS ho hw => by
 obtain ⟨a, c, rfl⟩ := hv.shape
 have hlen := ho.length
 have fN := hf.N
 have fs := hf.s
 have i0 : ((pl : Int) == (s.size : Int)) = false := by rw [beq_eq_false_iff_ne]; omega
 have i4 : (l.length : Int) ≤ 256 := by omega
 have hm0 : moreR B (bnS s) (r + 1) l w0 = moreF (fun q => (liveF B (bnS s) r).getD q false) (behF B (bnS s) r) l w0 := rfl
 have c1 := hT.ta.c1
 have HH := hideT (And.intro hT (And.intro hv (And.intro hS (And.intro ho (And.intro hpl (And.intro hlo hf))))))
 have HW := hideT hw
 have HM := hideT hm0
 have HI := hideT ih
 clear hT hv hS ho hw hlen hf fN fs hpl hlo hm0 ih
 go_enter Try.func27, Try.ntmps27
 go_wp2_with fail
 go_loopw [1, 10, 21] (fun s1 s10 s21 wr => ∃ k w1 : Nat, k ≤ l.length ∧ s1 = .int .i64 (w1 : Nat) ∧ s21 = .int .i64 (k : Nat) ∧ Hid (TcV wr X T s B gt gn gl ge lo M ∧ TiF M M W wr ∧ w1 ≤ 4097 ∧ moreR B (bnS s) (r + 1) l w0 = moreF (fun q => (liveF B (bnS s) r).getD q false) (behF B (bnS s) r) (l.drop k) w1)) (fun _ _ s21 _ => ((l.length : Int) - intOf s21).toNat)
 case atStart => exact ⟨0, w0, by omega, rfl, rfl, hideT ⟨HH.out.1, TiF.refl _ _ _, HW.out, HM.out⟩⟩
 case round =>
  obtain ⟨k, w1, hk, rfl, rfl, HR⟩ := hrel
  have hw1 := HR.out.2.2.1
  have i5 : (w1 : Int) ≤ 4097 := by omega
  by_cases hlt : k < l.length
  · obtain ⟨x, hx⟩ : ∃ x, l[k]? = some x := ⟨_, List.getElem?_eq_getElem hlt⟩
    obtain ⟨es0, cl0, hmap⟩ := HH.out.1.map
    have hvw := HH.out.2.1.turn hmap HR.out.2.1 (fun _ h => h)
    obtain ⟨g, o, rfl, hg, q0, q1⟩ := hvw.at hx
    have hxo := HH.out.2.2.2.1.lt x (List.mem_of_getElem? hx)
    have hbA := (Below.refl wr.heap.size wr).alloc (Nat.le_refl _) (.cells #[.int .i64 (x.1 : Nat), .int .i64 (x.2 : Nat)] 95)
    have hnA := World.alloc_heap_new wr (.cells #[.int .i64 (x.1 : Nat), .int .i64 (x.2 : Nat)] 95)
    have j1 : (k : Int) < (l.length : Int) := by omega
    have j2 : (0 : Int) ≤ (k : Int) := by omega
    by_cases hw4 : 4096 < w1
    · have i6 : (4096 : Int) < (w1 : Int) := by omega
      have HB := hideT (show moreR B (bnS s) (r + 1) l w0 = w1 ∧ TcV (wr.alloc (.cells #[.int .i64 (x.1 : Nat), .int .i64 (x.2 : Nat)] 95)) X T s B gt gn gl ge lo M ∧ TiF M M W (wr.alloc (.cells #[.int .i64 (x.1 : Nat), .int .i64 (x.2 : Nat)] 95)) from ⟨by rw [HR.out.2.2.2, more_stop hw4], HR.out.1.below hbA, HR.out.2.1.trans (.of hbA)⟩)
      clear hbA hnA hxo hvw hw4 hlt hk hx hg HR hw1 hmap
      go_wp2_with fail
      go_ret
      exact ⟨by rw [HB.out.1]; rfl, HB.out.2⟩
    · have i6 : ((4096 : Int) < (w1 : Int)) = False := by rw [eq_iff_iff, iff_false]; omega
      have hstep := more_step (live := fun q => (liveF B (bnS s) r).getD q false) (beh := behF B (bnS s) r) hx hw4
      have hTA := HR.out.1.below hbA
      have hFA := HR.out.2.1.trans (TiF.of (gt := M) (gn := M) hbA)
      have hr1 : s.size - (pl + 1) = r := by have := HH.out.2.2.2.2.1; omega
      obtain ⟨gr, rc, r1, r2⟩ := hTA.ta.li (pl + 1) (by have := HH.out.2.2.2.2.2.1; omega) (by have := HH.out.2.2.2.2.1; omega)
      rw [hr1] at r2
      obtain ⟨bb, hbb⟩ : ∃ bb, (liveF B (bnS s) r)[x.1]? = some bb := ⟨_, List.getElem?_eq_getElem (by rw [liveF_len]; exact hxo.1)⟩
      have hbd : (liveF B (bnS s) r).getD x.1 false = bb := by rw [List.getD_eq_getElem?_getD, hbb]; rfl
      have r3 := r2 _ _ hbb
      obtain ⟨c8, r8⟩ := hTA.ta.c8
      have q0' := (cells_at hnA (j := 0) rfl).1
      have q1' := (cells_at hnA (j := 1) rfl).1
      have HB := hideT (And.intro hTA (And.intro hFA (And.intro hxo (And.intro hlt (HR.out.2.2.2.trans hstep)))))
      have HBD := hideT hbd
      have j3 : (pl : Int) + 1 < (s.size : Int) + 1 := by have := HH.out.2.2.2.2.1; omega
      have j4 : (0 : Int) ≤ (pl : Int) + 1 := by omega
      have j5 : (pl : Int) ≤ 1024 := by have := HH.out.2.2.2.2.1; have := HH.out.2.2.2.2.2.2.s; omega
      have H1 := hideT (show IntKind.i64.wrap ((pl : Int) + 1) = ((pl + 1 : Nat) : Int) from IntWalk.i64_in _ (by omega))
      have H2 := hideT (show 0 ≤ ((pl + 1 : Nat) : Int) ∧ ((pl + 1 : Nat) : Int) < (s.size : Int) + 1 by omega)
      have j6 : (x.1 : Int) < (B.takes.length : Int) := by omega
      have j7 : (0 : Int) ≤ (x.1 : Int) := by omega
      have j8 : (x.1 : Int) ≤ 256 := by have := HH.out.2.2.2.2.2.2.N; omega
      clear hTA hFA hvw hw4 hlt hk hx hg HR hw1 hmap hstep r2 hbb hbd hbA hxo
      go_upto_region 7 with fail
      rename_i K7 hK7
      have hS0 : (fun V : World => V.cell? ⟨T, 8, none⟩ = some (.slice (some ⟨gl, 0, none⟩) (s.size + 1) c8) ∧ V.cell? ⟨gl, pl + 1, none⟩ = some (.slice (some ⟨gr, 0, none⟩) B.takes.length rc) ∧ V.cell? ⟨gr, x.1, none⟩ = some (.bool bb) ∧ V.cell? ⟨wr.heap.size, 0, none⟩ = some (.int .i64 (x.1 : Nat)) ∧ V.cell? ⟨wr.heap.size, 1, none⟩ = some (.int .i64 (x.2 : Nat))) (wr.alloc (.cells #[.int .i64 (x.1 : Nat), .int .i64 (x.2 : Nat)] 95)).drew := ⟨r8, r1, r3, q0', q1'⟩
      clear r8 r1 r3 q0' q1' hnA q0 q1
      generalize wr.alloc (.cells #[.int .i64 (x.1 : Nat), .int .i64 (x.2 : Nat)] 95) = V1 at *
      generalize wr.heap.size = C10 at *
      refine wp_region_held (S := fun V : World => V.cell? ⟨T, 8, none⟩ = some (.slice (some ⟨gl, 0, none⟩) (s.size + 1) c8) ∧ V.cell? ⟨gl, pl + 1, none⟩ = some (.slice (some ⟨gr, 0, none⟩) B.takes.length rc) ∧ V.cell? ⟨gr, x.1, none⟩ = some (.bool bb) ∧ V.cell? ⟨C10, 0, none⟩ = some (.int .i64 (x.1 : Nat)) ∧ V.cell? ⟨C10, 1, none⟩ = some (.int .i64 (x.2 : Nat))) (by kernel_rfl) ?_
      show wpAnyH _ _ _ _ _ _ _ _ V1.drew
      have hTU := HB.out.1.below (drew_below _ V1)
      have hFU := HB.out.2.1.trans (TiF.of (gt := M) (gn := M) (drew_below V1.heap.size V1))
      have HB2 := hideT HB.out.2.2
      clear HB
      generalize V1.drew = U at *
      refine tq 0 27 hS0 ?_
      refine tq 1 28 hS0 ?_
      refine tq 2 29 hS0 ?_
      refine tq 3 30 hS0 ?_
      simp only [Act.put, List.setIfInBounds_toArray, List.set_cons_zero, List.set_cons_succ]
      refine tq 4 31 hS0 ?_
      refine tq 5 32 hS0 ?_
      refine tq (v := .pointer (some ⟨gl, pl + 1, none⟩)) 6 33 hS0 ?_ (hy := fun V hV => by
       go_simp
       rw [H1.out, if_pos H2.out]
       rfl)
      refine tq 7 34 hS0 ?_
      simp only [Act.put, List.setIfInBounds_toArray, List.set_cons_zero, List.set_cons_succ]
      refine tq 8 35 hS0 ?_
      refine tq 9 36 hS0 ?_
      refine tq 10 37 hS0 ?_
      refine tq 11 38 hS0 ?_
      simp only [Act.put, List.setIfInBounds_toArray, List.set_cons_zero, List.set_cons_succ]
      refine wpAnyH_done (by kernel_rfl) (hK7 _ _ ?_) _
      clear hK7
      cases bb
      · have HN := hideT (show TcV U X T s B gt gn gl ge lo M ∧ TiF M M W U ∧ w1 ≤ 4097 ∧ moreR B (bnS s) (r + 1) l w0 = moreF (fun q => (liveF B (bnS s) r).getD q false) (behF B (bnS s) r) (l.drop (k + 1)) w1 from ⟨hTU, hFU, by omega, by rw [HB2.out.2.2, HBD.out]; rfl⟩)
        clear hTU hFU hS0
        go_wp2_with fail
        exact ⟨⟨k + 1, w1, HB2.out.2.1, rfl, by go_num, HN⟩, by have := HB2.out.2.1; simp [intOf]; omega⟩
      · have q0 := hS0.2.2.2.1
        have q1 := hS0.2.2.2.2
        obtain ⟨es1, cl1, hmU⟩ := hTU.map
        have HU := hideT (And.intro hTU (And.intro hFU hmU))
        clear hTU hFU hS0 hmU
        go_upto_region 8 with fail
        rename_i K8 hK8
        have hS0 : (fun V : World => V.cell? ⟨C10, 0, none⟩ = some (.int .i64 (x.1 : Nat)) ∧ V.cell? ⟨C10, 1, none⟩ = some (.int .i64 (x.2 : Nat))) U.drew := ⟨q0, q1⟩
        refine wp_region_held (S := fun V : World => V.cell? ⟨C10, 0, none⟩ = some (.int .i64 (x.1 : Nat)) ∧ V.cell? ⟨C10, 1, none⟩ = some (.int .i64 (x.2 : Nat))) (by kernel_rfl) ?_
        show wpAnyH _ _ _ _ _ _ _ _ U.drew
        have hbh := HI.out (pl + 1) (by have := HH.out.2.2.2.2.1; omega) (by have := HH.out.2.2.2.2.2.1; omega) U.drew x.1 (HU.out.1.below (drew_below _ U)) HB2.out.1.1
        have hFD := HU.out.2.1.trans (TiF.of (gt := M) (gn := M) (drew_below U.heap.size U))
        have hmD : U.drew.heap[M]? = some (.map es1 cl1) := HU.out.2.2
        clear q0 q1 HU
        generalize U.drew = U2 at *
        obtain ⟨bh, hbhe⟩ : ∃ bh, bh = behF B (bnS s) r x.1 := ⟨_, rfl⟩
        have hbl : bh ≤ 4097 := by rw [hbhe]; exact beh_le HH.out.2.2.2.2.2.2 r x.1
        rw [← hbhe] at hbh
        have hx2 := HB2.out.1.2
        have HBE := hideT hbhe
        clear hbhe
        have i7 : (x.2 : Int) * (bh : Int) ≤ 16785409 ∧ (0 : Int) ≤ (x.2 : Int) * (bh : Int) := by
         have h1 : x.2 * bh ≤ 16785409 := Nat.le_trans (Nat.mul_le_mul hx2 hbl) (by decide)
         rw [← Int.natCast_mul]
         omega
        have i9 : (x.2 : Int) * (bh : Int) = ((x.2 * bh : Nat) : Int) := (Int.natCast_mul _ _).symm
        have H9 := hideT (show IntKind.i64.wrap ((x.2 : Int) * (bh : Int)) = ((x.2 * bh : Nat) : Int) by rw [i9]; exact IntWalk.i64_in _ (by rw [← i9]; omega))
        have H10 := hideT (show IntKind.i64.wrap ((w1 : Int) + ((x.2 * bh : Nat) : Int)) = ((w1 + x.2 * bh : Nat) : Int) by rw [← Int.natCast_add]; exact IntWalk.i64_in _ (by rw [Int.natCast_add, ← i9]; omega))
        clear i7 i9
        obtain ⟨pr, hpr⟩ : ∃ pr, pr = x.2 * bh := ⟨_, rfl⟩
        rw [← hpr] at H9 H10
        have HPR := hideT hpr
        clear hpr hx2 hbl
        refine tq 0 39 hS0 ?_
        refine tq 1 40 hS0 ?_
        refine tq 2 41 hS0 ?_
        refine tq 3 42 hS0 ?_
        simp only [Act.put, List.setIfInBounds_toArray, List.set_cons_zero, List.set_cons_succ]
        refine tq 4 43 hS0 ?_
        refine tq 5 44 hS0 ?_
        refine tq 6 45 hS0 ?_
        refine tq (v := .int .i64 (pl + 1 : Nat)) 7 46 hS0 ?_ (hy := fun V hV => by
         go_simp
         rw [H1.out]
         (try rfl))
        refine tq 8 47 hS0 ?_
        simp only [Act.put, List.setIfInBounds_toArray, List.set_cons_zero, List.set_cons_succ]
        refine wpAnyH_all (rs := [9]) (by kernel_rfl) (by simp) (fun j hj => ?_)
        obtain rfl : j = 9 := List.mem_singleton.1 hj
        clear hj
        refine op_call (R := fun v w7 => v = .int .i64 (bh : Nat) ∧ TcV w7 X T s B gt gn gl ge lo M ∧ TiF M M U2 w7) (f := 52) (some 48) rfl rfl (by rfl) (by go_simp; (try with_reducible rfl)) (hbh.mono ?_) ?_
        · rintro e w7 ⟨rfl, h1⟩
          exact ⟨_, rfl, rfl, h1⟩
        rintro v w7 ⟨rfl, hT7, hF7⟩
        have hS1 : (fun V : World => V.cell? ⟨C10, 0, none⟩ = some (.int .i64 (x.1 : Nat)) ∧ V.cell? ⟨C10, 1, none⟩ = some (.int .i64 (x.2 : Nat))) w7 := ⟨turn_cell hmD hF7 hS0.1, turn_cell hmD hF7 hS0.2⟩
        have HN7 := hideT (And.intro hT7 (hFD.trans hF7))
        clear hbh hT7 hF7 hFD hmD hS0
        refine ⟨hS1, ?_⟩
        simp only [Act.put, List.setIfInBounds_toArray, List.set_cons_zero, List.set_cons_succ]
        refine tq (v := .int .i64 (pr : Nat)) 10 49 hS1 ?_ (hy := fun V hV => by
         go_simp
         rw [H9.out]
         (try rfl))
        refine tq (v := .int .i64 (w1 + pr : Nat)) 11 50 hS1 ?_ (hy := fun V hV => by
         go_simp
         rw [H10.out]
         (try rfl))
        simp only [Act.put, List.setIfInBounds_toArray, List.set_cons_zero, List.set_cons_succ]
        refine wpAnyH_all (rs := [12]) (by kernel_rfl) (by simp) (fun j hj => ?_)
        obtain rfl : j = 12 := List.mem_singleton.1 hj
        clear hj
        refine op_call (R := fun v w8 => v = .int .i64 (capN (w1 + pr) : Nat) ∧ w8 = w7) (f := 51) (some 51) rfl rfl (by rfl) (by go_simp; (try with_reducible rfl)) ((capped_any (w1 + pr) w7).mono ?_) ?_
        · rintro e w8 ⟨rfl, rfl⟩
          exact ⟨_, rfl, rfl, rfl⟩
        rintro v w8 ⟨rfl, rfl⟩
        refine ⟨hS1, ?_⟩
        simp only [Act.put, List.setIfInBounds_toArray, List.set_cons_zero, List.set_cons_succ]
        refine tq 13 1 hS1 ?_
        simp only [Act.put, List.setIfInBounds_toArray, List.set_cons_zero, List.set_cons_succ]
        refine wpAnyH_done (by kernel_rfl) (hK8 _ _ ?_) _
        have HN := hideT (show TcV w8 X T s B gt gn gl ge lo M ∧ TiF M M W w8 ∧ capN (w1 + pr) ≤ 4097 ∧ moreR B (bnS s) (r + 1) l w0 = moreF (fun q => (liveF B (bnS s) r).getD q false) (behF B (bnS s) r) (l.drop (k + 1)) (capN (w1 + pr)) from ⟨HN7.out.1, HN7.out.2, capN_le _, by rw [HB2.out.2.2, HBD.out, HPR.out, HBE.out]; rfl⟩)
        clear hS1 hK8
        go_wp2_with fail
        exact ⟨⟨k + 1, capN (w1 + pr), HB2.out.2.1, rfl, by go_num, HN⟩, by have := HB2.out.2.1; simp [intOf]; omega⟩
  · obtain rfl : k = l.length := by omega
    have HE := hideT (show moreR B (bnS s) (r + 1) l w0 = w1 by rw [HR.out.2.2.2, List.drop_length]; rfl)
    go_wp2_with fail
    go_ret
    exact ⟨by rw [HE.out]; rfl, HR.out.1, HR.out.2.1⟩
theorem look_yield {P : Program} {o : Oper} {t : TypeId} {m x : Operand} {ev : Operand → Value} {mv kv r : Value} {V : World} (ho : o.op = .lookup t m x true) (hm : ev m = mv) (hx : ev x = kv) (h : (Instr.lookup t mv kv true).run P V = .ok r V) : (execOp ev o).run P V = .ok (.value r) V := by
 simp [execOp, ho, hm, hx, h, Result.andThen]
theorem update_skip {P : Program} {o : Oper} {t : TypeId} {m x v : Operand} {ev : Operand → Value} {mv kv vv : Value} {V V' : World} (ho : o.op = .mapUpdate t m x v) (hm : ev m = mv) (hx : ev x = kv) (hv : ev v = vv) (h : (Instr.mapUpdate t mv kv vv).run P V = .ok () V') : (execOp ev o).run P V = .ok .skip V' := by
 simp [execOp, ho, hm, hx, hv, h, Result.andThen]
theorem CoV.look2 {W : World} (h : CoV W B s lo M) {p q r : Nat} (hp : p < B.takes.length) (hN : B.takes.length ≤ 256) (h1 : lo < q) (h2 : q + r = s.size) (hs : s.size ≤ 1024) :
 ∃ (b : Bool) (c : Int), (b = true → c = (behF B (bnS s) r p : Nat)) ∧ ∀ V : World, V.heap[M]? = W.heap[M]? → (Instr.lookup 90 (.map (some M)) (.agg #[.int .i64 (p : Nat), .int .i64 (q : Nat)]) true).run Try.prog V = .ok (.tuple #[.int .i64 c, .bool b]) V := by
 have hr : s.size - q = r := by omega
 rcases h.look hp hN h1 (by omega) hs with hk | ⟨⟨c, hk⟩, _⟩
 · rw [hr] at hk
   exact ⟨true, _, fun _ => rfl, hk⟩
 · exact ⟨false, c, (fun h => nomatch h), hk⟩
theorem beh_s (hf : FitB B s) {r : Nat} (ih : MoreIH B s X T gt gn gl ge lo M r) : BehIH B s X T gt gn gl ge lo M r := fun pl hpl hlo W pos hT hpos => by
 obtain ⟨b, cz, hbz, hlk⟩ := hT.co.look2 (r := r) hpos hf.N hlo hpl hf.s
 obtain ⟨bh, hbh⟩ : ∃ bh, bh = behF B (bnS s) r pos := ⟨_, rfl⟩
 rw [← hbh] at hbz
 rw [← hbh]
 obtain ⟨es0, cl0, hmW⟩ := hT.map
 have hbA := (Below.refl W.heap.size W).alloc (Nat.le_refl _) (.cells #[.int .i64 (pos : Nat), .int .i64 (pl : Nat)] 132)
 have hnA := World.alloc_heap_new W (.cells #[.int .i64 (pos : Nat), .int .i64 (pl : Nat)] 132)
 have HW := hideT (And.intro hmW (And.intro hpos (And.intro hlo (And.intro hpl (And.intro hf (And.intro hbh ih))))))
 have HT := hideT (And.intro (hT.below hbA) (TiF.of (gt := M) (gn := M) hbA))
 have hC : W.heap.size < (W.alloc (.cells #[.int .i64 (pos : Nat), .int .i64 (pl : Nat)] 132)).heap.size := by rw [World.size_alloc]; omega
 have hM := hbA.block M hT.mlt
 have q0 := (cells_at hnA (j := 0) rfl).1
 have q1 := (cells_at hnA (j := 1) rfl).1
 have q9 := keep_cell hbA hT.c9
 have i1 : (pos : Int) < (B.takes.length : Int) := by omega
 have i2 : (0 : Int) ≤ (pos : Int) := by omega
 clear hT hpos hlo hpl hf hbh hmW hbA hnA ih
 go_enter Try.func52, Try.ntmps52
 go_upto_region 1 with fail
 rename_i K1 hK1
 have hS0 : (fun V : World => V.cell? ⟨T, 9, none⟩ = some (.map (some M)) ∧ V.heap[M]? = W.heap[M]? ∧ V.cell? ⟨W.heap.size, 0, none⟩ = some (.int .i64 (pos : Nat)) ∧ V.cell? ⟨W.heap.size, 1, none⟩ = some (.int .i64 (pl : Nat))) (W.alloc (.cells #[.int .i64 (pos : Nat), .int .i64 (pl : Nat)] 132)).drew := ⟨q9, hM, q0, q1⟩
 clear q0 q1 q9 hM
 show Code.wp _ _ _ _ (W.alloc (.cells #[.int .i64 (pos : Nat), .int .i64 (pl : Nat)] 132))
 obtain ⟨C3, hC3⟩ : ∃ C3, C3 = W.heap.size := ⟨_, rfl⟩
 rw [← hC3] at hS0 hC ⊢
 have HC3 := hideT hC3
 clear hC3
 generalize W.alloc (.cells #[.int .i64 (pos : Nat), .int .i64 (pl : Nat)] 132) = V1 at *
 refine wp_region_held (S := fun V : World => V.cell? ⟨T, 9, none⟩ = some (.map (some M)) ∧ V.heap[M]? = W.heap[M]? ∧ V.cell? ⟨C3, 0, none⟩ = some (.int .i64 (pos : Nat)) ∧ V.cell? ⟨C3, 1, none⟩ = some (.int .i64 (pl : Nat))) (by kernel_rfl) ?_
 show wpAnyH _ _ _ _ _ _ _ _ V1.drew
 have hT1 := HT.out.1.below (drew_below _ V1)
 have hF1 := HT.out.2.trans (TiF.of (gt := M) (gn := M) (drew_below V1.heap.size V1))
 have hCU : C3 < V1.drew.heap.size := hC
 clear HT hC
 generalize V1.drew = U at *
 refine tq 0 9 hS0 ?_
 refine tq 1 10 hS0 ?_
 refine tq 2 11 hS0 ?_
 refine tq 3 12 hS0 ?_
 simp only [Act.put, List.setIfInBounds_toArray, List.set_cons_zero, List.set_cons_succ]
 refine tq 4 13 hS0 ?_
 simp only [Act.put, List.setIfInBounds_toArray, List.set_cons_zero, List.set_cons_succ]
 refine tq 5 14 hS0 ?_ (hy := fun V hV => look_yield rfl rfl rfl (hlk V hV.2.1))
 refine tq 6 8 hS0 ?_
 refine tq 7 15 hS0 ?_
 refine tq 8 16 hS0 ?_
 refine tq 9 5 hS0 ?_
 simp only [Act.put, List.setIfInBounds_toArray, List.set_cons_zero, List.set_cons_succ]
 refine tq 10 6 hS0 ?_
 simp only [Act.put, List.setIfInBounds_toArray, List.set_cons_zero, List.set_cons_succ]
 refine wpAnyH_done (by kernel_rfl) (hK1 _ _ ?_) _
 have HU := hideT (And.intro hT1 hF1)
 have q0 := hS0.2.2.1
 have q1 := hS0.2.2.2
 clear hK1 hS0 hT1 hF1 hlk
 cases b
 · clear hbz
   go_upto_region 4 with fail
   rename_i K4 hK4
   have hTU := HU.out.1.below (drew_below _ U)
   have hFU := HU.out.2.trans (TiF.of (gt := M) (gn := M) (drew_below U.heap.size U))
   have q0' : U.drew.cell? ⟨C3, 0, none⟩ = some (.int .i64 (pos : Nat)) := q0
   have q1' : U.drew.cell? ⟨C3, 1, none⟩ = some (.int .i64 (pl : Nat)) := q1
   have hCD : C3 < U.drew.heap.size := hCU
   clear q0 q1 HU hCU
   obtain ⟨kk, hkk⟩ : ∃ kk, kk = kindAt s.size pl := ⟨_, rfl⟩
   have hk4 : kk < 4 := by rw [hkk]; exact kind_lt _ _
   have hkd := kind_any (W := U.drew) pl hTU.ta.c1
   rw [← hkk] at hkd
   obtain ⟨ce, hce⟩ := (hTU.ta.la kk hk4).1
   obtain ⟨la, hla⟩ : ∃ la, la = (B.last.getD kk []).getD pos 0 := ⟨_, rfl⟩
   have hlac := (hTU.ta.la kk hk4).2 pos HW.out.2.1
   rw [← hla] at hlac
   obtain ⟨c3, t3⟩ := hTU.ta.ti.c3
   obtain ⟨ln, vn, e0, e1, e2, g0, g1⟩ := hTU.ta.ti.at HW.out.2.1
   obtain ⟨van, vcn, rfl⟩ := e2.shape
   have hnx : B.next.getD pos [] = ln := by rw [List.getD_eq_getElem?_getD]; have e0' : B.next[pos]? = some ln := e0; rw [e0']; rfl
   have hmo := HW.out.2.2.2.2.2.2 pl HW.out.2.2.2.1 (Nat.le_of_lt HW.out.2.2.1) U.drew _ ln la _ hTU e2 (fun g hg => hg.2) e1 (by rw [hla]; exact HW.out.2.2.2.2.1.la _ _)
   have hre : moreR B (bnS s) r ln la = bh := by
    rw [HW.out.2.2.2.2.2.1, beh_eq, hnx, hla, lastAt, bnS_len, show s.size - r = pl by have := HW.out.2.2.2.1; omega, hkk]
   rw [hre] at hmo
   obtain ⟨es1, cl1, hmU⟩ := hTU.map
   have hS0 : (fun V : World => V.cell? ⟨C3, 0, none⟩ = some (.int .i64 (pos : Nat)) ∧ V.cell? ⟨C3, 1, none⟩ = some (.int .i64 (pl : Nat)) ∧ V.cell? ⟨T, 4 + kk, none⟩ = some (.slice (some ⟨ge kk, 0, none⟩) B.takes.length ce) ∧ V.cell? ⟨ge kk, pos, none⟩ = some (.int .i64 (la : Nat)) ∧ V.cell? ⟨T, 3, none⟩ = some (.slice (some ⟨gn, 0, none⟩) B.takes.length c3) ∧ V.cell? ⟨gn, pos, none⟩ = some (.slice van ln.length vcn)) U.drew := ⟨q0', q1', hce, hlac, t3, g0⟩
   have j1 : (kk : Int) < 4 := by omega
   have j2 : (0 : Int) ≤ (kk : Int) := by omega
   have HX := hideT (And.intro hTU (And.intro hFU hmU))
   clear q0' q1' hce hlac t3 g0 g1 hnx hre hkk hla e0 e1 e2 hTU hFU hmU hk4
   refine wp_region_held (S := fun V : World => V.cell? ⟨C3, 0, none⟩ = some (.int .i64 (pos : Nat)) ∧ V.cell? ⟨C3, 1, none⟩ = some (.int .i64 (pl : Nat)) ∧ V.cell? ⟨T, 4 + kk, none⟩ = some (.slice (some ⟨ge kk, 0, none⟩) B.takes.length ce) ∧ V.cell? ⟨ge kk, pos, none⟩ = some (.int .i64 (la : Nat)) ∧ V.cell? ⟨T, 3, none⟩ = some (.slice (some ⟨gn, 0, none⟩) B.takes.length c3) ∧ V.cell? ⟨gn, pos, none⟩ = some (.slice van ln.length vcn)) (by kernel_rfl) ?_
   show wpAnyH _ _ _ _ _ _ _ _ U.drew
   generalize U.drew = U4 at *
   refine tq 0 19 hS0 ?_
   refine tq 1 20 hS0 ?_
   refine tq 2 21 hS0 ?_
   refine tq 3 22 hS0 ?_
   simp only [Act.put, List.setIfInBounds_toArray, List.set_cons_zero, List.set_cons_succ]
   refine tq 4 23 hS0 ?_
   refine tq 6 25 hS0 ?_
   refine tq 7 26 hS0 ?_
   refine tq 10 29 hS0 ?_
   simp only [Act.put, List.setIfInBounds_toArray, List.set_cons_zero, List.set_cons_succ]
   refine tq 11 30 hS0 ?_
   refine tq 14 33 hS0 ?_
   refine tq 15 34 hS0 ?_
   refine tq 16 35 hS0 ?_
   simp only [Act.put, List.setIfInBounds_toArray, List.set_cons_zero, List.set_cons_succ]
   refine tq 17 36 hS0 ?_
   refine tq 18 37 hS0 ?_
   refine tq 19 38 hS0 ?_
   refine tq 20 39 hS0 ?_
   simp only [Act.put, List.setIfInBounds_toArray, List.set_cons_zero, List.set_cons_succ]
   refine tq 21 40 hS0 ?_
   refine tq 22 41 hS0 ?_
   refine tq 23 42 hS0 ?_
   simp only [Act.put, List.setIfInBounds_toArray, List.set_cons_zero, List.set_cons_succ]
   refine wpAnyH_all (rs := [5]) (by kernel_rfl) (by simp) (fun j hj => ?_)
   obtain rfl : j = 5 := List.mem_singleton.1 hj
   clear hj
   refine op_call (R := fun v w7 => v = .int .i64 (kk : Nat) ∧ w7 = U4) (f := 26) (some 24) rfl rfl (by rfl) (by go_simp; (try with_reducible rfl)) (hkd.mono ?_) ?_
   · rintro e w7 ⟨rfl, rfl⟩
     exact ⟨_, rfl, rfl, rfl⟩
   rintro v w7 ⟨rfl, rfl⟩
   refine ⟨hS0, ?_⟩
   simp only [Act.put, List.setIfInBounds_toArray, List.set_cons_zero, List.set_cons_succ]
   refine tq 8 27 hS0 ?_
   refine tq 9 28 hS0 ?_
   refine tq 12 31 hS0 ?_
   refine tq 13 32 hS0 ?_
   simp only [Act.put, List.setIfInBounds_toArray, List.set_cons_zero, List.set_cons_succ]
   refine wpAnyH_all (rs := [24]) (by kernel_rfl) (by simp) (fun j hj => ?_)
   obtain rfl : j = 24 := List.mem_singleton.1 hj
   clear hj
   refine op_call (R := fun v w8 => v = .int .i64 (bh : Nat) ∧ TcV w8 X T s B gt gn gl ge lo M ∧ TiF M M w7 w8) (f := 27) (some 43) rfl rfl (by rfl) (by go_simp; (try with_reducible rfl)) (hmo.mono ?_) ?_
   · rintro e w8 ⟨rfl, h1⟩
     exact ⟨_, rfl, rfl, h1⟩
   rintro v w8 ⟨rfl, hT8, hF8⟩
   have hS1 : (fun V : World => V.cell? ⟨C3, 0, none⟩ = some (.int .i64 (pos : Nat)) ∧ V.cell? ⟨C3, 1, none⟩ = some (.int .i64 (pl : Nat)) ∧ V.cell? ⟨T, 4 + kk, none⟩ = some (.slice (some ⟨ge kk, 0, none⟩) B.takes.length ce) ∧ V.cell? ⟨ge kk, pos, none⟩ = some (.int .i64 (la : Nat)) ∧ V.cell? ⟨T, 3, none⟩ = some (.slice (some ⟨gn, 0, none⟩) B.takes.length c3) ∧ V.cell? ⟨gn, pos, none⟩ = some (.slice van ln.length vcn)) w8 := ⟨turn_cell HX.out.2.2 hF8 hS0.1, turn_cell HX.out.2.2 hF8 hS0.2.1, turn_cell HX.out.2.2 hF8 hS0.2.2.1, turn_cell HX.out.2.2 hF8 hS0.2.2.2.1, turn_cell HX.out.2.2 hF8 hS0.2.2.2.2.1, turn_cell HX.out.2.2 hF8 hS0.2.2.2.2.2⟩
   refine ⟨hS1, ?_⟩
   simp only [Act.put, List.setIfInBounds_toArray, List.set_cons_zero, List.set_cons_succ]
   refine tq 25 7 hS1 ?_
   simp only [Act.put, List.setIfInBounds_toArray, List.set_cons_zero, List.set_cons_succ]
   refine wpAnyH_done (by kernel_rfl) (hK4 _ _ ?_) _
   have HY := hideT (And.intro hT8 (HX.out.2.1.trans hF8))
   have q0 := hS1.1
   have q1 := hS1.2.1
   clear hK4 hS1 hS0 hT8 hF8 HX hmo hkd hCD
   go_upto_region 5 with fail
   rename_i K5 hK5
   have hTU := HY.out.1.below (drew_below _ w8)
   have hFU := HY.out.2.trans (TiF.of (gt := M) (gn := M) (drew_below w8.heap.size w8))
   have hS0 : (fun V : World => V.cell? ⟨T, 9, none⟩ = some (.map (some M)) ∧ V.cell? ⟨C3, 0, none⟩ = some (.int .i64 (pos : Nat)) ∧ V.cell? ⟨C3, 1, none⟩ = some (.int .i64 (pl : Nat))) w8.drew := ⟨hTU.c9, q0, q1⟩
   clear q0 q1 HY
   refine wp_region_held (S := fun V : World => V.cell? ⟨T, 9, none⟩ = some (.map (some M)) ∧ V.cell? ⟨C3, 0, none⟩ = some (.int .i64 (pos : Nat)) ∧ V.cell? ⟨C3, 1, none⟩ = some (.int .i64 (pl : Nat))) (by kernel_rfl) ?_
   show wpAnyH _ _ _ _ _ _ _ _ w8.drew
   generalize w8.drew = U5 at *
   obtain ⟨es2, cl2, hmU⟩ := hTU.map
   have hsr : s.size - pl = r := by have := HW.out.2.2.2.1; omega
   have hbe : behF B (bnS s) (s.size - pl) pos = bh := by rw [hsr, HW.out.2.2.2.2.2.1]
   obtain ⟨w9, hrun, hF9, hC9⟩ := hTU.co.put HW.out.2.1 HW.out.2.2.2.2.1.N HW.out.2.2.1 (by have := HW.out.2.2.2.1; omega) HW.out.2.2.2.2.1.s (beh_le HW.out.2.2.2.2.1 _ _)
   rw [hbe] at hrun
   refine tq 0 44 hS0 ?_
   refine tq 1 45 hS0 ?_
   refine tq 2 46 hS0 ?_
   refine tq 3 47 hS0 ?_
   simp only [Act.put, List.setIfInBounds_toArray, List.set_cons_zero, List.set_cons_succ]
   refine tq 4 48 hS0 ?_
   refine tq 5 49 hS0 ?_
   simp only [Act.put, List.setIfInBounds_toArray, List.set_cons_zero, List.set_cons_succ]
   refine wpAnyH_all (rs := [6]) (by kernel_rfl) (by simp) (fun j hj => ?_)
   obtain rfl : j = 6 := List.mem_singleton.1 hj
   clear hj
   refine op_skip (w' := w9) rfl rfl (by rfl) (update_skip rfl rfl rfl rfl hrun) ⟨⟨turn_cell hmU hF9 hS0.1, turn_cell hmU hF9 hS0.2.1, turn_cell hmU hF9 hS0.2.2⟩, ?_⟩
   simp only [Act.put]
   refine wpAnyH_done (by kernel_rfl) (hK5 _ _ ?_) _
   have HZ := hideT (show TcV w9 X T s B gt gn gl ge lo M ∧ TiF M M W w9 from ⟨⟨hTU.ta.turn hmU hF9, turn_cell hmU hF9 hTU.c9, hC9⟩, hFU.trans hF9⟩)
   clear hK5 hS0 hrun hF9 hC9 hTU hFU hmU hsr hbe
   go_wp2_with fail
   go_ret
   exact ⟨rfl, HZ.out⟩
 · have hcz := hbz rfl
   subst hcz
   clear hbz
   go_wp2_with fail
   go_ret
   exact ⟨rfl, HU.out⟩
theorem mb_any (hf : FitB B s) : ∀ r, MoreIH B s X T gt gn gl ge lo M r ∧ BehIH B s X T gt gn gl ge lo M r
 | 0 => ⟨more_0, beh_s hf more_0⟩
 | r + 1 => by
  have h := more_s hf (mb_any hf r).2
  exact ⟨h, beh_s hf h⟩
end Go.Proofs.Ytolpakpdkheanaa.tly
