/- bre: the document's reader: part, a bracket expression. -/
import Derived.Test.YtgpciekpmdihnaaKDf
import Derived.Deep.QuietTactic
namespace Go.Proofs.Ytgpciekpmdihnaa
open Go.RowKit
theorem brk_tok {s : ByteArray} {i k : Nat} (h : byteAt s i = 91) : tokenT s i k = bracketT s i := by
  unfold tokenT
  rw [if_neg (by omega), if_pos h]
set_option maxRecDepth 100000 in
set_option maxHeartbeats 4000000 in
theorem part_brk (s : ByteArray) (hs : s.size ≤ 512) (b : Nat) (r : Rd) (P : Ps) (k : Nat) (ts : List Tr) (h : Sim s r P k) (hts : P.top.parts = ts) (hi : r.pos < s.size) (w : World) (hI : IsRd w b s r) (ff bb : Bool) (c1 : seeB s ⟨#[92, 40]⟩ r.pos = false) (c2 : seeB s ⟨#[92, 123]⟩ r.pos = false) (c3 : seeB s ⟨#[92, 125]⟩ r.pos = false) (hb : byteAt s r.pos = 91) :
    Calls Try.prog 33 #[.pointer (some ⟨b, 0, none⟩), .bool ff, .bool bb] w fun x w' => ∃ r' t u, x = .returned (nodeA t u) ∧ RO s b w (fun _ => False) w' r' t u ∧ PL s r.pos k P ts r' t := by
  have htk : tokenT s r.pos k = bracketT s r.pos := brk_tok hb
  have hb2 : (s[r.pos].toNat : Int) = 91 := by rw [← byteAt_in hi]; exact hb
  have hpx := fun w => docParse_any s (by omega) (r.pos : Int) w
  obtain ⟨pr, hpr⟩ : ∃ pr, pr = parseX s (r.pos : Int) := ⟨_, rfl⟩
  rw [← hpr] at hpx
  unfold bracketT at htk
  rw [← hpr] at htk
  have hzz : 0 ≤ r.size ∧ r.size ≤ 1000000000 := by have h8 := h.z; have h7 := h.well.good.big; have h6 := h.well.good.bounds; omega
  clear hb
  by_cases he : pr.e = 0
  · rw [if_neg (by rw [he]; decide)] at htk
    have hl := leaf_byte hs h hts hi htk
    rw [he] at hpx
    have HP := hideT (And.intro hpx hl)
    clear htk hl hpr he hpx
    have hs30 : s.size ≤ 1073741824 := by omega
    have p0 : (0 : Int) ≤ (r.pos : Int) := by omega
    have p1 : (r.pos : Int) < (s.size : Int) := by omega
    obtain ⟨X, hX⟩ : ∃ X, X = w.alloc (.cells #[.int .i64 0, .int .u64 0, .int .u64 0, .int .u64 0, .int .u64 0, .int .i64 0, .int .i64 0, .int .i64 0, .slice none 0 0] 27) := ⟨_, rfl⟩
    have HX : Hid (ZI s b w X r) := by rw [hX]; exact ZI.start hI
    have hXs : X.heap.size = w.heap.size + 1 := by rw [hX, World.size_alloc]
    have hBX : Below w.heap.size w X := by rw [hX]; exact (Below.refl _ _).alloc (Nat.le_refl _) _
    obtain ⟨rc0, rf0⟩ := HX.out.rd.cell 0 _ rfl
    obtain ⟨rc1, rf1⟩ := HX.out.rd.cell 1 _ rfl
    go_enter Try.func33, Try.ntmps33
    go_upto_region 1 with fail
    rw [← hX]
    clear hX
    go_wp2_with fail
    have hS1 := see_any s ⟨#[92, 40]⟩ hs30 (by decide) r (by omega) b X HX.out.rd
    rw [c1] at hS1
    refine hS1.mono ?_
    rintro e1 w1 ⟨rfl, n1, rfl⟩
    have H1 := hideT (HX.out.drew n1)
    have hs1 : (X.drewN n1).heap.size = X.heap.size := rfl
    have hB1 : Below w.heap.size w (X.drewN n1) := hBX.trans (below_drewN _ _ _)
    clear hS1 rc0 rf0 rc1 rf1
    generalize X.drewN n1 = w1 at *
    obtain ⟨rc0, rf0⟩ := H1.out.rd.cell 0 _ rfl
    obtain ⟨rc1, rf1⟩ := H1.out.rd.cell 1 _ rfl
    go_wp2_with fail
    have hS2 := see_any s ⟨#[92, 123]⟩ hs30 (by decide) r (by omega) b w1 H1.out.rd
    rw [c2] at hS2
    refine hS2.mono ?_
    rintro e2 w2 ⟨rfl, n2, rfl⟩
    have H2 := hideT (H1.out.drew n2)
    have hs2 : (w1.drewN n2).heap.size = w1.heap.size := rfl
    have hB2 : Below w.heap.size w (w1.drewN n2) := hB1.trans (below_drewN _ _ _)
    clear hS2 rc0 rf0 rc1 rf1
    generalize w1.drewN n2 = w2 at *
    obtain ⟨rc0, rf0⟩ := H2.out.rd.cell 0 _ rfl
    obtain ⟨rc1, rf1⟩ := H2.out.rd.cell 1 _ rfl
    go_wp2_with fail
    have hS3 := see_any s ⟨#[92, 125]⟩ hs30 (by decide) r (by omega) b w2 H2.out.rd
    rw [c3] at hS3
    refine hS3.mono ?_
    rintro e3 w3 ⟨rfl, n3, rfl⟩
    have H3 := hideT (H2.out.drew n3)
    have hs3 : (w2.drewN n3).heap.size = w2.heap.size := rfl
    have hB3 : Below w.heap.size w (w2.drewN n3) := hB2.trans (below_drewN _ _ _)
    clear hS3 rc0 rf0 rc1 rf1
    generalize w2.drewN n3 = w3 at *
    obtain ⟨rc0, rf0⟩ := H3.out.rd.cell 0 _ rfl
    obtain ⟨rc1, rf1⟩ := H3.out.rd.cell 1 _ rfl
    clear c1 c2 c3
    go_wp2_with fail
    refine (HP.out.1 w3).mono ?_
    rintro e4 w4 ⟨rfl, hb4⟩
    have H4 := hideT (H3.out.below hb4)
    clear hb4 rc0 rf0 rc1 rf1
    obtain ⟨V, hV⟩ : ∃ V, V = w4.alloc (.cells #[.int .u64 (wd pr.q 0 : Nat), .int .u64 (wd pr.q 1 : Nat), .int .u64 (wd pr.q 2 : Nat), .int .u64 (wd pr.q 3 : Nat)] 24) := ⟨_, rfl⟩
    have hBV : Below w4.heap.size w4 V := by rw [hV]; exact (Below.refl _ _).alloc (Nat.le_refl _) _
    have hvb : V.heap[w4.heap.size]? = some (.cells #[.int .u64 (wd pr.q 0 : Nat), .int .u64 (wd pr.q 1 : Nat), .int .u64 (wd pr.q 2 : Nat), .int .u64 (wd pr.q 3 : Nat)] 24 (0, 0)) := by rw [hV]; exact heap_alloc_new w4 _
    have H5 := hideT (H4.out.below hBV)
    go_upto_region 12 with fail
    rw [← hV]
    clear hV hBV
    obtain ⟨rc0, rf0⟩ := H5.out.rd.cell 0 _ rfl
    obtain ⟨rc1, rf1⟩ := H5.out.rd.cell 1 _ rfl
    obtain ⟨V1, hV1⟩ : ∃ V1, V1 = V.setCell ⟨b, 1, none⟩ (.int .i64 (pr.next : Nat)) := ⟨_, rfl⟩
    have H6 : Hid (ZI s b w V1 { r with pos := pr.next }) := by rw [hV1]; exact H5.out.put 1 _ rfl
    have hnb : w4.heap.size ≠ b := by have := H4.out.rd.lt; omega
    have hvb1 : V1.heap[w4.heap.size]? = some (.cells #[.int .u64 (wd pr.q 0 : Nat), .int .u64 (wd pr.q 1 : Nat), .int .u64 (wd pr.q 2 : Nat), .int .u64 (wd pr.q 3 : Nat)] 24 (0, 0)) := by rw [hV1]; exact (put_far _ _ _ _ hnb).trans hvb
    go_upto_region 16 with fail
    rw [← hV1]
    clear hV1 hvb
    have hgw := grown_any s { r with pos := pr.next } b 1 r.pos (by omega) hzz V1 H6.out.rd
    clear rc0 rf0 rc1 rf1
    go_wp2_with fail
    refine hgw.mono ?_
    rintro e7 w7 ⟨⟨v7, rfl⟩, hI7, hG7⟩
    have H7 := hideT (H6.out.step hG7 hI7)
    have hvb7 := (hG7.block w4.heap.size (Array.getElem?_eq_some_iff.1 hvb1).1 (fun e => by cases e; exact hnb rfl)).trans hvb1
    have g0 : w7.cell? ⟨w4.heap.size, 0, none⟩ = some (.int .u64 (wd pr.q 0 : Nat)) := by simp [World.cell?, hvb7]
    have g1 : w7.cell? ⟨w4.heap.size, 1, none⟩ = some (.int .u64 (wd pr.q 1 : Nat)) := by simp [World.cell?, hvb7]
    have g2 : w7.cell? ⟨w4.heap.size, 2, none⟩ = some (.int .u64 (wd pr.q 2 : Nat)) := by simp [World.cell?, hvb7]
    have g3 : w7.cell? ⟨w4.heap.size, 3, none⟩ = some (.int .u64 (wd pr.q 3 : Nat)) := by simp [World.cell?, hvb7]
    clear hgw hI7 hG7 hvb1 hvb7 hnb
    obtain ⟨zc0, zf0⟩ := H7.out.zb.cell 0 _ rfl
    obtain ⟨zc1, zf1⟩ := H7.out.zb.cell 1 _ rfl
    obtain ⟨zc2, zf2⟩ := H7.out.zb.cell 2 _ rfl
    obtain ⟨zc3, zf3⟩ := H7.out.zb.cell 3 _ rfl
    obtain ⟨zc4, zf4⟩ := H7.out.zb.cell 4 _ rfl
    obtain ⟨zc5, zf5⟩ := H7.out.zb.cell 5 _ rfl
    obtain ⟨zc6, zf6⟩ := H7.out.zb.cell 6 _ rfl
    obtain ⟨zc7, zf7⟩ := H7.out.zb.cell 7 _ rfl
    obtain ⟨zc8, zf8⟩ := H7.out.zb.cell 8 _ rfl
    go_wp2
    obtain ⟨Y, hY⟩ : ∃ Y, Y = (((((((((w7).setCell ⟨w.heap.size, 0, none⟩ (.int .i64 1)).setCell ⟨w.heap.size, 1, none⟩ (.int .u64 (wd pr.q 0 : Nat))).setCell ⟨w.heap.size, 2, none⟩ (.int .u64 (wd pr.q 1 : Nat))).setCell ⟨w.heap.size, 3, none⟩ (.int .u64 (wd pr.q 2 : Nat))).setCell ⟨w.heap.size, 4, none⟩ (.int .u64 (wd pr.q 3 : Nat))).setCell ⟨w.heap.size, 5, none⟩ (.int .i64 0)).setCell ⟨w.heap.size, 6, none⟩ (.int .i64 0)).setCell ⟨w.heap.size, 7, none⟩ (.int .i64 0)).setCell ⟨w.heap.size, 8, none⟩ (.slice none 0 0) := ⟨_, rfl⟩
    have hYo : RO s b w (fun _ => False) Y (({ r with pos := pr.next } : Rd).grow 1 r.pos) (byteT pr.q) (.slice none 0 0) ∧ Blk9 Y w.heap.size (nodeV (byteT pr.q) (.slice none 0 0)) := by rw [hY]; exact H7.out.answer (byteT pr.q) (Kids.none _ _)
    rw [← hY]
    clear hY
    have o0 : Y.cell? ⟨w.heap.size, 0, none⟩ = some (.int .i64 1) := (hYo.2.cell 0 _ rfl).1
    have o1 : Y.cell? ⟨w.heap.size, 1, none⟩ = some (.int .u64 (wd pr.q 0 : Nat)) := (hYo.2.cell 1 _ rfl).1
    have o2 : Y.cell? ⟨w.heap.size, 2, none⟩ = some (.int .u64 (wd pr.q 1 : Nat)) := (hYo.2.cell 2 _ rfl).1
    have o3 : Y.cell? ⟨w.heap.size, 3, none⟩ = some (.int .u64 (wd pr.q 2 : Nat)) := (hYo.2.cell 3 _ rfl).1
    have o4 : Y.cell? ⟨w.heap.size, 4, none⟩ = some (.int .u64 (wd pr.q 3 : Nat)) := (hYo.2.cell 4 _ rfl).1
    have o5 : Y.cell? ⟨w.heap.size, 5, none⟩ = some (.int .i64 0) := (hYo.2.cell 5 _ rfl).1
    have o6 : Y.cell? ⟨w.heap.size, 6, none⟩ = some (.int .i64 0) := (hYo.2.cell 6 _ rfl).1
    have o7 : Y.cell? ⟨w.heap.size, 7, none⟩ = some (.int .i64 0) := (hYo.2.cell 7 _ rfl).1
    have o8 : Y.cell? ⟨w.heap.size, 8, none⟩ = some (.slice none 0 0) := (hYo.2.cell 8 _ rfl).1
    refine bodyPost_ret (v := .agg #[.int .i64 1, .int .u64 (wd pr.q 0 : Nat), .int .u64 (wd pr.q 1 : Nat), .int .u64 (wd pr.q 2 : Nat), .int .u64 (wd pr.q 3 : Nat), .int .i64 0, .int .i64 0, .int .i64 0, .slice none 0 0]) (by simp [results, Try.results33, go_sem, o0, o1, o2, o3, o4, o5, o6, o7, o8]; try rfl) rfl ?_
    exact ⟨(({ r with pos := pr.next } : Rd).grow 1 r.pos), (byteT pr.q), _, rfl, hYo.1, HP.out.2⟩
  · rw [if_pos he] at htk
    have hne : (pr.e != 0) = true := by simpa using he
    have hfe := failed_e h.e pr.e r.pos
    have hfa : Fails s r.pos k P (if r.e = 0 then { r with e := pr.e, place := r.pos } else r) := leaf_fault hi he (by rw [htk]; rfl) hfe.1 hfe.2
    have HFA := hideT hfa
    have HP := hideT hpx
    clear htk hfe hfa hpr he hpx
    have hs30 : s.size ≤ 1073741824 := by omega
    have p0 : (0 : Int) ≤ (r.pos : Int) := by omega
    have p1 : (r.pos : Int) < (s.size : Int) := by omega
    obtain ⟨X, hX⟩ : ∃ X, X = w.alloc (.cells #[.int .i64 0, .int .u64 0, .int .u64 0, .int .u64 0, .int .u64 0, .int .i64 0, .int .i64 0, .int .i64 0, .slice none 0 0] 27) := ⟨_, rfl⟩
    have HX : Hid (ZI s b w X r) := by rw [hX]; exact ZI.start hI
    have hXs : X.heap.size = w.heap.size + 1 := by rw [hX, World.size_alloc]
    have hBX : Below w.heap.size w X := by rw [hX]; exact (Below.refl _ _).alloc (Nat.le_refl _) _
    obtain ⟨rc0, rf0⟩ := HX.out.rd.cell 0 _ rfl
    obtain ⟨rc1, rf1⟩ := HX.out.rd.cell 1 _ rfl
    go_enter Try.func33, Try.ntmps33
    go_upto_region 1 with fail
    rw [← hX]
    clear hX
    go_wp2_with fail
    have hS1 := see_any s ⟨#[92, 40]⟩ hs30 (by decide) r (by omega) b X HX.out.rd
    rw [c1] at hS1
    refine hS1.mono ?_
    rintro e1 w1 ⟨rfl, n1, rfl⟩
    have H1 := hideT (HX.out.drew n1)
    have hs1 : (X.drewN n1).heap.size = X.heap.size := rfl
    have hB1 : Below w.heap.size w (X.drewN n1) := hBX.trans (below_drewN _ _ _)
    clear hS1 rc0 rf0 rc1 rf1
    generalize X.drewN n1 = w1 at *
    obtain ⟨rc0, rf0⟩ := H1.out.rd.cell 0 _ rfl
    obtain ⟨rc1, rf1⟩ := H1.out.rd.cell 1 _ rfl
    go_wp2_with fail
    have hS2 := see_any s ⟨#[92, 123]⟩ hs30 (by decide) r (by omega) b w1 H1.out.rd
    rw [c2] at hS2
    refine hS2.mono ?_
    rintro e2 w2 ⟨rfl, n2, rfl⟩
    have H2 := hideT (H1.out.drew n2)
    have hs2 : (w1.drewN n2).heap.size = w1.heap.size := rfl
    have hB2 : Below w.heap.size w (w1.drewN n2) := hB1.trans (below_drewN _ _ _)
    clear hS2 rc0 rf0 rc1 rf1
    generalize w1.drewN n2 = w2 at *
    obtain ⟨rc0, rf0⟩ := H2.out.rd.cell 0 _ rfl
    obtain ⟨rc1, rf1⟩ := H2.out.rd.cell 1 _ rfl
    go_wp2_with fail
    have hS3 := see_any s ⟨#[92, 125]⟩ hs30 (by decide) r (by omega) b w2 H2.out.rd
    rw [c3] at hS3
    refine hS3.mono ?_
    rintro e3 w3 ⟨rfl, n3, rfl⟩
    have H3 := hideT (H2.out.drew n3)
    have hs3 : (w2.drewN n3).heap.size = w2.heap.size := rfl
    have hB3 : Below w.heap.size w (w2.drewN n3) := hB2.trans (below_drewN _ _ _)
    clear hS3 rc0 rf0 rc1 rf1
    generalize w2.drewN n3 = w3 at *
    obtain ⟨rc0, rf0⟩ := H3.out.rd.cell 0 _ rfl
    obtain ⟨rc1, rf1⟩ := H3.out.rd.cell 1 _ rfl
    clear c1 c2 c3
    go_wp2_with fail
    refine (HP.out w3).mono ?_
    rintro e4 w4 ⟨rfl, hb4⟩
    have H4 := hideT (H3.out.below hb4)
    clear hb4 rc0 rf0 rc1 rf1
    obtain ⟨V, hV⟩ : ∃ V, V = w4.alloc (.cells #[.int .u64 (wd pr.q 0 : Nat), .int .u64 (wd pr.q 1 : Nat), .int .u64 (wd pr.q 2 : Nat), .int .u64 (wd pr.q 3 : Nat)] 24) := ⟨_, rfl⟩
    have hBV : Below w4.heap.size w4 V := by rw [hV]; exact (Below.refl _ _).alloc (Nat.le_refl _) _
    have H5 := hideT (H4.out.below hBV)
    go_upto_region 12 with fail
    rw [← hV]
    clear hV hBV
    obtain ⟨rc0, rf0⟩ := H5.out.rd.cell 0 _ rfl
    obtain ⟨rc1, rf1⟩ := H5.out.rd.cell 1 _ rfl
    have hfl := fail_any s r b pr.e r.pos V H5.out.rd
    have HP : Hid (PL s r.pos k P ts (if r.e = 0 then { r with e := pr.e, place := r.pos } else r) (.mk 0 noneP 0 0 0 [])) := hideT (.inl HFA.out)
    generalize (if r.e = 0 then { r with e := pr.e, place := r.pos } else r) = rr at *
    go_wp2_with fail
    refine hfl.mono ?_
    rintro e9 w9 ⟨⟨v9, rfl⟩, hI9, hG9⟩
    have H9 := hideT (H5.out.step hG9 hI9)
    clear hfl hI9 hG9 rc0 rf0 rc1 rf1
    obtain ⟨zc0, zf0⟩ := H9.out.zb.cell 0 _ rfl
    obtain ⟨zc1, zf1⟩ := H9.out.zb.cell 1 _ rfl
    obtain ⟨zc2, zf2⟩ := H9.out.zb.cell 2 _ rfl
    obtain ⟨zc3, zf3⟩ := H9.out.zb.cell 3 _ rfl
    obtain ⟨zc4, zf4⟩ := H9.out.zb.cell 4 _ rfl
    obtain ⟨zc5, zf5⟩ := H9.out.zb.cell 5 _ rfl
    obtain ⟨zc6, zf6⟩ := H9.out.zb.cell 6 _ rfl
    obtain ⟨zc7, zf7⟩ := H9.out.zb.cell 7 _ rfl
    obtain ⟨zc8, zf8⟩ := H9.out.zb.cell 8 _ rfl
    go_wp2
    obtain ⟨Y, hY⟩ : ∃ Y, Y = (((((((((w9).setCell ⟨w.heap.size, 0, none⟩ (.int .i64 0)).setCell ⟨w.heap.size, 1, none⟩ (.int .u64 0)).setCell ⟨w.heap.size, 2, none⟩ (.int .u64 0)).setCell ⟨w.heap.size, 3, none⟩ (.int .u64 0)).setCell ⟨w.heap.size, 4, none⟩ (.int .u64 0)).setCell ⟨w.heap.size, 5, none⟩ (.int .i64 0)).setCell ⟨w.heap.size, 6, none⟩ (.int .i64 0)).setCell ⟨w.heap.size, 7, none⟩ (.int .i64 0)).setCell ⟨w.heap.size, 8, none⟩ (.slice none 0 0) := ⟨_, rfl⟩
    have hYo : RO s b w (fun _ => False) Y rr (.mk 0 noneP 0 0 0 []) (.slice none 0 0) ∧ Blk9 Y w.heap.size (nodeV (.mk 0 noneP 0 0 0 []) (.slice none 0 0)) := by rw [hY]; exact H9.out.answer (.mk 0 noneP 0 0 0 []) (Kids.none _ _)
    rw [← hY]
    clear hY
    have o0 : Y.cell? ⟨w.heap.size, 0, none⟩ = some (.int .i64 0) := (hYo.2.cell 0 _ rfl).1
    have o1 : Y.cell? ⟨w.heap.size, 1, none⟩ = some (.int .u64 0) := (hYo.2.cell 1 _ rfl).1
    have o2 : Y.cell? ⟨w.heap.size, 2, none⟩ = some (.int .u64 0) := (hYo.2.cell 2 _ rfl).1
    have o3 : Y.cell? ⟨w.heap.size, 3, none⟩ = some (.int .u64 0) := (hYo.2.cell 3 _ rfl).1
    have o4 : Y.cell? ⟨w.heap.size, 4, none⟩ = some (.int .u64 0) := (hYo.2.cell 4 _ rfl).1
    have o5 : Y.cell? ⟨w.heap.size, 5, none⟩ = some (.int .i64 0) := (hYo.2.cell 5 _ rfl).1
    have o6 : Y.cell? ⟨w.heap.size, 6, none⟩ = some (.int .i64 0) := (hYo.2.cell 6 _ rfl).1
    have o7 : Y.cell? ⟨w.heap.size, 7, none⟩ = some (.int .i64 0) := (hYo.2.cell 7 _ rfl).1
    have o8 : Y.cell? ⟨w.heap.size, 8, none⟩ = some (.slice none 0 0) := (hYo.2.cell 8 _ rfl).1
    refine bodyPost_ret (v := .agg #[.int .i64 0, .int .u64 0, .int .u64 0, .int .u64 0, .int .u64 0, .int .i64 0, .int .i64 0, .int .i64 0, .slice none 0 0]) (by simp [results, Try.results33, go_sem, o0, o1, o2, o3, o4, o5, o6, o7, o8]; try rfl) rfl ?_
    exact ⟨rr, (.mk 0 noneP 0 0 0 []), _, rfl, hYo.1, HP.out⟩
end Go.Proofs.Ytgpciekpmdihnaa
/- bre: the document's reader: part, an anchor. -/
namespace Go.Proofs.Ytgpciekpmdihnaa
open Go.RowKit
set_option maxRecDepth 100000 in
set_option maxHeartbeats 4000000 in
theorem part_bol (s : ByteArray) (hs : s.size ≤ 512) (b : Nat) (r : Rd) (P : Ps) (k : Nat) (ts : List Tr) (h : Sim s r P k) (hts : P.top.parts = ts) (hi : r.pos < s.size) (w : World) (hI : IsRd w b s r) (bb : Bool) (hk : tokenT s r.pos k = ⟨2, r.pos, r.pos + 1, 0, noneP, 0, 0, 0⟩) (c1 : seeB s ⟨#[92, 40]⟩ r.pos = false) (c2 : seeB s ⟨#[92, 123]⟩ r.pos = false) (c3 : seeB s ⟨#[92, 125]⟩ r.pos = false) (hb : byteAt s r.pos = 94) :
    Calls Try.prog 33 #[.pointer (some ⟨b, 0, none⟩), .bool true, .bool bb] w fun x w' => ∃ r' t u, x = .returned (nodeA t u) ∧ RO s b w (fun _ => False) w' r' t u ∧ PL s r.pos k P ts r' t := by
  have hl := leaf_bol hs h hts hi hk
  have hb2 : (s[r.pos].toNat : Int) = 94 := by rw [← byteAt_in hi]; exact hb
  have HL := hideT hl
  clear hl hk hb
  have hs30 : s.size ≤ 1073741824 := by omega
  have p0 : (0 : Int) ≤ (r.pos : Int) := by omega
  have p1 : (r.pos : Int) < (s.size : Int) := by omega
  obtain ⟨X, hX⟩ : ∃ X, X = w.alloc (.cells #[.int .i64 0, .int .u64 0, .int .u64 0, .int .u64 0, .int .u64 0, .int .i64 0, .int .i64 0, .int .i64 0, .slice none 0 0] 27) := ⟨_, rfl⟩
  have HX : Hid (ZI s b w X r) := by rw [hX]; exact ZI.start hI
  have hXs : X.heap.size = w.heap.size + 1 := by rw [hX, World.size_alloc]
  have hBX : Below w.heap.size w X := by rw [hX]; exact (Below.refl _ _).alloc (Nat.le_refl _) _
  obtain ⟨rc0, rf0⟩ := HX.out.rd.cell 0 _ rfl
  obtain ⟨rc1, rf1⟩ := HX.out.rd.cell 1 _ rfl
  go_enter Try.func33, Try.ntmps33
  go_upto_region 1 with fail
  rw [← hX]
  clear hX
  go_wp2_with fail
  have hS1 := see_any s ⟨#[92, 40]⟩ hs30 (by decide) r (by omega) b X HX.out.rd
  rw [c1] at hS1
  refine hS1.mono ?_
  rintro e1 w1 ⟨rfl, n1, rfl⟩
  have H1 := hideT (HX.out.drew n1)
  have hs1 : (X.drewN n1).heap.size = X.heap.size := rfl
  have hB1 : Below w.heap.size w (X.drewN n1) := hBX.trans (below_drewN _ _ _)
  clear hS1 rc0 rf0 rc1 rf1
  generalize X.drewN n1 = w1 at *
  obtain ⟨rc0, rf0⟩ := H1.out.rd.cell 0 _ rfl
  obtain ⟨rc1, rf1⟩ := H1.out.rd.cell 1 _ rfl
  go_wp2_with fail
  have hS2 := see_any s ⟨#[92, 123]⟩ hs30 (by decide) r (by omega) b w1 H1.out.rd
  rw [c2] at hS2
  refine hS2.mono ?_
  rintro e2 w2 ⟨rfl, n2, rfl⟩
  have H2 := hideT (H1.out.drew n2)
  have hs2 : (w1.drewN n2).heap.size = w1.heap.size := rfl
  have hB2 : Below w.heap.size w (w1.drewN n2) := hB1.trans (below_drewN _ _ _)
  clear hS2 rc0 rf0 rc1 rf1
  generalize w1.drewN n2 = w2 at *
  obtain ⟨rc0, rf0⟩ := H2.out.rd.cell 0 _ rfl
  obtain ⟨rc1, rf1⟩ := H2.out.rd.cell 1 _ rfl
  go_wp2_with fail
  have hS3 := see_any s ⟨#[92, 125]⟩ hs30 (by decide) r (by omega) b w2 H2.out.rd
  rw [c3] at hS3
  refine hS3.mono ?_
  rintro e3 w3 ⟨rfl, n3, rfl⟩
  have H3 := hideT (H2.out.drew n3)
  have hs3 : (w2.drewN n3).heap.size = w2.heap.size := rfl
  have hB3 : Below w.heap.size w (w2.drewN n3) := hB2.trans (below_drewN _ _ _)
  clear hS3 rc0 rf0 rc1 rf1
  generalize w2.drewN n3 = w3 at *
  obtain ⟨rc0, rf0⟩ := H3.out.rd.cell 0 _ rfl
  obtain ⟨rc1, rf1⟩ := H3.out.rd.cell 1 _ rfl
  have k5 : IntKind.i64.wrap ((r.pos : Int) + 1) = (r.pos : Int) + 1 := by rw [IntKind.wrap_i64]; omega
  go_upto_region 19 with fail
  obtain ⟨V, hV⟩ : ∃ V, V = w3.setCell ⟨b, 1, none⟩ (.int .i64 ((r.pos : Int) + 1)) := ⟨_, rfl⟩
  have H4 : Hid (ZI s b w V { r with pos := r.pos + 1 }) := by rw [hV]; exact H3.out.put 1 _ rfl
  rw [← hV]
  clear hV c1 c2 c3 rc0 rf0 rc1 rf1
  obtain ⟨rc0, rf0⟩ := H4.out.rd.cell 0 _ rfl
  obtain ⟨rc1, rf1⟩ := H4.out.rd.cell 1 _ rfl
  clear rc0 rf0 rc1 rf1
  obtain ⟨zc0, zf0⟩ := H4.out.zb.cell 0 _ rfl
  obtain ⟨zc1, zf1⟩ := H4.out.zb.cell 1 _ rfl
  obtain ⟨zc2, zf2⟩ := H4.out.zb.cell 2 _ rfl
  obtain ⟨zc3, zf3⟩ := H4.out.zb.cell 3 _ rfl
  obtain ⟨zc4, zf4⟩ := H4.out.zb.cell 4 _ rfl
  obtain ⟨zc5, zf5⟩ := H4.out.zb.cell 5 _ rfl
  obtain ⟨zc6, zf6⟩ := H4.out.zb.cell 6 _ rfl
  obtain ⟨zc7, zf7⟩ := H4.out.zb.cell 7 _ rfl
  obtain ⟨zc8, zf8⟩ := H4.out.zb.cell 8 _ rfl
  go_wp2
  obtain ⟨Y, hY⟩ : ∃ Y, Y = (((((((((V).setCell ⟨w.heap.size, 0, none⟩ (.int .i64 2)).setCell ⟨w.heap.size, 1, none⟩ (.int .u64 0)).setCell ⟨w.heap.size, 2, none⟩ (.int .u64 0)).setCell ⟨w.heap.size, 3, none⟩ (.int .u64 0)).setCell ⟨w.heap.size, 4, none⟩ (.int .u64 0)).setCell ⟨w.heap.size, 5, none⟩ (.int .i64 0)).setCell ⟨w.heap.size, 6, none⟩ (.int .i64 0)).setCell ⟨w.heap.size, 7, none⟩ (.int .i64 0)).setCell ⟨w.heap.size, 8, none⟩ (.slice none 0 0) := ⟨_, rfl⟩
  have hYo : RO s b w (fun _ => False) Y { r with pos := r.pos + 1 } bolT (.slice none 0 0) ∧ Blk9 Y w.heap.size (nodeV bolT (.slice none 0 0)) := by rw [hY]; exact H4.out.answer bolT (Kids.none _ _)
  rw [← hY]
  clear hY
  have o0 : Y.cell? ⟨w.heap.size, 0, none⟩ = some (.int .i64 2) := (hYo.2.cell 0 _ rfl).1
  have o1 : Y.cell? ⟨w.heap.size, 1, none⟩ = some (.int .u64 0) := (hYo.2.cell 1 _ rfl).1
  have o2 : Y.cell? ⟨w.heap.size, 2, none⟩ = some (.int .u64 0) := (hYo.2.cell 2 _ rfl).1
  have o3 : Y.cell? ⟨w.heap.size, 3, none⟩ = some (.int .u64 0) := (hYo.2.cell 3 _ rfl).1
  have o4 : Y.cell? ⟨w.heap.size, 4, none⟩ = some (.int .u64 0) := (hYo.2.cell 4 _ rfl).1
  have o5 : Y.cell? ⟨w.heap.size, 5, none⟩ = some (.int .i64 0) := (hYo.2.cell 5 _ rfl).1
  have o6 : Y.cell? ⟨w.heap.size, 6, none⟩ = some (.int .i64 0) := (hYo.2.cell 6 _ rfl).1
  have o7 : Y.cell? ⟨w.heap.size, 7, none⟩ = some (.int .i64 0) := (hYo.2.cell 7 _ rfl).1
  have o8 : Y.cell? ⟨w.heap.size, 8, none⟩ = some (.slice none 0 0) := (hYo.2.cell 8 _ rfl).1
  refine bodyPost_ret (v := .agg #[.int .i64 2, .int .u64 0, .int .u64 0, .int .u64 0, .int .u64 0, .int .i64 0, .int .i64 0, .int .i64 0, .slice none 0 0]) (by simp [results, Try.results33, go_sem, o0, o1, o2, o3, o4, o5, o6, o7, o8]; try rfl) rfl ?_
  exact ⟨{ r with pos := r.pos + 1 }, bolT, _, rfl, hYo.1, HL.out⟩
set_option maxRecDepth 100000 in
set_option maxHeartbeats 4000000 in
theorem part_eol (s : ByteArray) (hs : s.size ≤ 512) (b : Nat) (r : Rd) (P : Ps) (k : Nat) (ts : List Tr) (h : Sim s r P k) (hts : P.top.parts = ts) (hi : r.pos < s.size) (w : World) (hI : IsRd w b s r) (ff bb : Bool) (hk : tokenT s r.pos k = ⟨3, r.pos, r.pos + 1, 0, noneP, 0, 0, 0⟩) (c1 : seeB s ⟨#[92, 40]⟩ r.pos = false) (c2 : seeB s ⟨#[92, 123]⟩ r.pos = false) (c3 : seeB s ⟨#[92, 125]⟩ r.pos = false) (hb : byteAt s r.pos = 36) (hsh : shuts s (r.pos + 1) = true) :
    Calls Try.prog 33 #[.pointer (some ⟨b, 0, none⟩), .bool ff, .bool bb] w fun x w' => ∃ r' t u, x = .returned (nodeA t u) ∧ RO s b w (fun _ => False) w' r' t u ∧ PL s r.pos k P ts r' t := by
  have hl := leaf_eol hs h hts hi hsh hk
  have hb2 : (s[r.pos].toNat : Int) = 36 := by rw [← byteAt_in hi]; exact hb
  have HL := hideT hl
  rw [shuts_see (by omega)] at hsh
  clear hl hk hb
  have hs30 : s.size ≤ 1073741824 := by omega
  have p0 : (0 : Int) ≤ (r.pos : Int) := by omega
  have p1 : (r.pos : Int) < (s.size : Int) := by omega
  obtain ⟨X, hX⟩ : ∃ X, X = w.alloc (.cells #[.int .i64 0, .int .u64 0, .int .u64 0, .int .u64 0, .int .u64 0, .int .i64 0, .int .i64 0, .int .i64 0, .slice none 0 0] 27) := ⟨_, rfl⟩
  have HX : Hid (ZI s b w X r) := by rw [hX]; exact ZI.start hI
  have hXs : X.heap.size = w.heap.size + 1 := by rw [hX, World.size_alloc]
  have hBX : Below w.heap.size w X := by rw [hX]; exact (Below.refl _ _).alloc (Nat.le_refl _) _
  obtain ⟨rc0, rf0⟩ := HX.out.rd.cell 0 _ rfl
  obtain ⟨rc1, rf1⟩ := HX.out.rd.cell 1 _ rfl
  go_enter Try.func33, Try.ntmps33
  go_upto_region 1 with fail
  rw [← hX]
  clear hX
  go_wp2_with fail
  have hS1 := see_any s ⟨#[92, 40]⟩ hs30 (by decide) r (by omega) b X HX.out.rd
  rw [c1] at hS1
  refine hS1.mono ?_
  rintro e1 w1 ⟨rfl, n1, rfl⟩
  have H1 := hideT (HX.out.drew n1)
  have hs1 : (X.drewN n1).heap.size = X.heap.size := rfl
  have hB1 : Below w.heap.size w (X.drewN n1) := hBX.trans (below_drewN _ _ _)
  clear hS1 rc0 rf0 rc1 rf1
  generalize X.drewN n1 = w1 at *
  obtain ⟨rc0, rf0⟩ := H1.out.rd.cell 0 _ rfl
  obtain ⟨rc1, rf1⟩ := H1.out.rd.cell 1 _ rfl
  go_wp2_with fail
  have hS2 := see_any s ⟨#[92, 123]⟩ hs30 (by decide) r (by omega) b w1 H1.out.rd
  rw [c2] at hS2
  refine hS2.mono ?_
  rintro e2 w2 ⟨rfl, n2, rfl⟩
  have H2 := hideT (H1.out.drew n2)
  have hs2 : (w1.drewN n2).heap.size = w1.heap.size := rfl
  have hB2 : Below w.heap.size w (w1.drewN n2) := hB1.trans (below_drewN _ _ _)
  clear hS2 rc0 rf0 rc1 rf1
  generalize w1.drewN n2 = w2 at *
  obtain ⟨rc0, rf0⟩ := H2.out.rd.cell 0 _ rfl
  obtain ⟨rc1, rf1⟩ := H2.out.rd.cell 1 _ rfl
  go_wp2_with fail
  have hS3 := see_any s ⟨#[92, 125]⟩ hs30 (by decide) r (by omega) b w2 H2.out.rd
  rw [c3] at hS3
  refine hS3.mono ?_
  rintro e3 w3 ⟨rfl, n3, rfl⟩
  have H3 := hideT (H2.out.drew n3)
  have hs3 : (w2.drewN n3).heap.size = w2.heap.size := rfl
  have hB3 : Below w.heap.size w (w2.drewN n3) := hB2.trans (below_drewN _ _ _)
  clear hS3 rc0 rf0 rc1 rf1
  generalize w2.drewN n3 = w3 at *
  obtain ⟨rc0, rf0⟩ := H3.out.rd.cell 0 _ rfl
  obtain ⟨rc1, rf1⟩ := H3.out.rd.cell 1 _ rfl
  have k5 : IntKind.i64.wrap ((r.pos : Int) + 1) = (r.pos : Int) + 1 := by rw [IntKind.wrap_i64]; omega
  go_upto_region 19 with fail
  obtain ⟨V, hV⟩ : ∃ V, V = w3.setCell ⟨b, 1, none⟩ (.int .i64 ((r.pos : Int) + 1)) := ⟨_, rfl⟩
  have H4 : Hid (ZI s b w V { r with pos := r.pos + 1 }) := by rw [hV]; exact H3.out.put 1 _ rfl
  rw [← hV]
  clear hV c1 c2 c3 rc0 rf0 rc1 rf1
  obtain ⟨rc0, rf0⟩ := H4.out.rd.cell 0 _ rfl
  obtain ⟨rc1, rf1⟩ := H4.out.rd.cell 1 _ rfl
  by_cases hend : r.pos + 1 = s.size
  · have k6 : (r.pos : Int) + 1 = (s.size : Int) := by omega
    have k7 : ((r.pos : Int) + 1 == (s.size : Int)) = true := by rw [beq_iff_eq]; exact k6
    clear hsh
    go_wp2_with fail
    go_quiet (fail)
    have H5 := hideT (H4.out.drew nq)
    clear rc0 rf0 rc1 rf1
    generalize V.drewN nq = V5 at *
    obtain ⟨zc0, zf0⟩ := H5.out.zb.cell 0 _ rfl
    obtain ⟨zc1, zf1⟩ := H5.out.zb.cell 1 _ rfl
    obtain ⟨zc2, zf2⟩ := H5.out.zb.cell 2 _ rfl
    obtain ⟨zc3, zf3⟩ := H5.out.zb.cell 3 _ rfl
    obtain ⟨zc4, zf4⟩ := H5.out.zb.cell 4 _ rfl
    obtain ⟨zc5, zf5⟩ := H5.out.zb.cell 5 _ rfl
    obtain ⟨zc6, zf6⟩ := H5.out.zb.cell 6 _ rfl
    obtain ⟨zc7, zf7⟩ := H5.out.zb.cell 7 _ rfl
    obtain ⟨zc8, zf8⟩ := H5.out.zb.cell 8 _ rfl
    go_wp2
    obtain ⟨Y, hY⟩ : ∃ Y, Y = (((((((((V5).setCell ⟨w.heap.size, 0, none⟩ (.int .i64 3)).setCell ⟨w.heap.size, 1, none⟩ (.int .u64 0)).setCell ⟨w.heap.size, 2, none⟩ (.int .u64 0)).setCell ⟨w.heap.size, 3, none⟩ (.int .u64 0)).setCell ⟨w.heap.size, 4, none⟩ (.int .u64 0)).setCell ⟨w.heap.size, 5, none⟩ (.int .i64 0)).setCell ⟨w.heap.size, 6, none⟩ (.int .i64 0)).setCell ⟨w.heap.size, 7, none⟩ (.int .i64 0)).setCell ⟨w.heap.size, 8, none⟩ (.slice none 0 0) := ⟨_, rfl⟩
    have hYo : RO s b w (fun _ => False) Y { r with pos := r.pos + 1 } eolT (.slice none 0 0) ∧ Blk9 Y w.heap.size (nodeV eolT (.slice none 0 0)) := by rw [hY]; exact H5.out.answer eolT (Kids.none _ _)
    rw [← hY]
    clear hY
    have o0 : Y.cell? ⟨w.heap.size, 0, none⟩ = some (.int .i64 3) := (hYo.2.cell 0 _ rfl).1
    have o1 : Y.cell? ⟨w.heap.size, 1, none⟩ = some (.int .u64 0) := (hYo.2.cell 1 _ rfl).1
    have o2 : Y.cell? ⟨w.heap.size, 2, none⟩ = some (.int .u64 0) := (hYo.2.cell 2 _ rfl).1
    have o3 : Y.cell? ⟨w.heap.size, 3, none⟩ = some (.int .u64 0) := (hYo.2.cell 3 _ rfl).1
    have o4 : Y.cell? ⟨w.heap.size, 4, none⟩ = some (.int .u64 0) := (hYo.2.cell 4 _ rfl).1
    have o5 : Y.cell? ⟨w.heap.size, 5, none⟩ = some (.int .i64 0) := (hYo.2.cell 5 _ rfl).1
    have o6 : Y.cell? ⟨w.heap.size, 6, none⟩ = some (.int .i64 0) := (hYo.2.cell 6 _ rfl).1
    have o7 : Y.cell? ⟨w.heap.size, 7, none⟩ = some (.int .i64 0) := (hYo.2.cell 7 _ rfl).1
    have o8 : Y.cell? ⟨w.heap.size, 8, none⟩ = some (.slice none 0 0) := (hYo.2.cell 8 _ rfl).1
    refine bodyPost_ret (v := .agg #[.int .i64 3, .int .u64 0, .int .u64 0, .int .u64 0, .int .u64 0, .int .i64 0, .int .i64 0, .int .i64 0, .slice none 0 0]) (by simp [results, Try.results33, go_sem, o0, o1, o2, o3, o4, o5, o6, o7, o8]; try rfl) rfl ?_
    exact ⟨{ r with pos := r.pos + 1 }, eolT, _, rfl, hYo.1, HL.out⟩
  · have k7 : ((r.pos : Int) + 1 == (s.size : Int)) = false := by rw [beq_eq_false_iff_ne]; omega
    have hsee : seeB s ⟨#[92, 41]⟩ (r.pos + 1) = true := by rw [decide_eq_false hend, Bool.false_or] at hsh; exact hsh
    have cS : Hid (∀ m, Calls Try.prog 32 #[.pointer (some ⟨b, 0, none⟩), .string ⟨#[92, 41]⟩] (V.drewN m) fun e w'' => e = .returned (.bool true) ∧ ∃ m', w'' = (V.drewN m).drewN m') := hideT (fun m => by
      have h5 := see_any s ⟨#[92, 41]⟩ hs30 (by decide) { r with pos := r.pos + 1 } (by show r.pos + 1 ≤ s.size; omega) b (V.drewN m) (H4.out.drew m).rd
      rw [show seeB s ⟨#[92, 41]⟩ ({ r with pos := r.pos + 1 } : Rd).pos = true from hsee] at h5
      exact h5)
    clear hsh hsee
    go_wp2_with fail
    go_quiet (exact Calls.quiet_of (cS.out _))
    have H5 := hideT (H4.out.drew nq)
    clear cS rc0 rf0 rc1 rf1
    generalize V.drewN nq = V5 at *
    obtain ⟨zc0, zf0⟩ := H5.out.zb.cell 0 _ rfl
    obtain ⟨zc1, zf1⟩ := H5.out.zb.cell 1 _ rfl
    obtain ⟨zc2, zf2⟩ := H5.out.zb.cell 2 _ rfl
    obtain ⟨zc3, zf3⟩ := H5.out.zb.cell 3 _ rfl
    obtain ⟨zc4, zf4⟩ := H5.out.zb.cell 4 _ rfl
    obtain ⟨zc5, zf5⟩ := H5.out.zb.cell 5 _ rfl
    obtain ⟨zc6, zf6⟩ := H5.out.zb.cell 6 _ rfl
    obtain ⟨zc7, zf7⟩ := H5.out.zb.cell 7 _ rfl
    obtain ⟨zc8, zf8⟩ := H5.out.zb.cell 8 _ rfl
    go_wp2
    obtain ⟨Y, hY⟩ : ∃ Y, Y = (((((((((V5).setCell ⟨w.heap.size, 0, none⟩ (.int .i64 3)).setCell ⟨w.heap.size, 1, none⟩ (.int .u64 0)).setCell ⟨w.heap.size, 2, none⟩ (.int .u64 0)).setCell ⟨w.heap.size, 3, none⟩ (.int .u64 0)).setCell ⟨w.heap.size, 4, none⟩ (.int .u64 0)).setCell ⟨w.heap.size, 5, none⟩ (.int .i64 0)).setCell ⟨w.heap.size, 6, none⟩ (.int .i64 0)).setCell ⟨w.heap.size, 7, none⟩ (.int .i64 0)).setCell ⟨w.heap.size, 8, none⟩ (.slice none 0 0) := ⟨_, rfl⟩
    have hYo : RO s b w (fun _ => False) Y { r with pos := r.pos + 1 } eolT (.slice none 0 0) ∧ Blk9 Y w.heap.size (nodeV eolT (.slice none 0 0)) := by rw [hY]; exact H5.out.answer eolT (Kids.none _ _)
    rw [← hY]
    clear hY
    have o0 : Y.cell? ⟨w.heap.size, 0, none⟩ = some (.int .i64 3) := (hYo.2.cell 0 _ rfl).1
    have o1 : Y.cell? ⟨w.heap.size, 1, none⟩ = some (.int .u64 0) := (hYo.2.cell 1 _ rfl).1
    have o2 : Y.cell? ⟨w.heap.size, 2, none⟩ = some (.int .u64 0) := (hYo.2.cell 2 _ rfl).1
    have o3 : Y.cell? ⟨w.heap.size, 3, none⟩ = some (.int .u64 0) := (hYo.2.cell 3 _ rfl).1
    have o4 : Y.cell? ⟨w.heap.size, 4, none⟩ = some (.int .u64 0) := (hYo.2.cell 4 _ rfl).1
    have o5 : Y.cell? ⟨w.heap.size, 5, none⟩ = some (.int .i64 0) := (hYo.2.cell 5 _ rfl).1
    have o6 : Y.cell? ⟨w.heap.size, 6, none⟩ = some (.int .i64 0) := (hYo.2.cell 6 _ rfl).1
    have o7 : Y.cell? ⟨w.heap.size, 7, none⟩ = some (.int .i64 0) := (hYo.2.cell 7 _ rfl).1
    have o8 : Y.cell? ⟨w.heap.size, 8, none⟩ = some (.slice none 0 0) := (hYo.2.cell 8 _ rfl).1
    refine bodyPost_ret (v := .agg #[.int .i64 3, .int .u64 0, .int .u64 0, .int .u64 0, .int .u64 0, .int .i64 0, .int .i64 0, .int .i64 0, .slice none 0 0]) (by simp [results, Try.results33, go_sem, o0, o1, o2, o3, o4, o5, o6, o7, o8]; try rfl) rfl ?_
    exact ⟨{ r with pos := r.pos + 1 }, eolT, _, rfl, hYo.1, HL.out⟩
end Go.Proofs.Ytgpciekpmdihnaa
/- bre: the document's reader: part, a byte for itself. -/
namespace Go.Proofs.Ytgpciekpmdihnaa
open Go.RowKit
set_option maxRecDepth 100000 in
set_option maxHeartbeats 4000000 in
theorem part_self (s : ByteArray) (hs : s.size ≤ 512) (b : Nat) (r : Rd) (P : Ps) (k : Nat) (ts : List Tr) (h : Sim s r P k) (hts : P.top.parts = ts) (hi : r.pos < s.size) (w : World) (hI : IsRd w b s r) (ff bb : Bool) (hk : tokenT s r.pos k = selfT (byteAt s r.pos).toNat r.pos (r.pos + 1)) (c1 : seeB s ⟨#[92, 40]⟩ r.pos = false) (c2 : seeB s ⟨#[92, 123]⟩ r.pos = false) (c3 : seeB s ⟨#[92, 125]⟩ r.pos = false) (hff : byteAt s r.pos = 94 → ff = false) (hb1 : ¬ byteAt s r.pos = 92) (hb2 : ¬ byteAt s r.pos = 91) (hb3 : ¬ byteAt s r.pos = 46) (hsh : byteAt s r.pos = 36 → shuts s (r.pos + 1) = false) :
    Calls Try.prog 33 #[.pointer (some ⟨b, 0, none⟩), .bool ff, .bool bb] w fun x w' => ∃ r' t u, x = .returned (nodeA t u) ∧ RO s b w (fun _ => False) w' r' t u ∧ PL s r.pos k P ts r' t := by
  have hl := leaf_byte hs h hts hi hk
  rw [byteAt_in hi] at hl hb1 hb2 hb3 hff hsh
  rw [Int.toNat_natCast] at hl
  have e92 : ((s[r.pos].toNat : Int) == 92) = false := by rw [beq_eq_false_iff_ne]; exact hb1
  have e91 : ((s[r.pos].toNat : Int) == 91) = false := by rw [beq_eq_false_iff_ne]; exact hb2
  have e46 : ((s[r.pos].toNat : Int) == 46) = false := by rw [beq_eq_false_iff_ne]; exact hb3
  have hzz : 0 ≤ r.size ∧ r.size ≤ 1000000000 := by have h8 := h.z; have h7 := h.well.good.big; have h6 := h.well.good.bounds; omega
  have HL := hideT hl
  clear hl hk hb1 hb2 hb3
  have hs30 : s.size ≤ 1073741824 := by omega
  have p0 : (0 : Int) ≤ (r.pos : Int) := by omega
  have p1 : (r.pos : Int) < (s.size : Int) := by omega
  obtain ⟨X, hX⟩ : ∃ X, X = w.alloc (.cells #[.int .i64 0, .int .u64 0, .int .u64 0, .int .u64 0, .int .u64 0, .int .i64 0, .int .i64 0, .int .i64 0, .slice none 0 0] 27) := ⟨_, rfl⟩
  have HX : Hid (ZI s b w X r) := by rw [hX]; exact ZI.start hI
  have hXs : X.heap.size = w.heap.size + 1 := by rw [hX, World.size_alloc]
  have hBX : Below w.heap.size w X := by rw [hX]; exact (Below.refl _ _).alloc (Nat.le_refl _) _
  obtain ⟨rc0, rf0⟩ := HX.out.rd.cell 0 _ rfl
  obtain ⟨rc1, rf1⟩ := HX.out.rd.cell 1 _ rfl
  go_enter Try.func33, Try.ntmps33
  go_upto_region 1 with fail
  rw [← hX]
  clear hX
  go_wp2_with fail
  have hS1 := see_any s ⟨#[92, 40]⟩ hs30 (by decide) r (by omega) b X HX.out.rd
  rw [c1] at hS1
  refine hS1.mono ?_
  rintro e1 w1 ⟨rfl, n1, rfl⟩
  have H1 := hideT (HX.out.drew n1)
  have hs1 : (X.drewN n1).heap.size = X.heap.size := rfl
  have hB1 : Below w.heap.size w (X.drewN n1) := hBX.trans (below_drewN _ _ _)
  clear hS1 rc0 rf0 rc1 rf1
  generalize X.drewN n1 = w1 at *
  obtain ⟨rc0, rf0⟩ := H1.out.rd.cell 0 _ rfl
  obtain ⟨rc1, rf1⟩ := H1.out.rd.cell 1 _ rfl
  go_wp2_with fail
  have hS2 := see_any s ⟨#[92, 123]⟩ hs30 (by decide) r (by omega) b w1 H1.out.rd
  rw [c2] at hS2
  refine hS2.mono ?_
  rintro e2 w2 ⟨rfl, n2, rfl⟩
  have H2 := hideT (H1.out.drew n2)
  have hs2 : (w1.drewN n2).heap.size = w1.heap.size := rfl
  have hB2 : Below w.heap.size w (w1.drewN n2) := hB1.trans (below_drewN _ _ _)
  clear hS2 rc0 rf0 rc1 rf1
  generalize w1.drewN n2 = w2 at *
  obtain ⟨rc0, rf0⟩ := H2.out.rd.cell 0 _ rfl
  obtain ⟨rc1, rf1⟩ := H2.out.rd.cell 1 _ rfl
  go_wp2_with fail
  have hS3 := see_any s ⟨#[92, 125]⟩ hs30 (by decide) r (by omega) b w2 H2.out.rd
  rw [c3] at hS3
  refine hS3.mono ?_
  rintro e3 w3 ⟨rfl, n3, rfl⟩
  have H3 := hideT (H2.out.drew n3)
  have hs3 : (w2.drewN n3).heap.size = w2.heap.size := rfl
  have hB3 : Below w.heap.size w (w2.drewN n3) := hB2.trans (below_drewN _ _ _)
  clear hS3 rc0 rf0 rc1 rf1
  generalize w2.drewN n3 = w3 at *
  obtain ⟨rc0, rf0⟩ := H3.out.rd.cell 0 _ rfl
  obtain ⟨rc1, rf1⟩ := H3.out.rd.cell 1 _ rfl
  have k5 : IntKind.i64.wrap ((r.pos : Int) + 1) = (r.pos : Int) + 1 := by rw [IntKind.wrap_i64]; omega
  go_upto_region 19 with fail
  obtain ⟨V, hV⟩ : ∃ V, V = w3.setCell ⟨b, 1, none⟩ (.int .i64 ((r.pos : Int) + 1)) := ⟨_, rfl⟩
  have H4 : Hid (ZI s b w V { r with pos := r.pos + 1 }) := by rw [hV]; exact H3.out.put 1 _ rfl
  rw [← hV]
  clear hV c1 c2 c3 rc0 rf0 rc1 rf1
  obtain ⟨rc0, rf0⟩ := H4.out.rd.cell 0 _ rfl
  obtain ⟨rc1, rf1⟩ := H4.out.rd.cell 1 _ rfl
  by_cases c94 : (s[r.pos].toNat : Int) = 94
  · have hf := hff c94
    subst hf
    have e94 : ((s[r.pos].toNat : Int) == 94) = true := by rw [beq_iff_eq]; exact c94
    have e36 : ((s[r.pos].toNat : Int) == 36) = false := by rw [beq_eq_false_iff_ne]; omega
    clear hff hsh c94
    go_wp2_with fail
    go_quiet (fail)
    have H5 := hideT (H4.out.drew nq)
    clear rc0 rf0 rc1 rf1
    generalize V.drewN nq = V5 at *
    have hgw := grown_any s { r with pos := r.pos + 1 } b 1 r.pos (by omega) hzz V5 H5.out.rd
    go_wp2_with fail
    refine hgw.mono ?_
    rintro e7 w7 ⟨⟨v7, rfl⟩, hI7, hG7⟩
    have H7 := hideT (H5.out.step hG7 hI7)
    clear hgw hI7 hG7
    have hby := bytes_any s[r.pos].toNat w7
    go_wp2_with fail
    refine hby.mono ?_
    rintro e8 w8 ⟨rfl, hb8⟩
    have H8 := hideT (H7.out.below hb8)
    clear hby hb8
    obtain ⟨zc0, zf0⟩ := H8.out.zb.cell 0 _ rfl
    obtain ⟨zc1, zf1⟩ := H8.out.zb.cell 1 _ rfl
    obtain ⟨zc2, zf2⟩ := H8.out.zb.cell 2 _ rfl
    obtain ⟨zc3, zf3⟩ := H8.out.zb.cell 3 _ rfl
    obtain ⟨zc4, zf4⟩ := H8.out.zb.cell 4 _ rfl
    obtain ⟨zc5, zf5⟩ := H8.out.zb.cell 5 _ rfl
    obtain ⟨zc6, zf6⟩ := H8.out.zb.cell 6 _ rfl
    obtain ⟨zc7, zf7⟩ := H8.out.zb.cell 7 _ rfl
    obtain ⟨zc8, zf8⟩ := H8.out.zb.cell 8 _ rfl
    go_wp2
    obtain ⟨Y, hY⟩ : ∃ Y, Y = (((((((((w8).setCell ⟨w.heap.size, 0, none⟩ (.int .i64 1)).setCell ⟨w.heap.size, 1, none⟩ (.int .u64 (wd (selfP s[r.pos].toNat) 0 : Nat))).setCell ⟨w.heap.size, 2, none⟩ (.int .u64 (wd (selfP s[r.pos].toNat) 1 : Nat))).setCell ⟨w.heap.size, 3, none⟩ (.int .u64 (wd (selfP s[r.pos].toNat) 2 : Nat))).setCell ⟨w.heap.size, 4, none⟩ (.int .u64 (wd (selfP s[r.pos].toNat) 3 : Nat))).setCell ⟨w.heap.size, 5, none⟩ (.int .i64 0)).setCell ⟨w.heap.size, 6, none⟩ (.int .i64 0)).setCell ⟨w.heap.size, 7, none⟩ (.int .i64 0)).setCell ⟨w.heap.size, 8, none⟩ (.slice none 0 0) := ⟨_, rfl⟩
    have hYo : RO s b w (fun _ => False) Y (({ r with pos := r.pos + 1 } : Rd).grow 1 r.pos) (byteT (selfP s[r.pos].toNat)) (.slice none 0 0) ∧ Blk9 Y w.heap.size (nodeV (byteT (selfP s[r.pos].toNat)) (.slice none 0 0)) := by rw [hY]; exact H8.out.answer (byteT (selfP s[r.pos].toNat)) (Kids.none _ _)
    rw [← hY]
    clear hY
    have o0 : Y.cell? ⟨w.heap.size, 0, none⟩ = some (.int .i64 1) := (hYo.2.cell 0 _ rfl).1
    have o1 : Y.cell? ⟨w.heap.size, 1, none⟩ = some (.int .u64 (wd (selfP s[r.pos].toNat) 0 : Nat)) := (hYo.2.cell 1 _ rfl).1
    have o2 : Y.cell? ⟨w.heap.size, 2, none⟩ = some (.int .u64 (wd (selfP s[r.pos].toNat) 1 : Nat)) := (hYo.2.cell 2 _ rfl).1
    have o3 : Y.cell? ⟨w.heap.size, 3, none⟩ = some (.int .u64 (wd (selfP s[r.pos].toNat) 2 : Nat)) := (hYo.2.cell 3 _ rfl).1
    have o4 : Y.cell? ⟨w.heap.size, 4, none⟩ = some (.int .u64 (wd (selfP s[r.pos].toNat) 3 : Nat)) := (hYo.2.cell 4 _ rfl).1
    have o5 : Y.cell? ⟨w.heap.size, 5, none⟩ = some (.int .i64 0) := (hYo.2.cell 5 _ rfl).1
    have o6 : Y.cell? ⟨w.heap.size, 6, none⟩ = some (.int .i64 0) := (hYo.2.cell 6 _ rfl).1
    have o7 : Y.cell? ⟨w.heap.size, 7, none⟩ = some (.int .i64 0) := (hYo.2.cell 7 _ rfl).1
    have o8 : Y.cell? ⟨w.heap.size, 8, none⟩ = some (.slice none 0 0) := (hYo.2.cell 8 _ rfl).1
    refine bodyPost_ret (v := .agg #[.int .i64 1, .int .u64 (wd (selfP s[r.pos].toNat) 0 : Nat), .int .u64 (wd (selfP s[r.pos].toNat) 1 : Nat), .int .u64 (wd (selfP s[r.pos].toNat) 2 : Nat), .int .u64 (wd (selfP s[r.pos].toNat) 3 : Nat), .int .i64 0, .int .i64 0, .int .i64 0, .slice none 0 0]) (by simp [results, Try.results33, go_sem, o0, o1, o2, o3, o4, o5, o6, o7, o8]; try rfl) rfl ?_
    exact ⟨(({ r with pos := r.pos + 1 } : Rd).grow 1 r.pos), (byteT (selfP s[r.pos].toNat)), _, rfl, hYo.1, HL.out⟩
  · have e94 : ((s[r.pos].toNat : Int) == 94) = false := by rw [beq_eq_false_iff_ne]; exact c94
    clear hff c94
    by_cases c36 : (s[r.pos].toNat : Int) = 36
    · have e36 : ((s[r.pos].toNat : Int) == 36) = true := by rw [beq_iff_eq]; exact c36
      have hs2 := hsh c36
      rw [shuts_see (by omega), Bool.or_eq_false_iff] at hs2
      have hend : ¬ r.pos + 1 = s.size := of_decide_eq_false hs2.1
      have k7 : ((r.pos : Int) + 1 == (s.size : Int)) = false := by rw [beq_eq_false_iff_ne]; omega
      have hsee := hs2.2
      have cS : Hid (∀ m, Calls Try.prog 32 #[.pointer (some ⟨b, 0, none⟩), .string ⟨#[92, 41]⟩] (V.drewN m) fun e w'' => e = .returned (.bool false) ∧ ∃ m', w'' = (V.drewN m).drewN m') := hideT (fun m => by
        have h5 := see_any s ⟨#[92, 41]⟩ hs30 (by decide) { r with pos := r.pos + 1 } (by show r.pos + 1 ≤ s.size; omega) b (V.drewN m) (H4.out.drew m).rd
        rw [show seeB s ⟨#[92, 41]⟩ ({ r with pos := r.pos + 1 } : Rd).pos = false from hsee] at h5
        exact h5)
      clear hsh hsee hs2 c36
      go_wp2_with fail
      go_quiet (exact Calls.quiet_of (cS.out _))
      clear cS
      have H5 := hideT (H4.out.drew nq)
      clear rc0 rf0 rc1 rf1
      generalize V.drewN nq = V5 at *
      have hgw := grown_any s { r with pos := r.pos + 1 } b 1 r.pos (by omega) hzz V5 H5.out.rd
      go_wp2_with fail
      refine hgw.mono ?_
      rintro e7 w7 ⟨⟨v7, rfl⟩, hI7, hG7⟩
      have H7 := hideT (H5.out.step hG7 hI7)
      clear hgw hI7 hG7
      have hby := bytes_any s[r.pos].toNat w7
      go_wp2_with fail
      refine hby.mono ?_
      rintro e8 w8 ⟨rfl, hb8⟩
      have H8 := hideT (H7.out.below hb8)
      clear hby hb8
      obtain ⟨zc0, zf0⟩ := H8.out.zb.cell 0 _ rfl
      obtain ⟨zc1, zf1⟩ := H8.out.zb.cell 1 _ rfl
      obtain ⟨zc2, zf2⟩ := H8.out.zb.cell 2 _ rfl
      obtain ⟨zc3, zf3⟩ := H8.out.zb.cell 3 _ rfl
      obtain ⟨zc4, zf4⟩ := H8.out.zb.cell 4 _ rfl
      obtain ⟨zc5, zf5⟩ := H8.out.zb.cell 5 _ rfl
      obtain ⟨zc6, zf6⟩ := H8.out.zb.cell 6 _ rfl
      obtain ⟨zc7, zf7⟩ := H8.out.zb.cell 7 _ rfl
      obtain ⟨zc8, zf8⟩ := H8.out.zb.cell 8 _ rfl
      go_wp2
      obtain ⟨Y, hY⟩ : ∃ Y, Y = (((((((((w8).setCell ⟨w.heap.size, 0, none⟩ (.int .i64 1)).setCell ⟨w.heap.size, 1, none⟩ (.int .u64 (wd (selfP s[r.pos].toNat) 0 : Nat))).setCell ⟨w.heap.size, 2, none⟩ (.int .u64 (wd (selfP s[r.pos].toNat) 1 : Nat))).setCell ⟨w.heap.size, 3, none⟩ (.int .u64 (wd (selfP s[r.pos].toNat) 2 : Nat))).setCell ⟨w.heap.size, 4, none⟩ (.int .u64 (wd (selfP s[r.pos].toNat) 3 : Nat))).setCell ⟨w.heap.size, 5, none⟩ (.int .i64 0)).setCell ⟨w.heap.size, 6, none⟩ (.int .i64 0)).setCell ⟨w.heap.size, 7, none⟩ (.int .i64 0)).setCell ⟨w.heap.size, 8, none⟩ (.slice none 0 0) := ⟨_, rfl⟩
      have hYo : RO s b w (fun _ => False) Y (({ r with pos := r.pos + 1 } : Rd).grow 1 r.pos) (byteT (selfP s[r.pos].toNat)) (.slice none 0 0) ∧ Blk9 Y w.heap.size (nodeV (byteT (selfP s[r.pos].toNat)) (.slice none 0 0)) := by rw [hY]; exact H8.out.answer (byteT (selfP s[r.pos].toNat)) (Kids.none _ _)
      rw [← hY]
      clear hY
      have o0 : Y.cell? ⟨w.heap.size, 0, none⟩ = some (.int .i64 1) := (hYo.2.cell 0 _ rfl).1
      have o1 : Y.cell? ⟨w.heap.size, 1, none⟩ = some (.int .u64 (wd (selfP s[r.pos].toNat) 0 : Nat)) := (hYo.2.cell 1 _ rfl).1
      have o2 : Y.cell? ⟨w.heap.size, 2, none⟩ = some (.int .u64 (wd (selfP s[r.pos].toNat) 1 : Nat)) := (hYo.2.cell 2 _ rfl).1
      have o3 : Y.cell? ⟨w.heap.size, 3, none⟩ = some (.int .u64 (wd (selfP s[r.pos].toNat) 2 : Nat)) := (hYo.2.cell 3 _ rfl).1
      have o4 : Y.cell? ⟨w.heap.size, 4, none⟩ = some (.int .u64 (wd (selfP s[r.pos].toNat) 3 : Nat)) := (hYo.2.cell 4 _ rfl).1
      have o5 : Y.cell? ⟨w.heap.size, 5, none⟩ = some (.int .i64 0) := (hYo.2.cell 5 _ rfl).1
      have o6 : Y.cell? ⟨w.heap.size, 6, none⟩ = some (.int .i64 0) := (hYo.2.cell 6 _ rfl).1
      have o7 : Y.cell? ⟨w.heap.size, 7, none⟩ = some (.int .i64 0) := (hYo.2.cell 7 _ rfl).1
      have o8 : Y.cell? ⟨w.heap.size, 8, none⟩ = some (.slice none 0 0) := (hYo.2.cell 8 _ rfl).1
      refine bodyPost_ret (v := .agg #[.int .i64 1, .int .u64 (wd (selfP s[r.pos].toNat) 0 : Nat), .int .u64 (wd (selfP s[r.pos].toNat) 1 : Nat), .int .u64 (wd (selfP s[r.pos].toNat) 2 : Nat), .int .u64 (wd (selfP s[r.pos].toNat) 3 : Nat), .int .i64 0, .int .i64 0, .int .i64 0, .slice none 0 0]) (by simp [results, Try.results33, go_sem, o0, o1, o2, o3, o4, o5, o6, o7, o8]; try rfl) rfl ?_
      exact ⟨(({ r with pos := r.pos + 1 } : Rd).grow 1 r.pos), (byteT (selfP s[r.pos].toNat)), _, rfl, hYo.1, HL.out⟩
    · have e36 : ((s[r.pos].toNat : Int) == 36) = false := by rw [beq_eq_false_iff_ne]; exact c36
      clear hsh c36
      go_wp2_with fail
      go_quiet (fail)
      have H5 := hideT (H4.out.drew nq)
      clear rc0 rf0 rc1 rf1
      generalize V.drewN nq = V5 at *
      have hgw := grown_any s { r with pos := r.pos + 1 } b 1 r.pos (by omega) hzz V5 H5.out.rd
      go_wp2_with fail
      refine hgw.mono ?_
      rintro e7 w7 ⟨⟨v7, rfl⟩, hI7, hG7⟩
      have H7 := hideT (H5.out.step hG7 hI7)
      clear hgw hI7 hG7
      have hby := bytes_any s[r.pos].toNat w7
      go_wp2_with fail
      refine hby.mono ?_
      rintro e8 w8 ⟨rfl, hb8⟩
      have H8 := hideT (H7.out.below hb8)
      clear hby hb8
      obtain ⟨zc0, zf0⟩ := H8.out.zb.cell 0 _ rfl
      obtain ⟨zc1, zf1⟩ := H8.out.zb.cell 1 _ rfl
      obtain ⟨zc2, zf2⟩ := H8.out.zb.cell 2 _ rfl
      obtain ⟨zc3, zf3⟩ := H8.out.zb.cell 3 _ rfl
      obtain ⟨zc4, zf4⟩ := H8.out.zb.cell 4 _ rfl
      obtain ⟨zc5, zf5⟩ := H8.out.zb.cell 5 _ rfl
      obtain ⟨zc6, zf6⟩ := H8.out.zb.cell 6 _ rfl
      obtain ⟨zc7, zf7⟩ := H8.out.zb.cell 7 _ rfl
      obtain ⟨zc8, zf8⟩ := H8.out.zb.cell 8 _ rfl
      go_wp2
      obtain ⟨Y, hY⟩ : ∃ Y, Y = (((((((((w8).setCell ⟨w.heap.size, 0, none⟩ (.int .i64 1)).setCell ⟨w.heap.size, 1, none⟩ (.int .u64 (wd (selfP s[r.pos].toNat) 0 : Nat))).setCell ⟨w.heap.size, 2, none⟩ (.int .u64 (wd (selfP s[r.pos].toNat) 1 : Nat))).setCell ⟨w.heap.size, 3, none⟩ (.int .u64 (wd (selfP s[r.pos].toNat) 2 : Nat))).setCell ⟨w.heap.size, 4, none⟩ (.int .u64 (wd (selfP s[r.pos].toNat) 3 : Nat))).setCell ⟨w.heap.size, 5, none⟩ (.int .i64 0)).setCell ⟨w.heap.size, 6, none⟩ (.int .i64 0)).setCell ⟨w.heap.size, 7, none⟩ (.int .i64 0)).setCell ⟨w.heap.size, 8, none⟩ (.slice none 0 0) := ⟨_, rfl⟩
      have hYo : RO s b w (fun _ => False) Y (({ r with pos := r.pos + 1 } : Rd).grow 1 r.pos) (byteT (selfP s[r.pos].toNat)) (.slice none 0 0) ∧ Blk9 Y w.heap.size (nodeV (byteT (selfP s[r.pos].toNat)) (.slice none 0 0)) := by rw [hY]; exact H8.out.answer (byteT (selfP s[r.pos].toNat)) (Kids.none _ _)
      rw [← hY]
      clear hY
      have o0 : Y.cell? ⟨w.heap.size, 0, none⟩ = some (.int .i64 1) := (hYo.2.cell 0 _ rfl).1
      have o1 : Y.cell? ⟨w.heap.size, 1, none⟩ = some (.int .u64 (wd (selfP s[r.pos].toNat) 0 : Nat)) := (hYo.2.cell 1 _ rfl).1
      have o2 : Y.cell? ⟨w.heap.size, 2, none⟩ = some (.int .u64 (wd (selfP s[r.pos].toNat) 1 : Nat)) := (hYo.2.cell 2 _ rfl).1
      have o3 : Y.cell? ⟨w.heap.size, 3, none⟩ = some (.int .u64 (wd (selfP s[r.pos].toNat) 2 : Nat)) := (hYo.2.cell 3 _ rfl).1
      have o4 : Y.cell? ⟨w.heap.size, 4, none⟩ = some (.int .u64 (wd (selfP s[r.pos].toNat) 3 : Nat)) := (hYo.2.cell 4 _ rfl).1
      have o5 : Y.cell? ⟨w.heap.size, 5, none⟩ = some (.int .i64 0) := (hYo.2.cell 5 _ rfl).1
      have o6 : Y.cell? ⟨w.heap.size, 6, none⟩ = some (.int .i64 0) := (hYo.2.cell 6 _ rfl).1
      have o7 : Y.cell? ⟨w.heap.size, 7, none⟩ = some (.int .i64 0) := (hYo.2.cell 7 _ rfl).1
      have o8 : Y.cell? ⟨w.heap.size, 8, none⟩ = some (.slice none 0 0) := (hYo.2.cell 8 _ rfl).1
      refine bodyPost_ret (v := .agg #[.int .i64 1, .int .u64 (wd (selfP s[r.pos].toNat) 0 : Nat), .int .u64 (wd (selfP s[r.pos].toNat) 1 : Nat), .int .u64 (wd (selfP s[r.pos].toNat) 2 : Nat), .int .u64 (wd (selfP s[r.pos].toNat) 3 : Nat), .int .i64 0, .int .i64 0, .int .i64 0, .slice none 0 0]) (by simp [results, Try.results33, go_sem, o0, o1, o2, o3, o4, o5, o6, o7, o8]; try rfl) rfl ?_
      exact ⟨(({ r with pos := r.pos + 1 } : Rd).grow 1 r.pos), (byteT (selfP s[r.pos].toNat)), _, rfl, hYo.1, HL.out⟩
set_option maxRecDepth 100000 in
set_option maxHeartbeats 4000000 in
theorem part_any_byte (s : ByteArray) (hs : s.size ≤ 512) (b : Nat) (r : Rd) (P : Ps) (k : Nat) (ts : List Tr) (h : Sim s r P k) (hts : P.top.parts = ts) (hi : r.pos < s.size) (w : World) (hI : IsRd w b s r) (ff bb : Bool) (hk : tokenT s r.pos k = ⟨1, r.pos, r.pos + 1, 0, notP noneP, 0, 0, 0⟩) (c1 : seeB s ⟨#[92, 40]⟩ r.pos = false) (c2 : seeB s ⟨#[92, 123]⟩ r.pos = false) (c3 : seeB s ⟨#[92, 125]⟩ r.pos = false) (hb : byteAt s r.pos = 46) :
    Calls Try.prog 33 #[.pointer (some ⟨b, 0, none⟩), .bool ff, .bool bb] w fun x w' => ∃ r' t u, x = .returned (nodeA t u) ∧ RO s b w (fun _ => False) w' r' t u ∧ PL s r.pos k P ts r' t := by
  have hl := leaf_byte hs h hts hi hk
  have hb2 : (s[r.pos].toNat : Int) = 46 := by rw [← byteAt_in hi]; exact hb
  have hzz : 0 ≤ r.size ∧ r.size ≤ 1000000000 := by have h8 := h.z; have h7 := h.well.good.big; have h6 := h.well.good.bounds; omega
  have HL := hideT hl
  clear hl hk hb
  have hs30 : s.size ≤ 1073741824 := by omega
  have p0 : (0 : Int) ≤ (r.pos : Int) := by omega
  have p1 : (r.pos : Int) < (s.size : Int) := by omega
  obtain ⟨X, hX⟩ : ∃ X, X = w.alloc (.cells #[.int .i64 0, .int .u64 0, .int .u64 0, .int .u64 0, .int .u64 0, .int .i64 0, .int .i64 0, .int .i64 0, .slice none 0 0] 27) := ⟨_, rfl⟩
  have HX : Hid (ZI s b w X r) := by rw [hX]; exact ZI.start hI
  have hXs : X.heap.size = w.heap.size + 1 := by rw [hX, World.size_alloc]
  have hBX : Below w.heap.size w X := by rw [hX]; exact (Below.refl _ _).alloc (Nat.le_refl _) _
  obtain ⟨rc0, rf0⟩ := HX.out.rd.cell 0 _ rfl
  obtain ⟨rc1, rf1⟩ := HX.out.rd.cell 1 _ rfl
  go_enter Try.func33, Try.ntmps33
  go_upto_region 1 with fail
  rw [← hX]
  clear hX
  go_wp2_with fail
  have hS1 := see_any s ⟨#[92, 40]⟩ hs30 (by decide) r (by omega) b X HX.out.rd
  rw [c1] at hS1
  refine hS1.mono ?_
  rintro e1 w1 ⟨rfl, n1, rfl⟩
  have H1 := hideT (HX.out.drew n1)
  have hs1 : (X.drewN n1).heap.size = X.heap.size := rfl
  have hB1 : Below w.heap.size w (X.drewN n1) := hBX.trans (below_drewN _ _ _)
  clear hS1 rc0 rf0 rc1 rf1
  generalize X.drewN n1 = w1 at *
  obtain ⟨rc0, rf0⟩ := H1.out.rd.cell 0 _ rfl
  obtain ⟨rc1, rf1⟩ := H1.out.rd.cell 1 _ rfl
  go_wp2_with fail
  have hS2 := see_any s ⟨#[92, 123]⟩ hs30 (by decide) r (by omega) b w1 H1.out.rd
  rw [c2] at hS2
  refine hS2.mono ?_
  rintro e2 w2 ⟨rfl, n2, rfl⟩
  have H2 := hideT (H1.out.drew n2)
  have hs2 : (w1.drewN n2).heap.size = w1.heap.size := rfl
  have hB2 : Below w.heap.size w (w1.drewN n2) := hB1.trans (below_drewN _ _ _)
  clear hS2 rc0 rf0 rc1 rf1
  generalize w1.drewN n2 = w2 at *
  obtain ⟨rc0, rf0⟩ := H2.out.rd.cell 0 _ rfl
  obtain ⟨rc1, rf1⟩ := H2.out.rd.cell 1 _ rfl
  go_wp2_with fail
  have hS3 := see_any s ⟨#[92, 125]⟩ hs30 (by decide) r (by omega) b w2 H2.out.rd
  rw [c3] at hS3
  refine hS3.mono ?_
  rintro e3 w3 ⟨rfl, n3, rfl⟩
  have H3 := hideT (H2.out.drew n3)
  have hs3 : (w2.drewN n3).heap.size = w2.heap.size := rfl
  have hB3 : Below w.heap.size w (w2.drewN n3) := hB2.trans (below_drewN _ _ _)
  clear hS3 rc0 rf0 rc1 rf1
  generalize w2.drewN n3 = w3 at *
  obtain ⟨rc0, rf0⟩ := H3.out.rd.cell 0 _ rfl
  obtain ⟨rc1, rf1⟩ := H3.out.rd.cell 1 _ rfl
  have k5 : IntKind.i64.wrap ((r.pos : Int) + 1) = (r.pos : Int) + 1 := by rw [IntKind.wrap_i64]; omega
  go_upto_region 19 with fail
  obtain ⟨V, hV⟩ : ∃ V, V = w3.setCell ⟨b, 1, none⟩ (.int .i64 ((r.pos : Int) + 1)) := ⟨_, rfl⟩
  have H4 : Hid (ZI s b w V { r with pos := r.pos + 1 }) := by rw [hV]; exact H3.out.put 1 _ rfl
  rw [← hV]
  clear hV c1 c2 c3 rc0 rf0 rc1 rf1
  obtain ⟨rc0, rf0⟩ := H4.out.rd.cell 0 _ rfl
  obtain ⟨rc1, rf1⟩ := H4.out.rd.cell 1 _ rfl
  go_wp2_with fail
  go_quiet (fail)
  have H5 := hideT (H4.out.drew nq)
  clear rc0 rf0 rc1 rf1
  generalize V.drewN nq = V5 at *
  have hgw := grown_any s { r with pos := r.pos + 1 } b 1 r.pos (by omega) hzz V5 H5.out.rd
  go_wp2_with fail
  refine hgw.mono ?_
  rintro e7 w7 ⟨⟨v7, rfl⟩, hI7, hG7⟩
  have H7 := hideT (H5.out.step hG7 hI7)
  clear hgw hI7 hG7
  have hno := refNotD noneP w7
  have z0 : wd noneP 0 = 0 := wd_none 0
  have z1 : wd noneP 1 = 0 := wd_none 1
  have z2 : wd noneP 2 = 0 := wd_none 2
  have z3 : wd noneP 3 = 0 := wd_none 3
  rw [z0, z1, z2, z3] at hno
  clear z0 z1 z2 z3
  go_wp2_with fail
  refine hno.mono ?_
  rintro e8 w8 ⟨rfl, hb8⟩
  have H8 := hideT (H7.out.below hb8)
  clear hno hb8
  obtain ⟨zc0, zf0⟩ := H8.out.zb.cell 0 _ rfl
  obtain ⟨zc1, zf1⟩ := H8.out.zb.cell 1 _ rfl
  obtain ⟨zc2, zf2⟩ := H8.out.zb.cell 2 _ rfl
  obtain ⟨zc3, zf3⟩ := H8.out.zb.cell 3 _ rfl
  obtain ⟨zc4, zf4⟩ := H8.out.zb.cell 4 _ rfl
  obtain ⟨zc5, zf5⟩ := H8.out.zb.cell 5 _ rfl
  obtain ⟨zc6, zf6⟩ := H8.out.zb.cell 6 _ rfl
  obtain ⟨zc7, zf7⟩ := H8.out.zb.cell 7 _ rfl
  obtain ⟨zc8, zf8⟩ := H8.out.zb.cell 8 _ rfl
  go_wp2
  obtain ⟨Y, hY⟩ : ∃ Y, Y = (((((((((w8).setCell ⟨w.heap.size, 0, none⟩ (.int .i64 1)).setCell ⟨w.heap.size, 1, none⟩ (.int .u64 (wd (notP noneP) 0 : Nat))).setCell ⟨w.heap.size, 2, none⟩ (.int .u64 (wd (notP noneP) 1 : Nat))).setCell ⟨w.heap.size, 3, none⟩ (.int .u64 (wd (notP noneP) 2 : Nat))).setCell ⟨w.heap.size, 4, none⟩ (.int .u64 (wd (notP noneP) 3 : Nat))).setCell ⟨w.heap.size, 5, none⟩ (.int .i64 0)).setCell ⟨w.heap.size, 6, none⟩ (.int .i64 0)).setCell ⟨w.heap.size, 7, none⟩ (.int .i64 0)).setCell ⟨w.heap.size, 8, none⟩ (.slice none 0 0) := ⟨_, rfl⟩
  have hYo : RO s b w (fun _ => False) Y (({ r with pos := r.pos + 1 } : Rd).grow 1 r.pos) (byteT (notP noneP)) (.slice none 0 0) ∧ Blk9 Y w.heap.size (nodeV (byteT (notP noneP)) (.slice none 0 0)) := by rw [hY]; exact H8.out.answer (byteT (notP noneP)) (Kids.none _ _)
  rw [← hY]
  clear hY
  have o0 : Y.cell? ⟨w.heap.size, 0, none⟩ = some (.int .i64 1) := (hYo.2.cell 0 _ rfl).1
  have o1 : Y.cell? ⟨w.heap.size, 1, none⟩ = some (.int .u64 (wd (notP noneP) 0 : Nat)) := (hYo.2.cell 1 _ rfl).1
  have o2 : Y.cell? ⟨w.heap.size, 2, none⟩ = some (.int .u64 (wd (notP noneP) 1 : Nat)) := (hYo.2.cell 2 _ rfl).1
  have o3 : Y.cell? ⟨w.heap.size, 3, none⟩ = some (.int .u64 (wd (notP noneP) 2 : Nat)) := (hYo.2.cell 3 _ rfl).1
  have o4 : Y.cell? ⟨w.heap.size, 4, none⟩ = some (.int .u64 (wd (notP noneP) 3 : Nat)) := (hYo.2.cell 4 _ rfl).1
  have o5 : Y.cell? ⟨w.heap.size, 5, none⟩ = some (.int .i64 0) := (hYo.2.cell 5 _ rfl).1
  have o6 : Y.cell? ⟨w.heap.size, 6, none⟩ = some (.int .i64 0) := (hYo.2.cell 6 _ rfl).1
  have o7 : Y.cell? ⟨w.heap.size, 7, none⟩ = some (.int .i64 0) := (hYo.2.cell 7 _ rfl).1
  have o8 : Y.cell? ⟨w.heap.size, 8, none⟩ = some (.slice none 0 0) := (hYo.2.cell 8 _ rfl).1
  refine bodyPost_ret (v := .agg #[.int .i64 1, .int .u64 (wd (notP noneP) 0 : Nat), .int .u64 (wd (notP noneP) 1 : Nat), .int .u64 (wd (notP noneP) 2 : Nat), .int .u64 (wd (notP noneP) 3 : Nat), .int .i64 0, .int .i64 0, .int .i64 0, .slice none 0 0]) (by simp [results, Try.results33, go_sem, o0, o1, o2, o3, o4, o5, o6, o7, o8]; try rfl) rfl ?_
  exact ⟨(({ r with pos := r.pos + 1 } : Rd).grow 1 r.pos), (byteT (notP noneP)), _, rfl, hYo.1, HL.out⟩
end Go.Proofs.Ytgpciekpmdihnaa
