/- setmatch: are two lists of spans alike? occur: are two lists of lists of spans alike? awake. occur: the matcher of a BRE without back-references. occur: awake; OccurNone. -/
import Derived.Test.YtbekghinikjjeaaGreatDoorKAa
import Derived.Test.YtbekghinikjjeaaGreatDoorKA2
import Derived.Laws.StructEq
import Derived.OwnWalk
import Derived.Test.YtbekghinikjjeaaGreatDoorKO1
import Derived.Test.YtbekghinikjjeaaGreatDoorKA9
import Derived.Test.YtbekghinikjjeaaGreatDoorKP1
import Derived.Test.YtbekghinikjjeaaGreatDoorKA5
import Derived.Test.YtbekghinikjjeaaGreatDoorKA4
import Derived.Test.YtbekghinikjjeaaGreatDoorKPp
set_option maxRecDepth 100000
set_option maxHeartbeats 4000000
namespace Go.Proofs.YtbekghinikjjeaaGreatDoor.smt
open Go.RowKit Go.Proofs.YtbekghinikjjeaaGreatDoor.br
theorem und_sp : Tryz.prog.underlying 30 = some (.struct (Tryz.prog.fieldsOf 30)) := by kernel_rfl
theorem neq_sp (x0 x1 y0 y1 : Int) (w : World) : (binOp .neq 30 (.agg #[.int .i64 x0, .int .i64 x1]) (.agg #[.int .i64 y0, .int .i64 y1])).run Tryz.prog w = .ok (.bool (!((x0 == y0) && (x1 == y1)))) w := by
 rw [run_neq_struct, run_equalIn_agg w 9999 _ _ _ und_sp (by kernel_rfl)]
 have hf : (Tryz.prog.fieldsOf 30).toList = [{ name := "From", type := 3, offset := 0, embedded := false, tag := "", pkgPath := "", byteOffset := 0 }, { name := "To", type := 3, offset := 1, embedded := false, tag := "", pkgPath := "", byteOffset := 8 }] := by kernel_rfl
 rw [hf]
 simp [Op.eqFields, go_sem]
 by_cases h0 : x0 = y0 <;> by_cases h1 : x1 = y1 <;> simp [h0, h1]
theorem sp_cells {W : World} {n : Nat} {v : Value} {l : List (Int × Int)} (h : W.ownsRow 0 30 2 v n (spV l)) {i : Nat} {x : Int × Int} (hx : l[i]? = some x) : ∃ g cap, v = .slice (some ⟨g, 0, none⟩) n cap ∧ W.cell? ⟨g, i * 2, none⟩ = some (.int .i64 x.1) ∧ W.cell? ⟨g, i * 2 + 1, none⟩ = some (.int .i64 x.2) := by
 have hi := (List.getElem?_eq_some_iff.1 hx).1
 have hl := h.1
 rw [spV_len] at hl
 rcases h.2 with ⟨_, e⟩ | ⟨g, cap, cur, rfl, _⟩
 · omega
 · exact ⟨g, cap, rfl, (owns_cell h _ _ (spV_get hx).1).1, (owns_cell h _ _ (spV_get hx).2).1⟩
theorem same_any {l k : List (Int × Int)} {a b : Value} {na nb : Nat} (w : World) (ha : w.ownsRow 0 30 2 a na (spV l)) (hb : w.ownsRow 0 30 2 b nb (spV k)) (hl : l.length ≤ 1000000) (hk : k.length ≤ 1000000) :
 Calls Tryz.prog 26 #[a, b] w fun e w' => e = .returned (.bool (decide (l = k))) ∧ Below w.heap.size w w' := by
 obtain rfl : na = l.length := by have := ha.1; rw [spV_len] at this; omega
 obtain rfl : nb = k.length := by have := hb.1; rw [spV_len] at this; omega
 obtain ⟨pa, ca, rfl⟩ := owns_shape ha
 obtain ⟨pb, cb, rfl⟩ := owns_shape hb
 have HA := hideT (And.intro ha hb)
 clear ha hb
 go_enter Tryz.func26, Tryz.ntmps26
 by_cases hn : l.length = k.length
 · have t1 : ((l.length : Int) == (k.length : Int)) = true := by simp [hn]
   go_wp2_with fail
   go_loopw [5] (fun iv wr => ∃ i : Nat, i ≤ l.length ∧ iv = .int .i64 (i : Nat) ∧ Hid (l.take i = k.take i) ∧ Hid (∃ m, wr = w.drewN m)) (fun iv _ => (l.length - intOf iv).toNat)
   case atStart => exact ⟨0, by omega, rfl, hideT rfl, hideT ⟨0, rfl⟩⟩
   case round =>
    obtain ⟨i, hi, rfl, HT, HM⟩ := hrel
    by_cases hlt : i < l.length
    · have hx := List.getElem?_eq_getElem hlt
      have hy := List.getElem?_eq_getElem (show i < k.length by omega)
      have HS := hideT (And.intro (List.take_succ_eq_append_getElem hlt) (List.take_succ_eq_append_getElem (show i < k.length by omega)))
      have HD := hideT (fun h : l = k => (by subst h; rfl : l[i] = k[i]'(by omega)))
      generalize l[i] = x at *
      generalize k[i] = y at *
      obtain ⟨ga, _, e1, q0, q1⟩ := sp_cells HA.out.1 hx
      obtain ⟨gb, _, e2, p0, p1⟩ := sp_cells HA.out.2 hy
      cases e1
      cases e2
      have hwr : ∀ q, wr.cell? q = w.cell? q := fun q => by obtain ⟨m, rfl⟩ := HM.out; rfl
      rw [← hwr] at q0 q1 p0 p1
      have i1 : (i : Int) < (l.length : Int) := by omega
      have i3 : (i : Int) < (k.length : Int) := by omega
      have i2 : (0 : Int) ≤ (i : Int) := by omega
      have HI := hideT hi
      have HL := hideT hlt
      clear hi hlt hx hy hwr
      have hxy : (x.1 == y.1 && x.2 == y.2) = decide (x = y) := by
       obtain ⟨x1, x2⟩ := x
       obtain ⟨y1, y2⟩ := y
       rw [Bool.eq_iff_iff]
       simp [Prod.mk.injEq]
      have hq := neq_sp x.1 x.2 y.1 y.2
      rw [hxy] at hq
      clear hxy
      by_cases hd : x = y
      · rw [decide_eq_true hd] at hq
        have HN := hideT (show l.take (i + 1) = k.take (i + 1) by rw [HS.out.1, HS.out.2, HT.out, hd])
        clear hd
        go_wp2_with fail
        go_quiet (fail)
        go_wp2
        exact ⟨⟨i + 1, HL.out, by go_num, HN, hideT (by obtain ⟨m, rfl⟩ := HM.out; exact ⟨_, World.drewN_drewN ..⟩)⟩, by simp [intOf]; have := HL.out; omega⟩
      · rw [decide_eq_false hd] at hq
        have HN := hideT (fun h => hd (HD.out h))
        clear hd
        go_wp2_with fail
        go_quiet (fail)
        go_wp2
        go_ret
        refine ⟨?_, ?_⟩
        · rw [decide_eq_false HN.out]; rfl
        · obtain ⟨m, rfl⟩ := HM.out
          exact ⟨rfl, rfl, rfl, Nat.le_refl _, fun _ _ => rfl⟩
    · have i1 : ((i : Int) < (l.length : Int)) = False := by rw [eq_iff_iff, iff_false]; omega
      have i4 : (i < k.length) = False := by rw [eq_iff_iff, iff_false]; omega
      have HL := hideT hlt
      clear hlt
      go_wp2
      go_ret
      have he : l = k := by
       have h := HT.out
       rw [List.take_of_length_le (by have := HL.out; omega), List.take_of_length_le (by have := HL.out; omega)] at h
       exact h
      obtain ⟨m, rfl⟩ := HM.out
      exact ⟨by rw [decide_eq_true he]; rfl, ⟨rfl, rfl, rfl, Nat.le_refl _, fun _ _ => rfl⟩⟩
 · have t1 : ((l.length : Int) != (k.length : Int)) = true := by simp; omega
   have HN := hideT hn
   clear hn
   go_wp2
   go_ret
   refine ⟨?_, Below.refl _ _⟩
   rw [decide_eq_false (fun h => HN.out (by rw [h]))]
   rfl
end Go.Proofs.YtbekghinikjjeaaGreatDoor.smt
namespace Go.Proofs.YtbekghinikjjeaaGreatDoor.occ
open Go.RowKit Go.Shelf Go.Proofs.YtbekghinikjjeaaGreatDoor.br Go.Proofs.YtbekghinikjjeaaGreatDoor.smt
theorem sp_eq : ∀ l : List (Int × Int), spW l = spV l
 | [] => rfl
 | x :: l => by
  rw [spV, ← sp_eq l]
  rfl
theorem row_below {W W' : World} {B e size n : Nat} {v : Value} {xs : List Value} (h : W.ownsRow B e size v n xs) (hb : Below W.heap.size W W') : W'.ownsRow B e size v n xs := owns_keep h fun g hg => hb.block g (row_blk h hg).2.1
theorem LsAt.below {W W' : World} {B : Nat} {v : Value} {l : List (List (Int × Int))} (h : LsAt W B v l) (hb : Below W.heap.size W W') : LsAt W' B v l := by
 obtain ⟨vs, h1, h2, h3⟩ := h
 exact ⟨vs, row_below h1 hb, h2, fun i u sp hu hs => row_below (h3 i u sp hu hs) hb⟩
theorem LsAt.shape {W : World} {B : Nat} {v : Value} {l : List (List (Int × Int))} (h : LsAt W B v l) : ∃ a c, v = .slice a l.length c := by
 obtain ⟨vs, h1, h2, h3⟩ := h
 exact row_shape h1
theorem LsAt.at_ {W : World} {B : Nat} {v : Value} {l : List (List (Int × Int))} (h : LsAt W B v l) {i : Nat} {sp : List (Int × Int)} (hi : l[i]? = some sp) : ∃ g c u, v = .slice (some ⟨g, 0, none⟩) l.length c ∧ W.cell? ⟨g, i, none⟩ = some u ∧ W.ownsRow B 30 2 u sp.length (spV sp) := by
 obtain ⟨vs, h1, h2, h3⟩ := h
 have hlt := (List.getElem?_eq_some_iff.1 hi).1
 obtain ⟨u, hu⟩ : ∃ u, vs[i]? = some u := ⟨vs[i]'(by omega), List.getElem?_eq_getElem (by omega)⟩
 have h4 := h3 i u sp hu hi
 rw [sp_eq] at h4
 rcases h1.2 with ⟨_, e⟩ | ⟨g, cap, cur, rfl, r⟩
 · omega
 · exact ⟨g, cap, u, rfl, (occ.owns_cell h1 i u hu).1, h4⟩
theorem sameL_any {l : List (List (Int × Int))} {a b : Value} {A B : Nat} (w : World) (ha : LsAt w A a l) (hb : LsAt w B b l) (hl : l.length ≤ 1000000) (hs : ∀ sp ∈ l, sp.length ≤ 1000000) :
 Calls Tryz.prog 18 #[a, b] w fun e w' => e = .returned (.bool true) ∧ Below w.heap.size w w' := by
 obtain ⟨pa, ca, rfl⟩ := ha.shape
 obtain ⟨pb, cb, rfl⟩ := hb.shape
 have HA := hideT (And.intro ha (And.intro hb (And.intro hl hs)))
 clear ha hb hs
 go_enter Tryz.func18, Tryz.ntmps18
 have t1 : ((l.length : Int) == (l.length : Int)) = true := by simp
 go_wp2_with fail
 go_loopw [5] (fun iv wr => ∃ i : Nat, i ≤ l.length ∧ iv = .int .i64 (i : Nat) ∧ Hid (Below w.heap.size w wr)) (fun iv _ => (l.length - intOf iv).toNat)
 case atStart => exact ⟨0, by omega, rfl, hideT (Below.refl _ _)⟩
 case round =>
  obtain ⟨i, hi, rfl, HB⟩ := hrel
  by_cases hlt : i < l.length
  · obtain ⟨sp, hx⟩ : ∃ sp, l[i]? = some sp := ⟨_, List.getElem?_eq_getElem hlt⟩
    have hmem := List.mem_of_getElem? hx
    obtain ⟨ga, _, ua, e1, q0, ra⟩ := HA.out.1.at_ hx
    obtain ⟨gb, _, ub, e2, p0, rb⟩ := HA.out.2.1.at_ hx
    cases e1
    cases e2
    have i1 : (i : Int) < (l.length : Int) := by omega
    have i2 : (0 : Int) ≤ (i : Int) := by omega
    have HI := hideT (And.intro hi hlt)
    have HS := hideT (fun V (hV : Below w.heap.size w V) => same_any V (owns_mono (row_below ra hV) (Nat.zero_le _)) (owns_mono (row_below rb hV) (Nat.zero_le _)) (HA.out.2.2.2 _ hmem) (HA.out.2.2.2 _ hmem))
    have hSof : ∀ V, Below w.heap.size w V → (Below w.heap.size w V ∧ V.cell? ⟨ga, i, none⟩ = some ua ∧ V.cell? ⟨gb, i, none⟩ = some ub) := fun V h => ⟨h, keep_cell h q0, keep_cell h p0⟩
    have HO := hideT hSof
    clear hi hlt hx hmem ra rb q0 p0 hSof t1
    go_upto_region 6 with fail
    rename_i K2 hK2
    have hS0 := HO.out wr.drew (HB.out.trans ⟨rfl, rfl, rfl, Nat.le_refl _, fun _ _ => rfl⟩)
    refine wp_region_held (S := fun V : World => Below w.heap.size w V ∧ V.cell? ⟨ga, i, none⟩ = some ua ∧ V.cell? ⟨gb, i, none⟩ = some ub) (by kernel_rfl) ?_
    refine tq 0 17 hS0 ?_
    refine tq 1 18 hS0 ?_
    refine tq 2 19 hS0 ?_
    refine tq 3 20 hS0 ?_
    refine tq 4 21 hS0 ?_
    refine tq 5 22 hS0 ?_
    refine tq 6 23 hS0 ?_
    refine tq 7 24 hS0 ?_
    simp only [Act.put, List.setIfInBounds_toArray, List.set_cons_zero, List.set_cons_succ]
    refine wpAnyH_all (rs := [8]) (by kernel_rfl) (by simp) (fun j hj => ?_)
    obtain rfl : j = 8 := List.mem_singleton.1 hj
    refine op_call (R := fun v w1 => v = .bool true ∧ Below w.heap.size w w1) (f := 26) (some 25) rfl rfl (by rfl) (by go_simp; (try with_reducible rfl)) ((HS.out _ hS0.1).mono ?_) ?_
    · rintro e w1 ⟨rfl, h1⟩
      exact ⟨_, rfl, by simp, hS0.1.trans (h1.mono hS0.1.size)⟩
    rintro v w1 ⟨rfl, hb1⟩
    have hS1 := HO.out w1 hb1
    refine ⟨hS1, ?_⟩
    simp only [Act.put, List.setIfInBounds_toArray, List.set_cons_zero, List.set_cons_succ]
    refine tq 9 26 hS1 ?_
    simp only [Act.put, List.setIfInBounds_toArray, List.set_cons_zero, List.set_cons_succ]
    refine wpAnyH_done (by kernel_rfl) (hK2 _ _ ?_) _
    have HE := hideT hb1
    clear hK2 hS0 hS1 hb1
    go_wp2
    exact ⟨⟨i + 1, HI.out.2, by go_num, HE⟩, by simp [intOf]; have := HI.out.2; omega⟩
  · have i1 : ((i : Int) < (l.length : Int)) = False := by rw [eq_iff_iff, iff_false]; omega
    clear hlt
    go_wp2
    go_ret
    exact ⟨rfl, HB.out⟩
end Go.Proofs.YtbekghinikjjeaaGreatDoor.occ
namespace Go.Proofs.YtbekghinikjjeaaGreatDoor.occ
open Go.RowKit Go.Shelf Go.Proofs.YtbekghinikjjeaaGreatDoor.br Go.Proofs.YtbekghinikjjeaaGreatDoor.smt Go.Proofs.YtbekghinikjjeaaGreatDoor.pkk
structure Mka (t s : ByteArray) (mt : Nat → Option (List (Int × Int))) (ts : List Tr) (n : Nat) : Prop where
 p : parseT t = .ok ts
 b : (msF .zero ts).back = false
 g : (msF .zero ts).groups = ((n : Nat) : Int)
 l : LyT (n + 1) (catT ts)
 z : s.size ≤ 1024
 good : GoodM mt s.size
 m : ∀ k, k ≤ s.size → ∃ f h, matchF f n (catT ts) (bl s) k = some (mt k, h)
theorem bySets_at {t s : ByteArray} {mt : Nat → Option (List (Int × Int))} {ts : List Tr} {n k : Nat} (hM : Mka t s mt ts n) (hk : k ≤ s.size) (w : World) (hg : Glob w) (hT : Tab w) : Calls Tryz.prog 24 #[.string t, .string s, .int .i64 (k : Nat)] w fun e w' => Below w.heap.size w w' ∧ ∃ v h, e = .returned (.tuple #[v, .bool (mt k).isSome, .int .i64 h, .int .i64 0]) ∧ w'.ownsRow w.heap.size 30 2 v ((mt k).getD []).length (spW ((mt k).getD [])) := by
 obtain ⟨f, h, hm⟩ := hM.m k hk
 have HM := hideT (smt.match_any w hg hT hM.p hM.b hM.g hM.l hM.z hk hm)
 clear hM hm
 go_enter Tryz.func24, Tryz.ntmps24
 go_wp2_with fail
 refine HM.out.mono ?_
 rintro e w1 ⟨hb, v, rfl, ho⟩
 have HB := hideT (And.intro hb ho)
 clear hb ho HM
 go_wp2
 exact bodyPost_ret (v := .tuple #[v, .bool (mt k).isSome, .int .i64 (hz h), .int .i64 0]) (by simp [results, Tryz.results24, go_sem]) rfl ⟨HB.out.1, v, _, rfl, by rw [sp_eq]; exact HB.out.2⟩
theorem mt_step {W : World} {mb : Nat} {t : ByteArray} {n st : Int} (h0 : W.heap[mb]? = some (.cells (mtV t n st) 83 (0, 0))) (x : Int) : MtAt (W.setCell ⟨mb, 3, none⟩ (.int .i64 x)) mb t := by
 refine ⟨n, x, ?_⟩
 simp only [World.setCell, Array.getElem?_modify, if_true, h0]
 rfl
theorem glob_at {W W' : World} (h : Glob W) (hk : W'.heap[1]? = W.heap[1]?) : Glob W' := by
 obtain ⟨m, hm⟩ := h
 exact ⟨m, (World.cell?_of_block (a := ⟨1, 0, none⟩) hk).trans hm⟩
theorem mc_of {t s : ByteArray} {mt : Nat → Option (List (Int × Int))} {ts : List Tr} {n : Nat} (hM : Mka t s mt ts n) : Mc t s mt (fun W => Glob W ∧ Tab W) (fun mb W => MtAt W mb t ∧ Glob W ∧ Tab W ∧ 2 ≤ mb) where
 good := hM.good
 new := fun W h => by
  refine (new_any hM.p hM.b W h.1).mono ?_
  rintro e w' ⟨mb, h1, rfl, h2, h3⟩
  have hz : 2 ≤ W.heap.size := by obtain ⟨m, hm⟩ := h.1; exact World.block_lt_of_cell? W _ hm
  obtain ⟨n', st, h4⟩ := h2
  exact ⟨mb, h1, blk_lt h4, rfl, ⟨⟨n', st, h4⟩, h.1.below h3 (Nat.le_refl _), h.2.below h3 (by omega), by omega⟩, h3⟩
 ok := fun mb k W hk hP => by
  obtain ⟨⟨n', st, h0⟩, hg, hT, h2⟩ := hP
  have HS := hideT (bySets_at hM hk W hg hT)
  have H0 := hideT (And.intro h0 (And.intro hg (And.intro hT h2)))
  have c2 : W.cell? ⟨mb, 2, none⟩ = some (.func (.func 24) #[.string t] #[]) := by simp [World.cell?, h0, mtV]
  clear h0 hM hg hT h2
  go_enter Tryz.func28, Tryz.ntmps28
  go_wp2_with fail
  refine HS.out.mono ?_
  rintro e w1 ⟨hb, v, h, rfl, ho⟩
  have h1 := (hb.block _ (blk_lt H0.out.1)).trans H0.out.1
  have d3 : w1.cell? ⟨mb, 3, none⟩ = some (.int .i64 st) := by simp [World.cell?, h1, mtV]
  have z3 : w1.frozen? ⟨mb, 3, none⟩ = false := by simp [World.frozen?, h1]
  have HB := hideT (And.intro hb (And.intro h1 ho))
  clear hb HS h1 c2 ho
  go_wp2
  refine bodyPost_ret (v := .tuple #[v, .bool (mt k).isSome, .int .i64 0]) (by simp [results, Tryz.results28, go_sem]) rfl ⟨v, rfl, ?_, ?_, mt_step HB.out.2.1 _, ?_, ?_, H0.out.2.2.2⟩
  · refine owns_keep HB.out.2.2 fun g hg => Below.heap_setCell _ ⟨mb, 3, none⟩ _ g ?_
    rintro rfl
    have hq := (row_blk HB.out.2.2 hg).1
    have hq2 := blk_lt H0.out.1
    exact absurd (Nat.lt_of_lt_of_le hq2 hq) (Nat.lt_irrefl _)
  · exact ⟨HB.out.1.os, HB.out.1.tape, HB.out.1.output, by have := HB.out.1.size; simpa using this, fun k hk hne => (Below.heap_setCell _ ⟨mb, 3, none⟩ _ k hne).trans (HB.out.1.block k hk)⟩
  · have hz := World.block_lt_of_cell? W _ H0.out.2.1.choose_spec
    exact glob_at H0.out.2.1 ((Below.heap_setCell _ ⟨mb, 3, none⟩ _ 1 (show 1 ≠ mb by have := H0.out.2.2.2; omega)).trans (HB.out.1.block 1 hz))
  · exact H0.out.2.2.1.keep ((Below.heap_setCell _ ⟨mb, 3, none⟩ _ 0 (show 0 ≠ mb by have := H0.out.2.2.2; omega)).trans (HB.out.1.block 0 H0.out.2.2.1.pos))
 keep := fun mb W W' h _ hk => by
  obtain ⟨⟨n', st, h0⟩, hg, hT, h2⟩ := h
  exact ⟨⟨n', st, (hk mb (.inl rfl)).trans h0⟩, glob_at hg (hk 1 (.inr (.inr rfl))), hT.keep (hk 0 (.inr (.inl rfl))), h2⟩
 low := fun W W' h hb => ⟨h.1.below hb (Nat.le_refl _), h.2.below hb h.2.pos⟩
 two := fun W h => by obtain ⟨m, hm⟩ := h.1; exact World.block_lt_of_cell? W _ hm
end Go.Proofs.YtbekghinikjjeaaGreatDoor.occ
namespace Go.Proofs.YtbekghinikjjeaaGreatDoor.occ
open Go.RowKit Go.Shelf Go.Proofs.YtbekghinikjjeaaGreatDoor.br Go.Proofs.YtbekghinikjjeaaGreatDoor.smt Go.Proofs.YtbekghinikjjeaaGreatDoor.pkk
def oneQ (c : Nat) : Nat → Bool := fun i => Nat.beq i c
theorem one_is {c : Nat} (hc : c < 256) : selfP c = oneQ c := by
 funext i
 show (List.any (List.take 1 [UInt8.ofNat c]) fun b => b.toNat == i) = Nat.beq i c
 rw [Bool.eq_iff_iff]
 simp [Nat.mod_eq_of_lt hc]
 exact eq_comm
def awA : List Tr := [repT 0 (-1) (byteT (oneQ 97))]
theorem aw_p : parseT ⟨#[97, 42]⟩ = .ok awA := by
 unfold awA
 simp only [← one_is (show 97 < 256 by decide)]
 kernel_rfl
def awM (k : Nat) : Option (List (Int × Int)) := match k with
 | 0 => some [(0, 0)]
 | 1 => some [(1, 3)]
 | 2 => some [(2, 3)]
 | 3 => some [(3, 3)]
 | _ => some [(4, 4)]
theorem aw_m : ∀ k, k < 5 → (matchF 600 0 (catT awA) [98, 97, 97, 99] k).map (·.1) = some (awM k) := by decide +kernel
theorem aw_n : (msF .zero awA).back = false ∧ (msF .zero awA).groups = ((0 : Nat) : Int) := by
 simp [awA, msF, msT, repT, byteT, Ms.zero, Ms.both, Ms.rep, wrM, sumM, xdh]
theorem aw_mka : Mka ⟨#[97, 42]⟩ ⟨#[98, 97, 97, 99]⟩ awM awA 0 := by
 obtain ⟨n, h1, h2⟩ := ly_parse aw_p aw_n.1
 have h3 := aw_n.2
 obtain rfl : n = 0 := by omega
 refine ⟨aw_p, aw_n.1, h1, h2, by decide, fun k sp hk h => ?_, fun k hk => ?_⟩
 · have hk : k ≤ 4 := hk
   have : k = 0 ∨ k = 1 ∨ k = 2 ∨ k = 3 ∨ k = 4 := by omega
   rcases this with rfl | rfl | rfl | rfl | rfl <;> cases h
   · exact ⟨0, 0, [], rfl, by decide, by decide, by decide⟩
   · exact ⟨1, 3, [], rfl, by decide, by decide, by decide⟩
   · exact ⟨2, 3, [], rfl, by decide, by decide, by decide⟩
   · exact ⟨3, 3, [], rfl, by decide, by decide, by decide⟩
   · exact ⟨4, 4, [], rfl, by decide, by decide, by decide⟩
 · have hk : k ≤ 4 := hk
   obtain ⟨⟨o, c⟩, hc, he⟩ := Option.map_eq_some_iff.1 (aw_m k (by omega))
   exact ⟨600, c, by rw [← he]; exact hc⟩
def awW : List (List (Int × Int)) := [[(0, 0)], [(1, 3)], [(4, 4)]]
theorem aw_occ : (occF awM 4 6 (-1) 0).take 9 = awW := by decide +kernel
theorem lit_one (W : World) (a b : Int) : (W.alloc (.cells #[.int .i64 a, .int .i64 b] 30)).ownsRow 0 30 2 (.slice (some ⟨W.heap.size, 0, none⟩) 1 1) 1 (spW [(a, b)]) := by
 have h := World.ownsRow_lit (base := 0) (e := 30) (size := 2) W #[.int .i64 a, .int .i64 b] 1 (Nat.zero_le _) (by unfold maxLen; omega) rfl
 exact h
theorem want_laid (w : World) : let W := (((w.alloc (.cells #[.int .i64 0, .int .i64 0] 30)).alloc (.cells #[.int .i64 1, .int .i64 3] 30)).alloc (.cells #[.int .i64 4, .int .i64 4] 30)).alloc (.cells #[.slice (some ⟨w.heap.size, 0, none⟩) 1 1, .slice (some ⟨w.heap.size + 1, 0, none⟩) 1 1, .slice (some ⟨w.heap.size + 1 + 1, 0, none⟩) 1 1] 28)
  LsAt W 0 (.slice (some ⟨w.heap.size + 1 + 1 + 1, 0, none⟩) 3 3) awW ∧ Below w.heap.size w W := by
 intro W
 have h1 := lit_one w 0 0
 have h2 := lit_one (w.alloc (.cells #[.int .i64 0, .int .i64 0] 30)) 1 3
 have h3 := lit_one ((w.alloc (.cells #[.int .i64 0, .int .i64 0] 30)).alloc (.cells #[.int .i64 1, .int .i64 3] 30)) 4 4
 have h4 := World.ownsRow_lit (base := 0) (e := 28) (size := 1) (((w.alloc (.cells #[.int .i64 0, .int .i64 0] 30)).alloc (.cells #[.int .i64 1, .int .i64 3] 30)).alloc (.cells #[.int .i64 4, .int .i64 4] 30)) #[.slice (some ⟨w.heap.size, 0, none⟩) 1 1, .slice (some ⟨w.heap.size + 1, 0, none⟩) 1 1, .slice (some ⟨w.heap.size + 1 + 1, 0, none⟩) 1 1] 3 (Nat.zero_le _) (by unfold maxLen; omega) rfl
 simp only [World.size_alloc] at h2 h3 h4
 refine ⟨⟨_, h4, rfl, fun i u sp hu hs => ?_⟩, ((((Below.refl w.heap.size w).alloc (Nat.le_refl _) (.cells #[.int .i64 0, .int .i64 0] 30)).alloc (by simp) (.cells #[.int .i64 1, .int .i64 3] 30)).alloc (by simp only [World.size_alloc]; omega) (.cells #[.int .i64 4, .int .i64 4] 30)).alloc (by simp only [World.size_alloc]; omega) _⟩
 match i, hu, hs with
 | 0, hu, hs => cases hu; cases hs; exact ((h1.alloc _).alloc _).alloc _
 | 1, hu, hs => cases hu; cases hs; exact (h2.alloc _).alloc _
 | 2, hu, hs => cases hu; cases hs; exact h3.alloc _
 | _ + 3, hu, _ => cases hu
theorem awake_any (w : World) (hg : Glob w) (hT : Tab w) : Calls Tryz.prog 7 #[] w fun e w' => e = .returned (.bool true) ∧ Below w.heap.size w w' := by
 have hL := list_any (mc_of aw_mka) (by decide) 9 (by omega) (by omega) w ⟨hg, hT⟩
 rw [show occF awM (ByteArray.size ⟨#[98, 97, 97, 99]⟩) ((ByteArray.size ⟨#[98, 97, 97, 99]⟩) + 2) (-1) 0 = occF awM 4 6 (-1) 0 from rfl, aw_occ] at hL
 have HL := hideT hL
 clear hL hg hT
 go_enter Tryz.func7, Tryz.ntmps7
 go_wp2_with fail
 refine HL.out.mono ?_
 rintro e w1 ⟨v, rfl, hls, hb⟩
 have hw := want_laid w1
 have HW := hideT (And.intro hls (And.intro hb hw))
 clear hls hb hw HL
 go_upto_region 3 with fail
 have hS := sameL_any _ (LsAt.below HW.out.1 HW.out.2.2.2) HW.out.2.2.1 (by decide) (by decide)
 have HB := hideT (HW.out.2.1.trans (HW.out.2.2.2.mono HW.out.2.1.size))
 clear HW
 go_wp2_with fail
 refine hS.mono ?_
 rintro e w2 ⟨rfl, hb⟩
 have H2 := hideT (HB.out.trans (hb.mono HB.out.size))
 clear hb HB hS
 go_wp2
 go_ret
 exact ⟨rfl, H2.out⟩
theorem walk_occurNone (s : ByteArray) (w : World) (hg : Glob w) (hT : Tab w) : Calls Tryz.prog 4 #[.string s] w fun e w' => e = .returned (.bool true) ∧ Below w.heap.size w w' := by
 have HG := hideT (And.intro hg hT)
 clear hg hT
 go_enter Tryz.func4, Tryz.ntmps4
 go_wp2_with fail
 refine (all_none s w).mono ?_
 rintro e w1 ⟨rfl, hb⟩
 have HB := hideT hb
 have hA := awake_any w1 (HG.out.1.below hb (Nat.le_refl _)) (HG.out.2.below hb HG.out.2.pos)
 clear hb
 go_wp2_with fail
 refine hA.mono ?_
 rintro e w2 ⟨rfl, hb⟩
 have H2 := hideT (HB.out.trans (hb.mono HB.out.size))
 clear hb HB hA
 go_wp2
 go_ret
 exact ⟨rfl, H2.out⟩
end Go.Proofs.YtbekghinikjjeaaGreatDoor.occ
