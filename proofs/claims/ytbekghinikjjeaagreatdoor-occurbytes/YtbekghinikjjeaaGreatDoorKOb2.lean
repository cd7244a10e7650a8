/- setmatch: are two lists of spans alike? occur: are two lists of lists of spans alike? awake. occur: the matcher of a BRE without back-references. occur: awake; OccurNone. occur (pure): the places of one byte, and all places. occur: OccurBytes' walk. occur: the matches of one byte, and of nothing. -/
import Derived.Test.YtbekghinikjjeaaGreatDoorKAa
import Derived.Test.YtbekghinikjjeaaGreatDoorKA2
import Derived.Laws.StructEq
import Derived.OwnWalk
import Derived.Test.YtbekghinikjjeaaGreatDoorKOb1
import Derived.Test.YtbekghinikjjeaaGreatDoorKA9
import Derived.Test.YtbekghinikjjeaaGreatDoorKP1
import Derived.Test.YtbekghinikjjeaaGreatDoorKA5
import Derived.Test.YtbekghinikjjeaaGreatDoorKA4
import Derived.Test.YtbekghinikjjeaaGreatDoorKPp
import Derived.Test.YtbekghinikjjeaaGreatDoorKTk
import Derived.Deep.Cut
import Derived.Deep.CutRange
import Derived.LoopTactic
import Derived.BigQuiet
import Derived.IntWalk
set_option maxRecDepth 100000
set_option maxHeartbeats 4000000
namespace Go.Proofs.YtbekghinikjjeaaGreatDoor.smt
open Go.RowKit Go.Proofs.YtbekghinikjjeaaGreatDoor.br
theorem und_sp : Tryz.prog.underlying 30 = some (.struct (Tryz.prog.fieldsOf 30)) := by kernel_rfl
theorem neq_sp (x0 x1 y0 y1 : Int) (w : World) : (binOp .neq 30 (.agg #[.int .i64 x0, .int .i64 x1]) (.agg #[.int .i64 y0, .int .i64 y1])).run Tryz.prog w = .ok (.bool (!((x0 == y0) && (x1 == y1)))) w := by
 rw [run_neq_struct, run_equalIn_agg w 9999 _ _ _ und_sp (by kernel_rfl)]
 have hf : (Tryz.prog.fieldsOf 30).toList = [{ name := "From", type := 3, offset := 0, embedded := false, tag := "", pkgPath := "", byteOffset := 0 }, { name := "To", type := 3, offset := 1, embedded := false, tag := "", pkgPath := "", byteOffset := 8 }] := by kernel_rfl
 rw [hf]
 simp [Op.eqFields, go_sem]
 by_cases h0 : x0 = y0 <;> by_cases h1 : x1 = y1 <;> simp [h0, h1]
theorem sp_cells {W : World} {n : Nat} {v : Value} {l : List (Int × Int)} (h : W.ownsRow 0 30 2 v n (spV l)) {i : Nat} {x : Int × Int} (hx : l[i]? = some x) : ∃ g cap, v = .slice (some ⟨g, 0, none⟩) n cap ∧ W.cell? ⟨g, i * 2, none⟩ = some (.int .i64 x.1) ∧ W.cell? ⟨g, i * 2 + 1, none⟩ = some (.int .i64 x.2) := by
 have hi := (List.getElem?_eq_some_iff.1 hx).1
 have hl := h.1
 rw [spV_len] at hl
 rcases h.2 with ⟨_, e⟩ | ⟨g, cap, cur, rfl, _⟩
 · omega
 · exact ⟨g, cap, rfl, (owns_cell h _ _ (spV_get hx).1).1, (owns_cell h _ _ (spV_get hx).2).1⟩
theorem same_any {l k : List (Int × Int)} {a b : Value} {na nb : Nat} (w : World) (ha : w.ownsRow 0 30 2 a na (spV l)) (hb : w.ownsRow 0 30 2 b nb (spV k)) (hl : l.length ≤ 1000000) (hk : k.length ≤ 1000000) :
 Calls Tryz.prog 26 #[a, b] w fun e w' => e = .returned (.bool (decide (l = k))) ∧ Below w.heap.size w w' := by
 obtain rfl : na = l.length := by have := ha.1; rw [spV_len] at this; omega
 obtain rfl : nb = k.length := by have := hb.1; rw [spV_len] at this; omega
 obtain ⟨pa, ca, rfl⟩ := owns_shape ha
 obtain ⟨pb, cb, rfl⟩ := owns_shape hb
 have HA := hideT (And.intro ha hb)
 clear ha hb
 go_enter Tryz.func26, Tryz.ntmps26
 by_cases hn : l.length = k.length
 · have t1 : ((l.length : Int) == (k.length : Int)) = true := by simp [hn]
   go_wp2_with fail
   go_loopw [5] (fun iv wr => ∃ i : Nat, i ≤ l.length ∧ iv = .int .i64 (i : Nat) ∧ Hid (l.take i = k.take i) ∧ Hid (∃ m, wr = w.drewN m)) (fun iv _ => (l.length - intOf iv).toNat)
   case atStart => exact ⟨0, by omega, rfl, hideT rfl, hideT ⟨0, rfl⟩⟩
   case round =>
    obtain ⟨i, hi, rfl, HT, HM⟩ := hrel
    by_cases hlt : i < l.length
    · have hx := List.getElem?_eq_getElem hlt
      have hy := List.getElem?_eq_getElem (show i < k.length by omega)
      have HS := hideT (And.intro (List.take_succ_eq_append_getElem hlt) (List.take_succ_eq_append_getElem (show i < k.length by omega)))
      have HD := hideT (fun h : l = k => (by subst h; rfl : l[i] = k[i]'(by omega)))
      generalize l[i] = x at *
      generalize k[i] = y at *
      obtain ⟨ga, _, e1, q0, q1⟩ := sp_cells HA.out.1 hx
      obtain ⟨gb, _, e2, p0, p1⟩ := sp_cells HA.out.2 hy
      cases e1
      cases e2
      have hwr : ∀ q, wr.cell? q = w.cell? q := fun q => by obtain ⟨m, rfl⟩ := HM.out; rfl
      rw [← hwr] at q0 q1 p0 p1
      have i1 : (i : Int) < (l.length : Int) := by omega
      have i3 : (i : Int) < (k.length : Int) := by omega
      have i2 : (0 : Int) ≤ (i : Int) := by omega
      have HI := hideT hi
      have HL := hideT hlt
      clear hi hlt hx hy hwr
      have hxy : (x.1 == y.1 && x.2 == y.2) = decide (x = y) := by
       obtain ⟨x1, x2⟩ := x
       obtain ⟨y1, y2⟩ := y
       rw [Bool.eq_iff_iff]
       simp [Prod.mk.injEq]
      have hq := neq_sp x.1 x.2 y.1 y.2
      rw [hxy] at hq
      clear hxy
      by_cases hd : x = y
      · rw [decide_eq_true hd] at hq
        have HN := hideT (show l.take (i + 1) = k.take (i + 1) by rw [HS.out.1, HS.out.2, HT.out, hd])
        clear hd
        go_wp2_with fail
        go_quiet (fail)
        go_wp2
        exact ⟨⟨i + 1, HL.out, by go_num, HN, hideT (by obtain ⟨m, rfl⟩ := HM.out; exact ⟨_, World.drewN_drewN ..⟩)⟩, by simp [intOf]; have := HL.out; omega⟩
      · rw [decide_eq_false hd] at hq
        have HN := hideT (fun h => hd (HD.out h))
        clear hd
        go_wp2_with fail
        go_quiet (fail)
        go_wp2
        go_ret
        refine ⟨?_, ?_⟩
        · rw [decide_eq_false HN.out]; rfl
        · obtain ⟨m, rfl⟩ := HM.out
          exact ⟨rfl, rfl, rfl, Nat.le_refl _, fun _ _ => rfl⟩
    · have i1 : ((i : Int) < (l.length : Int)) = False := by rw [eq_iff_iff, iff_false]; omega
      have i4 : (i < k.length) = False := by rw [eq_iff_iff, iff_false]; omega
      have HL := hideT hlt
      clear hlt
      go_wp2
      go_ret
      have he : l = k := by
       have h := HT.out
       rw [List.take_of_length_le (by have := HL.out; omega), List.take_of_length_le (by have := HL.out; omega)] at h
       exact h
      obtain ⟨m, rfl⟩ := HM.out
      exact ⟨by rw [decide_eq_true he]; rfl, ⟨rfl, rfl, rfl, Nat.le_refl _, fun _ _ => rfl⟩⟩
 · have t1 : ((l.length : Int) != (k.length : Int)) = true := by simp; omega
   have HN := hideT hn
   clear hn
   go_wp2
   go_ret
   refine ⟨?_, Below.refl _ _⟩
   rw [decide_eq_false (fun h => HN.out (by rw [h]))]
   rfl
end Go.Proofs.YtbekghinikjjeaaGreatDoor.smt
namespace Go.Proofs.YtbekghinikjjeaaGreatDoor.occ
open Go.RowKit Go.Shelf Go.Proofs.YtbekghinikjjeaaGreatDoor.br Go.Proofs.YtbekghinikjjeaaGreatDoor.smt
theorem sp_eq : ∀ l : List (Int × Int), spW l = spV l
 | [] => rfl
 | x :: l => by
  rw [spV, ← sp_eq l]
  rfl
theorem row_below {W W' : World} {B e size n : Nat} {v : Value} {xs : List Value} (h : W.ownsRow B e size v n xs) (hb : Below W.heap.size W W') : W'.ownsRow B e size v n xs := owns_keep h fun g hg => hb.block g (row_blk h hg).2.1
theorem LsAt.below {W W' : World} {B : Nat} {v : Value} {l : List (List (Int × Int))} (h : LsAt W B v l) (hb : Below W.heap.size W W') : LsAt W' B v l := by
 obtain ⟨vs, h1, h2, h3⟩ := h
 exact ⟨vs, row_below h1 hb, h2, fun i u sp hu hs => row_below (h3 i u sp hu hs) hb⟩
theorem LsAt.shape {W : World} {B : Nat} {v : Value} {l : List (List (Int × Int))} (h : LsAt W B v l) : ∃ a c, v = .slice a l.length c := by
 obtain ⟨vs, h1, h2, h3⟩ := h
 exact row_shape h1
theorem LsAt.at_ {W : World} {B : Nat} {v : Value} {l : List (List (Int × Int))} (h : LsAt W B v l) {i : Nat} {sp : List (Int × Int)} (hi : l[i]? = some sp) : ∃ g c u, v = .slice (some ⟨g, 0, none⟩) l.length c ∧ W.cell? ⟨g, i, none⟩ = some u ∧ W.ownsRow B 30 2 u sp.length (spV sp) := by
 obtain ⟨vs, h1, h2, h3⟩ := h
 have hlt := (List.getElem?_eq_some_iff.1 hi).1
 obtain ⟨u, hu⟩ : ∃ u, vs[i]? = some u := ⟨vs[i]'(by omega), List.getElem?_eq_getElem (by omega)⟩
 have h4 := h3 i u sp hu hi
 rw [sp_eq] at h4
 rcases h1.2 with ⟨_, e⟩ | ⟨g, cap, cur, rfl, r⟩
 · omega
 · exact ⟨g, cap, u, rfl, (occ.owns_cell h1 i u hu).1, h4⟩
theorem sameL_any {l : List (List (Int × Int))} {a b : Value} {A B : Nat} (w : World) (ha : LsAt w A a l) (hb : LsAt w B b l) (hl : l.length ≤ 1000000) (hs : ∀ sp ∈ l, sp.length ≤ 1000000) :
 Calls Tryz.prog 18 #[a, b] w fun e w' => e = .returned (.bool true) ∧ Below w.heap.size w w' := by
 obtain ⟨pa, ca, rfl⟩ := ha.shape
 obtain ⟨pb, cb, rfl⟩ := hb.shape
 have HA := hideT (And.intro ha (And.intro hb (And.intro hl hs)))
 clear ha hb hs
 go_enter Tryz.func18, Tryz.ntmps18
 have t1 : ((l.length : Int) == (l.length : Int)) = true := by simp
 go_wp2_with fail
 go_loopw [5] (fun iv wr => ∃ i : Nat, i ≤ l.length ∧ iv = .int .i64 (i : Nat) ∧ Hid (Below w.heap.size w wr)) (fun iv _ => (l.length - intOf iv).toNat)
 case atStart => exact ⟨0, by omega, rfl, hideT (Below.refl _ _)⟩
 case round =>
  obtain ⟨i, hi, rfl, HB⟩ := hrel
  by_cases hlt : i < l.length
  · obtain ⟨sp, hx⟩ : ∃ sp, l[i]? = some sp := ⟨_, List.getElem?_eq_getElem hlt⟩
    have hmem := List.mem_of_getElem? hx
    obtain ⟨ga, _, ua, e1, q0, ra⟩ := HA.out.1.at_ hx
    obtain ⟨gb, _, ub, e2, p0, rb⟩ := HA.out.2.1.at_ hx
    cases e1
    cases e2
    have i1 : (i : Int) < (l.length : Int) := by omega
    have i2 : (0 : Int) ≤ (i : Int) := by omega
    have HI := hideT (And.intro hi hlt)
    have HS := hideT (fun V (hV : Below w.heap.size w V) => same_any V (owns_mono (row_below ra hV) (Nat.zero_le _)) (owns_mono (row_below rb hV) (Nat.zero_le _)) (HA.out.2.2.2 _ hmem) (HA.out.2.2.2 _ hmem))
    have hSof : ∀ V, Below w.heap.size w V → (Below w.heap.size w V ∧ V.cell? ⟨ga, i, none⟩ = some ua ∧ V.cell? ⟨gb, i, none⟩ = some ub) := fun V h => ⟨h, keep_cell h q0, keep_cell h p0⟩
    have HO := hideT hSof
    clear hi hlt hx hmem ra rb q0 p0 hSof t1
    go_upto_region 6 with fail
    rename_i K2 hK2
    have hS0 := HO.out wr.drew (HB.out.trans ⟨rfl, rfl, rfl, Nat.le_refl _, fun _ _ => rfl⟩)
    refine wp_region_held (S := fun V : World => Below w.heap.size w V ∧ V.cell? ⟨ga, i, none⟩ = some ua ∧ V.cell? ⟨gb, i, none⟩ = some ub) (by kernel_rfl) ?_
    refine tq 0 17 hS0 ?_
    refine tq 1 18 hS0 ?_
    refine tq 2 19 hS0 ?_
    refine tq 3 20 hS0 ?_
    refine tq 4 21 hS0 ?_
    refine tq 5 22 hS0 ?_
    refine tq 6 23 hS0 ?_
    refine tq 7 24 hS0 ?_
    simp only [Act.put, List.setIfInBounds_toArray, List.set_cons_zero, List.set_cons_succ]
    refine wpAnyH_all (rs := [8]) (by kernel_rfl) (by simp) (fun j hj => ?_)
    obtain rfl : j = 8 := List.mem_singleton.1 hj
    refine op_call (R := fun v w1 => v = .bool true ∧ Below w.heap.size w w1) (f := 26) (some 25) rfl rfl (by rfl) (by go_simp; (try with_reducible rfl)) ((HS.out _ hS0.1).mono ?_) ?_
    · rintro e w1 ⟨rfl, h1⟩
      exact ⟨_, rfl, by simp, hS0.1.trans (h1.mono hS0.1.size)⟩
    rintro v w1 ⟨rfl, hb1⟩
    have hS1 := HO.out w1 hb1
    refine ⟨hS1, ?_⟩
    simp only [Act.put, List.setIfInBounds_toArray, List.set_cons_zero, List.set_cons_succ]
    refine tq 9 26 hS1 ?_
    simp only [Act.put, List.setIfInBounds_toArray, List.set_cons_zero, List.set_cons_succ]
    refine wpAnyH_done (by kernel_rfl) (hK2 _ _ ?_) _
    have HE := hideT hb1
    clear hK2 hS0 hS1 hb1
    go_wp2
    exact ⟨⟨i + 1, HI.out.2, by go_num, HE⟩, by simp [intOf]; have := HI.out.2; omega⟩
  · have i1 : ((i : Int) < (l.length : Int)) = False := by rw [eq_iff_iff, iff_false]; omega
    clear hlt
    go_wp2
    go_ret
    exact ⟨rfl, HB.out⟩
end Go.Proofs.YtbekghinikjjeaaGreatDoor.occ
namespace Go.Proofs.YtbekghinikjjeaaGreatDoor.occ
open Go.RowKit Go.Shelf Go.Proofs.YtbekghinikjjeaaGreatDoor.br Go.Proofs.YtbekghinikjjeaaGreatDoor.smt Go.Proofs.YtbekghinikjjeaaGreatDoor.pkk
structure Mka (t s : ByteArray) (mt : Nat → Option (List (Int × Int))) (ts : List Tr) (n : Nat) : Prop where
 p : parseT t = .ok ts
 b : (msF .zero ts).back = false
 g : (msF .zero ts).groups = ((n : Nat) : Int)
 l : LyT (n + 1) (catT ts)
 z : s.size ≤ 1024
 good : GoodM mt s.size
 m : ∀ k, k ≤ s.size → ∃ f h, matchF f n (catT ts) (bl s) k = some (mt k, h)
theorem bySets_at {t s : ByteArray} {mt : Nat → Option (List (Int × Int))} {ts : List Tr} {n k : Nat} (hM : Mka t s mt ts n) (hk : k ≤ s.size) (w : World) (hg : Glob w) (hT : Tab w) : Calls Tryz.prog 24 #[.string t, .string s, .int .i64 (k : Nat)] w fun e w' => Below w.heap.size w w' ∧ ∃ v h, e = .returned (.tuple #[v, .bool (mt k).isSome, .int .i64 h, .int .i64 0]) ∧ w'.ownsRow w.heap.size 30 2 v ((mt k).getD []).length (spW ((mt k).getD [])) := by
 obtain ⟨f, h, hm⟩ := hM.m k hk
 have HM := hideT (smt.match_any w hg hT hM.p hM.b hM.g hM.l hM.z hk hm)
 clear hM hm
 go_enter Tryz.func24, Tryz.ntmps24
 go_wp2_with fail
 refine HM.out.mono ?_
 rintro e w1 ⟨hb, v, rfl, ho⟩
 have HB := hideT (And.intro hb ho)
 clear hb ho HM
 go_wp2
 exact bodyPost_ret (v := .tuple #[v, .bool (mt k).isSome, .int .i64 (hz h), .int .i64 0]) (by simp [results, Tryz.results24, go_sem]) rfl ⟨HB.out.1, v, _, rfl, by rw [sp_eq]; exact HB.out.2⟩
theorem mt_step {W : World} {mb : Nat} {t : ByteArray} {n st : Int} (h0 : W.heap[mb]? = some (.cells (mtV t n st) 83 (0, 0))) (x : Int) : MtAt (W.setCell ⟨mb, 3, none⟩ (.int .i64 x)) mb t := by
 refine ⟨n, x, ?_⟩
 simp only [World.setCell, Array.getElem?_modify, if_true, h0]
 rfl
theorem glob_at {W W' : World} (h : Glob W) (hk : W'.heap[1]? = W.heap[1]?) : Glob W' := by
 obtain ⟨m, hm⟩ := h
 exact ⟨m, (World.cell?_of_block (a := ⟨1, 0, none⟩) hk).trans hm⟩
theorem mc_of {t s : ByteArray} {mt : Nat → Option (List (Int × Int))} {ts : List Tr} {n : Nat} (hM : Mka t s mt ts n) : Mc t s mt (fun W => Glob W ∧ Tab W) (fun mb W => MtAt W mb t ∧ Glob W ∧ Tab W ∧ 2 ≤ mb) where
 good := hM.good
 new := fun W h => by
  refine (new_any hM.p hM.b W h.1).mono ?_
  rintro e w' ⟨mb, h1, rfl, h2, h3⟩
  have hz : 2 ≤ W.heap.size := by obtain ⟨m, hm⟩ := h.1; exact World.block_lt_of_cell? W _ hm
  obtain ⟨n', st, h4⟩ := h2
  exact ⟨mb, h1, blk_lt h4, rfl, ⟨⟨n', st, h4⟩, h.1.below h3 (Nat.le_refl _), h.2.below h3 (by omega), by omega⟩, h3⟩
 ok := fun mb k W hk hP => by
  obtain ⟨⟨n', st, h0⟩, hg, hT, h2⟩ := hP
  have HS := hideT (bySets_at hM hk W hg hT)
  have H0 := hideT (And.intro h0 (And.intro hg (And.intro hT h2)))
  have c2 : W.cell? ⟨mb, 2, none⟩ = some (.func (.func 24) #[.string t] #[]) := by simp [World.cell?, h0, mtV]
  clear h0 hM hg hT h2
  go_enter Tryz.func28, Tryz.ntmps28
  go_wp2_with fail
  refine HS.out.mono ?_
  rintro e w1 ⟨hb, v, h, rfl, ho⟩
  have h1 := (hb.block _ (blk_lt H0.out.1)).trans H0.out.1
  have d3 : w1.cell? ⟨mb, 3, none⟩ = some (.int .i64 st) := by simp [World.cell?, h1, mtV]
  have z3 : w1.frozen? ⟨mb, 3, none⟩ = false := by simp [World.frozen?, h1]
  have HB := hideT (And.intro hb (And.intro h1 ho))
  clear hb HS h1 c2 ho
  go_wp2
  refine bodyPost_ret (v := .tuple #[v, .bool (mt k).isSome, .int .i64 0]) (by simp [results, Tryz.results28, go_sem]) rfl ⟨v, rfl, ?_, ?_, mt_step HB.out.2.1 _, ?_, ?_, H0.out.2.2.2⟩
  · refine owns_keep HB.out.2.2 fun g hg => Below.heap_setCell _ ⟨mb, 3, none⟩ _ g ?_
    rintro rfl
    have hq := (row_blk HB.out.2.2 hg).1
    have hq2 := blk_lt H0.out.1
    exact absurd (Nat.lt_of_lt_of_le hq2 hq) (Nat.lt_irrefl _)
  · exact ⟨HB.out.1.os, HB.out.1.tape, HB.out.1.output, by have := HB.out.1.size; simpa using this, fun k hk hne => (Below.heap_setCell _ ⟨mb, 3, none⟩ _ k hne).trans (HB.out.1.block k hk)⟩
  · have hz := World.block_lt_of_cell? W _ H0.out.2.1.choose_spec
    exact glob_at H0.out.2.1 ((Below.heap_setCell _ ⟨mb, 3, none⟩ _ 1 (show 1 ≠ mb by have := H0.out.2.2.2; omega)).trans (HB.out.1.block 1 hz))
  · exact H0.out.2.2.1.keep ((Below.heap_setCell _ ⟨mb, 3, none⟩ _ 0 (show 0 ≠ mb by have := H0.out.2.2.2; omega)).trans (HB.out.1.block 0 H0.out.2.2.1.pos))
 keep := fun mb W W' h _ hk => by
  obtain ⟨⟨n', st, h0⟩, hg, hT, h2⟩ := h
  exact ⟨⟨n', st, (hk mb (.inl rfl)).trans h0⟩, glob_at hg (hk 1 (.inr (.inr rfl))), hT.keep (hk 0 (.inr (.inl rfl))), h2⟩
 low := fun W W' h hb => ⟨h.1.below hb (Nat.le_refl _), h.2.below hb h.2.pos⟩
 two := fun W h => by obtain ⟨m, hm⟩ := h.1; exact World.block_lt_of_cell? W _ hm
end Go.Proofs.YtbekghinikjjeaaGreatDoor.occ
namespace Go.Proofs.YtbekghinikjjeaaGreatDoor.occ
open Go.RowKit Go.Shelf Go.Proofs.YtbekghinikjjeaaGreatDoor.br Go.Proofs.YtbekghinikjjeaaGreatDoor.smt Go.Proofs.YtbekghinikjjeaaGreatDoor.pkk
def oneQ (c : Nat) : Nat → Bool := fun i => Nat.beq i c
theorem one_is {c : Nat} (hc : c < 256) : selfP c = oneQ c := by
 funext i
 show (List.any (List.take 1 [UInt8.ofNat c]) fun b => b.toNat == i) = Nat.beq i c
 rw [Bool.eq_iff_iff]
 simp [Nat.mod_eq_of_lt hc]
 exact eq_comm
def awA : List Tr := [repT 0 (-1) (byteT (oneQ 97))]
theorem aw_p : parseT ⟨#[97, 42]⟩ = .ok awA := by
 unfold awA
 simp only [← one_is (show 97 < 256 by decide)]
 kernel_rfl
def awM (k : Nat) : Option (List (Int × Int)) := match k with
 | 0 => some [(0, 0)]
 | 1 => some [(1, 3)]
 | 2 => some [(2, 3)]
 | 3 => some [(3, 3)]
 | _ => some [(4, 4)]
theorem aw_m : ∀ k, k < 5 → (matchF 600 0 (catT awA) [98, 97, 97, 99] k).map (·.1) = some (awM k) := by decide +kernel
theorem aw_n : (msF .zero awA).back = false ∧ (msF .zero awA).groups = ((0 : Nat) : Int) := by
 simp [awA, msF, msT, repT, byteT, Ms.zero, Ms.both, Ms.rep, wrM, sumM, xdh]
theorem aw_mka : Mka ⟨#[97, 42]⟩ ⟨#[98, 97, 97, 99]⟩ awM awA 0 := by
 obtain ⟨n, h1, h2⟩ := ly_parse aw_p aw_n.1
 have h3 := aw_n.2
 obtain rfl : n = 0 := by omega
 refine ⟨aw_p, aw_n.1, h1, h2, by decide, fun k sp hk h => ?_, fun k hk => ?_⟩
 · have hk : k ≤ 4 := hk
   have : k = 0 ∨ k = 1 ∨ k = 2 ∨ k = 3 ∨ k = 4 := by omega
   rcases this with rfl | rfl | rfl | rfl | rfl <;> cases h
   · exact ⟨0, 0, [], rfl, by decide, by decide, by decide⟩
   · exact ⟨1, 3, [], rfl, by decide, by decide, by decide⟩
   · exact ⟨2, 3, [], rfl, by decide, by decide, by decide⟩
   · exact ⟨3, 3, [], rfl, by decide, by decide, by decide⟩
   · exact ⟨4, 4, [], rfl, by decide, by decide, by decide⟩
 · have hk : k ≤ 4 := hk
   obtain ⟨⟨o, c⟩, hc, he⟩ := Option.map_eq_some_iff.1 (aw_m k (by omega))
   exact ⟨600, c, by rw [← he]; exact hc⟩
def awW : List (List (Int × Int)) := [[(0, 0)], [(1, 3)], [(4, 4)]]
theorem aw_occ : (occF awM 4 6 (-1) 0).take 9 = awW := by decide +kernel
theorem lit_one (W : World) (a b : Int) : (W.alloc (.cells #[.int .i64 a, .int .i64 b] 30)).ownsRow 0 30 2 (.slice (some ⟨W.heap.size, 0, none⟩) 1 1) 1 (spW [(a, b)]) := by
 have h := World.ownsRow_lit (base := 0) (e := 30) (size := 2) W #[.int .i64 a, .int .i64 b] 1 (Nat.zero_le _) (by unfold maxLen; omega) rfl
 exact h
theorem want_laid (w : World) : let W := (((w.alloc (.cells #[.int .i64 0, .int .i64 0] 30)).alloc (.cells #[.int .i64 1, .int .i64 3] 30)).alloc (.cells #[.int .i64 4, .int .i64 4] 30)).alloc (.cells #[.slice (some ⟨w.heap.size, 0, none⟩) 1 1, .slice (some ⟨w.heap.size + 1, 0, none⟩) 1 1, .slice (some ⟨w.heap.size + 1 + 1, 0, none⟩) 1 1] 28)
  LsAt W 0 (.slice (some ⟨w.heap.size + 1 + 1 + 1, 0, none⟩) 3 3) awW ∧ Below w.heap.size w W := by
 intro W
 have h1 := lit_one w 0 0
 have h2 := lit_one (w.alloc (.cells #[.int .i64 0, .int .i64 0] 30)) 1 3
 have h3 := lit_one ((w.alloc (.cells #[.int .i64 0, .int .i64 0] 30)).alloc (.cells #[.int .i64 1, .int .i64 3] 30)) 4 4
 have h4 := World.ownsRow_lit (base := 0) (e := 28) (size := 1) (((w.alloc (.cells #[.int .i64 0, .int .i64 0] 30)).alloc (.cells #[.int .i64 1, .int .i64 3] 30)).alloc (.cells #[.int .i64 4, .int .i64 4] 30)) #[.slice (some ⟨w.heap.size, 0, none⟩) 1 1, .slice (some ⟨w.heap.size + 1, 0, none⟩) 1 1, .slice (some ⟨w.heap.size + 1 + 1, 0, none⟩) 1 1] 3 (Nat.zero_le _) (by unfold maxLen; omega) rfl
 simp only [World.size_alloc] at h2 h3 h4
 refine ⟨⟨_, h4, rfl, fun i u sp hu hs => ?_⟩, ((((Below.refl w.heap.size w).alloc (Nat.le_refl _) (.cells #[.int .i64 0, .int .i64 0] 30)).alloc (by simp) (.cells #[.int .i64 1, .int .i64 3] 30)).alloc (by simp only [World.size_alloc]; omega) (.cells #[.int .i64 4, .int .i64 4] 30)).alloc (by simp only [World.size_alloc]; omega) _⟩
 match i, hu, hs with
 | 0, hu, hs => cases hu; cases hs; exact ((h1.alloc _).alloc _).alloc _
 | 1, hu, hs => cases hu; cases hs; exact (h2.alloc _).alloc _
 | 2, hu, hs => cases hu; cases hs; exact h3.alloc _
 | _ + 3, hu, _ => cases hu
theorem awake_any (w : World) (hg : Glob w) (hT : Tab w) : Calls Tryz.prog 7 #[] w fun e w' => e = .returned (.bool true) ∧ Below w.heap.size w w' := by
 have hL := list_any (mc_of aw_mka) (by decide) 9 (by omega) (by omega) w ⟨hg, hT⟩
 rw [show occF awM (ByteArray.size ⟨#[98, 97, 97, 99]⟩) ((ByteArray.size ⟨#[98, 97, 97, 99]⟩) + 2) (-1) 0 = occF awM 4 6 (-1) 0 from rfl, aw_occ] at hL
 have HL := hideT hL
 clear hL hg hT
 go_enter Tryz.func7, Tryz.ntmps7
 go_wp2_with fail
 refine HL.out.mono ?_
 rintro e w1 ⟨v, rfl, hls, hb⟩
 have hw := want_laid w1
 have HW := hideT (And.intro hls (And.intro hb hw))
 clear hls hb hw HL
 go_upto_region 3 with fail
 have hS := sameL_any _ (LsAt.below HW.out.1 HW.out.2.2.2) HW.out.2.2.1 (by decide) (by decide)
 have HB := hideT (HW.out.2.1.trans (HW.out.2.2.2.mono HW.out.2.1.size))
 clear HW
 go_wp2_with fail
 refine hS.mono ?_
 rintro e w2 ⟨rfl, hb⟩
 have H2 := hideT (HB.out.trans (hb.mono HB.out.size))
 clear hb HB hS
 go_wp2
 go_ret
 exact ⟨rfl, H2.out⟩
end Go.Proofs.YtbekghinikjjeaaGreatDoor.occ
namespace Go.Proofs.YtbekghinikjjeaaGreatDoor.occ
open Go.RowKit Go.Shelf
def fstF (P : Nat → Bool) (s : List Nat) : Nat → Nat → Option (Nat × Nat)
 | 0, _ => none
 | f + 1, a => bif P (s.getD a 0) then some (a, a + 1) else fstF P s f (a + 1)
def mtE (k : Nat) : Option (List (Int × Int)) := some [((k : Int), (k : Int))]
def allE : Nat → Nat → List (List (Int × Int))
 | 0, _ => []
 | n + 1, k => [((k : Int), (k : Int))] :: allE n (k + 1)
theorem occ_e (len : Nat) : ∀ (f : Nat) (z : Int) (k : Nat), z < k → len + 1 - k < f → occF mtE len f z k = allE (len + 1 - k) k
 | 0, _, _, _, h => by omega
 | f + 1, z, k, hz, hf => by
  rw [occF]
  by_cases hk : k ≤ len
  · have h1 : (z == (k : Int)) = false := by simp; omega
    rw [show Nat.ble k len = true from Nat.ble_eq_true_of_le hk, cond_true, show len + 1 - k = (len - k) + 1 by omega, allE]
    have := occ_e len f (k : Int) (k + 1) (by omega) (by omega)
    rw [show len + 1 - (k + 1) = len - k by omega] at this
    simp only [mtE, List.getD_cons_zero, BEq.rfl, Bool.not_true, Bool.false_or, cond_true, Int.toNat_natCast]
    rw [show ((k : Int) == z) = false by simp; omega, Bool.not_false, cond_true]
    exact congrArg _ this
  · have : Nat.ble k len = false := by cases h : Nat.ble k len with
     | false => rfl
     | true => exact absurd (Nat.le_of_ble_eq_true h) hk
    rw [this, cond_false, show len + 1 - k = 0 by omega, allE]
theorem allE_len : ∀ n k : Nat, (allE n k).length = n
 | 0, _ => rfl
 | n + 1, k => by rw [allE, List.length_cons, allE_len]
theorem allE_at : ∀ n k i : Nat, i < n → (allE n k)[i]? = some [(((k + i : Nat) : Int), ((k + i : Nat) : Int))]
 | 0, _, _, h => by omega
 | n + 1, k, 0, _ => rfl
 | n + 1, k, i + 1, h => by
  rw [allE, List.getElem?_cons_succ, allE_at n (k + 1) i (by omega), show k + 1 + i = k + (i + 1) by omega]
def mtB (P : Nat → Bool) (s : List Nat) (k : Nat) : Option (List (Int × Int)) := (fstF P s (s.length - k) k).map fun x => [((x.1 : Int), (x.2 : Int))]
def allB (P : Nat → Bool) : Nat → List Nat → List (List (Int × Int))
 | _, [] => []
 | k, c :: s => bif P c then [((k : Int), ((k + 1 : Nat) : Int))] :: allB P (k + 1) s else allB P (k + 1) s
theorem drop_at {s : List Nat} {k : Nat} (hk : k < s.length) : s.drop k = s.getD k 0 :: s.drop (k + 1) := by
 rw [List.drop_eq_getElem_cons hk, List.getD_eq_getElem?_getD, List.getElem?_eq_getElem hk]
 rfl
theorem occ_b (P : Nat → Bool) (s : List Nat) : ∀ (n f : Nat) (z : Int) (k : Nat), s.length - k ≤ n → k ≤ s.length → n + 1 < f → occF (mtB P s) s.length f z k = allB P k (s.drop k)
 | n, 0, _, _, _, _, h => by omega
 | n, f + 1, z, k, hn, hk, hf => by
  rw [occF, show Nat.ble k s.length = true from Nat.ble_eq_true_of_le hk, cond_true]
  have key : ∀ (m j : Nat), s.length - j = m → k ≤ j → j ≤ s.length → (match (fstF P s m j).map (fun x => [((x.1 : Int), (x.2 : Int))]) with
    | none => ([] : List (List (Int × Int)))
    | some sp => let p := sp.getD 0 (0, 0)
     let rest := occF (mtB P s) s.length f p.2 (bif p.1 == p.2 then p.2.toNat + 1 else p.2.toNat)
     bif !(p.1 == p.2) || !(p.1 == z) then sp :: rest else rest) = allB P j (s.drop j) := by
   intro m
   induction m with
   | zero =>
    intro j hj h1 h2
    rw [show j = s.length by omega, List.drop_length]
    rfl
   | succ m ih =>
    intro j hj h1 h2
    have hlt : j < s.length := by omega
    rw [drop_at hlt, fstF, allB]
    cases hP : P (s.getD j 0)
    · simp only [cond_false]
      exact ih (j + 1) (by omega) (by omega) (by omega)
    · simp only [cond_true, Option.map_some]
      match n, hn, hf with
      | 0, hn, hf => omega
      | n + 1, hn, hf =>
       have := occ_b P s n f ((j + 1 : Nat) : Int) (j + 1) (by omega) (by omega) (by omega)
       have e : ((j : Int) == ((j + 1 : Nat) : Int)) = false := by simp; omega
       simp only [List.getD_cons_zero, e, Bool.not_false, Bool.true_or, cond_true, cond_false, Int.toNat_natCast]
       rw [this]
  exact key _ k rfl (Nat.le_refl _) hk
theorem allB_len (P : Nat → Bool) : ∀ (s : List Nat) (k : Nat), (allB P k s).length ≤ s.length
 | [], _ => Nat.le_refl _
 | c :: s, k => by
  rw [allB]
  have := allB_len P s (k + 1)
  cases P c
  · rw [cond_false, List.length_cons]; omega
  · rw [cond_true, List.length_cons, List.length_cons]; omega
theorem LsAt.one {W : World} {B : Nat} {v : Value} {l : List (List (Int × Int))} (h : LsAt W B v l) {i : Nat} {a b : Int} (hi : l[i]? = some [(a, b)]) : ∃ g c gi ci, v = .slice (some ⟨g, 0, none⟩) l.length c ∧ W.cell? ⟨g, i, none⟩ = some (.slice (some ⟨gi, 0, none⟩) 1 ci) ∧ W.cell? ⟨gi, 0, none⟩ = some (.int .i64 a) ∧ W.cell? ⟨gi, 1, none⟩ = some (.int .i64 b) := by
 obtain ⟨vs, h1, h2, h3⟩ := h
 have hlt := (List.getElem?_eq_some_iff.1 hi).1
 obtain ⟨u, hu⟩ : ∃ u, vs[i]? = some u := ⟨vs[i]'(by omega), List.getElem?_eq_getElem (by omega)⟩
 have h4 := h3 i u _ hu hi
 have h40 := h4
 rcases h1.2 with ⟨_, e⟩ | ⟨g, cap, cur, rfl, r⟩
 · omega
 rcases h40.2 with ⟨_, e⟩ | ⟨gi, ci, cur, rfl, r⟩
 · cases e
 exact ⟨g, cap, gi, ci, rfl, (owns_cell h1 i _ hu).1, (owns_cell h4 0 _ rfl).1, (owns_cell h4 1 _ rfl).1⟩
end Go.Proofs.YtbekghinikjjeaaGreatDoor.occ
namespace Go.Proofs.YtbekghinikjjeaaGreatDoor.occ
open Go.RowKit Go.Shelf
def okB (c : UInt8) : Prop := c.toNat ≠ 92 ∧ c.toNat ≠ 91 ∧ c.toNat ≠ 46 ∧ c.toNat ≠ 94 ∧ c.toNat ≠ 36 ∧ c.toNat ≠ 42
def isB (c : UInt8) : Nat → Bool := fun i => Nat.beq i c.toNat
def bq (s : ByteArray) : List Nat := s.data.toList.map UInt8.toNat
theorem und_sp2 : Tryz.prog.underlying 30 = some (.struct (Tryz.prog.fieldsOf 30)) := by kernel_rfl
theorem neq_sp2 (x0 x1 y0 y1 : Int) (w : World) : (binOp .neq 30 (.agg #[.int .i64 x0, .int .i64 x1]) (.agg #[.int .i64 y0, .int .i64 y1])).run Tryz.prog w = .ok (.bool (!((x0 == y0) && (x1 == y1)))) w := by
 rw [run_neq_struct, run_equalIn_agg w 9999 _ _ _ und_sp2 (by kernel_rfl)]
 have hf : (Tryz.prog.fieldsOf 30).toList = [{ name := "From", type := 3, offset := 0, embedded := false, tag := "", pkgPath := "", byteOffset := 0 }, { name := "To", type := 3, offset := 1, embedded := false, tag := "", pkgPath := "", byteOffset := 8 }] := by kernel_rfl
 rw [hf]
 simp [Op.eqFields, go_sem]
 by_cases h0 : x0 = y0 <;> by_cases h1 : x1 = y1 <;> simp [h0, h1]
structure Ah (P : World → Prop) : Prop where
 low : ∀ W W', P W → Below W.heap.size W W' → P W'
 aw : ∀ W, P W → Calls Tryz.prog 7 #[] W fun e w' => e = .returned (.bool true) ∧ Below W.heap.size W w'
 one : ∀ (W : World) (c : UInt8) (q : ByteArray), P W → okB c → q.size ≤ 100 → Calls Tryz.prog 8 #[.string ⟨#[c]⟩, .string q, .int .i64 200] W fun e w' => ∃ v, e = .returned (.tuple #[v, .int .i64 0]) ∧ LsAt w' W.heap.size v (allB (isB c) 0 (bq q)) ∧ Below W.heap.size W w'
 non : ∀ (W : World) (q : ByteArray), P W → q.size ≤ 100 → Calls Tryz.prog 8 #[.string ⟨#[]⟩, .string q, .int .i64 200] W fun e w' => ∃ v, e = .returned (.tuple #[v, .int .i64 0]) ∧ LsAt w' W.heap.size v (allE (q.size + 1) 0) ∧ Below W.heap.size W w'
theorem walk_bytes {P : World → Prop} (hP : Ah P) (n : Nat) (hn : n < 256) (s : ByteArray) (w : World) (hw : P w) : Calls Tryz.prog 3 #[.int .u8 (n : Nat), .string s] w fun e w' => e = .returned (.bool true) ∧ Below w.heap.size w w' := by
 have HP := hideT (And.intro hP (And.intro hn hw))
 have hA := hP.aw w hw
 clear hP hw
 go_enter Tryz.func3, Tryz.ntmps3
 go_wp2_with fail
 refine hA.mono ?_
 rintro e w1 ⟨rfl, hb⟩
 have HB := hideT hb
 clear hb hA
 go_upto_region 4 with fail
 obtain ⟨q, hq, hq2, hqs⟩ : ∃ q, s.extract 0 (if (100 : Int) < (s.size : Int) then 100 else (s.size : Int)).toNat = q ∧ s.extract 0 (min (s.size : Int) 100).toNat = q ∧ q.size ≤ 100 := ⟨_, rfl, by congr 2; split <;> omega, by rw [ByteArray.size_extract]; split <;> omega⟩
 first | rw [hq] | rw [hq2]
 clear hq hq2
 have HQ := hideT hqs
 clear hqs
 generalize (if (100 : Int) < (s.size : Int) then 100 else (s.size : Int)) = mn
 generalize min (s.size : Int) 100 = mn2
 have HC := hideT (Go.Proofs.YtbekghinikjjeaaGreatDoor.br.conv_one w1 n)
 have h0 := HC.out
 go_upto_region 5 with fail
 have HBL := hideT ((Below.refl w1.heap.size w1).alloc (Nat.le_refl _) (.cells #[.int .u8 (n : Int)] 5))
 clear h0 HC
 go_cut [47] from 19 to 47 (fun s47 w' => ∃ ok : Bool, s47 = .bool (!ok) ∧ Hid (ok = true → okB (UInt8.ofNat n)) ∧ Hid (Below w1.heap.size w1 w'))
 case first =>
  have HO := hideT (fun (h : (48 ≤ n ∧ n ≤ 57) ∨ (65 ≤ n ∧ n ≤ 90) ∨ (97 ≤ n ∧ n ≤ 122) ∨ 128 ≤ n) => (by
   have h1 : (UInt8.ofNat n).toNat = n := by simp; omega
   unfold okB
   rw [h1]
   omega : okB (UInt8.ofNat n)))
  by_cases k1 : n < 48
  · have i1 : (n : Int) < 48 := by omega
    clear k1
    go_wp2
    all_goals go_meet
    all_goals exact ⟨false, rfl, hideT nofun, HBL⟩
  have i1 : ((n : Int) < 48) = False := by rw [eq_iff_iff, iff_false]; omega
  by_cases k2 : n ≤ 57
  · have i2 : ((57 : Int) < n) = False := by rw [eq_iff_iff, iff_false]; omega
    have i3 : ((90 : Int) < n) = False := by rw [eq_iff_iff, iff_false]; omega
    have i4 : ((122 : Int) < n) = False := by rw [eq_iff_iff, iff_false]; omega
    have HR := hideT (HO.out (by omega))
    clear k1 k2
    go_wp2
    all_goals go_meet
    all_goals exact ⟨true, rfl, hideT (fun _ => HR.out), HBL⟩
  have i2 : (57 : Int) < n := by omega
  by_cases k3 : n < 65
  · have i3 : (n : Int) < 65 := by omega
    clear k1 k2 k3
    go_wp2
    all_goals go_meet
    all_goals exact ⟨false, rfl, hideT nofun, HBL⟩
  have i3 : ((n : Int) < 65) = False := by rw [eq_iff_iff, iff_false]; omega
  by_cases k4 : n ≤ 90
  · have i4 : ((90 : Int) < n) = False := by rw [eq_iff_iff, iff_false]; omega
    have i5 : ((122 : Int) < n) = False := by rw [eq_iff_iff, iff_false]; omega
    have HR := hideT (HO.out (by omega))
    clear k1 k2 k3 k4
    go_wp2
    all_goals go_meet
    all_goals exact ⟨true, rfl, hideT (fun _ => HR.out), HBL⟩
  have i4 : (90 : Int) < n := by omega
  by_cases k5 : n < 97
  · have i5 : (n : Int) < 97 := by omega
    clear k1 k2 k3 k4 k5
    go_wp2
    all_goals go_meet
    all_goals exact ⟨false, rfl, hideT nofun, HBL⟩
  have i5 : ((n : Int) < 97) = False := by rw [eq_iff_iff, iff_false]; omega
  by_cases k6 : n ≤ 122
  · have i6 : ((122 : Int) < n) = False := by rw [eq_iff_iff, iff_false]; omega
    have HR := hideT (HO.out (by omega))
    clear k1 k2 k3 k4 k5 k6
    go_wp2
    all_goals go_meet
    all_goals exact ⟨true, rfl, hideT (fun _ => HR.out), HBL⟩
  have i6 : (122 : Int) < n := by omega
  by_cases k7 : n < 128
  · have i7 : (n : Int) < 128 := by omega
    clear k1 k2 k3 k4 k5 k6 k7
    go_wp2
    all_goals go_meet
    all_goals exact ⟨false, rfl, hideT nofun, HBL⟩
  have i7 : ((n : Int) < 128) = False := by rw [eq_iff_iff, iff_false]; omega
  have HR := hideT (HO.out (by omega))
  clear k1 k2 k3 k4 k5 k6 k7
  go_wp2
  all_goals go_meet
  all_goals exact ⟨true, rfl, hideT (fun _ => HR.out), HBL⟩
 case rest =>
 obtain ⟨ok, rfl, HK, HB1⟩ := hcut
 clear HBL
 go_upto_if 47 with fail
 go_cut [5] from 19 to 47 (fun s5 w' => ∃ c : UInt8, s5 = .string ⟨#[c]⟩ ∧ Hid (okB c) ∧ w' = wc)
 case first =>
  cases ok
  · go_wp2
    all_goals go_meet
    all_goals exact ⟨120, rfl, hideT (by unfold okB; decide), rfl⟩
  · have HR := hideT (HK.out rfl)
    go_wp2
    all_goals go_meet
    all_goals exact ⟨_, rfl, HR, rfl⟩
 case rest =>
 obtain ⟨c, rfl, HC, hwc⟩ := hcut
 subst hwc
 have hPc := HP.out.1.low w1 wc (HP.out.1.low w w1 HP.out.2.2 HB.out) HB1.out
 have HWC := hideT (And.intro hPc (HB.out.trans (HB1.out.mono HB.out.size)))
 have hL := HP.out.1.one wc c q hPc HC.out HQ.out
 clear hPc HK HB1 HB
 go_wp2_with fail
 refine hL.mono ?_
 rintro e w2 ⟨v1, rfl, hls, hb⟩
 obtain ⟨a1, c1, rfl⟩ : ∃ a1 c1, v1 = .slice a1 (allB (isB c) 0 (bq q)).length c1 := by
  obtain ⟨vs, h1, _⟩ := hls
  exact row_shape h1
 have hL2 := HP.out.1.non w2 q (HP.out.1.low wc w2 HWC.out.1 hb) HQ.out
 have H2 := hideT (And.intro hls (And.intro (HP.out.1.low wc w2 HWC.out.1 hb) (HWC.out.2.trans (hb.mono HWC.out.2.size))))
 clear hls hb hL HWC
 generalize hll : (allB (isB c) 0 (bq q)).length = ll at *
 have HLL := hideT hll
 clear hll
 go_wp2_with fail
 refine hL2.mono ?_
 rintro e w3 ⟨v2, rfl, hls, hb⟩
 obtain ⟨nn, hnn⟩ : ∃ nn, nn = q.size + 1 := ⟨_, rfl⟩
 obtain ⟨a2, c2, rfl⟩ : ∃ a2 c2, v2 = .slice a2 nn c2 := by
  obtain ⟨vs, h1, _⟩ := hls
  rw [allE_len] at h1
  rw [hnn]
  exact row_shape h1
 have H3 := hideT (And.intro hls (And.intro H2.out.1 (And.intro hb (H2.out.2.2.trans (hb.mono H2.out.2.2.size)))))
 clear hls hb hL2 H2
 have e1 : ((nn : Int) != (q.size : Int) + 1) = false := by simp; omega
 have HNN := hideT hnn
 have b1 : (q.size : Int) ≤ 100 := by have := HQ.out; omega
 clear hnn
 have e2 : ∀ i : Nat, i ≤ q.size → ∃ g gi ci, a2 = some ⟨g, 0, none⟩ ∧ w3.cell? ⟨g, i, none⟩ = some (.slice (some ⟨gi, 0, none⟩) 1 ci) ∧ w3.cell? ⟨gi, 0, none⟩ = some (.int .i64 i) ∧ w3.cell? ⟨gi, 1, none⟩ = some (.int .i64 i) := fun i hi => by
  have h := allE_at (q.size + 1) 0 i (by omega)
  rw [Nat.zero_add] at h
  obtain ⟨g, c, gi, ci, h1, h2, h3, h4⟩ := H3.out.1.one h
  simp only [Value.slice.injEq] at h1
  exact ⟨g, gi, ci, h1.1, h2, h3, h4⟩
 have e3 : ∀ (k : Nat) (a b : Int), (allB (isB c) 0 (bq q))[k]? = some [(a, b)] → ∃ g gi ci, a1 = some ⟨g, 0, none⟩ ∧ w3.cell? ⟨g, k, none⟩ = some (.slice (some ⟨gi, 0, none⟩) 1 ci) ∧ w3.cell? ⟨gi, 0, none⟩ = some (.int .i64 a) ∧ w3.cell? ⟨gi, 1, none⟩ = some (.int .i64 b) := fun k a b hk => by
  obtain ⟨g, c, gi, ci, h1, h2, h3, h4⟩ := H3.out.2.1.one hk
  simp only [Value.slice.injEq] at h1
  have kc : ∀ {p v}, w2.cell? p = some v → w3.cell? p = some v := fun {p v} h => (World.cell?_of_block (H3.out.2.2.1.block _ (World.block_lt_of_cell? w2 _ h))).trans h
  exact ⟨g, gi, ci, h1.1, kc h2, kc h3, kc h4⟩
 have HE := hideT (And.intro e2 e3)
 clear e2 e3
 go_wp2_with fail
 go_loopw [10, 11] (fun kv iv wr => ∃ i k : Nat, i ≤ q.size + 1 ∧ iv = .int .i64 (i : Nat) ∧ kv = .int .i64 (k : Nat) ∧ Hid (allB (isB c) i ((bq q).drop i) = (allB (isB c) 0 (bq q)).drop k ∧ k ≤ ll) ∧ Hid (∃ m, wr = w3.drewN m)) (fun _ iv _ => (q.size + 1 - intOf iv).toNat)
 case atStart => exact ⟨0, 0, by omega, rfl, rfl, hideT ⟨rfl, Nat.zero_le _⟩, hideT ⟨0, rfl⟩⟩
 case round =>
  obtain ⟨i, k, hi, rfl, rfl, HA, HM⟩ := hrel
  have hwr : ∀ p, wr.cell? p = w3.cell? p := fun p => by obtain ⟨m, rfl⟩ := HM.out; rfl
  by_cases hlt : i ≤ q.size
  · obtain ⟨g, gi, ci, rfl, q0, q1, q2⟩ := HE.out.1 i hlt
    rw [← hwr] at q0 q1 q2
    have hn := neq_sp2 i i i i
    have i1 : (i : Int) ≤ (q.size : Int) := by omega
    have i2 : (0 : Int) ≤ (i : Int) := by omega
    have i3 : (i : Int) < (nn : Int) := by have := HNN.out; omega
    have HI := hideT (And.intro hi hlt)
    clear hi hlt hwr
    go_wp2_with fail
    rcases Nat.lt_or_ge i q.size with hlt | hge
    · have j1 : (i : Int) < (q.size : Int) := by omega
      have HLT := hideT hlt
      go_quiet (fail)
      go_upto_if 108 with fail
      have hat : (bq q).drop i = q[i].toNat :: (bq q).drop (i + 1) := by
       have hl : i < (bq q).length := by rw [bq, List.length_map]; exact hlt
       rw [List.drop_eq_getElem_cons hl]
       simp [bq]
       rfl
      have hz : 0 < (⟨#[c]⟩ : ByteArray).size := Nat.one_pos
      have hcv : ((q[i].toNat : Int) == ((⟨#[c]⟩ : ByteArray)[0].toNat : Int)) = isB c q[i].toNat := by
       rw [Bool.eq_iff_iff]
       show _ ↔ Nat.beq q[i].toNat c.toNat = true
       simp only [beq_iff_eq, Nat.beq_eq]
       constructor
       · intro h; exact Int.ofNat.inj h
       · intro h; exact congrArg Int.ofNat h
      have hal := HA.out.1
      rw [hat, allB] at hal
      erw [hcv]
      clear hat hcv
      generalize isB c q[i].toNat = bb at *
      cases bb
      · rw [cond_false] at hal
        have HDL := hideT hal
        clear hal
        go_wp2
        exact ⟨⟨i + 1, k, by have := HLT.out; omega, by go_num, rfl, hideT ⟨HDL.out, HA.out.2⟩, hideT (by obtain ⟨m, rfl⟩ := HM.out; exact ⟨_, World.drewN_drewN ..⟩)⟩, by simp [intOf]; have := HLT.out; omega⟩
      · rw [cond_true] at hal
        have hk : (allB (isB c) 0 (bq q))[k]? = some [((i : Int), ((i + 1 : Nat) : Int))] := by
         have := congrArg (fun l => l[0]?) hal
         simp only [List.getElem?_cons_zero, List.getElem?_drop, Nat.add_zero] at this
         exact this.symm
        have hkl : k < ll := by rw [← HLL.out]; exact (List.getElem?_eq_some_iff.1 hk).1
        have hdr : allB (isB c) (i + 1) ((bq q).drop (i + 1)) = (allB (isB c) 0 (bq q)).drop (k + 1) := by
         have := congrArg (List.drop 1) hal
         rw [List.drop_drop, List.drop_succ_cons, List.drop_zero] at this
         exact this
        obtain ⟨g5, gi5, ci5, rfl, p0, p1, p2⟩ := HE.out.2 k _ _ hk
        have hwr : ∀ p, (wr.drewN nq).cell? p = w3.cell? p := fun p => by obtain ⟨m, rfl⟩ := HM.out; rfl
        rw [← hwr] at p0 p1 p2
        rw [show ((i + 1 : Nat) : Int) = (i : Int) + 1 by omega] at p2
        have hn2 := neq_sp2 i (i + 1) i (i + 1)
        have i4 : ((ll : Int) ≤ (k : Int)) = False := by rw [eq_iff_iff, iff_false]; omega
        have i5 : (k : Int) < (ll : Int) := by omega
        have i6 : (0 : Int) ≤ (k : Int) := by omega
        have i7 : (k : Int) < 1000 := by
         have := allB_len (isB c) (bq q) 0
         have h2 : (bq q).length = q.size := by rw [bq, List.length_map]; rfl
         rw [HLL.out] at this
         omega
        have i8 : (i : Int) < 1000 := by omega
        have HDL := hideT (And.intro hdr hkl)
        clear hal hk hkl hdr hwr hn q0 q1 q2
        go_wp2_with fail
        exact ⟨⟨i + 1, k + 1, by have := HLT.out; omega, by go_num, by go_num, hideT ⟨HDL.out.1, HDL.out.2⟩, hideT (by obtain ⟨m, rfl⟩ := HM.out; exact ⟨_, World.drewN_drewN ..⟩)⟩, by simp [intOf]; have := HLT.out; omega⟩
    · have j1 : ((i : Int) < (q.size : Int)) = False := by rw [eq_iff_iff, iff_false]; omega
      have HGE := hideT hge
      clear hge
      go_quiet (fail)
      go_wp2
      refine ⟨⟨i + 1, k, by have := HI.out.2; omega, by go_num, rfl, hideT ⟨?_, HA.out.2⟩, hideT (by obtain ⟨m, rfl⟩ := HM.out; exact ⟨_, World.drewN_drewN ..⟩)⟩, by simp [intOf]; have := HI.out.2; omega⟩
      have h2 : (bq q).length = q.size := by rw [bq, List.length_map]; rfl
      have h := HA.out.1
      rw [List.drop_of_length_le (by rw [h2]; have := HGE.out; omega)] at h ⊢
      exact h
  · have i1 : ((i : Int) ≤ (q.size : Int)) = False := by rw [eq_iff_iff, iff_false]; omega
    have hkl : k = ll := by
     have h2 : (bq q).length = q.size := by rw [bq, List.length_map]; rfl
     have h := HA.out.1
     rw [List.drop_of_length_le (by rw [h2]; omega)] at h
     have h3 := congrArg List.length h
     rw [List.length_drop, HLL.out] at h3
     have := HA.out.2
     simp only [allB, List.length_nil] at h3
     omega
    have hk : ((k : Int) == (ll : Int)) = true := by rw [hkl]; simp
    clear hlt hkl
    go_wp2
    go_ret
    obtain ⟨m, rfl⟩ := HM.out
    exact ⟨rfl, H3.out.2.2.2.trans ⟨rfl, rfl, rfl, Nat.le_refl _, fun _ _ => rfl⟩⟩
end Go.Proofs.YtbekghinikjjeaaGreatDoor.occ
namespace Go.Proofs.YtbekghinikjjeaaGreatDoor.occ
open Go.RowKit Go.Shelf Go.Proofs.YtbekghinikjjeaaGreatDoor.br Go.Proofs.YtbekghinikjjeaaGreatDoor.smt Go.Proofs.YtbekghinikjjeaaGreatDoor.pkk
theorem lay_one (q P : Nat → Bool) (lo hi lo' hi' : Int) (g : Nat) : (layT (.mk 0 q lo hi 0 [.mk 1 P lo' hi' g []])).takes = [P] ∧ (layT (.mk 0 q lo hi 0 [.mk 1 P lo' hi' g []])).next = [0] ∧ (layT (.mk 0 q lo hi 0 [.mk 1 P lo' hi' g []])).bds = [⟨false, 1, 1⟩, ⟨false, 1, 1⟩, ⟨false, 1, 1⟩, ⟨false, 1, 1⟩] ∧ (layT (.mk 0 q lo hi 0 [.mk 1 P lo' hi' g []])).deep = false := by
 refine ⟨?_, ?_, ?_, ?_⟩ <;> kernel_rfl
theorem run_one {p : Pt} {P : Nat → Bool} (ht : p.takes = [P]) (hn : p.next = [0]) (hb : ∀ k, k < 4 → (bat p.bds k).la = 1) (s : List Nat) (f a : Nat) (ha : a < s.length) (tr : List Nat) (h0 : tr.getD a 0 = 0) (hd : Nat) : ∃ x, runF p s (f + 2) 1 a none (tr, hd) = (bif P (s.getD a 0) then some (a + 1) else none, (tr.set a 1, x)) := by
 have k4 : kindAt s.length (a + 1) < 4 := by
  unfold kindAt
  cases Nat.beq (a + 1) 0 <;> cases Nat.beq (a + 1) s.length <;> decide
 have hne : Nat.beq a s.length = false := by cases h : Nat.beq a s.length with
  | false => rfl
  | true => exact absurd (Nat.eq_of_beq_eq_true h) (by omega)
 have hm1 : mem 256 1 = [0] := by kernel_rfl
 have hm0 : mem 256 0 = [] := by kernel_rfl
 rw [runF, hne, cond_false]
 simp only [h0]
 rw [show 1 ^^^ (1 &&& 0) = 1 by decide, show Nat.beq 1 0 = false by decide, cond_false, hb _ k4]
 have htk : takers p s 1 a = bif P (s.getD a 0) then 1 else 0 := by
  unfold takers
  rw [hm1, ht]
  show (bif P (s.getD a 0) then 0 ||| 1 <<< 0 else 0) = _
  cases P (s.getD a 0) <;> decide
 rw [htk]
 have ho : ∀ t, t = 0 ∨ t = 1 → onward p t = 0 := by
  rintro t (rfl | rfl)
  · unfold onward; rw [hm0]; rfl
  · unfold onward; rw [hm1, hn]; rfl
 have stop : ∀ (tz : Option Nat) (st : List Nat × Nat), runF p s (f + 1) 0 (a + 1) tz st = (tz, st) := by
  rintro tz ⟨t, h⟩
  rw [runF]
  cases Nat.beq (a + 1) s.length
  · rw [cond_false]
    have e : (0 ^^^ (0 &&& t.getD (a + 1) 0)) = 0 := by rw [Nat.zero_and]; decide
    simp only [e]
    rfl
  · rfl
 cases P (s.getD a 0)
 · rw [cond_false, cond_false, ho 0 (.inl rfl), stop]
   exact ⟨_, rfl⟩
 · rw [cond_true, cond_true, ho 1 (.inr rfl), stop]
   exact ⟨_, rfl⟩
theorem find_one {p : Pt} {P : Nat → Bool} (ht : p.takes = [P]) (hn : p.next = [0]) (hb : ∀ k, k < 4 → bat p.bds k = ⟨false, 1, 1⟩) (s : List Nat) : ∀ (f a : Nat) (tr : List Nat) (hd : Nat), a + f = s.length + 1 → (∀ j, a ≤ j → tr.getD j 0 = 0) → (findF p s f a (tr, hd)).1 = fstF P s (s.length - a) a
 | 0, a, tr, hd, hf, _ => by rw [show s.length - a = 0 by omega]; rfl
 | f + 1, a, tr, hd, hf, h0 => by
  have k4 : kindAt s.length a < 4 := by
   unfold kindAt
   cases Nat.beq a 0 <;> cases Nat.beq a s.length <;> decide
  rw [findF, hb _ k4]
  simp only [cond_false]
  by_cases ha : a < s.length
  · have e : s.length + 1 = (s.length - 1) + 2 := by omega
    obtain ⟨x, hx⟩ := run_one ht hn (fun k h => by rw [hb k h]) s (s.length - 1) a ha tr (h0 a (Nat.le_refl _)) hd
    rw [e, hx]
    rw [show s.length - a = (s.length - (a + 1)) + 1 by omega, fstF]
    cases P (s.getD a 0)
    · simp only [cond_false]
      refine find_one ht hn hb s f (a + 1) _ _ (by omega) fun j hj => ?_
      have := h0 j (by omega)
      rw [List.getD_eq_getElem?_getD] at this ⊢
      rw [List.getElem?_set_ne (by omega)]
      exact this
    · rfl
  · obtain rfl : a = s.length := by omega
    obtain rfl : f = 0 := by omega
    rw [Nat.sub_self]
    have : runF p s (s.length + 1) 1 s.length none (tr, hd) = (none, (tr, hd)) := by
     rw [runF, Nat.beq_refl]
     rfl
    rw [this]
    rfl
theorem fst_rng {P : Nat → Bool} {s : List Nat} : ∀ (f a x y : Nat), fstF P s f a = some (x, y) → a ≤ x ∧ y = x + 1 ∧ x < a + f
 | 0, _, _, _, h => nomatch h
 | f + 1, a, x, y, h => by
  rw [fstF] at h
  cases hP : P (s.getD a 0) <;> rw [hP] at h
  · have := fst_rng f (a + 1) x y h
    omega
  · cases h
    omega
theorem parse_one {b : UInt8} (h : b.toNat ≠ 92 ∧ b.toNat ≠ 91 ∧ b.toNat ≠ 46 ∧ b.toNat ≠ 94 ∧ b.toNat ≠ 36 ∧ b.toNat ≠ 42) : parseT ⟨#[b]⟩ = .ok [byteT (selfP b.toNat)] := by
 have hz : (0 : Nat) < (⟨#[b]⟩ : ByteArray).size := Nat.one_pos
 have ht : tokenT ⟨#[b]⟩ 0 4 = selfT b.toNat 0 1 := by
  have h0 : xag ⟨#[b]⟩ 0 = (b.toNat : Int) := xan hz
  unfold tokenT
  rw [h0, if_neg (by omega), if_neg (by omega), if_neg (by omega), if_neg (by omega), if_neg (by omega), if_neg (by omega)]
  rfl
 unfold parseT
 have hr : br.runT ⟨#[b]⟩ ((⟨#[b]⟩ : ByteArray).size + 1) 0 4 Ps.start = .ok (Ps.start.take (selfT b.toNat 0 1)).2 := by
  show br.runT ⟨#[b]⟩ (1 + 1) 0 4 Ps.start = _
  unfold br.runT
  rw [if_pos hz, ht, if_pos (by kernel_rfl)]
  unfold br.runT
  rw [if_neg (by show ¬ (1 : Nat) < 1; omega)]
 rw [if_neg (by show ¬ (1 : Nat) > 512; omega), hr]
 rfl
theorem bl_at {s : ByteArray} {i : Nat} (hi : i < s.size) : (bl s).getD i 0 = s[i].toNat := by
 have h : (bl s)[i]? = some s[i].toNat := by
  unfold bl
  rw [List.getElem?_map, Array.getElem?_toList]
  show Option.map _ s.data[i]? = _
  rw [Array.getElem?_eq_getElem (by exact hi)]
  rfl
 rw [List.getD_eq_getElem?_getD, h]
 rfl
theorem flat_at {ts : List Tr} (hd : (layT (catT ts)).deep = false) (s : List Nat) (k : Nat) : ∃ h, matchF 1 0 (catT ts) s k = some ((findF (layT (catT ts)) s (s.length + 1 - k) k (List.replicate s.length 0, 0)).1.map fun x => [((x.1 : Int), (x.2 : Int))], h) := by
 unfold matchF
 generalize findF (layT (catT ts)) s (s.length + 1 - k) k (List.replicate s.length 0, 0) = r
 obtain ⟨o, h⟩ := r
 cases o with
 | none => exact ⟨h, rfl⟩
 | some q =>
  obtain ⟨a, b⟩ := q
  refine ⟨h, ?_⟩
  show Option.map _ (smt.settle _ 1 _ _ _ _) = _
  rw [smt.settle, hd]
  rfl
theorem mka_b {b : UInt8} (hb : b.toNat ≠ 92 ∧ b.toNat ≠ 91 ∧ b.toNat ≠ 46 ∧ b.toNat ≠ 94 ∧ b.toNat ≠ 36 ∧ b.toNat ≠ 42) {s : ByteArray} (hs : s.size ≤ 1024) : Mka ⟨#[b]⟩ s (mtB (selfP b.toNat) (bl s)) [byteT (selfP b.toNat)] 0 := by
 have hn : (msF .zero [byteT (selfP b.toNat)]).back = false ∧ (msF .zero [byteT (selfP b.toNat)]).groups = ((0 : Nat) : Int) := by
  simp [msF, msT, byteT, Ms.zero, Ms.both]
 obtain ⟨n, h1, h2⟩ := ly_parse (parse_one hb) hn.1
 obtain rfl : n = 0 := by have := hn.2; omega
 refine ⟨parse_one hb, hn.1, h1, h2, hs, fun k sp hk h => ?_, fun k hk => ?_⟩
 · obtain ⟨⟨x, y⟩, hx, rfl⟩ := Option.map_eq_some_iff.1 h
   have := fst_rng _ _ _ _ hx
   rw [bl_len] at this
   exact ⟨x, y, [], rfl, by omega, by omega, by omega⟩
 · obtain ⟨l1, l2, l3, l4⟩ := lay_one xad (selfP b.toNat) 0 0 0 0 0
   obtain ⟨h, hm⟩ := flat_at (ts := [byteT (selfP b.toNat)]) l4 (bl s) k
   refine ⟨1, h, ?_⟩
   rw [hm]
   have := find_one (p := layT (catT [byteT (selfP b.toNat)])) l1 l2 (fun j hj => by
    rw [show (layT (catT [byteT (selfP b.toNat)])).bds = _ from l3]
    match j, hj with
    | 0, _ => rfl
    | 1, _ => rfl
    | 2, _ => rfl
    | 3, _ => rfl) (bl s) ((bl s).length + 1 - k) k (List.replicate (bl s).length 0) 0 (by rw [bl_len]; omega) (fun j _ => by
    rw [List.getD_eq_getElem?_getD, List.getElem?_replicate]
    split <;> rfl)
   rw [this]
   rfl
theorem mka_e {s : ByteArray} (hs : s.size ≤ 1024) : Mka ⟨#[]⟩ s mtE [] 0 := by
 have hp : parseT ⟨#[]⟩ = .ok [] := by kernel_rfl
 obtain ⟨n, h1, h2⟩ := ly_parse hp rfl
 obtain rfl : n = 0 := by have : (msF .zero []).groups = ((0 : Nat) : Int) := rfl; omega
 refine ⟨hp, rfl, h1, h2, hs, fun k sp hk h => ?_, fun k hk => ?_⟩
 · cases h
   exact ⟨k, k, [], rfl, by omega, by omega, hk⟩
 · obtain ⟨h, hm⟩ := flat_at (ts := []) (by kernel_rfl) (bl s) k
   refine ⟨1, h, ?_⟩
   rw [hm]
   have e_b : ∀ k, k < 4 → (bat (layT (catT [])).bds k).fi = 0 ∧ (bat (layT (catT [])).bds k).no = true := by decide +kernel
   have k4 : kindAt (bl s).length k < 4 := by
    unfold kindAt
    cases Nat.beq k 0 <;> cases Nat.beq k (bl s).length <;> decide
   rw [show (bl s).length + 1 - k = ((bl s).length - k) + 1 by rw [bl_len]; omega, findF]
   obtain ⟨e1, e2⟩ := e_b _ k4
   rw [e1, e2, runF]
   cases Nat.beq k (bl s).length
   · simp [mtE]
   · simp [mtE]
theorem ah_all : Ah (fun W => Glob W ∧ Tab W) where
 low := fun W W' h hb => ⟨h.1.below hb (Nat.le_refl _), h.2.below hb h.2.pos⟩
 aw := fun W h => awake_any W h.1 h.2
 one := fun W c q h hc hq => by
  have hL := list_any (mc_of (mka_b hc (Nat.le_trans hq (by decide : 100 ≤ 1024)))) (by omega) 200 (by omega) (by omega) W h
  have he := occ_b (selfP c.toNat) (bl q) q.size (q.size + 2) (-1) 0 (by rw [bl_len]; omega) (by omega) (by omega)
  rw [bl_len, List.drop_zero] at he
  rw [he, List.take_of_length_le (Nat.le_trans (allB_len _ _ _) (by rw [bl_len]; omega)), one_is c.toNat_lt] at hL
  exact hL
 non := fun W q h hq => by
  have hL := list_any (mc_of (mka_e (Nat.le_trans hq (by decide : 100 ≤ 1024)))) (by omega) 200 (by omega) (by omega) W h
  rw [occ_e q.size (q.size + 2) (-1) 0 (by omega) (by omega), Nat.sub_zero, List.take_of_length_le (by rw [allE_len]; omega)] at hL
  exact hL
theorem u8_at {a : Int} (h : (Lit.int .u8 a).wf = true) : 0 ≤ a ∧ a < 256 := by
 simp [Lit.wf] at h
 have h1 : IntKind.u8.min = 0 := rfl
 have h2 : IntKind.u8.max = 255 := rfl
 omega
theorem walk_occurBytes (a : Int) (ha : (Lit.int .u8 a).wf = true) (s : ByteArray) (w : World) (hg : Glob w) (hT : Tab w) : Calls Tryz.prog 3 #[.int .u8 a, .string s] w fun e w' => e = .returned (.bool true) ∧ Below w.heap.size w w' := by
 have h := u8_at ha
 obtain ⟨n, rfl⟩ := Int.eq_ofNat_of_zero_le h.1
 exact walk_bytes ah_all n (by omega) s w ⟨hg, hT⟩
end Go.Proofs.YtbekghinikjjeaaGreatDoor.occ
