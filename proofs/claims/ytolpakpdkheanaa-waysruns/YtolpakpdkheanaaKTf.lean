/- tally: trees of one position or none are laid. tally: rows of trees are laid. tally: any tree is laid. -/
import Derived.Test.YtolpakpdkheanaaKTe
set_option maxRecDepth 100000
set_option maxHeartbeats 4000000
namespace Go.Proofs.Ytolpakpdkheanaa.tly
open Go.RowKit Go.Proofs.Ytolpakpdkheanaa.br
theorem PaB.pt {W : World} {B b k g n : Nat} {q : Nat → Bool} {es : List Ed} (h : PaB W B b k g (.slice none 0 0) false q n es) (hb : B ≤ b) : PtAt W (Sb B W.heap.size) b (.mk k g [] false q n es) := by
 have hl := h.lt
 obtain ⟨u, h1, h2, h3⟩ := h
 exact .mk b _ _ u [] [] ⟨hb, hl⟩ h1 rfl rfl (World.ownsRow_nil _ _ _ _) h2 (fun _ h => nomatch h) (fun _ _ _ h => nomatch h) (fun _ _ _ h => nomatch h)
theorem anch_put {W : World} {b kd gr : Nat} (h : W.heap[b]? = some (.cells (ptV kd gr (.slice none 0 0) false xad 0 (esU fun _ => false)).toArray 87 (0, 0))) (wn : Nat) : PaB (W.setCells b 9 (lst12 (esU fun k => !Nat.beq (k &&& wn) 0))) b b kd gr (.slice none 0 0) false xad 0 (anchE wn) := by
 refine ⟨_, ?_, anch_read _ _ wn, rfl⟩
 have := setCells_at b 87 (0, 0) (lst12 (esU fun k => !Nat.beq (k &&& wn) 0)) ((ptV kd gr (.slice none 0 0) false xad 0 (esU fun _ => false)).take 9) (lst12 (esU fun _ => false)) [] W 9 (by rw [List.append_nil]; exact h) rfl rfl
 rw [List.append_nil] at this
 exact this
theorem lay_k1 {W : World} (gp : Nat) (q : Nat → Bool) (lo hi : Int) (va : Option Addr) (nn vc : Nat) (ks : List Tr) :
 Calls Try.prog 23 #[.agg #[.int .i64 (1 : Nat), .int .u64 (wd q 0 : Nat), .int .u64 (wd q 1 : Nat), .int .u64 (wd q 2 : Nat), .int .u64 (wd q 3 : Nat), .int .i64 lo, .int .i64 hi, .int .i64 (gp : Nat), .slice va nn vc]] W fun e W' => ∃ b, e = .returned (.pointer (some ⟨b, 0, none⟩)) ∧ PtAt W' (fun k => W.heap.size ≤ k ∧ k < W'.heap.size) b (layT (.mk 1 q lo hi gp ks)) ∧ Below W.heap.size W W' := by
 have hH := ly_head W 1 gp #[.int .i64 (1 : Nat), .int .u64 (wd q 0 : Nat), .int .u64 (wd q 1 : Nat), .int .u64 (wd q 2 : Nat), .int .u64 (wd q 3 : Nat), .int .i64 lo, .int .i64 hi, .int .i64 (gp : Nat), .slice va nn vc]
 go_enter Try.func23, Try.ntmps23
 go_upto_region 2 with fail
 have HH := hideT hH
 clear hH
 show Code.wp _ _ _ _ ((W.alloc (.cells #[.int .i64 (1 : Nat), .int .u64 (wd q 0 : Nat), .int .u64 (wd q 1 : Nat), .int .u64 (wd q 2 : Nat), .int .u64 (wd q 3 : Nat), .int .i64 lo, .int .i64 hi, .int .i64 (gp : Nat), .slice va nn vc] 41)).alloc (.cells (pz 1 gp) 87))
 generalize ((W.alloc (.cells #[.int .i64 (1 : Nat), .int .u64 (wd q 0 : Nat), .int .u64 (wd q 1 : Nat), .int .u64 (wd q 2 : Nat), .int .u64 (wd q 3 : Nat), .int .i64 lo, .int .i64 hi, .int .i64 (gp : Nat), .slice va nn vc] 41)).alloc (.cells (pz 1 gp) 87)) = X at *
 have n0 : X.cell? ⟨W.heap.size, 0, none⟩ = some (.int .i64 (1 : Nat)) := by simp [World.cell?, HH.out.nd]
 have n1 : X.cell? ⟨W.heap.size, 1, none⟩ = some (.int .u64 (wd q 0 : Nat)) := by simp [World.cell?, HH.out.nd]
 have n2 : X.cell? ⟨W.heap.size, 2, none⟩ = some (.int .u64 (wd q 1 : Nat)) := by simp [World.cell?, HH.out.nd]
 have n3 : X.cell? ⟨W.heap.size, 3, none⟩ = some (.int .u64 (wd q 2 : Nat)) := by simp [World.cell?, HH.out.nd]
 have n4 : X.cell? ⟨W.heap.size, 4, none⟩ = some (.int .u64 (wd q 3 : Nat)) := by simp [World.cell?, HH.out.nd]
 have HS := hideT (take_any (q := q) false HH.out.ga.blk (Nat.le_refl _))
 go_wp2_with fail
 refine HS.out.mono ?_
 rintro e W1 ⟨⟨v, rfl⟩, hP, hB⟩
 have HP := hideT (And.intro hP hB)
 clear hP hB HS n0 n1 n2 n3 n4
 go_wp2
 go_ret
 exact ⟨_, rfl, (HP.out.1.pt (Nat.le_refl _)).keep (fun _ _ => rfl) (fun k hk => ⟨by have := hk.1; omega, hk.2⟩), HH.out.b.trans (HP.out.2.mono (Nat.le_succ _))⟩
theorem lay_k6 {W : World} (gp : Nat) (q : Nat → Bool) (lo hi : Int) (va : Option Addr) (nn vc : Nat) (ks : List Tr) :
 Calls Try.prog 23 #[.agg #[.int .i64 (6 : Nat), .int .u64 (wd q 0 : Nat), .int .u64 (wd q 1 : Nat), .int .u64 (wd q 2 : Nat), .int .u64 (wd q 3 : Nat), .int .i64 lo, .int .i64 hi, .int .i64 (gp : Nat), .slice va nn vc]] W fun e W' => ∃ b, e = .returned (.pointer (some ⟨b, 0, none⟩)) ∧ PtAt W' (fun k => W.heap.size ≤ k ∧ k < W'.heap.size) b (layT (.mk 6 q lo hi gp ks)) ∧ Below W.heap.size W W' := by
 have hH := ly_head W 6 gp #[.int .i64 (6 : Nat), .int .u64 (wd q 0 : Nat), .int .u64 (wd q 1 : Nat), .int .u64 (wd q 2 : Nat), .int .u64 (wd q 3 : Nat), .int .i64 lo, .int .i64 hi, .int .i64 (gp : Nat), .slice va nn vc]
 go_enter Try.func23, Try.ntmps23
 go_upto_region 2 with fail
 have HH := hideT hH
 clear hH
 show Code.wp _ _ _ _ ((W.alloc (.cells #[.int .i64 (6 : Nat), .int .u64 (wd q 0 : Nat), .int .u64 (wd q 1 : Nat), .int .u64 (wd q 2 : Nat), .int .u64 (wd q 3 : Nat), .int .i64 lo, .int .i64 hi, .int .i64 (gp : Nat), .slice va nn vc] 41)).alloc (.cells (pz 6 gp) 87))
 generalize ((W.alloc (.cells #[.int .i64 (6 : Nat), .int .u64 (wd q 0 : Nat), .int .u64 (wd q 1 : Nat), .int .u64 (wd q 2 : Nat), .int .u64 (wd q 3 : Nat), .int .i64 lo, .int .i64 hi, .int .i64 (gp : Nat), .slice va nn vc] 41)).alloc (.cells (pz 6 gp) 87)) = X at *
 have n0 : X.cell? ⟨W.heap.size, 0, none⟩ = some (.int .i64 (6 : Nat)) := by simp [World.cell?, HH.out.nd]
 have HS := hideT (notD xad X)
 go_wp2_with fail
 refine HS.out.mono ?_
 rintro e W0 ⟨rfl, hb0⟩
 have hT := take_any (q := notP xad) true (HH.out.ga.keep hb0).blk (Nat.le_refl _)
 have HB0 := hideT hb0
 clear hb0 n0 HS
 go_wp2_with fail
 refine hT.mono ?_
 rintro e W1 ⟨⟨v, rfl⟩, hP, hB⟩
 have HP := hideT (And.intro hP hB)
 clear hP hB hT
 go_wp2
 go_ret
 exact ⟨_, rfl, (HP.out.1.pt (Nat.le_refl _)).keep (fun _ _ => rfl) (fun k hk => ⟨by have := hk.1; omega, hk.2⟩), (HH.out.b.trans (HB0.out.mono (by have := HH.out.sz; omega))).trans (HP.out.2.mono (Nat.le_succ _))⟩
theorem lay_k2 {W : World} (gp : Nat) (q : Nat → Bool) (lo hi : Int) (va : Option Addr) (nn vc : Nat) (ks : List Tr) :
 Calls Try.prog 23 #[.agg #[.int .i64 (2 : Nat), .int .u64 (wd q 0 : Nat), .int .u64 (wd q 1 : Nat), .int .u64 (wd q 2 : Nat), .int .u64 (wd q 3 : Nat), .int .i64 lo, .int .i64 hi, .int .i64 (gp : Nat), .slice va nn vc]] W fun e W' => ∃ b, e = .returned (.pointer (some ⟨b, 0, none⟩)) ∧ PtAt W' (fun k => W.heap.size ≤ k ∧ k < W'.heap.size) b (layT (.mk 2 q lo hi gp ks)) ∧ Below W.heap.size W W' := by
 have hH := ly_head W 2 gp #[.int .i64 (2 : Nat), .int .u64 (wd q 0 : Nat), .int .u64 (wd q 1 : Nat), .int .u64 (wd q 2 : Nat), .int .u64 (wd q 3 : Nat), .int .i64 lo, .int .i64 hi, .int .i64 (gp : Nat), .slice va nn vc]
 go_enter Try.func23, Try.ntmps23
 go_upto_region 2 with fail
 have HH := hideT hH
 clear hH
 show Code.wp _ _ _ _ ((W.alloc (.cells #[.int .i64 (2 : Nat), .int .u64 (wd q 0 : Nat), .int .u64 (wd q 1 : Nat), .int .u64 (wd q 2 : Nat), .int .u64 (wd q 3 : Nat), .int .i64 lo, .int .i64 hi, .int .i64 (gp : Nat), .slice va nn vc] 41)).alloc (.cells (pz 2 gp) 87))
 generalize ((W.alloc (.cells #[.int .i64 (2 : Nat), .int .u64 (wd q 0 : Nat), .int .u64 (wd q 1 : Nat), .int .u64 (wd q 2 : Nat), .int .u64 (wd q 3 : Nat), .int .i64 lo, .int .i64 hi, .int .i64 (gp : Nat), .slice va nn vc] 41)).alloc (.cells (pz 2 gp) 87)) = X at *
 have n0 : X.cell? ⟨W.heap.size, 0, none⟩ = some (.int .i64 (2 : Nat)) := by simp [World.cell?, HH.out.nd]
 have HA := hideT (anchor_any 1 (by omega) X)
 go_upto_region 14 with fail
 rename_i KA hKA
 refine wp_region_lit (l := [_, _, _, _, _]) ?_
 refine wl_value (v := .pointer (some ⟨W.heap.size + 1, 0, none⟩)) (w' := X) rfl (by go_simp; (try with_reducible rfl)) ?_
 refine wl_call (f := 42) (args := #[.int .i64 (1 : Nat)]) (R := fun v w1 => v = .agg (lst12 (esU fun k => !Nat.beq (k &&& 1) 0)).toArray ∧ Below X.heap.size X w1) rfl (by go_simp; (try with_reducible rfl)) (HA.out.mono ?_) ?_
 · rintro e w1 ⟨rfl, h1⟩; exact ⟨_, rfl, rfl, h1⟩
 rintro v w1 ⟨rfl, hb1⟩
 simp only [Act.put, List.setIfInBounds_toArray, List.set_cons_zero, List.set_cons_succ]
 refine wl_value (v := .pointer (some ⟨W.heap.size + 1, 0, none⟩)) (w' := w1) rfl (by go_simp; (try with_reducible rfl)) ?_
 refine wl_value (v := .pointer (some ⟨W.heap.size + 1, 9, none⟩)) (w' := w1) rfl (by go_simp; (try with_reducible rfl)) ?_
 simp only [Act.put, List.setIfInBounds_toArray, List.set_cons_zero, List.set_cons_succ]
 have hA1 := HH.out.ga.keep hb1
 refine wpList_store_mid rfl 85 _ _ rfl (W.heap.size + 1) 9 (lst12 (esU fun k => !Nat.beq (k &&& 1) 0)).toArray rfl rfl (part_there hA1.blk) (by rw [info_eds]; rfl) (esU_one _) ?_
 refine wpList_nil (hKA _ _ ?_)
 simp only [Act.put]
 show Code.wp _ _ _ _ (w1.setCells (W.heap.size + 1) 9 (lst12 (esU fun k => !Nat.beq (k &&& 1) 0)))
 have hV := anch_put (gr := gp) (kd := 2) hA1.blk 1
 have hBz : Below W.heap.size W (w1.setCells (W.heap.size + 1) 9 (lst12 (esU fun k => !Nat.beq (k &&& 1) 0))) := below_setCells _ (by omega) _ _ _ (HH.out.b.trans (hb1.mono HH.out.b.size))
 have HV := hideT (And.intro hV hBz)
 clear hV hBz hA1 hKA hb1 n0 HA
 generalize w1.setCells (W.heap.size + 1) 9 (lst12 (esU fun k => !Nat.beq (k &&& 1) 0)) = Z at *
 go_wp2
 go_ret
 exact ⟨_, rfl, (HV.out.1.pt (Nat.le_refl _)).keep (fun _ _ => rfl) (fun k hk => ⟨by have := hk.1; omega, hk.2⟩), HV.out.2⟩
theorem lay_k3 {W : World} (gp : Nat) (q : Nat → Bool) (lo hi : Int) (va : Option Addr) (nn vc : Nat) (ks : List Tr) :
 Calls Try.prog 23 #[.agg #[.int .i64 (3 : Nat), .int .u64 (wd q 0 : Nat), .int .u64 (wd q 1 : Nat), .int .u64 (wd q 2 : Nat), .int .u64 (wd q 3 : Nat), .int .i64 lo, .int .i64 hi, .int .i64 (gp : Nat), .slice va nn vc]] W fun e W' => ∃ b, e = .returned (.pointer (some ⟨b, 0, none⟩)) ∧ PtAt W' (fun k => W.heap.size ≤ k ∧ k < W'.heap.size) b (layT (.mk 3 q lo hi gp ks)) ∧ Below W.heap.size W W' := by
 have hH := ly_head W 3 gp #[.int .i64 (3 : Nat), .int .u64 (wd q 0 : Nat), .int .u64 (wd q 1 : Nat), .int .u64 (wd q 2 : Nat), .int .u64 (wd q 3 : Nat), .int .i64 lo, .int .i64 hi, .int .i64 (gp : Nat), .slice va nn vc]
 go_enter Try.func23, Try.ntmps23
 go_upto_region 2 with fail
 have HH := hideT hH
 clear hH
 show Code.wp _ _ _ _ ((W.alloc (.cells #[.int .i64 (3 : Nat), .int .u64 (wd q 0 : Nat), .int .u64 (wd q 1 : Nat), .int .u64 (wd q 2 : Nat), .int .u64 (wd q 3 : Nat), .int .i64 lo, .int .i64 hi, .int .i64 (gp : Nat), .slice va nn vc] 41)).alloc (.cells (pz 3 gp) 87))
 generalize ((W.alloc (.cells #[.int .i64 (3 : Nat), .int .u64 (wd q 0 : Nat), .int .u64 (wd q 1 : Nat), .int .u64 (wd q 2 : Nat), .int .u64 (wd q 3 : Nat), .int .i64 lo, .int .i64 hi, .int .i64 (gp : Nat), .slice va nn vc] 41)).alloc (.cells (pz 3 gp) 87)) = X at *
 have n0 : X.cell? ⟨W.heap.size, 0, none⟩ = some (.int .i64 (3 : Nat)) := by simp [World.cell?, HH.out.nd]
 have HA := hideT (anchor_any 2 (by omega) X)
 go_upto_region 16 with fail
 rename_i KA hKA
 refine wp_region_lit (l := [_, _, _, _, _]) ?_
 refine wl_value (v := .pointer (some ⟨W.heap.size + 1, 0, none⟩)) (w' := X) rfl (by go_simp; (try with_reducible rfl)) ?_
 refine wl_call (f := 42) (args := #[.int .i64 (2 : Nat)]) (R := fun v w1 => v = .agg (lst12 (esU fun k => !Nat.beq (k &&& 2) 0)).toArray ∧ Below X.heap.size X w1) rfl (by go_simp; (try with_reducible rfl)) (HA.out.mono ?_) ?_
 · rintro e w1 ⟨rfl, h1⟩; exact ⟨_, rfl, rfl, h1⟩
 rintro v w1 ⟨rfl, hb1⟩
 simp only [Act.put, List.setIfInBounds_toArray, List.set_cons_zero, List.set_cons_succ]
 refine wl_value (v := .pointer (some ⟨W.heap.size + 1, 0, none⟩)) (w' := w1) rfl (by go_simp; (try with_reducible rfl)) ?_
 refine wl_value (v := .pointer (some ⟨W.heap.size + 1, 9, none⟩)) (w' := w1) rfl (by go_simp; (try with_reducible rfl)) ?_
 simp only [Act.put, List.setIfInBounds_toArray, List.set_cons_zero, List.set_cons_succ]
 have hA1 := HH.out.ga.keep hb1
 refine wpList_store_mid rfl 85 _ _ rfl (W.heap.size + 1) 9 (lst12 (esU fun k => !Nat.beq (k &&& 2) 0)).toArray rfl rfl (part_there hA1.blk) (by rw [info_eds]; rfl) (esU_one _) ?_
 refine wpList_nil (hKA _ _ ?_)
 simp only [Act.put]
 show Code.wp _ _ _ _ (w1.setCells (W.heap.size + 1) 9 (lst12 (esU fun k => !Nat.beq (k &&& 2) 0)))
 have hV := anch_put (gr := gp) (kd := 3) hA1.blk 2
 have hBz : Below W.heap.size W (w1.setCells (W.heap.size + 1) 9 (lst12 (esU fun k => !Nat.beq (k &&& 2) 0))) := below_setCells _ (by omega) _ _ _ (HH.out.b.trans (hb1.mono HH.out.b.size))
 have HV := hideT (And.intro hV hBz)
 clear hV hBz hA1 hKA hb1 n0 HA
 generalize w1.setCells (W.heap.size + 1) 9 (lst12 (esU fun k => !Nat.beq (k &&& 2) 0)) = Z at *
 go_wp2
 go_ret
 exact ⟨_, rfl, (HV.out.1.pt (Nat.le_refl _)).keep (fun _ _ => rfl) (fun k hk => ⟨by have := hk.1; omega, hk.2⟩), HV.out.2⟩
end Go.Proofs.Ytolpakpdkheanaa.tly
namespace Go.Proofs.Ytolpakpdkheanaa.tly
open Go.RowKit Go.Proofs.Ytolpakpdkheanaa.br
theorem layL_len : ∀ ts : List Tr, (layL ts).length = ts.length
 | [] => rfl
 | t :: ts => by rw [layL, List.length_cons, List.length_cons, layL_len ts]
def rowG (ks : List Tr) (i : Nat) : Ga := ((layL ks).take i).foldl (fun a kid => a.add kid false) ga0
theorem layL_get : ∀ (ks : List Tr) (i : Nat) (x : Tr), ks[i]? = some x → (layL ks)[i]? = some (layT x)
 | [], _, _, h => nomatch h
 | t :: ts, 0, x, h => by cases h; rfl
 | t :: ts, i + 1, x, h => layL_get ts i x h
theorem rowG_succ {ks : List Tr} {i : Nat} {x : Tr} (h : ks[i]? = some x) : rowG ks (i + 1) = (rowG ks i).add (layT x) false := by
 have h1 := layL_get ks i x h
 obtain ⟨hi, h2⟩ := List.getElem?_eq_some_iff.1 h1
 rw [rowG, List.take_succ_eq_append_getElem hi, List.foldl_append, h2]; rfl
theorem lay_row0 {W : World} {ok : Nat → Prop} {ks : List Tr} (gp : Nat) (q : Nat → Bool) (lo hi : Int) (va : Option Addr) (vc : Nat) (hk : br.Kids W ok (.slice va ks.length vc) ks) (hok : ∀ g, ok g → g < W.heap.size) (ih : ∀ x, x ∈ ks → LayIH x ∧ OkP (layT x)) (hl : ks.length ≤ 1000000) (HR : ∀ i, i ≤ ks.length → GdG (rowG ks i) i ∧ (rowG ks i).size ≤ 256) :
 Calls Try.prog 23 #[.agg #[.int .i64 (0 : Nat), .int .u64 (wd q 0 : Nat), .int .u64 (wd q 1 : Nat), .int .u64 (wd q 2 : Nat), .int .u64 (wd q 3 : Nat), .int .i64 lo, .int .i64 hi, .int .i64 (gp : Nat), .slice va ks.length vc]] W fun e W' => ∃ b, e = .returned (.pointer (some ⟨b, 0, none⟩)) ∧ PtAt W' (fun k => W.heap.size ≤ k ∧ k < W'.heap.size) b (layT (.mk 0 q lo hi gp ks)) ∧ Below W.heap.size W W' := by
 have HK := hideT hk
 clear hk
 have hH := ly_head W 0 gp #[.int .i64 (0 : Nat), .int .u64 (wd q 0 : Nat), .int .u64 (wd q 1 : Nat), .int .u64 (wd q 2 : Nat), .int .u64 (wd q 3 : Nat), .int .i64 lo, .int .i64 hi, .int .i64 (gp : Nat), .slice va ks.length vc]
 go_enter Try.func23, Try.ntmps23
 go_upto_region 2 with fail
 have HH := hideT hH
 clear hH
 show Code.wp _ _ _ _ ((W.alloc (.cells #[.int .i64 (0 : Nat), .int .u64 (wd q 0 : Nat), .int .u64 (wd q 1 : Nat), .int .u64 (wd q 2 : Nat), .int .u64 (wd q 3 : Nat), .int .i64 lo, .int .i64 hi, .int .i64 (gp : Nat), .slice va ks.length vc] 41)).alloc (.cells (pz 0 gp) 87))
 generalize ((W.alloc (.cells #[.int .i64 (0 : Nat), .int .u64 (wd q 0 : Nat), .int .u64 (wd q 1 : Nat), .int .u64 (wd q 2 : Nat), .int .u64 (wd q 3 : Nat), .int .i64 lo, .int .i64 hi, .int .i64 (gp : Nat), .slice va ks.length vc] 41)).alloc (.cells (pz 0 gp) 87)) = X at *
 have n0 : X.cell? ⟨W.heap.size, 0, none⟩ = some (.int .i64 (0 : Nat)) := by simp [World.cell?, HH.out.nd]
 have n8 : X.cell? ⟨W.heap.size, 8, none⟩ = some (.slice va ks.length vc) := by simp [World.cell?, HH.out.nd]
 go_wp2_with fail
 clear n0 n8
 go_loopg [5, 17] ks.length (fun fu v5 v17 wr => ∃ i : Nat, v17 = .int .i64 (i : Nat) ∧ i + fu = ks.length ∧ Hid (∃ S' vl cs, GaV wr (W.heap.size + 1) (W.heap.size + 1) S' 0 gp false (rowG ks i).links (rowG ks i).size vl cs ∧ Below (W.heap.size + 1) X wr))
 case atStart => exact ⟨0, rfl, by omega, hideT ⟨_, _, _, HH.out.ga, Below.refl _ _⟩⟩
 case round =>
  obtain ⟨i, rfl, hif, HI⟩ := hrel
  cases gk with
  | zero =>
   obtain rfl : i = ks.length := by omega
   obtain ⟨S', vl, cs, hA, hB⟩ := HI.out
   have hgd := HR ks.length (Nat.le_refl _)
   have hct := join_any hA hgd.1.ok hgd.2 (by rw [hgd.1.ln]; exact hl) (fun h => nomatch h)
   have HF := hideT (And.intro hA hB)
   clear hA hB hgd HI
   go_wp2_with fail
   refine hct.mono ?_
   rintro e W2 ⟨⟨v, rfl⟩, hP, hF2⟩
   have HP := hideT (And.intro hP hF2)
   clear hP hF2 hct
   go_wp2
   go_ret
   refine ⟨_, rfl, ?_, HH.out.b.trans ((HF.out.2.mono (Nat.le_succ _)).trans (HP.out.2.below.mono (Nat.le_succ _)))⟩
   have hle : layT (.mk 0 q lo hi gp ks) = joinT 0 gp false (rowG ks ks.length) := by
    rw [rowG, ← layL_len ks, List.take_length]; rfl
   rw [hle]
   exact HP.out.1.keep (fun _ _ => rfl) (fun k hk => ⟨by have := hk.1; omega, hk.2⟩)
  | succ fu =>
   have hil : i < ks.length := by omega
   obtain ⟨x, hx⟩ : ∃ x, ks[i]? = some x := ⟨_, List.getElem?_eq_getElem hil⟩
   have hxm := List.mem_of_getElem? hx
   have hkw : br.Kids wr ok (.slice va ks.length vc) ks := by
    obtain ⟨S', vl, cs, hA, hB⟩ := HI.out
    exact HK.out.keep (fun g hg => (hB.block g (by have := hok g hg; omega)).trans (HH.out.b.block g (hok g hg))) (fun _ h => h)
   have hsw : W.heap.size + 1 < wr.heap.size := by
    obtain ⟨S', vl, cs, hA, hB⟩ := HI.out
    exact hA.lt
   obtain ⟨g, c0, u, he, -, hgw, hcell, hku⟩ := kids_at hkw hx
   obtain rfl : va = some ⟨g, 0, none⟩ := by injection he
   obtain ⟨ua, uc, rfl⟩ : ∃ ua uc, u = .slice ua x.kids.length uc := by cases hku with | mk _ _ vs hl own hok2 hk2 => exact owns_shape own
   have y0 := (hcell 0 _ rfl).1
   have y1 := (hcell 1 _ rfl).1
   have y2 := (hcell 2 _ rfl).1
   have y3 := (hcell 3 _ rfl).1
   have y4 := (hcell 4 _ rfl).1
   have y5 := (hcell 5 _ rfl).1
   have y6 := (hcell 6 _ rfl).1
   have y7 := (hcell 7 _ rfl).1
   have y8 := (hcell 8 _ rfl).1
   rw [Nat.add_zero] at y0
   have hbA := (Below.refl wr.heap.size wr).alloc (Nat.le_refl _) (.cells #[.int .i64 (x.kind : Nat), .int .u64 (wd x.q 0 : Nat), .int .u64 (wd x.q 1 : Nat), .int .u64 (wd x.q 2 : Nat), .int .u64 (wd x.q 3 : Nat), .int .i64 x.lo, .int .i64 x.hi, .int .i64 (x.grp : Nat), .slice ua x.kids.length uc] 41)
   have hlay := (ih x hxm).1 (wr.alloc (.cells #[.int .i64 (x.kind : Nat), .int .u64 (wd x.q 0 : Nat), .int .u64 (wd x.q 1 : Nat), .int .u64 (wd x.q 2 : Nat), .int .u64 (wd x.q 3 : Nat), .int .i64 x.lo, .int .i64 x.hi, .int .i64 (x.grp : Nat), .slice ua x.kids.length uc] 41)) ok ua x.kids.length uc (xc1 hku hbA) (fun g hg => by have := hok g hg; have := hbA.size; omega)
   have i1 : (i : Int) < (ks.length : Int) := by omega
   have i2 : (0 : Int) ≤ (i : Int) := by omega
   have HXA := hideT (And.intro hbA (And.intro hx (And.intro hsw (ih x hxm).2)))
   clear hbA hku hcell he hkw hgw hxm hx hsw
   go_wp2_with fail
   refine hlay.mono ?_
   rintro e w5 ⟨c, rfl, hpt, hb5⟩
   have HADD : Hid (Calls Try.prog 45 #[.pointer (some ⟨W.heap.size + 1, 0, none⟩), .pointer (some ⟨c, 0, none⟩), .bool false] w5 fun e W' => (∃ v, e = .returned v) ∧ ∃ S' vl cs, GaV W' (W.heap.size + 1) (W.heap.size + 1) S' 0 gp false (rowG ks (i + 1)).links (rowG ks (i + 1)).size vl cs ∧ Below (W.heap.size + 1) X W') := by
    obtain ⟨S', vl, cs, hA, hB⟩ := HI.out
    have hbw5 : Below wr.heap.size wr w5 := HXA.out.1.trans (hb5.mono HXA.out.1.size)
    have hA5 := hA.keep hbw5
    have hsz := HXA.out.1.size
    have hA6 : GaV w5 (W.heap.size + 1) (W.heap.size + 1) (fun k => S' k ∨ ((wr.alloc (.cells #[.int .i64 (x.kind : Nat), .int .u64 (wd x.q 0 : Nat), .int .u64 (wd x.q 1 : Nat), .int .u64 (wd x.q 2 : Nat), .int .u64 (wd x.q 3 : Nat), .int .i64 x.lo, .int .i64 x.hi, .int .i64 (x.grp : Nat), .slice ua x.kids.length uc] 41)).heap.size ≤ k ∧ k < w5.heap.size)) 0 gp false (rowG ks i).links (rowG ks i).size vl cs := hA5.grow (fun _ h => .inl h) (fun k hk => by
     rcases hk with hk | hk
     · exact hA5.nS k hk
     · exact ⟨by have := hA.lt; omega, hk.2, by have := hA.lt; omega, fun e => by have := (row_blk hA.ol e).2.1; omega⟩)
    have hr1 := HR i (by omega)
    have hr2 := HR (i + 1) (by omega)
    rw [rowG_succ HXA.out.2.1] at hr2
    have hr3 : (rowG ks i).size + (layT x).size ≤ 256 := hr2.2
    refine (add_any (free := false) hA6 (hpt.keep (fun _ _ => rfl) (fun k hk => .inr hk)) (by rw [hr1.1.ln]; omega) (by omega)).mono ?_
    rintro e W' ⟨hv, vl', k1, k2⟩
    exact ⟨hv, _, vl', cs ++ [c], by rw [rowG_succ HXA.out.2.1]; exact k1, hB.trans ((hbw5.mono (by have := hA.lt; omega)).trans k2.below)⟩
   clear y0 y1 y2 y3 y4 y5 y6 y7 y8 hlay hpt hb5 HI HXA
   go_wp2_with fail
   refine HADD.out.mono ?_
   rintro e W6 ⟨⟨v, rfl⟩, h6⟩
   have H6 := hideT h6
   clear h6 HADD
   go_wp2
   go_roundg fu
   case measure => omega
   case rel => exact ⟨i + 1, by go_num, by omega, H6⟩
theorem lay_row4 {W : World} {ok : Nat → Prop} {ks : List Tr} (gp : Nat) (q : Nat → Bool) (lo hi : Int) (va : Option Addr) (vc : Nat) (hk : br.Kids W ok (.slice va ks.length vc) ks) (hok : ∀ g, ok g → g < W.heap.size) (ih : ∀ x, x ∈ ks → LayIH x ∧ OkP (layT x)) (hl : ks.length ≤ 1000000) (HR : ∀ i, i ≤ ks.length → GdG (rowG ks i) i ∧ (rowG ks i).size ≤ 256) :
 Calls Try.prog 23 #[.agg #[.int .i64 (4 : Nat), .int .u64 (wd q 0 : Nat), .int .u64 (wd q 1 : Nat), .int .u64 (wd q 2 : Nat), .int .u64 (wd q 3 : Nat), .int .i64 lo, .int .i64 hi, .int .i64 (gp : Nat), .slice va ks.length vc]] W fun e W' => ∃ b, e = .returned (.pointer (some ⟨b, 0, none⟩)) ∧ PtAt W' (fun k => W.heap.size ≤ k ∧ k < W'.heap.size) b (layT (.mk 4 q lo hi gp ks)) ∧ Below W.heap.size W W' := by
 have HK := hideT hk
 clear hk
 have hH := ly_head W 4 gp #[.int .i64 (4 : Nat), .int .u64 (wd q 0 : Nat), .int .u64 (wd q 1 : Nat), .int .u64 (wd q 2 : Nat), .int .u64 (wd q 3 : Nat), .int .i64 lo, .int .i64 hi, .int .i64 (gp : Nat), .slice va ks.length vc]
 go_enter Try.func23, Try.ntmps23
 go_upto_region 2 with fail
 have HH := hideT hH
 clear hH
 show Code.wp _ _ _ _ ((W.alloc (.cells #[.int .i64 (4 : Nat), .int .u64 (wd q 0 : Nat), .int .u64 (wd q 1 : Nat), .int .u64 (wd q 2 : Nat), .int .u64 (wd q 3 : Nat), .int .i64 lo, .int .i64 hi, .int .i64 (gp : Nat), .slice va ks.length vc] 41)).alloc (.cells (pz 4 gp) 87))
 generalize ((W.alloc (.cells #[.int .i64 (4 : Nat), .int .u64 (wd q 0 : Nat), .int .u64 (wd q 1 : Nat), .int .u64 (wd q 2 : Nat), .int .u64 (wd q 3 : Nat), .int .i64 lo, .int .i64 hi, .int .i64 (gp : Nat), .slice va ks.length vc] 41)).alloc (.cells (pz 4 gp) 87)) = X at *
 have n0 : X.cell? ⟨W.heap.size, 0, none⟩ = some (.int .i64 (4 : Nat)) := by simp [World.cell?, HH.out.nd]
 have n8 : X.cell? ⟨W.heap.size, 8, none⟩ = some (.slice va ks.length vc) := by simp [World.cell?, HH.out.nd]
 go_wp2_with fail
 clear n0 n8
 go_loopg [5, 17] ks.length (fun fu v5 v17 wr => ∃ i : Nat, v17 = .int .i64 (i : Nat) ∧ i + fu = ks.length ∧ Hid (∃ S' vl cs, GaV wr (W.heap.size + 1) (W.heap.size + 1) S' 4 gp false (rowG ks i).links (rowG ks i).size vl cs ∧ Below (W.heap.size + 1) X wr))
 case atStart => exact ⟨0, rfl, by omega, hideT ⟨_, _, _, HH.out.ga, Below.refl _ _⟩⟩
 case round =>
  obtain ⟨i, rfl, hif, HI⟩ := hrel
  cases gk with
  | zero =>
   obtain rfl : i = ks.length := by omega
   obtain ⟨S', vl, cs, hA, hB⟩ := HI.out
   have hgd := HR ks.length (Nat.le_refl _)
   have hct := join_any hA hgd.1.ok hgd.2 (by rw [hgd.1.ln]; exact hl) (fun h => nomatch h)
   have HF := hideT (And.intro hA hB)
   clear hA hB hgd HI
   go_wp2_with fail
   refine hct.mono ?_
   rintro e W2 ⟨⟨v, rfl⟩, hP, hF2⟩
   have HP := hideT (And.intro hP hF2)
   clear hP hF2 hct
   go_wp2
   go_ret
   refine ⟨_, rfl, ?_, HH.out.b.trans ((HF.out.2.mono (Nat.le_succ _)).trans (HP.out.2.below.mono (Nat.le_succ _)))⟩
   have hle : layT (.mk 4 q lo hi gp ks) = joinT 4 gp false (rowG ks ks.length) := by
    rw [rowG, ← layL_len ks, List.take_length]; rfl
   rw [hle]
   exact HP.out.1.keep (fun _ _ => rfl) (fun k hk => ⟨by have := hk.1; omega, hk.2⟩)
  | succ fu =>
   have hil : i < ks.length := by omega
   obtain ⟨x, hx⟩ : ∃ x, ks[i]? = some x := ⟨_, List.getElem?_eq_getElem hil⟩
   have hxm := List.mem_of_getElem? hx
   have hkw : br.Kids wr ok (.slice va ks.length vc) ks := by
    obtain ⟨S', vl, cs, hA, hB⟩ := HI.out
    exact HK.out.keep (fun g hg => (hB.block g (by have := hok g hg; omega)).trans (HH.out.b.block g (hok g hg))) (fun _ h => h)
   have hsw : W.heap.size + 1 < wr.heap.size := by
    obtain ⟨S', vl, cs, hA, hB⟩ := HI.out
    exact hA.lt
   obtain ⟨g, c0, u, he, -, hgw, hcell, hku⟩ := kids_at hkw hx
   obtain rfl : va = some ⟨g, 0, none⟩ := by injection he
   obtain ⟨ua, uc, rfl⟩ : ∃ ua uc, u = .slice ua x.kids.length uc := by cases hku with | mk _ _ vs hl own hok2 hk2 => exact owns_shape own
   have y0 := (hcell 0 _ rfl).1
   have y1 := (hcell 1 _ rfl).1
   have y2 := (hcell 2 _ rfl).1
   have y3 := (hcell 3 _ rfl).1
   have y4 := (hcell 4 _ rfl).1
   have y5 := (hcell 5 _ rfl).1
   have y6 := (hcell 6 _ rfl).1
   have y7 := (hcell 7 _ rfl).1
   have y8 := (hcell 8 _ rfl).1
   rw [Nat.add_zero] at y0
   have hbA := (Below.refl wr.heap.size wr).alloc (Nat.le_refl _) (.cells #[.int .i64 (x.kind : Nat), .int .u64 (wd x.q 0 : Nat), .int .u64 (wd x.q 1 : Nat), .int .u64 (wd x.q 2 : Nat), .int .u64 (wd x.q 3 : Nat), .int .i64 x.lo, .int .i64 x.hi, .int .i64 (x.grp : Nat), .slice ua x.kids.length uc] 41)
   have hlay := (ih x hxm).1 (wr.alloc (.cells #[.int .i64 (x.kind : Nat), .int .u64 (wd x.q 0 : Nat), .int .u64 (wd x.q 1 : Nat), .int .u64 (wd x.q 2 : Nat), .int .u64 (wd x.q 3 : Nat), .int .i64 x.lo, .int .i64 x.hi, .int .i64 (x.grp : Nat), .slice ua x.kids.length uc] 41)) ok ua x.kids.length uc (xc1 hku hbA) (fun g hg => by have := hok g hg; have := hbA.size; omega)
   have i1 : (i : Int) < (ks.length : Int) := by omega
   have i2 : (0 : Int) ≤ (i : Int) := by omega
   have HXA := hideT (And.intro hbA (And.intro hx (And.intro hsw (ih x hxm).2)))
   clear hbA hku hcell he hkw hgw hxm hx hsw
   go_wp2_with fail
   refine hlay.mono ?_
   rintro e w5 ⟨c, rfl, hpt, hb5⟩
   have HADD : Hid (Calls Try.prog 45 #[.pointer (some ⟨W.heap.size + 1, 0, none⟩), .pointer (some ⟨c, 0, none⟩), .bool false] w5 fun e W' => (∃ v, e = .returned v) ∧ ∃ S' vl cs, GaV W' (W.heap.size + 1) (W.heap.size + 1) S' 4 gp false (rowG ks (i + 1)).links (rowG ks (i + 1)).size vl cs ∧ Below (W.heap.size + 1) X W') := by
    obtain ⟨S', vl, cs, hA, hB⟩ := HI.out
    have hbw5 : Below wr.heap.size wr w5 := HXA.out.1.trans (hb5.mono HXA.out.1.size)
    have hA5 := hA.keep hbw5
    have hsz := HXA.out.1.size
    have hA6 : GaV w5 (W.heap.size + 1) (W.heap.size + 1) (fun k => S' k ∨ ((wr.alloc (.cells #[.int .i64 (x.kind : Nat), .int .u64 (wd x.q 0 : Nat), .int .u64 (wd x.q 1 : Nat), .int .u64 (wd x.q 2 : Nat), .int .u64 (wd x.q 3 : Nat), .int .i64 x.lo, .int .i64 x.hi, .int .i64 (x.grp : Nat), .slice ua x.kids.length uc] 41)).heap.size ≤ k ∧ k < w5.heap.size)) 4 gp false (rowG ks i).links (rowG ks i).size vl cs := hA5.grow (fun _ h => .inl h) (fun k hk => by
     rcases hk with hk | hk
     · exact hA5.nS k hk
     · exact ⟨by have := hA.lt; omega, hk.2, by have := hA.lt; omega, fun e => by have := (row_blk hA.ol e).2.1; omega⟩)
    have hr1 := HR i (by omega)
    have hr2 := HR (i + 1) (by omega)
    rw [rowG_succ HXA.out.2.1] at hr2
    have hr3 : (rowG ks i).size + (layT x).size ≤ 256 := hr2.2
    refine (add_any (free := false) hA6 (hpt.keep (fun _ _ => rfl) (fun k hk => .inr hk)) (by rw [hr1.1.ln]; omega) (by omega)).mono ?_
    rintro e W' ⟨hv, vl', k1, k2⟩
    exact ⟨hv, _, vl', cs ++ [c], by rw [rowG_succ HXA.out.2.1]; exact k1, hB.trans ((hbw5.mono (by have := hA.lt; omega)).trans k2.below)⟩
   clear y0 y1 y2 y3 y4 y5 y6 y7 y8 hlay hpt hb5 HI HXA
   go_wp2_with fail
   refine HADD.out.mono ?_
   rintro e W6 ⟨⟨v, rfl⟩, h6⟩
   have H6 := hideT h6
   clear h6 HADD
   go_wp2
   go_roundg fu
   case measure => omega
   case rel => exact ⟨i + 1, by go_num, by omega, H6⟩
end Go.Proofs.Ytolpakpdkheanaa.tly
namespace Go.Proofs.Ytolpakpdkheanaa.tly
open Go.RowKit Go.Proofs.Ytolpakpdkheanaa.br
mutual
def LyT : Tr → Prop
 | .mk k q lo hi g kids => k ≤ 6 ∧ (k = 2 ∨ k = 3 → kids = []) ∧ (k = 5 → (∃ c, kids = [c]) ∧ 0 ≤ lo ∧ lo ≤ 255 ∧ hi ≤ 255) ∧ kids.length ≤ 1000000 ∧ posT (.mk k q lo hi g kids) ≤ 256 ∧ LyL kids
def LyL : List Tr → Prop
 | [] => True
 | t :: ts => LyT t ∧ LyL ts
end
theorem leafE_ok (no : Bool) : EsOk 1 (leafE no) := ⟨rfl, fun e he => by
 obtain ⟨_, rfl⟩ := List.mem_replicate.1 he
 have h : StOk 1 [(0, 1)] := ⟨List.pairwise_singleton _ _, fun s hs => by rw [List.mem_singleton.1 hs]; exact ⟨by decide, by decide⟩⟩
 exact ⟨h, h⟩⟩
theorem anchE_ok (w n : Nat) : EsOk n (anchE w) := ⟨rfl, fun e he => by
 obtain ⟨j, _, rfl⟩ := List.mem_map.1 he
 exact ⟨StOk.nil n, StOk.nil n⟩⟩
theorem addL_good : ∀ (ps : List Tp) (m : Nat) (a : Ga), (∀ p ∈ ps, OkP p) → GdG a m → GdG (ps.foldl (fun a kid => a.add kid false) a) (m + ps.length) ∧ (ps.foldl (fun a kid => a.add kid false) a).size = a.size + (ps.map Tp.size).sum
 | [], m, a, _, h => ⟨h, by simp⟩
 | p :: ps, m, a, hp, h => by
  obtain ⟨h1, h2⟩ := addL_good ps (m + 1) _ (fun q hq => hp q (List.mem_cons_of_mem _ hq)) (h.add (hp p List.mem_cons_self) false)
  refine ⟨by rw [List.length_cons, show m + (ps.length + 1) = m + 1 + ps.length by omega]; exact h1, ?_⟩
  rw [List.foldl_cons, h2, show (a.add p false).size = a.size + p.size from rfl, List.map_cons, List.sum_cons]; omega
theorem row_ok (k q lo hi g) (kids : List Tr) (hk : layT (.mk k q lo hi g kids) = joinT k g false ((layL kids).foldl (fun a kid => a.add kid false) ga0)) (hl : kids.length ≤ 1000000) (hp : posL kids ≤ 256) (h1 : ∀ p ∈ layL kids, OkP p) (h2 : (((layL kids).map Tp.size).sum : Nat) = posL kids) : OkP (layT (.mk k q lo hi g kids)) ∧ ((layT (.mk k q lo hi g kids)).size : Int) = posL kids := by
 obtain ⟨g1, g2⟩ := addL_good (layL kids) 0 ga0 h1 GdG.zero
 have hz : ((layL kids).foldl (fun a kid => a.add kid false) ga0).size = ((layL kids).map Tp.size).sum := by rw [g2]; show 0 + _ = _; omega
 rw [hk]
 refine ⟨g1.join (by rw [hz]; omega) (by rw [layL_len]; omega) _ _ _, ?_⟩
 show ((((layL kids).foldl (fun a kid => a.add kid false) ga0).size : Nat) : Int) = _
 rw [hz, h2]
theorem pos_rep (q : Nat → Bool) (lo hi : Int) (g : Nat) (c : Tr) (l0 : 0 ≤ lo) : posT (.mk 5 q lo hi g [c]) = posL [c] * (wrN lo hi : Nat) := by
 rw [posT, if_neg (by decide), if_pos rfl]
 unfold wrN
 by_cases h0 : 0 ≤ hi
 · rw [if_pos h0, decide_eq_false (by omega), cond_false, Int.toNat_of_nonneg h0]
 · rw [if_neg h0, decide_eq_true (by omega), cond_true]
   by_cases h1 : 0 < lo
   · rw [if_pos h1, show ((max lo.toNat 1 : Nat) : Int) = lo by omega]
   · rw [if_neg h1, show ((max lo.toNat 1 : Nat) : Int) = 1 by omega, Int.mul_one]
theorem repG_size {x : Tr} (hx : OkP (layT x)) (lo hi : Int) : (repG x lo hi).size = (layT x).size * wrN lo hi := by
 unfold repG
 cases h : decide (hi = 0)
 · rw [cond_false]
   cases h0 : Nat.beq (layT x).size 0
   · rw [cond_false, (addN_good hx lo (wrN lo hi)).2, Nat.mul_comm]
   · have hs := Nat.eq_of_beq_eq_true h0
     rw [cond_true, hs, Nat.zero_mul]
     cases decide (lo > 0)
     · rfl
     · show 0 + (layT x).size = 0
       omega
 · have := of_decide_eq_true h
   subst this
   rw [cond_true]
   show 0 = _ * 0
   omega
mutual
theorem lay_ok : ∀ t : Tr, LyT t → OkP (layT t) ∧ ((layT t).size : Int) = posT t
 | .mk k q lo hi g kids, h => by
  obtain ⟨hk6, h23, h5, hl, hp, hks⟩ := h
  obtain ⟨i1, i2⟩ := layL_ok kids hks
  match k, hk6 with
  | 0, _ =>
   have hpos : posT (.mk 0 q lo hi g kids) = posL kids := by rw [posT, if_neg (by decide), if_neg (by decide)]
   rw [hpos] at hp ⊢
   exact row_ok 0 q lo hi g kids rfl hl hp i1 i2
  | 1, _ => exact ⟨.mk _ (by show 1 ≤ 256; decide) (leafE_ok false) (Nat.zero_le _) (fun _ h => nomatch h) (fun _ h => nomatch h), by rw [posT, if_pos (.inl rfl)]; rfl⟩
  | 2, _ =>
   have := h23 (.inl rfl)
   subst this
   exact ⟨.mk _ (Nat.zero_le _) (anchE_ok 1 0) (Nat.zero_le _) (fun _ h => nomatch h) (fun _ h => nomatch h), by rw [posT, if_neg (by decide), if_neg (by decide)]; rfl⟩
  | 3, _ =>
   have := h23 (.inr rfl)
   subst this
   exact ⟨.mk _ (Nat.zero_le _) (anchE_ok 2 0) (Nat.zero_le _) (fun _ h => nomatch h) (fun _ h => nomatch h), by rw [posT, if_neg (by decide), if_neg (by decide)]; rfl⟩
  | 4, _ =>
   have hpos : posT (.mk 4 q lo hi g kids) = posL kids := by rw [posT, if_neg (by decide), if_neg (by decide)]
   rw [hpos] at hp ⊢
   exact row_ok 4 q lo hi g kids rfl hl hp i1 i2
  | 5, _ =>
   obtain ⟨⟨c, rfl⟩, l0, l1, l2⟩ := h5 rfl
   have hx : OkP (layT c) := i1 _ List.mem_cons_self
   have hs : ((layT c).size : Int) = posL [c] := by rw [← i2]; simp [layL]
   rw [pos_rep q lo hi g c l0, ← hs] at hp ⊢
   have hL : (layT c).size * wrN lo hi ≤ 256 := by exact_mod_cast hp
   obtain ⟨m, g1, g2, g3, _⟩ := repG_good hx lo hi l1 l2 hL
   rw [lay_rep_eq]
   refine ⟨g1.join g2 (by omega) _ _ _, ?_⟩
   show (((repG c lo hi).size : Nat) : Int) = _
   rw [repG_size hx]
   exact Int.natCast_mul _ _
  | 6, _ => exact ⟨.mk _ (by show 1 ≤ 256; decide) (leafE_ok true) (Nat.zero_le _) (fun _ h => nomatch h) (fun _ h => nomatch h), by rw [posT, if_pos (.inr rfl)]; rfl⟩
theorem layL_ok : ∀ ts : List Tr, LyL ts → (∀ p ∈ layL ts, OkP p) ∧ ((((layL ts).map Tp.size).sum : Nat) : Int) = posL ts
 | [], _ => ⟨(fun _ h => nomatch h), rfl⟩
 | t :: ts, h => by
  obtain ⟨h1, h2⟩ : LyT t ∧ LyL ts := h
  obtain ⟨i1, i2⟩ := lay_ok t h1
  obtain ⟨j1, j2⟩ := layL_ok ts h2
  refine ⟨fun p hp => ?_, ?_⟩
  · rcases List.mem_cons.1 (show p ∈ layT t :: layL ts from hp) with rfl | hp
    · exact i1
    · exact j1 p hp
  · rw [layL, List.map_cons, List.sum_cons, posL, ← i2, ← j2]; omega
end
theorem sum_take (l : List Nat) (i : Nat) : (l.take i).sum ≤ l.sum := by
 have := congrArg List.sum (List.take_append_drop i l)
 rw [List.sum_append] at this
 omega
theorem rowG_good {ks : List Tr} (h : LyL ks) (hp : posL ks ≤ 256) : ∀ i, i ≤ ks.length → GdG (rowG ks i) i ∧ (rowG ks i).size ≤ 256 := fun i hi => by
 obtain ⟨h1, h2⟩ := layL_ok ks h
 obtain ⟨g1, g2⟩ := addL_good ((layL ks).take i) 0 ga0 (fun p hp => h1 p (List.mem_of_mem_take hp)) GdG.zero
 have h3 := sum_take ((layL ks).map Tp.size) i
 rw [← List.map_take] at h3
 have hli : ((layL ks).take i).length = i := by rw [List.length_take, layL_len]; omega
 rw [hli, Nat.zero_add] at g1
 refine ⟨g1, ?_⟩
 show (((layL ks).take i).foldl (fun (a : Ga) kid => a.add kid false) ga0).size ≤ 256
 rw [g2]; show 0 + _ ≤ _; omega
theorem kids_n {W : World} {ok : Nat → Prop} {va : Option Addr} {n vc : Nat} {ts : List Tr} (h : br.Kids W ok (.slice va n vc) ts) : n = ts.length := by
 cases h with
 | mk _ _ vs hl own hok hk =>
  rcases own.2 with ⟨e, h0⟩ | ⟨g, cap, cur, e, _⟩
  · cases e; exact h0.symm
  · cases e; rfl
mutual
theorem lay_any : ∀ t : Tr, LyT t → LayIH t
 | .mk k q lo hi g kids, h => by
  obtain ⟨hk6, h23, h5, hl, hp, hks⟩ := h
  have ihs := lay_all kids hks
  intro W ok va n vc hk hok
  have hn : n = kids.length := kids_n hk
  subst hn
  match k, hk6 with
  | 0, _ => exact lay_row0 g q lo hi va vc hk hok ihs hl (rowG_good hks (by rwa [posT, if_neg (by decide), if_neg (by decide)] at hp))
  | 1, _ => exact lay_k1 g q lo hi va _ vc kids
  | 2, _ => exact lay_k2 g q lo hi va _ vc kids
  | 3, _ => exact lay_k3 g q lo hi va _ vc kids
  | 4, _ => exact lay_row4 g q lo hi va vc hk hok ihs hl (rowG_good hks (by rwa [posT, if_neg (by decide), if_neg (by decide)] at hp))
  | 5, _ =>
   obtain ⟨⟨c, rfl⟩, l0, l1, l2⟩ := h5 rfl
   have hs : ((layT c).size : Int) = posL [c] := by rw [← (layL_ok [c] hks).2]; simp [layL]
   rw [pos_rep q lo hi g c l0, ← hs] at hp
   exact lay_rep g q lo hi va vc hk hok (ihs c List.mem_cons_self).1 (ihs c List.mem_cons_self).2 l0 l1 l2 (by exact_mod_cast hp)
  | 6, _ => exact lay_k6 g q lo hi va _ vc kids
theorem lay_all : ∀ ts : List Tr, LyL ts → ∀ x, x ∈ ts → LayIH x ∧ OkP (layT x)
 | [], _, _, h => nomatch h
 | t :: ts, h, x, hx => by
  obtain ⟨h1, h2⟩ : LyT t ∧ LyL ts := h
  rcases List.mem_cons.1 hx with e | hx
  · rw [e]; exact ⟨lay_any t h1, (lay_ok t h1).1⟩
  · exact lay_all ts h2 x hx
end
end Go.Proofs.Ytolpakpdkheanaa.tly
