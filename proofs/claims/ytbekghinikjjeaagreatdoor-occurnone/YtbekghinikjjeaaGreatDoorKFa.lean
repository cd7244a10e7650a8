/- KFa -/
import Derived.Test.YtbekghinikjjeaaGreatDoorKSw
import Derived.Test.YtbekghinikjjeaaGreatDoorKAa
import Derived.Deep.CutBlock
set_option maxRecDepth 100000
set_option maxHeartbeats 4000000
namespace Go.Proofs.YtbekghinikjjeaaGreatDoor.smt
open Go.RowKit Go.Proofs.YtbekghinikjjeaaGreatDoor.br
theorem sr_tried {W : World} {sb : Nat} {s : ByteArray} {z : Int} {tv sv : Value} (k : W.heap[sb]? = some (.cells #[.string s, .int .i64 z, tv, sv] 132)) (tv' : Value) : (W.setCell ⟨sb, 2, none⟩ tv').heap[sb]? = some (.cells #[.string s, .int .i64 z, tv', sv] 132) :=
 setCells_at sb 132 (0, 0) [tv'] [.string s, .int .i64 z] [tv] [sv] W 2 k rfl rfl
theorem SrAt.tried {W : World} {sb : Nat} {s : ByteArray} {h : Nat} {tv sv : Value} (k : SrAt W sb s h tv sv) (tv' : Value) : SrAt (W.setCell ⟨sb, 2, none⟩ tv') sb s h tv' sv := sr_tried k tv'
def toI : Option Nat → Int
 | some t => (t : Int)
 | none => -1
theorem tk_fold {p : Pt} {c L : Nat} : ∀ (l : List Nat) (a : Nat), (∀ i ∈ l, i < L) → a < 2 ^ L → l.foldl (fun a i => bif (p.takes.getD i (fun _ => false)) c then a ||| 1 <<< i else a) a < 2 ^ L
 | [], a, _, h => h
 | i :: l, a, hl, h => by
  rw [List.foldl_cons]
  refine tk_fold l _ (fun j hj => hl j (List.mem_cons_of_mem _ hj)) ?_
  cases p.takes.getD i (fun _ => false) c with
  | false => exact h
  | true =>
   rw [cond_true, Nat.one_shiftLeft]
   exact Nat.or_lt_two_pow h (Nat.pow_lt_pow_right (by omega) (hl i List.mem_cons_self))
theorem takers_in {p : Pt} {s : List Nat} {wt pl L : Nat} (h : wt < 2 ^ L) : takers p s wt pl < 2 ^ L := tk_fold _ _ (fun _ hi => mem_len h hi) (Nat.pow_pos (by omega))
theorem set_same {l : List Nat} {i x : Nat} (h : l[i]? = some x) : l.set i x = l := by
 obtain ⟨hi, rfl⟩ := List.getElem?_eq_some_iff.1 h
 exact List.set_getElem_self hi
theorem find_any {S : Nat → Prop} {sb b h frm : Nat} {p : Pt} {s : ByteArray} {tv sv : Value} (w : World) (hs : SrAt w sb s h tv sv) (hp : PtAt w S b p) (hSw : ∀ g, S g → g < w.heap.size ∧ g ≠ sb) (hok : OkP p) (hT : Tab w) (hfr : frm ≤ s.size) (hsz : s.size ≤ 100000) :
  Calls Tryz.prog 47 #[.pointer (some ⟨sb, 0, none⟩), .pointer (some ⟨b, 0, none⟩), .int .i64 (frm : Nat)] w fun e w' => ∃ tv', SrAt w' sb s (findF p (bl s) (s.size + 1 - frm) frm (List.replicate s.size 0, h)).2 tv' sv ∧ Fs sb w w' ∧ e = .returned (match (findF p (bl s) (s.size + 1 - frm) frm (List.replicate s.size 0, h)).1 with | some (a, z) => .tuple #[.agg #[.int .i64 (a : Nat), .int .i64 (z : Nat)], .bool true] | none => .tuple #[.agg #[.int .i64 0, .int .i64 0], .bool false]) := by
 obtain ⟨R, hR⟩ : ∃ R, findF p (bl s) (s.size + 1 - frm) frm (List.replicate s.size 0, h) = R := ⟨_, rfl⟩
 rw [hR]
 have hslt := hs.lt
 have hpos := hT.pos
 have hsb0 := hT.ne hs
 have hmk := make_nx s.size (by omega)
 obtain ⟨mc, hmc⟩ : ∃ mc, (nxV (List.replicate s.size 0)).toArray = mc := ⟨_, rfl⟩
 rw [hmc] at hmk
 have HMC := hideT hmc
 clear hmc
 obtain ⟨q0, -, -, -, -, fz2⟩ := hs.cells
 have q2 := hs.cells.2.2.1
 have HH := hideT (And.intro hs (And.intro hp (And.intro hT hSw)))
 clear hs hp hT hSw
 have k0 : ∀ o o2, ((w.alloc o).alloc o2).cell? ⟨sb, 0, none⟩ = some (.string s) := fun o o2 => keep_cell (((Below.refl w.heap.size w).alloc (Nat.le_refl _) _).alloc (by simp) _) q0
 have k2 : ∀ o o2, ((w.alloc o).alloc o2).cell? ⟨sb, 2, none⟩ = some tv := fun o o2 => keep_cell (((Below.refl w.heap.size w).alloc (Nat.le_refl _) _).alloc (by simp) _) q2
 have f2 : ∀ o o2, ((w.alloc o).alloc o2).frozen? ⟨sb, 2, none⟩ = false := fun o o2 => ((((Below.refl w.heap.size w).alloc (Nat.le_refl _) _).alloc (by simp) _).frozen (p := ⟨sb, 2, none⟩) hslt).trans fz2
 have k00 : ∀ o, (w.alloc o).cell? ⟨sb, 0, none⟩ = some (.string s) := fun o => keep_cell ((Below.refl w.heap.size w).alloc (Nat.le_refl _) _) q0
 go_enter Tryz.func47, Tryz.ntmps47
 go_wp2_with fail
 go_step3
 go_wp2_with fail
 go_step3
 go_wp2_with fail
 obtain ⟨hs, hp, hT, hSw⟩ := HH.out
 have hs1 := hs.tried (.slice (some ⟨w.heap.size + 1, 0, none⟩) s.size s.size)
 have hF1 := (Fs.refl sb w).set 2 (.slice (some ⟨w.heap.size + 1, 0, none⟩) s.size s.size)
 have hz1 : (w.setCell ⟨sb, 2, none⟩ (.slice (some ⟨w.heap.size + 1, 0, none⟩) s.size s.size)).heap.size = w.heap.size := by simp
 generalize w.setCell ⟨sb, 2, none⟩ (.slice (some ⟨w.heap.size + 1, 0, none⟩) s.size s.size) = Y1 at *
 have hb2 : Below Y1.heap.size Y1 (Y1.alloc (.cells #[.int .i64 0, .int .i64 0] 30)) := (Below.refl _ _).alloc (Nat.le_refl _) _
 have hn2 : (Y1.alloc (.cells #[.int .i64 0, .int .i64 0] 30)).heap[w.heap.size]? = some (.cells #[.int .i64 0, .int .i64 0] 30) := by rw [← hz1]; exact World.alloc_heap_new _ _
 have hz2 : (Y1.alloc (.cells #[.int .i64 0, .int .i64 0] 30)).heap.size = w.heap.size + 1 := by rw [World.size_alloc, hz1]
 have hs2 : SrAt (Y1.alloc (.cells #[.int .i64 0, .int .i64 0] 30)) sb s h _ sv := (hb2.block sb hs1.lt).trans hs1
 have hF2 := hF1.trans (Fs.of (sb := sb) hb2)
 generalize Y1.alloc (.cells #[.int .i64 0, .int .i64 0] 30) = Y2 at *
 have hb3 : Below Y2.heap.size Y2 (Y2.alloc (.cells mc 157)) := (Below.refl _ _).alloc (Nat.le_refl _) _
 have hs3 : SrAt (Y2.alloc (.cells mc 157)) sb s h _ sv := (hb3.block sb hs2.lt).trans hs2
 have hr3 := owns_made Y2 w.heap.size s.size (by omega) (by omega)
 rw [HMC.out, hz2] at hr3
 have hn3 := (hb3.block w.heap.size (by omega)).trans hn2
 have hF3 := hF2.trans (Fs.of (sb := sb) hb3)
 generalize Y2.alloc (.cells mc 157) = Y3 at *
 have HS := hideT (And.intro hR (And.intro hs3 (And.intro hr3 (And.intro hn3 hF3))))
 clear hs hp hT hSw hs1 hF1 hz1 hb2 hn2 hz2 hs2 hF2 hb3 hs3 hr3 hn3 hF3 hR HMC hmk q0 q2 fz2 k0 k2 f2 k00
 obtain ⟨ud, hud, hur⟩ := und_border
 go_loopg [8] (s.size + 1 - frm) (fun fu v wr => ∃ (a1 h1 : Nat) (tr : List Nat), v = .int .i64 (a1 : Nat) ∧ a1 + fu = s.size + 1 ∧ Hid (findF p (bl s) fu a1 (tr, h1) = R ∧ SrAt wr sb s h1 (.slice (some ⟨w.heap.size + 1, 0, none⟩) s.size s.size) sv ∧ wr.ownsRow w.heap.size 157 4 (.slice (some ⟨w.heap.size + 1, 0, none⟩) s.size s.size) s.size (nxV tr) ∧ wr.heap[w.heap.size]? = some (.cells #[.int .i64 0, .int .i64 0] 30) ∧ Fs sb w wr))
 case atStart => exact ⟨frm, h, List.replicate s.size 0, rfl, by omega, HS⟩
 case round =>
  obtain ⟨a1, h1, tr, rfl, haf, HI⟩ := hrel
  obtain ⟨hrun, hsr, hro, hN, hF⟩ := HI.out
  clear HI HS
  have c0 := hsr.cells.1
  cases gk with
  | zero =>
   rw [findF] at hrun
   subst hrun
   have i1 : ((a1 : Int) ≤ (s.size : Int)) = False := by rw [eq_iff_iff, iff_false]; omega
   have d0 : wr.cell? ⟨w.heap.size, 0, none⟩ = some (.int .i64 0) := by simp [World.cell?, hN]
   have d1 : wr.cell? ⟨w.heap.size, 1, none⟩ = some (.int .i64 0) := by simp [World.cell?, hN]
   have g0 : wr.frozen? ⟨w.heap.size, 0, none⟩ = false := by simp [World.frozen?, hN]
   have g1 : wr.frozen? ⟨w.heap.size, 1, none⟩ = false := by simp [World.frozen?, hN]
   have fz : ∀ k, k ≠ w.heap.size → ((wr.setCell ⟨w.heap.size, 0, none⟩ (.int .i64 0)).setCell ⟨w.heap.size, 1, none⟩ (.int .i64 0)).heap[k]? = wr.heap[k]? := fun k hk => setCells_far wr w.heap.size hk [.int .i64 0, .int .i64 0] 0
   have o1 : SrAt ((wr.setCell ⟨w.heap.size, 0, none⟩ (.int .i64 0)).setCell ⟨w.heap.size, 1, none⟩ (.int .i64 0)) sb s h1 _ sv := (fz sb (by omega)).trans hsr
   have o2 : Fs sb w ((wr.setCell ⟨w.heap.size, 0, none⟩ (.int .i64 0)).setCell ⟨w.heap.size, 1, none⟩ (.int .i64 0)) := ⟨hF.os, hF.tape, hF.output, by have := hF.size; simpa using this, fun k a1 a2 => (fz k (by omega)).trans (hF.same k a1 a2)⟩
   have HN2 := hideT (show ((wr.setCell ⟨w.heap.size, 0, none⟩ (.int .i64 0)).setCell ⟨w.heap.size, 1, none⟩ (.int .i64 0)).heap[w.heap.size]? = some (.cells [.int .i64 0, .int .i64 0].toArray 30 (0, 0)) from setCells_whole (cs := [.int .i64 0, .int .i64 0]) [.int .i64 0, .int .i64 0] hN rfl)
   have HO := hideT (And.intro o1 o2)
   clear o1 o2 fz hsr hro hF hN haf
   have o4 : ((wr.setCell ⟨w.heap.size, 0, none⟩ (.int .i64 0)).setCell ⟨w.heap.size, 1, none⟩ (.int .i64 0)).heap[w.heap.size]? = some (.cells [.int .i64 0, .int .i64 0].toArray 30 (0, 0)) := HN2.out
   have k0 : ((wr.setCell ⟨w.heap.size, 0, none⟩ (.int .i64 0)).setCell ⟨w.heap.size, 1, none⟩ (.int .i64 0)).cell? ⟨w.heap.size, 0, none⟩ = some (.int .i64 0) := by simp only [World.cell?, o4]; rfl
   have k1 : ((wr.setCell ⟨w.heap.size, 0, none⟩ (.int .i64 0)).setCell ⟨w.heap.size, 1, none⟩ (.int .i64 0)).cell? ⟨w.heap.size, 1, none⟩ = some (.int .i64 0) := by simp only [World.cell?, o4]; rfl
   have HK2 := hideT (And.intro k0 k1)
   clear o4 k0 k1
   go_wp2
   try rw [Exit.noGoto_ret]
   obtain ⟨k0, k1⟩ := HK2.out
   generalize ((wr.setCell ⟨w.heap.size, 0, none⟩ (.int .i64 0)).setCell ⟨w.heap.size, 1, none⟩ (.int .i64 0)) = Z at *
   refine bodyPost_ret (v := .tuple #[.agg #[.int .i64 0, .int .i64 0], .bool false]) (by simp [results, Tryz.results47, go_sem, k0, k1]) rfl ?_
   exact ⟨⟨_, HO.out.1⟩, HO.out.2, rfl⟩
  | succ fu =>
   have hal : a1 ≤ s.size := by omega
   have i1 : (a1 : Int) ≤ (s.size : Int) := by omega
   obtain ⟨hs, hp, hT, hSw⟩ := HH.out
   have hpw : PtAt wr S b p := hp.keep (fun k hk => hF.same k (hSw k hk).1 (hSw k hk).2) (fun _ h => h)
   have hpw0 := hpw
   obtain ⟨b, p, vl, vt, vn, cs, -, blk, -, -, -, -, -, -, -, -⟩ := hpw0
   rw [findF] at hrun
   have hk4 := kind_lt s.size a1
   rw [bl_len] at hrun
   have HK := hideT (fun W (e : W.cell? ⟨sb, 0, none⟩ = some (.string s)) => kind_any (W := W) (b := sb) (o := 0) s a1 e)
   generalize kindAt s.size a1 = kd at *
   have hrg : wr.rangeAt b (5 + kd * 9) (bdV (bat p.bds kd)) := fun j v hv => by
    have hj : j < 9 := by have := (List.getElem?_eq_some_iff.1 hv).1; simpa [bdV] using this
    have := pt_range blk (kd * 9 + j) v ((bs_get p.bds kd j hk4 hj).trans hv)
    rwa [← Nat.add_assoc] at this
   have hbl : b < wr.heap.size := (Array.getElem?_eq_some_iff.1 blk).1
   have hSof : ∀ V : World, Below wr.heap.size wr V → (fun V : World => Below wr.heap.size wr V ∧ V.cell? ⟨sb, 0, none⟩ = some (.string s) ∧ V.rangeAt b (5 + kd * 9) (bdV (bat p.bds kd))) V := fun V hV => ⟨hV, keep_cell hV c0, fun j v hv => (World.cell?_of_block (a := ⟨b, 5 + kd * 9 + j, none⟩) (hV.block b hbl)).trans (hrg j v hv)⟩
   have i2 : (kd : Int) < 4 := by omega
   have i3 : (0 : Int) ≤ (kd : Int) := by omega
   have HQ := hideT (And.intro hrun (And.intro hsr (And.intro hro (And.intro hN (And.intro hF hpw)))))
   clear hrun hsr hro hN hF hpw hs hp hT hSw blk hrg
   go_upto_region 5 with fail
   rename_i KB hKB K5 hK5
   go_cut [9] from 25 to 44 (fun s9 w' => ∃ n9, s9 = .pointer (some ⟨n9, 0, none⟩) ∧ Hid (wr.heap.size ≤ n9 ∧ w'.heap[n9]? = some (.cells (bdV (bat p.bds kd)).toArray 159 (0, 0)) ∧ Below wr.heap.size wr w'))
   case first =>
    rename_i J hJ
    have hS0b : Below wr.heap.size wr wr.drew := (Below.refl _ _).drew
    have hS0 := hSof _ hS0b
    refine wp_region_held (S := fun V : World => Below wr.heap.size wr V ∧ V.cell? ⟨sb, 0, none⟩ = some (.string s) ∧ V.rangeAt b (5 + kd * 9) (bdV (bat p.bds kd))) (by kernel_rfl) ?_
    refine tq 0 35 hS0 ?_
    refine tq 1 36 hS0 ?_
    refine tq 2 37 hS0 ?_
    refine tq 3 38 hS0 ?_
    refine tq 4 39 hS0 ?_
    refine tq 6 41 hS0 ?_
    refine tq 7 42 hS0 ?_
    simp only [Act.put, List.setIfInBounds_toArray, List.set_cons_zero, List.set_cons_succ]
    refine wpAnyH_all (rs := [5, 10]) (by kernel_rfl) (by simp) (fun i hi => ?_)
    have hc1 : i = 5 ∨ i = 10 := by simpa using hi
    rcases hc1 with rfl | rfl
    · refine op_call (R := fun v w1 => v = .int .i64 (kd : Nat) ∧ Below wr.drew.heap.size wr.drew w1) (f := 66) (some 40) rfl rfl (by rfl) (by go_simp; (try with_reducible rfl)) ((HK.out _ hS0.2.1).mono ?_) ?_
      · rintro e w2 ⟨rfl, rfl⟩; exact ⟨_, rfl, rfl, Below.refl _ _⟩
      rintro v w2 ⟨rfl, hb3⟩
      have b4 := hS0b.trans (hb3.mono hS0b.size)
      have hS5 := hSof _ b4
      refine ⟨hS5, ?_⟩
      simp only [Act.put, List.setIfInBounds_toArray, List.set_cons_zero, List.set_cons_succ]
      refine tq 8 43 hS5 ?_
      refine take_y 9 (some 44) rfl rfl (by kernel_rfl) (by kernel_rfl) (by kernel_rfl) (fun _ _ _ h => h) hS5 (yieldsIf_load_mid (by rfl) 159 _ rfl b (5 + kd * 9) rfl (bdV (bat p.bds kd)) ud (fun V hV => hV.2.2) hud hur (by rw [info_border]; rfl)) ?_
      simp only [Act.put, List.setIfInBounds_toArray, List.set_cons_zero, List.set_cons_succ]
      refine wpAnyH_all (rs := [10]) (by kernel_rfl) (by simp) (fun i hi => ?_)
      obtain rfl : i = 10 := List.mem_singleton.1 hi
      obtain ⟨U6, hU7⟩ : ∃ U, U = w2.alloc (.cells #[.bool false, .int .u64 0, .int .u64 0, .int .u64 0, .int .u64 0, .int .u64 0, .int .u64 0, .int .u64 0, .int .u64 0] 159) := ⟨_, rfl⟩
      have b8 : Below wr.heap.size wr U6 := by rw [hU7]; exact b4.alloc b4.size _
      obtain ⟨n10, hn11⟩ : ∃ n, n = w2.heap.size := ⟨_, rfl⟩
      have z12 : U6.heap[n10]? = some (.cells z9.toArray 159 (0, 0)) := by rw [hU7, hn11]; exact World.alloc_heap_new _ _
      have le13 : wr.heap.size ≤ n10 := by rw [hn11]; exact b4.size
      have hS9 := hSof _ b8
      refine op_value (some 9) rfl rfl (by rfl) (v := .pointer (some ⟨n10, 0, none⟩)) (w' := U6) (by rw [hU7, hn11]; clear z12 hS9; go_simp; (try with_reducible rfl)) ⟨hS9, ?_⟩
      clear hU7 hn11
      simp only [Act.put, List.setIfInBounds_toArray, List.set_cons_zero, List.set_cons_succ]
      refine wpAnyH_all (rs := [11]) (by kernel_rfl) (by simp) (fun i hi => ?_)
      obtain rfl : i = 11 := List.mem_singleton.1 hi
      have zc := setCells_whole (bdV (bat p.bds kd)) z12 rfl
      have zb := below_setCells n10 le13 (bdV (bat p.bds kd)) _ 0 b8
      refine op_store 159 9 44 n10 (bdV (bat p.bds kd)) rfl rfl rfl rfl rfl rfl (there_block z12 _ rfl) (by rw [info_border]; rfl) (bdV_one _) ⟨hSof _ zb, ?_⟩
      refine wpAnyH_done (by kernel_rfl) (hJ _ _ ?_) _
      simp only [Act.put]
      go_meet
      exact ⟨_, rfl, hideT ⟨le13, zc, zb⟩⟩
    · obtain ⟨U14, hU15⟩ : ∃ U, U = wr.drew.alloc (.cells #[.bool false, .int .u64 0, .int .u64 0, .int .u64 0, .int .u64 0, .int .u64 0, .int .u64 0, .int .u64 0, .int .u64 0] 159) := ⟨_, rfl⟩
      have b16 : Below wr.heap.size wr U14 := by rw [hU15]; exact hS0b.alloc hS0b.size _
      obtain ⟨n18, hn19⟩ : ∃ n, n = wr.drew.heap.size := ⟨_, rfl⟩
      have z20 : U14.heap[n18]? = some (.cells z9.toArray 159 (0, 0)) := by rw [hU15, hn19]; exact World.alloc_heap_new _ _
      have le21 : wr.heap.size ≤ n18 := by rw [hn19]; exact hS0b.size
      have hS17 := hSof _ b16
      refine op_value (some 9) rfl rfl (by rfl) (v := .pointer (some ⟨n18, 0, none⟩)) (w' := U14) (by rw [hU15, hn19]; clear z20 hS17; go_simp; (try with_reducible rfl)) ⟨hS17, ?_⟩
      clear hU15 hn19
      simp only [Act.put, List.setIfInBounds_toArray, List.set_cons_zero, List.set_cons_succ]
      refine wpAnyH_all (rs := [5]) (by kernel_rfl) (by simp) (fun i hi => ?_)
      obtain rfl : i = 5 := List.mem_singleton.1 hi
      refine op_call (R := fun v w1 => v = .int .i64 (kd : Nat) ∧ Below U14.heap.size U14 w1) (f := 66) (some 40) rfl rfl (by rfl) (by go_simp; (try with_reducible rfl)) ((HK.out _ hS17.2.1).mono ?_) ?_
      · rintro e w2 ⟨rfl, rfl⟩; exact ⟨_, rfl, rfl, Below.refl _ _⟩
      rintro v w22 ⟨rfl, hb23⟩
      have b24 := b16.trans (hb23.mono b16.size)
      have hS25 := hSof _ b24
      refine ⟨hS25, ?_⟩
      simp only [Act.put, List.setIfInBounds_toArray, List.set_cons_zero, List.set_cons_succ]
      refine tq 8 43 hS25 ?_
      refine take_y 9 (some 44) rfl rfl (by kernel_rfl) (by kernel_rfl) (by kernel_rfl) (fun _ _ _ h => h) hS25 (yieldsIf_load_mid (by rfl) 159 _ rfl b (5 + kd * 9) rfl (bdV (bat p.bds kd)) ud (fun V hV => hV.2.2) hud hur (by rw [info_border]; rfl)) ?_
      simp only [Act.put, List.setIfInBounds_toArray, List.set_cons_zero, List.set_cons_succ]
      have z26 := (hb23.block _ (Array.getElem?_eq_some_iff.1 z20).1).trans z20
      refine wpAnyH_all (rs := [11]) (by kernel_rfl) (by simp) (fun i hi => ?_)
      obtain rfl : i = 11 := List.mem_singleton.1 hi
      have zc := setCells_whole (bdV (bat p.bds kd)) z26 rfl
      have zb := below_setCells n18 le21 (bdV (bat p.bds kd)) _ 0 b24
      refine op_store 159 9 44 n18 (bdV (bat p.bds kd)) rfl rfl rfl rfl rfl rfl (there_block z26 _ rfl) (by rw [info_border]; rfl) (bdV_one _) ⟨hSof _ zb, ?_⟩
      refine wpAnyH_done (by kernel_rfl) (hJ _ _ ?_) _
      simp only [Act.put]
      go_meet
      exact ⟨_, rfl, hideT ⟨le21, zc, zb⟩⟩
   case rest =>
   obtain ⟨n9, rfl, HC⟩ := hcut
   refine hK5 _ _ ?_
   obtain ⟨hn9, h9, hb9⟩ := HC.out
   obtain ⟨hrun, hsr, hro, hN, hF, hpw⟩ := HQ.out
   have hb9s := hb9.size
   obtain ⟨nb, hnb⟩ : ∃ nb, wc.heap.size = nb := ⟨_, rfl⟩
   obtain ⟨Y, hY⟩ : ∃ Y, wc.alloc (.cells #[.int .u64 (wd (Nat.testBit ((bat p.bds kd).fi)) 0 : Nat), .int .u64 (wd (Nat.testBit ((bat p.bds kd).fi)) 1 : Nat), .int .u64 (wd (Nat.testBit ((bat p.bds kd).fi)) 2 : Nat), .int .u64 (wd (Nat.testBit ((bat p.bds kd).fi)) 3 : Nat)] 157) = Y := ⟨_, rfl⟩
   have hbY : Below wc.heap.size wc Y := by rw [← hY]; exact (Below.refl _ _).alloc (Nat.le_refl _) _
   have yb : Ps4 Y nb (bat p.bds kd).fi := by rw [← hY, ← hnb]; exact Ps4.new wc _
   have hbwY : Below wr.heap.size wr Y := hb9.trans (hbY.mono hb9.size)
   have e0 : wc.cell? ⟨n9, 0, none⟩ = some (.bool (bat p.bds kd).no) := by simp only [World.cell?, h9]; rfl
   have e1 : wc.cell? ⟨n9, 1, none⟩ = some (.int .u64 (wd (Nat.testBit (bat p.bds kd).fi) 0 : Nat)) := by simp only [World.cell?, h9]; rfl
   have e2 : wc.cell? ⟨n9, 2, none⟩ = some (.int .u64 (wd (Nat.testBit (bat p.bds kd).fi) 1 : Nat)) := by simp only [World.cell?, h9]; rfl
   have e3 : wc.cell? ⟨n9, 3, none⟩ = some (.int .u64 (wd (Nat.testBit (bat p.bds kd).fi) 2 : Nat)) := by simp only [World.cell?, h9]; rfl
   have e4 : wc.cell? ⟨n9, 4, none⟩ = some (.int .u64 (wd (Nat.testBit (bat p.bds kd).fi) 3 : Nat)) := by simp only [World.cell?, h9]; rfl
   have y0 : ∀ o, (wc.alloc o).cell? ⟨n9, 0, none⟩ = some (.bool (bat p.bds kd).no) := fun o => keep_cell ((Below.refl _ _).alloc (Nat.le_refl _) o) e0
   have hnbn : w.heap.size + 2 ≤ nb ∧ nb ≠ sb := by
    have h1 := (owns_blk hro (g := w.heap.size + 1) rfl).2.1
    have h2 := hsr.lt
    omega
   obtain ⟨toN, htoN⟩ : ∃ toN : Option Nat, (bif (bat p.bds kd).no then some a1 else none) = toN := ⟨_, rfl⟩
   rw [htoN] at hrun
   obtain ⟨Rr, hRr⟩ : ∃ Rr, runF p (bl s) (s.size + 1) (bat p.bds kd).fi a1 toN (tr, h1) = Rr := ⟨_, rfl⟩
   rw [hRr] at hrun
   have hfi := (hok.bd.at kd).1
   have HL := hideT (And.intro hRr (And.intro hfi (And.intro yb (And.intro (show SrAt Y sb s h1 _ sv from (hbwY.block sb hsr.lt).trans hsr) (And.intro (owns_keep hro (W' := Y) fun k hk => hbwY.block k (owns_blk hro hk).2.1) (And.intro ((hbwY.block w.heap.size (Array.getElem?_eq_some_iff.1 hN).1).trans hN) (hF.trans (Fs.of (sb := sb) hbwY))))))))
   have HY := hideT (And.intro hY hrun)
   have hto1 : ∀ t, toN = some t → t = a1 := fun t ht => by
    rw [← htoN] at ht
    cases hno : (bat p.bds kd).no with
    | false => rw [hno] at ht; cases ht
    | true => rw [hno] at ht; exact (Option.some.inj ht).symm
   clear hrun hsr hro hN hF hpw HQ HC h9 hb9 hbY yb hbwY hY hRr hfi hSof HK
   obtain ⟨bno, hbno⟩ : ∃ bno, (bat p.bds kd).no = bno := ⟨_, rfl⟩
   rw [hbno] at y0 e0 htoN
   have HTN := hideT htoN
   clear htoN
   go_upto_if 48 with fail
   go_cut [11] from 45 to 49 (fun s11 wx => s11 = .int .i64 (toI toN) ∧ Hid (wx = Y))
   case first =>
    rw [HY.out.1]
    have htoN := HTN.out
    cases bno with
    | true =>
     rw [cond_true] at htoN
     subst htoN
     go_wp2_with fail
     go_meet
     exact ⟨rfl, hideT rfl⟩
    | false =>
     rw [cond_false] at htoN
     subst htoN
     go_wp2_with fail
     go_meet
     exact ⟨rfl, hideT rfl⟩
   case rest =>
   obtain ⟨rfl, hwY⟩ := hcut
   obtain rfl := hwY.out
   clear hwY HTN y0 e0 hbno e1 e2 e3 e4
   go_upto_block 2 with fail
   go_wp2_with fail
   go_loopg [11, 12] (s.size + 1) (fun f v11 v12 wq => ∃ (pl wt h2 : Nat) (tr2 : List Nat) (toN2 : Option Nat), v11 = .int .i64 (toI toN2) ∧ v12 = .int .i64 (pl : Nat) ∧ (a1 ≤ pl ∧ pl ≤ s.size) ∧ f + pl = s.size + 1 + a1 ∧ (∀ t, toN2 = some t → a1 ≤ t ∧ t ≤ s.size) ∧ Hid (runF p (bl s) f wt pl toN2 (tr2, h2) = Rr ∧ wt < 2 ^ p.takes.length ∧ Ps4 wq nb wt ∧ SrAt wq sb s h2 (.slice (some ⟨w.heap.size + 1, 0, none⟩) s.size s.size) sv ∧ wq.ownsRow w.heap.size 157 4 (.slice (some ⟨w.heap.size + 1, 0, none⟩) s.size s.size) s.size (nxV tr2) ∧ wq.heap[w.heap.size]? = some (.cells #[.int .i64 0, .int .i64 0] 30) ∧ Fs sb w wq))
   case atStart => exact ⟨a1, _, h1, tr, toN, rfl, rfl, ⟨Nat.le_refl _, hal⟩, by omega, (fun t ht => by obtain rfl := hto1 t ht; exact ⟨Nat.le_refl _, hal⟩), HL⟩
   case round =>
    obtain ⟨pl, wt, h2, tr2, toN2, rfl, rfl, hpl, hfp, hto2, HI2⟩ := hrel
    obtain ⟨hru, hwt, hpb, hsr, hro, hN, hF⟩ := HI2.out
    clear HI2 HL
    obtain ⟨f', rfl⟩ : ∃ f', gk = f' + 1 := ⟨gk - 1, by omega⟩
    obtain ⟨⟨t0, t1, t2, t3⟩, g0, g1, g2, g3⟩ := hpb.cells
    have hnbl := hpb.lt
    rw [runF] at hru
    by_cases hps : pl = s.size
    · subst hps
      rw [bl_len, show Nat.beq s.size s.size = true from Nat.beq_refl _, cond_true] at hru
      have hcu := untried_end (wt := wt) wr hsr
      have HF0 := hideT (And.intro hpb (And.intro hsr (And.intro hro (And.intro hN hF))))
      have HR3 := hideT hru.symm
      clear hpb hsr hro hN hF hru
      go_wp2_with fail
      refine hcu.mono ?_
      rintro e w2 ⟨rfl, hb2⟩
      obtain ⟨hpb, hsr, hro, hN, hF⟩ := HF0.out
      have hb2s := hb2.size
      have q2 := hpb.below hb2 hpb.lt
      obtain ⟨⟨t0, t1, t2, t3⟩, g0, g1, g2, g3⟩ := q2.cells
      have q3 := q2.put 0
      have hfar : ∀ k, k < wr.heap.size → k ≠ nb → (put4at w2 nb 0 0).heap[k]? = wr.heap[k]? := fun k a1 a2 => (put4at_far w2 nb 0 0 a2).trans (hb2.block k a1)
      have x1 : SrAt (put4at w2 nb 0 0) sb s h2 _ sv := (hfar sb hsr.lt (by omega)).trans hsr
      have x2 := owns_keep hro (W' := put4at w2 nb 0 0) fun k hk => hfar k (owns_blk hro hk).2.1 (by obtain rfl : w.heap.size + 1 = k := Option.some.inj hk; omega)
      have x3 := (hfar w.heap.size (Array.getElem?_eq_some_iff.1 hN).1 (by omega)).trans hN
      have x4 : Fs sb w (put4at w2 nb 0 0) := ⟨hb2.os.trans hF.os, hb2.tape.trans hF.tape, hb2.output.trans hF.output, by rw [put4at_size]; have := hF.size; omega, fun k a1 a2 => (hfar k (by have := hF.size; omega) (by omega)).trans (hF.same k a1 a2)⟩
      have HX := hideT (And.intro q3 (And.intro x1 (And.intro x2 (And.intro x3 x4))))
      have hcn := none_any (a := 0) (by decide) (put4at w2 nb 0 0)
      clear hpb hsr hro hN hF q2 q3 x1 x2 x3 x4 hfar HF0 hcu
      go_wp2_with fail
      refine hcn.mono ?_
      rintro e W3 ⟨rfl, hb3⟩
      rw [show Nat.beq 0 0 = true from rfl]
      obtain ⟨-, x1, x2, x3, x4⟩ := HX.out
      have HF3 := hideT (And.intro (show SrAt W3 sb s h2 _ sv from (hb3.block sb x1.lt).trans x1) (And.intro (owns_keep x2 (W' := W3) fun k hk => hb3.block k (owns_blk x2 hk).2.1) (And.intro ((hb3.block w.heap.size (Array.getElem?_eq_some_iff.1 x3).1).trans x3) (x4.trans (Fs.of (sb := sb) hb3)))))
      clear x1 x2 x3 x4 hb3 hb2 hb2s HX hcn t0 t1 t2 t3 g0 g1 g2 g3
      cases toN2 with
      | none =>
       have i9 : ((-1 : Int) < (a1 : Int)) := by omega
       have hfin := HY.out.2
       rw [HR3.out] at hfin
       dsimp only at hfin
       have HZ := hideT (And.intro hfin HF3.out)
       clear hfin HR3 HF3
       simp only [toI]
       go_wp2
       go_roundg fu
       case measure => omega
       case rel => exact ⟨a1 + 1, h2, tr2, by go_num, by omega, HZ⟩
      | some t =>
       have hta := hto2 t rfl
       have i9 : ((t : Int) < (a1 : Int)) = False := by rw [eq_iff_iff, iff_false]; omega
       have i9' : (t < a1) = False := by rw [eq_iff_iff, iff_false]; omega
       have hfin := HY.out.2
       rw [HR3.out] at hfin
       dsimp only at hfin
       have HFN := hideT hfin.symm
       obtain ⟨hsr3, hro3, hN3, hF3⟩ := HF3.out
       have d0 : W3.cell? ⟨w.heap.size, 0, none⟩ = some (.int .i64 0) := by simp [World.cell?, hN3]
       have d1 : W3.cell? ⟨w.heap.size, 1, none⟩ = some (.int .i64 0) := by simp [World.cell?, hN3]
       have v0 : W3.frozen? ⟨w.heap.size, 0, none⟩ = false := by simp [World.frozen?, hN3]
       have v1 : W3.frozen? ⟨w.heap.size, 1, none⟩ = false := by simp [World.frozen?, hN3]
       have fz : ∀ k, k ≠ w.heap.size → ((W3.setCell ⟨w.heap.size, 0, none⟩ (.int .i64 (a1 : Nat))).setCell ⟨w.heap.size, 1, none⟩ (.int .i64 (t : Nat))).heap[k]? = W3.heap[k]? := fun k hk => setCells_far W3 w.heap.size hk [.int .i64 (a1 : Nat), .int .i64 (t : Nat)] 0
       have o1 : SrAt ((W3.setCell ⟨w.heap.size, 0, none⟩ (.int .i64 (a1 : Nat))).setCell ⟨w.heap.size, 1, none⟩ (.int .i64 (t : Nat))) sb s h2 _ sv := (fz sb (by omega)).trans hsr3
       have o2 : Fs sb w ((W3.setCell ⟨w.heap.size, 0, none⟩ (.int .i64 (a1 : Nat))).setCell ⟨w.heap.size, 1, none⟩ (.int .i64 (t : Nat))) := ⟨hF3.os, hF3.tape, hF3.output, by have := hF3.size; simpa using this, fun k a1 a2 => (fz k (by omega)).trans (hF3.same k a1 a2)⟩
       have o4 : ((W3.setCell ⟨w.heap.size, 0, none⟩ (.int .i64 (a1 : Nat))).setCell ⟨w.heap.size, 1, none⟩ (.int .i64 (t : Nat))).heap[w.heap.size]? = some (.cells [.int .i64 (a1 : Nat), .int .i64 (t : Nat)].toArray 30 (0, 0)) := setCells_whole (cs := [.int .i64 0, .int .i64 0]) [.int .i64 (a1 : Nat), .int .i64 (t : Nat)] hN3 rfl
       have k0 : ((W3.setCell ⟨w.heap.size, 0, none⟩ (.int .i64 (a1 : Nat))).setCell ⟨w.heap.size, 1, none⟩ (.int .i64 (t : Nat))).cell? ⟨w.heap.size, 0, none⟩ = some (.int .i64 (a1 : Nat)) := by simp only [World.cell?, o4]; rfl
       have k1 : ((W3.setCell ⟨w.heap.size, 0, none⟩ (.int .i64 (a1 : Nat))).setCell ⟨w.heap.size, 1, none⟩ (.int .i64 (t : Nat))).cell? ⟨w.heap.size, 1, none⟩ = some (.int .i64 (t : Nat)) := by simp only [World.cell?, o4]; rfl
       have HO := hideT (And.intro o1 (And.intro o2 (And.intro k0 k1)))
       clear o1 o2 o4 k0 k1 fz hsr3 hro3 hN3 hF3 HF3 HR3 hfin
       simp only [toI]
       go_wp2
       try rw [Exit.noGoto_ret]
       obtain ⟨o1, o2, k0, k1⟩ := HO.out
       refine bodyPost_ret (v := .tuple #[.agg #[.int .i64 (a1 : Nat), .int .i64 (t : Nat)], .bool true]) (by simp [results, Tryz.results47, go_sem, k0, k1]) rfl ?_
       rw [HFN.out]
       exact ⟨_, o1, o2, rfl⟩
    · have htl : tr2.length = s.size := by have h := hro.1; rw [nxV_len] at h; omega
      have hpl3 : pl < s.size := by omega
      obtain ⟨x, hx⟩ : ∃ x, tr2[pl]? = some x := ⟨tr2[pl]'(by omega), List.getElem?_eq_getElem _⟩
      have hbq1 : Nat.beq pl s.size = false := by rw [← Bool.not_eq_true]; exact fun h => hps (Nat.eq_of_beq_eq_true h)
      dsimp only at hru
      rw [bl_len, hbq1, cond_false, List.getD_eq_getElem?_getD, hx, Option.getD_some, show wt ^^^ (wt &&& x) = wo wt x from rfl] at hru
      have hgs : w.heap.size + 1 ≠ sb := by omega
      have hcu := untried_any (wt := wt) wr hsr hro hx hpl3 hgs
      have hwo : wo wt x < 2 ^ p.takes.length := Nat.xor_lt_two_pow (by assumption) (Nat.lt_of_le_of_lt Nat.and_le_left (by assumption))
      have HF0 := hideT (And.intro hpb (And.intro hsr (And.intro hN hF)))
      have HRU := hideT hru
      clear hpb hsr hro hN hF hru
      go_wp2_with fail
      refine hcu.mono ?_
      rintro e w2 ⟨rfl, hro2, hF2⟩
      obtain ⟨hpb, hsr, hN, hF⟩ := HF0.out
      have hb2s := hF2.size
      have q2 : Ps4 w2 nb wt := (hF2.same nb hnbl (by omega)).trans hpb
      obtain ⟨⟨t0, t1, t2, t3⟩, g0, g1, g2, g3⟩ := q2.cells
      have q3 := q2.put (wo wt x)
      have hfar : ∀ k, k < wr.heap.size → k ≠ nb → k ≠ w.heap.size + 1 → (put4at w2 nb 0 (wo wt x)).heap[k]? = wr.heap[k]? := fun k a1 a2 a3 => (put4at_far w2 nb 0 _ a2).trans (hF2.same k a1 a3)
      have x1 : SrAt (put4at w2 nb 0 (wo wt x)) sb s h2 _ sv := (hfar sb hsr.lt (by omega) (by omega)).trans hsr
      have x2 := owns_keep hro2 (W' := put4at w2 nb 0 (wo wt x)) fun k hk => put4at_far w2 nb 0 _ (by obtain rfl : w.heap.size + 1 = k := Option.some.inj hk; omega)
      have x3 := (hfar w.heap.size (Array.getElem?_eq_some_iff.1 hN).1 (by omega) (by omega)).trans hN
      have x4 : Fs sb w (put4at w2 nb 0 (wo wt x)) := ⟨hF2.os.trans hF.os, hF2.tape.trans hF.tape, hF2.output.trans hF.output, by rw [put4at_size]; have := hF.size; omega, fun k a1 a2 => (hfar k (by have := hF.size; omega) (by omega) (by omega)).trans (hF.same k a1 a2)⟩
      have HX := hideT (And.intro q3 (And.intro x1 (And.intro x2 (And.intro x3 x4))))
      have hcn := none_any (lt_mono hwo hok.len) (put4at w2 nb 0 (wo wt x))
      clear hpb hsr hro2 hN hF q2 q3 x1 x2 x3 x4 hfar HF0 hcu hF2
      go_wp2_with fail
      refine hcn.mono ?_
      rintro e W3 ⟨rfl, hb3⟩
      obtain ⟨y1, x1, x2, x3, x4⟩ := HX.out
      have q4 := y1.below hb3 y1.lt
      have HF4 := hideT (And.intro (show SrAt W3 sb s h2 _ sv from (hb3.block sb x1.lt).trans x1) (And.intro (owns_keep x2 (W' := W3) fun k hk => hb3.block k (owns_blk x2 hk).2.1) (And.intro ((hb3.block w.heap.size (Array.getElem?_eq_some_iff.1 x3).1).trans x3) (x4.trans (Fs.of (sb := sb) hb3)))))
      clear x1 x2 x3 x4 y1 hb3 hb2s HX hcn t0 t1 t2 t3 g0 g1 g2 g3
      cases hbz : Nat.beq (wo wt x) 0 with
      | true =>
       have hz := (beq0 _).1 hbz
       have HR3 := hideT (show Rr = (toN2, tr2, h2) by have h := HRU.out; rw [hbz, cond_true] at h; exact h.symm)
       have HF3 := HF4
       rw [hz, Nat.or_zero, set_same hx] at HF3
       clear HF4 hbz HRU q4
       cases toN2 with
       | none =>
        have i9 : ((-1 : Int) < (a1 : Int)) := by omega
        have hfin := HY.out.2
        rw [HR3.out] at hfin
        dsimp only at hfin
        have HZ := hideT (And.intro hfin HF3.out)
        clear hfin HR3 HF3
        simp only [toI]
        go_wp2
        go_roundg fu
        case measure => omega
        case rel => exact ⟨a1 + 1, h2, tr2, by go_num, by omega, HZ⟩
       | some t =>
        have hta := hto2 t rfl
        have i9 : ((t : Int) < (a1 : Int)) = False := by rw [eq_iff_iff, iff_false]; omega
        have i9' : (t < a1) = False := by rw [eq_iff_iff, iff_false]; omega
        have hfin := HY.out.2
        rw [HR3.out] at hfin
        dsimp only at hfin
        have HFN := hideT hfin.symm
        obtain ⟨hsr3, hro3, hN3, hF3⟩ := HF3.out
        have d0 : W3.cell? ⟨w.heap.size, 0, none⟩ = some (.int .i64 0) := by simp [World.cell?, hN3]
        have d1 : W3.cell? ⟨w.heap.size, 1, none⟩ = some (.int .i64 0) := by simp [World.cell?, hN3]
        have v0 : W3.frozen? ⟨w.heap.size, 0, none⟩ = false := by simp [World.frozen?, hN3]
        have v1 : W3.frozen? ⟨w.heap.size, 1, none⟩ = false := by simp [World.frozen?, hN3]
        have fz : ∀ k, k ≠ w.heap.size → ((W3.setCell ⟨w.heap.size, 0, none⟩ (.int .i64 (a1 : Nat))).setCell ⟨w.heap.size, 1, none⟩ (.int .i64 (t : Nat))).heap[k]? = W3.heap[k]? := fun k hk => setCells_far W3 w.heap.size hk [.int .i64 (a1 : Nat), .int .i64 (t : Nat)] 0
        have o1 : SrAt ((W3.setCell ⟨w.heap.size, 0, none⟩ (.int .i64 (a1 : Nat))).setCell ⟨w.heap.size, 1, none⟩ (.int .i64 (t : Nat))) sb s h2 _ sv := (fz sb (by omega)).trans hsr3
        have o2 : Fs sb w ((W3.setCell ⟨w.heap.size, 0, none⟩ (.int .i64 (a1 : Nat))).setCell ⟨w.heap.size, 1, none⟩ (.int .i64 (t : Nat))) := ⟨hF3.os, hF3.tape, hF3.output, by have := hF3.size; simpa using this, fun k a1 a2 => (fz k (by omega)).trans (hF3.same k a1 a2)⟩
        have o4 : ((W3.setCell ⟨w.heap.size, 0, none⟩ (.int .i64 (a1 : Nat))).setCell ⟨w.heap.size, 1, none⟩ (.int .i64 (t : Nat))).heap[w.heap.size]? = some (.cells [.int .i64 (a1 : Nat), .int .i64 (t : Nat)].toArray 30 (0, 0)) := setCells_whole (cs := [.int .i64 0, .int .i64 0]) [.int .i64 (a1 : Nat), .int .i64 (t : Nat)] hN3 rfl
        have k0 : ((W3.setCell ⟨w.heap.size, 0, none⟩ (.int .i64 (a1 : Nat))).setCell ⟨w.heap.size, 1, none⟩ (.int .i64 (t : Nat))).cell? ⟨w.heap.size, 0, none⟩ = some (.int .i64 (a1 : Nat)) := by simp only [World.cell?, o4]; rfl
        have k1 : ((W3.setCell ⟨w.heap.size, 0, none⟩ (.int .i64 (a1 : Nat))).setCell ⟨w.heap.size, 1, none⟩ (.int .i64 (t : Nat))).cell? ⟨w.heap.size, 1, none⟩ = some (.int .i64 (t : Nat)) := by simp only [World.cell?, o4]; rfl
        have HO := hideT (And.intro o1 (And.intro o2 (And.intro k0 k1)))
        clear o1 o2 o4 k0 k1 fz hsr3 hro3 hN3 hF3 HF3 HR3 hfin
        simp only [toI]
        go_wp2
        try rw [Exit.noGoto_ret]
        obtain ⟨o1, o2, k0, k1⟩ := HO.out
        refine bodyPost_ret (v := .tuple #[.agg #[.int .i64 (a1 : Nat), .int .i64 (t : Nat)], .bool true]) (by simp [results, Tryz.results47, go_sem, k0, k1]) rfl ?_
        rw [HFN.out]
        exact ⟨_, o1, o2, rfl⟩
      | false =>
       have h9 := HRU.out
       rw [hbz, cond_false] at h9
       have HRF := hideT h9
       clear h9 HRU
       obtain ⟨srV, hro, hN, hF⟩ := HF4.out
       have hwt2 : ∀ V, Fs sb W3 V → PtAt V S b p ∧ Tab V ∧ (∀ g, S g → g < V.heap.size ∧ g ≠ sb) := fun V hV => by
        have hFV := hF.trans hV
        exact ⟨HH.out.2.1.keep (fun k hk => hFV.same k (HH.out.2.2.2 k hk).1 (HH.out.2.2.2 k hk).2) (fun _ h => h), HH.out.2.2.1.keep (hFV.same 0 hpos (fun e => hsb0 e.symm)), fun k hk => ⟨Nat.lt_of_lt_of_le (HH.out.2.2.2 k hk).1 hFV.size, (HH.out.2.2.2 k hk).2⟩⟩
       have HTK := hideT (fun (V : World) (hV : Fs sb W3 V) (hsV : SrAt V sb s h2 (.slice (some ⟨w.heap.size + 1, 0, none⟩) s.size s.size) sv) => takers_any (wt := wo wt x) (pl := pl) V hsV (hwt2 V hV).1 (hwt2 V hV).2.2 (hwt2 V hV).2.1 (fun y hy => mem_len hwo hy) hpl3)
       obtain ⟨tk, htk⟩ : ∃ tk, takers p (bl s) (wo wt x) pl = tk := ⟨_, rfl⟩
       rw [htk] at HTK
       clear hro hN hF hwt2
       go_upto_region 15 with fail
       have HSB := hideT srV.lt
       rw [htk] at HRF
       have hSof : ∀ V : World, Fs sb W3 V → (fun V : World => Fs sb W3 V ∧ V.cell? ⟨nb, 0, none⟩ = some (.int .u64 (wd (Nat.testBit (wo wt x)) 0 : Nat)) ∧ V.cell? ⟨nb, 1, none⟩ = some (.int .u64 (wd (Nat.testBit (wo wt x)) 1 : Nat)) ∧ V.cell? ⟨nb, 2, none⟩ = some (.int .u64 (wd (Nat.testBit (wo wt x)) 2 : Nat)) ∧ V.cell? ⟨nb, 3, none⟩ = some (.int .u64 (wd (Nat.testBit (wo wt x)) 3 : Nat))) V := fun V hV => by
        obtain ⟨⟨a0, a1, a2, a3⟩, -⟩ := Ps4.cells ((hV.same nb q4.lt (by omega)).trans q4 : Ps4 V nb (wo wt x))
        exact ⟨hV, a0, a1, a2, a3⟩
       go_cut [13] from 65 to 71 (fun s13 w' => ∃ n13, s13 = .pointer (some ⟨n13, 0, none⟩) ∧ Hid (W3.heap.size ≤ n13 ∧ Ps4 w' n13 tk ∧ SrAt w' sb s (h2 + cnt (wo wt x)) (.slice (some ⟨w.heap.size + 1, 0, none⟩) s.size s.size) sv ∧ Fs sb W3 w'))
       case first =>
        rename_i J hJ
        have hS5b : Fs sb W3 W3.drew := (Fs.refl sb W3).drew
        have hS5 := hSof _ hS5b
        refine wp_region_held (S := fun V : World => Fs sb W3 V ∧ V.cell? ⟨nb, 0, none⟩ = some (.int .u64 (wd (Nat.testBit (wo wt x)) 0 : Nat)) ∧ V.cell? ⟨nb, 1, none⟩ = some (.int .u64 (wd (Nat.testBit (wo wt x)) 1 : Nat)) ∧ V.cell? ⟨nb, 2, none⟩ = some (.int .u64 (wd (Nat.testBit (wo wt x)) 2 : Nat)) ∧ V.cell? ⟨nb, 3, none⟩ = some (.int .u64 (wd (Nat.testBit (wo wt x)) 3 : Nat))) (by kernel_rfl) ?_
        refine tq 0 65 hS5 ?_
        refine tq 1 66 hS5 ?_
        refine tq 2 67 hS5 ?_
        refine tq 3 68 hS5 ?_
        refine tq 4 69 hS5 ?_
        refine tq 5 70 hS5 ?_
        simp only [Act.put, List.setIfInBounds_toArray, List.set_cons_zero, List.set_cons_succ]
        refine wpAnyH_all (rs := [6, 7]) (by kernel_rfl) (by simp) (fun i hi => ?_)
        have hc27 : i = 6 ∨ i = 7 := by simpa using hi
        rcases hc27 with rfl | rfl
        · refine op_call (R := fun v w1 => v = .agg #[.int .u64 (wd (Nat.testBit tk) 0 : Nat), .int .u64 (wd (Nat.testBit tk) 1 : Nat), .int .u64 (wd (Nat.testBit tk) 2 : Nat), .int .u64 (wd (Nat.testBit tk) 3 : Nat)] ∧ (Fs sb W3.drew w1 ∧ SrAt w1 sb s (h2 + cnt (wo wt x)) (.slice (some ⟨w.heap.size + 1, 0, none⟩) s.size s.size) sv)) (f := 69) (some 71) rfl rfl (by rfl) (by go_simp; (try with_reducible rfl)) ((HTK.out _ hS5b srV).mono ?_) ?_
          · rintro e w5 ⟨rfl, h6, h7⟩; exact ⟨_, rfl, rfl, h7, h6⟩
          rintro v w28 ⟨rfl, hb29⟩
          have b30 := hS5b.trans hb29.1
          have hS31 := hSof _ b30
          refine ⟨hS31, ?_⟩
          simp only [Act.put, List.setIfInBounds_toArray, List.set_cons_zero, List.set_cons_succ]
          have srN := hb29.2
          refine wpAnyH_all (rs := [7]) (by kernel_rfl) (by simp) (fun i hi => ?_)
          obtain rfl : i = 7 := List.mem_singleton.1 hi
          obtain ⟨U32, hU33⟩ : ∃ U, U = w28.alloc (.cells #[.int .u64 0, .int .u64 0, .int .u64 0, .int .u64 0] 157) := ⟨_, rfl⟩
          have b34 : Fs sb W3 U32 := by rw [hU33]; exact b30.trans (Fs.of ((Below.refl _ _).alloc (Nat.le_refl _) _))
          obtain ⟨n36, hn37⟩ : ∃ n, n = w28.heap.size := ⟨_, rfl⟩
          have z38 : Ps4 U32 n36 0 := by rw [hU33, hn37]; exact Ps4.zero _
          have le39 : W3.heap.size ≤ n36 := by rw [hn37]; exact b30.size
          have hS35 := hSof _ b34
          refine op_value (some 13) rfl rfl (by rfl) (v := .pointer (some ⟨n36, 0, none⟩)) (w' := U32) (by rw [hU33, hn37]; clear z38 hS35; go_simp; (try with_reducible rfl)) ⟨hS35, ?_⟩
          have srN : SrAt U32 sb s (h2 + cnt (wo wt x)) (.slice (some ⟨w.heap.size + 1, 0, none⟩) s.size s.size) sv := by rw [hU33]; exact (Below.heap_alloc _ _ _ srN.lt).trans srN
          clear hU33 hn37
          simp only [Act.put, List.setIfInBounds_toArray, List.set_cons_zero, List.set_cons_succ]
          refine wpAnyH_all (rs := [8]) (by kernel_rfl) (by simp) (fun i hi => ?_)
          obtain rfl : i = 8 := List.mem_singleton.1 hi
          obtain ⟨⟨c0, c1, c2, c3⟩, f0, f1, f2, f3⟩ := z38.cells
          have zF : Fs sb W3 (put4at U32 n36 0 tk) := ⟨b34.os, b34.tape, b34.output, by rw [put4at_size]; exact b34.size, fun k a1 a2 => (put4at_far _ _ _ _ (by omega)).trans (b34.same k a1 a2)⟩
          refine op_skip rfl rfl (by rfl) (w' := put4at U32 n36 0 tk) (by go_simp; (try with_reducible rfl)) ⟨hSof _ zF, ?_⟩
          have zS : SrAt (put4at U32 n36 0 tk) sb s (h2 + cnt (wo wt x)) (.slice (some ⟨w.heap.size + 1, 0, none⟩) s.size s.size) sv := (put4at_far U32 n36 0 tk (by have := HSB.out; omega)).trans srN
          have zP : Ps4 (put4at U32 n36 0 tk) n36 tk := z38.put tk
          have HZZ := hideT (And.intro le39 (And.intro zP (And.intro zS zF)))
          refine wpAnyH_done (by kernel_rfl) (hJ _ _ ?_) _
          simp only [Act.put]
          go_meet
          exact ⟨n36, rfl, HZZ⟩
        · obtain ⟨U40, hU41⟩ : ∃ U, U = W3.drew.alloc (.cells #[.int .u64 0, .int .u64 0, .int .u64 0, .int .u64 0] 157) := ⟨_, rfl⟩
          have b42 : Fs sb W3 U40 := by rw [hU41]; exact hS5b.trans (Fs.of ((Below.refl _ _).alloc (Nat.le_refl _) _))
          obtain ⟨n44, hn45⟩ : ∃ n, n = W3.drew.heap.size := ⟨_, rfl⟩
          have z46 : Ps4 U40 n44 0 := by rw [hU41, hn45]; exact Ps4.zero _
          have le47 : W3.heap.size ≤ n44 := by rw [hn45]; exact hS5b.size
          have hS43 := hSof _ b42
          refine op_value (some 13) rfl rfl (by rfl) (v := .pointer (some ⟨n44, 0, none⟩)) (w' := U40) (by rw [hU41, hn45]; clear z46 hS43; go_simp; (try with_reducible rfl)) ⟨hS43, ?_⟩
          have srV : SrAt U40 sb s h2 (.slice (some ⟨w.heap.size + 1, 0, none⟩) s.size s.size) sv := by rw [hU41]; exact (Below.heap_alloc _ _ _ srV.lt).trans srV
          clear hU41 hn45
          simp only [Act.put, List.setIfInBounds_toArray, List.set_cons_zero, List.set_cons_succ]
          refine wpAnyH_all (rs := [6]) (by kernel_rfl) (by simp) (fun i hi => ?_)
          obtain rfl : i = 6 := List.mem_singleton.1 hi
          refine op_call (R := fun v w1 => v = .agg #[.int .u64 (wd (Nat.testBit tk) 0 : Nat), .int .u64 (wd (Nat.testBit tk) 1 : Nat), .int .u64 (wd (Nat.testBit tk) 2 : Nat), .int .u64 (wd (Nat.testBit tk) 3 : Nat)] ∧ (Fs sb U40 w1 ∧ SrAt w1 sb s (h2 + cnt (wo wt x)) (.slice (some ⟨w.heap.size + 1, 0, none⟩) s.size s.size) sv)) (f := 69) (some 71) rfl rfl (by rfl) (by go_simp; (try with_reducible rfl)) ((HTK.out _ b42 srV).mono ?_) ?_
          · rintro e w5 ⟨rfl, h6, h7⟩; exact ⟨_, rfl, rfl, h7, h6⟩
          rintro v w48 ⟨rfl, hb49⟩
          have b50 := b42.trans hb49.1
          have hS51 := hSof _ b50
          refine ⟨hS51, ?_⟩
          simp only [Act.put, List.setIfInBounds_toArray, List.set_cons_zero, List.set_cons_succ]
          have srN := hb49.2
          have z52 := (show Ps4 _ _ 0 from (hb49.1.same _ z46.lt (by have := HSB.out; omega)).trans z46)
          refine wpAnyH_all (rs := [8]) (by kernel_rfl) (by simp) (fun i hi => ?_)
          obtain rfl : i = 8 := List.mem_singleton.1 hi
          obtain ⟨⟨c0, c1, c2, c3⟩, f0, f1, f2, f3⟩ := z52.cells
          have zF : Fs sb W3 (put4at w48 n44 0 tk) := ⟨b50.os, b50.tape, b50.output, by rw [put4at_size]; exact b50.size, fun k a1 a2 => (put4at_far _ _ _ _ (by omega)).trans (b50.same k a1 a2)⟩
          refine op_skip rfl rfl (by rfl) (w' := put4at w48 n44 0 tk) (by go_simp; (try with_reducible rfl)) ⟨hSof _ zF, ?_⟩
          have zS : SrAt (put4at w48 n44 0 tk) sb s (h2 + cnt (wo wt x)) (.slice (some ⟨w.heap.size + 1, 0, none⟩) s.size s.size) sv := (put4at_far w48 n44 0 tk (by have := HSB.out; omega)).trans srN
          have zP : Ps4 (put4at w48 n44 0 tk) n44 tk := z52.put tk
          have HZZ := hideT (And.intro le47 (And.intro zP (And.intro zS zF)))
          refine wpAnyH_done (by kernel_rfl) (hJ _ _ ?_) _
          simp only [Act.put]
          go_meet
          exact ⟨n44, rfl, HZZ⟩
       case rest =>
       obtain ⟨n13, rfl, HC⟩ := hcut
       rename_i KQ hKQ
       refine hKQ _ _ ?_
       obtain ⟨hn13, p13, srW, hFW⟩ := HC.out
       obtain ⟨-, hro3, hN3, hF3⟩ := HF4.out
       have hsbl3 := srV.lt
       have hbn : w.heap.size + 1 < W3.heap.size ∧ w.heap.size < W3.heap.size := ⟨(owns_blk hro3 (g := w.heap.size + 1) rfl).2.1, (Array.getElem?_eq_some_iff.1 hN3).1⟩
       have hFwc := hF3.trans hFW
       have hpw : PtAt wc S b p := HH.out.2.1.keep (fun k hk => hFwc.same k (HH.out.2.2.2 k hk).1 (HH.out.2.2.2 k hk).2) (fun _ h => h)
       have hTw : Tab wc := HH.out.2.2.1.keep (hFwc.same 0 hpos (fun e => hsb0 e.symm))
       have htkL : tk < 2 ^ p.takes.length := by rw [← htk]; exact takers_in hwo
       have HPT := hideT (And.intro hpw (And.intro hTw (And.intro htkL (lt_mono htkL hok.len))))
       obtain ⟨k2, hk2⟩ : ∃ k2, kindAt s.size (pl + 1) = k2 := ⟨_, rfl⟩
       have hk24 : k2 < 4 := by rw [← hk2]; exact kind_lt _ _
       rw [hk2] at HRF
       have HK2 := hideT (fun W (e : W.cell? ⟨sb, 0, none⟩ = some (.string s)) => (by have h := kind_any (W := W) (b := sb) (o := 0) s (pl + 1) e; rw [hk2] at h; exact h : Calls Tryz.prog 66 #[.pointer (some ⟨sb, 0, none⟩), .int .i64 ((pl : Int) + 1)] W fun e w' => e = .returned (.int .i64 (k2 : Nat)) ∧ w' = W))
       have HM := hideT (fun W => meets_any (a := tk) (b := (bat p.bds k2).la) HPT.out.2.2.2 W)
       obtain ⟨b, p, vl, vt, vn, cs, -, blk, -, -, -, -, -, -, -, -⟩ := hpw
       have hrg : wc.rangeAt b (5 + k2 * 9) (bdV (bat p.bds k2)) := fun j v hv => by
        have hj : j < 9 := by have := (List.getElem?_eq_some_iff.1 hv).1; simpa [bdV] using this
        have := pt_range blk (k2 * 9 + j) v ((bs_get p.bds k2 j hk24 hj).trans hv)
        rwa [← Nat.add_assoc] at this
       have z5 : wc.cell? ⟨b, 5 + k2 * 9 + 5, none⟩ = some (.int .u64 (wd (Nat.testBit (bat p.bds k2).la) 0 : Nat)) := hrg 5 _ rfl
       have z6 : wc.cell? ⟨b, 5 + k2 * 9 + 5 + 1, none⟩ = some (.int .u64 (wd (Nat.testBit (bat p.bds k2).la) 1 : Nat)) := hrg 6 _ rfl
       have z7 : wc.cell? ⟨b, 5 + k2 * 9 + 5 + 2, none⟩ = some (.int .u64 (wd (Nat.testBit (bat p.bds k2).la) 2 : Nat)) := hrg 7 _ rfl
       have z8 : wc.cell? ⟨b, 5 + k2 * 9 + 5 + 3, none⟩ = some (.int .u64 (wd (Nat.testBit (bat p.bds k2).la) 3 : Nat)) := hrg 8 _ rfl
       obtain ⟨⟨c0, c1, c2, c3⟩, -⟩ := p13.cells
       have cs0 := srW.cells.1
       have hSof : ∀ V : World, Below wc.heap.size wc V → (fun V : World => Below wc.heap.size wc V ∧ V.cell? ⟨sb, 0, none⟩ = some (.string s) ∧ V.cell? ⟨n13, 0, none⟩ = some (.int .u64 (wd (Nat.testBit tk) 0 : Nat)) ∧ V.cell? ⟨n13, 1, none⟩ = some (.int .u64 (wd (Nat.testBit tk) 1 : Nat)) ∧ V.cell? ⟨n13, 2, none⟩ = some (.int .u64 (wd (Nat.testBit tk) 2 : Nat)) ∧ V.cell? ⟨n13, 3, none⟩ = some (.int .u64 (wd (Nat.testBit tk) 3 : Nat)) ∧ V.cell? ⟨b, 5 + k2 * 9 + 5, none⟩ = some (.int .u64 (wd (Nat.testBit (bat p.bds k2).la) 0 : Nat)) ∧ V.cell? ⟨b, 5 + k2 * 9 + 5 + 1, none⟩ = some (.int .u64 (wd (Nat.testBit (bat p.bds k2).la) 1 : Nat)) ∧ V.cell? ⟨b, 5 + k2 * 9 + 5 + 2, none⟩ = some (.int .u64 (wd (Nat.testBit (bat p.bds k2).la) 2 : Nat)) ∧ V.cell? ⟨b, 5 + k2 * 9 + 5 + 3, none⟩ = some (.int .u64 (wd (Nat.testBit (bat p.bds k2).la) 3 : Nat))) V := fun V hV => ⟨hV, keep_cell hV cs0, keep_cell hV c0, keep_cell hV c1, keep_cell hV c2, keep_cell hV c3, keep_cell hV z5, keep_cell hV z6, keep_cell hV z7, keep_cell hV z8⟩
       have i1 : (k2 : Int) < 4 := by omega
       have i2 : (0 : Int) ≤ (k2 : Int) := by omega
       have i3 : IntKind.i64.wrap ((pl : Int) + 1) = (pl : Int) + 1 := by rw [IntKind.wrap_i64]; omega
       clear z5 z6 z7 z8 c0 c1 c2 c3 cs0 hrg blk srW srV hn13 p13 hFW hFwc hro3 hN3 hF3 hTw htkL HTK hsbl3
       go_upto_region 16 with fail
       rename_i K16 hK16
       go_cut [85] from 72 to 85 (fun s85 w' => s85 = .bool (!Nat.beq (tk &&& (bat p.bds k2).la) 0) ∧ Hid (Below wc.heap.size wc w'))
       case first =>
        rename_i J hJ
        have hS0b : Below wc.heap.size wc wc.drew := (Below.refl _ _).drew
        have hS0 := hSof _ hS0b
        refine wp_region_held (S := fun V : World => Below wc.heap.size wc V ∧ V.cell? ⟨sb, 0, none⟩ = some (.string s) ∧ V.cell? ⟨n13, 0, none⟩ = some (.int .u64 (wd (Nat.testBit tk) 0 : Nat)) ∧ V.cell? ⟨n13, 1, none⟩ = some (.int .u64 (wd (Nat.testBit tk) 1 : Nat)) ∧ V.cell? ⟨n13, 2, none⟩ = some (.int .u64 (wd (Nat.testBit tk) 2 : Nat)) ∧ V.cell? ⟨n13, 3, none⟩ = some (.int .u64 (wd (Nat.testBit tk) 3 : Nat)) ∧ V.cell? ⟨b, 5 + k2 * 9 + 5, none⟩ = some (.int .u64 (wd (Nat.testBit (bat p.bds k2).la) 0 : Nat)) ∧ V.cell? ⟨b, 5 + k2 * 9 + 5 + 1, none⟩ = some (.int .u64 (wd (Nat.testBit (bat p.bds k2).la) 1 : Nat)) ∧ V.cell? ⟨b, 5 + k2 * 9 + 5 + 2, none⟩ = some (.int .u64 (wd (Nat.testBit (bat p.bds k2).la) 2 : Nat)) ∧ V.cell? ⟨b, 5 + k2 * 9 + 5 + 3, none⟩ = some (.int .u64 (wd (Nat.testBit (bat p.bds k2).la) 3 : Nat))) (by kernel_rfl) ?_
        refine tq 0 72 hS0 ?_
        refine tq 1 73 hS0 ?_
        refine tq 2 74 hS0 ?_
        refine tq 3 75 hS0 ?_
        refine tq 4 76 hS0 ?_
        refine tq 5 77 hS0 ?_
        refine tq 6 78 hS0 ?_
        refine tq 8 80 hS0 ?_
        refine tq 9 81 hS0 ?_
        simp only [Act.put, List.setIfInBounds_toArray, List.set_cons_zero, List.set_cons_succ]
        refine wpAnyH_all (rs := [7]) (by kernel_rfl) (by simp) (fun i hi => ?_)
        obtain rfl : i = 7 := List.mem_singleton.1 hi
        refine op_call (R := fun v w1 => v = .int .i64 (k2 : Nat) ∧ w1 = wc.drew) (f := 66) (some 79) rfl rfl (by rfl) (by go_simp; (try with_reducible rfl)) ((HK2.out _ hS0.2.1).mono ?_) ?_
        · rintro e w4 ⟨rfl, rfl⟩
          exact ⟨_, rfl, rfl, rfl⟩
        rintro v w4 ⟨rfl, rfl⟩
        refine ⟨hS0, ?_⟩
        simp only [Act.put, List.setIfInBounds_toArray, List.set_cons_zero, List.set_cons_succ]
        refine tq 10 82 hS0 ?_
        refine tq 11 83 hS0 ?_
        refine tq 12 84 hS0 ?_
        simp only [Act.put, List.setIfInBounds_toArray, List.set_cons_zero, List.set_cons_succ]
        refine wpAnyH_all (rs := [13]) (by kernel_rfl) (by simp) (fun i hi => ?_)
        obtain rfl : i = 13 := List.mem_singleton.1 hi
        refine op_call (R := fun v w1 => v = .bool (!Nat.beq (tk &&& (bat p.bds k2).la) 0) ∧ Below wc.heap.size wc w1) (f := 70) (some 85) rfl rfl (by rfl) (by go_simp; (try with_reducible rfl)) ((HM.out _).mono ?_) ?_
        · rintro e w4 ⟨rfl, hb0⟩
          exact ⟨_, rfl, rfl, hS0b.trans hb0⟩
        rintro v w4 ⟨rfl, hb4⟩
        refine ⟨hSof _ hb4, ?_⟩
        simp only [Act.put, List.setIfInBounds_toArray, List.set_cons_zero, List.set_cons_succ]
        refine wpAnyH_done (by kernel_rfl) (hJ _ _ ?_) _
        try simp only [Act.put]
        go_meet
        exact ⟨rfl, hideT hb4⟩
       case rest =>
       obtain ⟨rfl, HB⟩ := hcut
       refine hK16 _ _ ?_
       obtain ⟨bm, hbm⟩ : ∃ bm, Nat.beq (tk &&& (bat p.bds k2).la) 0 = bm := ⟨_, rfl⟩
       rw [hbm] at HRF ⊢
       obtain ⟨toN3, htoN3⟩ : ∃ toN3, (bif bm then toN2 else some (pl + 1)) = toN3 := ⟨_, rfl⟩
       rw [htoN3] at HRF
       have hto3 : ∀ t, toN3 = some t → a1 ≤ t ∧ t ≤ s.size := fun t ht => by
        rw [← htoN3] at ht
        cases bm with
        | true => exact hto2 t ht
        | false =>
         obtain rfl := Option.some.inj ht
         exact ⟨by omega, by omega⟩
       have HTO := hideT htoN3
       clear htoN3 hbm hSof HK2 HM i1 i2
       go_upto_if 85 with fail
       rename_i K85 hK85
       go_cut [11] from 86 to 87 (fun s11 wx => s11 = .int .i64 (toI toN3) ∧ Hid (wx = wc))
       case first =>
        have htoN3 := HTO.out
        cases bm with
        | true =>
         rw [cond_true] at htoN3
         subst htoN3
         go_wp2_with fail
         go_meet
         exact ⟨rfl, hideT rfl⟩
        | false =>
         rw [cond_false] at htoN3
         subst htoN3
         go_wp2_with fail
         go_meet
         exact ⟨rfl, hideT rfl⟩
       case rest =>
       obtain ⟨rfl, hw5⟩ := hcut
       rename_i w4 w5
       obtain rfl := hw5.out
       clear hw5 HTO
       refine hK85 _ _ ?_
       obtain ⟨hn13, p13, srW, hFW⟩ := HC.out
       obtain ⟨-, hro3, hN3, hF3⟩ := HF4.out
       have hBo := HB.out
       have e13 := p13.below hBo p13.lt
       have hF5 : Fs sb W3 wc := hFW.trans (Fs.of hBo)
       have hsr5 : SrAt wc sb s (h2 + cnt (wo wt x)) (.slice (some ⟨w.heap.size + 1, 0, none⟩) s.size s.size) sv := (hBo.block sb srW.lt).trans srW
       have hpw5 : PtAt wc S b p := HPT.out.1.keep (fun k hk => hBo.block k (Nat.lt_of_lt_of_le (HH.out.2.2.2 k hk).1 (Nat.le_trans (hF3.size) hFW.size))) (fun _ h => h)
       have hco := onward_any (took := tk) wc hpw5 (HPT.out.2.1.keep (hBo.block 0 (by have := hFW.size; omega))) (in_next hok HPT.out.2.2.1)
       have hnb5 : Ps4 wc nb (wo wt x) := (hF5.same nb q4.lt (by omega)).trans q4
       obtain ⟨⟨c0, c1, c2, c3⟩, -⟩ := e13.cells
       have HZ1 := hideT (And.intro hF5 (And.intro hsr5 hnb5))
       clear hn13 p13 srW hFW hro3 hN3 hF3 hBo e13 hF5 hsr5 hpw5 hnb5
       go_wp2_with fail
       refine hco.mono ?_
       rintro e w6 ⟨rfl, hb6⟩
       obtain ⟨hF5, hsr5, hnb5⟩ := HZ1.out
       obtain ⟨-, hro3, hN3, hF3⟩ := HF4.out
       have hnb6 := hnb5.below hb6 hnb5.lt
       obtain ⟨⟨t0, t1, t2, t3⟩, g0, g1, g2, g3⟩ := hnb6.cells
       have z1 := hnb6.put (onward p tk)
       have far : ∀ k, k < W3.heap.size → k ≠ sb → k ≠ nb → (put4at w6 nb 0 (onward p tk)).heap[k]? = W3.heap[k]? := fun k a1 a2 a3 => (put4at_far w6 nb 0 (onward p tk) a3).trans ((hb6.block k (Nat.lt_of_lt_of_le a1 hF5.size)).trans (hF5.same k a1 a2))
       have z2 : SrAt (put4at w6 nb 0 (onward p tk)) sb s (h2 + cnt (wo wt x)) (.slice (some ⟨w.heap.size + 1, 0, none⟩) s.size s.size) sv := (put4at_far w6 nb 0 (onward p tk) (by omega)).trans ((hb6.block sb hsr5.lt).trans hsr5)
       have z3 := owns_keep hro3 (W' := put4at w6 nb 0 (onward p tk)) fun k hk => far k (owns_blk hro3 hk).2.1 (by obtain rfl : w.heap.size + 1 = k := Option.some.inj hk; omega) (by obtain rfl : w.heap.size + 1 = k := Option.some.inj hk; omega)
       have z4 := (far w.heap.size hbn.2 (by omega) (by omega)).trans hN3
       have z5 : Fs sb w (put4at w6 nb 0 (onward p tk)) := ⟨hb6.os.trans (hF5.os.trans hF3.os), hb6.tape.trans (hF5.tape.trans hF3.tape), hb6.output.trans (hF5.output.trans hF3.output), by rw [put4at_size]; exact Nat.le_trans hF3.size (Nat.le_trans hF5.size hb6.size), fun k a1 a2 => (far k (Nat.lt_of_lt_of_le a1 hF3.size) a2 (by omega)).trans (hF3.same k a1 a2)⟩
       have HZ := hideT (And.intro HRF.out (And.intro (onward_lt hok tk) (And.intro z1 (And.intro z2 (And.intro z3 (And.intro z4 z5))))))
       clear hF5 hsr5 hnb5 hro3 hN3 hF3 hnb6 z1 z2 z3 z4 z5 far hb6 hco HZ1 HRF HF4 HC HB c0 c1 c2 c3 q4
       go_wp2
       go_roundg f'
       case measure => omega
       case rel => exact ⟨pl + 1, onward p tk, h2 + cnt (wo wt x), tr2.set pl (x ||| wo wt x), toN3, rfl, by go_num, ⟨by omega, by omega⟩, by omega, hto3, HZ⟩
end Go.Proofs.YtbekghinikjjeaaGreatDoor.smt
