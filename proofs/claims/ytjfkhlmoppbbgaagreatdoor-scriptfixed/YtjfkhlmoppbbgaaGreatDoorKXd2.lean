/- script: awake. -/
import Derived.Test.YtjfkhlmoppbbgaaGreatDoorKXw1
import Derived.Test.YtjfkhlmoppbbgaaGreatDoorKXe2
import Derived.Deep.CutRange
import Derived.Test.YtjfkhlmoppbbgaaGreatDoorRows
import Derived.LaidHandle
import Derived.Lay
namespace Go.Proofs.YtjfkhlmoppbbgaaGreatDoor
open Go.RowKit
open scanP scrP tpl ytb

theorem Gl.below {w w' : World} (h : Gl w) (hb : Below w.heap.size w w') : Gl w' := (h.stay (Tch.of (F := fun _ => False) hb) (fun _ h => h.elim))
theorem wl_value {P : Program} {ops : Array Oper} {rest : List Oper} {op : Oper} {a : Act} {w w' : World} {Q : Exit → Act → World → Prop} {v : Value} (hgd : op.guard = none) (hx : (execOp a.eval op).run P w = .ok (.value v) w') (h : wpList P ops Q rest (a.put op.dst v) w') : wpList P ops Q (op :: rest) a w := by
  refine wpList_plain hgd fun K hK => ?_
  unfold Oper.wp
  rw [hx]
  exact hK _ _ h
theorem below_setCells {B : Nat} {X : World} (b : Nat) (hb : B ≤ b) : ∀ (vs : List Value) (W : World) (o : Nat), Below B X W → Below B X (W.setCells b o vs)
  | [], _, _, h => h
  | v :: vs, W, o, h => by
    rw [World.setCells]
    exact below_setCells b hb vs _ _ (h.setCell (p := ⟨b, o, none⟩) hb v)
theorem one_sz (w : World) (o : Obj) : (w.alloc o).heap.size = w.heap.size + 1 := Array.size_push _
theorem two_sz (w : World) (o p : Obj) : ((w.alloc o).alloc p).heap.size = w.heap.size + 1 + 1 := by rw [one_sz, one_sz]
set_option maxRecDepth 100000 in
set_option maxHeartbeats 1000000 in
theorem bld_aw {ev : Operand → Value} {op : Oper} {w : World} {bs : Option Addr} {n m : Nat} (x y z : Operand) (hc : ∀ v, ev (.const v) = v) (ho : op.op = .build 41 #[(0, .const (.int .i64 9)), (1, x), (2, y), (3, .const (.bool true)), (4, .const (.int .u8 115)), (8, .const (.string ⟨#[97]⟩)), (9, z), (10, .const (.int .i64 2)), (11, .const (.bool true)), (12, .const (.bool true))]) (hx : ev x = .agg #[.int .i64 1, .int .i64 2, .string ⟨#[]⟩]) (hy : ev y = .agg #[.int .i64 3, .int .i64 0, .string ⟨#[120]⟩]) (hz : ev z = .slice bs n m) : (execOp ev op).run Tryz.prog w = .ok (.value (.agg #[.int .i64 9, .int .i64 1, .int .i64 2, .string ⟨#[]⟩, .int .i64 3, .int .i64 0, .string ⟨#[120]⟩, .bool true, .int .u8 115, .string ⟨#[]⟩, .string ⟨#[]⟩, .string ⟨#[]⟩, .string ⟨#[97]⟩, .slice bs n m, .int .i64 2, .bool true, .bool true, .string ⟨#[]⟩, .string ⟨#[]⟩])) w := by
  obtain ⟨i0, hi, hz0, hz1, hz2⟩ := info_parts infoCo
  go_simp
  try rfl
theorem bld_as {a : Act} {op : Oper} {w : World} {bs : Option Addr} {n m : Nat} {xs : List Value} (hxs : Hid (xs = coV awC (.slice bs n m))) (x y z : Operand) (ho : op.op = .build 41 #[(0, .const (.int .i64 9)), (1, x), (2, y), (3, .const (.bool true)), (4, .const (.int .u8 115)), (8, .const (.string ⟨#[97]⟩)), (9, z), (10, .const (.int .i64 2)), (11, .const (.bool true)), (12, .const (.bool true))]) (hx : a.eval x = .agg #[.int .i64 1, .int .i64 2, .string ⟨#[]⟩]) (hy : a.eval y = .agg #[.int .i64 3, .int .i64 0, .string ⟨#[120]⟩]) (hz : a.eval z = .slice bs n m) : (execOp a.eval op).run Tryz.prog w = .ok (.value (.agg xs.toArray)) w := by
  rw [hxs.out]
  exact bld_aw x y z (fun _ => rfl) ho hx hy hz
set_option maxRecDepth 100000 in
set_option maxHeartbeats 2000000 in
theorem awake_any (w : World) (hg : Gl w) : Calls Tryz.prog 11 #[] w fun e w' => e = .returned (.bool true) ∧ Below w.heap.size w w' := by
  have H1 := hideT (aw_first w hg)
  have HG := hideT hg
  clear hg
  go_enter Tryz.func11, Tryz.ntmps11
  go_wp2_with fail
  refine H1.out.mono ?_
  rintro e w1 ⟨g, o, cp, pv, rfl, hR, hP, hb1⟩
  have hA1 := (Below.refl w1.heap.size w1).alloc (Nat.le_refl _) (.cells #[.int .i64 0, .int .i64 0] 25)
  have hN1 := heap_alloc_new w1 (.cells #[.int .i64 0, .int .i64 0] 25)
  have H2 := hideT (aw_next (w1.alloc (.cells #[.int .i64 0, .int .i64 0] 25)) ((HG.out.below hb1).below hA1))
  have K1 := hideT (And.intro hR (And.intro hP (And.intro hb1 (And.intro hA1 hN1))))
  clear hR hP hb1 hA1 hN1 H1
  go_wp2_with fail
  refine H2.out.mono ?_
  rintro e w2 ⟨v, rfl, hb2⟩
  obtain ⟨hR, hP, hb1, hA1, hN1⟩ := K1.out
  have hA2 := (Below.refl w2.heap.size w2).alloc (Nat.le_refl _) (.cells #[.int .i64 17, .int .i64 2] 25)
  have n1 := (hb2.block _ (blk_lt hN1)).trans hN1
  have n1' := (hA2.block _ (blk_lt n1)).trans n1
  have q0 : (w2.alloc (.cells #[.int .i64 17, .int .i64 2] 25)).cell? ⟨w1.heap.size, 0, none⟩ = some (.int .i64 0) := by simp only [World.cell?, n1']; rfl
  have hS : Below w1.heap.size w1 w2 := hA1.trans (hb2.mono hA1.size)
  have hS2 : Below w1.heap.size w1 (w2.alloc (.cells #[.int .i64 17, .int .i64 2] 25)) := hS.trans (hA2.mono hS.size)
  have hA3 := (Below.refl (w2.alloc (.cells #[.int .i64 17, .int .i64 2] 25)).heap.size (w2.alloc (.cells #[.int .i64 17, .int .i64 2] 25))).alloc (Nat.le_refl _) (.cells #[.int .i64 (-1), .string ⟨#[98]⟩] 47)
  have hN3 := heap_alloc_new (w2.alloc (.cells #[.int .i64 17, .int .i64 2] 25)) (.cells #[.int .i64 (-1), .string ⟨#[98]⟩] 47)
  rw [one_sz] at hN3
  have hS3 := hS2.trans (hA3.mono hS2.size)
  have e2 := two_sz w2 (.cells #[.int .i64 17, .int .i64 2] 25) (.cells #[.int .i64 (-1), .string ⟨#[98]⟩] 47)
  obtain ⟨xs, hxs⟩ : ∃ xs, xs = coV awC (.slice (some ⟨w2.heap.size + 1, 0, none⟩) 1 1) := ⟨_, rfl⟩
  have O9 := hideT (show xs.toArray.all (·.oneCell') = true by rw [hxs]; exact coV_one _ _ rfl)
  have IN9 := hideT (show (Tryz.prog.info? 41).map (·.size) = some xs.toArray.size by rw [hxs]; exact info_cmd)
  have hN4 := heap_alloc_new ((w2.alloc (.cells #[.int .i64 17, .int .i64 2] 25)).alloc (.cells #[.int .i64 (-1), .string ⟨#[98]⟩] 47)) (.cells #[.int .i64 0, .int .i64 0, .int .i64 0, .string ⟨#[]⟩, .int .i64 0, .int .i64 0, .string ⟨#[]⟩, .bool false, .int .u8 0, .string ⟨#[]⟩, .string ⟨#[]⟩, .string ⟨#[]⟩, .string ⟨#[]⟩, .slice none 0 0, .int .i64 0, .bool false, .bool false, .string ⟨#[]⟩, .string ⟨#[]⟩] 41)
  have hA4 := (Below.refl ((w2.alloc (.cells #[.int .i64 17, .int .i64 2] 25)).alloc (.cells #[.int .i64 (-1), .string ⟨#[98]⟩] 47)).heap.size ((w2.alloc (.cells #[.int .i64 17, .int .i64 2] 25)).alloc (.cells #[.int .i64 (-1), .string ⟨#[98]⟩] 47))).alloc (Nat.le_refl _) (.cells #[.int .i64 0, .int .i64 0, .int .i64 0, .string ⟨#[]⟩, .int .i64 0, .int .i64 0, .string ⟨#[]⟩, .bool false, .int .u8 0, .string ⟨#[]⟩, .string ⟨#[]⟩, .string ⟨#[]⟩, .string ⟨#[]⟩, .slice none 0 0, .int .i64 0, .bool false, .bool false, .string ⟨#[]⟩, .string ⟨#[]⟩] 41)
  rw [e2] at hN4
  have TH9 := there_block (cs := [.int .i64 0, .int .i64 0, .int .i64 0, .string ⟨#[]⟩, .int .i64 0, .int .i64 0, .string ⟨#[]⟩, .bool false, .int .u8 0, .string ⟨#[]⟩, .string ⟨#[]⟩, .string ⟨#[]⟩, .string ⟨#[]⟩, .slice none 0 0, .int .i64 0, .bool false, .bool false, .string ⟨#[]⟩, .string ⟨#[]⟩]) hN4 19 rfl
  have hlen : xs.toArray.size = 19 := by rw [hxs]; rfl
  rw [← hlen] at TH9
  have TH9 := hideT TH9
  have hn4 := setCells_whole (cs := [.int .i64 0, .int .i64 0, .int .i64 0, .string ⟨#[]⟩, .int .i64 0, .int .i64 0, .string ⟨#[]⟩, .bool false, .int .u8 0, .string ⟨#[]⟩, .string ⟨#[]⟩, .string ⟨#[]⟩, .string ⟨#[]⟩, .slice none 0 0, .int .i64 0, .bool false, .bool false, .string ⟨#[]⟩, .string ⟨#[]⟩]) xs hN4 (by rw [hxs]; rfl)
  have hS4 := below_setCells (w2.heap.size + 1 + 1) (by rw [e2]; exact Nat.le_refl _) xs _ 0 hA4
  have hS5 := hS3.trans (hS4.mono hS3.size)
  have hn3 := (hS4.block (w2.heap.size + 1) (by rw [e2]; omega)).trans hN3
  have K2 := hideT (And.intro (range_keep hR (hS5.block g (range_lt hR))) (And.intro (hP.stay hS5 (Nat.le_refl _)) (And.intro (hb1.trans (hS5.mono hb1.size)) (And.intro hn3 hn4))))
  have HX := hideT hxs
  clear hR hP hb1 hA1 hN1 hA2 n1 n1' hS hS2 hS3 hS4 hS5 hA3 hA4 hN3 hN4 hn3 hn4 hb2 K1 H2 HG e2 hlen hxs
  go_wp2_with (first | (refine wl_value rfl (bld_as HX _ _ _ rfl rfl rfl rfl) ?_) | (refine wpList_store_mid rfl 41 _ _ rfl (w2.heap.size + 1 + 1) 0 xs.toArray rfl rfl TH9.out IN9.out O9.out ?_))
  revert K2
  generalize World.setCells _ (w2.heap.size + 1 + 1) 0 xs = W6
  intro K2
  obtain ⟨r1, r2, r3, r4, r5⟩ := K2.out
  have e9 := HX.out
  have r6 : W6.rangeAt (w2.heap.size + 1 + 1) 0 (coV awC (.slice (some ⟨w2.heap.size + 1, 0, none⟩) 1 1)) := by rw [← e9]; exact range_block r5
  have p2 : PRow W6 (.slice (some ⟨w2.heap.size + 1, 0, none⟩) 1 1) awC.ps := .inr ⟨w2.heap.size + 1, 0, 1, rfl, fun i hi => by
    have hi0 : i = 0 := Nat.lt_one_iff.1 hi
    subst hi0
    exact ⟨by simp [World.cell?, r4]; rfl, by simp [World.cell?, r4]; rfl⟩⟩
  have s0 : Below W6.heap.size W6 W6.drew := (Below.refl _ _).drew
  have HS := hideT (same_cmd awC pv (.slice (some ⟨w2.heap.size + 1, 0, none⟩) 1 1) W6.drew (r2.stay s0 (Nat.le_refl _)) (p2.stay s0 (Nat.le_refl _)) (by decide))
  have HR1 := hideT (fun (V : World) (hV : Below W6.heap.size W6 V) => range_keep r1 (hV.block g (range_lt r1)))
  have HR2 := hideT (fun (V : World) (hV : Below W6.heap.size W6 V) => range_keep r6 (hV.block _ (range_lt r6)))
  have HB := hideT r3
  clear r1 r2 r3 r4 r5 r6 p2 K2 e9 HX O9 IN9 TH9 q0
  refine wp_region_held (S := fun V => Below W6.heap.size W6 V) (by kernel_rfl) ?_
  refine' take_d 0 (some 40) rfl rfl (by kernel_rfl) (by kernel_rfl) (by kernel_rfl) (fun _ _ _ h => h) (wanted_none rfl _) s0 ?tk1 ?rs1
  case tk1 => intro V hV; go_simp; (try with_reducible rfl)
  refine' take_d 1 (some 41) rfl rfl (by kernel_rfl) (by kernel_rfl) (by kernel_rfl) (fun _ _ _ h => h) (wanted_none rfl _) s0 ?tk2 ?rs2
  case tk2 => intro V hV; go_simp; (try with_reducible rfl)
  simp only [Act.put, List.setIfInBounds_toArray, List.set_cons_zero, List.set_cons_succ]
  refine' take_d 2 (some 42) rfl rfl (by kernel_rfl) (by kernel_rfl) (by kernel_rfl) (fun _ _ _ h => h) (wanted_none rfl _) s0 ?tk3 ?rs3
  case tk3 => intro V hV; exact load_yield rfl rfl (HR1.out V hV)
  simp only [Act.put, List.setIfInBounds_toArray, List.set_cons_zero, List.set_cons_succ]
  refine' take_d 3 (some 43) rfl rfl (by kernel_rfl) (by kernel_rfl) (by kernel_rfl) (fun _ _ _ h => h) (wanted_none rfl _) s0 ?tk4 ?rs4
  case tk4 => intro V hV; exact load_yield rfl rfl (HR2.out V hV)
  simp only [Act.put, List.setIfInBounds_toArray, List.set_cons_zero, List.set_cons_succ]
  refine wpAnyH_all (rs := [4]) (by kernel_rfl) (by simp) (fun i hi => ?_)
  obtain rfl : i = 4 := List.mem_singleton.1 hi
  refine op_call (some 44) rfl rfl (wanted_none rfl _) (by go_simp; (try with_reducible rfl)) (R := fun v w' => v = .bool true ∧ Below W6.heap.size W6 w') (HS.out.mono (fun e w' h => ⟨_, h.1, rfl, s0.trans (h.2.mono s0.size)⟩)) ?_
  rintro v8 w8 ⟨rfl, hb8⟩
  refine And.intro hb8 ?_
  refine' take_d 5 (some 0) rfl rfl (by kernel_rfl) (by kernel_rfl) (by kernel_rfl) (fun _ _ _ h => h) (wanted_none rfl _) hb8 ?tk5 ?rs5
  case tk5 => intro V hV; go_simp; (try with_reducible rfl)
  refine wpAnyH_done (by kernel_rfl) ?_ _
  simp only [Act.put, List.setIfInBounds_toArray, List.set_cons_zero, List.set_cons_succ]
  have HF := hideT (HB.out.trans (hb8.mono HB.out.size))
  clear hb8 s0 HS HR1 HR2
  go_wp2
  go_ret
  exact ⟨rfl, HF.out⟩
end Go.Proofs.YtjfkhlmoppbbgaaGreatDoor

/- script: moved (of the statements). -/
namespace Go.Proofs.YtjfkhlmoppbbgaaGreatDoor
open Go.RowKit
open scanP scrP tpl ytb

set_option maxRecDepth 100000 in
set_option maxHeartbeats 1000000 in
theorem bld_one {ev : Operand → Value} {op : Oper} {w : World} (x0 : Operand) (ho : op.op = .buildSlice 22 1 #[(0, x0)]) (c : Co) (b : Option Addr) (n m : Nat) (h0 : ev x0 = .agg (coV c (.slice b n m)).toArray) : (execOp ev op).run Tryz.prog w = .ok (.value (.slice (some ⟨w.heap.size, 0, none⟩) 1 1)) (w.alloc (.cells (coV c (.slice b n m)).toArray 41)) := by
  obtain ⟨i0, hi, hz0, hz1, hz2⟩ := info_parts infoCo
  unfold coV at h0
  go_simp
  rfl
theorem append_mv {w V : World} {ops : Array Oper} {rest : List Oper} {op : Oper} {a : Act} {Q : Exit → Act → World → Prop} (hgd : op.guard = none) (s x : Operand)
    (ho : op.op = .call { callee := .builtin .append, args := #[s, x], argTypes := #[22, 22] })
    (B : Nat) (v : Value) (L : List (Co × Value)) (c : Co) (pv : Value) (hw : w = V.alloc (.cells (coV c pv).toArray 41)) (hs : a.eval s = v) (hL : V.ownsRow B 41 19 v L.length (coX L)) (hp : pv.oneCell' = true) (cp : Nat) (hx : a.eval x = .slice (some ⟨V.heap.size, 0, none⟩) 1 cp) (hl : L.length ≤ 100000) (hB : B ≤ V.heap.size)
    (h : ∀ v' w', w'.ownsRow B 41 19 v' (L.length + 1) (coX (L ++ [(c, pv)])) → (∃ g2 cap, v' = .slice (some ⟨g2, 0, none⟩) (L.length + 1) cap) → Below B V w' → wpList Tryz.prog ops Q rest (a.put op.dst v') w') : wpList Tryz.prog ops Q (op :: rest) a w := by
  obtain ⟨i0, hi, hz0, hz1, hz2⟩ := info_parts infoCo
  have hA := (Below.refl V.heap.size V).alloc (Nat.le_refl _) (.cells (coV c pv).toArray 41)
  rw [← hw] at hA
  have hN : w.heap[V.heap.size]? = some (.cells (coV c pv).toArray 41 (0, 0)) := by rw [hw]; exact heap_alloc_new V _
  have hLw : w.ownsRow B 41 19 v L.length (coX L) := owns_keep hL (fun g hg => by
    obtain ⟨h1, h2, _⟩ := owns_blk hL hg
    exact hA.block g h2)
  have hBw := Nat.le_trans hB hA.size
  refine wpList_append_lies w hgd s x 22 ho B 41 i0 _ 19 216 Tryz.underlying22 hi hz0 hz1 hz2 rfl (by decide) v L.length (coX L) hs hLw ⟨V.heap.size, 0, none⟩ 1 cp (coV c pv) hx (by rw [coV_len]) (fun j u hu => ?_) (coV_mem c pv hp) (by decide) (by unfold maxLen; omega) (by omega) hBw w.heap.size rfl ?_
  · have hadd : (⟨V.heap.size, 0, none⟩ : Addr).add j = ⟨V.heap.size, j, none⟩ := by unfold Addr.add; split <;> simp_all
    rw [hadd]
    simp only [World.cell?, hN]
    simpa using hu
  · intro g2 cap w' h1 h2 h3 _
    refine h _ w' ?_ ⟨g2, cap, rfl⟩ ?_
    · rw [coX_app, coX_one]
      exact h1
    · refine ⟨h2.os.trans hA.os, h2.tape.trans hA.tape, h2.output.trans hA.output, Nat.le_trans hA.size h2.size, fun k hk => ?_⟩
      refine (h2.block k (Nat.lt_of_lt_of_le (Nat.lt_of_lt_of_le hk hB) hA.size) (fun e => ?_)).trans (hA.block k (Nat.lt_of_lt_of_le hk hB))
      exact absurd (owns_blk hLw e.symm).1 (by omega)
set_option maxRecDepth 100000 in
set_option maxHeartbeats 4000000 in
theorem moved_any (v : Value) (cs : List Co) (n : Nat) (w Wp : World) (hC : ∃ a cp, v = .slice a cs.length cp ∧ ∀ (k : Nat) (c : Co), cs[k]? = some c → ∃ g o pv, a = some ⟨g, o, none⟩ ∧ w.rangeAt g (o + k * 19) (coV c pv) ∧ PRow Wp pv c.ps) (hl : cs.length ≤ 10000) (hn : n ≤ 10000) (hp : ∀ c ∈ cs, c.pl ≤ 10000) : Calls Tryz.prog 13 #[v, .int .i64 (n : Nat)] w fun e w' => ∃ v' L, e = .returned v' ∧ L.map (·.1) = cs.map (mv n) ∧ w'.ownsRow w.heap.size 41 19 v' L.length (coX L) ∧ (∀ x ∈ L, PRow Wp x.2 x.1.ps) ∧ Below w.heap.size w w' := by
  obtain ⟨a, cp, rfl, hC⟩ := hC
  have HC := hideT hC
  have HP := hideT hp
  clear hC hp
  go_enter Tryz.func13, Tryz.ntmps13
  go_wp2_with fail
  go_loopw [5, 10] (fun r i wr => ∃ (k : Nat) (L : List (Co × Value)), k ≤ cs.length ∧ i = .int .i64 k ∧ L.length = k ∧ Hid (L.map (·.1) = (cs.take k).map (mv n)) ∧ Hid (wr.ownsRow w.heap.size 41 19 r L.length (coX L)) ∧ Hid (∀ x ∈ L, PRow Wp x.2 x.1.ps) ∧ Hid (Below w.heap.size w wr)) (fun _ i _ => cs.length - (intOf i).toNat)
  case atStart => exact ⟨0, [], by omega, rfl, rfl, hideT rfl, hideT (World.ownsRow_nil _ _ _ _), hideT (fun _ h => by cases h), hideT (Below.refl _ _)⟩
  case round =>
    obtain ⟨k, L, hk, rfl, hLk, HM, HO, HR, HW⟩ := hrel
    by_cases hlt : k < cs.length
    · obtain ⟨g, o, pv, rfl, a1, u1⟩ := HC.out k _ (List.getElem?_eq_getElem hlt)
      obtain ⟨pp, pn, hpv⟩ := u1.shape
      have hpl := HP.out _ (List.getElem_mem hlt)
      have HM2 := hideT (show (cs.take (k + 1)).map (mv n) = L.map (·.1) ++ [mv n (cs[k]'hlt)] by rw [List.take_succ_eq_append_getElem hlt, List.map_append, HM.out]; rfl)
      generalize (cs[k]'hlt) = c at *
      subst hpv
      have i1 : (k : Int) < (cs.length : Int) := by omega
      have i2 : (0 : Int) ≤ (k : Int) := by omega
      have q1 := range_keep a1 (HW.out.block g (range_lt a1))
      obtain ⟨xs, hxs⟩ : ∃ xs, xs = coV c (.slice pp c.ps.length pn) := ⟨_, rfl⟩
      have hlx : xs.length = 19 := by rw [hxs]; rfl
      rw [← hxs] at q1
      have HQ := hideT q1
      have IM := hideT (show (Tryz.prog.info? 41).map (·.size) = some xs.length by rw [hlx]; exact info_cmd)
      have hN4 := heap_alloc_new wr (.cells #[.int .i64 0, .int .i64 0, .int .i64 0, .string ⟨#[]⟩, .int .i64 0, .int .i64 0, .string ⟨#[]⟩, .bool false, .int .u8 0, .string ⟨#[]⟩, .string ⟨#[]⟩, .string ⟨#[]⟩, .string ⟨#[]⟩, .slice none 0 0, .int .i64 0, .bool false, .bool false, .string ⟨#[]⟩, .string ⟨#[]⟩] 41)
      have hA4 := (Below.refl wr.heap.size wr).alloc (Nat.le_refl _) (.cells #[.int .i64 0, .int .i64 0, .int .i64 0, .string ⟨#[]⟩, .int .i64 0, .int .i64 0, .string ⟨#[]⟩, .bool false, .int .u8 0, .string ⟨#[]⟩, .string ⟨#[]⟩, .string ⟨#[]⟩, .string ⟨#[]⟩, .slice none 0 0, .int .i64 0, .bool false, .bool false, .string ⟨#[]⟩, .string ⟨#[]⟩] 41)
      have O9 := hideT (show xs.toArray.all (·.oneCell') = true by rw [hxs]; exact coV_one _ _ rfl)
      have IN9 := hideT (show (Tryz.prog.info? 41).map (·.size) = some xs.toArray.size by rw [show xs.toArray.size = 19 from hlx]; exact info_cmd)
      have TH9 := hideT (show (wr.alloc (.cells #[.int .i64 0, .int .i64 0, .int .i64 0, .string ⟨#[]⟩, .int .i64 0, .int .i64 0, .string ⟨#[]⟩, .bool false, .int .u8 0, .string ⟨#[]⟩, .string ⟨#[]⟩, .string ⟨#[]⟩, .string ⟨#[]⟩, .slice none 0 0, .int .i64 0, .bool false, .bool false, .string ⟨#[]⟩, .string ⟨#[]⟩] 41)).there wr.heap.size 0 xs.toArray.size by rw [show xs.toArray.size = 19 from hlx]; exact there_block hN4 19 rfl)
      have hn4 := setCells_whole (cs := [.int .i64 0, .int .i64 0, .int .i64 0, .string ⟨#[]⟩, .int .i64 0, .int .i64 0, .string ⟨#[]⟩, .bool false, .int .u8 0, .string ⟨#[]⟩, .string ⟨#[]⟩, .string ⟨#[]⟩, .string ⟨#[]⟩, .slice none 0 0, .int .i64 0, .bool false, .bool false, .string ⟨#[]⟩, .string ⟨#[]⟩]) xs hN4 (by rw [hlx]; rfl)
      have hS4 := below_setCells wr.heap.size (Nat.le_refl _) xs _ 0 hA4
      have HN := hideT (And.intro hn4 hS4)
      clear hN4 hA4 hn4 hS4 a1 q1 hlx
      have HX := hideT hxs
      clear hxs
      have wn : IntKind.i64.wrap ((c.pl : Int) + (n : Int)) = (c.pl : Int) + (n : Int) := by rw [IntKind.wrap_i64]; omega
      go_upto_region 4 with fail
      go_cut [7] from 11 to 23 (fun s7 w' => s7 = .pointer (some ⟨wr.heap.size, 0, none⟩) ∧ Hid (w'.heap[wr.heap.size]? = some (.cells xs.toArray 41 (0, 0)) ∧ Below wr.heap.size wr w'))
      case first =>
        go_wp2_with (first | (refine wpList_load_mid rfl 41 _ rfl g (o + k * 19) rfl xs _ HQ.out und_cmd rfl IM.out ?_) | (refine wpList_store_mid rfl 41 _ _ rfl wr.heap.size 0 xs.toArray rfl rfl TH9.out IN9.out O9.out ?_))
        simp only [Act.put]
        go_meet
        case rel => exact ⟨rfl, HN⟩
      case rest =>
        obtain ⟨rfl, HV⟩ := hcut
        have e19 := HX.out
        have q0 : wc.cell? ⟨wr.heap.size, 0, none⟩ = some (.int .i64 (c.pl : Nat)) := CmAt.cell HV.out.1 0 (by rw [e19]; rfl)
        have z0 := CmAt.fz HV.out.1 0
        have hput := CmAt.put HV.out.1 0 (.int .i64 ((c.pl : Int) + (n : Int)))
        have hset : xs.set 0 (.int .i64 ((c.pl : Int) + (n : Int))) = coV (mv n c) (.slice pp c.ps.length pn) := by rw [e19, show ((c.pl : Int) + (n : Int)) = (((mv n c).pl : Nat) : Int) by show _ = (((n + c.pl : Nat)) : Int); omega]; rfl
        rw [hset] at hput
        have hBS : Below wr.heap.size wr (wc.setCell ⟨wr.heap.size, 0, none⟩ (.int .i64 ((c.pl : Int) + (n : Int)))) := HV.out.2.setCell (p := ⟨wr.heap.size, 0, none⟩) (Nat.le_refl _) _
        have HL := hideT (show (wc.setCell ⟨wr.heap.size, 0, none⟩ (.int .i64 ((c.pl : Int) + (n : Int)))).rangeAt wr.heap.size 0 (coV (mv n c) (.slice pp c.ps.length pn)) from range_block hput)
        have IM2 := hideT (show (Tryz.prog.info? 41).map (·.size) = some (coV (mv n c) (.slice pp c.ps.length pn)).length from info_cmd)
        have HOw := hideT (owns_keep HO.out (fun g hg => by
          obtain ⟨h1, h2, _⟩ := owns_blk HO.out hg
          exact hBS.block g h2))
        have HBS := hideT hBS
        have hsz := Nat.le_trans HW.out.size hBS.size
        clear hBS hput hset e19 HV HX HN TH9 IN9 O9 IM HQ HO
        go_wp2_with (first | (refine wpList_load_mid rfl 41 _ rfl wr.heap.size 0 rfl (coV (mv n c) (.slice pp c.ps.length pn)) _ HL.out und_cmd rfl IM2.out ?_) | (refine wl_value rfl (bld_one _ rfl (mv n c) pp c.ps.length pn rfl) ?_) | (at_builtin; refine append_mv rfl _ _ rfl w.heap.size _ L (mv n c) (.slice pp c.ps.length pn) rfl rfl HOw.out rfl _ rfl (by omega) hsz ?_; intro v' w' hL ⟨g2, cap, hv'⟩ hT; subst hv'; have L3 := hideT hL; have T3 := hideT hT; clear hL hT))
        refine ⟨⟨k + 1, L ++ [(mv n c, .slice pp c.ps.length pn)], by omega, by go_num, by rw [List.length_append, List.length_singleton, hLk], hideT ?_, hideT ?_, hideT ?_, hideT ?_⟩, by simp [intOf]; omega⟩
        · rw [List.map_append]; exact HM2.out.symm
        · rw [List.length_append, List.length_singleton, ← hLk]; exact L3.out
        · intro x hx
          rcases List.mem_append.1 hx with hx | hx
          · exact HR.out x hx
          · rw [List.mem_singleton.1 hx]; exact u1
        · exact (HW.out.trans (HBS.out.mono HW.out.size)).trans T3.out
    · obtain rfl : k = cs.length := by omega
      have i1 : ((cs.length : Int) < (cs.length : Int)) = False := by rw [eq_iff_iff, iff_false]; omega
      have HM2 := HM.out
      rw [List.take_length] at HM2
      have HM3 := hideT HM2
      clear HM2
      go_wp2
      go_ret
      exact ⟨_, L, rfl, HM3.out, HO.out, HR.out, HW.out⟩
end Go.Proofs.YtjfkhlmoppbbgaaGreatDoor

/- script: lists of commands that are put together; how many parts there are. -/
namespace Go.Proofs.YtjfkhlmoppbbgaaGreatDoor
open Go.RowKit
open scanP scrP tpl ytb

theorem flg_ps {l : List UInt8} : ∀ (n : Nat) {c d : Co} {i k : Nat}, flgR l n c i = .ok (d, k) → d.ps = c.ps
  | 0, c, d, i, k, h => by cases h; rfl
  | n + 1, c, d, i, k, h => by
    unfold flgR at h
    split at h
    · split at h
      · cases h
      · exact (flg_ps n h).trans rfl
    · split at h
      · split at h
        · cases h
        · exact (flg_ps n h).trans rfl
      · split at h
        · split at h
          · cases h
          · exact (flg_ps n h).trans rfl
        · split at h
          · unfold filC at h
            split at h
            · cases h
            · cases h; rfl
          · unfold endC at h
            split at h
            · cases h
            · cases h; rfl
theorem rst_ps {G : Gr} {l : List UInt8} {c d : Co} {i k : Nat} (hc : c.ps = []) (h : rstR G l c i = .ok (d, k)) : d.ps.length ≤ l.length := by
  have h0 : c.ps.length ≤ l.length := by rw [hc]; simp
  unfold rstR at h
  split at h
  · cases h; exact h0
  · split at h
    · unfold txtC at h
      split at h
      · cases h
      · cases h; exact h0
    · split at h
      · unfold labC at h
        split at h
        · cases h
        · cases h; exact h0
      · split at h
        · unfold filC at h
          split at h
          · cases h
          · cases h; exact h0
        · split at h
          · unfold sedR at h
            split at h
            · cases h
            · rename_i hd
              split at h
              · cases h
              · rename_i hp
                split at h
                · cases h
                · rename_i u m hu
                  split at h
                  · cases h
                  · split at h
                    · cases h
                    · split at h
                      · cases h
                      · split at h
                        · cases h
                        · rename_i hf
                          cases h
                          have e := flg_ps _ hf
                          have h1 := (pie_len hp (del_len hd).2.1).2
                          have h2 := (pie_len hu h1).1
                          have h3 := parse_len u
                          simp only at e ⊢
                          rw [e]
                          omega
          · split at h
            · split at h
              · cases h
              · rename_i ht
                unfold endC at h
                split at h
                · cases h
                · cases h
                  unfold tabR at ht
                  split at ht
                  · cases ht
                  · split at ht
                    · cases ht
                    · split at ht
                      · cases ht
                      · split at ht
                        · cases ht
                        · cases ht; exact h0
            · split at h
              · unfold endC at h
                split at h
                · cases h
                · cases h; exact h0
              · cases h
theorem all_ps {G : Gr} {l : List UInt8} : ∀ (n : Nat) {i : Nat} {acc cs : List Co}, (∀ c ∈ acc, c.ps.length ≤ l.length) → allR G l n i acc = .ok cs → ∀ c ∈ cs, c.ps.length ≤ l.length
  | 0, i, acc, cs, ha, h => by cases h; exact ha
  | n + 1, i, acc, cs, ha, h => by
    unfold allR at h
    split at h
    · cases h; exact ha
    · split at h
      · cases h
      · rename_i c m hc
        refine all_ps n (fun d hd => ?_) h
        rcases List.mem_append.1 hd with hd | hd
        · exact ha d hd
        · rw [List.mem_singleton.1 hd]
          unfold cmdR at hc
          split at hc
          · cases hc
          · split at hc
            · cases hc
            · exact rst_ps rfl hc
theorem scr_ps {G : Gr} {l : List UInt8} (h : (scrR G l).2.2.1 = 0) : ∀ c ∈ (scrR G l).1, c.ps.length ≤ l.length := by
  obtain ⟨_, cs, h1, e⟩ := scr_ok h
  rw [e]
  exact all_ps _ (fun c hc => by simp at hc) h1
theorem Fields.pl {l : List UInt8} {cs : List Co} (h : Fields l cs) : ∀ c ∈ cs, c.pl < l.length := fun c hc => (List.getElem?_eq_some_iff.1 (h.fo c hc).2).1
theorem Fields.geB {l : List UInt8} {cs : List Co} (h : Fields l cs) : ∀ (k : Nat) (c : Co), cs[k]? = some c → k ≤ c.pl
  | 0, c, _ => Nat.zero_le _
  | k + 1, c, hc => by
    have hk : k < cs.length := by have := (List.getElem?_eq_some_iff.1 hc).1; omega
    have h1 := h.geB k _ (List.getElem?_eq_getElem hk)
    have h2 := h.up k _ c (List.getElem?_eq_getElem hk) hc
    omega
theorem Fields.lenB {l : List UInt8} {cs : List Co} (h : Fields l cs) : cs.length ≤ l.length := by
  rcases Nat.eq_zero_or_pos cs.length with h0 | h0
  · omega
  · have hk : cs.length - 1 < cs.length := by omega
    have h1 := h.geB _ _ (List.getElem?_eq_getElem hk)
    have h2 := h.pl _ (List.getElem_mem hk)
    omega
/-- A list that reads as commands, from its block's head. -/
def RRow (W Wp : World) (v : Value) (cs : List Co) : Prop := ∃ L : List (Co × Value), L.map (·.1) = cs ∧ (∀ x ∈ L, PRow Wp x.2 x.1.ps) ∧ (v = .slice none 0 0 ∧ L = [] ∨ ∃ g cp, v = .slice (some ⟨g, 0, none⟩) L.length cp ∧ W.rangeAt g 0 (coX L))
theorem rrow_owns {W Wp : World} {B : Nat} {v : Value} {L : List (Co × Value)} (h : W.ownsRow B 41 19 v L.length (coX L)) (hp : ∀ x ∈ L, PRow Wp x.2 x.1.ps) : RRow W Wp v (L.map (·.1)) := by
  refine ⟨L, rfl, hp, ?_⟩
  rcases h.2 with ⟨rfl, h0⟩ | ⟨g, cap, cur, rfl, hg, hh, hrest⟩
  · exact .inl ⟨rfl, List.eq_nil_of_length_eq_zero h0⟩
  · refine .inr ⟨g, cap, rfl, fun j u hu => ?_⟩
    have h1 := h.cells (g := g) rfl j _ hu
    have hplain : ∀ k, (⟨g, 0, none⟩ : Addr).add k = ⟨g, 0 + k, none⟩ := fun k => by unfold Addr.add; split <;> simp_all
    rw [hplain] at h1
    exact h1
theorem RRow.stay {W W' Wp : World} {v : Value} {cs : List Co} (h : RRow W Wp v cs) (hb : Below W.heap.size W W') : RRow W' Wp v cs := by
  obtain ⟨L, h1, h2, h3⟩ := h
  refine ⟨L, h1, h2, ?_⟩
  rcases h3 with h3 | ⟨g, cp, h4, h5⟩
  · exact .inl h3
  · exact .inr ⟨g, cp, h4, fun j u hu => (hb.cell (p := ⟨g, 0 + j, none⟩) (tpl.cell_lt (h5 j u hu))).trans (h5 j u hu)⟩
theorem RRow.read {W Wp : World} {v : Value} {cs : List Co} (h : RRow W Wp v cs) : ∃ a cp, v = .slice a cs.length cp ∧ ∀ (k : Nat) (c : Co), cs[k]? = some c → ∃ g o pv, a = some ⟨g, o, none⟩ ∧ W.rangeAt g (o + k * 19) (coV c pv) ∧ PRow Wp pv c.ps := by
  obtain ⟨L, rfl, h2, h3⟩ := h
  rcases h3 with ⟨rfl, rfl⟩ | ⟨g, cp, rfl, h5⟩
  · exact ⟨none, 0, rfl, fun k c hc => by simp at hc⟩
  · refine ⟨some ⟨g, 0, none⟩, cp, by rw [List.length_map], fun k c hc => ?_⟩
    rw [List.getElem?_map] at hc
    cases hx : L[k]? with
    | none => rw [hx] at hc; cases hc
    | some x =>
      rw [hx] at hc
      cases hc
      refine ⟨g, 0, x.2, rfl, fun j u hu => ?_, h2 x (List.mem_of_getElem? hx)⟩
      have h1 := h5 (k * 19 + j) _ (coX_at L k x hx j u hu)
      rw [Nat.add_assoc]
      exact h1
theorem RRow.crow {W Wp : World} {v : Value} {cs : List Co} (h : RRow W Wp v cs) (hp : ∀ pv ps, PRow Wp pv ps → PRow W pv ps) : CRow W v cs := by
  obtain ⟨a, cp, h1, h2⟩ := h.read
  exact ⟨a, cp, h1, fun k c hc => (let ⟨g, o, pv, q1, q2, q3⟩ := h2 k c hc; ⟨g, o, pv, q1, q2, hp pv c.ps q3⟩)⟩
theorem coX_mem {L : List (Co × Value)} (h : ∀ x ∈ L, x.2.oneCell' = true) : ∀ u ∈ coX L, u.oneCell' = true := by
  induction L with
  | nil => intro u hu; cases hu
  | cons x r ih =>
    intro u hu
    rcases List.mem_append.1 hu with hu | hu
    · exact coV_mem x.1 x.2 (h x (by simp)) u hu
    · exact ih (fun y hy => h y (by simp [hy])) u hu
/-- append of a list that reads as commands onto one of one's own. -/
theorem app_rrow {w Wp : World} {ops : Array Oper} {rest : List Oper} {op : Oper} {a : Act} {Q : Exit → Act → World → Prop} (hgd : op.guard = none) (s x : Operand)
    (ho : op.op = .call { callee := .builtin .append, args := #[s, x], argTypes := #[22, 22] })
    (B : Nat) (v y : Value) (L : List (Co × Value)) (cs : List Co) (hs : a.eval s = v) (hL : w.ownsRow B 41 19 v L.length (coX L)) (hx : a.eval x = y) (hy : RRow w Wp y cs) (hl : L.length + cs.length ≤ 100000) (hB : B ≤ w.heap.size)
    (h : ∀ v' w' M, M.map (·.1) = cs → (∀ x ∈ M, PRow Wp x.2 x.1.ps) → w'.ownsRow B 41 19 v' (L ++ M).length (coX (L ++ M)) → Below B w w' → wpList Tryz.prog ops Q rest (a.put op.dst v') w') : wpList Tryz.prog ops Q (op :: rest) a w := by
  obtain ⟨i0, hi, hz0, hz1, hz2⟩ := info_parts infoCo
  obtain ⟨M, rfl, h2, h3⟩ := hy
  rcases h3 with ⟨rfl, rfl⟩ | ⟨g, cp, rfl, h5⟩
  · refine wpList_plain hgd fun K hK => ?_
    have hrun := run_append_owned_none (P := Tryz.prog) (w := w) B 22 op.type 41 i0 19 Tryz.underlying22 hi v L.length (coX L) hL
    unfold Oper.wp
    simp [execOp, ho, resolve, invoke, builtin, hs, hx, hrun, Result.andThen]
    exact hK _ _ (h v w [] rfl h2 (by rw [List.append_nil]; exact hL) (Below.refl _ _))
  · rw [List.length_map] at hl
    refine wpList_plain hgd fun K hK => ?_
    have hadd : ∀ j, (⟨g, 0, none⟩ : Addr).add j = ⟨g, 0 + j, none⟩ := fun j => by unfold Addr.add; split <;> simp_all
    obtain ⟨v', w', hrun, ho', hg', _⟩ := run_append_own (P := Tryz.prog) w B 22 op.type 41 i0 _ 19 216 Tryz.underlying22 hi hz0 hz1 hz2 rfl (by decide) v L.length (coX L) hL ⟨g, 0, none⟩ M.length cp (coX M) (coX_len M) (fun j u hu => by rw [hadd]; exact h5 j u hu) (coX_mem (fun x hx => by obtain ⟨p, c, e⟩ := (h2 x hx).shape; rw [e]; rfl)) (by unfold maxLen; omega) (by omega) hB
    unfold Oper.wp
    simp [execOp, ho, resolve, invoke, builtin, hs, hx, hrun, Result.andThen]
    refine hK _ _ (h v' w' M rfl h2 ?_ ?_)
    · rw [List.length_append, coX_app]; exact ho'
    · refine ⟨hg'.os, hg'.tape, hg'.output, hg'.size, fun k hk => hg'.block k (Nat.lt_of_lt_of_le hk hB) (fun e => ?_)⟩
      exact absurd (owns_blk hL e.symm).1 (by omega)
/-- Parse, its list from its block's head. -/
theorem parse_rows (s : ByteArray) (hs : s.size ≤ 140737488355000) (w : World) (hg : Gl w) : Calls Tryz.prog 9 #[.string s] w fun e w' => ∃ v, e = .returned (.tuple #[v, .bool (scrR gM s.data.toList).2.1, .agg #[.int .i64 ((scrR gM s.data.toList).2.2.1 : Nat), .int .i64 ((scrR gM s.data.toList).2.2.2 : Nat)]]) ∧ RRow w' w' v (scrR gM s.data.toList).1 ∧ Below w.heap.size w w' := by
  refine (parse_ok s hs w hg).mono ?_
  rintro e w' ⟨v, L, rfl, hL, hm, hb⟩
  exact ⟨v, rfl, hm ▸ rrow_owns hL.own (fun x hx => PRow.of_owns (hL.pa x hx)), hb⟩
end Go.Proofs.YtjfkhlmoppbbgaaGreatDoor

/- script: what the listed variables give a walk; a world that has them. -/
namespace Go.Proofs.YtjfkhlmoppbbgaaGreatDoor
open Go.ChangeShapes Go.WideShapes Go.RowKit

def laidS : List (String × DataW Unit) := [("math/bits.deBruijn64tab", Rows.laid_math_bits_deBruijn64tab), ("unicode/utf8.acceptRanges", Rows.laid_unicode_utf8_acceptRanges), ("errors.errorType", Rows.laid_errors_errorType), ("unicode/utf8.first", Rows.laid_unicode_utf8_first)]
def plainS : List (String × DataW Unit) := [("math/bits.deBruijn64tab", Rows.laid_math_bits_deBruijn64tab), ("unicode/utf8.acceptRanges", Rows.laid_unicode_utf8_acceptRanges), ("unicode/utf8.first", Rows.laid_unicode_utf8_first)]
theorem et : Tryz.prog.globalNamed "errors.errorType" = some 0 := by kernel_rfl
theorem rt : (Tryz.prog.cutTypes.find? (·.1 == "internal/reflectlite.rtype")).map (·.2) = some 90 := by kernel_rfl
theorem tysize : Tryz.prog.types.size = 432 := by kernel_rfl
theorem oneRow : ((List.range 432).filter fun t => Tryz.prog.rowNamed t [101, 114, 114, 111, 114]) = [51] := by kernel_rfl
theorem laidS_some : (laidS.filter fun x => x.2.handleName?.isSome) = [("errors.errorType", Rows.laid_errors_errorType)] := by kernel_rfl
theorem laidS_none : (laidS.filter fun x => x.2.handleName?.isNone) = plainS := by kernel_rfl
theorem gl_of {W : World} (h : laidMetH Tryz.prog laidS W) (hm : ∃ m : Int, W.cell? ⟨1, 0, none⟩ = some (.int .i64 m)) : Gl W := by
  refine ⟨hm, ?_⟩
  unfold laidMetH at h
  rw [laidS_some] at h
  obtain ⟨name, u, ty, e1, e2, e3, e4, e5⟩ := h.2 _ (List.mem_singleton.2 rfl)
  have en : name = [101, 114, 114, 111, 114] := (Option.some.inj e1).symm
  subst en
  obtain rfl := Option.some.inj (rt.symm.trans e2)
  have hx : ty ∈ (List.range 432).filter fun t => Tryz.prog.rowNamed t [101, 114, 114, 111, 114] := List.mem_filter.2 ⟨List.mem_range.2 (by rw [← tysize]; exact e3), e4⟩
  rw [oneRow] at hx
  obtain rfl := List.mem_singleton.1 hx
  have hh : typeHandle Tryz.prog 51 = .pointer (some ⟨5, 51, none⟩) := by kernel_rfl
  rw [hh] at e5
  simpa using World.var?_cell et e5 0
noncomputable def startW (os : Os) : World :=
  let w0 := World.holding Tryz.prog os ⟨#[], #[], []⟩
  { w0 with heap := w0.heap.modify 0 fun
      | .cells _ t frozen => .cells #[.iface 90 (.agg #[.pointer (some ⟨5, 51, none⟩)])] t frozen
      | o => o }
noncomputable def laidWorld (os : Os) : World := (startW os).layVars Tryz.prog plainS
theorem laidWorld_os (os : Os) : (laidWorld os).os = os := World.layVars_os _ _ _
theorem laidWorld_met (os : Os) (args : Array Value) : laidMetH Tryz.prog laidS ((laidWorld os).forCall (fun _ _ => 0) ⟨#[], args, []⟩).memory := by
  refine laidMetH_of_parts ?_ (by kernel_rfl)
  rw [laidS_none]
  have e1 : (plainS.filter fun x => (plainS.map (·.1)).contains x.1) = plainS := List.filter_eq_self.2 fun x hx => List.contains_iff_mem.2 (List.mem_map.2 ⟨x, hx, rfl⟩)
  have e2 : (plainS.filter fun x => !(plainS.map (·.1)).contains x.1) = [] := List.filter_eq_nil_iff.2 fun x hx => by rw [List.contains_iff_mem.2 (List.mem_map.2 ⟨x, hx, rfl⟩)]; simp
  have h : laidMet Tryz.prog plainS (laidWorld os) := laidMet_layVars (w0 := startW os) (plainS.map (·.1)) [] (by rw [e1]; rfl) (by rw [e1]; kernel_rfl) (by rw [e1]; kernel_rfl) (by rw [e2]; exact LaidIn.none)
  exact h.of_heap (by simp [World.memory, World.forCall, Input.heap])
end Go.Proofs.YtjfkhlmoppbbgaaGreatDoor
