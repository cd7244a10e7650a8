/- KTb -/
import Derived.Test.YtbekghinikjjeaaGreatDoorKTa
import Derived.Test.YtbekghinikjjeaaGreatDoorKFa
set_option maxRecDepth 100000
set_option maxHeartbeats 4000000
namespace Go.Proofs.YtbekghinikjjeaaGreatDoor.smt
open Go.RowKit Go.Proofs.YtbekghinikjjeaaGreatDoor.br
theorem wpList_app {w : World} {ops : Array Oper} {rest : List Oper} {o : Oper} {a : Act} {Q : Exit → Act → World → Prop} (hgd : o.guard = none) (s x : Operand) (t : TypeId) (ho : o.op = .call { callee := .builtin .append, args := #[s, x], argTypes := #[t, t] })
  (base : Nat) (e : TypeId) (i : TypeInfo) (z : Value) (size bytes : Nat) (ht : Tryz.prog.underlying t = some (.slice e)) (hi : Tryz.prog.info? e = some i) (hz : i.zero = some z) (hsize : i.size = size) (hby : i.bytes = bytes) (hzs : z.cells.size = size) (hsz : 0 < size)
  (v : Value) (n : Nat) (xs : List Value) (hs : a.eval s = v) (hown : w.ownsRow base e size v n xs) (xv : Value) (m : Nat) (ys : List Value) (hx : a.eval x = xv) (hxo : w.ownsRow 0 e size xv m ys) (h1 : ∀ u ∈ ys, u.oneCell' = true)
  (h63 : n + m ≤ 2000000) (hb : bytes ≤ 1000000) (hbase : base ≤ w.heap.size)
  (h : ∀ v' w', w'.ownsRow base e size v' (n + m) (xs ++ ys) → w.grownBy w' v.ownBlock → (v'.ownBlock = v.ownBlock ∨ v'.ownBlock = some w.heap.size) → wpList Tryz.prog ops Q rest (a.put o.dst v') w') : wpList Tryz.prog ops Q (o :: rest) a w :=
 wpList_plain hgd fun _ hK => wp_app s x t ho base e i z size bytes ht hi hz hsize hby hzs hsz v n xs hs hown xv m ys hx hxo h1 h63 hb hbase fun v' w' a1 a2 a3 => hK _ _ (h v' w' a1 a2 a3)
theorem tk_one : ∀ (qs : List (Nat → Bool)), ∀ u ∈ tkV qs, u.oneCell' = true
 | [], _, h => nomatch h
 | q :: qs, u, h => by
  simp only [tkV, List.mem_append, List.mem_cons, List.not_mem_nil, or_false] at h
  rcases h with (rfl | rfl | rfl | rfl) | h
  · rfl
  · rfl
  · rfl
  · rfl
  · exact tk_one qs u h
def nxF (a : Ac) (kid : Pt) (i : Nat) : List Nat := a.next ++ (kid.next.take i).map fun s => up s a.takes.length
theorem nxF_step {a : Ac} {kid : Pt} {i y : Nat} (h : kid.next[i]? = some y) : nxF a kid (i + 1) = nxF a kid i ++ [up y a.takes.length] := by
 obtain ⟨hi, rfl⟩ := List.getElem?_eq_some_iff.1 h
 rw [nxF, nxF, List.take_succ_eq_append_getElem hi, List.map_append, List.append_assoc]; rfl
theorem add_part {W : World} {B b : Nat} {S : Nat → Prop} {g : Nat} {ag : Bool} {a : Ac} {vl vt vn : Value} {cs : List Nat} (h : AcV W B b S g ag a vl vt vn cs) {c : Nat} {kid : Pt} (hk : PtAt W S c kid) (hok : OkP kid) (free : Bool) (hT : a.takes.length + kid.takes.length ≤ 256) (hL : a.links.length < 1000000) (hN : a.next.length = a.takes.length) :
 Calls Tryz.prog 64 #[.pointer (some ⟨b, 0, none⟩), .pointer (some ⟨c, 0, none⟩), .bool free] W fun e W' => (∃ v, e = .returned v) ∧ ∃ vl' vt' vn' cs', AcV W' B b S g ag (a.add kid free) vl' vt' vn' cs' ∧ AcF B S W W' := by
 obtain ⟨i0, hi0, hz0, hz1, hz2⟩ := info_parts info_lk
 obtain ⟨i1, hi1, hy0, hy1, hy2⟩ := info_parts info_se
 obtain ⟨i2, hi2, hx0, hx1, hx2⟩ := info_parts info_po2
 obtain ⟨al, cl, rfl⟩ := owns_shape h.ol
 obtain ⟨at_, ct, rfl⟩ := owns_shape h.ot
 obtain ⟨an, cn, rfl⟩ := owns_shape h.on
 obtain ⟨c1, c2, c3, c41, c42, cf⟩ := h.cells
 have hBW : B ≤ W.heap.size := Nat.le_trans h.hb (Nat.le_of_lt h.lt)
 have HK := hideT hk
 obtain ⟨c, kid, kl, kt, kn, kcs, kS, kblk, khl, kol, kot, kon, -, kst, ksn, -⟩ := hk
 obtain ⟨at2, ct2, rfl⟩ := owns_shape kot
 obtain ⟨an2, cn2, rfl⟩ := owns_shape kon
 have kc : ∀ V : World, AcF B S W V → V.cell? ⟨c, 1, none⟩ = some (.bool kid.deep) ∧ V.cell? ⟨c, 41, none⟩ = some (.slice at2 kid.takes.length ct2) ∧ V.cell? ⟨c, 42, none⟩ = some (.slice an2 kid.next.length cn2) := fun V hV => by
  have e := (hV.s c kS).trans kblk
  refine ⟨?_, ?_, ?_⟩
  · simp only [World.cell?, e]; rfl
  · simp only [World.cell?, e]; rfl
  · simp only [World.cell?, e]; rfl
 have kon' : ∀ V : World, AcF B S W V → V.ownsRow 0 157 4 (.slice an2 kid.next.length cn2) kid.next.length (nxV kid.next) := fun V hV => owns_keep kon fun k hk => hV.s k (ksn k hk)
 have kot' : ∀ V : World, AcF B S W V → V.ownsRow 0 95 4 (.slice at2 kid.takes.length ct2) kid.takes.length (tkV kid.takes) := fun V hV => owns_keep kot fun k hk => hV.s k (kst k hk)
 have HKK := hideT (And.intro kc (And.intro kon' (And.intro kot' kS)))
 have hBA := (Below.refl W.heap.size W).alloc (Nat.le_refl _) (.cells #[.pointer (some ⟨c, 0, none⟩), .int .i64 (a.takes.length : Nat), .bool free] 177)
 have HA := hideT (And.intro (h.keep hBA) (AcF.of hBA hBW (fun k hk => (h.nS k hk).1)))
 have HNW := hideT (World.ownsRow_lit (e := 177) (base := 0) (size := 3) W #[.pointer (some ⟨c, 0, none⟩), .int .i64 (a.takes.length : Nat), .bool free] 1 (Nat.zero_le _) (by decide) rfl)
 have HB := hideT (And.intro hBA.size hBW)
 clear h kblk khl kol kot kon kst ksn kcs kc kon' kot' hBA hBW kS
 go_enter Tryz.func64, Tryz.ntmps64
 go_upto_region 1 with fail
 go_cut [] from 14 to 26 (fun wx => Hid (∃ vl', AcV wx B b S g ag ⟨a.deep, a.links ++ [(kid, a.takes.length, free)], a.takes, a.next⟩ vl' (.slice at_ a.takes.length ct) (.slice an a.next.length cn) (cs ++ [c]) ∧ AcF B S W wx))
 case first =>
  go_wp2_with (at_builtin; refine wpList_app (by rfl) _ _ _ (by rfl) B 177 i0 _ 3 24 Tryz.underlying156 hi0 hz0 hz1 hz2 rfl (by decide) _ _ _ (by rfl) HA.out.1.ol _ 1 _ (by rfl) HNW.out (by simp [Value.oneCell']) (by omega) (by omega) (by have := HB.out; omega) ?_; intro v1 W1 g1 g2 g3; obtain ⟨a1, d1, rfl⟩ := owns_shape g1; have hco := HA.out.1.core g2 (.inr (.inl rfl)) 2 (.slice a1 (a.links.length + 1) d1); have hcb := hco.2.2.1.trans HA.out.1.blk; have q1 : W1.cell? ⟨b, 2, none⟩ = some (.slice al a.links.length cl) := (by simp only [World.cell?, hcb]; rfl); have q2 : W1.frozen? ⟨b, 2, none⟩ = false := (by simp [World.frozen?, hcb]); have HLK := hideT (HA.out.1.link g2 (l := (kid, a.takes.length, free)) (HK.out.keep HA.out.2.s (fun _ h => h)) g1 g3); clear hco hcb g1 g2 g3)
  go_meet
  exact hideT ⟨_, HLK.out.1, HA.out.2.trans HLK.out.2⟩
 case rest =>
 obtain ⟨vl1, hA1, hF1⟩ := hcut.out
 clear hcut HA HNW c1 c2 c3 c41 c42 cf HB
 have hk1 := (HKK.out.1 wc hF1).1
 have hc1 := hA1.cells.1
 have hcf := hA1.cells.2.2.2.2.2
 have HA1 := hideT (And.intro hA1 hF1)
 clear hA1 hF1
 go_upto_region 2 with fail
 rename_i K2 hK2
 go_cut [] from 27 to 39 (fun wx => Hid (AcV wx B b S g ag ⟨a.deep || kid.deep, a.links ++ [(kid, a.takes.length, free)], a.takes, a.next⟩ vl1 (.slice at_ a.takes.length ct) (.slice an a.next.length cn) (cs ++ [c]) ∧ AcF B S W wx))
 case first =>
  have HD := hideT (fun d => HA1.out.1.dp d)
  have hF1 := hideT HA1.out.2
  clear HA1
  generalize a.deep = bd at *
  generalize kid.deep = kd at *
  cases bd with
  | true =>
   go_wp2_with fail
   go_meet
   exact hideT ⟨(HD.out true).1, hF1.out.trans (HD.out true).2⟩
  | false =>
   go_wp2_with fail
   go_meet
   exact hideT ⟨(HD.out kd).1, hF1.out.trans (HD.out kd).2⟩
 case rest =>
 refine hK2 _ _ ?_
 obtain ⟨hA2, hF2⟩ := hcut.out
 clear hcut HA1 hk1 hc1 hcf
 have hk2 := (HKK.out.1 wc hF2).2.1
 have hc2 := hA2.cells.2.2.2.1
 have hcf2 := hA2.cells.2.2.2.2.2
 have HA2 := hideT (And.intro hA2 hF2)
 have hBV : B ≤ wc.heap.size := Nat.le_trans hA2.hb (Nat.le_of_lt hA2.lt)
 have HBV := hideT hBV
 clear hA2 hF2 hBV
 go_upto_region 3 with fail
 rename_i K3 hK3
 go_cut [] from 40 to 51 (fun wx => Hid (∃ vt', AcV wx B b S g ag ⟨a.deep || kid.deep, a.links ++ [(kid, a.takes.length, free)], a.takes ++ kid.takes, a.next⟩ vl1 vt' (.slice an a.next.length cn) (cs ++ [c]) ∧ AcF B S W wx))
 case first =>
  rename_i J hJ
  have hS0 : (fun V : World => AcF B S W V) wc.drew := ⟨HA2.out.2.os, HA2.out.2.tape, HA2.out.2.output, HA2.out.2.size, HA2.out.2.low, HA2.out.2.s⟩
  have hld : wc.drew.cell? ⟨b, 41, none⟩ = some (.slice at_ a.takes.length ct) := hc2
  refine wp_region_held (S := fun V : World => AcF B S W V) (by kernel_rfl) ?_
  refine tq 0 40 hS0 ?_
  refine tq 1 41 hS0 ?_
  refine tq 2 42 hS0 ?_
  refine tq 3 43 hS0 ?_
  refine tq 5 45 hS0 ?_
  refine tq 6 46 hS0 ?_
  refine tq 7 47 hS0 ?_
  refine' take_d 8 (some 48) rfl rfl (by kernel_rfl) (by kernel_rfl) (by kernel_rfl) (fun _ _ _ h => h) (wanted_none rfl _) hS0 ?hy1 ?rest1
  case hy1 => intro V hV; have hk9 := (HKK.out.1 V hV).2.1; clear hV; go_simp; (try with_reducible rfl)
  simp only [Act.put, List.setIfInBounds_toArray, List.set_cons_zero, List.set_cons_succ]
  refine wpAnyH_all (rs := [4]) (by kernel_rfl) (by simp) (fun i hi => ?_)
  obtain rfl : i = 4 := List.mem_singleton.1 hi
  refine op_value (some 44) rfl rfl (by rfl) (v := .slice at_ a.takes.length ct) (w' := wc.drew) (by go_simp; (try with_reducible rfl)) ⟨hS0, ?_⟩
  simp only [Act.put, List.setIfInBounds_toArray, List.set_cons_zero, List.set_cons_succ]
  refine wpAnyH_all (rs := [9]) (by kernel_rfl) (by simp) (fun i hi => ?_)
  obtain rfl : i = 9 := List.mem_singleton.1 hi
  have hAd : AcV wc.drew B b S g ag ⟨a.deep || kid.deep, a.links ++ [(kid, a.takes.length, free)], a.takes, a.next⟩ vl1 (.slice at_ a.takes.length ct) (.slice an a.next.length cn) (cs ++ [c]) := HA2.out.1.keep ((Below.refl _ _).drew)
  refine op_of rfl (wanted_none rfl _) (wp_app _ _ _ rfl B 95 i1 _ 4 32 Tryz.underlying162 hi1 hy0 hy1 hy2 rfl (by decide) _ a.takes.length (tkV a.takes) rfl hAd.ot _ kid.takes.length (tkV kid.takes) rfl (HKK.out.2.2.1 _ hS0) (tk_one _) (by omega) (by omega) HBV.out ?_)
  intro v3 W3 g1 g2 g3
  obtain ⟨a3, d3, rfl⟩ := owns_shape g1
  have hco := hAd.core g2 (.inr (.inr (.inl rfl))) 41 (.slice a3 (a.takes.length + kid.takes.length) d3)
  have hTK := hAd.tks g2 g1 g3
  have hS3 : AcF B S W W3 := hS0.trans ((hAd.core g2 (.inr (.inr (.inl rfl))) 41 (.slice a3 (a.takes.length + kid.takes.length) d3)).2.1.unset HA2.out.1.hb (fun hs => (hAd.nS b hs).2.1 rfl))
  refine ⟨hS3, ?_⟩
  have q1 : W3.cell? ⟨b, 41, none⟩ = some (.slice at_ a.takes.length ct) := by simp only [World.cell?, hco.2.2.1.trans hAd.blk]; rfl
  have q2 : W3.frozen? ⟨b, 41, none⟩ = false := by simp [World.frozen?, hco.2.2.1.trans hAd.blk]
  simp only [Act.put, List.setIfInBounds_toArray]
  refine tq 10 50 hS3 ?_
  refine tq 11 51 hS3 ?_
  simp only [Act.put]
  refine wpAnyH_all (rs := [12]) (by kernel_rfl) (by simp) (fun i hi => ?_)
  obtain rfl : i = 12 := List.mem_singleton.1 hi
  have HTK := hideT hTK
  clear hTK hco g1 g2 g3 hS3
  refine op_skip rfl rfl (by rfl) (w' := W3.setCell ⟨b, 41, none⟩ (.slice a3 (a.takes.length + kid.takes.length) d3)) (by go_simp; (try with_reducible rfl)) ⟨hS0.trans HTK.out.2, ?_⟩
  refine wpAnyH_done (by kernel_rfl) (hJ _ _ ?_) _
  simp only [Act.put]
  go_meet
  exact hideT ⟨_, HTK.out.1, hS0.trans HTK.out.2⟩
 case rest =>
 obtain ⟨vt3, hA3, hF3⟩ := hcut.out
 clear hcut HA2 hk2 hc2 hcf2 HBV
 refine hK3 _ _ ?_
 have hk3 := (HKK.out.1 wc hF3).2.2
 have HA3 := hideT (And.intro hA3 hF3)
 clear hA3 hF3
 go_wp2_with fail
 go_loopg [57] kid.next.length (fun fu v57 wr => ∃ i : Nat, v57 = .int .i64 (i : Nat) ∧ i + fu = kid.next.length ∧ Hid (∃ vn', AcV wr B b S g ag ⟨a.deep || kid.deep, a.links ++ [(kid, a.takes.length, free)], a.takes ++ kid.takes, nxF a kid i⟩ vl1 vt3 vn' (cs ++ [c]) ∧ AcF B S W wr))
 case atStart => exact ⟨0, rfl, by omega, hideT ⟨_, by rw [nxF, List.take_zero, List.map_nil, List.append_nil]; exact HA3.out.1, HA3.out.2⟩⟩
 case round =>
  obtain ⟨i, rfl, hif, HI⟩ := hrel
  clear HA3 hk3
  cases gk with
  | zero =>
   obtain rfl : i = kid.next.length := by omega
   have HE := hideT (show ∃ vn', AcV wr B b S g ag (a.add kid free) vl1 vt3 vn' (cs ++ [c]) ∧ AcF B S W wr from by
    obtain ⟨vn', h1, h2⟩ := HI.out
    rw [nxF, List.take_length] at h1
    exact ⟨vn', h1, h2⟩)
   clear HI hif
   go_wp2
   go_end0
   obtain ⟨vn', h1, h2⟩ := HE.out
   exact ⟨⟨_, rfl⟩, _, _, _, _, h1, h2⟩
  | succ fu =>
   have hil : i < kid.next.length := by omega
   have hi256 : i < 1000 := by have := hok.nl; omega
   obtain ⟨vn', hA, hF⟩ := HI.out
   obtain ⟨an4, cn4, rfl⟩ := owns_shape hA.on
   obtain ⟨y, hy⟩ : ∃ y, kid.next[i]? = some y := ⟨_, List.getElem?_eq_getElem hil⟩
   obtain ⟨g5, cap5, he5, hg5, y0, y1, y2, y3⟩ := row_next (HKK.out.2.1 wr hF) hy
   cases he5
   have i1 : (i : Int) < (kid.next.length : Int) := by omega
   have i1' : (0 : Int) ≤ (i : Int) := by omega
   have HG := hideT hg5
   have hbX := (Below.refl wr.heap.size wr).alloc (Nat.le_refl _) (.cells #[.int .u64 (wd (Nat.testBit y) 0 : Nat), .int .u64 (wd (Nat.testBit y) 1 : Nat), .int .u64 (wd (Nat.testBit y) 2 : Nat), .int .u64 (wd (Nat.testBit y) 3 : Nat)] 157)
   have hX := Ps4.new wr y
   have hBr : B ≤ wr.heap.size := Nat.le_trans hA.hb (Nat.le_of_lt hA.lt)
   have HX := hideT (And.intro (hA.keep hbX) (And.intro (hF.trans (AcF.of hbX hBr (fun k hk => (hA.nS k hk).1))) (And.intro hX (Nat.le_trans hBr hbX.size))))
   have HN8 := hideT (And.intro hA.lt (show ∀ k, (Value.slice an4 (nxF a kid i).length cn4).ownBlock = some k → k < wr.heap.size from fun k hk => (owns_blk hA.on hk).2.1))
   clear HI hA hF hg5 hbX hX hBr
   go_upto_region 7 with fail
   rename_i KB hKB
   generalize wr.alloc (.cells #[.int .u64 (wd (Nat.testBit y) 0 : Nat), .int .u64 (wd (Nat.testBit y) 1 : Nat), .int .u64 (wd (Nat.testBit y) 2 : Nat), .int .u64 (wd (Nat.testBit y) 3 : Nat)] 157) = X at *
   have HNL := hideT (And.intro (show (nxF a kid i).length ≤ 1000 by rw [nxF, List.length_append, List.length_map, List.length_take]; have := hok.nl; omega) (show a.takes.length ≤ 256 by omega))
   have HY := hideT hy
   have c42 : X.cell? ⟨b, 42, none⟩ = some (.slice an4 (nxF a kid i).length cn4) := HX.out.1.cells.2.2.2.2.1
   have hSof : ∀ V : World, Ps4 V wr.heap.size y → (fun V : World => V.cell? ⟨wr.heap.size, 0, none⟩ = some (.int .u64 (wd (Nat.testBit y) 0 : Nat)) ∧ V.cell? ⟨wr.heap.size, 1, none⟩ = some (.int .u64 (wd (Nat.testBit y) 1 : Nat)) ∧ V.cell? ⟨wr.heap.size, 2, none⟩ = some (.int .u64 (wd (Nat.testBit y) 2 : Nat)) ∧ V.cell? ⟨wr.heap.size, 3, none⟩ = some (.int .u64 (wd (Nat.testBit y) 3 : Nat))) V := fun V h => h.cells.1
   clear y0 y1 y2 y3
   have hS0 := hSof X.drew HX.out.2.2.1
   have c42d : X.drew.cell? ⟨b, 42, none⟩ = some (.slice an4 (nxF a kid i).length cn4) := c42
   refine wp_region_held (S := fun V : World => V.cell? ⟨wr.heap.size, 0, none⟩ = some (.int .u64 (wd (Nat.testBit y) 0 : Nat)) ∧ V.cell? ⟨wr.heap.size, 1, none⟩ = some (.int .u64 (wd (Nat.testBit y) 1 : Nat)) ∧ V.cell? ⟨wr.heap.size, 2, none⟩ = some (.int .u64 (wd (Nat.testBit y) 2 : Nat)) ∧ V.cell? ⟨wr.heap.size, 3, none⟩ = some (.int .u64 (wd (Nat.testBit y) 3 : Nat))) (by kernel_rfl) ?_
   refine tq 0 61 hS0 ?_
   refine tq 1 62 hS0 ?_
   refine tq 2 63 hS0 ?_
   refine tq 3 64 hS0 ?_
   refine tq 5 66 hS0 ?_
   refine tq 6 67 hS0 ?_
   simp only [Act.put, List.setIfInBounds_toArray, List.set_cons_zero, List.set_cons_succ]
   refine wpAnyH_all (rs := [4, 7]) (by kernel_rfl) (by simp) (fun i hi => ?_)
   have hc1 : i = 4 ∨ i = 7 := by simpa using hi
   rcases hc1 with rfl | rfl
   · refine op_value (some 65) rfl rfl (by rfl) (v := .slice an4 (nxF a kid i).length cn4) (w' := X.drew) (by go_simp; (try with_reducible rfl)) ⟨hS0, ?_⟩
     simp only [Act.put, List.setIfInBounds_toArray, List.set_cons_zero, List.set_cons_succ]
     refine wpAnyH_all (rs := [7]) (by kernel_rfl) (by simp) (fun i hi => ?_)
     obtain rfl : i = 7 := List.mem_singleton.1 hi
     refine op_call (R := fun v w1 => v = .agg #[.int .u64 (wd (Nat.testBit (up y a.takes.length)) 0 : Nat), .int .u64 (wd (Nat.testBit (up y a.takes.length)) 1 : Nat), .int .u64 (wd (Nat.testBit (up y a.takes.length)) 2 : Nat), .int .u64 (wd (Nat.testBit (up y a.takes.length)) 3 : Nat)] ∧ Below X.heap.size X w1) (f := 89) (some 68) rfl rfl (by rfl) (by go_simp; (try with_reducible rfl)) ((up_any y a.takes.length (by have := HNL.out.2; omega) _).mono ?_) ?_
     · rintro e w6 ⟨rfl, h6⟩
       exact ⟨_, rfl, rfl, ((Below.refl X.heap.size X).drew).trans h6⟩
     rintro v w6 ⟨rfl, b6⟩
     have hA6 := HX.out.1.keep b6
     have hF6 := HX.out.2.1.trans (AcF.of b6 HX.out.2.2.2 (fun k hk => (HX.out.1.nS k hk).1))
     have p6 := HX.out.2.2.1.below b6 HX.out.2.2.1.lt
     have c6 : w6.cell? ⟨b, 42, none⟩ = some (.slice an4 (nxF a kid i).length cn4) := hA6.cells.2.2.2.2.1
     refine ⟨hSof _ p6, ?_⟩
     simp only [Act.put, List.setIfInBounds_toArray, List.set_cons_zero, List.set_cons_succ]
     refine wpAnyH_all (rs := [8]) (by kernel_rfl) (by simp) (fun i hi => ?_)
     obtain rfl : i = 8 := List.mem_singleton.1 hi
     have hbU := (Below.refl w6.heap.size w6).alloc (Nat.le_refl _) (.cells #[.int .u64 (wd (Nat.testBit ((up y a.takes.length))) 0 : Nat), .int .u64 (wd (Nat.testBit ((up y a.takes.length))) 1 : Nat), .int .u64 (wd (Nat.testBit ((up y a.takes.length))) 2 : Nat), .int .u64 (wd (Nat.testBit ((up y a.takes.length))) 3 : Nat)] 157)
     have hAU := hA6.keep hbU
     have hFU := hF6.trans (AcF.of hbU (Nat.le_trans hA6.hb (Nat.le_of_lt hA6.lt)) (fun k hk => (hA6.nS k hk).1))
     have hLU := World.ownsRow_lit (e := 157) (base := 0) (size := 4) w6 #[.int .u64 (wd (Nat.testBit ((up y a.takes.length))) 0 : Nat), .int .u64 (wd (Nat.testBit ((up y a.takes.length))) 1 : Nat), .int .u64 (wd (Nat.testBit ((up y a.takes.length))) 2 : Nat), .int .u64 (wd (Nat.testBit ((up y a.takes.length))) 3 : Nat)] 1 (Nat.zero_le _) (by decide) rfl
     have pU := p6.below hbU p6.lt
     have HU := hideT (And.intro hAU (And.intro hFU (And.intro hLU pU)))
     clear hAU hFU hLU pU hbU hA6 hF6 p6 c6
     refine op_value (some 69) rfl rfl (by rfl) (v := .slice (some ⟨w6.heap.size, 0, none⟩) 1 1) (w' := w6.alloc (.cells #[.int .u64 (wd (Nat.testBit ((up y a.takes.length))) 0 : Nat), .int .u64 (wd (Nat.testBit ((up y a.takes.length))) 1 : Nat), .int .u64 (wd (Nat.testBit ((up y a.takes.length))) 2 : Nat), .int .u64 (wd (Nat.testBit ((up y a.takes.length))) 3 : Nat)] 157)) (by go_simp; (try with_reducible rfl)) ⟨hSof _ HU.out.2.2.2, ?_⟩
     generalize w6.alloc (.cells #[.int .u64 (wd (Nat.testBit ((up y a.takes.length))) 0 : Nat), .int .u64 (wd (Nat.testBit ((up y a.takes.length))) 1 : Nat), .int .u64 (wd (Nat.testBit ((up y a.takes.length))) 2 : Nat), .int .u64 (wd (Nat.testBit ((up y a.takes.length))) 3 : Nat)] 157) = U at *
     simp only [Act.put, List.setIfInBounds_toArray, List.set_cons_zero, List.set_cons_succ]
     refine wpAnyH_all (rs := [9]) (by kernel_rfl) (by simp) (fun i hi => ?_)
     obtain rfl : i = 9 := List.mem_singleton.1 hi
     refine op_of rfl (wanted_none rfl _) (wp_app _ _ _ rfl B 157 i2 _ 4 32 Tryz.underlying130 hi2 hx0 hx1 hx2 rfl (by decide) _ (nxF a kid i).length (nxV (nxF a kid i)) rfl HU.out.1.on _ 1 _ rfl HU.out.2.2.1 (by simp [Value.oneCell']) (by have := HNL.out.1; omega) (by omega) (Nat.le_trans HU.out.1.hb (Nat.le_of_lt HU.out.1.lt)) ?_)
     intro v5 W5 g1 g2 g3
     obtain ⟨a5, d5, rfl⟩ := owns_shape g1
     have hco := HU.out.1.core g2 (.inr (.inr (.inr rfl))) 42 (.slice a5 ((nxF a kid i).length + 1) d5)
     have hNX := HU.out.1.nxs (ns := [up y a.takes.length]) g2 g1 g3
     have p5 : Ps4 W5 wr.heap.size y := (g2.block _ HU.out.2.2.2.lt (fun e => Nat.lt_irrefl _ (HN8.out.2 _ e.symm))).trans HU.out.2.2.2
     have q1 : W5.cell? ⟨b, 42, none⟩ = some (.slice an4 (nxF a kid i).length cn4) := by simp only [World.cell?, hco.2.2.1.trans HU.out.1.blk]; rfl
     have q2 : W5.frozen? ⟨b, 42, none⟩ = false := by simp [World.frozen?, hco.2.2.1.trans HU.out.1.blk]
     have hS5 := hSof _ p5
     refine ⟨hS5, ?_⟩
     have HNX := hideT (And.intro hNX (HU.out.2.1.trans hNX.2))
     clear hNX hco g1 g2 g3 HU
     simp only [Act.put, List.setIfInBounds_toArray]
     refine tq 10 71 hS5 ?_
     refine tq 11 72 hS5 ?_
     simp only [Act.put]
     refine wpAnyH_all (rs := [12]) (by kernel_rfl) (by simp) (fun i hi => ?_)
     obtain rfl : i = 12 := List.mem_singleton.1 hi
     have p6 : Ps4 (W5.setCell ⟨b, 42, none⟩ (.slice a5 ((nxF a kid i).length + 1) d5)) wr.heap.size y := (Below.heap_setCell W5 ⟨b, 42, none⟩ _ _ (by show wr.heap.size ≠ b; have := HN8.out.1; omega)).trans p5
     refine op_skip rfl rfl (by rfl) (w' := W5.setCell ⟨b, 42, none⟩ (.slice a5 ((nxF a kid i).length + 1) d5)) (by clear p6 p5; go_simp; (try with_reducible rfl)) ⟨hSof _ p6, ?_⟩
     refine wpAnyH_done (by kernel_rfl) (hKB _ _ ?_) _
     have HE2 := hideT (show ∃ vn', AcV (W5.setCell ⟨b, 42, none⟩ (.slice a5 ((nxF a kid i).length + 1) d5)) B b S g ag ⟨a.deep || kid.deep, a.links ++ [(kid, a.takes.length, free)], a.takes ++ kid.takes, nxF a kid (i + 1)⟩ vl1 vt3 vn' (cs ++ [c]) ∧ AcF B S W (W5.setCell ⟨b, 42, none⟩ (.slice a5 ((nxF a kid i).length + 1) d5)) from ⟨_, by rw [nxF_step HY.out]; exact HNX.out.1.1, HNX.out.2⟩)
     generalize W5.setCell ⟨b, 42, none⟩ (.slice a5 ((nxF a kid i).length + 1) d5) = Z at *
     clear HNX q1 q2 p5 p6 hS5 hSof HX HN8 c42 c42d hS0
     try simp only [Act.put]
     go_wp2
     go_roundg fu
     case measure => omega
     case rel => exact ⟨i + 1, by go_num, by omega, HE2⟩
   · refine op_call (R := fun v w1 => v = .agg #[.int .u64 (wd (Nat.testBit (up y a.takes.length)) 0 : Nat), .int .u64 (wd (Nat.testBit (up y a.takes.length)) 1 : Nat), .int .u64 (wd (Nat.testBit (up y a.takes.length)) 2 : Nat), .int .u64 (wd (Nat.testBit (up y a.takes.length)) 3 : Nat)] ∧ Below X.heap.size X w1) (f := 89) (some 68) rfl rfl (by rfl) (by go_simp; (try with_reducible rfl)) ((up_any y a.takes.length (by have := HNL.out.2; omega) _).mono ?_) ?_
     · rintro e w6 ⟨rfl, h6⟩
       exact ⟨_, rfl, rfl, ((Below.refl X.heap.size X).drew).trans h6⟩
     rintro v w6 ⟨rfl, b6⟩
     have hA6 := HX.out.1.keep b6
     have hF6 := HX.out.2.1.trans (AcF.of b6 HX.out.2.2.2 (fun k hk => (HX.out.1.nS k hk).1))
     have p6 := HX.out.2.2.1.below b6 HX.out.2.2.1.lt
     have c6 : w6.cell? ⟨b, 42, none⟩ = some (.slice an4 (nxF a kid i).length cn4) := hA6.cells.2.2.2.2.1
     refine ⟨hSof _ p6, ?_⟩
     simp only [Act.put, List.setIfInBounds_toArray, List.set_cons_zero, List.set_cons_succ]
     refine wpAnyH_all (rs := [4, 8]) (by kernel_rfl) (by simp) (fun i hi => ?_)
     have hc2 : i = 4 ∨ i = 8 := by simpa using hi
     rcases hc2 with rfl | rfl
     · refine op_value (some 65) rfl rfl (by rfl) (v := .slice an4 (nxF a kid i).length cn4) (w' := w6) (by go_simp; (try with_reducible rfl)) ⟨hSof _ p6, ?_⟩
       simp only [Act.put, List.setIfInBounds_toArray, List.set_cons_zero, List.set_cons_succ]
       refine wpAnyH_all (rs := [8]) (by kernel_rfl) (by simp) (fun i hi => ?_)
       obtain rfl : i = 8 := List.mem_singleton.1 hi
       have hbU := (Below.refl w6.heap.size w6).alloc (Nat.le_refl _) (.cells #[.int .u64 (wd (Nat.testBit ((up y a.takes.length))) 0 : Nat), .int .u64 (wd (Nat.testBit ((up y a.takes.length))) 1 : Nat), .int .u64 (wd (Nat.testBit ((up y a.takes.length))) 2 : Nat), .int .u64 (wd (Nat.testBit ((up y a.takes.length))) 3 : Nat)] 157)
       have hAU := hA6.keep hbU
       have hFU := hF6.trans (AcF.of hbU (Nat.le_trans hA6.hb (Nat.le_of_lt hA6.lt)) (fun k hk => (hA6.nS k hk).1))
       have hLU := World.ownsRow_lit (e := 157) (base := 0) (size := 4) w6 #[.int .u64 (wd (Nat.testBit ((up y a.takes.length))) 0 : Nat), .int .u64 (wd (Nat.testBit ((up y a.takes.length))) 1 : Nat), .int .u64 (wd (Nat.testBit ((up y a.takes.length))) 2 : Nat), .int .u64 (wd (Nat.testBit ((up y a.takes.length))) 3 : Nat)] 1 (Nat.zero_le _) (by decide) rfl
       have pU := p6.below hbU p6.lt
       have HU := hideT (And.intro hAU (And.intro hFU (And.intro hLU pU)))
       clear hAU hFU hLU pU hbU hA6 hF6 p6 c6
       refine op_value (some 69) rfl rfl (by rfl) (v := .slice (some ⟨w6.heap.size, 0, none⟩) 1 1) (w' := w6.alloc (.cells #[.int .u64 (wd (Nat.testBit ((up y a.takes.length))) 0 : Nat), .int .u64 (wd (Nat.testBit ((up y a.takes.length))) 1 : Nat), .int .u64 (wd (Nat.testBit ((up y a.takes.length))) 2 : Nat), .int .u64 (wd (Nat.testBit ((up y a.takes.length))) 3 : Nat)] 157)) (by go_simp; (try with_reducible rfl)) ⟨hSof _ HU.out.2.2.2, ?_⟩
       generalize w6.alloc (.cells #[.int .u64 (wd (Nat.testBit ((up y a.takes.length))) 0 : Nat), .int .u64 (wd (Nat.testBit ((up y a.takes.length))) 1 : Nat), .int .u64 (wd (Nat.testBit ((up y a.takes.length))) 2 : Nat), .int .u64 (wd (Nat.testBit ((up y a.takes.length))) 3 : Nat)] 157) = U at *
       simp only [Act.put, List.setIfInBounds_toArray, List.set_cons_zero, List.set_cons_succ]
       refine wpAnyH_all (rs := [9]) (by kernel_rfl) (by simp) (fun i hi => ?_)
       obtain rfl : i = 9 := List.mem_singleton.1 hi
       refine op_of rfl (wanted_none rfl _) (wp_app _ _ _ rfl B 157 i2 _ 4 32 Tryz.underlying130 hi2 hx0 hx1 hx2 rfl (by decide) _ (nxF a kid i).length (nxV (nxF a kid i)) rfl HU.out.1.on _ 1 _ rfl HU.out.2.2.1 (by simp [Value.oneCell']) (by have := HNL.out.1; omega) (by omega) (Nat.le_trans HU.out.1.hb (Nat.le_of_lt HU.out.1.lt)) ?_)
       intro v5 W5 g1 g2 g3
       obtain ⟨a5, d5, rfl⟩ := owns_shape g1
       have hco := HU.out.1.core g2 (.inr (.inr (.inr rfl))) 42 (.slice a5 ((nxF a kid i).length + 1) d5)
       have hNX := HU.out.1.nxs (ns := [up y a.takes.length]) g2 g1 g3
       have p5 : Ps4 W5 wr.heap.size y := (g2.block _ HU.out.2.2.2.lt (fun e => Nat.lt_irrefl _ (HN8.out.2 _ e.symm))).trans HU.out.2.2.2
       have q1 : W5.cell? ⟨b, 42, none⟩ = some (.slice an4 (nxF a kid i).length cn4) := by simp only [World.cell?, hco.2.2.1.trans HU.out.1.blk]; rfl
       have q2 : W5.frozen? ⟨b, 42, none⟩ = false := by simp [World.frozen?, hco.2.2.1.trans HU.out.1.blk]
       have hS5 := hSof _ p5
       refine ⟨hS5, ?_⟩
       have HNX := hideT (And.intro hNX (HU.out.2.1.trans hNX.2))
       clear hNX hco g1 g2 g3 HU
       simp only [Act.put, List.setIfInBounds_toArray]
       refine tq 10 71 hS5 ?_
       refine tq 11 72 hS5 ?_
       simp only [Act.put]
       refine wpAnyH_all (rs := [12]) (by kernel_rfl) (by simp) (fun i hi => ?_)
       obtain rfl : i = 12 := List.mem_singleton.1 hi
       have p6 : Ps4 (W5.setCell ⟨b, 42, none⟩ (.slice a5 ((nxF a kid i).length + 1) d5)) wr.heap.size y := (Below.heap_setCell W5 ⟨b, 42, none⟩ _ _ (by show wr.heap.size ≠ b; have := HN8.out.1; omega)).trans p5
       refine op_skip rfl rfl (by rfl) (w' := W5.setCell ⟨b, 42, none⟩ (.slice a5 ((nxF a kid i).length + 1) d5)) (by clear p6 p5; go_simp; (try with_reducible rfl)) ⟨hSof _ p6, ?_⟩
       refine wpAnyH_done (by kernel_rfl) (hKB _ _ ?_) _
       have HE2 := hideT (show ∃ vn', AcV (W5.setCell ⟨b, 42, none⟩ (.slice a5 ((nxF a kid i).length + 1) d5)) B b S g ag ⟨a.deep || kid.deep, a.links ++ [(kid, a.takes.length, free)], a.takes ++ kid.takes, nxF a kid (i + 1)⟩ vl1 vt3 vn' (cs ++ [c]) ∧ AcF B S W (W5.setCell ⟨b, 42, none⟩ (.slice a5 ((nxF a kid i).length + 1) d5)) from ⟨_, by rw [nxF_step HY.out]; exact HNX.out.1.1, HNX.out.2⟩)
       generalize W5.setCell ⟨b, 42, none⟩ (.slice a5 ((nxF a kid i).length + 1) d5) = Z at *
       clear HNX q1 q2 p5 p6 hS5 hSof HX HN8 c42 c42d hS0
       try simp only [Act.put]
       go_wp2
       go_roundg fu
       case measure => omega
       case rel => exact ⟨i + 1, by go_num, by omega, HE2⟩
     · have hbU := (Below.refl w6.heap.size w6).alloc (Nat.le_refl _) (.cells #[.int .u64 (wd (Nat.testBit ((up y a.takes.length))) 0 : Nat), .int .u64 (wd (Nat.testBit ((up y a.takes.length))) 1 : Nat), .int .u64 (wd (Nat.testBit ((up y a.takes.length))) 2 : Nat), .int .u64 (wd (Nat.testBit ((up y a.takes.length))) 3 : Nat)] 157)
       have hAU := hA6.keep hbU
       have hFU := hF6.trans (AcF.of hbU (Nat.le_trans hA6.hb (Nat.le_of_lt hA6.lt)) (fun k hk => (hA6.nS k hk).1))
       have hLU := World.ownsRow_lit (e := 157) (base := 0) (size := 4) w6 #[.int .u64 (wd (Nat.testBit ((up y a.takes.length))) 0 : Nat), .int .u64 (wd (Nat.testBit ((up y a.takes.length))) 1 : Nat), .int .u64 (wd (Nat.testBit ((up y a.takes.length))) 2 : Nat), .int .u64 (wd (Nat.testBit ((up y a.takes.length))) 3 : Nat)] 1 (Nat.zero_le _) (by decide) rfl
       have pU := p6.below hbU p6.lt
       have HU := hideT (And.intro hAU (And.intro hFU (And.intro hLU pU)))
       clear hAU hFU hLU pU hbU hA6 hF6 p6 c6
       refine op_value (some 69) rfl rfl (by rfl) (v := .slice (some ⟨w6.heap.size, 0, none⟩) 1 1) (w' := w6.alloc (.cells #[.int .u64 (wd (Nat.testBit ((up y a.takes.length))) 0 : Nat), .int .u64 (wd (Nat.testBit ((up y a.takes.length))) 1 : Nat), .int .u64 (wd (Nat.testBit ((up y a.takes.length))) 2 : Nat), .int .u64 (wd (Nat.testBit ((up y a.takes.length))) 3 : Nat)] 157)) (by go_simp; (try with_reducible rfl)) ⟨hSof _ HU.out.2.2.2, ?_⟩
       generalize w6.alloc (.cells #[.int .u64 (wd (Nat.testBit ((up y a.takes.length))) 0 : Nat), .int .u64 (wd (Nat.testBit ((up y a.takes.length))) 1 : Nat), .int .u64 (wd (Nat.testBit ((up y a.takes.length))) 2 : Nat), .int .u64 (wd (Nat.testBit ((up y a.takes.length))) 3 : Nat)] 157) = U at *
       simp only [Act.put, List.setIfInBounds_toArray, List.set_cons_zero, List.set_cons_succ]
       refine wpAnyH_all (rs := [4]) (by kernel_rfl) (by simp) (fun i hi => ?_)
       obtain rfl : i = 4 := List.mem_singleton.1 hi
       have cU : U.cell? ⟨b, 42, none⟩ = some (.slice an4 (nxF a kid i).length cn4) := HU.out.1.cells.2.2.2.2.1
       have sU := hSof _ HU.out.2.2.2
       refine op_value (some 65) rfl rfl (by rfl) (v := .slice an4 (nxF a kid i).length cn4) (w' := U) (by go_simp; (try with_reducible rfl)) ⟨sU, ?_⟩
       simp only [Act.put, List.setIfInBounds_toArray, List.set_cons_zero, List.set_cons_succ]
       refine wpAnyH_all (rs := [9]) (by kernel_rfl) (by simp) (fun i hi => ?_)
       obtain rfl : i = 9 := List.mem_singleton.1 hi
       refine op_of rfl (wanted_none rfl _) (wp_app _ _ _ rfl B 157 i2 _ 4 32 Tryz.underlying130 hi2 hx0 hx1 hx2 rfl (by decide) _ (nxF a kid i).length (nxV (nxF a kid i)) rfl HU.out.1.on _ 1 _ rfl HU.out.2.2.1 (by simp [Value.oneCell']) (by have := HNL.out.1; omega) (by omega) (Nat.le_trans HU.out.1.hb (Nat.le_of_lt HU.out.1.lt)) ?_)
       intro v5 W5 g1 g2 g3
       obtain ⟨a5, d5, rfl⟩ := owns_shape g1
       have hco := HU.out.1.core g2 (.inr (.inr (.inr rfl))) 42 (.slice a5 ((nxF a kid i).length + 1) d5)
       have hNX := HU.out.1.nxs (ns := [up y a.takes.length]) g2 g1 g3
       have p5 : Ps4 W5 wr.heap.size y := (g2.block _ HU.out.2.2.2.lt (fun e => Nat.lt_irrefl _ (HN8.out.2 _ e.symm))).trans HU.out.2.2.2
       have q1 : W5.cell? ⟨b, 42, none⟩ = some (.slice an4 (nxF a kid i).length cn4) := by simp only [World.cell?, hco.2.2.1.trans HU.out.1.blk]; rfl
       have q2 : W5.frozen? ⟨b, 42, none⟩ = false := by simp [World.frozen?, hco.2.2.1.trans HU.out.1.blk]
       have hS5 := hSof _ p5
       refine ⟨hS5, ?_⟩
       have HNX := hideT (And.intro hNX (HU.out.2.1.trans hNX.2))
       clear hNX hco g1 g2 g3 HU
       simp only [Act.put, List.setIfInBounds_toArray]
       refine tq 10 71 hS5 ?_
       refine tq 11 72 hS5 ?_
       simp only [Act.put]
       refine wpAnyH_all (rs := [12]) (by kernel_rfl) (by simp) (fun i hi => ?_)
       obtain rfl : i = 12 := List.mem_singleton.1 hi
       have p6 : Ps4 (W5.setCell ⟨b, 42, none⟩ (.slice a5 ((nxF a kid i).length + 1) d5)) wr.heap.size y := (Below.heap_setCell W5 ⟨b, 42, none⟩ _ _ (by show wr.heap.size ≠ b; have := HN8.out.1; omega)).trans p5
       refine op_skip rfl rfl (by rfl) (w' := W5.setCell ⟨b, 42, none⟩ (.slice a5 ((nxF a kid i).length + 1) d5)) (by clear p6 p5; go_simp; (try with_reducible rfl)) ⟨hSof _ p6, ?_⟩
       refine wpAnyH_done (by kernel_rfl) (hKB _ _ ?_) _
       have HE2 := hideT (show ∃ vn', AcV (W5.setCell ⟨b, 42, none⟩ (.slice a5 ((nxF a kid i).length + 1) d5)) B b S g ag ⟨a.deep || kid.deep, a.links ++ [(kid, a.takes.length, free)], a.takes ++ kid.takes, nxF a kid (i + 1)⟩ vl1 vt3 vn' (cs ++ [c]) ∧ AcF B S W (W5.setCell ⟨b, 42, none⟩ (.slice a5 ((nxF a kid i).length + 1) d5)) from ⟨_, by rw [nxF_step HY.out]; exact HNX.out.1.1, HNX.out.2⟩)
       generalize W5.setCell ⟨b, 42, none⟩ (.slice a5 ((nxF a kid i).length + 1) d5) = Z at *
       clear HNX q1 q2 p5 p6 hS5 hSof HX HN8 c42 c42d hS0
       try simp only [Act.put]
       go_wp2
       go_roundg fu
       case measure => omega
       case rel => exact ⟨i + 1, by go_num, by omega, HE2⟩
end Go.Proofs.YtbekghinikjjeaaGreatDoor.smt
