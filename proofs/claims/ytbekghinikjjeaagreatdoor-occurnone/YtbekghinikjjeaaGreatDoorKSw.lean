/- KSw -/
import Derived.Test.YtbekghinikjjeaaGreatDoorKAa
import Derived.Test.YtbekghinikjjeaaGreatDoorKSu
set_option maxRecDepth 100000
set_option maxHeartbeats 4000000
namespace Go.Proofs.YtbekghinikjjeaaGreatDoor.smt
open Go.RowKit Go.Proofs.YtbekghinikjjeaaGreatDoor.br
theorem takers_lt (p : Pt) (s : List Nat) (wt pl : Nat) : takers p s wt pl < 2 ^ 256 := by
 have g : ∀ (c : Nat) (l : List Nat), (∀ x ∈ l, x < 256) → ∀ a, a < 2 ^ 256 → l.foldl (fun a i => bif (p.takes.getD i (fun _ => false)) c then a ||| 1 <<< i else a) a < 2 ^ 256 := fun c l => by
  induction l with
  | nil => exact fun _ a ha => ha
  | cons i l ih =>
   intro h a ha
   rw [List.foldl_cons]
   refine ih (fun x hx => h x (List.mem_cons_of_mem _ hx)) _ ?_
   cases (p.takes.getD i (fun _ => false)) c
   · exact ha
   · refine Nat.or_lt_two_pow ha ?_
     rw [Nat.one_shiftLeft]
     exact Nat.pow_lt_pow_right (by omega) (h i List.mem_cons_self)
 exact g _ _ (fun x hx => (mem_lt hx).1) 0 (by decide)
theorem wanted_lt (tk : Nat) : ∀ (ns : List Nat) (i L : Nat), i + ns.length ≤ L → wanted tk ns i < 2 ^ L
 | [], _, _, _ => Nat.pow_pos (by omega)
 | n :: ns, i, L, h => by
  rw [wanted]
  refine Nat.or_lt_two_pow ?_ (wanted_lt tk ns (i + 1) L (by simp at h; omega))
  cases Nat.beq (n &&& tk) 0
  · rw [cond_false, Nat.one_shiftLeft]; exact Nat.pow_lt_pow_right (by omega) (by simp at h; omega)
  · exact Nat.pow_pos (by omega)
theorem wanted_drop {tk i n : Nat} {ns : List Nat} (h : ns[i]? = some n) : wanted tk (ns.drop i) i = (bif Nat.beq (n &&& tk) 0 then 0 else 1 <<< i) ||| wanted tk (ns.drop (i + 1)) (i + 1) := by
 obtain ⟨hi, hn⟩ := List.getElem?_eq_some_iff.1 h
 rw [List.drop_eq_getElem_cons hi, hn, wanted]
theorem info_po4 : (Tryz.prog.info? 157).map (·.size) = some 4 := by kernel_rfl
theorem info_tr : (Tryz.prog.info? 228).map (·.size) = some 3 := by kernel_rfl
theorem trace_any {S : Nat → Prop} {sb b h fr te : Nat} {p : Pt} {s : ByteArray} {tv sv : Value} (w : World) (hs : SrAt w sb s h tv sv) (hp : PtAt w S b p) (hSw : ∀ g, S g → g < w.heap.size ∧ g ≠ sb) (hok : OkP p) (hT : Tab w) (hfr : fr ≤ te) (hte : te ≤ s.size) (hsz : s.size ≤ 100000) :
  Calls Tryz.prog 98 #[.pointer (some ⟨sb, 0, none⟩), .pointer (some ⟨b, 0, none⟩), .agg #[.int .i64 (fr : Nat), .int .i64 (te : Nat)]] w fun e w' => ∃ g, e = .returned (.agg #[.int .i64 (fr : Nat), .int .i64 (te : Nat), .slice (some ⟨g, 0, none⟩) (te - fr) (te - fr)]) ∧ w'.ownsRow w.heap.size 157 4 (.slice (some ⟨g, 0, none⟩) (te - fr) (te - fr)) (te - fr) (nxV (traceF p (bl s) fr (te - fr) (bat p.bds (kindAt s.size te)).la ([], h)).1) ∧ SrAt w' sb s (traceF p (bl s) fr (te - fr) (bat p.bds (kindAt s.size te)).la ([], h)).2 tv sv ∧ Fs sb w w' := by
 obtain ⟨R, hR⟩ : ∃ R, traceF p (bl s) fr (te - fr) (bat p.bds (kindAt s.size te)).la ([], h) = R := ⟨_, rfl⟩
 rw [hR]
 obtain ⟨L, hL⟩ : ∃ L, te - fr = L := ⟨_, rfl⟩
 rw [hL] at hR ⊢
 have HL := hideT hL
 clear hL
 have hp0 := hp
 have hslt := hs.lt
 have hpos := hT.pos
 have hsb0 := hT.ne hs
 obtain ⟨b, p, vl, vt, vn, cs, hSbb, blk, -, -, -, on, -, -, sn, -⟩ := hp0
 have HSb := hideT hSbb
 clear hSbb
 obtain ⟨q0, -⟩ := hs.cells
 have hbl : b < w.heap.size := (Array.getElem?_eq_some_iff.1 blk).1
 have hk4 := kind_lt s.size te
 have hla := (hok.bd.at (kindAt s.size te)).2
 obtain ⟨-, -, ⟨r0, r1, r2, r3⟩⟩ := pt_first blk hk4
 have HK := hideT (fun W (e : W.cell? ⟨sb, 0, none⟩ = some (.string s)) => kind_any (W := W) (b := sb) (o := 0) s te e)
 generalize kindAt s.size te = kd at *
 have i1 : (kd : Int) < 4 := by omega
 have i2 : (0 : Int) ≤ (kd : Int) := by omega
 have e1 : IntKind.i64.wrap ((te : Int) - (fr : Int)) = (L : Int) := by rw [IntKind.wrap_i64]; have := HL.out; omega
 have hL1 : L ≤ 100000 := by have := HL.out; omega
 have hmk := make_nx L (by omega)
 have HH := hideT (And.intro hs (And.intro hp (And.intro hT (And.intro on (And.intro blk (And.intro hSw sn))))))
 clear hs hp hT on blk hSw sn
 obtain ⟨mc, hmc⟩ : ∃ mc, (nxV (List.replicate L 0)).toArray = mc := ⟨_, rfl⟩
 rw [hmc] at hmk
 have HMC := hideT hmc
 clear hmc
 go_enter Tryz.func98, Tryz.ntmps98
 go_upto_region 1 with fail
 rename_i K1 hK1
 obtain ⟨X, hX⟩ : ∃ X, X = ((w.alloc (.cells #[.int .i64 (fr : Nat), .int .i64 (te : Nat)] 30)).alloc (.cells #[.int .i64 0, .int .i64 0, .slice none 0 0] 228)) := ⟨_, rfl⟩
 rw [← hX]
 have hBX : Below w.heap.size w X := by rw [hX]; exact ((Below.refl _ w).alloc (Nat.le_refl _) _).alloc (by simp) _
 have HsX := hideT (show X.heap.size = w.heap.size + 2 by rw [hX, World.size_alloc, World.size_alloc])
 have x0 : X.heap[w.heap.size]? = some (.cells #[.int .i64 (fr : Nat), .int .i64 (te : Nat)] 30) := by
  rw [hX, Below.heap_alloc _ _ _ (by simp)]; exact World.alloc_heap_new w _
 have x1 : X.heap[w.heap.size + 1]? = some (.cells #[.int .i64 0, .int .i64 0, .slice none 0 0] 228) := by
  have h := World.alloc_heap_new (w.alloc (.cells #[.int .i64 (fr : Nat), .int .i64 (te : Nat)] 30)) (.cells #[.int .i64 0, .int .i64 0, .slice none 0 0] 228)
  rw [World.size_alloc] at h; rw [hX]; exact h
 have y0 : X.cell? ⟨w.heap.size, 0, none⟩ = some (.int .i64 (fr : Nat)) := by simp [World.cell?, x0]
 have y1 : X.cell? ⟨w.heap.size, 1, none⟩ = some (.int .i64 (te : Nat)) := by simp [World.cell?, x0]
 have hSof : ∀ V : World, Below X.heap.size X V → (fun V : World => Below X.heap.size X V ∧ V.cell? ⟨w.heap.size, 0, none⟩ = some (.int .i64 (fr : Nat)) ∧ V.cell? ⟨w.heap.size, 1, none⟩ = some (.int .i64 (te : Nat))) V := fun V hV => ⟨hV, keep_cell hV y0, keep_cell hV y1⟩
 clear hX
 go_cut [7] from 13 to 20 (fun s7 w' => ∃ n7 g, s7 = .pointer (some ⟨n7, 0, none⟩) ∧ Hid (X.heap.size ≤ n7 ∧ X.heap.size ≤ g ∧ g ≠ n7 ∧ w'.heap[n7]? = some (.cells #[.int .i64 (fr : Nat), .int .i64 (te : Nat), .slice (some ⟨g, 0, none⟩) L L] 228) ∧ w'.ownsRow X.heap.size 157 4 (.slice (some ⟨g, 0, none⟩) L L) L (nxV (List.replicate L 0)) ∧ Below X.heap.size X w'))
 case first =>
  rename_i J hJ
  have hS0b : Below X.heap.size X X.drew := (Below.refl _ _).drew
  have hS0 := hSof _ hS0b
  refine wp_region_held (S := fun V : World => Below X.heap.size X V ∧ V.cell? ⟨w.heap.size, 0, none⟩ = some (.int .i64 (fr : Nat)) ∧ V.cell? ⟨w.heap.size, 1, none⟩ = some (.int .i64 (te : Nat))) (by kernel_rfl) ?_
  refine tq 0 13 hS0 ?_
  refine tq 1 14 hS0 ?_
  refine tq 2 15 hS0 ?_
  refine tq 3 16 hS0 ?_
  refine tq 4 17 hS0 ?_
  refine tq 5 18 hS0 ?_
  simp only [Act.put, List.setIfInBounds_toArray, List.set_cons_zero, List.set_cons_succ]
  refine wpAnyH_all (rs := [6, 8]) (by kernel_rfl) (by simp) (fun i hi => ?_)
  have hc2 : i = 6 ∨ i = 8 := by simpa using hi
  rcases hc2 with rfl | rfl
  · obtain ⟨U6, hU6⟩ : ∃ U, U = X.drew.alloc (.cells mc 157) := ⟨_, rfl⟩
    obtain ⟨ga, hga⟩ : ∃ n, n = X.drew.heap.size := ⟨_, rfl⟩
    have bU6 : Below X.heap.size X U6 := by rw [hU6]; exact hS0b.alloc hS0b.size _
    have oU6 : U6.ownsRow X.heap.size 157 4 (.slice (some ⟨ga, 0, none⟩) L L) L (nxV (List.replicate L 0)) := by rw [hU6, hga, ← HMC.out]; exact owns_made _ _ _ hS0b.size (by omega)
    have lga : X.heap.size ≤ ga := by rw [hga]; exact hS0b.size
    have sU6 := hSof _ bU6
    have lla : ga < U6.heap.size := (owns_blk oU6 rfl).2.1
    refine op_value (some 19) rfl rfl (by rfl) (v := .slice (some ⟨ga, 0, none⟩) L L) (w' := U6) (by rw [hU6, hga]; clear oU6 sU6; go_simp; (try with_reducible rfl)) ⟨sU6, ?_⟩
    clear hU6 hga
    simp only [Act.put, List.setIfInBounds_toArray, List.set_cons_zero, List.set_cons_succ]
    refine tq 7 20 sU6 ?_
    refine wpAnyH_all (rs := [8]) (by kernel_rfl) (by simp) (fun i hi => ?_)
    obtain rfl : i = 8 := List.mem_singleton.1 hi
    obtain ⟨U8, hU8⟩ : ∃ U, U = U6.alloc (.cells #[.int .i64 0, .int .i64 0, .slice none 0 0] 228) := ⟨_, rfl⟩
    obtain ⟨na, hna⟩ : ∃ n, n = U6.heap.size := ⟨_, rfl⟩
    have bU8 : Below X.heap.size X U8 := by rw [hU8]; exact bU6.alloc bU6.size _
    have zU8 : U8.heap[na]? = some (.cells [.int .i64 0, .int .i64 0, .slice none 0 0].toArray 228 (0, 0)) := by rw [hU8, hna]; exact World.alloc_heap_new _ _
    have lna : X.heap.size ≤ na := by rw [hna]; exact bU6.size
    have sU8 := hSof _ bU8
    refine op_value (some 7) rfl rfl (by rfl) (v := .pointer (some ⟨na, 0, none⟩)) (w' := U8) (by rw [hU8, hna]; clear zU8 sU8; go_simp; (try with_reducible rfl)) ⟨sU8, ?_⟩
    have oU8 := owns_keep oU6 (W' := U8) fun k hk => (by rw [hU8]; exact Below.heap_alloc _ _ _ (owns_blk oU6 hk).2.1)
    have ne : ga ≠ na := by omega
    clear hU8 hna
    simp only [Act.put, List.setIfInBounds_toArray, List.set_cons_zero, List.set_cons_succ]
    refine wpAnyH_all (rs := [9]) (by kernel_rfl) (by simp) (fun i hi => ?_)
    obtain rfl : i = 9 := List.mem_singleton.1 hi
    have zc := setCells_whole [.int .i64 (fr : Nat), .int .i64 (te : Nat), .slice (some ⟨ga, 0, none⟩) L L] zU8 rfl
    have zb := below_setCells na lna [.int .i64 (fr : Nat), .int .i64 (te : Nat), .slice (some ⟨ga, 0, none⟩) L L] _ 0 bU8
    have zo := owns_keep oU8 (W' := U8.setCells na 0 [.int .i64 (fr : Nat), .int .i64 (te : Nat), .slice (some ⟨ga, 0, none⟩) L L]) fun k hk => setCells_far _ _ (by obtain rfl : ga = k := Option.some.inj hk; omega) _ _
    refine op_store 228 7 20 na [.int .i64 (fr : Nat), .int .i64 (te : Nat), .slice (some ⟨ga, 0, none⟩) L L] rfl rfl rfl rfl rfl rfl (there_block zU8 _ rfl) info_tr (by simp [Value.oneCell']) ⟨hSof _ zb, ?_⟩
    refine wpAnyH_done (by kernel_rfl) (hJ _ _ ?_) _
    simp only [Act.put]
    go_meet
    exact ⟨_, _, rfl, hideT ⟨lna, lga, by omega, zc, zo, zb⟩⟩
  · obtain ⟨U8, hU8⟩ : ∃ U, U = X.drew.alloc (.cells #[.int .i64 0, .int .i64 0, .slice none 0 0] 228) := ⟨_, rfl⟩
    obtain ⟨nb, hnb⟩ : ∃ n, n = X.drew.heap.size := ⟨_, rfl⟩
    have bU8 : Below X.heap.size X U8 := by rw [hU8]; exact hS0b.alloc hS0b.size _
    have zU8 : U8.heap[nb]? = some (.cells [.int .i64 0, .int .i64 0, .slice none 0 0].toArray 228 (0, 0)) := by rw [hU8, hnb]; exact World.alloc_heap_new _ _
    have lnb : X.heap.size ≤ nb := by rw [hnb]; exact hS0b.size
    have sU8 := hSof _ bU8
    refine op_value (some 7) rfl rfl (by rfl) (v := .pointer (some ⟨nb, 0, none⟩)) (w' := U8) (by rw [hU8, hnb]; clear zU8 sU8; go_simp; (try with_reducible rfl)) ⟨sU8, ?_⟩
    have lnb2 : nb < U8.heap.size := (Array.getElem?_eq_some_iff.1 zU8).1
    clear hU8 hnb
    simp only [Act.put, List.setIfInBounds_toArray, List.set_cons_zero, List.set_cons_succ]
    refine wpAnyH_all (rs := [6]) (by kernel_rfl) (by simp) (fun i hi => ?_)
    obtain rfl : i = 6 := List.mem_singleton.1 hi
    obtain ⟨U6, hU6⟩ : ∃ U, U = U8.alloc (.cells mc 157) := ⟨_, rfl⟩
    obtain ⟨gb, hgb⟩ : ∃ n, n = U8.heap.size := ⟨_, rfl⟩
    have bU6 : Below X.heap.size X U6 := by rw [hU6]; exact bU8.alloc bU8.size _
    have oU6 : U6.ownsRow X.heap.size 157 4 (.slice (some ⟨gb, 0, none⟩) L L) L (nxV (List.replicate L 0)) := by rw [hU6, hgb, ← HMC.out]; exact owns_made _ _ _ bU8.size (by omega)
    have lgb : X.heap.size ≤ gb := by rw [hgb]; exact bU8.size
    have sU6 := hSof _ bU6
    have llb : gb < U6.heap.size := (owns_blk oU6 rfl).2.1
    refine op_value (some 19) rfl rfl (by rfl) (v := .slice (some ⟨gb, 0, none⟩) L L) (w' := U6) (by rw [hU6, hgb]; clear oU6 sU6; go_simp; (try with_reducible rfl)) ⟨sU6, ?_⟩
    have zU6 := (show U6.heap[nb]? = _ by rw [hU6]; exact Below.heap_alloc _ _ _ lnb2).trans zU8
    have ne : gb ≠ nb := by omega
    clear hU6 hgb
    simp only [Act.put, List.setIfInBounds_toArray, List.set_cons_zero, List.set_cons_succ]
    refine tq 7 20 sU6 ?_
    simp only [Act.put, List.setIfInBounds_toArray, List.set_cons_zero, List.set_cons_succ]
    refine wpAnyH_all (rs := [9]) (by kernel_rfl) (by simp) (fun i hi => ?_)
    obtain rfl : i = 9 := List.mem_singleton.1 hi
    have zc := setCells_whole [.int .i64 (fr : Nat), .int .i64 (te : Nat), .slice (some ⟨gb, 0, none⟩) L L] zU6 rfl
    have zb := below_setCells nb lnb [.int .i64 (fr : Nat), .int .i64 (te : Nat), .slice (some ⟨gb, 0, none⟩) L L] _ 0 bU6
    have zo := owns_keep oU6 (W' := U6.setCells nb 0 [.int .i64 (fr : Nat), .int .i64 (te : Nat), .slice (some ⟨gb, 0, none⟩) L L]) fun k hk => setCells_far _ _ (by obtain rfl : gb = k := Option.some.inj hk; omega) _ _
    refine op_store 228 7 20 nb [.int .i64 (fr : Nat), .int .i64 (te : Nat), .slice (some ⟨gb, 0, none⟩) L L] rfl rfl rfl rfl rfl rfl (there_block zU6 _ rfl) info_tr (by simp [Value.oneCell']) ⟨hSof _ zb, ?_⟩
    refine wpAnyH_done (by kernel_rfl) (hJ _ _ ?_) _
    simp only [Act.put]
    go_meet
    exact ⟨_, _, rfl, hideT ⟨lnb, lgb, by omega, zc, zo, zb⟩⟩
 case rest =>
 obtain ⟨n7, g, rfl, HC1⟩ := hcut
 obtain ⟨hn7, hg, hgn, h7, oY, hbY⟩ := HC1.out
 refine hK1 _ _ ?_
 have hsX := HsX.out
 have a0 := keep_cell hbY y0
 have a1 := keep_cell hbY y1
 have a2 : wc.cell? ⟨sb, 0, none⟩ = some (.string s) := keep_cell hbY (keep_cell hBX q0)
 have a3 := keep_cell hbY (keep_cell hBX r0)
 have a4 := keep_cell hbY (keep_cell hBX r1)
 have a5 := keep_cell hbY (keep_cell hBX r2)
 have a6 := keep_cell hbY (keep_cell hBX r3)
 have hBY : Below w.heap.size w wc := hBX.trans (hbY.mono hBX.size)
 have x1' := (hbY.block (w.heap.size + 1) (by omega)).trans x1
 have x0' := (hbY.block w.heap.size (by omega)).trans x0
 have hYs := hbY.size
 have hng : w.heap.size + 2 ≤ n7 ∧ w.heap.size + 2 ≤ g := by omega
 have HY := hideT (And.intro h7 (And.intro oY (And.intro hBY (And.intro x1' x0'))))
 have HYs := hideT (show w.heap.size + 2 ≤ wc.heap.size by omega)
 have HOX := hideT hBX.size
 clear hSof HC1 hn7 hg h7 oY hbY y0 y1 x0 x1 hBX hsX HsX hmk HMC hK1 r0 r1 r2 r3 q0 x1' x0' hYs hBY
 obtain ⟨Y, hY⟩ : ∃ Y, wc = Y := ⟨_, rfl⟩
 rw [hY] at HY HYs a0 a1 a2 a3 a4 a5 a6 ⊢
 clear hY
 clear wc
 have hSof : ∀ V : World, Below Y.heap.size Y V → (fun V : World => Below Y.heap.size Y V ∧ V.cell? ⟨w.heap.size, 1, none⟩ = some (.int .i64 (te : Nat)) ∧ V.cell? ⟨sb, 0, none⟩ = some (.string s) ∧ V.cell? ⟨b, 5 + kd * 9 + 5, none⟩ = some (.int .u64 (wd (Nat.testBit (bat p.bds kd).la) 0 : Nat)) ∧ V.cell? ⟨b, 5 + kd * 9 + 5 + 1, none⟩ = some (.int .u64 (wd (Nat.testBit (bat p.bds kd).la) 1 : Nat)) ∧ V.cell? ⟨b, 5 + kd * 9 + 5 + 2, none⟩ = some (.int .u64 (wd (Nat.testBit (bat p.bds kd).la) 2 : Nat)) ∧ V.cell? ⟨b, 5 + kd * 9 + 5 + 3, none⟩ = some (.int .u64 (wd (Nat.testBit (bat p.bds kd).la) 3 : Nat))) V := fun V hV => ⟨hV, keep_cell hV a1, keep_cell hV a2, keep_cell hV a3, keep_cell hV a4, keep_cell hV a5, keep_cell hV a6⟩
 go_upto_region 2 with fail
 rename_i K2 hK2
 go_cut [8] from 21 to 30 (fun s8 w' => ∃ n8, s8 = .pointer (some ⟨n8, 0, none⟩) ∧ Hid (Y.heap.size ≤ n8 ∧ Ps4 w' n8 (bat p.bds kd).la ∧ Below Y.heap.size Y w'))
 case first =>
  rename_i J hJ
  have hS0b : Below Y.heap.size Y Y.drew := (Below.refl _ _).drew
  have hS0 := hSof _ hS0b
  refine wp_region_held (S := fun V : World => Below Y.heap.size Y V ∧ V.cell? ⟨w.heap.size, 1, none⟩ = some (.int .i64 (te : Nat)) ∧ V.cell? ⟨sb, 0, none⟩ = some (.string s) ∧ V.cell? ⟨b, 5 + kd * 9 + 5, none⟩ = some (.int .u64 (wd (Nat.testBit (bat p.bds kd).la) 0 : Nat)) ∧ V.cell? ⟨b, 5 + kd * 9 + 5 + 1, none⟩ = some (.int .u64 (wd (Nat.testBit (bat p.bds kd).la) 1 : Nat)) ∧ V.cell? ⟨b, 5 + kd * 9 + 5 + 2, none⟩ = some (.int .u64 (wd (Nat.testBit (bat p.bds kd).la) 2 : Nat)) ∧ V.cell? ⟨b, 5 + kd * 9 + 5 + 3, none⟩ = some (.int .u64 (wd (Nat.testBit (bat p.bds kd).la) 3 : Nat))) (by kernel_rfl) ?_
  refine tq 0 21 hS0 ?_
  refine tq 1 22 hS0 ?_
  refine tq 2 23 hS0 ?_
  refine tq 3 24 hS0 ?_
  refine tq 5 26 hS0 ?_
  refine tq 6 27 hS0 ?_
  simp only [Act.put, List.setIfInBounds_toArray, List.set_cons_zero, List.set_cons_succ]
  refine wpAnyH_all (rs := [4, 10]) (by kernel_rfl) (by simp) (fun i hi => ?_)
  have hc1 : i = 4 ∨ i = 10 := by simpa using hi
  rcases hc1 with rfl | rfl
  · refine op_call (R := fun v w1 => v = .int .i64 (kd : Nat) ∧ Below Y.drew.heap.size Y.drew w1) (f := 66) (some 25) rfl rfl (by rfl) (by go_simp; (try with_reducible rfl)) ((HK.out _ hS0.2.2.1).mono ?_) ?_
    · rintro e w2 ⟨rfl, rfl⟩; exact ⟨_, rfl, rfl, Below.refl _ _⟩
    rintro v w2 ⟨rfl, hb3⟩
    have b4 := hS0b.trans (hb3.mono hS0b.size)
    have hS5 := hSof _ b4
    refine ⟨hS5, ?_⟩
    simp only [Act.put, List.setIfInBounds_toArray, List.set_cons_zero, List.set_cons_succ]
    refine tq 7 28 hS5 ?_
    refine tq 8 29 hS5 ?_
    refine tq 9 30 hS5 ?_
    simp only [Act.put, List.setIfInBounds_toArray, List.set_cons_zero, List.set_cons_succ]
    refine wpAnyH_all (rs := [10]) (by kernel_rfl) (by simp) (fun i hi => ?_)
    obtain rfl : i = 10 := List.mem_singleton.1 hi
    obtain ⟨U6, hU7⟩ : ∃ U, U = w2.alloc (.cells #[.int .u64 0, .int .u64 0, .int .u64 0, .int .u64 0] 157) := ⟨_, rfl⟩
    have b8 : Below Y.heap.size Y U6 := by rw [hU7]; exact b4.alloc b4.size _
    obtain ⟨n10, hn11⟩ : ∃ n, n = w2.heap.size := ⟨_, rfl⟩
    have z12 : Ps4 U6 n10 0 := by rw [hU7, hn11]; exact Ps4.zero _
    have le13 : Y.heap.size ≤ n10 := by rw [hn11]; exact b4.size
    have hS9 := hSof _ b8
    refine op_value (some 8) rfl rfl (by rfl) (v := .pointer (some ⟨n10, 0, none⟩)) (w' := U6) (by rw [hU7, hn11]; clear z12 hS9; go_simp; (try with_reducible rfl)) ⟨hS9, ?_⟩
    clear hU7 hn11
    simp only [Act.put, List.setIfInBounds_toArray, List.set_cons_zero, List.set_cons_succ]
    refine wpAnyH_all (rs := [11]) (by kernel_rfl) (by simp) (fun i hi => ?_)
    obtain rfl : i = 11 := List.mem_singleton.1 hi
    obtain ⟨⟨c0, c1, c2, c3⟩, f0, f1, f2, f3⟩ := z12.cells
    refine op_skip rfl rfl (by rfl) (w' := put4at U6 n10 0 (bat p.bds kd).la) (by go_simp; (try with_reducible rfl)) ⟨hSof _ (put_below b8 le13 0 _), ?_⟩
    refine wpAnyH_done (by kernel_rfl) (hJ _ _ ?_) _
    simp only [Act.put]
    go_meet
    exact ⟨_, rfl, hideT ⟨le13, z12.put _, put_below b8 le13 0 _⟩⟩
  · obtain ⟨U14, hU15⟩ : ∃ U, U = Y.drew.alloc (.cells #[.int .u64 0, .int .u64 0, .int .u64 0, .int .u64 0] 157) := ⟨_, rfl⟩
    have b16 : Below Y.heap.size Y U14 := by rw [hU15]; exact hS0b.alloc hS0b.size _
    obtain ⟨n18, hn19⟩ : ∃ n, n = Y.drew.heap.size := ⟨_, rfl⟩
    have z20 : Ps4 U14 n18 0 := by rw [hU15, hn19]; exact Ps4.zero _
    have le21 : Y.heap.size ≤ n18 := by rw [hn19]; exact hS0b.size
    have hS17 := hSof _ b16
    refine op_value (some 8) rfl rfl (by rfl) (v := .pointer (some ⟨n18, 0, none⟩)) (w' := U14) (by rw [hU15, hn19]; clear z20 hS17; go_simp; (try with_reducible rfl)) ⟨hS17, ?_⟩
    clear hU15 hn19
    simp only [Act.put, List.setIfInBounds_toArray, List.set_cons_zero, List.set_cons_succ]
    refine wpAnyH_all (rs := [4]) (by kernel_rfl) (by simp) (fun i hi => ?_)
    obtain rfl : i = 4 := List.mem_singleton.1 hi
    refine op_call (R := fun v w1 => v = .int .i64 (kd : Nat) ∧ Below U14.heap.size U14 w1) (f := 66) (some 25) rfl rfl (by rfl) (by go_simp; (try with_reducible rfl)) ((HK.out _ hS17.2.2.1).mono ?_) ?_
    · rintro e w2 ⟨rfl, rfl⟩; exact ⟨_, rfl, rfl, Below.refl _ _⟩
    rintro v w22 ⟨rfl, hb23⟩
    have b24 := b16.trans (hb23.mono b16.size)
    have hS25 := hSof _ b24
    refine ⟨hS25, ?_⟩
    simp only [Act.put, List.setIfInBounds_toArray, List.set_cons_zero, List.set_cons_succ]
    have z26 := z20.below hb23 z20.lt
    refine tq 7 28 hS25 ?_
    refine tq 8 29 hS25 ?_
    refine tq 9 30 hS25 ?_
    simp only [Act.put, List.setIfInBounds_toArray, List.set_cons_zero, List.set_cons_succ]
    refine wpAnyH_all (rs := [11]) (by kernel_rfl) (by simp) (fun i hi => ?_)
    obtain rfl : i = 11 := List.mem_singleton.1 hi
    obtain ⟨⟨c0, c1, c2, c3⟩, f0, f1, f2, f3⟩ := z26.cells
    refine op_skip rfl rfl (by rfl) (w' := put4at w22 n18 0 (bat p.bds kd).la) (by go_simp; (try with_reducible rfl)) ⟨hSof _ (put_below b24 le21 0 _), ?_⟩
    refine wpAnyH_done (by kernel_rfl) (hJ _ _ ?_) _
    simp only [Act.put]
    go_meet
    exact ⟨_, rfl, hideT ⟨le21, z26.put _, put_below b24 le21 0 _⟩⟩
 case rest =>
 obtain ⟨n8, rfl, HC2⟩ := hcut
 refine hK2 _ _ ?_
 obtain ⟨hn8, hp8, hb8⟩ := HC2.out
 have b1 := keep_cell hb8 a1
 have HS0 := hideT (And.intro hp8 (And.intro hb8 hn8))
 clear hSof HC2 hp8 hb8 a0 a1 a2 a3 a4 a5 a6 HK hK2 i1 i2 hk4
 go_wp2_with fail
 have hst : traceF p (bl s) fr L (bat p.bds kd).la ([], h) = R ∧ (bat p.bds kd).la < 2 ^ p.takes.length := ⟨hR, hla⟩
 have HST := hideT hst
 clear hst hR hla e1
 have hYs := HYs.out
 have hn8g : n8 ≠ g ∧ n8 ≠ n7 ∧ w.heap.size + 2 ≤ n8 := by
  have h1 := HS0.out.2.2
  have h2 := (owns_blk HY.out.2.1 (g := g) rfl).2.1
  have h3 := (Array.getElem?_eq_some_iff.1 HY.out.1).1
  omega
 go_loopw [9] (fun v wq => ∃ (z : Int) (n wt h1 : Nat) (us : List Nat), v = .int .i64 z ∧ n ≤ L ∧ Hid (z = (fr : Int) + (n : Int) - 1 ∧ traceF p (bl s) fr n wt (us, h1) = R ∧ us.length + n = L ∧ wt < 2 ^ p.takes.length ∧ Ps4 wq n8 wt ∧ SrAt wq sb s h1 tv sv ∧ wq.ownsRow w.heap.size 157 4 (.slice (some ⟨g, 0, none⟩) L L) L (nxV (List.replicate n 0 ++ us)) ∧ wq.heap[n7]? = some (.cells #[.int .i64 (fr : Nat), .int .i64 (te : Nat), .slice (some ⟨g, 0, none⟩) L L] 228) ∧ wq.heap[w.heap.size]? = some (.cells #[.int .i64 (fr : Nat), .int .i64 (te : Nat)] 30) ∧ wq.heap[w.heap.size + 1]? = some (.cells #[.int .i64 0, .int .i64 0, .slice none 0 0] 228) ∧ Fs sb w wq)) (fun v _ => (intOf v - (fr : Int) + 1).toNat)
 case atStart =>
  obtain ⟨hp8, hb8, hn8'⟩ := HS0.out
  obtain ⟨h7, oY, hBY, x1', x0'⟩ := HY.out
  have hBw : Below w.heap.size w wc := hBY.trans (hb8.mono hBY.size)
  refine ⟨_, L, _, h, [], rfl, Nat.le_refl _, hideT ⟨by have := HL.out; omega, HST.out.1, by simp, HST.out.2, hp8, (hBw.block sb hslt).trans HH.out.1, ?_, (hb8.block n7 (Array.getElem?_eq_some_iff.1 h7).1).trans h7, (hb8.block _ (by omega)).trans x0', (hb8.block _ (by omega)).trans x1', Fs.of hBw⟩⟩
  rw [List.append_nil]
  exact owns_mono (owns_keep oY fun k hk => hb8.block k (owns_blk oY hk).2.1) HOX.out
 case round =>
  obtain ⟨z, n, wt, h1, us, rfl, hnL, HI⟩ := hrel
  obtain ⟨hz, hrun, hul, hwt, hp8, hsr, hro, h7, hx0, hx1, hF⟩ := HI.out
  clear HI HST
  have c0 : wr.cell? ⟨w.heap.size, 0, none⟩ = some (.int .i64 (fr : Nat)) := by simp [World.cell?, hx0]
  have c1 : wr.cell? ⟨w.heap.size, 1, none⟩ = some (.int .i64 (te : Nat)) := by simp [World.cell?, hx0]
  cases n with
  | zero =>
   have i1 : (z < (fr : Int)) := by omega
   have i2 : ((fr : Int) ≤ z) = False := by rw [eq_iff_iff, iff_false]; omega
   rw [traceF] at hrun
   have d0 : wr.cell? ⟨n7, 0, none⟩ = some (.int .i64 (fr : Nat)) := by simp [World.cell?, h7]
   have d1 : wr.cell? ⟨n7, 1, none⟩ = some (.int .i64 (te : Nat)) := by simp [World.cell?, h7]
   have d2 : wr.cell? ⟨n7, 2, none⟩ = some (.slice (some ⟨g, 0, none⟩) L L) := by simp [World.cell?, h7]
   have g0 : wr.frozen? ⟨w.heap.size + 1, 0, none⟩ = false := by simp [World.frozen?, hx1]
   have g1 : wr.frozen? ⟨w.heap.size + 1, 1, none⟩ = false := by simp [World.frozen?, hx1]
   have g2 : wr.frozen? ⟨w.heap.size + 1, 2, none⟩ = false := by simp [World.frozen?, hx1]
   have e0 : wr.cell? ⟨w.heap.size + 1, 0, none⟩ = some (.int .i64 0) := by simp [World.cell?, hx1]
   have e1 : wr.cell? ⟨w.heap.size + 1, 1, none⟩ = some (.int .i64 0) := by simp [World.cell?, hx1]
   have e2 : wr.cell? ⟨w.heap.size + 1, 2, none⟩ = some (.slice none 0 0) := by simp [World.cell?, hx1]
   rw [List.replicate_zero, List.nil_append] at hro
   have fv : ∀ k, k ≠ w.heap.size + 1 → (((wr.setCell ⟨w.heap.size + 1, 0, none⟩ (.int .i64 (fr : Nat))).setCell ⟨w.heap.size + 1, 1, none⟩ (.int .i64 (te : Nat))).setCell ⟨w.heap.size + 1, 2, none⟩ (.slice (some ⟨g, 0, none⟩) L L)).heap[k]? = wr.heap[k]? := fun k hk => setCells_far wr (w.heap.size + 1) hk [.int .i64 (fr : Nat), .int .i64 (te : Nat), .slice (some ⟨g, 0, none⟩) L L] 0
   have o1 := owns_keep hro (W' := (((wr.setCell ⟨w.heap.size + 1, 0, none⟩ (.int .i64 (fr : Nat))).setCell ⟨w.heap.size + 1, 1, none⟩ (.int .i64 (te : Nat))).setCell ⟨w.heap.size + 1, 2, none⟩ (.slice (some ⟨g, 0, none⟩) L L))) fun k hk => fv k (by obtain rfl : g = k := Option.some.inj hk; omega)
   have o2 : SrAt (((wr.setCell ⟨w.heap.size + 1, 0, none⟩ (.int .i64 (fr : Nat))).setCell ⟨w.heap.size + 1, 1, none⟩ (.int .i64 (te : Nat))).setCell ⟨w.heap.size + 1, 2, none⟩ (.slice (some ⟨g, 0, none⟩) L L)) sb s h1 tv sv := (fv sb (by omega)).trans hsr
   have o3 : Fs sb w (((wr.setCell ⟨w.heap.size + 1, 0, none⟩ (.int .i64 (fr : Nat))).setCell ⟨w.heap.size + 1, 1, none⟩ (.int .i64 (te : Nat))).setCell ⟨w.heap.size + 1, 2, none⟩ (.slice (some ⟨g, 0, none⟩) L L)) := ⟨hF.os, hF.tape, hF.output, by have := hF.size; simpa using this, fun k a1 a2 => (fv k (by omega)).trans (hF.same k a1 a2)⟩
   have o4 : (((wr.setCell ⟨w.heap.size + 1, 0, none⟩ (.int .i64 (fr : Nat))).setCell ⟨w.heap.size + 1, 1, none⟩ (.int .i64 (te : Nat))).setCell ⟨w.heap.size + 1, 2, none⟩ (.slice (some ⟨g, 0, none⟩) L L)).heap[w.heap.size + 1]? = some (.cells [.int .i64 (fr : Nat), .int .i64 (te : Nat), .slice (some ⟨g, 0, none⟩) L L].toArray 228 (0, 0)) := setCells_whole (cs := [.int .i64 0, .int .i64 0, .slice none 0 0]) [.int .i64 (fr : Nat), .int .i64 (te : Nat), .slice (some ⟨g, 0, none⟩) L L] hx1 rfl
   have HO := hideT (And.intro o1 (And.intro o2 (And.intro o3 (And.intro hrun o4))))
   clear o1 o2 o3 o4 hrun fv hro hsr hF h7 hx0 hx1 hp8 hul hz HS0 HY
   go_wp2
   have o4 := HO.out.2.2.2.2
   have k0 : (((wr.setCell ⟨w.heap.size + 1, 0, none⟩ (.int .i64 (fr : Nat))).setCell ⟨w.heap.size + 1, 1, none⟩ (.int .i64 (te : Nat))).setCell ⟨w.heap.size + 1, 2, none⟩ (.slice (some ⟨g, 0, none⟩) L L)).cell? ⟨w.heap.size + 1, 0, none⟩ = some (.int .i64 (fr : Nat)) := by simp only [World.cell?, o4]; rfl
   have k1 : (((wr.setCell ⟨w.heap.size + 1, 0, none⟩ (.int .i64 (fr : Nat))).setCell ⟨w.heap.size + 1, 1, none⟩ (.int .i64 (te : Nat))).setCell ⟨w.heap.size + 1, 2, none⟩ (.slice (some ⟨g, 0, none⟩) L L)).cell? ⟨w.heap.size + 1, 1, none⟩ = some (.int .i64 (te : Nat)) := by simp only [World.cell?, o4]; rfl
   have k2 : (((wr.setCell ⟨w.heap.size + 1, 0, none⟩ (.int .i64 (fr : Nat))).setCell ⟨w.heap.size + 1, 1, none⟩ (.int .i64 (te : Nat))).setCell ⟨w.heap.size + 1, 2, none⟩ (.slice (some ⟨g, 0, none⟩) L L)).cell? ⟨w.heap.size + 1, 2, none⟩ = some (.slice (some ⟨g, 0, none⟩) L L) := by simp only [World.cell?, o4]; rfl
   generalize (((wr.setCell ⟨w.heap.size + 1, 0, none⟩ (.int .i64 (fr : Nat))).setCell ⟨w.heap.size + 1, 1, none⟩ (.int .i64 (te : Nat))).setCell ⟨w.heap.size + 1, 2, none⟩ (.slice (some ⟨g, 0, none⟩) L L)) = W3 at *
   refine bodyPost_ret (v := .agg #[.int .i64 (fr : Nat), .int .i64 (te : Nat), .slice (some ⟨g, 0, none⟩) L L]) (by simp [results, Tryz.results98, go_sem, k0, k1, k2]) rfl ?_
   have e := HO.out.2.2.2.1
   refine ⟨g, rfl, ?_, ?_, HO.out.2.2.1⟩
   · rw [← e]; exact HO.out.1
   · rw [← e]; exact HO.out.2.1
  | succ n =>
   obtain ⟨pl, hpl⟩ : ∃ pl, pl = fr + n := ⟨_, rfl⟩
   obtain rfl : z = (pl : Int) := by omega
   have i1 : (fr : Int) ≤ (pl : Int) := by omega
   have hpl2 : pl < s.size := by have := HL.out; omega
   have w1e : IntKind.i64.wrap ((pl : Int) - (fr : Int)) = (n : Int) := by rw [IntKind.wrap_i64]; omega
   have i3 : (n : Int) < (L : Int) := by omega
   have i4 : (0 : Int) ≤ (n : Int) := by omega
   rw [traceF, ← hpl] at hrun
   obtain ⟨t0, t1, t2, t3⟩ := hp8.cells.1
   have hSw2 : ∀ g, S g → g < wr.heap.size ∧ g ≠ sb := fun k hk => ⟨Nat.lt_of_lt_of_le (HH.out.2.2.2.2.2.1 k hk).1 hF.size, (HH.out.2.2.2.2.2.1 k hk).2⟩
   have hpw : PtAt wr S b p := HH.out.2.1.keep (fun k hk => hF.same k (HH.out.2.2.2.2.2.1 k hk).1 (HH.out.2.2.2.2.2.1 k hk).2) (fun _ h => h)
   have hTw : Tab wr := HH.out.2.2.1.keep (hF.same 0 hpos (fun e => hsb0 e.symm))
   have hct := takers_any (wt := wt) (pl := pl) wr hsr hpw hSw2 hTw (fun x hx => mem_len hwt hx) hpl2
   have htl := takers_lt p (bl s) wt pl
   generalize takers p (bl s) wt pl = tk at *
   have HQ := hideT (And.intro hrun (And.intro hul (And.intro hp8 (And.intro hro (And.intro h7 (And.intro hx0 (And.intro hx1 (And.intro hF hpl))))))))
   have hsws := hF.size
   clear hrun hul hp8 hsr hro h7 hx0 hx1 hF hpw hSw2 hTw hpl hz HS0 HY
   go_wp2_with fail
   refine hct.mono ?_
   rintro e w1 ⟨rfl, hsr1, hF1⟩
   obtain ⟨hrun, hul, hp8, hro, h7, hx0, hx1, hF, hpl⟩ := HQ.out
   have HPL := hideT hpl
   clear hpl
   have hs1 := hF1.size
   have hwn : w.heap.size + 2 ≤ wr.heap.size := by have := (Array.getElem?_eq_some_iff.1 h7).1; omega
   have g8l := hp8.lt
   have g7l := (Array.getElem?_eq_some_iff.1 h7).1
   have ggl := (owns_blk hro (g := g) rfl).2.1
   have p8 : Ps4 w1 n8 wt := (hF1.same n8 (by omega) (by omega)).trans hp8
   have p7 := (hF1.same n7 (by omega) (by omega)).trans h7
   have px0 := (hF1.same w.heap.size (by omega) (by omega)).trans hx0
   have px1 := (hF1.same (w.heap.size + 1) (by omega) (by omega)).trans hx1
   have pro := owns_keep hro (W' := w1) fun k hk => hF1.same k (owns_blk hro hk).2.1 (by obtain rfl : g = k := Option.some.inj hk; omega)
   have pF := hF.trans hF1
   clear hp8 h7 hx0 hx1 hro hF hF1 HQ hct
   obtain ⟨nk, hnk⟩ : ∃ nk, w1.heap.size = nk := ⟨_, rfl⟩
   obtain ⟨X6, hX6⟩ : ∃ X6, w1.alloc (.cells #[.int .u64 (wd (Nat.testBit tk) 0 : Nat), .int .u64 (wd (Nat.testBit tk) 1 : Nat), .int .u64 (wd (Nat.testBit tk) 2 : Nat), .int .u64 (wd (Nat.testBit tk) 3 : Nat)] 157) = X6 := ⟨_, rfl⟩
   have k6 : Ps4 X6 nk tk := by rw [← hX6, ← hnk]; exact Ps4.new w1 tk
   have hb6 : Below w1.heap.size w1 X6 := by rw [← hX6]; exact (Below.refl _ _).alloc (Nat.le_refl _) _
   have HX6 := hideT (And.intro hX6 hnk)
   clear hX6
   have HNK := hideT (show nk ≠ g ∧ nk ≠ n8 ∧ nk ≠ n7 ∧ nk ≠ sb ∧ w.heap.size + 2 ≤ nk by rw [← hnk]; omega)
   go_upto_region 7 with fail
   rw [HX6.out.1]
   clear hnk HX6
   have hs6 := hb6.size
   have q8 := p8.below hb6 p8.lt
   have q7 := (hb6.block n7 (by omega)).trans p7
   have qx0 := (hb6.block w.heap.size (by omega)).trans px0
   have qx1 := (hb6.block (w.heap.size + 1) (by omega)).trans px1
   have qro := owns_keep pro (W' := X6) fun k hk => hb6.block k (owns_blk pro hk).2.1
   have qsr : SrAt X6 sb s (h1 + cnt wt) tv sv := (hb6.block sb hsr1.lt).trans hsr1
   have qF := pF.trans (Fs.of (sb := sb) hb6)
   have hnk2 : nk ≠ g ∧ nk ≠ n8 ∧ nk ≠ n7 ∧ nk ≠ sb ∧ w.heap.size + 2 ≤ nk := HNK.out
   clear p8 p7 px0 px1 pro pF hb6 hsr1
   have hx : (List.replicate (n + 1) 0 ++ us)[n]? = some 0 := by rw [List.getElem?_append_left (by simp), List.getElem?_replicate]; simp
   obtain ⟨⟨v0, v1, v2, v3⟩, f0, f1, f2, f3⟩ := row_cells qro hx
   obtain ⟨⟨t0, t1, t2, t3⟩, -⟩ := k6.cells
   obtain ⟨⟨m0, m1, m2, m3⟩, l0, l1, l2, l3⟩ := q8.cells
   have d2 : X6.cell? ⟨n7, 2, none⟩ = some (.slice (some ⟨g, 0, none⟩) L L) := by simp [World.cell?, q7]
   have c0 : X6.cell? ⟨w.heap.size, 0, none⟩ = some (.int .i64 (fr : Nat)) := by simp [World.cell?, qx0]
   have ro2 := owns_nx qro (i := n) (by simp; omega) tk
   have hset : (List.replicate (n + 1) 0 ++ us).set n tk = List.replicate n 0 ++ (tk :: us) := by
    rw [List.replicate_succ', List.append_assoc, List.set_append_right _ _ (by simp), List.length_replicate, Nat.sub_self]; rfl
   rw [hset] at ro2
   have s7 : ∀ k, k ≠ g → (put4at X6 g (n * 4) tk).heap[k]? = X6.heap[k]? := fun k hk => put4at_far X6 g (n * 4) tk hk
   have A1 : Ps4 (put4at X6 g (n * 4) tk) n8 wt := (s7 n8 (by omega)).trans q8
   have A2 := (s7 n7 (by omega)).trans q7
   have A3 := (s7 w.heap.size (by omega)).trans qx0
   have A4 := (s7 (w.heap.size + 1) (by omega)).trans qx1
   have A5 : SrAt (put4at X6 g (n * 4) tk) sb s (h1 + cnt wt) tv sv := (s7 sb (by omega)).trans qsr
   have A6 : Ps4 (put4at X6 g (n * 4) tk) nk tk := (s7 nk (by omega)).trans k6
   have A7 : Fs sb w (put4at X6 g (n * 4) tk) := ⟨qF.os, qF.tape, qF.output, by rw [put4at_size]; exact qF.size, fun k a1 a2 => (s7 k (by omega)).trans (qF.same k a1 a2)⟩
   have A8 : X6.heap.size ≤ (put4at X6 g (n * 4) tk).heap.size := by rw [put4at_size]; exact Nat.le_refl _
   have HA := hideT (And.intro A1 (And.intro A2 (And.intro A3 (And.intro A4 (And.intro A5 (And.intro A6 (And.intro A7 (And.intro ro2 A8))))))))
   clear A1 A2 A3 A4 A5 A6 A7 A8 ro2 s7 hset hx qro qsr qF q8 q7 qx0 qx1 k6
   go_upto_region 8 with fail
   rename_i K8 hK8
   show Code.wp _ _ _ _ (put4at X6 g (n * 4) tk)
   generalize put4at X6 g (n * 4) tk = X7 at *
   obtain ⟨q8, q7, qx0, qx1, qsr, k6, qF, qro, h67⟩ := HA.out
   clear HA v0 v1 v2 v3 f0 f1 f2 f3 t0 t1 t2 t3 m0 m1 m2 m3 l0 l1 l2 l3 d2 c0
   obtain ⟨⟨m0, m1, m2, m3⟩, l0, l1, l2, l3⟩ := q8.cells
   obtain ⟨Y8, hY8⟩ : ∃ Y8, (((X7.setCell ⟨n8, 0, none⟩ (.int .u64 0)).setCell ⟨n8, 1, none⟩ (.int .u64 0)).setCell ⟨n8, 2, none⟩ (.int .u64 0)).setCell ⟨n8, 3, none⟩ (.int .u64 0) = Y8 := ⟨_, rfl⟩
   have s8 : ∀ k, k ≠ n8 → Y8.heap[k]? = X7.heap[k]? := fun k hk => by rw [← hY8]; exact setCells_far X7 n8 hk [.int .u64 0, .int .u64 0, .int .u64 0, .int .u64 0] 0
   have z8 : Ps4 Y8 n8 0 := by
    have h := setCells_whole (cs := [.int .u64 (wd (Nat.testBit wt) 0 : Nat), .int .u64 (wd (Nat.testBit wt) 1 : Nat), .int .u64 (wd (Nat.testBit wt) 2 : Nat), .int .u64 (wd (Nat.testBit wt) 3 : Nat)]) [.int .u64 0, .int .u64 0, .int .u64 0, .int .u64 0] q8 rfl
    show Y8.heap[n8]? = _
    rw [← hY8, zero4]; exact h
   have z8s : Y8.heap.size = X7.heap.size := by rw [← hY8]; simp
   have on := HH.out.2.2.2.1
   have blk8 : Y8.heap[b]? = _ := (s8 b (by omega)).trans ((qF.same b hbl (by have := HH.out.2.1; intro e; subst e; exact (HH.out.2.2.2.2.2.1 _ HSb.out).2 rfl)).trans HH.out.2.2.2.2.1)
   have HN8 := hideT (fun (k : Nat) (hk : vn.ownBlock = some k) => (show k < w.heap.size from (owns_blk on hk).2.1))
   have on8 := owns_keep on (W' := Y8) fun k hk => (s8 k (by have := (owns_blk on hk).2.1; omega)).trans (qF.same k (owns_blk on hk).2.1 ((HH.out.2.2.2.2.2.1 k (HH.out.2.2.2.2.2.2 k hk)).2))
   obtain ⟨va, vc, rfl⟩ := owns_shape on
   have cn := (pt_cell blk8).2.1
   have hsrY : SrAt Y8 sb s (h1 + cnt wt) tv sv := (s8 sb (by omega)).trans qsr
   have k6Y : Ps4 Y8 nk tk := (s8 nk (by omega)).trans k6
   have HY8 := hideT (And.intro hY8 (And.intro ((s8 n7 (by omega)).trans q7) (And.intro ((s8 w.heap.size (by omega)).trans qx0) (And.intro ((s8 (w.heap.size + 1) (by omega)).trans qx1) (And.intro hsrY (And.intro (owns_keep qro (W' := Y8) fun k hk => s8 k (by obtain rfl : g = k := Option.some.inj hk; omega)) (show Fs sb w Y8 from ⟨by rw [← hY8]; exact qF.os, by rw [← hY8]; exact qF.tape, by rw [← hY8]; exact qF.output, by rw [z8s]; exact qF.size, fun k a1 a2 => (s8 k (by omega)).trans (qF.same k a1 a2)⟩)))))))
   have hnkl : nk < Y8.heap.size := k6Y.lt
   have h8l := z8.lt
   have HQ8 := hideT (there_block (cs := [.int .u64 (wd (Nat.testBit wt) 0 : Nat), .int .u64 (wd (Nat.testBit wt) 1 : Nat), .int .u64 (wd (Nat.testBit wt) 2 : Nat), .int .u64 (wd (Nat.testBit wt) 3 : Nat)]) q8 4 rfl)
   have HT := hideT (And.intro hrun hul)
   have Hz8s := hideT z8s
   have HC8 := hideT (And.intro on8 (And.intro cn (And.intro k6Y z8)))
   clear q7 qx0 qx1 qsr k6 qF qro s8 hY8 hsrY q8 on blk8 z8s hrun hul on8 cn k6Y z8 h67 hs6 hs1 hwn w1e i3 i4 i1
   refine wp_region_lit (l := [_, _]) ?_
   refine wl_value (v := .agg #[.int .u64 0, .int .u64 0, .int .u64 0, .int .u64 0]) (w' := X7) rfl (by clear m0 m1 m2 m3 l0 l1 l2 l3; go_simp; (try with_reducible rfl)) ?_
   refine wpList_store_mid rfl 157 _ _ rfl n8 0 #[.int .u64 0, .int .u64 0, .int .u64 0, .int .u64 0] rfl rfl HQ8.out info_po4 (by simp [Value.oneCell']) ?_
   refine wpList_nil (hK8 _ _ ?_)
   simp only [Act.put, List.setIfInBounds_toArray, List.set_cons_zero, List.set_cons_succ]
   show Code.wp _ _ _ _ ((((X7.setCell ⟨n8, 0, none⟩ (.int .u64 0)).setCell ⟨n8, 1, none⟩ (.int .u64 0)).setCell ⟨n8, 2, none⟩ (.int .u64 0)).setCell ⟨n8, 3, none⟩ (.int .u64 0))
   rw [HY8.out.1]
   clear m0 m1 m2 m3 l0 l1 l2 l3 hK8 HQ8
   obtain ⟨on8, cn, k6Y, z8⟩ := HC8.out
   have hwl := wanted_lt tk p.next 0 256 (by rw [Nat.zero_add, hok.nl]; exact hok.len)
   go_wp2_with fail
   go_loopw [59] (fun v wq => ∃ i acc : Nat, v = .int .i64 (i : Nat) ∧ i ≤ p.next.length ∧ Hid (acc ||| wanted tk (p.next.drop i) i = wanted tk p.next 0 ∧ Ps4 wq n8 acc ∧ Fs n8 Y8 wq)) (fun v _ => (p.next.length - intOf v).toNat)
   case atStart => exact ⟨0, 0, rfl, Nat.zero_le _, hideT ⟨by simp, z8, Fs.refl _ _⟩⟩
   case round =>
    obtain ⟨i, acc, rfl, hil, HJ⟩ := hrel
    obtain ⟨hacc, hpa, hFi⟩ := HJ.out
    clear HJ
    by_cases hlt : i < p.next.length
    · obtain ⟨y, hy⟩ : ∃ y, p.next[i]? = some y := ⟨p.next[i], List.getElem?_eq_getElem hlt⟩
      have onr := owns_keep on8 (W' := wr) fun k hk => hFi.same k (owns_blk on8 hk).2.1 (by have := HN8.out k hk; omega)
      obtain ⟨gn, cpn, hvv, -, y0, y1, y2, y3⟩ := row_next onr hy
      cases hvv
      rw [wanted_drop hy, ← Nat.or_assoc] at hacc
      have hy256 : y < 2 ^ 256 := lt_mono (hok.nx y (List.mem_of_getElem? hy)) hok.len
      have hi256 : i < 256 := by have := hok.nl; have := hok.len; omega
      have i1 : (i : Int) < (p.next.length : Int) := by omega
      have i2 : (0 : Int) ≤ (i : Int) := by omega
      have k6r : Ps4 wr nk tk := (hFi.same nk (by omega) (by omega)).trans k6Y
      have ta : ∀ o, Ps4 (wr.alloc o) nk tk := fun o => k6r.below ((Below.refl _ _).alloc (Nat.le_refl _) o) k6r.lt
      have t0 := fun o => (ta o).cells.1.1
      have t1 := fun o => (ta o).cells.1.2.1
      have t2 := fun o => (ta o).cells.1.2.2.1
      have t3 := fun o => (ta o).cells.1.2.2.2
      have HP8 := hideT (And.intro hpa (And.intro hFi hacc))
      clear hpa hFi hacc ta
      have hcm := meets_any (b := tk) hy256
      clear onr hy on8 cn
      go_wp2_with fail
      refine (hcm _).mono ?_
      rintro e w9 ⟨rfl, hb9⟩
      obtain ⟨hpa, hFi, hacc⟩ := HP8.out
      have hb9' : Below wr.heap.size wr w9 := ((Below.refl _ _).alloc (Nat.le_refl _) _).trans (hb9.mono (by simp))
      have p9 := hpa.below hb9' hpa.lt
      have hF9 := hFi.trans (Fs.of (sb := n8) hb9')
      clear HP8 hpa hFi hb9 hb9' t0 t1 t2 t3 y0 y1 y2 y3 k6r hcm
      cases hbq : Nat.beq (y &&& tk) 0 with
      | true =>
       rw [hbq, cond_true, Nat.or_zero] at hacc
       have HZ := hideT (And.intro hacc (And.intro p9 hF9))
       clear hacc p9 hF9 hbq
       go_wp2
       go_roundw
       case rel => first | exact ⟨i + 1, acc, by go_num, by omega, HZ⟩ | ((repeat apply Exists.intro); exact ⟨⟨i + 1, acc, by go_num, by omega, HZ⟩, rfl⟩)
       case measure => simp [intOf]; omega
      | false =>
       rw [hbq, cond_false] at hacc
       have hca := add_ps hi256 w9 p9
       have HZ := hideT (And.intro hacc hF9)
       clear hacc p9 hF9 hbq
       go_wp2_with fail
       refine hca.mono ?_
       rintro e w10 ⟨⟨v, rfl⟩, p10, hF10⟩
       have HZ2 := hideT (And.intro HZ.out.1 (And.intro p10 (HZ.out.2.trans hF10)))
       clear hca p10 hF10 HZ
       go_wp2
       go_roundw
       case rel => first | exact ⟨i + 1, acc ||| 1 <<< i, by go_num, by omega, HZ2⟩ | ((repeat apply Exists.intro); exact ⟨⟨i + 1, acc ||| 1 <<< i, by go_num, by omega, HZ2⟩, rfl⟩)
       case measure => simp [intOf]; omega
    · obtain rfl : i = p.next.length := by omega
      rw [List.drop_length, wanted, Nat.or_zero] at hacc
      subst hacc
      obtain ⟨-, h7, hx0, hx1, hsr, hro, hF⟩ := HY8.out
      have hs8 := hFi.size
      have g7l := (Array.getElem?_eq_some_iff.1 h7).1
      have HO := hideT (And.intro HT.out.1 (And.intro HT.out.2 (And.intro (lt_mono (wanted_lt tk p.next 0 p.takes.length (by rw [Nat.zero_add, hok.nl]; exact Nat.le_refl _)) (Nat.le_refl _)) (And.intro hpa (And.intro ((hFi.same sb (by have := hsr.lt; omega) (by omega)).trans hsr) (And.intro (owns_keep hro (W' := wr) fun k hk => hFi.same k (owns_blk hro hk).2.1 (by obtain rfl : g = k := Option.some.inj hk; omega)) (And.intro ((hFi.same n7 g7l (by omega)).trans h7) (And.intro ((hFi.same w.heap.size (by omega) (by omega)).trans hx0) (And.intro ((hFi.same (w.heap.size + 1) (by omega) (by omega)).trans hx1) (show Fs sb w wr from ⟨hFi.os.trans hF.os, hFi.tape.trans hF.tape, hFi.output.trans hF.output, Nat.le_trans hF.size hs8, fun k a1 a2 => (hFi.same k (Nat.lt_of_lt_of_le a1 hF.size) (by omega)).trans (hF.same k a1 a2)⟩))))))))))
      clear h7 hx0 hx1 hsr hro hF hpa hFi HT HY8 on8 cn z8 k6Y HC8
      go_wp2
      go_roundw
      case rel => exact ⟨_, n, _, h1 + cnt wt, tk :: us, rfl, by omega, hideT ⟨by have := HPL.out; omega, HO.out.1, by have := HO.out.2.1; simp only [List.length_cons]; omega, HO.out.2.2.1, HO.out.2.2.2.1, HO.out.2.2.2.2.1, HO.out.2.2.2.2.2.1, HO.out.2.2.2.2.2.2.1, HO.out.2.2.2.2.2.2.2.1, HO.out.2.2.2.2.2.2.2.2.1, HO.out.2.2.2.2.2.2.2.2.2⟩⟩
      case measure => have h9 := HPL.out; simp only [intOf]; omega
end Go.Proofs.YtbekghinikjjeaaGreatDoor.smt
