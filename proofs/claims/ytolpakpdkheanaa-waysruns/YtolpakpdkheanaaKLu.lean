/- tally: tie walked. -/
import Derived.Test.YtolpakpdkheanaaKLt
set_option maxRecDepth 100000
set_option maxHeartbeats 4000000
namespace Go.Proofs.Ytolpakpdkheanaa.tly
open Go.RowKit Go.Proofs.Ytolpakpdkheanaa.br
/-- parts that take a byte have a position -/
inductive KiP : Tp → Prop where
 | mk (p : Tp) (h : p.kind = 1 ∨ p.kind = 6 → 0 < p.size) (kid : ∀ l ∈ p.links, KiP l.1) : KiP p
theorem KiP.pos {p : Tp} : KiP p → (p.kind = 1 ∨ p.kind = 6 → 0 < p.size) | .mk _ h _ => h
theorem KiP.kid {p : Tp} : KiP p → ∀ l ∈ p.links, KiP l.1 | .mk _ _ h => h
/-- one link's part, and what follows its last positions -/
def tieS (base : Nat) (l : Lk) (a : TN) : TN := ((tieF l.1 (base + l.2.1) a).1, tieB base l.2.1 l.2.2.2 (eat l.1.eds 0).la (tieF l.1 (base + l.2.1) a).2)
theorem tieF_eq (p : Tp) (base : Nat) (a : TN) : tieF p base a = tieL p.links base (tieH p base a) := by cases p; rfl
theorem tieL_cons (l : Lk) (ls : List Lk) (base : Nat) (a : TN) : tieL (l :: ls) base a = tieL ls base (tieS base l a) := rfl
theorem info_set : (Try.prog.info? 38).map (·.size) = some 4 := by kernel_rfl
theorem wd4_one (q : Nat → Bool) : (wd4 q).toArray.all (·.oneCell') = true := by simp [wd4, Value.oneCell']
theorem TiV.thereTk {W : World} {X T gt gn N : Nat} {a : TN} (h : TiV W X T gt gn N a) {i : Nat} (hi : i < N) : W.there gt (i * 4) 4 := fun j hj => by
 have hl : (tkV a.1).length = N * 4 := by rw [tkV_len, h.tk.2]
 have := cells_at h.tk.1 (j := i * 4 + j) (v := (tkV a.1)[i * 4 + j]'(by omega)) (List.getElem?_eq_getElem _)
 exact ⟨by rw [this.1]; rfl, this.2⟩
theorem PtAt.parts {W : World} {S : Nat → Prop} {c : Nat} {p : Tp} (h : PtAt W S c p) : ∃ vl u cs vs, W.heap[c]? = some (.cells (ptV p.kind p.grp vl p.again p.set p.size u).toArray 87 (0, 0)) ∧ cs.length = p.links.length ∧ vs.length = p.links.length ∧ W.ownsRow 0 125 4 vl p.links.length (lkV p.links cs vs) ∧ (∀ g, vl.ownBlock = some g → S g) ∧ EsR W S u p.eds ∧ (∀ (i : Nat) (l : Lk) (v : Value), p.links[i]? = some l → vs[i]? = some v → StR W S v l.2.2.2) ∧ (∀ (i : Nat) (l : Lk) (c : Nat), p.links[i]? = some l → cs[i]? = some c → PtAt W S c l.1) := by
 cases h with
 | mk _ _ vl u cs vs hS blk hl hv ol es sl bh kids => exact ⟨vl, u, cs, vs, blk, hl, hv, ol, sl, es, bh, kids⟩
theorem TiF.keepS {gt gn : Nat} {W V : World} {S : Nat → Prop} (h : TiF gt gn W V) (hS : ∀ k, S k → k < W.heap.size ∧ k ≠ gt ∧ k ≠ gn) : ∀ k, S k → V.heap[k]? = W.heap[k]? := fun k hk => h.block k (hS k hk).1 (hS k hk).2.1 (hS k hk).2.2
theorem op_store_at {P : Program} {ops : Array Oper} {Q : Exit → Act → World → Prop} {i : Nat} {o : Oper} {K : Act → World → Prop} {a : Act} {w : World} (ty : TypeId) (r s b off : Nat) (cs : List Value) (hi : ops[i]? = some o) (ho : o.op = .store ty (.tmp r) (.tmp s)) (hd : o.dst = none) (hg : o.guard = none) (hx : a.eval (.tmp r) = .pointer (some ⟨b, off, none⟩)) (hy : a.eval (.tmp s) = .agg cs.toArray) (ht : w.there b off cs.length) (hz : (P.info? ty).map (·.size) = some cs.length) (h1 : cs.toArray.all (·.oneCell') = true) (h : K (a.put none undef) (w.setCells b off cs)) : wpOp P ops Q i K a w := by
  refine op_of hi (wanted_none hg _) (wp_store_mid ty _ _ ho b off cs.toArray hx hy (by rw [List.size_toArray]; exact ht) (by rw [List.size_toArray]; exact hz) h1 ?_)
  rw [hd]
  exact h
theorem set_kind1 {p : Tp} (base : Nat) (a : TN) (h : p.kind = 1) : tieH p base a = (a.1.set base p.set, a.2) := by unfold tieH; rw [h]; rfl
theorem set_kind6 {p : Tp} (base : Nat) (a : TN) (h : p.kind = 6) : tieH p base a = (a.1.set base p.set, a.2.set base [(base, 1)]) := by unfold tieH; rw [h]; rfl
theorem set_kind {p : Tp} (base : Nat) (a : TN) (h : p.kind ≠ 1) (h' : p.kind ≠ 6) : tieH p base a = a := by
 unfold tieH
 have e1 : Nat.beq p.kind 1 = false := by cases e : Nat.beq p.kind 1 with | false => rfl | true => exact absurd (Nat.eq_of_beq_eq_true e) h
 have e2 : Nat.beq p.kind 6 = false := by cases e : Nat.beq p.kind 6 with | false => rfl | true => exact absurd (Nat.eq_of_beq_eq_true e) h'
 rw [e1, e2]; rfl
theorem tie_any {X T gt gn N : Nat} {p : Tp} (hp : OkP p) : KiP p → ∀ (W : World) (S : Nat → Prop) (c base : Nat) (a : TN), PtAt W S c p → (∀ k, S k → k < W.heap.size ∧ k ≠ gt ∧ k ≠ gn) → TiV W X T gt gn N a → base + p.size ≤ N → N ≤ 256 → X ≤ W.heap.size →
 Calls Try.prog 24 #[.pointer (some ⟨T, 0, none⟩), .pointer (some ⟨c, 0, none⟩), .int .i64 (base : Nat)] W fun e W' => (∃ v, e = .returned v) ∧ TiV W' X T gt gn N (tieF p base a) ∧ TiF gt gn W W' := by
 induction hp with
 | mk p len ed ll lk kid ih =>
 intro hki W S c base a hpt hS hT hbN hN hX
 have hcl : c < W.heap.size := by obtain ⟨_, _, hb, _⟩ := hpt.core; exact (Array.getElem?_eq_some_iff.1 hb).1
 obtain ⟨vl0, u0, hblk, _⟩ := hpt.core
 have x0 := (cells_at hblk (j := 0) rfl).1
 have x4 := (cells_at hblk (j := 4) rfl).1
 have x5 := (cells_at hblk (j := 5) rfl).1
 have x6 := (cells_at hblk (j := 6) rfl).1
 have x7 := (cells_at hblk (j := 7) rfl).1
 obtain ⟨c2, t2⟩ := hT.c2
 obtain ⟨c3, t3⟩ := hT.c3
 have HT := hideT hT
 have HP := hideT (And.intro hpt (And.intro hS (And.intro hbN (And.intro hN (And.intro hX hki)))))
 have HO := hideT (And.intro len (And.intro ed (And.intro ll (And.intro lk kid))))
 have HIH := hideT ih
 clear hpt hS hT hX hki len ed ll lk kid ih hblk
 go_enter Try.func24, Try.ntmps24
 go_upto_block 0 with fail
 go_cut [] from 16 to 49 (fun V => Hid (TiV V X T gt gn N (tieH p base a) ∧ TiF gt gn W V))
 case first =>
  by_cases h1 : p.kind = 1
  · have i1 : ((p.kind : Int) == 1) = true := by rw [h1]; rfl
    have hb : base < N := by have := HP.out.2.2.2.2.2.pos (.inl h1); omega
    have b1 : (base : Int) < (N : Int) := by omega
    have b2 : (0 : Int) ≤ (base : Int) := by omega
    have hcn : c ≠ gt := (HP.out.2.1 c HP.out.1.inS).2.1
    have hS0 : (fun V : World => V.cell? ⟨T, 2, none⟩ = some (.slice (some ⟨gt, 0, none⟩) N c2) ∧ V.cell? ⟨c, 4, none⟩ = some (.int .u64 (wd p.set 0 : Nat)) ∧ V.cell? ⟨c, 5, none⟩ = some (.int .u64 (wd p.set 1 : Nat)) ∧ V.cell? ⟨c, 6, none⟩ = some (.int .u64 (wd p.set 2 : Nat)) ∧ V.cell? ⟨c, 7, none⟩ = some (.int .u64 (wd p.set 3 : Nat))) W.drew := ⟨t2, x4, x5, x6, x7⟩
    have hTd := HT.out.below (drew_below _ W)
    have HB := hideT (drew_below W.heap.size W)
    go_upto_region 2 with fail
    rename_i K2 hK2
    refine wp_region_held (S := fun V : World => V.cell? ⟨T, 2, none⟩ = some (.slice (some ⟨gt, 0, none⟩) N c2) ∧ V.cell? ⟨c, 4, none⟩ = some (.int .u64 (wd p.set 0 : Nat)) ∧ V.cell? ⟨c, 5, none⟩ = some (.int .u64 (wd p.set 1 : Nat)) ∧ V.cell? ⟨c, 6, none⟩ = some (.int .u64 (wd p.set 2 : Nat)) ∧ V.cell? ⟨c, 7, none⟩ = some (.int .u64 (wd p.set 3 : Nat))) (by kernel_rfl) ?_
    show wpAnyH _ _ _ _ _ _ _ _ W.drew
    generalize W.drew = U at *
    have hth := hTd.thereTk hb
    have hN := hTd.setTk hb p.set
    refine tq 0 18 hS0 ?_
    refine tq 1 19 hS0 ?_
    refine tq 2 20 hS0 ?_
    refine tq 3 21 hS0 ?_
    refine tq 4 22 hS0 ?_
    refine tq 5 23 hS0 ?_
    refine tq 6 24 hS0 ?_
    refine tq 7 25 hS0 ?_
    refine tq 8 26 hS0 ?_
    refine tq 9 27 hS0 ?_
    simp only [Act.put, List.setIfInBounds_toArray, List.set_cons_zero, List.set_cons_succ]
    refine wpAnyH_all (rs := [10]) (by kernel_rfl) (by simp) (fun j hj => ?_)
    obtain rfl : j = 10 := List.mem_singleton.1 hj
    have hS1 : (fun V : World => V.cell? ⟨T, 2, none⟩ = some (.slice (some ⟨gt, 0, none⟩) N c2) ∧ V.cell? ⟨c, 4, none⟩ = some (.int .u64 (wd p.set 0 : Nat)) ∧ V.cell? ⟨c, 5, none⟩ = some (.int .u64 (wd p.set 1 : Nat)) ∧ V.cell? ⟨c, 6, none⟩ = some (.int .u64 (wd p.set 2 : Nat)) ∧ V.cell? ⟨c, 7, none⟩ = some (.int .u64 (wd p.set 3 : Nat))) (U.setCells gt (base * 4) (wd4 p.set)) := by
     have hf := fun k hk => setCells_far U gt (j := k) hk (wd4 p.set) (base * 4)
     have q2 := (World.cell?_of_block (a := ⟨T, 2, none⟩) (hf T hTd.ne.2.1)).trans hS0.1
     have q4 := (World.cell?_of_block (a := ⟨c, 4, none⟩) (hf c hcn)).trans hS0.2.1
     have q5 := (World.cell?_of_block (a := ⟨c, 5, none⟩) (hf c hcn)).trans hS0.2.2.1
     have q6 := (World.cell?_of_block (a := ⟨c, 6, none⟩) (hf c hcn)).trans hS0.2.2.2.1
     have q7 := (World.cell?_of_block (a := ⟨c, 7, none⟩) (hf c hcn)).trans hS0.2.2.2.2
     exact ⟨q2, q4, q5, q6, q7⟩
    refine op_store_at 38 27 26 gt (base * 4) (wd4 p.set) rfl rfl rfl rfl rfl rfl hth (by rw [info_set]; rfl) (wd4_one _) ⟨hS1, ?_⟩
    refine wpAnyH_done (by kernel_rfl) (hK2 _ _ ?_) _
    simp only [Act.put]
    have HN := hideT (And.intro hN.1 ((TiF.of HB.out).trans hN.2))
    clear hth hS0 hS1 hTd hK2 hN hj hcn
    generalize U.setCells gt (base * 4) (wd4 p.set) = Z at *
    go_wp2_with fail
    go_meet
    exact hideT ⟨by rw [set_kind1 base a h1]; exact HN.out.1, HN.out.2⟩
  · have i1 : ((p.kind : Int) == 1) = false := by rw [beq_eq_false_iff_ne]; omega
    by_cases h6 : p.kind = 6
    · have i6 : ((p.kind : Int) == 6) = true := by rw [h6]; rfl
      have h1' := h1
      clear h1
      have h1 := h6
      have hb : base < N := by have := HP.out.2.2.2.2.2.pos (.inr h1); omega
      have b1 : (base : Int) < (N : Int) := by omega
      have b2 : (0 : Int) ≤ (base : Int) := by omega
      have hcn : c ≠ gt := (HP.out.2.1 c HP.out.1.inS).2.1
      have hS0 : (fun V : World => V.cell? ⟨T, 2, none⟩ = some (.slice (some ⟨gt, 0, none⟩) N c2) ∧ V.cell? ⟨c, 4, none⟩ = some (.int .u64 (wd p.set 0 : Nat)) ∧ V.cell? ⟨c, 5, none⟩ = some (.int .u64 (wd p.set 1 : Nat)) ∧ V.cell? ⟨c, 6, none⟩ = some (.int .u64 (wd p.set 2 : Nat)) ∧ V.cell? ⟨c, 7, none⟩ = some (.int .u64 (wd p.set 3 : Nat))) W.drew := ⟨t2, x4, x5, x6, x7⟩
      have hTd := HT.out.below (drew_below _ W)
      have HB := hideT (drew_below W.heap.size W)
      have H6 := hideT h6
      clear h6 h1 h1'
      go_upto_region 4 with fail
      rename_i K2 hK2
      refine wp_region_held (S := fun V : World => V.cell? ⟨T, 2, none⟩ = some (.slice (some ⟨gt, 0, none⟩) N c2) ∧ V.cell? ⟨c, 4, none⟩ = some (.int .u64 (wd p.set 0 : Nat)) ∧ V.cell? ⟨c, 5, none⟩ = some (.int .u64 (wd p.set 1 : Nat)) ∧ V.cell? ⟨c, 6, none⟩ = some (.int .u64 (wd p.set 2 : Nat)) ∧ V.cell? ⟨c, 7, none⟩ = some (.int .u64 (wd p.set 3 : Nat))) (by kernel_rfl) ?_
      show wpAnyH _ _ _ _ _ _ _ _ W.drew
      generalize W.drew = U at *
      have hth := hTd.thereTk hb
      have hN := hTd.setTk hb p.set
      refine tq 0 30 hS0 ?_
      refine tq 1 31 hS0 ?_
      refine tq 2 32 hS0 ?_
      refine tq 3 33 hS0 ?_
      refine tq 4 34 hS0 ?_
      refine tq 5 35 hS0 ?_
      refine tq 6 36 hS0 ?_
      refine tq 7 37 hS0 ?_
      refine tq 8 38 hS0 ?_
      refine tq 9 39 hS0 ?_
      simp only [Act.put, List.setIfInBounds_toArray, List.set_cons_zero, List.set_cons_succ]
      refine wpAnyH_all (rs := [10]) (by kernel_rfl) (by simp) (fun j hj => ?_)
      obtain rfl : j = 10 := List.mem_singleton.1 hj
      have hS1 : (fun V : World => V.cell? ⟨T, 2, none⟩ = some (.slice (some ⟨gt, 0, none⟩) N c2) ∧ V.cell? ⟨c, 4, none⟩ = some (.int .u64 (wd p.set 0 : Nat)) ∧ V.cell? ⟨c, 5, none⟩ = some (.int .u64 (wd p.set 1 : Nat)) ∧ V.cell? ⟨c, 6, none⟩ = some (.int .u64 (wd p.set 2 : Nat)) ∧ V.cell? ⟨c, 7, none⟩ = some (.int .u64 (wd p.set 3 : Nat))) (U.setCells gt (base * 4) (wd4 p.set)) := by
       have hf := fun k hk => setCells_far U gt (j := k) hk (wd4 p.set) (base * 4)
       have q2 := (World.cell?_of_block (a := ⟨T, 2, none⟩) (hf T hTd.ne.2.1)).trans hS0.1
       have q4 := (World.cell?_of_block (a := ⟨c, 4, none⟩) (hf c hcn)).trans hS0.2.1
       have q5 := (World.cell?_of_block (a := ⟨c, 5, none⟩) (hf c hcn)).trans hS0.2.2.1
       have q6 := (World.cell?_of_block (a := ⟨c, 6, none⟩) (hf c hcn)).trans hS0.2.2.2.1
       have q7 := (World.cell?_of_block (a := ⟨c, 7, none⟩) (hf c hcn)).trans hS0.2.2.2.2
       exact ⟨q2, q4, q5, q6, q7⟩
      refine op_store_at 38 39 38 gt (base * 4) (wd4 p.set) rfl rfl rfl rfl rfl rfl hth (by rw [info_set]; rfl) (wd4_one _) ⟨hS1, ?_⟩
      refine wpAnyH_done (by kernel_rfl) (hK2 _ _ ?_) _
      simp only [Act.put]
      have HN := hideT (And.intro hN.1 ((TiF.of HB.out).trans hN.2))
      clear hth hS0 hS1 hTd hK2 hN hj hcn
      generalize U.setCells gt (base * 4) (wd4 p.set) = Z at *
      obtain ⟨c3', t3'⟩ := HN.out.1.c3
      obtain ⟨l0, v0, e0, _, _, g0, g1⟩ := HN.out.1.at hb
      have hlit := lit_st Z (base, 1)
      have hbz := (Below.refl Z.heap.size Z).alloc (Nat.le_refl _) (.cells #[.int .i64 (base : Nat), .int .i64 1] 95)
      have hXZ : X ≤ Z.heap.size := Nat.le_trans HP.out.2.2.2.2.1 HN.out.2.size
      have hsz := World.size_alloc Z (.cells #[.int .i64 (base : Nat), .int .i64 1] 95)
      have hSx := HN.out.1.setNx hbz hb (l := [(base, 1)]) (nx' := a.2.set base [(base, 1)]) ⟨List.pairwise_singleton _ _, fun s hs => by rw [List.mem_singleton.1 hs]; exact ⟨hb, by show 1 ≤ 4097; omega⟩⟩ (hlit.sub fun g hg => ⟨by omega, by omega⟩) (by simp) (by rw [List.getElem?_set]; have hq := (List.getElem?_eq_some_iff.1 e0).1; have hq2 : base < a.2.length := hq; simp [hq2]) (fun j hj => by rw [List.getElem?_set, if_neg (Ne.symm hj)])
      have HM := hideT (And.intro hSx.1 (HN.out.2.trans hSx.2))
      have j1 := keep_cell hbz t3'
      have j2 := keep_cell hbz g0
      have j3 := keep_frozen hbz (World.block_lt_of_cell? _ _ g0) g1
      clear hSx hlit hbz hsz e0
      go_wp2_with fail
      go_meet
      exact hideT ⟨by rw [set_kind6 base a H6.out]; exact HM.out.1, HM.out.2⟩
    · have i6 : ((p.kind : Int) == 6) = false := by rw [beq_eq_false_iff_ne]; omega
      go_wp2_with fail
      go_meet
      exact hideT ⟨by rw [set_kind base a h1 h6]; exact HT.out, TiF.refl _ _ _⟩
 case rest =>
 have HC := hideT hcut.out
 obtain ⟨vl, u, cs, vs, blk, hl, hv, ol, sl, es, bh, kids⟩ := HP.out.1.parts
 obtain ⟨va, vc, rfl⟩ := row_shape ol
 have w2 : wc.cell? ⟨c, 2, none⟩ = some (.slice va p.links.length vc) := (World.cell?_of_block (a := ⟨c, 2, none⟩) (HC.out.2.keepS HP.out.2.1 c HP.out.1.inS)).trans (cells_at blk (j := 2) rfl).1
 have HR := hideT (And.intro hl (And.intro hv (And.intro ol (And.intro sl (And.intro bh kids)))))
 clear hcut x0 x4 x5 x6 x7 t2 t3 blk es hl hv ol sl bh kids
 go_wp2_with fail
 clear w2
 go_loopg [7, 8, 10, 11, 54] p.links.length (fun fu v7 v8 v10 v11 v54 wr => ∃ i : Nat, v54 = .int .i64 (i : Nat) ∧ i + fu = p.links.length ∧ Hid (∃ ai, TiV wr X T gt gn N ai ∧ tieL (p.links.drop i) base ai = tieF p base a ∧ TiF gt gn W wr))
 case atStart => exact ⟨0, rfl, by omega, hideT ⟨_, HC.out.1, by rw [tieF_eq]; rfl, HC.out.2⟩⟩
 case round =>
  obtain ⟨i, rfl, hif, HI⟩ := hrel
  cases gk with
  | zero =>
   obtain rfl : i = p.links.length := by omega
   go_wp2_with fail
   go_end0
   obtain ⟨ai, h1, h2, h3⟩ := HI.out
   rw [List.drop_length] at h2
   have h2' : ai = tieF p base a := h2
   exact ⟨⟨_, rfl⟩, by rw [← h2']; exact h1, h3⟩
  | succ fu =>
   obtain ⟨ai, hTi, hEq, hFi⟩ := HI.out
   have hil : i < p.links.length := by omega
   obtain ⟨l, hli⟩ : ∃ l, p.links[i]? = some l := ⟨_, List.getElem?_eq_getElem hil⟩
   obtain ⟨c', hci⟩ : ∃ c', cs[i]? = some c' := ⟨_, List.getElem?_eq_getElem (by rw [HR.out.1]; exact hil)⟩
   obtain ⟨vb, hvi⟩ : ∃ vb, vs[i]? = some vb := ⟨_, List.getElem?_eq_getElem (by rw [HR.out.2.1]; exact hil)⟩
   obtain ⟨g, cap, hvl, hcap⟩ := row_some HR.out.2.2.1 (by omega)
   cases hvl
   have hlm := List.mem_of_getElem? hli
   have hkS := hFi.keepS HP.out.2.1
   have hgS := HR.out.2.2.2.1 g rfl
   obtain ⟨a0, a1, a2, a3⟩ := lkV_get hli hci hvi
   have hcw : ∀ k x, (lkV p.links cs vs)[k]? = some x → wr.cell? ⟨g, k, none⟩ = some x := fun k x hx => (World.cell?_of_block (a := ⟨g, k, none⟩) (hkS g hgS)).trans (row_cell HR.out.2.2.1 k x hx).1
   have z0 := hcw _ _ a0
   have z1 := hcw _ _ a1
   have z2 := hcw _ _ a2
   have z3 := hcw _ _ a3
   have hbhv := HR.out.2.2.2.2.1 i l vb hli hvi
   obtain ⟨ba, bc, hvb⟩ := hbhv.shape
   subst hvb
   have hkid := HR.out.2.2.2.2.2 i l c' hli hci
   have i1 : (i : Int) < (p.links.length : Int) := by omega
   have i2 : (0 : Int) ≤ (i : Int) := by omega
   have hlk := HO.out.2.2.2.1 l hlm
   have hb1 : base + l.2.1 ≤ 100000 := by have := HP.out.2.2.1; have := HP.out.2.2.2.1; omega
   have H9 := hideT (show IntKind.i64.wrap ((base : Int) + (l.2.1 : Int)) = ((base + l.2.1 : Nat) : Int) by rw [← Int.natCast_add]; exact IntWalk.i64_in _ (by omega))
   have hbA := (Below.refl wr.heap.size wr).alloc (Nat.le_refl _) (.cells #[.pointer (some ⟨c', 0, none⟩), .int .i64 (l.2.1 : Nat), .bool l.2.2.1, .slice ba l.2.2.2.length bc] 125)
   have hnA := World.alloc_heap_new wr (.cells #[.pointer (some ⟨c', 0, none⟩), .int .i64 (l.2.1 : Nat), .bool l.2.2.1, .slice ba l.2.2.2.length bc] 125)
   have hFA := hFi.trans (TiF.of hbA)
   have hcall := HIH.out l hlm (HP.out.2.2.2.2.2.kid l hlm) (wr.alloc (.cells #[.pointer (some ⟨c', 0, none⟩), .int .i64 (l.2.1 : Nat), .bool l.2.2.1, .slice ba l.2.2.2.length bc] 125)) S c' (base + l.2.1) ai (hkid.keep (hFA.keepS HP.out.2.1) fun _ h => h) (fun k hk => ⟨Nat.lt_of_lt_of_le (HP.out.2.1 k hk).1 hFA.size, (HP.out.2.1 k hk).2⟩) (hTi.below hbA) (by have := HP.out.2.2.1; omega) HP.out.2.2.2.1 (Nat.le_trans HP.out.2.2.2.2.1 hFA.size)
   have HA := hideT (And.intro hbA (And.intro hnA (And.intro hFA (And.intro hli (And.intro hbhv (And.intro hkid (And.intro hlk hEq)))))))
   clear hbA hnA hFA hbhv hkid hlk hEq hcw a0 a1 a2 a3 hkS hgS hTi hFi hli hci hvi hlm
   go_wp2_with fail
   rw [Int.natCast_add] at hcall
   refine hcall.mono ?_
   rintro e w5 ⟨⟨v, rfl⟩, hT5, hF5⟩
   clear hcall z0 z1 z2 z3
   have hlt5 := HA.out.1.size
   have hCt : wr.heap.size ≠ gt ∧ wr.heap.size ≠ gn := by
    obtain ⟨ai', q1, _⟩ := HI.out
    have := q1.lt
    omega
   have hC5 : w5.heap[wr.heap.size]? = some (.cells #[.pointer (some ⟨c', 0, none⟩), .int .i64 (l.2.1 : Nat), .bool l.2.2.1, .slice ba l.2.2.2.length bc] 125 (0, 0)) := (hF5.block wr.heap.size (by rw [World.size_alloc]; omega) hCt.1 hCt.2).trans HA.out.2.1
   have hFW5 := HA.out.2.2.1.trans hF5
   have y3 : w5.cell? ⟨wr.heap.size, 3, none⟩ = some (.slice ba l.2.2.2.length bc) := by simp [World.cell?, hC5]
   have hup := up_any (b := base) ((HA.out.2.2.2.2.1).keep (hFW5.keepS HP.out.2.1) fun _ h => h) (fun k hk => Nat.lt_of_lt_of_le (HP.out.2.1 k hk).1 hFW5.size) HA.out.2.2.2.2.2.2.1.2 (by have := HO.out.1; omega) (by have := HP.out.2.2.2.1; omega)
   have H5 := hideT (And.intro hT5 (And.intro hFW5 (And.intro hC5 hCt)))
   clear hT5 hF5 hFW5 hC5 hCt hlt5
   go_wp2_with fail
   refine hup.mono ?_
   rintro e w6 ⟨v6, rfl, h1, h2⟩
   obtain ⟨va6, vc6, rfl⟩ := row_shape h1
   clear hup y3
   have hT6 := H5.out.1.below h2
   have hF6 := H5.out.2.1.trans (TiF.of h2)
   have hX5 : X ≤ w5.heap.size := Nat.le_trans HP.out.2.2.2.2.1 H5.out.2.1.size
   have hC6 := (h2.block _ (Array.getElem?_eq_some_iff.1 H5.out.2.2.1).1).trans H5.out.2.2.1
   have y0 : w6.cell? ⟨wr.heap.size, 0, none⟩ = some (.pointer (some ⟨c', 0, none⟩)) := by simp [World.cell?, hC6]
   have hr8 : StR w6 (fun k => w5.heap.size ≤ k ∧ k < w6.heap.size) (.slice va6 l.2.2.2.length vc6) (upS l.2.2.2 base) := StR.of_own h1 _ fun k hk => ⟨(row_blk h1 hk).1, (row_blk h1 hk).2.1⟩
   have hk6 := HA.out.2.2.2.2.2.1.keep (hF6.keepS HP.out.2.1) (fun _ h => h)
   obtain ⟨vk, uk, kb, ke⟩ := hk6.core
   have y11 := pt_cells kb (j := 2) (by decide)
   have hla := ke.la 0 (by decide)
   obtain ⟨la, hlae⟩ : ∃ la, la = (eat l.1.eds 0).la := ⟨_, rfl⟩
   rw [← hlae] at hla
   obtain ⟨pa, pc, hul⟩ := hla.shape
   have hul : uk 2 = .slice pa la.length pc := hul
   rw [hul] at y11
   have hla : StR w6 S (.slice pa la.length pc) la := by rw [← hul]; exact hla
   have hokla : StOk l.1.size la := by rw [hlae]; exact ((HO.out.2.2.2.2 l (List.mem_of_getElem? HA.out.2.2.2.1)).ed.at 0).2
   have H6 := hideT (And.intro hT6 (And.intro hF6 (And.intro hX5 (And.intro hC6 (And.intro hr8 (And.intro hla (And.intro hokla hlae)))))))
   clear h1 h2 hT6 hF6 hX5 hC6 hr8 hk6 kb ke hla hokla hlae hul
   go_upto_block 3 with fail
   clear y0 y11
   generalize wr.heap.size = C7 at *
   have i3 : (p.links.length : Int) ≤ 1000000 := by have := HO.out.2.2.1; omega
   have i4 : (la.length : Int) ≤ 100000 := by have := H6.out.2.2.2.2.2.2.1.length; have := HA.out.2.2.2.2.2.2.1.1; have := HO.out.1; omega
   obtain ⟨r, hr⟩ : ∃ r, r = tieF l.1 (base + l.2.1) ai := ⟨_, rfl⟩
   obtain ⟨F, hF⟩ : ∃ F : List Stp → Nat × Nat → List Stp, F = fun nx s => nx.modify (base + l.2.1 + s.1) fun o => sumS o (timesS (upS l.2.2.2 base) s.2) := ⟨_, rfl⟩
   have HRR := hideT (And.intro hr hF)
   have H60 := hideT (show TiV w6 X T gt gn N (r.1, r.2) by rw [hr]; exact H6.out.1)
   clear hr hF
   go_wp2_with fail
   go_loopg [10, 11, 78] la.length (fun fu2 v10 v11 v78 wr => ∃ jj : Nat, v78 = .int .i64 (jj : Nat) ∧ jj + fu2 = la.length ∧ Hid (∃ nx, TiV wr X T gt gn N (r.1, nx) ∧ (la.drop jj).foldl F nx = la.foldl F r.2 ∧ TiF gt gn w6 wr))
   case atStart => exact ⟨0, rfl, by omega, hideT ⟨_, H60.out, rfl, TiF.refl _ _ _⟩⟩
   case round =>
    obtain ⟨jj, rfl, hjf, HJ⟩ := hrel
    cases gk with
    | zero =>
     obtain rfl : jj = la.length := by omega
     obtain ⟨nx, q1, q2, q3⟩ := HJ.out
     rw [List.drop_length] at q2
     have q2' : nx = la.foldl F r.2 := q2
     have HE := hideT (show TiV wr X T gt gn N (tieS base l ai) ∧ tieL (p.links.drop (i + 1)) base (tieS base l ai) = tieF p base a ∧ TiF gt gn W wr from ⟨by
       rw [show tieS base l ai = (r.1, nx) by rw [tieS, ← HRR.out.1, ← H6.out.2.2.2.2.2.2.2, q2', HRR.out.2]; rfl]; exact q1, by
       have := HA.out.2.2.2.2.2.2.2
       rw [drop_at HA.out.2.2.2.1, tieL_cons] at this
       exact this, H6.out.2.1.trans q3⟩)
     clear q1 q2 q2' q3
     go_wp2_with fail
     go_roundg fu
     case measure => omega
     case rel => exact ⟨i + 1, by go_num, by omega, hideT ⟨_, HE.out.1, HE.out.2.1, HE.out.2.2⟩⟩
    | succ fu2 =>
     obtain ⟨nx, q1, q2, q3⟩ := HJ.out
     have hjl : jj < la.length := by omega
     obtain ⟨s, hs⟩ : ∃ s, la[jj]? = some s := ⟨_, List.getElem?_eq_getElem hjl⟩
     have hFw := H6.out.2.1.trans q3
     have hlw : StR wr S (.slice pa la.length pc) la := H6.out.2.2.2.2.2.1.keep (fun k hk => (hFw.keepS HP.out.2.1 k hk).trans (H6.out.2.1.keepS HP.out.2.1 k hk).symm) fun _ h => h
     obtain ⟨gl, ol, rfl, hgl, e0, e1⟩ := hlw.at hs
     have hsok := H6.out.2.2.2.2.2.2.1.lt s (List.mem_of_getElem? hs)
     have hlk := HA.out.2.2.2.2.2.2.1
     have hpos : base + l.2.1 + s.1 < N := by have := HP.out.2.2.1; omega
     have hX6 : X ≤ w6.heap.size := Nat.le_trans HP.out.2.2.2.2.1 H6.out.2.1.size
     have hlt5 := H5.out.1.lt
     have hC7 : wr.heap[C7]? = some (.cells #[.pointer (some ⟨c', 0, none⟩), .int .i64 (l.2.1 : Nat), .bool l.2.2.1, .slice ba l.2.2.2.length bc] 125 (0, 0)) := (q3.block C7 (Array.getElem?_eq_some_iff.1 H6.out.2.2.2.1).1 H5.out.2.2.2.1 H5.out.2.2.2.2).trans H6.out.2.2.2.1
     have y1 : wr.cell? ⟨C7, 1, none⟩ = some (.int .i64 (l.2.1 : Nat)) := by simp [World.cell?, hC7]
     have hr8 : StR wr (fun k => w5.heap.size ≤ k ∧ k < w6.heap.size) (.slice va6 l.2.2.2.length vc6) (upS l.2.2.2 base) := H6.out.2.2.2.2.1.keep (fun k hk => q3.block k hk.2 (by omega) (by omega)) fun _ h => h
     have hbA := (Below.refl wr.heap.size wr).alloc (Nat.le_refl _) (.cells #[.int .i64 (s.1 : Nat), .int .i64 (s.2 : Nat)] 95)
     have hnA := World.alloc_heap_new wr (.cells #[.int .i64 (s.1 : Nat), .int .i64 (s.2 : Nat)] 95)
     replace y1 := keep_cell hbA y1
     have j1 : (jj : Int) < (la.length : Int) := by omega
     have j2 : (0 : Int) ≤ (jj : Int) := by omega
     have p1 : (base : Int) ≤ 1000 := by have := HP.out.2.2.2.1; omega
     have p2 : (l.2.1 : Int) ≤ 1000 := by have := HO.out.1; omega
     have p3 : (s.1 : Int) ≤ 1000 := by have := HO.out.1; omega
     have HB := hideT (And.intro hbA (And.intro hnA (And.intro q1 (And.intro q2 (And.intro q3 (And.intro hs (And.intro hr8 (And.intro hpos hsok))))))))
     clear hbA hnA q1 q2 q3 hs hFw hlw hgl hsok hlk hpos hX6 hlt5 hC7 hr8 hjl
     go_upto_region 15 with fail
     rename_i K15 hK15
     obtain ⟨ps, hps⟩ : ∃ ps, ps = base + l.2.1 + s.1 := ⟨_, rfl⟩
     rw [show ((base : Int) + (l.2.1 : Int) + (s.1 : Int)) = (ps : Int) by rw [hps, Int.natCast_add, Int.natCast_add]]
     have hT1 := HB.out.2.2.1.below HB.out.1
     have hF1 := HB.out.2.2.2.2.1.trans (TiF.of HB.out.1)
     have hw1 : (wr.alloc (.cells #[.int .i64 (s.1 : Nat), .int .i64 (s.2 : Nat)] 95)).cell? ⟨wr.heap.size, 1, none⟩ = some (.int .i64 (s.2 : Nat)) := (cells_at (cs := [.int .i64 (s.1 : Nat), .int .i64 (s.2 : Nat)]) HB.out.2.1 (j := 1) rfl).1
     have hr81 := HB.out.2.2.2.2.2.2.1.keep (fun k hk => HB.out.1.block k (by have := HB.out.2.2.2.2.1.size; omega)) (fun _ h => h)
     have hCn : wr.heap.size ≠ gn := by have := HB.out.2.2.1.lt; omega
     have hs1 : w6.heap.size ≤ (wr.alloc (.cells #[.int .i64 (s.1 : Nat), .int .i64 (s.2 : Nat)] 95)).heap.size := hF1.size
     have hpos : ps < N := by rw [hps]; exact HB.out.2.2.2.2.2.2.2.1
     have hsok := HB.out.2.2.2.2.2.2.2.2
     have hnx : (la.drop (jj + 1)).foldl F (nx.modify (ps) fun o => sumS o (timesS (upS l.2.2.2 base) s.2)) = la.foldl F r.2 := by
      rw [← HB.out.2.2.2.1, show la.drop jj = s :: la.drop (jj + 1) by
       obtain ⟨h1, h2⟩ := List.getElem?_eq_some_iff.1 HB.out.2.2.2.2.2.1
       rw [List.drop_eq_getElem_cons h1, h2], List.foldl_cons, HRR.out.2, hps]
     have HFU0 := hideT hF1
     clear hps
     clear hF1 HB HJ y1 e0 e1
     generalize wr.heap.size = C10 at *
     generalize wr.alloc (.cells #[.int .i64 (s.1 : Nat), .int .i64 (s.2 : Nat)] 95) = V1 at *
     have hTU := hT1.below (drew_below _ V1)
     have HFU := hideT (HFU0.out.trans (TiF.of (drew_below _ V1)))
     have hrU := hr81.keep (W' := V1.drew) (fun _ _ => rfl) (fun _ h => h)
     have hC1 : V1.drew.cell? ⟨C10, 1, none⟩ = some (.int .i64 (s.2 : Nat)) := hw1
     have hs2 : w6.heap.size ≤ V1.drew.heap.size := hs1
     clear hT1 HFU0 hr81 hw1 hs1
     have hXU : X ≤ V1.drew.heap.size := Nat.le_trans HP.out.2.2.2.2.1 (Nat.le_trans H6.out.2.1.size hs2)
     obtain ⟨c4, t4⟩ := hTU.c3
     obtain ⟨lo, vo, ho0, ho2, ho1, g0, g1⟩ := hTU.at hpos
     obtain ⟨vao, vco, rfl⟩ := ho1.shape
     have hmf := modify_facts nx (ps) (fun o => sumS o (timesS (upS l.2.2.2 base) s.2)) ho0
     have hokb : StOk N (upS l.2.2.2 base) := HA.out.2.2.2.2.2.2.1.2.upS HP.out.2.2.1
     have hti := times_any (w := V1.drew) (m := s.2) hrU (fun k hk => Nat.lt_of_lt_of_le hk.2 hs2) hokb (by have := HP.out.2.2.2.1; omega) hsok.2
     have hS0 : (fun V : World => V.cell? ⟨T, 3, none⟩ = some (.slice (some ⟨gn, 0, none⟩) N c4) ∧ V.cell? ⟨C10, 1, none⟩ = some (.int .i64 (s.2 : Nat))) V1.drew := ⟨t4, hC1⟩
     have k1 : (ps : Int) < (N : Int) := by omega
     have k2 : (0 : Int) ≤ (ps : Int) := by omega
     refine wp_region_held (S := fun V : World => V.cell? ⟨T, 3, none⟩ = some (.slice (some ⟨gn, 0, none⟩) N c4) ∧ V.cell? ⟨C10, 1, none⟩ = some (.int .i64 (s.2 : Nat))) (by kernel_rfl) ?_
     show wpAnyH _ _ _ _ _ _ _ _ V1.drew
     clear t4 hC1 hrU ho0 hs2
     generalize V1.drew = U at *
     refine tq 0 89 hS0 ?_
     refine tq 1 90 hS0 ?_
     refine tq 2 91 hS0 ?_
     refine tq 3 92 hS0 ?_
     refine tq 4 93 hS0 ?_
     refine tq 5 94 hS0 ?_
     refine tq 6 95 hS0 ?_
     refine tq 7 96 hS0 ?_
     refine tq 8 97 hS0 ?_
     refine tq 9 98 hS0 ?_
     refine tq 10 99 hS0 ?_
     refine tq 12 101 hS0 ?_
     refine tq 13 102 hS0 ?_
     refine tq 14 103 hS0 ?_
     simp only [Act.put, List.setIfInBounds_toArray, List.set_cons_zero, List.set_cons_succ]
     rw [show (upS l.2.2.2 base).length = l.2.2.2.length by simp [upS]] at hti
     refine wpAnyH_all (rs := [11, 15]) (by kernel_rfl) (by simp) (fun j hj => ?_)
     simp only [List.mem_cons, List.not_mem_nil, or_false] at hj
     rcases hj with rfl | rfl
     · refine op_value (some 100) rfl rfl (by rfl) (v := .slice vao lo.length vco) (w' := U) (by go_simp; (try rfl)) ⟨hS0, ?_⟩
       simp only [Act.put, List.setIfInBounds_toArray, List.set_cons_zero, List.set_cons_succ]
       refine wpAnyH_all (rs := [15]) (by kernel_rfl) (by simp) (fun j hj => ?_)
       obtain rfl : j = 15 := List.mem_singleton.1 hj
       refine op_call (R := fun v w => w.ownsRow U.heap.size 95 2 v l.2.2.2.length (stV (timesS (upS l.2.2.2 base) s.2)) ∧ Below U.heap.size U w) (f := 48) (some 104) rfl rfl (by rfl) (by go_simp; (try with_reducible rfl)) (hti.mono ?_) ?_
       · rintro e w ⟨v, rfl, h1, h2⟩
         exact ⟨_, rfl, h1, h2⟩
       rintro v7 w7 ⟨hr7, hb7⟩
       refine ⟨And.intro (keep_cell hb7 hS0.1) (keep_cell hb7 hS0.2), ?_⟩
       obtain ⟨va7, vc7, rfl⟩ := row_shape hr7
       simp only [Act.put, List.setIfInBounds_toArray, List.set_cons_zero, List.set_cons_succ]
       clear hj
       refine wpAnyH_all (rs := [16]) (by kernel_rfl) (by simp) (fun j hj => ?_)
       obtain rfl : j = 16 := List.mem_singleton.1 hj
       have hsum := sum_any (w := w7) (S := fun g => g < w7.heap.size) ((ho1.keep (W' := w7) (fun k hk => hb7.block k hk.2) fun _ h => h).sub fun g hg => Nat.lt_of_lt_of_le hg.2 hb7.size) ((StR.of_own hr7 (fun g => g < w7.heap.size) fun k hk => (row_blk hr7 hk).2.1)) (fun _ h => h) ho2 ((hokb.times s.2)) (by have := HP.out.2.2.2.1; omega)
       refine op_call (R := fun v w => w.ownsRow w7.heap.size 95 2 v (sumS lo (timesS (upS l.2.2.2 base) s.2)).length (stV (sumS lo (timesS (upS l.2.2.2 base) s.2))) ∧ Below w7.heap.size w7 w) (f := 47) (some 105) rfl rfl (by rfl) (by go_simp; (try with_reducible rfl)) (hsum.mono ?_) ?_
       · rintro e w ⟨v, rfl, h1, h2⟩
         exact ⟨_, rfl, h1, h2⟩
       rintro v9 w9 ⟨hr9, hb9⟩
       obtain ⟨va9, vc9, rfl⟩ := row_shape hr9
       have hS9 := And.intro (keep_cell hb9 (keep_cell hb7 hS0.1)) (keep_cell hb9 (keep_cell hb7 hS0.2))
       have hbb := hb7.trans (hb9.mono hb7.size)
       have g9 := keep_cell hbb g0
       have f9 := keep_frozen hbb (World.block_lt_of_cell? _ _ g0) g1
       have hset := hTU.setNx hbb hpos (l := sumS lo (timesS (upS l.2.2.2 base) s.2)) (nx' := nx.modify (ps) fun o => sumS o (timesS (upS l.2.2.2 base) s.2)) (v := .slice va9 (sumS lo (timesS (upS l.2.2.2 base) s.2)).length vc9) (sum_up _ _ ho2 (hokb.times s.2)) (StR.of_own hr9 _ fun k hk => ⟨Nat.le_trans hXU (Nat.le_trans hb7.size (row_blk hr9 hk).1), (row_blk hr9 hk).2.1⟩) hmf.1 hmf.2.1 hmf.2.2
       have hS10 : (fun V : World => V.cell? ⟨T, 3, none⟩ = some (.slice (some ⟨gn, 0, none⟩) N c4) ∧ V.cell? ⟨C10, 1, none⟩ = some (.int .i64 (s.2 : Nat))) (w9.setCell ⟨gn, ps, none⟩ (.slice va9 (sumS lo (timesS (upS l.2.2.2 base) s.2)).length vc9)) := ⟨keep_cell_other hTU.ne.2.2.1 hS9.1, keep_cell_other hCn hS9.2⟩
       have HM := hideT (And.intro hset.1 (HFU.out.trans hset.2))
       refine ⟨hS9, ?_⟩
       simp only [Act.put, List.setIfInBounds_toArray, List.set_cons_zero, List.set_cons_succ]
       refine tq 17 106 hS9 ?_
       simp only [Act.put, List.setIfInBounds_toArray, List.set_cons_zero, List.set_cons_succ]
       clear hj
       refine wpAnyH_all (rs := [18]) (by kernel_rfl) (by simp) (fun j hj => ?_)
       obtain rfl : j = 18 := List.mem_singleton.1 hj
       refine op_skip rfl rfl (by rfl) (w' := w9.setCell ⟨gn, ps, none⟩ (.slice va9 (sumS lo (timesS (upS l.2.2.2 base) s.2)).length vc9)) (by go_simp; (try rfl)) ⟨hS10, ?_⟩
       simp only [Act.put]
       refine wpAnyH_done (by kernel_rfl) (hK15 _ _ ?_) _
       clear hS9 hS10 hset hbb hr9 hb9 g9 f9 hsum hr7 hb7 hj hS0 hTU g0 g1 ho1 ho2 hokb hmf hK15 hti
       generalize w9.setCell ⟨gn, ps, none⟩ (.slice va9 (sumS lo (timesS (upS l.2.2.2 base) s.2)).length vc9) = Z9 at *
       go_wp2_with fail
       go_roundg fu2
       case measure => omega
       case rel => exact ⟨jj + 1, by go_num, by omega, hideT ⟨_, HM.out.1, hnx, HM.out.2⟩⟩
     · refine op_call (R := fun v w => w.ownsRow U.heap.size 95 2 v l.2.2.2.length (stV (timesS (upS l.2.2.2 base) s.2)) ∧ Below U.heap.size U w) (f := 48) (some 104) rfl rfl (by rfl) (by go_simp; (try with_reducible rfl)) (hti.mono ?_) ?_
       · rintro e w ⟨v, rfl, h1, h2⟩
         exact ⟨_, rfl, h1, h2⟩
       rintro v7 w7 ⟨hr7, hb7⟩
       refine ⟨And.intro (keep_cell hb7 hS0.1) (keep_cell hb7 hS0.2), ?_⟩
       obtain ⟨va7, vc7, rfl⟩ := row_shape hr7
       have g7 := keep_cell hb7 g0
       have hS7 := And.intro (keep_cell hb7 hS0.1) (keep_cell hb7 hS0.2)
       simp only [Act.put, List.setIfInBounds_toArray, List.set_cons_zero, List.set_cons_succ]
       refine wpAnyH_all (rs := [11]) (by kernel_rfl) (by simp) (fun j hj => ?_)
       obtain rfl : j = 11 := List.mem_singleton.1 hj
       refine op_value (some 100) rfl rfl (by rfl) (v := .slice vao lo.length vco) (w' := w7) (by go_simp; (try rfl)) ⟨hS7, ?_⟩
       clear g7 hS7
       simp only [Act.put, List.setIfInBounds_toArray, List.set_cons_zero, List.set_cons_succ]
       clear hj
       refine wpAnyH_all (rs := [16]) (by kernel_rfl) (by simp) (fun j hj => ?_)
       obtain rfl : j = 16 := List.mem_singleton.1 hj
       have hsum := sum_any (w := w7) (S := fun g => g < w7.heap.size) ((ho1.keep (W' := w7) (fun k hk => hb7.block k hk.2) fun _ h => h).sub fun g hg => Nat.lt_of_lt_of_le hg.2 hb7.size) ((StR.of_own hr7 (fun g => g < w7.heap.size) fun k hk => (row_blk hr7 hk).2.1)) (fun _ h => h) ho2 ((hokb.times s.2)) (by have := HP.out.2.2.2.1; omega)
       refine op_call (R := fun v w => w.ownsRow w7.heap.size 95 2 v (sumS lo (timesS (upS l.2.2.2 base) s.2)).length (stV (sumS lo (timesS (upS l.2.2.2 base) s.2))) ∧ Below w7.heap.size w7 w) (f := 47) (some 105) rfl rfl (by rfl) (by go_simp; (try with_reducible rfl)) (hsum.mono ?_) ?_
       · rintro e w ⟨v, rfl, h1, h2⟩
         exact ⟨_, rfl, h1, h2⟩
       rintro v9 w9 ⟨hr9, hb9⟩
       obtain ⟨va9, vc9, rfl⟩ := row_shape hr9
       have hS9 := And.intro (keep_cell hb9 (keep_cell hb7 hS0.1)) (keep_cell hb9 (keep_cell hb7 hS0.2))
       have hbb := hb7.trans (hb9.mono hb7.size)
       have g9 := keep_cell hbb g0
       have f9 := keep_frozen hbb (World.block_lt_of_cell? _ _ g0) g1
       have hset := hTU.setNx hbb hpos (l := sumS lo (timesS (upS l.2.2.2 base) s.2)) (nx' := nx.modify (ps) fun o => sumS o (timesS (upS l.2.2.2 base) s.2)) (v := .slice va9 (sumS lo (timesS (upS l.2.2.2 base) s.2)).length vc9) (sum_up _ _ ho2 (hokb.times s.2)) (StR.of_own hr9 _ fun k hk => ⟨Nat.le_trans hXU (Nat.le_trans hb7.size (row_blk hr9 hk).1), (row_blk hr9 hk).2.1⟩) hmf.1 hmf.2.1 hmf.2.2
       have hS10 : (fun V : World => V.cell? ⟨T, 3, none⟩ = some (.slice (some ⟨gn, 0, none⟩) N c4) ∧ V.cell? ⟨C10, 1, none⟩ = some (.int .i64 (s.2 : Nat))) (w9.setCell ⟨gn, ps, none⟩ (.slice va9 (sumS lo (timesS (upS l.2.2.2 base) s.2)).length vc9)) := ⟨keep_cell_other hTU.ne.2.2.1 hS9.1, keep_cell_other hCn hS9.2⟩
       have HM := hideT (And.intro hset.1 (HFU.out.trans hset.2))
       refine ⟨hS9, ?_⟩
       simp only [Act.put, List.setIfInBounds_toArray, List.set_cons_zero, List.set_cons_succ]
       refine tq 17 106 hS9 ?_
       simp only [Act.put, List.setIfInBounds_toArray, List.set_cons_zero, List.set_cons_succ]
       clear hj
       refine wpAnyH_all (rs := [18]) (by kernel_rfl) (by simp) (fun j hj => ?_)
       obtain rfl : j = 18 := List.mem_singleton.1 hj
       refine op_skip rfl rfl (by rfl) (w' := w9.setCell ⟨gn, ps, none⟩ (.slice va9 (sumS lo (timesS (upS l.2.2.2 base) s.2)).length vc9)) (by go_simp; (try rfl)) ⟨hS10, ?_⟩
       simp only [Act.put]
       refine wpAnyH_done (by kernel_rfl) (hK15 _ _ ?_) _
       clear hS9 hS10 hset hbb hr9 hb9 g9 f9 hsum hr7 hb7 hj hS0 hTU g0 g1 ho1 ho2 hokb hmf hK15 hti
       generalize w9.setCell ⟨gn, ps, none⟩ (.slice va9 (sumS lo (timesS (upS l.2.2.2 base) s.2)).length vc9) = Z9 at *
       go_wp2_with fail
       go_roundg fu2
       case measure => omega
       case rel => exact ⟨jj + 1, by go_num, by omega, hideT ⟨_, HM.out.1, hnx, HM.out.2⟩⟩
end Go.Proofs.Ytolpakpdkheanaa.tly
