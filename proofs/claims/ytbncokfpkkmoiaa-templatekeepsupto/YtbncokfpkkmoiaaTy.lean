/- template: the walk of TemplateKeeps. -/
import Derived.Test.YtbncokfpkkmoiaaTx
import Derived.Test.YtbncokfpkkmoiaaTv
namespace Go.Proofs.Ytbncokfpkkmoiaa
open Go.RowKit

/-- A call of a Go function comes up. -/
theorem op_call {P : Program} {ops : Array Oper} {Q : Exit → Act → World → Prop} {i : Nat} {o : Oper} {K : Act → World → Prop} {a : Act} {w : World} {f : FuncId} {args : Array Value} {R : Value → World → Prop} (d : Option Tmp) (hi : ops[i]? = some o) (hd : o.dst = d) (hw : Region.wanted o (yielded ops a.tmps) = true) (hx : (execOp a.eval o).run P w = .ok (.enter f args) w) (hc : Calls P f args w fun e w' => ∃ v, e = .returned v ∧ R v w') (h : ∀ v w', R v w' → K (a.put d v) w') : wpOp P ops Q i K a w := by
  unfold wpOp
  rw [hi]
  dsimp only
  rw [if_pos hw]
  refine .inl ?_
  unfold Oper.wp
  rw [hx]
  refine Calls.mono hc ?_
  rintro e w' ⟨v, rfl, hR⟩
  show K (a.put o.dst v) w'
  rw [hd]
  exact h v w' hR

/-- The last of an own row. -/
theorem own_last {W : World} {B g n c : Nat} {l : List Pt} {p : Pt} (h : W.ownsRow B 48 2 (.slice (some ⟨g, 0, none⟩) n c) n (ptV (l ++ [p]))) : W.cell? ⟨g, l.length * 2, none⟩ = some (.int .i64 p.g) := by
  have h0 := ptV_at (l ++ [p]) l.length p (by simp)
  have h1 := h.cells (g := g) rfl _ _ h0.1
  have hplain : (⟨g, 0, none⟩ : Addr).add (l.length * 2) = ⟨g, l.length * 2, none⟩ := by unfold Addr.add; split <;> simp_all
  rwa [hplain] at h1
theorem own_lastS {W : World} {B g n c : Nat} {l : List (Int × Int)} {p : Int × Int} (h : W.ownsRow B 45 2 (.slice (some ⟨g, 0, none⟩) n c) n (spV (l ++ [p]))) : W.cell? ⟨g, l.length * 2, none⟩ = some (.int .i64 p.1) := by
  have h0 := spV_at (l ++ [p]) l.length p (by simp)
  have h1 := h.cells (g := g) rfl _ _ h0.1
  have hplain : (⟨g, 0, none⟩ : Addr).add (l.length * 2) = ⟨g, l.length * 2, none⟩ := by unfold Addr.add; split <;> simp_all
  rwa [hplain] at h1

theorem own_atS {W : World} {B g n c : Nat} {l : List (Int × Int)} {p : Int × Int} (h : W.ownsRow B 45 2 (.slice (some ⟨g, 0, none⟩) n c) n (spV (l ++ [p]))) (k : Nat) (hk : k < l.length) : W.cell? ⟨g, k * 2, none⟩ = some (.int .i64 l[k].1) ∧ W.cell? ⟨g, k * 2 + 1, none⟩ = some (.int .i64 l[k].2) := by
  have h0 := spV_at (l ++ [p]) k l[k] (by rw [List.getElem?_append_left hk, List.getElem?_eq_getElem hk])
  have h1 := h.cells (g := g) rfl _ _ h0.1
  have h2 := h.cells (g := g) rfl _ _ h0.2
  have hplain : ∀ j, (⟨g, 0, none⟩ : Addr).add j = ⟨g, j, none⟩ := fun j => by unfold Addr.add; split <;> simp_all
  rw [hplain] at h1 h2
  exact ⟨h1, h2⟩

/-- The lists that were laid: parts and one more, spans and one more. -/
def KpR (w W : World) (ps : List Pt) (sp : List (Int × Int)) (gf cf gm cm : Nat) : Prop :=
  W.ownsRow w.heap.size 48 2 (.slice (some ⟨gf, 0, none⟩) (ps.length + 1) cf) (ps.length + 1) (ptV (ps ++ [⟨77, bst []⟩])) ∧ W.ownsRow w.heap.size 45 2 (.slice (some ⟨gm, 0, none⟩) (sp.length + 1) cm) (sp.length + 1) (spV (sp ++ [(78, 0)])) ∧ Below w.heap.size w W
theorem KpR.stay {w W W' : World} {ps : List Pt} {sp : List (Int × Int)} {gf cf gm cm : Nat} (h : KpR w W ps sp gf cf gm cm) (hb : Below W.heap.size W W') : KpR w W' ps sp gf cf gm cm :=
  ⟨owns_below h.1 hb, owns_below h.2.1 hb, h.2.2.trans (hb.mono h.2.2.size)⟩
theorem KpR.parts {w W : World} {ps : List Pt} {sp : List (Int × Int)} {gf cf gm cm : Nat} (h : KpR w W ps sp gf cf gm cm) : PRow W (.slice (some ⟨gf, 0, none⟩) ps.length cf) ps := by
  have h1 := h.1
  rw [show ps.length + 1 = (ps ++ [(⟨77, bst []⟩ : Pt)]).length by simp] at h1
  exact (PRow.of_owns h1).front cf
theorem KpR.spans {w W : World} {ps : List Pt} {sp : List (Int × Int)} {gf cf gm cm : Nat} (h : KpR w W ps sp gf cf gm cm) : SRow W (.slice (some ⟨gm, 0, none⟩) sp.length cm) sp := by
  have h1 := h.2.1
  rw [show sp.length + 1 = (sp ++ [((78 : Int), (0 : Int))]).length by simp] at h1
  exact (SRow.of_owns h1).front cm

/-- Three lists that were read: the first is written to. -/
def KqR (w W : World) (Bb n : Nat) (va vb vc : Value) (ys : List Pt) : Prop :=
  (∃ qs : List Pt, qs.length = n ∧ W.ownsRow w.heap.size 48 2 va n (ptV qs)) ∧ W.ownsRow Bb 48 2 vb n (ptV ys) ∧ W.ownsRow Bb 48 2 vc n (ptV ys) ∧ Below w.heap.size w W

set_option maxRecDepth 100000 in
set_option maxHeartbeats 8000000 in
theorem keeps_walk (t u : ByteArray) (v vs : Value) (ps : List Pt) (sp : List (Int × Int)) (w : World) (hv : PRow w v ps) (hvs : SRow w vs sp) (hshp : v = .slice none 0 0 ∨ ∃ a n c, v = .slice (some a) n c) (hshs : vs = .slice none 0 0 ∨ ∃ a n c, vs = .slice (some a) n c) (hn : bulkP ps ≤ 1048576) (hsn : sp.length ≤ 1048576) (ht : t.size ≤ 1048576) (hu : u.size ≤ 1048576) :
    Calls Try.prog 8 #[.string t, .string u, v, vs] w fun e w' => e = .returned (.bool true) ∧ Below w.heap.size w w' := by
  obtain ⟨i0, hi0, hz0, hz1, hz2⟩ := info_parts info48
  obtain ⟨s0, hs0, hy0, hy1, hy2⟩ := info_parts info45
  have hpl := bulkP_len ps
  have HPC := hideT (parse_any t (by omega))
  have HDC := hideT (docParse_any t (by omega))
  have hyl : (parseR t.data.toList).1.ps.length ≤ 16384 := by
    rcases parse_end t.data.toList with ⟨_, h⟩ | ⟨_, y, h, _, h2⟩
    · rw [h]; simp
    · rw [h]
      have h3 := bulkP_len y.out.ps
      rw [bulk_out] at h3
      omega
  generalize parseR t.data.toList = RT0 at *
  obtain ⟨y, er, pl⟩ := RT0
  have HV := hideT (And.intro hv (And.intro hvs (And.intro hshp hshs)))
  obtain ⟨pa, ca, rfl⟩ := hv.shape
  obtain ⟨pb, cb, rfl⟩ := hvs.shape
  clear hv hvs hshp hshs
  go_enter Try.func8, Try.ntmps8
  go_wp2_with fail
  refine (awake_any _).mono ?_
  rintro e w1 ⟨rfl, hb1⟩
  have H1 := hideT hb1
  clear hb1
  go_wp2_with (at_builtin; refine append_parts rfl _ _ rfl w.heap.size _ _ [] ps rfl (World.ownsRow_nil _ _ _ _) rfl (HV.out.1.stay H1.out (Nat.le_refl _)) HV.out.2.2.1 (by simp only [List.length_nil]; omega) H1.out.size ?_)
  intro v2 w2 hown2 hg2
  replace hown2 : w2.ownsRow w.heap.size 48 2 v2 ps.length (ptV ps) := hown2
  have hB2 := H1.out.grown hg2 H1.out.size (fun k hk => by cases hk)
  obtain ⟨a2, c2, rfl⟩ := owns_shape hown2
  have hA2 := (Below.refl w2.heap.size w2).alloc (Nat.le_refl _) (.cells #[.int .i64 77, .string ⟨#[]⟩] 48)
  have HN2 := hideT (new_cells w2 [.int .i64 77, .string ⟨#[]⟩] 48)
  have H2 := hideT (And.intro (owns_below hown2 hA2) (And.intro (hB2.trans (hA2.mono hB2.size)) (Nat.le_trans hB2.size hA2.size)))
  clear hown2 hg2 hB2 hA2
  go_wp2_with (at_builtin; refine wpList_append_lies _ rfl _ _ 22 rfl w.heap.size 48 i0 _ 2 24 und22 hi0 hz0 hz1 hz2 rfl (by omega) _ ps.length (ptV ps) rfl H2.out.1 ⟨w2.heap.size, 0, none⟩ 1 1 [.int .i64 77, .string ⟨#[]⟩] rfl rfl (fun j u hj => HN2.out j u hj) (by simp [Value.oneCell']) (by omega) (by unfold maxLen; omega) (by omega) H2.out.2.2 _ rfl ?_)
  intro gf cf w3 hown3 hg3 hat3 hlt3
  have hB3 := H2.out.2.1.grown hg3 H2.out.2.2 (fun k hk => (owns_blk H2.out.1 hk).1)
  have H3 := hideT (And.intro (show w3.ownsRow w.heap.size 48 2 (.slice (some ⟨gf, 0, none⟩) (ps.length + 1) cf) (ps.length + 1) (ptV (ps ++ [⟨77, bst []⟩])) by rw [ptV_app]; exact hown3) hB3)
  clear hown3 hg3 hat3 hlt3 hB3 HN2
  go_wp2_with (at_builtin; refine append_spans rfl _ _ rfl w.heap.size _ _ [] sp rfl (World.ownsRow_nil _ _ _ _) rfl (HV.out.2.1.stay H3.out.2 (Nat.le_refl _)) HV.out.2.2.2 (by simp only [List.length_nil]; omega) H3.out.2.size ?_)
  intro v4 w4 hown4 hg4
  replace hown4 : w4.ownsRow w.heap.size 45 2 v4 sp.length (spV sp) := hown4
  have hB4 := H3.out.2.grown hg4 H3.out.2.size (fun k hk => by cases hk)
  obtain ⟨a4, c4, rfl⟩ := owns_shape hown4
  have hA4 := (Below.refl w4.heap.size w4).alloc (Nat.le_refl _) (.cells #[.int .i64 78, .int .i64 0] 45)
  have HN4 := hideT (new_cells w4 [.int .i64 78, .int .i64 0] 45)
  have H4 := hideT (And.intro (owns_below hown4 hA4) (And.intro (hB4.trans (hA4.mono hB4.size)) (And.intro (Nat.le_trans hB4.size hA4.size) (owns_below (owns_grown H3.out.1 hg4 (fun g hg e => by cases e)) hA4))))
  clear hown4 hg4 hB4 hA4
  go_wp2_with (at_builtin; refine wpList_append_lies _ rfl _ _ 39 rfl w.heap.size 45 s0 _ 2 16 und39 hs0 hy0 hy1 hy2 rfl (by omega) _ sp.length (spV sp) rfl H4.out.1 ⟨w4.heap.size, 0, none⟩ 1 1 [.int .i64 78, .int .i64 0] rfl rfl (fun j u hj => HN4.out j u hj) (by simp [Value.oneCell']) (by omega) (by unfold maxLen; omega) (by omega) H4.out.2.2.1 _ rfl ?_)
  intro gm cm w5 hown5 hg5 hat5 hlt5
  have hB5 := H4.out.2.1.grown hg5 H4.out.2.2.1 (fun k hk => (owns_blk H4.out.1 hk).1)
  have hK5 : KpR w w5 ps sp gf cf gm cm := ⟨owns_grown H4.out.2.2.2 hg5 (fun g hg => owns_apart H4.out.2.2.2 H4.out.1 (by decide) g hg), by rw [spV_app]; exact hown5, hB5⟩
  have hcf : (ps.length : Int) ≤ (cf : Int) := by
    obtain ⟨g', c', e, h5, _⟩ := owns_some hK5.1 (by omega)
    cases e
    omega
  have hcm : (sp.length : Int) ≤ (cm : Int) := by
    obtain ⟨g', c', e, h5, _⟩ := owns_some hK5.2.1 (by omega)
    cases e
    omega
  have H5 := hideT hK5
  clear hown5 hg5 hat5 hlt5 hB5 HN4 hK5 H4 H3 H2 H1
  go_upto_region 9 with fail
  rename_i K9 hK9
  have ic0 : (0 : Int) ≤ (ps.length : Int) := by omega
  have ic1 : (0 : Int) ≤ (sp.length : Int) := by omega
  have hcf' : ps.length ≤ cf := by omega
  have hcm' : sp.length ≤ cm := by omega
  refine wp_region_held (S := (fun _ : World => True)) (by kernel_rfl) ?_
  refine' take_d 0 (some 37) rfl rfl (by kernel_rfl) (by kernel_rfl) (by kernel_rfl) (fun _ _ _ h => h) (by rfl) trivial ?hy1 ?rest1
  case hy1 => intro V _; go_simp; (try with_reducible rfl)
  refine' take_d 1 (some 38) rfl rfl (by kernel_rfl) (by kernel_rfl) (by kernel_rfl) (fun _ _ _ h => h) (by rfl) trivial ?hy2 ?rest2
  case hy2 => intro V _; go_simp; (try with_reducible rfl)
  refine' take_d 2 (some 39) rfl rfl (by kernel_rfl) (by kernel_rfl) (by kernel_rfl) (fun _ _ _ h => h) (by rfl) trivial ?hy3 ?rest3
  case hy3 => intro V _; go_simp; (try with_reducible rfl)
  refine' take_d 3 (some 40) rfl rfl (by kernel_rfl) (by kernel_rfl) (by kernel_rfl) (fun _ _ _ h => h) (by rfl) trivial ?hy4 ?rest4
  case hy4 => intro V _; go_simp; (try with_reducible rfl)
  refine' take_d 4 (some 41) rfl rfl (by kernel_rfl) (by kernel_rfl) (by kernel_rfl) (fun _ _ _ h => h) (by rfl) trivial ?hy5 ?rest5
  case hy5 => intro V _; go_simp; (try with_reducible rfl)
  refine' take_d 5 (some 42) rfl rfl (by kernel_rfl) (by kernel_rfl) (by kernel_rfl) (fun _ _ _ h => h) (by rfl) trivial ?hy6 ?rest6
  case hy6 => intro V _; go_simp; (try with_reducible rfl)
  refine' take_d 6 (some 43) rfl rfl (by kernel_rfl) (by kernel_rfl) (by kernel_rfl) (fun _ _ _ h => h) (by rfl) trivial ?hy7 ?rest7
  case hy7 => intro V _; go_simp; (try with_reducible rfl)
  refine' take_d 7 (some 44) rfl rfl (by kernel_rfl) (by kernel_rfl) (by kernel_rfl) (fun _ _ _ h => h) (by rfl) trivial ?hy8 ?rest8
  case hy8 => intro V _; go_simp; (try with_reducible rfl)
  refine' take_d 8 (some 45) rfl rfl (by kernel_rfl) (by kernel_rfl) (by kernel_rfl) (fun _ _ _ h => h) (by rfl) trivial ?hy9 ?rest9
  case hy9 => intro V _; go_simp; (try with_reducible rfl)
  refine wpAnyH_all (rs := [9]) (by kernel_rfl) (by simp) (fun i hi => ?_)
  obtain rfl : i = 9 := List.mem_singleton.1 hi
  have hB9 := build_any (.slice (some ⟨gf, 0, none⟩) ps.length cf) (.slice (some ⟨gm, 0, none⟩) sp.length cm) ps u sp w5.drew (H5.out.parts.stay ((Below.refl _ w5).drew) (Nat.le_refl _)) (H5.out.spans.stay ((Below.refl _ w5).drew) (Nat.le_refl _)) (by omega) (fun p hp => by have := bulkP_mem ps p hp; omega) (by omega)
  generalize buildR u.data.toList sp ps [] = RB at *
  obtain ⟨lb, eb⟩ := RB
  refine op_call (some 46) rfl rfl (by rfl) (by go_simp; (try with_reducible rfl)) (R := fun v w' => v = .tuple #[.string (bst lb), .int .i64 (eb : Nat)] ∧ Below w5.heap.size w5 w') (hB9.mono (fun e w' h => ⟨_, h.1, rfl, (Below.refl _ w5).drew.trans h.2⟩)) ?_
  rintro v9 w6 ⟨rfl, hb6⟩
  refine And.intro trivial ?_
  refine wpAnyH_done (by kernel_rfl) ?_ _
  refine hK9 _ _ ?_
  have H6 := hideT (H5.out.stay hb6)
  clear hb6 hB9 H5
  simp only [Act.put, List.setIfInBounds_toArray, List.set_cons_zero, List.set_cons_succ]
  go_wp2_with fail
  have htx := text_any _ ps w6 H6.out.parts hn
  generalize txR (textR ps []) = RT at *
  obtain ⟨lt, et⟩ := RT
  refine htx.mono ?_
  rintro e w7 ⟨rfl, hb7⟩
  have H7 := hideT (H6.out.stay hb7)
  clear hb7 htx H6
  go_wp2_with fail
  refine (refs_any _ ps w7 H7.out.parts (by omega)).mono ?_
  rintro e w8 ⟨rfl, hb8⟩
  have H8 := hideT (H7.out.stay hb8)
  clear hb8 H7
  generalize refsN ps 0 = rn at *
  go_wp2_with fail
  refine (same_any _ _ ps w8 H8.out.parts (HV.out.1.stay H8.out.2.2 (Nat.le_refl _)) (by omega)).mono ?_
  rintro e w9 ⟨rfl, hb9⟩
  have hK9b := H8.out.stay hb9
  have l1 := own_last hK9b.1
  have l2 := own_lastS hK9b.2.1
  have H9 := hideT hK9b
  clear hb9 H8 hK9b
  have x1 : (ps.length : Int) < (ps.length : Int) + 1 := by omega
  have x2 : (sp.length : Int) < (sp.length : Int) + 1 := by omega
  go_wp2_with fail
  clear l1 l2
  go_loopw [84] (fun i wr => ∃ k : Nat, k ≤ sp.length ∧ i = .int .i64 k ∧ KpR w wr ps sp gf cf gm cm) (fun i _ => sp.length - (intOf i).toNat)
  case atStart => exact ⟨0, by omega, rfl, H9.out⟩
  case round =>
    obtain ⟨k, hk, rfl, hKr⟩ := hrel
    by_cases hlt : k < sp.length
    · have i1 : (k : Int) < (sp.length : Int) := by omega
      have i2 : (0 : Int) ≤ (k : Int) := by omega
      have i3 : (k : Int) < (sp.length : Int) + 1 := by omega
      obtain ⟨m1, m2⟩ := own_atS hKr.2.1 k hlt
      rcases HV.out.2.1 with ⟨e1, -⟩ | ⟨gs, os, cs, e1, hsc⟩
      · rw [e1] at hlt; simp at hlt
      cases e1
      obtain ⟨n1, n2⟩ := hsc k hlt
      have q1 := (hKr.2.2.cell (p := ⟨gs, os + k * 2, none⟩) (cell_lt n1)).trans n1
      have q2 := (hKr.2.2.cell (p := ⟨gs, os + k * 2 + 1, none⟩) (cell_lt n2)).trans n2
      have hA := (Below.refl wr.heap.size wr).alloc (Nat.le_refl _) (.cells #[.int .i64 sp[k].1, .int .i64 sp[k].2] 45)
      have HK := hideT (hKr.stay hA)
      have p1 := keep_cell hA m1
      have p2 := keep_cell hA m2
      have nb := new_cell wr [.int .i64 sp[k].1, .int .i64 sp[k].2] 45
      have r1 := nb 0 _ rfl
      have r2 := nb 1 _ rfl
      clear hKr hA n1 n2 hsc nb
      generalize sp[k].1 = sf at *
      generalize sp[k].2 = st at *
      go_upto_region 17 with fail
      generalize wr.alloc (.cells #[.int .i64 sf, .int .i64 st] 45) = X at *
      go_quiet (fail)
      go_wp2
      exact ⟨⟨k + 1, by omega, by go_num, HK.out.stay (below_drewN _ _ _)⟩, by simp [intOf]; omega⟩
    · obtain rfl : k = sp.length := by omega
      have HKR := hideT hKr.2.2
      clear hKr
      go_wp2_with fail
      refine (HPC.out _).mono ?_
      rintro e wa ⟨va, rfl, hOa, hba⟩
      obtain ⟨aa, ka, rfl⟩ := owns_shape hOa
      have hA1 := (Below.refl wa.heap.size wa).alloc (Nat.le_refl _) (.cells #[.int .i64 (er : Nat), .int .i64 (pl : Nat)] 25)
      have hB1 := HKR.out.trans (hba.mono HKR.out.size)
      have H1 := hideT (And.intro (owns_mono (owns_below hOa hA1) HKR.out.size) (And.intro (hB1.trans (hA1.mono hB1.size)) (show ∀ g, (Value.slice aa y.ps.length ka).ownBlock = some g → g < wa.heap.size + 1 from fun g hg => Nat.lt_succ_of_lt (owns_blk hOa hg).2.1)))
      have HBW := hideT hB1.size
      clear hA1 hB1 hba hOa
      go_wp2_with fail
      refine (HPC.out _).mono ?_
      rintro e wb ⟨vb, rfl, hOb, hbb⟩
      obtain ⟨ab, kb, rfl⟩ := owns_shape hOb
      rw [World.size_alloc] at hOb
      have hA2 := (Below.refl wb.heap.size wb).alloc (Nat.le_refl _) (.cells #[.int .i64 (er : Nat), .int .i64 (pl : Nat)] 25)
      have hB2 := H1.out.2.1.trans (hbb.mono H1.out.2.1.size)
      have H2 := hideT (And.intro (owns_below (owns_below H1.out.1 hbb) hA2) (And.intro (owns_below hOb hA2) (And.intro (hB2.trans (hA2.mono hB2.size)) (show wa.heap.size + 1 ≤ wb.heap.size + 1 by have := hbb.size; rw [World.size_alloc] at this; omega))))
      clear hA2 hB2 hbb hOb
      go_wp2_with fail
      refine (HDC.out _).mono ?_
      rintro e wc ⟨vc, rfl, hOc, hbc⟩
      obtain ⟨ac, kc, rfl⟩ := owns_shape hOc
      rw [World.size_alloc] at hOc
      have hQ : KqR w wc (wa.heap.size + 1) y.ps.length (.slice aa y.ps.length ka) (.slice ab y.ps.length kb) (.slice ac y.ps.length kc) y.ps := ⟨⟨y.ps, rfl, owns_below H2.out.1 hbc⟩, owns_below H2.out.2.1 hbc, owns_mono hOc H2.out.2.2.2, H2.out.2.2.1.trans (hbc.mono H2.out.2.2.1.size)⟩
      have HQ0 := hideT hQ
      have HLT := hideT H1.out.2.2
      clear hQ hOc hbc H2 H1
      obtain ⟨Bb, hBb⟩ : ∃ Bb, wa.heap.size + 1 = Bb := ⟨_, rfl⟩
      have HBB := hideT (show w.heap.size ≤ Bb by rw [← hBb]; have := HBW.out; omega)
      rw [hBb] at HQ0 HLT
      clear hBb
      obtain ⟨ys, hys⟩ : ∃ ys, y.ps = ys := ⟨_, rfl⟩
      rw [hys] at HQ0 HLT hyl ⊢
      clear hys
      go_wp2_with fail
      go_loopw [114] (fun i wq => ∃ k : Nat, k ≤ ys.length ∧ i = .int .i64 k ∧ KqR w wq Bb ys.length (.slice aa ys.length ka) (.slice ab ys.length kb) (.slice ac ys.length kc) ys) (fun i _ => ys.length - (intOf i).toNat)
      case atStart => exact ⟨0, by omega, rfl, HQ0.out⟩
      case round =>
        obtain ⟨k2, hk2, rfl, hQr⟩ := hrel
        by_cases hlt2 : k2 < ys.length
        · have i1 : (k2 : Int) < (ys.length : Int) := by omega
          have i2 : (0 : Int) ≤ (k2 : Int) := by omega
          obtain ⟨⟨qs, hql, hqa⟩, hqb, hqc, hqB⟩ := hQr
          obtain ⟨ga, kga, e1, hgc, hgl⟩ := owns_some hqa (by omega)
          cases e1
          obtain ⟨hgB, _, cur, hgh⟩ := owns_blk (g := ga) hqa rfl
          have h0 := ptV_at qs k2 (qs[k2]'(by omega)) (List.getElem?_eq_getElem (by omega))
          have hplain : ∀ j, (⟨ga, 0, none⟩ : Addr).add j = ⟨ga, j, none⟩ := fun j => by unfold Addr.add; split <;> simp_all
          have c0 := hqa.cells (g := ga) rfl _ _ h0.1
          have c1 := hqa.cells (g := ga) rfl _ _ h0.2
          rw [hplain] at c0 c1
          have f0 : wr.frozen? ⟨ga, k2 * 2, none⟩ = false := by simp [World.frozen?, hgh]
          have f1 : wr.frozen? ⟨ga, k2 * 2 + 1, none⟩ = false := by simp [World.frozen?, hgh]
          have hglB := HLT.out ga rfl
          have hnew := owns_set (owns_set hqa (k2 * 2) (.int .i64 66)) (k2 * 2 + 1) (.string ⟨#[109, 97, 114, 107]⟩)
          rw [ptV_put qs k2 66 ⟨#[109, 97, 114, 107]⟩ (by omega)] at hnew
          have keep : ∀ (vx : Value) (xs : List Value), wr.ownsRow Bb 48 2 vx ys.length xs → ((wr.setCell ⟨ga, k2 * 2, none⟩ (.int .i64 66)).setCell ⟨ga, k2 * 2 + 1, none⟩ (.string ⟨#[109, 97, 114, 107]⟩)).ownsRow Bb 48 2 vx ys.length xs := fun vx xs hx => owns_keep hx (fun g hg => by
            have := (owns_blk hx hg).1
            rw [put_far _ _ _ _ (by omega), put_far _ _ _ _ (by omega)])
          have HN := hideT (show KqR w ((wr.setCell ⟨ga, k2 * 2, none⟩ (.int .i64 66)).setCell ⟨ga, k2 * 2 + 1, none⟩ (.string ⟨#[109, 97, 114, 107]⟩)) Bb ys.length (.slice (some ⟨ga, 0, none⟩) ys.length ka) (.slice ab ys.length kb) (.slice ac ys.length kc) ys from ⟨⟨qs.set k2 ⟨66, ⟨#[109, 97, 114, 107]⟩⟩, by rw [List.length_set]; exact hql, hnew⟩, keep _ _ hqb, keep _ _ hqc, (hqB.setCell (p := ⟨ga, k2 * 2, none⟩) hgB (.int .i64 66)).setCell (p := ⟨ga, k2 * 2 + 1, none⟩) hgB (.string ⟨#[109, 97, 114, 107]⟩)⟩)
          clear hqa hqb hqc hqB hnew keep hgh h0 hplain hgc hgl
          go_wp2
          exact ⟨⟨k2 + 1, by omega, by go_num, HN.out⟩, by simp [intOf]; omega⟩
        · obtain rfl : k2 = ys.length := by omega
          obtain ⟨⟨qs, hql, hqa⟩, hqb, hqc, hqB⟩ := hQr
          have hA := (Below.refl wr.heap.size wr).alloc (Nat.le_refl _) (.cells #[.int .i64 67, .string ⟨#[]⟩] 48)
          have HN := hideT (new_cells wr [.int .i64 67, .string ⟨#[]⟩] 48)
          have H3 := hideT (And.intro (owns_below hqa hA) (And.intro (owns_below hqb hA) (And.intro (owns_below hqc hA) (And.intro (hqB.trans (hA.mono hqB.size)) (Nat.le_trans hqB.size hA.size)))))
          clear hqa hqb hqc hqB hA
          go_wp2_with (at_builtin; refine wpList_append_lies _ rfl _ _ 22 rfl w.heap.size 48 i0 _ 2 24 und22 hi0 hz0 hz1 hz2 rfl (by omega) _ ys.length (ptV qs) rfl H3.out.1 ⟨wr.heap.size, 0, none⟩ 1 1 [.int .i64 67, .string ⟨#[]⟩] rfl rfl (fun j u hj => HN.out j u hj) (by simp [Value.oneCell']) (by omega) (by unfold maxLen; omega) (by omega) H3.out.2.2.2.2 _ rfl ?_)
          intro g1 c1 x1 hown1 hg1 hat1 hlt1
          have ap : ∀ (vx : Value) (xs : List Value), (wr.alloc (.cells #[.int .i64 67, .string ⟨#[]⟩] 48)).ownsRow Bb 48 2 vx ys.length xs → x1.ownsRow Bb 48 2 vx ys.length xs ∧ ∀ g, vx.ownBlock = some g → g ≠ g1 := fun vx xs hx => ⟨owns_grown hx hg1 (fun g hg e2 => by
            have h1 := HLT.out g e2
            have h2 := (owns_blk hx hg).1
            omega), fun g hg e2 => by
            obtain ⟨h2, h3, _⟩ := owns_blk hx hg
            rcases hat1 with h4 | h4
            · have h1 := HLT.out g1 h4
              omega
            · rw [World.size_alloc] at h3
              omega⟩
          have hB4 := H3.out.2.2.2.1.grown hg1 H3.out.2.2.2.2 (fun k hk => (owns_blk H3.out.1 hk).1)
          have H4 := hideT (And.intro (show x1.ownsRow w.heap.size 48 2 (.slice (some ⟨g1, 0, none⟩) (ys.length + 1) c1) (ys.length + 1) (ptV (qs ++ [⟨67, bst []⟩])) by rw [ptV_app]; exact hown1) (And.intro (ap _ _ H3.out.2.1) (And.intro (ap _ _ H3.out.2.2.1) hB4)))
          clear hown1 hg1 hat1 hlt1 ap hB4 HN H3
          go_wp2_with fail
          refine (same_any _ _ ys x1 (PRow.of_owns H4.out.2.1.1) (PRow.of_owns H4.out.2.2.1.1) (by omega)).mono ?_
          rintro e x2 ⟨rfl, hb2⟩
          have hA5 := (Below.refl x2.heap.size x2).alloc (Nat.le_refl _) (.cells #[.int .i64 68, .string ⟨#[]⟩, .int .i64 69, .string ⟨#[]⟩] 48)
          have HN5 := hideT (new_cells x2 [.int .i64 68, .string ⟨#[]⟩, .int .i64 69, .string ⟨#[]⟩] 48)
          have hB5 := H4.out.2.2.2.trans (hb2.mono H4.out.2.2.2.size)
          have H5 := hideT (And.intro (owns_below (owns_below H4.out.1 hb2) hA5) (And.intro (owns_below (owns_below H4.out.2.1.1 hb2) hA5) (And.intro (hB5.trans (hA5.mono hB5.size)) (Nat.le_trans hB5.size hA5.size))))
          clear hb2 hA5 hB5
          go_wp2_with (at_builtin; refine wpList_append_lies _ rfl _ _ 22 rfl w.heap.size 48 i0 _ 2 24 und22 hi0 hz0 hz1 hz2 rfl (by omega) _ ys.length (ptV ys) rfl (owns_mono H5.out.2.1 HBB.out) ⟨x2.heap.size, 0, none⟩ 2 2 [.int .i64 68, .string ⟨#[]⟩, .int .i64 69, .string ⟨#[]⟩] rfl rfl (fun j u hj => HN5.out j u hj) (by simp [Value.oneCell']) (by omega) (by unfold maxLen; omega) (by omega) H5.out.2.2.2 _ rfl ?_)
          intro g2 c2' x3 hown3 hg3 hat3 hlt3
          have ha3 := owns_grown H5.out.1 hg3 (fun g hg e2 => by
            cases hg
            exact H4.out.2.1.2 g1 e2 rfl)
          have l1 := own_last ha3
          rw [hql] at l1
          have l2 := own_last (l := ys ++ [⟨68, bst []⟩]) (p := ⟨69, bst []⟩) (B := w.heap.size) (g := g2) (n := ys.length + 2) (c := c2') (W := x3) (by
            rw [List.append_assoc, ptV_app]
            exact hown3)
          rw [List.length_append, List.length_singleton] at l2
          have H6 := hideT (H5.out.2.2.1.grown hg3 H5.out.2.2.2 (fun k hk => Nat.le_trans HBB.out (owns_blk H5.out.2.1 hk).1))
          have z1 : IntKind.i64.wrap ((ys.length : Int) + 1 - 1) = (ys.length : Int) := by rw [IntKind.wrap_i64]; omega
          have z2 : IntKind.i64.wrap ((ys.length : Int) + 2 - 1) = (ys.length : Int) + 1 := by rw [IntKind.wrap_i64]; omega
          have z3 : (ys.length : Int) < (ys.length : Int) + 1 := by omega
          have z4 : (ys.length : Int) + 1 < (ys.length : Int) + 2 := by omega
          have z5 : (0 : Int) ≤ (ys.length : Int) := by omega
          clear hown3 hg3 hat3 hlt3 ha3 HN5
          go_wp2
          go_ret
          exact ⟨rfl, H6.out⟩

end Go.Proofs.Ytbncokfpkkmoiaa
