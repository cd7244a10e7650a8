/- tally: Ways. ways: what Parse answers can be laid; Count. WaysRuns: what is reckoned. -/
import Derived.Test.YtolpakpdkheanaaKNd
import Derived.Test.YtolpakpdkheanaaKMf
set_option maxRecDepth 100000
set_option maxHeartbeats 4000000
namespace Go.Proofs.Ytolpakpdkheanaa.tly
open Go.RowKit Go.Maps Go.WideMaps Go.Proofs.Ytolpakpdkheanaa.br
theorem ways_eq (p : Tp) (s : ByteArray) (at_ r : Nat) (h : at_ + r = s.size) : waysF p (tabT p) (bnS s) at_ = moreR (tabT p) (bnS s) r (eat p.eds (kindAt s.size at_)).fi (bif (eat p.eds (kindAt s.size at_)).no then 1 else 0) := by
 unfold waysF
 rw [bnS_len]
 dsimp only
 cases r with
 | zero =>
  have : at_ = s.size := h
  rw [this, Nat.beq_refl, cond_true]; rfl
 | succ r =>
  have hb : Nat.beq at_ s.size = false := by cases e' : Nat.beq at_ s.size with | false => rfl | true => exact absurd (Nat.eq_of_beq_eq_true e') (by omega)
  rw [hb, cond_false, show s.size - at_ - 1 = r by omega]; rfl
variable {s : ByteArray} {X T gt gn gl : Nat} {ge : Nat → Nat} {lo M : Nat}
theorem lst_at (u : Nat → Value) {k j : Nat} (hk : k < 4) (hj : j < 3) (ag : List Value) (h9 : ag.length = 9) : (ag ++ lst12 u)[9 + k * 3 + j]? = some (u (k * 3 + j)) := by
 rw [List.getElem?_append_right (by omega), h9, show 9 + k * 3 + j - 9 = k * 3 + j by omega]
 exact lst12_get u (by omega)
theorem ways_any {p : Tp} (hp : OkP p) (hs : s.size ≤ 1024) {W : World} (hT : TcV W X T s (tabT p) gt gn gl ge lo M) {c : Nat} (h0 : W.cell? ⟨T, 0, none⟩ = some (.pointer (some ⟨c, 0, none⟩))) {S : Nat → Prop} (hpt : PtAt W S c p) (hS : ∀ k, S k → k < W.heap.size) (hN : (tabT p).takes.length = p.size) {at_ : Nat} (hlo : lo ≤ at_) (hat : at_ ≤ s.size) :
 Calls Try.prog 16 #[.pointer (some ⟨T, 0, none⟩), .int .i64 (at_ : Nat)] W fun e W' => e = .returned (.int .i64 (waysF p (tabT p) (bnS s) at_ : Nat)) ∧ TcV W' X T s (tabT p) gt gn gl ge lo M ∧ TiF M M W W' := by
 obtain ⟨r, hr⟩ : ∃ r, at_ + r = s.size := ⟨s.size - at_, by omega⟩
 have hf := fitB_tab hp hs hN
 obtain ⟨kk, hkk⟩ : ∃ kk, kk = kindAt s.size at_ := ⟨_, rfl⟩
 have hk4 : kk < 4 := by rw [hkk]; exact kind_lt _ _
 have hwe := ways_eq p s at_ r hr
 rw [← hkk] at hwe
 have hkd : ∀ V : World, Below W.heap.size W V → Calls Try.prog 26 #[.pointer (some ⟨T, 0, none⟩), .int .i64 (at_ : Nat)] V fun e V' => e = .returned (.int .i64 (kk : Nat)) ∧ V' = V := fun V hV => by rw [hkk]; exact kind_any (W := V) at_ (hT.ta.below hV).c1
 obtain ⟨vl, u, cs, vs, blk, hl, hv, ol, sl, es, bh, kids⟩ := hpt.parts
 obtain ⟨faf, laf, fcf, lcf, hE⟩ := es.fn
 obtain ⟨y0, y1, y2, y3, y4⟩ := hE kk hk4
 obtain ⟨no, hno⟩ : ∃ no, no = (eat p.eds kk).no := ⟨_, rfl⟩
 obtain ⟨fi, hfi⟩ : ∃ fi, fi = (eat p.eds kk).fi := ⟨_, rfl⟩
 have hfok : StOk (tabT p).takes.length fi := by rw [hfi, hN]; exact (hp.ed.at kk).1
 rw [← hno] at y0 hwe
 rw [← hfi] at y1 y3 hwe
 generalize faf kk = fa at *
 generalize laf kk = la at *
 generalize fcf kk = fc at *
 generalize lcf kk = lc at *
 generalize (eat p.eds kk).la.length = ln at *
 have z0 := (cells_at blk (lst_at u (k := kk) (j := 0) hk4 (by decide) _ rfl)).1
 have z1 := (cells_at blk (lst_at u (k := kk) (j := 1) hk4 (by decide) _ rfl)).1
 have z2 := (cells_at blk (lst_at u (k := kk) (j := 2) hk4 (by decide) _ rfl)).1
 rw [Nat.add_zero] at z0
 rw [Nat.add_zero, y0] at z0
 rw [y1] at z1
 rw [y2] at z2
 have hS0 : (fun V : World => V.cell? ⟨T, 0, none⟩ = some (.pointer (some ⟨c, 0, none⟩)) ∧ V.cell? ⟨c, 9 + kk * 3, none⟩ = some (.bool no) ∧ V.cell? ⟨c, 9 + kk * 3 + 1, none⟩ = some (.slice fa fi.length fc) ∧ V.cell? ⟨c, 9 + kk * 3 + 2, none⟩ = some (.slice la ln lc)) W.drew := ⟨h0, z0, z1, z2⟩
 have hTU := hT
 have hFU : TiF M M W W := TiF.refl _ _ _
 have hfr : StR W S (.slice fa fi.length fc) fi := y3
 have hSU : ∀ k, S k → k < W.heap.size := hS
 have HH := hideT (And.intro hTU (And.intro hFU (And.intro hfr (And.intro hSU (And.intro hfok (And.intro hf (And.intro hr hlo)))))))
 have HW := hideT hwe
 have j1 : (kk : Int) < 4 := by omega
 have j2 : (0 : Int) ≤ (kk : Int) := by omega
 have ja : (at_ : Int) ≤ 1024 := by omega
 clear hT h0 hpt hS hlo hat hr hf hkk hwe blk hl hv ol sl es bh kids hE y0 y1 y2 y3 y4 hno hfi hfok z0 z1 z2 hTU hFU hfr hSU hN hp
 go_enter Try.func16, Try.ntmps16
 go_upto_region 1 with fail
 rename_i K1 hK1
 go_cut [5] from 7 to 17 (fun s5 V => ∃ C5 : Nat, s5 = .pointer (some ⟨C5, 0, none⟩) ∧ Hid (Below W.heap.size W V ∧ V.heap[C5]? = some (.cells ([.bool no, .slice fa fi.length fc, .slice la ln lc] : List Value).toArray 83 (0, 0))))
 case first =>
  rename_i K2 hK2
  refine wp_region_held (S := fun V : World => V.cell? ⟨T, 0, none⟩ = some (.pointer (some ⟨c, 0, none⟩)) ∧ V.cell? ⟨c, 9 + kk * 3, none⟩ = some (.bool no) ∧ V.cell? ⟨c, 9 + kk * 3 + 1, none⟩ = some (.slice fa fi.length fc) ∧ V.cell? ⟨c, 9 + kk * 3 + 2, none⟩ = some (.slice la ln lc)) (by kernel_rfl) ?_
  show wpAnyH _ _ _ _ _ _ _ _ W.drew
  have hb0 := drew_below W.heap.size W
  have hz0 : W.heap.size ≤ W.drew.heap.size := Nat.le_refl _
  generalize W.drew = U at *
  refine tq 0 7 hS0 ?_
  refine tq 1 8 hS0 ?_
  refine tq 2 9 hS0 ?_
  refine tq 3 10 hS0 ?_
  simp only [Act.put, List.setIfInBounds_toArray, List.set_cons_zero, List.set_cons_succ]
  refine tq 4 11 hS0 ?_
  refine tq 5 12 hS0 ?_
  refine tq 7 14 hS0 ?_
  refine tq 8 15 hS0 ?_
  simp only [Act.put, List.setIfInBounds_toArray, List.set_cons_zero, List.set_cons_succ]
  refine wpAnyH_all (rs := [6, 11]) (by kernel_rfl) (by simp) (fun j hj => ?_)
  simp only [List.mem_cons, List.not_mem_nil, or_false] at hj
  rcases hj with rfl | rfl
  · refine op_call (R := fun v w7 => v = .int .i64 (kk : Nat) ∧ w7 = U) (f := 26) (some 13) rfl rfl (by rfl) (by go_simp; (try with_reducible rfl)) ((hkd U hb0).mono ?_) ?_
    · rintro e w7 ⟨rfl, rfl⟩
      exact ⟨_, rfl, rfl, rfl⟩
    rintro v w7 ⟨rfl, rfl⟩
    refine ⟨hS0, ?_⟩
    simp only [Act.put, List.setIfInBounds_toArray, List.set_cons_zero, List.set_cons_succ]
    refine tq 9 16 hS0 ?_
    refine tq 10 17 hS0 ?_
    simp only [Act.put, List.setIfInBounds_toArray, List.set_cons_zero, List.set_cons_succ]
    refine wpAnyH_all (rs := [11]) (by kernel_rfl) (by simp) (fun j hj => ?_)
    obtain rfl : j = 11 := List.mem_singleton.1 hj
    clear hj
    obtain ⟨C5, V2, e1, e2, f5, b5⟩ := mk_step w7 (.cells #[.bool false, .slice none 0 0, .slice none 0 0] 83)
    refine op_value (some 5) (v := .pointer (some ⟨C5, 0, none⟩)) (w' := V2) rfl rfl (by rfl) (by rw [e1, e2]; go_simp; (try with_reducible rfl)) ?_
    have hC5 : w7.heap.size ≤ C5 := by rw [e2]; exact Nat.le_refl _
    clear e1 e2
    have hS1 : (fun V : World => V.cell? ⟨T, 0, none⟩ = some (.pointer (some ⟨c, 0, none⟩)) ∧ V.cell? ⟨c, 9 + kk * 3, none⟩ = some (.bool no) ∧ V.cell? ⟨c, 9 + kk * 3 + 1, none⟩ = some (.slice fa fi.length fc) ∧ V.cell? ⟨c, 9 + kk * 3 + 2, none⟩ = some (.slice la ln lc)) V2 := ⟨keep_cell b5 hS0.1, keep_cell b5 hS0.2.1, keep_cell b5 hS0.2.2.1, keep_cell b5 hS0.2.2.2⟩
    refine And.intro hS1 ?_
    simp only [Act.put, List.setIfInBounds_toArray, List.set_cons_zero, List.set_cons_succ]
    refine wpAnyH_all (rs := [12]) (by kernel_rfl) (by simp) (fun j hj => ?_)
    obtain rfl : j = 12 := List.mem_singleton.1 hj
    clear hj
    have hb6 := below_setCells (B := w7.heap.size) C5 hC5 [.bool no, .slice fa fi.length fc, .slice la ln lc] V2 0 b5
    have hw6 := setCells_whole (W := V2) (b := C5) (t := 83) (fr := (0, 0)) (cs := [.bool false, .slice none 0 0, .slice none 0 0]) [.bool no, .slice fa fi.length fc, .slice la ln lc] f5 rfl
    have hS2 : (fun V : World => V.cell? ⟨T, 0, none⟩ = some (.pointer (some ⟨c, 0, none⟩)) ∧ V.cell? ⟨c, 9 + kk * 3, none⟩ = some (.bool no) ∧ V.cell? ⟨c, 9 + kk * 3 + 1, none⟩ = some (.slice fa fi.length fc) ∧ V.cell? ⟨c, 9 + kk * 3 + 2, none⟩ = some (.slice la ln lc)) (V2.setCells C5 0 [.bool no, .slice fa fi.length fc, .slice la ln lc]) := ⟨keep_cell hb6 hS0.1, keep_cell hb6 hS0.2.1, keep_cell hb6 hS0.2.2.1, keep_cell hb6 hS0.2.2.2⟩
    refine op_store 83 5 17 C5 [.bool no, .slice fa fi.length fc, .slice la ln lc] rfl rfl rfl rfl rfl rfl (there_block (cs := [.bool false, .slice none 0 0, .slice none 0 0]) f5 _ rfl) (by rw [show (Try.prog.info? 83).map (·.size) = some 3 by kernel_rfl]; rfl) (by simp [Value.oneCell']) ⟨hS2, ?_⟩
    refine wpAnyH_done (by kernel_rfl) (hK2 _ _ ?_) _
    simp only [Act.put]
    have HF := hideT (And.intro (hb0.trans (hb6.mono hz0)) hw6)
    go_meet
    exact ⟨C5, rfl, HF⟩
  · obtain ⟨C5, V2, e1, e2, f5, b5⟩ := mk_step U (.cells #[.bool false, .slice none 0 0, .slice none 0 0] 83)
    refine op_value (some 5) (v := .pointer (some ⟨C5, 0, none⟩)) (w' := V2) rfl rfl (by rfl) (by rw [e1, e2]; go_simp; (try with_reducible rfl)) ?_
    have hC5 : U.heap.size ≤ C5 := by rw [e2]; exact Nat.le_refl _
    clear e1 e2
    have hS1 : (fun V : World => V.cell? ⟨T, 0, none⟩ = some (.pointer (some ⟨c, 0, none⟩)) ∧ V.cell? ⟨c, 9 + kk * 3, none⟩ = some (.bool no) ∧ V.cell? ⟨c, 9 + kk * 3 + 1, none⟩ = some (.slice fa fi.length fc) ∧ V.cell? ⟨c, 9 + kk * 3 + 2, none⟩ = some (.slice la ln lc)) V2 := ⟨keep_cell b5 hS0.1, keep_cell b5 hS0.2.1, keep_cell b5 hS0.2.2.1, keep_cell b5 hS0.2.2.2⟩
    refine And.intro hS1 ?_
    simp only [Act.put, List.setIfInBounds_toArray, List.set_cons_zero, List.set_cons_succ]
    refine wpAnyH_all (rs := [6]) (by kernel_rfl) (by simp) (fun j hj => ?_)
    obtain rfl : j = 6 := List.mem_singleton.1 hj
    clear hj
    have hb2 := hb0.trans (b5.mono hz0)
    refine op_call (R := fun v w7 => v = .int .i64 (kk : Nat) ∧ w7 = V2) (f := 26) (some 13) rfl rfl (by rfl) (by go_simp; (try with_reducible rfl)) ((hkd V2 hb2).mono ?_) ?_
    · rintro e w7 ⟨rfl, rfl⟩
      exact ⟨_, rfl, rfl, rfl⟩
    rintro v w7 ⟨rfl, rfl⟩
    refine ⟨hS1, ?_⟩
    simp only [Act.put, List.setIfInBounds_toArray, List.set_cons_zero, List.set_cons_succ]
    refine tq 9 16 hS1 ?_
    refine tq 10 17 hS1 ?_
    simp only [Act.put, List.setIfInBounds_toArray, List.set_cons_zero, List.set_cons_succ]
    refine wpAnyH_all (rs := [12]) (by kernel_rfl) (by simp) (fun j hj => ?_)
    obtain rfl : j = 12 := List.mem_singleton.1 hj
    clear hj
    have hb6 := below_setCells (B := U.heap.size) C5 hC5 [.bool no, .slice fa fi.length fc, .slice la ln lc] w7 0 b5
    have hw6 := setCells_whole (W := w7) (b := C5) (t := 83) (fr := (0, 0)) (cs := [.bool false, .slice none 0 0, .slice none 0 0]) [.bool no, .slice fa fi.length fc, .slice la ln lc] f5 rfl
    have hS2 : (fun V : World => V.cell? ⟨T, 0, none⟩ = some (.pointer (some ⟨c, 0, none⟩)) ∧ V.cell? ⟨c, 9 + kk * 3, none⟩ = some (.bool no) ∧ V.cell? ⟨c, 9 + kk * 3 + 1, none⟩ = some (.slice fa fi.length fc) ∧ V.cell? ⟨c, 9 + kk * 3 + 2, none⟩ = some (.slice la ln lc)) (w7.setCells C5 0 [.bool no, .slice fa fi.length fc, .slice la ln lc]) := ⟨keep_cell hb6 hS0.1, keep_cell hb6 hS0.2.1, keep_cell hb6 hS0.2.2.1, keep_cell hb6 hS0.2.2.2⟩
    refine op_store 83 5 17 C5 [.bool no, .slice fa fi.length fc, .slice la ln lc] rfl rfl rfl rfl rfl rfl (there_block (cs := [.bool false, .slice none 0 0, .slice none 0 0]) f5 _ rfl) (by rw [show (Try.prog.info? 83).map (·.size) = some 3 by kernel_rfl]; rfl) (by simp [Value.oneCell']) ⟨hS2, ?_⟩
    refine wpAnyH_done (by kernel_rfl) (hK2 _ _ ?_) _
    simp only [Act.put]
    have HF := hideT (And.intro (hb0.trans (hb6.mono hz0)) hw6)
    go_meet
    exact ⟨C5, rfl, HF⟩
 case rest =>
 obtain ⟨C5, rfl, HF⟩ := hcut
 refine hK1 _ _ ?_
 have q0 := (cells_at HF.out.2 (j := 0) rfl).1
 have q1 := (cells_at HF.out.2 (j := 1) rfl).1
 have hb6 := HF.out.1
 clear hK1 hS0 hkd
 generalize wc = Z at *
 obtain ⟨hTU, hFU, hfr, hSU, hfok, hf, hr, hlo⟩ := HH.out
 have hTZ := hTU.below hb6
 have hFZ := hFU.trans (TiF.of (gt := M) (gn := M) hb6)
 have hfz := hfr.keep (fun g hg => hb6.block g (hSU g hg)) (fun _ h => h)
 have hSZ : ∀ k, S k → k < Z.heap.size := fun k hk => Nat.lt_of_lt_of_le (hSU k hk) hb6.size
 have hmo := (mb_any (X := X) (T := T) (gt := gt) (gn := gn) (gl := gl) (ge := ge) (lo := lo) (M := M) hf r).1 at_ hr hlo Z (.slice fa fi.length fc) fi
 have HZ := hideT (And.intro hTZ (And.intro hFZ (And.intro hfz (And.intro hSZ hfok))))
 clear hTU hFU hfr hSU hfok hf hr hlo hTZ hFZ hfz hSZ hb6 HH
 cases no
 · have hmo := hmo 0 S HZ.out.1 HZ.out.2.2.1 HZ.out.2.2.2.1 HZ.out.2.2.2.2 (by decide)
   go_wp2_with fail
   refine hmo.mono ?_
   rintro e w8 ⟨rfl, hT8, hF8⟩
   have HY := hideT (And.intro hT8 (HZ.out.2.1.trans hF8))
   clear hmo hT8 hF8
   go_wp2_with fail
   go_ret
   exact ⟨by rw [HW.out]; rfl, HY.out⟩
 · have hmo := hmo 1 S HZ.out.1 HZ.out.2.2.1 HZ.out.2.2.2.1 HZ.out.2.2.2.2 (by decide)
   go_wp2_with fail
   refine hmo.mono ?_
   rintro e w8 ⟨rfl, hT8, hF8⟩
   have HY := hideT (And.intro hT8 (HZ.out.2.1.trans hF8))
   clear hmo hT8 hF8
   go_wp2_with fail
   go_ret
   exact ⟨by rw [HW.out]; rfl, HY.out⟩
end Go.Proofs.Ytolpakpdkheanaa.tly
namespace Go.Proofs.Ytolpakpdkheanaa.tly
open Go.RowKit Go.Maps Go.WideMaps Go.Proofs.Ytolpakpdkheanaa.br
mutual
theorem ly_shT : ∀ (t : Tr) (s s' : Sh), ShT t s s' → xcj t → LyT t
 | .mk k q lo hi g kids, s, s', h, hj => by
  obtain ⟨hp0, hp, ⟨_, hl⟩, hk⟩ := xdo _ hj
  unfold LyT
  rcases h with ⟨rfl, _, _, _, rfl, h⟩ | ⟨hk3, rfl, rfl, rfl, rfl, rfl⟩ | ⟨rfl, _, rfl, rfl, rfl, _, _, _, rfl⟩ | ⟨rfl, _, _, _, hg1, hg9, ⟨c, hc, _⟩, s1, h, rfl⟩ | ⟨rfl, _, rfl, hlo, hhi, ⟨c, hc, _⟩, h⟩
  · exact ⟨by omega, by omega, (fun h => by omega), hl, hp, ly_shL kids s s' h hk⟩
  · refine ⟨by omega, fun _ => rfl, (fun h => by omega), hl, hp, ?_⟩
    unfold LyL; trivial
  · refine ⟨by omega, by omega, (fun h => by omega), hl, hp, ?_⟩
    unfold LyL; trivial
  · exact ⟨by omega, by omega, (fun h => by omega), hl, hp, ly_shL kids _ s1 h hk⟩
  · exact ⟨by omega, by omega, fun _ => ⟨⟨c, hc⟩, by omega, by omega, by omega⟩, hl, hp, ly_shL kids s s' h hk⟩
theorem ly_shL : ∀ (ts : List Tr) (s s' : Sh), ShL ts s s' → xc0 ts → LyL ts
 | [], _, _, _, _ => by unfold LyL; trivial
 | t :: ts, s, s', h, hj => by
  unfold ShL at h
  obtain ⟨s1, h1, h2⟩ := h
  have hj2 : xcj t ∧ xc0 ts := ⟨xei _ hj t List.mem_cons_self, xh1 _ fun x hx => xei _ hj x (List.mem_cons_of_mem _ hx)⟩
  unfold LyL
  exact ⟨ly_shT t s s1 h1 hj2.1, ly_shL ts s1 s' h2 hj2.2⟩
end
theorem ly_parse {s : ByteArray} {ts : List Tr} (h : parseT s = .ok ts) : LyT (catT ts) := by
 obtain ⟨s', hs⟩ := xfg s ts h
 exact ly_shT _ _ _ hs (xgk s ts h)
theorem kids_lt {W : World} {ok : Nat → Prop} {v : Value} {ts : List Tr} (h : br.Kids W ok v ts) : br.Kids W (fun g => ok g ∧ g < W.heap.size) v ts := by
 induction h with
 | mk v ts vs hl own hok hk ih => exact .mk v ts vs hl own (fun g hg => ⟨hok g hg, (row_blk own hg).2.1⟩) ih
noncomputable def countR (text s : ByteArray) (at_ : Int) : Int × Int :=
 match parseT text with
 | .error (er, _) => (0, er)
 | .ok ts => if 1024 < s.size then (0, 15) else if at_ < 0 ∨ (s.size : Int) < at_ then (0, 1) else (((countT (catT ts) (bnS s) at_.toNat : Nat) : Int), 0)
theorem countR_err {text : ByteArray} {er : Int} {p : Nat} (h : parseT text = .error (er, p)) (s : ByteArray) (at_ : Int) : countR text s at_ = (0, er) := by unfold countR; rw [h]
theorem countR_long {text : ByteArray} {ts : List Tr} (h : parseT text = .ok ts) {s : ByteArray} (hs : 1024 < s.size) (at_ : Int) : countR text s at_ = (0, 15) := by unfold countR; rw [h]; dsimp only; rw [if_pos hs]
theorem countR_arg {text : ByteArray} {ts : List Tr} (h : parseT text = .ok ts) {s : ByteArray} (hs : ¬ 1024 < s.size) {at_ : Int} (ha : at_ < 0 ∨ (s.size : Int) < at_) : countR text s at_ = (0, 1) := by unfold countR; rw [h]; dsimp only; rw [if_neg hs, if_pos ha]
theorem countR_ok {text : ByteArray} {ts : List Tr} (h : parseT text = .ok ts) {s : ByteArray} (hs : ¬ 1024 < s.size) {a : Nat} (ha : a ≤ s.size) : countR text s (a : Nat) = (((countT (catT ts) (bnS s) a : Nat) : Int), 0) := by unfold countR; rw [h]; dsimp only; rw [if_neg hs, if_neg (by omega), Int.toNat_natCast]
theorem node_cat (ts : List Tr) (v : Value) : nodeA (catT ts) v = .agg #[.int .i64 0, .int .u64 0, .int .u64 0, .int .u64 0, .int .u64 0, .int .i64 0, .int .i64 0, .int .i64 0, v] := by kernel_rfl
theorem count_err (text s : ByteArray) (hz : text.size ≤ 1073741824) (at_ : Int) {er : Int} {p : Nat} (hp : parseT text = .error (er, p)) (W : World) (hg : Glob W) :
 Calls Try.prog 10 #[.string text, .string s, .int .i64 at_] W fun e W' => e = .returned (.tuple #[.int .i64 0, .int .i64 er]) ∧ Below W.heap.size W W' := by
 have hP := xp2 text hz er p hp W hg
 have he := (xk9 text er p hp).1
 have i0 : (er != 0) = true := by simpa using he
 have i1 : (er == 0) = false := by simpa using he
 clear he hp
 go_enter Try.func10, Try.ntmps10
 go_wp2_with fail
 refine hP.mono ?_
 rintro e w1 ⟨rfl, hb⟩
 have HB := hideT hb
 clear hP hb
 have hbV : Below w1.heap.size w1 ((w1.alloc (.cells #[.int .i64 0, .int .u64 0, .int .u64 0, .int .u64 0, .int .u64 0, .int .i64 0, .int .i64 0, .int .i64 0, .slice none 0 0] 41)).alloc (.cells #[.int .i64 er, .int .i64 (p : Nat)] 43)) := ((Below.refl _ _).alloc (Nat.le_refl _) _).alloc (by rw [World.size_alloc]; omega) _
 have f9 : ((w1.alloc (.cells #[.int .i64 0, .int .u64 0, .int .u64 0, .int .u64 0, .int .u64 0, .int .i64 0, .int .i64 0, .int .i64 0, .slice none 0 0] 41)).alloc (.cells #[.int .i64 er, .int .i64 (p : Nat)] 43)).cell? ⟨w1.heap.size + 1, 0, none⟩ = some (.int .i64 er) := by
  rw [← World.size_alloc w1 (.cells #[.int .i64 0, .int .u64 0, .int .u64 0, .int .u64 0, .int .u64 0, .int .i64 0, .int .i64 0, .int .i64 0, .slice none 0 0] 41)]
  exact (cells_at (cs := [.int .i64 er, .int .i64 (p : Nat)]) (World.alloc_heap_new _ _) (j := 0) rfl).1
 have HV := hideT hbV
 clear hbV
 go_wp2_with fail
 go_quiet (fail)
 go_wp2
 refine bodyPost_ret (v := .tuple #[.int .i64 0, .int .i64 er]) (by simp [results, Try.results10, go_sem]) rfl ⟨rfl, ?_⟩
 exact HB.out.trans ((HV.out.mono HB.out.size).trans ⟨rfl, rfl, rfl, Nat.le_refl _, fun _ _ => rfl⟩)
theorem count_tree (text s : ByteArray) (hz : text.size ≤ 1073741824) (hsz : s.size ≤ 1073741824) (at_ : Int) {ts : List Tr} (hp : parseT text = .ok ts) (W : World) (hg : Glob W) :
 Calls Try.prog 10 #[.string text, .string s, .int .i64 at_] W fun e W' => e = .returned (.tuple #[.int .i64 (countR text s at_).1, .int .i64 (countR text s at_).2]) ∧ Below W.heap.size W W' := by
 have hP := parse_ok text hz ts hp W hg
 have HL := hideT (ly_parse hp)
 have HPT := hideT hp
 have i0 : (s.size : Int) ≤ 1073741824 := by omega
 clear hp
 go_enter Try.func10, Try.ntmps10
 go_wp2_with fail
 refine hP.mono ?_
 rintro e w1 ⟨hB1, va, n, vc, rfl, hk⟩
 have HB := hideT (And.intro hB1 hk)
 clear hP hB1 hk
 by_cases hlong : 1024 < s.size
 · have i1 : (1024 : Int) < (s.size : Int) := by omega
   have HR := hideT (countR_long HPT.out hlong at_)
   clear hlong
   go_wp2_with fail
   refine bodyPost_ret (v := .tuple #[.int .i64 0, .int .i64 15]) (by simp [results, Try.results10, go_sem]) rfl ⟨by rw [HR.out], ?_⟩
   exact HB.out.1.trans (((Below.refl w1.heap.size w1).alloc (Nat.le_refl _) _).alloc (by rw [World.size_alloc]; omega) _ |>.mono HB.out.1.size)
 · have i1 : ((1024 : Int) < (s.size : Int)) = False := by rw [eq_iff_iff, iff_false]; omega
   have HN := hideT hlong
   by_cases hneg : at_ < 0
   · have HR := hideT (countR_arg HPT.out hlong (.inl hneg))
     clear hlong
     go_wp2_with fail
     refine bodyPost_ret (v := .tuple #[.int .i64 0, .int .i64 1]) (by simp [results, Try.results10, go_sem]) rfl ⟨by rw [HR.out], ?_⟩
     exact HB.out.1.trans (((Below.refl w1.heap.size w1).alloc (Nat.le_refl _) _).alloc (by rw [World.size_alloc]; omega) _ |>.mono HB.out.1.size)
   · have i2 : (at_ < 0) = False := by rw [eq_iff_iff, iff_false]; omega
     by_cases hbig : (s.size : Int) < at_
     · have HR := hideT (countR_arg HPT.out hlong (.inr hbig))
       clear hlong hneg
       go_wp2_with fail
       refine bodyPost_ret (v := .tuple #[.int .i64 0, .int .i64 1]) (by simp [results, Try.results10, go_sem]) rfl ⟨by rw [HR.out], ?_⟩
       exact HB.out.1.trans (((Below.refl w1.heap.size w1).alloc (Nat.le_refl _) _).alloc (by rw [World.size_alloc]; omega) _ |>.mono HB.out.1.size)
     · obtain ⟨a, rfl⟩ : ∃ a : Nat, at_ = (a : Nat) := ⟨at_.toNat, by omega⟩
       have ha : a ≤ s.size := by omega
       have i3 : ((s.size : Int) < (a : Int)) = False := by rw [eq_iff_iff, iff_false]; omega
       have HR := hideT (countR_ok HPT.out hlong ha)
       have hs : s.size ≤ 1024 := by omega
       obtain ⟨V, hV⟩ : ∃ V, V = (w1.alloc (.cells #[.int .i64 0, .int .u64 0, .int .u64 0, .int .u64 0, .int .u64 0, .int .i64 0, .int .i64 0, .int .i64 0, .slice va n vc] 41)).alloc (.cells #[.int .i64 0, .int .i64 0] 43) := ⟨_, rfl⟩
       have hbV : Below w1.heap.size w1 V := by rw [hV]; exact ((Below.refl _ _).alloc (Nat.le_refl _) _).alloc (by rw [World.size_alloc]; omega) _
       have v3 : V.heap[w1.heap.size]? = some (.cells #[.int .i64 0, .int .u64 0, .int .u64 0, .int .u64 0, .int .u64 0, .int .i64 0, .int .i64 0, .int .i64 0, .slice va n vc] 41 (0, 0)) := by
        rw [hV, Below.heap_alloc _ _ _ (by rw [World.size_alloc]; omega)]
        exact World.alloc_heap_new w1 _
       have v4 : V.heap[w1.heap.size + 1]? = some (.cells #[.int .i64 0, .int .i64 0] 43 (0, 0)) := by
        rw [hV, ← World.size_alloc w1 (.cells #[.int .i64 0, .int .u64 0, .int .u64 0, .int .u64 0, .int .u64 0, .int .i64 0, .int .i64 0, .int .i64 0, .slice va n vc] 41)]
        exact World.alloc_heap_new _ _
       have hkV : br.Kids V (fun g => W.heap.size ≤ g ∧ g < w1.heap.size) (.slice va n vc) ts := (kids_lt HB.out.2).keep (fun g hg => hbV.block g hg.2) (fun _ h => h)
       have hly := lay_any (catT ts) HL.out
       have hbA := (Below.refl V.heap.size V).alloc (Nat.le_refl _) (.cells #[.int .i64 0, .int .u64 0, .int .u64 0, .int .u64 0, .int .u64 0, .int .i64 0, .int .i64 0, .int .i64 0, .slice va n vc] 41)
       have hl0 := hly (V.alloc (.cells #[.int .i64 0, .int .u64 0, .int .u64 0, .int .u64 0, .int .u64 0, .int .i64 0, .int .i64 0, .int .i64 0, .slice va n vc] 41)) (fun g => W.heap.size ≤ g ∧ g < w1.heap.size) va n vc (hkV.keep (fun g hg => hbA.block g (Nat.lt_of_lt_of_le hg.2 hbV.size)) (fun _ h => h)) (fun g hg => Nat.lt_of_lt_of_le hg.2 (Nat.le_trans hbV.size hbA.size))
       rw [node_cat] at hl0
       have hsz : (V.alloc (.cells #[.int .i64 0, .int .u64 0, .int .u64 0, .int .u64 0, .int .u64 0, .int .i64 0, .int .i64 0, .int .i64 0, .slice va n vc] 41)).heap.size = V.heap.size + 1 := World.size_alloc _ _
       have hl1 : Calls Try.prog 23 #[.agg #[.int .i64 0, .int .u64 0, .int .u64 0, .int .u64 0, .int .u64 0, .int .i64 0, .int .i64 0, .int .i64 0, .slice va n vc]] (V.alloc (.cells #[.int .i64 0, .int .u64 0, .int .u64 0, .int .u64 0, .int .u64 0, .int .i64 0, .int .i64 0, .int .i64 0, .slice va n vc] 41)) fun e W' => ∃ b, e = .returned (.pointer (some ⟨b, 0, none⟩)) ∧ PtAt W' (fun k => V.heap.size < k ∧ k < W'.heap.size) b (layT (catT ts)) ∧ Below (V.heap.size + 1) (V.alloc (.cells #[.int .i64 0, .int .u64 0, .int .u64 0, .int .u64 0, .int .u64 0, .int .i64 0, .int .i64 0, .int .i64 0, .slice va n vc] 41)) W' := hl0.mono fun e W' ⟨b, h1, h2, h3⟩ => ⟨b, h1, h2.keep (fun _ _ => rfl) (fun k hk => ⟨by have := hk.1; omega, hk.2⟩), by rw [hsz] at h3; exact h3⟩
       have hok := (lay_ok (catT ts) HL.out).1
       have hnew := new_p hok (lay_ki (catT ts) HL.out) hl1 hs ha
       have t0 : V.cell? ⟨w1.heap.size, 0, none⟩ = some (.int .i64 0) := by simp [World.cell?, v3]
       have t1 : V.cell? ⟨w1.heap.size, 1, none⟩ = some (.int .u64 0) := by simp [World.cell?, v3]
       have t2 : V.cell? ⟨w1.heap.size, 2, none⟩ = some (.int .u64 0) := by simp [World.cell?, v3]
       have t3 : V.cell? ⟨w1.heap.size, 3, none⟩ = some (.int .u64 0) := by simp [World.cell?, v3]
       have t4 : V.cell? ⟨w1.heap.size, 4, none⟩ = some (.int .u64 0) := by simp [World.cell?, v3]
       have t5 : V.cell? ⟨w1.heap.size, 5, none⟩ = some (.int .i64 0) := by simp [World.cell?, v3]
       have t6 : V.cell? ⟨w1.heap.size, 6, none⟩ = some (.int .i64 0) := by simp [World.cell?, v3]
       have t7 : V.cell? ⟨w1.heap.size, 7, none⟩ = some (.int .i64 0) := by simp [World.cell?, v3]
       have t8 : V.cell? ⟨w1.heap.size, 8, none⟩ = some (.slice va n vc) := by simp [World.cell?, v3]
       have y0 : V.cell? ⟨w1.heap.size + 1, 0, none⟩ = some (.int .i64 0) := by simp [World.cell?, v4]
       have HVB := hideT (And.intro hbV (And.intro hok (And.intro ha hs)))
       clear hl0 hl1 hly hkV hbA hsz v3 v4 hlong hneg hbig hs ha hok hbV
       have j0 : (a : Int) ≤ 1024 := by have := HVB.out.2.2; omega
       go_upto_region 2 with fail
       rw [← hV]
       clear hV
       go_wp2_with fail
       refine hnew.mono ?_
       rintro e w2 ⟨X, T, gt, gn, gl, M, c, ge, S, rfl, hT, hT0, hpt, hS, hb2, hMg, hln⟩
       have hwy := ways_any HVB.out.2.1 HVB.out.2.2.2 hT hT0 hpt hS hln (Nat.le_refl a) HVB.out.2.2.1
       have HZ := hideT (And.intro hb2 hMg)
       clear hnew hT hT0 hpt hS hb2 hMg hln t0 t1 t2 t3 t4 t5 t6 t7 t8 y0
       go_wp2_with fail
       refine hwy.mono ?_
       rintro e w3 ⟨rfl, hT3, hF3⟩
       have HF := hideT hF3
       clear hwy hT3 hF3
       go_wp2_with fail
       refine bodyPost_ret (v := .tuple #[.int .i64 (waysF (layT (catT ts)) (tabT (layT (catT ts))) (bnS s) a : Nat), .int .i64 0]) (by simp [results, Try.results10, go_sem]) rfl ⟨by rw [HR.out]; rfl, ?_⟩
       have hb3 := HF.out.low HZ.out.1 HZ.out.2 HZ.out.2 HZ.out.1.size
       exact HB.out.1.trans ((HVB.out.1.trans (hb3.mono HVB.out.1.size)).mono HB.out.1.size)
theorem count_any (text s : ByteArray) (hz : text.size ≤ 1073741824) (hsz : s.size ≤ 1073741824) (at_ : Int) (W : World) (hg : Glob W) :
 Calls Try.prog 10 #[.string text, .string s, .int .i64 at_] W fun e W' => e = .returned (.tuple #[.int .i64 (countR text s at_).1, .int .i64 (countR text s at_).2]) ∧ Below W.heap.size W W' := by
 cases hp : parseT text with
 | error x =>
  obtain ⟨er, p⟩ := x
  rw [countR_err hp]
  exact count_err text s hz at_ hp W hg
 | ok ts => exact count_tree text s hz hsz at_ hp W hg
end Go.Proofs.Ytolpakpdkheanaa.tly
namespace Go.Proofs.Ytolpakpdkheanaa.tly
open Go.RowKit Go.Proofs.Ytolpakpdkheanaa.br
def oneP (c : Nat) : Nat → Bool := fun i => Nat.beq i c
theorem one_self {c : Nat} (hc : c < 256) : selfP c = oneP c := by
 funext i
 show (List.any (List.take 1 [UInt8.ofNat c]) fun b => b.toNat == i) = Nat.beq i c
 rw [Bool.eq_iff_iff]
 simp [Nat.mod_eq_of_lt hc]
 exact eq_comm
def repB (c : UInt8) (n : Nat) : ByteArray := ⟨(List.replicate n c).toArray⟩
theorem repB_size (c : UInt8) (n : Nat) : (repB c n).size = n := by show (List.replicate n c).toArray.size = n; simp
theorem repB_next (c : UInt8) (n : Nat) : repB c n ++ ⟨#[c]⟩ = repB c (n + 1) := by
 apply ByteArray.ext
 rw [ByteArray.data_append]
 show (List.replicate n c).toArray ++ #[c] = (List.replicate (n + 1) c).toArray
 rw [List.replicate_succ', ← List.push_toArray]
 simp
theorem repB_nums (c : UInt8) (n : Nat) : bnS (repB c n) = List.replicate n c.toNat := by simp [bnS, repB]
def ru1 : List Tr := [repT 0 (-1) (xbp 1 [repT 0 (-1) (byteT (oneP 97))])]
def ru2 : List Tr := [repT 0 (-1) (xbp 1 [byteT (oneP 97)])]
def ru3 : List Tr := [repT 0 (-1) (byteT (oneP 97)), repT 0 (-1) (byteT (oneP 97)), repT 0 (-1) (byteT (oneP 97))]
def ru4 : List Tr := [xbp 1 [repT 0 (-1) (byteT (oneP 97))], .mk 6 xad 0 0 1 []]
theorem p1_p : parseT ⟨#[92, 40, 97, 42, 92, 41, 42]⟩ = .ok ru1 := by
 unfold ru1
 simp only [← one_self (show 97 < 256 by decide)]
 kernel_rfl
theorem p2_p : parseT ⟨#[92, 40, 97, 92, 41, 42]⟩ = .ok ru2 := by
 unfold ru2
 simp only [← one_self (show 97 < 256 by decide)]
 kernel_rfl
theorem p3_p : parseT ⟨#[97, 42, 97, 42, 97, 42]⟩ = .ok ru3 := by
 unfold ru3
 simp only [← one_self (show 97 < 256 by decide)]
 kernel_rfl
theorem p4_p : parseT ⟨#[92, 40, 97, 42, 92, 41, 92, 49]⟩ = .ok ru4 := by
 unfold ru4
 simp only [← one_self (show 97 < 256 by decide)]
 kernel_rfl
theorem all_at {p : Nat → Bool} {n : Nat} (h : (List.range n).all p = true) {k : Nat} (hk : k < n) : p k = true := List.all_eq_true.1 h k (List.mem_range.2 hk)
theorem r1_c : (List.range 40).all (fun k => Nat.beq (countT (catT ru1) (List.replicate k 97) 0) (Nat.min (2 ^ k) 4097)) = true := by decide +kernel
theorem r2_c : (List.range 40).all (fun k => Nat.beq (countT (catT ru2) (List.replicate k 97) 0) (k + 1)) = true := by decide +kernel
theorem r3_c : (List.range 40).all (fun k => Nat.beq (countT (catT ru3) (List.replicate k 97) 0) (Nat.min ((k + 1) * (k + 2) * (k + 3) / 6) 4097)) = true := by decide +kernel
theorem aw1_c : countT (catT ru1) [97, 97, 97] 0 = 8 := by decide +kernel
theorem aw2_c : countT (catT ru4) [97, 97] 0 = 6 := by decide +kernel
end Go.Proofs.Ytolpakpdkheanaa.tly
