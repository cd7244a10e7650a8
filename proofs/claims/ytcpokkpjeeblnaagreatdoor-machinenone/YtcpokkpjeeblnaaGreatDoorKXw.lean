/- script: rows of nineteen cells. -/
import Derived.Test.YtcpokkpjeeblnaaGreatDoorKBa
import Derived.Test.YtcpokkpjeeblnaaGreatDoorKXr
set_option maxRecDepth 100000
set_option maxHeartbeats 8000000
namespace Go.Proofs.YtcpokkpjeeblnaaGreatDoor
open Go.RowKit
open scanP scrP tpl ytb
variable {P : Prop} {W W' w : World} {b n i B k p : Nat} {t l : List UInt8} {F : Nat -> Prop} {s : ByteArray} {G : Gr} {a : Adr} {c c' : Co}
theorem bxw0 (h : P := by
 rw [hd] at hp R2;obtain ⟨rfl, hr, ht, pv9, hm, hp9⟩ := hp;have R9 := hideT hr;have T9 := hideT (T8.out.less ht hgw);have N9 := hideT (N8.out.stay ht (by rintro (h | h); exact hbn h.symm; exact hgn h.symm));have P9 := hideT hp9;have M9 := hideT hm;have O9 := hideT (xd0 c9 pv9 hp9.one);have L9 := xf7 c9 pv9;clear hr ht hm hp9 hd H8 T8 N8 S8;have E9 := hideT (show ∀ v, v = coV c9 pv9 -> v.toArray = (coV c9 pv9).toArray from fun v h => by rw [h]);generalize hxs : coV c9 pv9 = xs at *;have HXS := hideT hxs;clear hxs;have TH9 := hideT (show w9.there w.heap.size 0 xs.toArray.size by
  rw [show xs.toArray.size = 19 from L9];exact xcd N9.out 19 rfl)
 have IN9 := hideT (show (Tryz.prog.info? 71).map (·.size) = some xs.toArray.size by rw [xcm, show xs.toArray.size = 19 from L9]);have IM9 := hideT (show (Tryz.prog.info? 71).map (·.size) = some xs.length by rw [xcm, L9])
 go_wp2_with (first | (refine wpList_load_mid rfl 71 _ rfl g 0 rfl xs _ (range_block M9.out) xc9 rfl IM9.out ?_) | (refine wpList_store_mid rfl 71 _ _ rfl w.heap.size 0 xs.toArray rfl rfl TH9.out IN9.out O9.out ?_))
 refine bodyPost_ret (xg0 rfl rfl (xcs xs N9.out (by rw [L9]; rfl)) L9) rfl ?_;rw [<- R2.out];refine ⟨pv9, by rw [HXS.out], R9.out.farC hbn xs, T9.out.newC qr xs 0, ?_⟩;exact xhn (P9.out.stay (Tch.putC (Tch.refl (· = w.heap.size) w9) (n := w.heap.size) rfl xs 0) (fun k e => by subst e; omega)) (by omega)) : P := h
theorem bxw1 (h : P := by
 rw [decide_eq_true (show p = s.size by omega)];have R2 := hideT (show Except.error (18, p) = RR by
  have := R1.out;rw [List.getElem?_eq_none (show s.data.toList.length <= p from Nat.le_of_not_lt hlt2)] at this;exact this)
 have c1 := H5.out.r.c1
 go_wp2_with fail
 refine (xaw 18 p _).mono ?_;rintro y w6 ⟨rfl, rfl⟩;go_wp2;rw [<- R2.out];exact ⟨rfl, rfl, T5.out.more (Tch.drewN _ _ m4)⟩) : P := h
theorem bxw2 (h : P := by
 rw [hd] at hp R2;obtain ⟨rfl, ht⟩ := hp;have T := hideT (T8.out.less ht hgw);clear ht hd;go_wp2;rw [<- R2.out];exact ⟨rfl, rfl, T.out⟩) : P := h
theorem xcd {cs : List Value} {t : TypeId} (h : W.heap[b]? = some (.cells cs.toArray t (0, 0))) (n : Nat) (hn : cs.length = n) : W.there b 0 n := fun j hj => by
 have e : cs[j]? = some cs[j] := List.getElem?_eq_getElem (by omega);refine ⟨?_, ?_⟩
 ·simp [World.cell?, h, e]
 ·simp [World.frozen?, h]
theorem xbg (W : World) (b : Nat) {j : Nat} (h : j ≠ b) : ∀ (vs : List Value) (o : Nat), (W.setCells b o vs).heap[j]? = W.heap[j]? := by
 intro vs;induction vs generalizing W with
 | nil => intro o; rfl
 | cons v vs ih =>
  intro o;rw [World.setCells, ih];exact Below.heap_setCell W ⟨b, o, none⟩ v j h
theorem xdz (b : Nat) (t : TypeId) (fr : Nat × Nat) : ∀ (vs pre cs suf : List Value) (W : World) (o : Nat), W.heap[b]? = some (.cells (pre ++ (cs ++ suf)).toArray t fr) -> pre.length = o -> cs.length = vs.length -> (W.setCells b o vs).heap[b]? = some (.cells (pre ++ (vs ++ suf)).toArray t fr)
 | [], pre, cs, suf, W, o, h, hp, hc => by
  obtain rfl : cs = [] := List.eq_nil_of_length_eq_zero hc;exact h
 | v :: vs, pre, [], suf, W, o, h, hp, hc => by simp at hc
 | v :: vs, pre, c :: cs, suf, W, o, h, hp, hc => by
  rw [World.setCells];have h1 : (W.setCell ⟨b, o, none⟩ v).heap[b]? = some (.cells ((pre ++ [v]) ++ (cs ++ suf)).toArray t fr) := by
   obtain ⟨hlt, hk⟩ := Array.getElem?_eq_some_iff.1 h;show (W.heap.modify b _)[b]? = _
   rw [Array.getElem?_eq_getElem (by rw [Array.size_modify]; exact hlt), Array.getElem_modify_self, hk];simp [hp.symm]
  have := xdz b t fr vs (pre ++ [v]) cs suf _ (o + 1) h1 (by simp [hp]) (by simpa using hc);simpa using this
theorem xcs {t : TypeId} {fr : Nat × Nat} {cs : List Value} (vs : List Value) (h : W.heap[b]? = some (.cells cs.toArray t fr)) (hl : cs.length = vs.length) : (W.setCells b 0 vs).heap[b]? = some (.cells vs.toArray t fr) := by
 have := xdz b t fr vs [] cs [] W 0 (by simpa using h) rfl hl;simpa using this
theorem xc9 : Tryz.prog.underlying 71 = some (.struct (Tryz.prog.fieldsOf 71)) := by kernel_rfl
theorem xcm : (Tryz.prog.info? 71).map (·.size) = some 19 := by kernel_rfl
theorem xd0 (c : Co) (pv : Value) (hp : pv.oneCell' = true) : (coV c pv).toArray.all (·.oneCell') = true := by
 rw [Array.all_eq_true_iff_forall_mem];intro u hu;simp only [coV, List.mem_toArray, List.mem_cons, List.not_mem_nil, or_false] at hu;rcases hu with rfl | rfl | rfl | rfl | rfl | rfl | rfl | rfl | rfl | rfl | rfl | rfl | rfl | rfl | rfl | rfl | rfl | rfl | rfl <;> first | exact hp | rfl
theorem xf7 (c : Co) (pv : Value) : (coV c pv).length = 19 := rfl
theorem Tch.newC (h : Tch F W W') (hn : W.heap.size <= n) : ∀ (vs : List Value) (o : Nat), Tch F W (W'.setCells n o vs) := by
 intro vs;induction vs generalizing W' with
 | nil => intro o; exact h
 | cons v vs ih => intro o; rw [World.setCells]; exact ih (h.new hn o v) _
theorem RAt.farC (h : RAt W b s i) (hn : b ≠ n) (vs : List Value) : RAt (W.setCells n 0 vs) b s i := (xbg W n hn vs 0).trans h
theorem xg0 {fn : Func} {r : Nat} {tmps : Array Value} {xs : List Value} (hf : fn.results = #[.cell r 71]) (hr : tmps[r]?.getD undef = .pointer (some ⟨b, 0, none⟩)) (h : CmAt W b xs) (hl : xs.length = 19) : (results fn tmps).run Tryz.prog W = .ok (.agg xs.toArray) W := by
 have := run_loadVar_mid (P := Tryz.prog) W b 0 71 xs _ (range_block h) xc9 rfl (by rw [xcm, hl]);simp [results, hf, asAddr, hr, this]
theorem PaAt.one {pv : Value} {ps : List Pt} (h : PaAt W B pv ps) : pv.oneCell' = true := by
 obtain ⟨a, c, rfl⟩ := owns_shape h;rfl
def PM (b : Nat) (s : ByteArray) (w : World) (r : Rd (Co × Nat)) (e : Ending) (w' : World) : Prop := match r with
 | .error x => e = gvX x /\ Tch (· = b) w w'
 | .ok (c, k) => ∃ pv, e = .returned (.agg (coV c pv).toArray) /\ RAt w' b s k /\ Tch (· = b) w w' /\ PaAt w' w.heap.size pv c.ps
theorem two_new (w : World) (o : Obj) : Below w.heap.size w ((w.alloc o).alloc o) /\ ((w.alloc o).alloc o).heap[w.heap.size]? = some o /\ ((w.alloc o).alloc o).heap[w.heap.size + 1]? = some o /\ w.heap.size + 2 <= ((w.alloc o).alloc o).heap.size := by
 have e1 : (w.alloc o).heap.size = w.heap.size + 1 := by simp
 have hA := Bal w o;have hA2 := (Below.refl (w.alloc o).heap.size (w.alloc o)).alloc qr o;refine ⟨hA.trans (hA2.mono hA.size), (hA2.block _ (by rw [e1]; omega)).trans (heap_alloc_new w o), ?_, by simp⟩;rw [<- e1];exact heap_alloc_new _ _
theorem Tch.putC (h : Tch F W W') (hn : F n) : ∀ (vs : List Value) (o : Nat), Tch F W (W'.setCells n o vs) := by
 intro vs;induction vs generalizing W' with
 | nil => intro o; exact h
 | cons v vs ih => intro o; rw [World.setCells]; exact ih (h.put hn o v) _
theorem xkd {c : Adr} (h : twoA G l i = .ok (a, c, k)) (hi : i <= l.length) : k <= l.length := by
 unfold twoA at h;split at h
 ·cases h
 ·rename_i a' k' h1;have hk := xew h1 hi;split at h
  ·cases h; exact hk
  ·split at h
   ·rename_i hm;have hlt : xab l k' < l.length := by
     unfold mtB at hm;split at hm
     ·cases hm
     ·rename_i hb; exact (List.getElem?_eq_some_iff.1 hb).1
    split at h
    ·cases h
    ·rename_i b' m h2;split at h
     ·cases h
     ·cases h;exact xew h2 (xao l _ hlt)
   ·cases h; exact xao l _ hk
theorem pa_nil (W : World) (B : Nat) : PaAt W B (.slice none 0 0) [] := World.ownsRow_nil _ _ _ _
theorem Tch.less {g : Nat} (h : Tch (· = b) w W) (k : Tch (bg b g) W W') (hg : w.heap.size <= g) : Tch (· = b) w W' := h.trans k (fun j hj => by rcases hj with rfl | rfl; exact .inl rfl; exact .inr hg)
theorem xke (hG : xf2 G) (hTb : xop) (w : World) (h : RAt w b s i) (hi : i <= s.size) (hs : s.size <= 4096) (hg : Gl w) (hb1 : 1 < b) : Calls Tryz.prog 94 #[.pointer (some ⟨b, 0, none⟩)] w (PM b s w (cmdR G s.data.toList i)) := by
 obtain ⟨hB, n0, m0, hSz⟩ := two_new w (.cells #[.int .i64 0, .int .i64 0, .int .i64 0, .string ⟨#[]⟩, .int .i64 0, .int .i64 0, .string ⟨#[]⟩, .bool false, .int .u8 0, .string ⟨#[]⟩, .string ⟨#[]⟩, .string ⟨#[]⟩, .string ⟨#[]⟩, .slice none 0 0, .int .i64 0, .bool false, .bool false, .string ⟨#[]⟩, .string ⟨#[]⟩] 71);have HR := hideT (h.move hB);have HN : Hid (CmAt ((w.alloc (.cells #[.int .i64 0, .int .i64 0, .int .i64 0, .string ⟨#[]⟩, .int .i64 0, .int .i64 0, .string ⟨#[]⟩, .bool false, .int .u8 0, .string ⟨#[]⟩, .string ⟨#[]⟩, .string ⟨#[]⟩, .string ⟨#[]⟩, .slice none 0 0, .int .i64 0, .bool false, .bool false, .string ⟨#[]⟩, .string ⟨#[]⟩] 71)).alloc (.cells #[.int .i64 0, .int .i64 0, .int .i64 0, .string ⟨#[]⟩, .int .i64 0, .int .i64 0, .string ⟨#[]⟩, .bool false, .int .u8 0, .string ⟨#[]⟩, .string ⟨#[]⟩, .string ⟨#[]⟩, .string ⟨#[]⟩, .slice none 0 0, .int .i64 0, .bool false, .bool false, .string ⟨#[]⟩, .string ⟨#[]⟩] 71)) w.heap.size (coV co0 (.slice none 0 0))) := hideT n0;have HM : Hid (CmAt ((w.alloc (.cells #[.int .i64 0, .int .i64 0, .int .i64 0, .string ⟨#[]⟩, .int .i64 0, .int .i64 0, .string ⟨#[]⟩, .bool false, .int .u8 0, .string ⟨#[]⟩, .string ⟨#[]⟩, .string ⟨#[]⟩, .string ⟨#[]⟩, .slice none 0 0, .int .i64 0, .bool false, .bool false, .string ⟨#[]⟩, .string ⟨#[]⟩] 71)).alloc (.cells #[.int .i64 0, .int .i64 0, .int .i64 0, .string ⟨#[]⟩, .int .i64 0, .int .i64 0, .string ⟨#[]⟩, .bool false, .int .u8 0, .string ⟨#[]⟩, .string ⟨#[]⟩, .string ⟨#[]⟩, .string ⟨#[]⟩, .slice none 0 0, .int .i64 0, .bool false, .bool false, .string ⟨#[]⟩, .string ⟨#[]⟩] 71)) (w.heap.size + 1) (coV co0 (.slice none 0 0))) := hideT m0;have HT := hideT (Tch.of (F := (· = b)) hB);have HG0 := hideT (hg.stay (Tch.of (F := fun _ => False) hB) (fun _ h => h.elim))
 have HG := hideT (fun W (ht : Tch (· = b) w W) => hg.stay ht (fun k e => by subst e; exact hb1));have hbl := h.lt;have hgl := hg.lt;have HSz := hideT hSz;have HQ := hideT hG;have HTB := hideT hTb;clear hB h hg hG hTb n0 m0 hSz;have BL := hideT (fun k h => xao s.data.toList k h);generalize hRR : cmdR G s.data.toList i = RR;have R1 := hideT hRR;clear hRR;unfold cmdR at R1;go_enter Tryz.func94, Tryz.ntmps94
 go_wp2_with fail
 generalize (w.alloc (.cells #[.int .i64 0, .int .i64 0, .int .i64 0, .string ⟨#[]⟩, .int .i64 0, .int .i64 0, .string ⟨#[]⟩, .bool false, .int .u8 0, .string ⟨#[]⟩, .string ⟨#[]⟩, .string ⟨#[]⟩, .string ⟨#[]⟩, .slice none 0 0, .int .i64 0, .bool false, .bool false, .string ⟨#[]⟩, .string ⟨#[]⟩] 71)).alloc (.cells #[.int .i64 0, .int .i64 0, .int .i64 0, .string ⟨#[]⟩, .int .i64 0, .int .i64 0, .string ⟨#[]⟩, .bool false, .int .u8 0, .string ⟨#[]⟩, .string ⟨#[]⟩, .string ⟨#[]⟩, .string ⟨#[]⟩, .slice none 0 0, .int .i64 0, .bool false, .bool false, .string ⟨#[]⟩, .string ⟨#[]⟩] 71) = Y at *;have hbn : b ≠ w.heap.size := by omega
 have hbm : b ≠ w.heap.size + 1 := by omega
 refine (xhl HQ.out Y HR.out hi hs HG0.out hb1).mono ?_;intro e w1 hp;rcases hd : twoA G s.data.toList i with x | ⟨⟨ak, al, ar⟩, ⟨bk, bl, br⟩, k⟩
 ·rw [hd] at hp R1;obtain ⟨rfl, ht⟩ := hp;have T := hideT (HT.out.more ht);clear ht hd;go_wp2;rw [<- R1.out];exact ⟨rfl, rfl, T.out⟩
 rw [hd] at hp R1;have hkl := xkd hd hi;obtain ⟨rfl, hr, ht⟩ := hp;have B0 : Both w1 b (w.heap.size + 1) (w.heap.size + 2) s k co0 (.slice none 0 0) := ⟨hr, HM.out.stay ht (fun e => hbm e.symm), pa_nil _ _, hbm, by omega, by omega⟩;have N1 := hideT (HN.out.stay ht (fun e => hbn e.symm));have T1 := hideT (HT.out.more ht);have hsz1 := Nat.le_trans HSz.out ht.size;obtain ⟨g, hgd⟩ : ∃ g, g = w.heap.size + 1 := ⟨_, rfl⟩;rw [<- hgd] at B0 hbm HM ⊢;have hgw : w.heap.size <= g := by omega
 have hg2 : w.heap.size + 2 = g + 1 := by omega
 have hgn : g ≠ w.heap.size := by omega
 rw [hg2] at B0 hsz1;clear HM HSz hg2 hgd;have A1 := B0.set 1 (.int .i64 ak) (c' := { co0 with a := ⟨ak, 0, []⟩ }) rfl rfl;have A2 := A1.set 2 (.int .i64 al) (c' := { co0 with a := ⟨ak, al, []⟩ }) rfl rfl;have A3 := A2.set 3 (.string (bst ar)) (c' := { co0 with a := ⟨ak, al, ar⟩ }) rfl rfl;have A4 := A3.set 4 (.int .i64 bk) (c' := { co0 with a := ⟨ak, al, ar⟩, b := ⟨bk, 0, []⟩ }) rfl rfl;have A5 := A4.set 5 (.int .i64 bl) (c' := { co0 with a := ⟨ak, al, ar⟩, b := ⟨bk, bl, []⟩ }) rfl rfl;have A6 := A5.set 6 (.string (bst br)) (c' := { co0 with a := ⟨ak, al, ar⟩, b := ⟨bk, bl, br⟩ }) rfl rfl;have H2 := hideT A6;have T2 := hideT (((((((T1.out.new hgw 1 (.int .i64 ak)).new hgw 2 (.int .i64 al)).new hgw 3 (.string (bst ar))).new hgw 4 (.int .i64 bk)).new hgw 5 (.int .i64 bl)).new hgw 6 (.string (bst br))));have N2 := hideT ((((((N1.out.far hgn.symm 1 (.int .i64 ak)).far hgn.symm 2 (.int .i64 al)).far hgn.symm 3 (.string (bst ar))).far hgn.symm 4 (.int .i64 bk)).far hgn.symm 5 (.int .i64 bl)).far hgn.symm 6 (.string (bst br)));have S2 := hideT (show g + 1 <= ((((((w1.setCell ⟨g, 1, none⟩ (.int .i64 ak)).setCell ⟨g, 2, none⟩ (.int .i64 al)).setCell ⟨g, 3, none⟩ (.string (bst ar))).setCell ⟨g, 4, none⟩ (.int .i64 bk)).setCell ⟨g, 5, none⟩ (.int .i64 bl)).setCell ⟨g, 6, none⟩ (.string (bst br))).heap.size by simp only [put_size]; exact hsz1);have d1 := B0.m.cell 1 (v := .int .i64 0) rfl;have d2 := B0.m.cell 2 (v := .int .i64 0) rfl;have d3 := B0.m.cell 3 (v := .string (bst [])) rfl;have d4 := B0.m.cell 4 (v := .int .i64 0) rfl;have d5 := B0.m.cell 5 (v := .int .i64 0) rfl;have d6 := B0.m.cell 6 (v := .string (bst [])) rfl;have f1 := B0.m.fz 1;have f2 := B0.m.fz 2;have f3 := B0.m.fz 3;have f4 := B0.m.fz 4;have f5 := B0.m.fz 5;have f6 := B0.m.fz 6
 clear A1 A2 A3 A4 A5 A6 B0 hr ht N1 T1 hsz1 hd;simp only [ad2V, adV]
 go_wp2_with fail
 clear d1 d2 d3 d4 d5 d6 f1 f2 f3 f4 f5 f6;generalize (((((w1.setCell ⟨g, 1, none⟩ (.int .i64 ak)).setCell ⟨g, 2, none⟩ (.int .i64 al)).setCell ⟨g, 3, none⟩ (.string (bst ar))).setCell ⟨g, 4, none⟩ (.int .i64 bk)).setCell ⟨g, 5, none⟩ (.int .i64 bl)).setCell ⟨g, 6, none⟩ (.string (bst br)) = W2 at *;have BLk : xab s.data.toList k <= s.size := BL.out k hkl;refine (xa0 W2 H2.out.r hkl hs).mono ?_;rintro y w3 ⟨rfl, m1, rfl⟩;have H3 := hideT (H2.out.step ((H2.out.r.drew m1).put (xab s.data.toList k) _ rfl) ((Tch.drewN (· = b) W2 m1).put1 1 (.int .i64 (xab s.data.toList k : Nat))));have T3 := hideT ((T2.out.more (Tch.drewN _ _ m1)).put1 1 (.int .i64 (xab s.data.toList k : Nat)));have N3 := hideT (CmAt.far (W := W2.drewN m1) N2.out (fun e => hbn e.symm) 1 (.int .i64 (xab s.data.toList k : Nat)));have S3 := hideT (show g + 1 <= ((W2.drewN m1).setCell ⟨b, 1, none⟩ (.int .i64 (xab s.data.toList k : Nat))).heap.size by rw [put_size]; exact S2.out);clear H2 T2 N2 S2;generalize (W2.drewN m1).setCell ⟨b, 1, none⟩ (.int .i64 (xab s.data.toList k : Nat)) = W3 at *;unfold notR at R1
 go_wp2_with fail
 refine (xae ⟨#[33]⟩ W3 H3.out.r BLk).mono ?_;rintro y w3 ⟨rfl, m2, rfl⟩;by_cases hx : mtB s.data.toList (xab s.data.toList k) [33] = true
 ·rw [show mtB s.data.toList (xab s.data.toList k) (⟨#[33]⟩ : ByteArray).data.toList = true from hx];rw [if_pos hx] at R1;have hlt : xab s.data.toList k + 1 <= s.size := by
   rcases Nat.lt_or_ge (xab s.data.toList k) s.size with h | h
   ·exact h
   ·rw [xe7 h] at hx; cases hx
  have hjl : xab s.data.toList (xab s.data.toList k + 1) <= s.size := BL.out _ hlt;clear hx;have A7 := (H3.out.dn m2).set 7 (.bool true) (c' := { co0 with a := ⟨ak, al, ar⟩, b := ⟨bk, bl, br⟩, nt := true }) rfl rfl;have H4 := hideT (A7.step (A7.r.put (xab s.data.toList k + 1) ((xab s.data.toList k : Int) + 1) (by omega)) ((Tch.refl (· = b) _).put1 1 (.int .i64 ((xab s.data.toList k : Int) + 1))));have T4 := hideT (((T3.out.more (Tch.drewN _ _ m2)).new hgw 7 (.bool true)).put1 1 (.int .i64 ((xab s.data.toList k : Int) + 1)));have N4 := hideT (CmAt.far (CmAt.far (W := W3.drewN m2) N3.out hgn.symm 7 (.bool true)) (fun e => hbn e.symm) 1 (.int .i64 ((xab s.data.toList k : Int) + 1)));have S4 := hideT (show g + 1 <= (((W3.drewN m2).setCell ⟨g, 7, none⟩ (.bool true)).setCell ⟨b, 1, none⟩ (.int .i64 ((xab s.data.toList k : Int) + 1))).heap.size by rw [put_size, put_size]; exact S3.out);have d7 := H3.out.m.cell 7 (v := .bool false) rfl;have f7 := H3.out.m.fz 7;have c1 := H3.out.r.c1;have f1 := H3.out.r.fz 1;have hgb : ¬ g = b := fun e => hbm e.symm;have wi : IntKind.i64.wrap ((xab s.data.toList k : Int) + 1) = (xab s.data.toList k : Int) + 1 := by rw [IntKind.wrap_i64]; omega
  go_wp2_with fail
  clear d7 f7 c1 f1 wi A7 H3 T3 N3 S3;generalize ((W3.drewN m2).setCell ⟨g, 7, none⟩ (.bool true)).setCell ⟨b, 1, none⟩ (.int .i64 ((xab s.data.toList k : Int) + 1)) = W4 at *;refine (xa0 W4 H4.out.r hlt hs).mono ?_;rintro y w3 ⟨rfl, m3, rfl⟩
  (try simp only at R1)
  generalize xab s.data.toList (xab s.data.toList k + 1) = p at *;have H5 := hideT (H4.out.step ((H4.out.r.drew m3).put p _ rfl) ((Tch.drewN (· = b) W4 m3).put1 1 (.int .i64 p)));have T5 := hideT ((T4.out.more (Tch.drewN _ _ m3)).put1 1 (.int .i64 p));have N5 := hideT (CmAt.far (W := W4.drewN m3) N4.out (fun e => hbn e.symm) 1 (.int .i64 p));have S5 := hideT (show g + 1 <= ((W4.drewN m3).setCell ⟨b, 1, none⟩ (.int .i64 p)).heap.size by rw [put_size]; exact S4.out);clear H4 T4 N4 S4;generalize (W4.drewN m3).setCell ⟨b, 1, none⟩ (.int .i64 p) = W5 at *
  go_wp2_with fail
  refine (xaz W5 H5.out.r).mono ?_;rintro y w6 ⟨rfl, m4, rfl⟩;by_cases hlt2 : p < s.size
  ·rw [decide_eq_false (show ¬ p = s.size by omega)];have R2 := hideT (show rstR G s.data.toList { co0 with pl := p, a := ⟨ak, al, ar⟩, b := ⟨bk, bl, br⟩, nt := true, nm := s[p]'hlt2 } (p + 1) = RR by
    have := R1.out;rw [List.getElem?_eq_getElem (show p < s.data.toList.length from hlt2)] at this;exact this)
   have H6 := hideT (H5.out.dn m4);have T6 := hideT (T5.out.more (Tch.drewN _ _ m4));have N6 := hideT (N5.out.dn m4);have S6 := hideT (show g + 1 <= (W5.drewN m4).heap.size from S5.out);clear H5 T5 N5 S5 R1
   go_wp2_with fail
   generalize W5.drewN m4 = W6 at *;have c0 := H6.out.r.c0;have c1 := H6.out.r.c1;have i1 : (p : Int) < (s.size : Int) := by omega
   have i2 : (0 : Int) <= (p : Int) := by omega
   have d0 := H6.out.m.cell 0 (v := .int .i64 0) rfl;have d8 := H6.out.m.cell 8 (v := .int .u8 0) rfl;have f0 := H6.out.m.fz 0;have f8 := H6.out.m.fz 8;have hgb : ¬ g = b := fun e => hbm e.symm;have k0 : ∀ u, (W6.setCell ⟨g, 0, none⟩ u).drew.cell? ⟨b, 0, none⟩ = some (.string s) /\ (W6.setCell ⟨g, 0, none⟩ u).drew.cell? ⟨b, 1, none⟩ = some (.int .i64 p) := fun u => ⟨(H6.out.r.far hbm 0 u).c0, (H6.out.r.far hbm 0 u).c1⟩;have k2 : ∀ u v, ((W6.setCell ⟨g, 0, none⟩ u).setCell ⟨g, 8, none⟩ v).drew.cell? ⟨b, 0, none⟩ = some (.string s) /\ ((W6.setCell ⟨g, 0, none⟩ u).setCell ⟨g, 8, none⟩ v).drew.cell? ⟨b, 1, none⟩ = some (.int .i64 p) := fun u v => ⟨((H6.out.r.far hbm 0 u).far hbm 8 v).c0, ((H6.out.r.far hbm 0 u).far hbm 8 v).c1⟩
   go_region_held3 (fun W' => W'.cell? ⟨b, 0, none⟩ = some (.string s) /\ W'.cell? ⟨b, 1, none⟩ = some (.int .i64 p)) (first | exact ⟨c0, c1⟩ | exact k0 _ | exact k2 _ _) (fail)
   all_goals
    have A8 := (H6.out.set 0 (.int .i64 p) (c' := { co0 with pl := p, a := ⟨ak, al, ar⟩, b := ⟨bk, bl, br⟩, nt := true }) rfl rfl).set 8 (.int .u8 ((s[p]'hlt2).toNat : Nat)) (c' := { co0 with pl := p, a := ⟨ak, al, ar⟩, b := ⟨bk, bl, br⟩, nt := true, nm := s[p]'hlt2 }) rfl rfl;have H7 := hideT (A8.dn 1);have T7 := hideT (((T6.out.new hgw 0 (.int .i64 p)).new hgw 8 (.int .u8 ((s[p]'hlt2).toNat : Nat))).more (Tch.drewN _ _ 1));have N7 := hideT (((N6.out.far hgn.symm 0 (.int .i64 p)).far hgn.symm 8 (.int .u8 ((s[p]'hlt2).toNat : Nat))).dn 1);have S7 := hideT (show g + 1 <= (((W6.setCell ⟨g, 0, none⟩ (.int .i64 p)).setCell ⟨g, 8, none⟩ (.int .u8 ((s[p]'hlt2).toNat : Nat))).drewN 1).heap.size by show g + 1 <= ((W6.setCell ⟨g, 0, none⟩ (.int .i64 p)).setCell ⟨g, 8, none⟩ (.int .u8 ((s[p]'hlt2).toNat : Nat))).heap.size; rw [put_size, put_size]; exact S6.out);clear d0 d8 f0 f8 k0 k2 A8 H6 T6 N6 S6;rw [show ((W6.setCell ⟨g, 0, none⟩ (.int .i64 p)).setCell ⟨g, 8, none⟩ (.int .u8 ((s[p]'hlt2).toNat : Nat))).drew = ((W6.setCell ⟨g, 0, none⟩ (.int .i64 p)).setCell ⟨g, 8, none⟩ (.int .u8 ((s[p]'hlt2).toNat : Nat))).drewN 1 from rfl];generalize ((W6.setCell ⟨g, 0, none⟩ (.int .i64 p)).setCell ⟨g, 8, none⟩ (.int .u8 ((s[p]'hlt2).toNat : Nat))).drewN 1 = W7 at *;generalize hnm : s[p]'hlt2 = nm at *;clear hnm;have c1 := H7.out.r.c1;have f1 := H7.out.r.fz 1;have wi : IntKind.i64.wrap ((p : Int) + 1) = (p : Int) + 1 := by rw [IntKind.wrap_i64]; omega
    have H8 := hideT (H7.out.step (H7.out.r.put (p + 1) ((p : Int) + 1) (by omega)) ((Tch.refl (· = b) _).put1 1 (.int .i64 ((p : Int) + 1))));have T8 := hideT (T7.out.put1 1 (.int .i64 ((p : Int) + 1)));have N8 := hideT (N7.out.far (fun e => hbn e.symm) 1 (.int .i64 ((p : Int) + 1)));have S8 := hideT (show g + 1 <= (W7.setCell ⟨b, 1, none⟩ (.int .i64 ((p : Int) + 1))).heap.size by rw [put_size]; exact S7.out)
    go_wp2_with fail
    clear c1 f1 wi H7 T7 N7 S7;generalize W7.setCell ⟨b, 1, none⟩ (.int .i64 ((p : Int) + 1)) = W8 at *;refine (xl7 W8 ⟨HQ.out, HTB.out, H8.out, hlt2, hs, HG.out _ T8.out, hb1, by omega, S8.out⟩).mono ?_;intro e w9 hp;rcases hd : rstR G s.data.toList { co0 with pl := p, a := ⟨ak, al, ar⟩, b := ⟨bk, bl, br⟩, nt := true, nm := nm } (p + 1) with x | ⟨c9, k9⟩
    ·exact bxw2
    exact bxw0
  ·exact bxw1
 ·rw [show mtB s.data.toList (xab s.data.toList k) (⟨#[33]⟩ : ByteArray).data.toList = false from Bool.eq_false_iff.2 hx];rw [if_neg hx] at R1;clear hx
  (try simp only at R1)
  have hjl := BLk;clear BLk;generalize xab s.data.toList k = p at *;have H5 := hideT (H3.out.dn m2);have T5 := hideT (T3.out.more (Tch.drewN _ _ m2));have N5 := hideT (N3.out.dn m2);have S5 := hideT (show g + 1 <= (W3.drewN m2).heap.size from S3.out);clear H3 T3 N3 S3;generalize W3.drewN m2 = W5 at *
  go_wp2_with fail
  refine (xaz W5 H5.out.r).mono ?_;rintro y w6 ⟨rfl, m4, rfl⟩;by_cases hlt2 : p < s.size
  ·rw [decide_eq_false (show ¬ p = s.size by omega)];have R2 := hideT (show rstR G s.data.toList { co0 with pl := p, a := ⟨ak, al, ar⟩, b := ⟨bk, bl, br⟩, nt := false, nm := s[p]'hlt2 } (p + 1) = RR by
    have := R1.out;rw [List.getElem?_eq_getElem (show p < s.data.toList.length from hlt2)] at this;exact this)
   have H6 := hideT (H5.out.dn m4);have T6 := hideT (T5.out.more (Tch.drewN _ _ m4));have N6 := hideT (N5.out.dn m4);have S6 := hideT (show g + 1 <= (W5.drewN m4).heap.size from S5.out);clear H5 T5 N5 S5 R1
   go_wp2_with fail
   generalize W5.drewN m4 = W6 at *;have c0 := H6.out.r.c0;have c1 := H6.out.r.c1;have i1 : (p : Int) < (s.size : Int) := by omega
   have i2 : (0 : Int) <= (p : Int) := by omega
   have d0 := H6.out.m.cell 0 (v := .int .i64 0) rfl;have d8 := H6.out.m.cell 8 (v := .int .u8 0) rfl;have f0 := H6.out.m.fz 0;have f8 := H6.out.m.fz 8;have hgb : ¬ g = b := fun e => hbm e.symm;have k0 : ∀ u, (W6.setCell ⟨g, 0, none⟩ u).drew.cell? ⟨b, 0, none⟩ = some (.string s) /\ (W6.setCell ⟨g, 0, none⟩ u).drew.cell? ⟨b, 1, none⟩ = some (.int .i64 p) := fun u => ⟨(H6.out.r.far hbm 0 u).c0, (H6.out.r.far hbm 0 u).c1⟩;have k2 : ∀ u v, ((W6.setCell ⟨g, 0, none⟩ u).setCell ⟨g, 8, none⟩ v).drew.cell? ⟨b, 0, none⟩ = some (.string s) /\ ((W6.setCell ⟨g, 0, none⟩ u).setCell ⟨g, 8, none⟩ v).drew.cell? ⟨b, 1, none⟩ = some (.int .i64 p) := fun u v => ⟨((H6.out.r.far hbm 0 u).far hbm 8 v).c0, ((H6.out.r.far hbm 0 u).far hbm 8 v).c1⟩
   go_region_held3 (fun W' => W'.cell? ⟨b, 0, none⟩ = some (.string s) /\ W'.cell? ⟨b, 1, none⟩ = some (.int .i64 p)) (first | exact ⟨c0, c1⟩ | exact k0 _ | exact k2 _ _) (fail)
   all_goals
    have A8 := (H6.out.set 0 (.int .i64 p) (c' := { co0 with pl := p, a := ⟨ak, al, ar⟩, b := ⟨bk, bl, br⟩, nt := false }) rfl rfl).set 8 (.int .u8 ((s[p]'hlt2).toNat : Nat)) (c' := { co0 with pl := p, a := ⟨ak, al, ar⟩, b := ⟨bk, bl, br⟩, nt := false, nm := s[p]'hlt2 }) rfl rfl;have H7 := hideT (A8.dn 1);have T7 := hideT (((T6.out.new hgw 0 (.int .i64 p)).new hgw 8 (.int .u8 ((s[p]'hlt2).toNat : Nat))).more (Tch.drewN _ _ 1));have N7 := hideT (((N6.out.far hgn.symm 0 (.int .i64 p)).far hgn.symm 8 (.int .u8 ((s[p]'hlt2).toNat : Nat))).dn 1);have S7 := hideT (show g + 1 <= (((W6.setCell ⟨g, 0, none⟩ (.int .i64 p)).setCell ⟨g, 8, none⟩ (.int .u8 ((s[p]'hlt2).toNat : Nat))).drewN 1).heap.size by show g + 1 <= ((W6.setCell ⟨g, 0, none⟩ (.int .i64 p)).setCell ⟨g, 8, none⟩ (.int .u8 ((s[p]'hlt2).toNat : Nat))).heap.size; rw [put_size, put_size]; exact S6.out);clear d0 d8 f0 f8 k0 k2 A8 H6 T6 N6 S6;rw [show ((W6.setCell ⟨g, 0, none⟩ (.int .i64 p)).setCell ⟨g, 8, none⟩ (.int .u8 ((s[p]'hlt2).toNat : Nat))).drew = ((W6.setCell ⟨g, 0, none⟩ (.int .i64 p)).setCell ⟨g, 8, none⟩ (.int .u8 ((s[p]'hlt2).toNat : Nat))).drewN 1 from rfl];generalize ((W6.setCell ⟨g, 0, none⟩ (.int .i64 p)).setCell ⟨g, 8, none⟩ (.int .u8 ((s[p]'hlt2).toNat : Nat))).drewN 1 = W7 at *;generalize hnm : s[p]'hlt2 = nm at *;clear hnm;have c1 := H7.out.r.c1;have f1 := H7.out.r.fz 1;have wi : IntKind.i64.wrap ((p : Int) + 1) = (p : Int) + 1 := by rw [IntKind.wrap_i64]; omega
    have H8 := hideT (H7.out.step (H7.out.r.put (p + 1) ((p : Int) + 1) (by omega)) ((Tch.refl (· = b) _).put1 1 (.int .i64 ((p : Int) + 1))));have T8 := hideT (T7.out.put1 1 (.int .i64 ((p : Int) + 1)));have N8 := hideT (N7.out.far (fun e => hbn e.symm) 1 (.int .i64 ((p : Int) + 1)));have S8 := hideT (show g + 1 <= (W7.setCell ⟨b, 1, none⟩ (.int .i64 ((p : Int) + 1))).heap.size by rw [put_size]; exact S7.out)
    go_wp2_with fail
    clear c1 f1 wi H7 T7 N7 S7;generalize W7.setCell ⟨b, 1, none⟩ (.int .i64 ((p : Int) + 1)) = W8 at *;refine (xl7 W8 ⟨HQ.out, HTB.out, H8.out, hlt2, hs, HG.out _ T8.out, hb1, by omega, S8.out⟩).mono ?_;intro e w9 hp;rcases hd : rstR G s.data.toList { co0 with pl := p, a := ⟨ak, al, ar⟩, b := ⟨bk, bl, br⟩, nt := false, nm := nm } (p + 1) with x | ⟨c9, k9⟩
    ·exact bxw2
    exact bxw0
  ·exact bxw1
theorem un_gt (d : UInt8) (ln : Bool) : ∀ (r : List UInt8) (p : Nat) (t : List UInt8), (unR d ln r p t).2.2 = 0 -> p < (unR d ln r p t).2.1
 | [], p, t => by simp [unR]
 | [b], p, t => by
  unfold unR;split <;> simp
 | b :: c :: r, p, t => by
  have h1 := un_gt d ln (c :: r) (p + 1) (t ++ [b]);have h2 := un_gt d ln r (p + 2) (t ++ ((if xgp d c then [92] else []) ++ [c]));unfold unR;split
  ·intro _; simp
  ·split
   ·simp
   ·split
    ·intro h; have := h1 h; omega
    ·split
     ·simp
     ·intro h; have := h2 h; omega
theorem xl8 {d : UInt8} {ln : Bool} (h : pieR l i d ln p = .ok (t, k)) : i < k := by
 unfold pieR at h;split at h
 ·rename_i he;cases h;unfold xau at he ⊢;split at he
  ·simp at he
  ·rename_i hn;rw [if_neg hn];rw [Int.toNat_natCast] at he ⊢;exact un_gt d ln _ _ _ he
 ·cases h
theorem sid_gt {d : UInt8} (h : sidR l d p i = .ok (t, k)) : i < k := by
 unfold sidR at h;split at h
 ·cases h
 ·rename_i hp;split at h
  ·cases h; exact xl8 hp
  ·cases h
theorem tx_fw : ∀ (r : List UInt8) (p : Nat) (t : List UInt8), (txR r p t).2.2 = 0 -> p <= (txR r p t).2.1 /\ (txR r p t).2.1 <= p + r.length
 | [], p, t => by simp [txR]
 | [b], p, t => by
  unfold txR;split
  ·simp
  ·split <;> simp
 | b :: c :: r, p, t => by
  have h1 := tx_fw (c :: r) (p + 1) (t ++ [b]);have h2 := tx_fw r (p + 2) (t ++ [c]);unfold txR;split
  ·intro _; simp only [List.length_cons]; omega
  ·split
   ·intro h; have := h2 h; simp only [List.length_cons]; omega
   ·intro h; have := h1 h; simp only [List.length_cons] at *; omega
theorem xgr (l : List UInt8) (i : Nat) : i <= xab l i := by unfold xab; omega
theorem txt_fw (hi : i <= l.length) (h : txtR l p i = .ok (t, k)) : i <= k /\ k <= l.length := by
 unfold txtR at h;split at h
 ·rename_i he;cases h;have hb := xao l i hi;have hg := xgr l i;unfold scanP.textR at he ⊢;simp only at he ⊢;generalize xab l i = j at *;cases hd : l.drop j with
  | nil => rw [hd] at he; simp at he
  | cons b r =>
   cases r with
   | nil => rw [hd] at he; simp at he
   | cons c q =>
    have hlen : q.length + 2 = l.length - j := by
     have := congrArg List.length hd;rw [List.length_drop] at this;simp only [List.length_cons] at this;omega
    rw [hd] at he;simp only at he ⊢;split at he
    ·rename_i hc;split at he
     ·simp at he
     ·rename_i hq;rw [if_pos hc, if_neg hq];have := tx_fw q (j + 2) [] he;omega
    ·simp at he
 ·cases h
theorem lin_fw (hi : i <= l.length) : i <= (xbi l i).2 /\ (xbi l i).2 <= l.length := by
 refine ⟨?_, xis hi⟩;have := xgr l i;unfold xbi;simp only;omega
theorem wrd_fw (hi : i <= l.length) : i <= (xcw l i).2 /\ (xcw l i).2 <= l.length := by
 have h0 := xgr l i;have h1 := xao l i hi;have h2 := wd_le (l.drop (xab l i));have h3 := xhg (l.drop (xab l i));rw [List.length_drop] at h3;unfold xcw;simp only;omega
theorem fil_fw (hi : i <= l.length) (h : filC l c i = .ok (c', k)) : i <= k /\ k <= l.length := by
 unfold filC filR at h;have := lin_fw hi;split at h
 ·cases h
 ·rename_i he;split at he
  ·cases he; cases h; exact this
  ·cases he
theorem lab_fw (hi : i <= l.length) (h : labC l c i = .ok (c', k)) : i <= k /\ k <= l.length := by
 unfold labC labR at h;have := wrd_fw hi;split at h
 ·cases h
 ·rename_i he;split at he
  ·cases he
  ·cases he; cases h; exact this
theorem xou (hi : i <= l.length) (h : endC l c i = .ok (c', k)) : i <= k /\ k <= l.length := by
 unfold endC endR at h;have h1 := xgr l i;have h2 := xao l i hi;split at h
 ·cases h
 ·rename_i he;split at he
  ·cases he; cases h; exact ⟨h1, h2⟩
  ·cases he
theorem xct {S : List UInt8} (h : mtB l i S = true) : i < l.length := by
 unfold mtB at h;split at h
 ·cases h
 ·rename_i hb; exact (List.getElem?_eq_some_iff.1 hb).1
theorem xl9 : ∀ (n : Nat) {c c' : Co} {i k : Nat}, i <= l.length -> flgR l n c i = .ok (c', k) -> i <= k /\ k <= l.length
 | 0, c, c', i, k, hi, h => by cases h; exact ⟨Nat.le_refl _, hi⟩
 | n + 1, c, c', i, k, hi, h => by
  unfold flgR at h;split at h
  ·rename_i hm;split at h
   ·cases h
   ·have := xl9 n (xct hm) h; omega
  ·split at h
   ·rename_i hm;split at h
    ·cases h
    ·have := xl9 n (xct hm) h; omega
   ·split at h
    ·split at h
     ·cases h
     ·rename_i hn;have he : (numR l i).2.2 = 0 := Decidable.not_not.1 fun e => hn (.inr (.inl e));have := xl9 n (xeu hi he) h;have := xit he;omega
    ·split at h
     ·rename_i hm;have := fil_fw (xct hm) h; omega
     ·exact xou hi h
theorem sed_fw (h : sedR G l c i = .ok (c', k)) : i <= k /\ k <= l.length := by
 unfold sedR at h;split at h
 ·cases h
 ·rename_i d j hd;obtain ⟨h1, h2, _⟩ := xb4 hd;split at h
  ·cases h
  ·rename_i t k1 hp;have h3 := xl8 hp;have h4 := (xbd hp h2).2;split at h
   ·cases h
   ·rename_i u m hu;have h5 := xl8 hu;have h6 := (xbd hu h4).2;split at h
    ·cases h
    ·split at h
     ·cases h
     ·split at h
      ·cases h
      ·split at h
       ·cases h
       ·rename_i hf;cases h;have := xl9 _ h6 hf;omega
theorem tab_fw (h : tabR l c i = .ok (c', k)) : i <= k := by
 unfold tabR at h;split at h
 ·cases h
 ·rename_i d j hd;split at h
  ·cases h
  ·rename_i f m hf;split at h
   ·cases h
   ·rename_i t n ht;split at h
    ·cases h
    ·cases h;have := (xb4 hd).1;have := sid_gt hf;have := sid_gt ht;omega
theorem rst_fw (hi : i <= l.length) (h : rstR G l c i = .ok (c', k)) : i <= k /\ k <= l.length := by
 unfold rstR at h;split at h
 ·cases h; exact ⟨Nat.le_refl _, hi⟩
 ·split at h
  ·unfold txtC at h;split at h
   ·cases h
   ·rename_i ht;cases h;exact txt_fw hi ht
  ·split at h
   ·exact lab_fw hi h
   ·split at h
    ·exact fil_fw hi h
    ·split at h
     ·exact sed_fw h
     ·split at h
      ·split at h
       ·cases h
       ·rename_i ht;have h1 := tab_fw ht;have := xou (xho ht) h;omega
      ·split at h
       ·exact xou hi h
       ·cases h
theorem one_ge (h : oneA G l i = .ok (a, k)) : i <= k := by
 have mat : ∀ p j, matR G l p j = .ok (a, k) -> j <= k := fun p j hm => by
  unfold matR at hm;split at hm
  ·cases hm
  ·rename_i d j' hd;split at hm
   ·cases hm
   ·rename_i t k' hp;split at hm
    ·cases hm
    ·cases hm;have := (xb4 hd).1;have := xl8 hp;omega
 unfold oneA at h;split at h
 ·unfold linR at h;split at h
  ·cases h
  ·rename_i hn;cases h;exact Nat.le_of_lt (xit (Decidable.not_not.1 fun e => hn (.inl e)))
 ·split at h
  ·cases h; omega
  ·split at h
   ·exact mat _ _ h
   ·split at h
    ·have := mat _ _ h; omega
    ·cases h; exact Nat.le_refl _
theorem two_ge {c : Adr} (h : twoA G l i = .ok (a, c, k)) : i <= k := by
 unfold twoA at h;split at h
 ·cases h
 ·rename_i a' k' h1;have hk := one_ge h1;have hb := xgr l k';split at h
  ·cases h; exact hk
  ·split at h
   ·split at h
    ·cases h
    ·rename_i b' m h2;split at h
     ·cases h
     ·cases h;have := one_ge h2;have := xgr l (xab l k' + 1);omega
   ·cases h; omega
theorem xf8 (h : cmdR G l i = .ok (c, k)) : i < k /\ k <= l.length := by
 unfold cmdR at h;split at h
 ·cases h
 ·rename_i a b j ht;have h1 := two_ge ht;have h2 : j <= (notR l j).2 := by
   have h3 := xgr l j;have h4 := xgr l (xab l j + 1);unfold notR;split <;> simp only <;> omega
  split at h
  ·cases h
  ·rename_i nm hn;have h3 := (List.getElem?_eq_some_iff.1 hn).1;have := rst_fw h3 h;omega
theorem xe8 : ∀ (n : Nat) {i k : Nat}, i <= l.length -> cmsR l n i = some k -> i <= k /\ k < l.length
 | 0, i, k, _, h => by cases h
 | n + 1, i, k, hi, h => by
  unfold cmsR at h;split at h
  ·cases h
  ·rename_i hl;split at h
   ·rename_i hm;have := xe8 n (xct hm) h; omega
   ·split at h
    ·have h1 := lin_fw hi;have := xe8 n h1.2 h;omega
    ·cases h;omega
def coX : List (Co × Value) -> List Value
 | [] => []
 | x :: r => coV x.1 x.2 ++ coX r
theorem xov : ∀ l m : List (Co × Value), coX (l ++ m) = coX l ++ coX m
 | [], m => rfl
 | x :: r, m => by rw [List.cons_append, coX, coX, xov r m, List.append_assoc]
theorem coX_one (c : Co) (pv : Value) : coX [(c, pv)] = coV c pv := by rw [coX, coX, List.append_nil]
structure LsAt (W : World) (B : Nat) (v : Value) (L : List (Co × Value)) : Prop where
 own : W.ownsRow B 71 19 v L.length (coX L)
 pa : ∀ x ∈ L, PaAt W B x.2 x.1.ps
theorem LsAt.stay {v : Value} {L : List (Co × Value)} (h : LsAt W B v L) (ht : Tch F W W') (hF : ∀ k, F k -> k < B) : LsAt W' B v L :=
 ⟨owns_keep h.own (fun g hg => by
  obtain ⟨h1, h2, _⟩ := owns_blk h.own hg;exact ht.block g h2 (fun hf => absurd (hF g hf) (by omega))), fun x hx => (h.pa x hx).stay ht hF⟩
theorem infoCo : (Tryz.prog.info? 71).map (fun i => (i.zero, i.size, i.bytes)) = some (some (.agg #[.int .i64 0, .int .i64 0, .int .i64 0, .string ⟨#[]⟩, .int .i64 0, .int .i64 0, .string ⟨#[]⟩, .bool false, .int .u8 0, .string ⟨#[]⟩, .string ⟨#[]⟩, .string ⟨#[]⟩, .string ⟨#[]⟩, .slice none 0 0, .int .i64 0, .bool false, .bool false, .string ⟨#[]⟩, .string ⟨#[]⟩]), 19, 216) := by kernel_rfl
theorem coV_mem (c : Co) (pv : Value) (hp : pv.oneCell' = true) : ∀ u ∈ coV c pv, u.oneCell' = true := by
 have := xd0 c pv hp;rw [Array.all_eq_true_iff_forall_mem] at this;exact fun u hu => this u (by simpa using hu)
theorem xow {V : World} {ops : Array Oper} {rest : List Oper} {op : Oper} {a : Act} {Q : Exit -> Act -> World -> Prop} (hgd : op.guard = none) (s x : Operand)
  (ho : op.op = .call { callee := .builtin .append, args := #[s, x], argTypes := #[87, 87] })
  (B : Nat) (v : Value) (L : List (Co × Value)) (c : Co) (pv : Value) (hw : w = V.alloc (.cells (coV c pv).toArray 71)) (hs : a.eval s = v) (hL : LsAt V B v L) (hp : PaAt V B pv c.ps) (cp : Nat) (hx : a.eval x = .slice (some ⟨V.heap.size, 0, none⟩) 1 cp) (hl : L.length <= 100000) (hB : B <= V.heap.size)
  (h : ∀ v' w', LsAt w' B v' (L ++ [(c, pv)]) -> (∃ g2 cap, v' = .slice (some ⟨g2, 0, none⟩) (L.length + 1) cap) -> Tch (fun k => B <= k) V w' -> wpList Tryz.prog ops Q rest (a.put op.dst v') w') : wpList Tryz.prog ops Q (op :: rest) a w := by
 obtain ⟨i0, hi, hz0, hz1, hz2⟩ := info_parts infoCo;have hA := Bal V (.cells (coV c pv).toArray 71);rw [<- hw] at hA;have hN : w.heap[V.heap.size]? = some (.cells (coV c pv).toArray 71) := by rw [hw]; exact heap_alloc_new V _
 have hLw := hL.stay (Tch.of (F := fun _ => False) hA) (fun _ h => h.elim);have hpw := hp.stay (Tch.of (F := fun _ => False) hA) (fun _ h => h.elim);have hBw := Nat.le_trans hB hA.size;refine wpList_append_lies w hgd s x 87 ho B 71 i0 _ 19 216 Tryz.underlying87 hi hz0 hz1 hz2 rfl (by decide) v L.length (coX L) hs hLw.own ⟨V.heap.size, 0, none⟩ 1 cp (coV c pv) hx (by rw [xf7]) (fun j u hu => ?_) (coV_mem c pv hp.one) (by decide) (by unfold maxLen; omega) (by omega) hBw w.heap.size rfl ?_
 ·have hadd : (⟨V.heap.size, 0, none⟩ : Addr).add j = ⟨V.heap.size, j, none⟩ := by unfold Addr.add; split <;> simp_all
  rw [hadd];simp only [World.cell?, hN];simpa using hu
 ·intro g2 cap w' h1 h2 h3 _;have hgr : ∀ (pv' : Value) (ps : List Pt), PaAt w B pv' ps -> PaAt w' B pv' ps := fun pv' ps hq =>
   owns_keep hq (fun g hg => by
    obtain ⟨_, hlt, _⟩ := owns_blk hq hg;refine h2.block g hlt (fun e => ?_);exact xm0 hq hLw.own (by decide) g hg e.symm)
  refine h _ w' ⟨?_, ?_⟩ ⟨g2, cap, rfl⟩ ?_
  ·rw [List.length_append, xov, coX_one];exact h1
  ·intro y hy;rcases List.mem_append.1 hy with hy | hy
   ·exact hgr _ _ (hLw.pa y hy)
   ·obtain rfl := List.mem_singleton.1 hy;exact hgr _ _ hpw
  ·refine ⟨h2.os.trans hA.os, h2.tape.trans hA.tape, h2.output.trans hA.output, Nat.le_trans hA.size h2.size, fun k hk hn => ?_⟩;refine (h2.block k (Nat.lt_of_lt_of_le hk hA.size) (fun e => ?_)).trans (hA.block k hk);exact hn (owns_blk hLw.own e.symm).1
def PL (b : Nat) (w : World) (r : Rd (List Co)) (e : Ending) (w' : World) : Prop := match r with
 | .error x => e = gvX x /\ Tch (· = b) w w'
 | .ok cs => ∃ v L, e = .returned v /\ LsAt w' w.heap.size v L /\ L.map (·.1) = cs /\ Tch (· = b) w w'
theorem xox (W : World) (B : Nat) : LsAt W B (.slice none 0 0) [] := ⟨World.ownsRow_nil _ _ _ _, fun _ h => by cases h⟩
theorem xiw (hG : xf2 G) (hTb : xop) (n : Nat) (w : World) (h : RAt w b s i) (hi : i <= s.size) (hs : s.size <= 4096) (hg : Gl w) (hb1 : 1 < b) (hn : s.size < i + n) : Calls Tryz.prog 60 #[.pointer (some ⟨b, 0, none⟩)] w (PL b w (allR G s.data.toList n i [])) := by
 generalize hRR : allR G s.data.toList n i [] = RR;have HRR := hideT hRR;have HR := hideT h;have HG := hideT (fun W (ht : Tch (· = b) w W) => hg.stay ht (fun k e => by subst e; exact hb1));have HQ := hideT hG;have HTB := hideT hTb;have hbl := h.lt;clear h hRR hg hG hTb;go_enter Tryz.func60, Tryz.ntmps60
 go_wp2_with fail
 go_loopg [3] n (fun k v wr => ∃ j L, Hid (RAt wr b s j) /\ j <= s.size /\ s.size < j + k /\ L.length <= j /\ Hid (LsAt wr w.heap.size v L) /\ Hid (allR G s.data.toList k j (L.map (·.1)) = RR) /\ Hid (Tch (· = b) w wr))
 case atStart => exact ⟨i, [], HR, hi, hn, Nat.zero_le _, hideT (xox _ _), HRR, hideT (Tch.refl _ _)⟩
 case round =>
  obtain ⟨j, L, R, hj, hjk, hlj, LS, E, T⟩ := hrel;clear HRR HR;obtain ⟨k', rfl⟩ : ∃ k', gk = k' + 1 := ⟨gk - 1, by omega⟩;have EU := hideT (show (match cmsR s.data.toList (s.data.toList.length + 1) j with
   | none => .ok (L.map (·.1))
   | some k => match cmdR G s.data.toList k with
    | .error x => .error x
    | .ok (c, m) => allR G s.data.toList k' m (L.map (·.1) ++ [c])) = RR from E.out)
  clear E
  go_wp2_with fail
  refine (xok (s.data.toList.length + 1) wr R.out hj hs (by show s.size < j + (s.size + 1); omega)).mono ?_;intro e w1 hp;rcases hc : cmsR s.data.toList (s.data.toList.length + 1) j with _ | p
  ·rw [hc] at hp EU;obtain ⟨rfl, ht⟩ := hp;have T1 := hideT (T.out.more ht);have L1 := hideT (LS.out.stay ht (fun k e => by subst e; exact hbl));clear ht hc;go_wp2;go_ret;rw [<- EU.out];exact ⟨_, L, rfl, L1.out, rfl, T1.out⟩
  rw [hc] at hp EU;obtain ⟨rfl, hr, ht⟩ := hp;have hpj := xe8 _ hj hc;have T1 := hideT (T.out.more ht);have L1 := hideT (LS.out.stay ht (fun k e => by subst e; exact hbl));have R1 := hideT hr;clear ht hc hr T LS R
  go_wp2_with fail
  refine (xke HQ.out HTB.out w1 R1.out (Nat.le_of_lt hpj.2) hs (HG.out _ T1.out) hb1).mono ?_;intro e w2 hp;rcases hd : cmdR G s.data.toList p with x | ⟨c, m⟩
  ·rw [hd] at hp EU;obtain ⟨rfl, ht⟩ := hp;have T2 := hideT (T1.out.more ht);clear ht hd;go_wp2;rw [<- EU.out];exact ⟨rfl, rfl, T2.out⟩
  rw [hd] at hp EU;obtain ⟨pv, rfl, hr, ht, hq⟩ := hp;have hcf := xf8 hd;have T2 := hideT (T1.out.more ht);have L2 := hideT (L1.out.stay ht (fun k e => by subst e; exact hbl));have R2 := hideT hr;have P2 := hideT (xhn (B := w.heap.size) hq T1.out.size);have hsz := T2.out.size;clear ht hr hq hd T1 L1 R1;simp only [coV]
  go_wp2_with (at_builtin; refine xow rfl _ _ rfl w.heap.size _ L c pv rfl rfl L2.out P2.out _ rfl (by omega) hsz ?_; intro v' w' hL ⟨g2, cap, hv'⟩ hT; subst hv'; have L3 := hideT hL; have T3 := hideT hT; clear hL hT)
  go_roundg k'
  case measure => omega
  case rel =>
   refine ⟨m, L ++ [(c, pv)], hideT (R2.out.stay T3.out (by omega)), hcf.2, ?_, ?_, L3, hideT ?_, hideT (T2.out.trans T3.out (fun j hj => .inr hj))⟩
   ·have := hpj.1;have := hcf.1;omega
   ·rw [List.length_append];have := hpj.1;have := hcf.1;simp only [List.length_cons, List.length_nil];omega
   ·rw [List.map_append];exact EU.out
end Go.Proofs.YtcpokkpjeeblnaaGreatDoor
