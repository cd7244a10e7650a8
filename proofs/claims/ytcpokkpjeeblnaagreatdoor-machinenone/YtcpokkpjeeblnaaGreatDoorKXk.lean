/- script: a command in memory; end; lines. -/
import Derived.Test.YtcpokkpjeeblnaaGreatDoorKBa
import Derived.Test.YtcpokkpjeeblnaaGreatDoorKZa
import Derived.Test.YtcpokkpjeeblnaaGreatDoorKXh
import Derived.Deep.LoopGhost
set_option maxRecDepth 100000
set_option maxHeartbeats 4000000
namespace Go.Proofs.YtcpokkpjeeblnaaGreatDoor
open Go.RowKit
open scanP scrP tpl ytb
variable {P : Prop} {W W' w : World} {g B b i j : Nat} {xs : List Value} {F : Nat -> Prop} {pv : Value} {s : ByteArray} {c : Co} {l : List UInt8}
theorem bxk0 (h : P := by
 go_enter Tryz.func263, Tryz.ntmps263
 go_wp2_with fail
 go_region_with (first | (go_at_call 254; refine (HU.out _).mono ?_; rintro x w1 ⟨rfl, rfl⟩))
 all_goals
  go_wp2_with fail
  refine (HG.out _).mono ?_;rintro x w2 ⟨rfl, rfl⟩;go_wp2;exact ⟨rfl, rfl, Tch.drewN _ w 1⟩) : P := h
theorem bxk1 (h : P := by
 go_enter Tryz.func171, Tryz.ntmps171
 go_wp2_with fail
 go_region_with (first | (go_at_call 210; refine (HU.out _).mono ?_; rintro x w1 ⟨rfl, hb1⟩; have H1 := hideT (HH.out.tch (tF hb1)); have T1 := hideT (Tch.of (F := bg b g) hb1).und; clear hb1; have d9 := H1.out.m.cell 9 (v := .string (bst c.lb)) rfl; have f9 := H1.out.m.fz 9; have c1 := H1.out.r.c1; have f1 := H1.out.r.fz 1; have d0 := H1.out.m.cell 0 (v := .int .i64 c.pl) rfl; have d8 := H1.out.m.cell 8 (v := .int .u8 c.nm.toNat) rfl))
 all_goals
  go_wp2
  go_end0
  exact ⟨rfl, (H1.out.r.far hbg 9 _).put k _ rfl, (T1.out.putg _ _).putb _ _, pv, (H1.out.m.put 9 (.string (bst t))).far (fun e => hbg e.symm) _ _, H1.out.p.stay (((Tch.refl (bg b g) _).putg _ _).putb _ _) (xf3 H1.out.lb H1.out.lg)⟩) : P := h
theorem bxk2 (h : P := by
 go_enter Tryz.func171, Tryz.ntmps171
 go_wp2_with fail
 go_region_with (first | (go_at_call 210; refine (HU.out _).mono ?_; rintro x w1 ⟨rfl, hb1⟩; have H1 := hideT (HH.out.tch (tF hb1)); have T1 := hideT (Tch.of (F := bg b g) hb1).und; clear hb1; have d9 := H1.out.m.cell 9 (v := .string (bst c.lb)) rfl; have f9 := H1.out.m.fz 9; have c1 := H1.out.r.c1; have f1 := H1.out.r.fz 1; have d0 := H1.out.m.cell 0 (v := .int .i64 c.pl) rfl; have d8 := H1.out.m.cell 8 (v := .int .u8 c.nm.toNat) rfl))
 all_goals
  go_wp2_with fail
  refine (HG.out _).mono ?_;rintro x w2 ⟨rfl, rfl⟩;go_wp2;exact ⟨rfl, rfl, (T1.out.putg _ _).putb _ _⟩) : P := h
theorem bxk3 (h : P := by
 go_wp2_with fail
 refine (HF.out _ H2.out).mono ?_;rintro x w1 ⟨rfl, rfl⟩;go_wp2;rw [<- EU.out];exact ⟨rfl, rfl, T2.out⟩) : P := h
def coV (c : Co) (pv : Value) : List Value := [.int .i64 c.pl, .int .i64 c.a.k, .int .i64 c.a.ln, .string (bst c.a.re), .int .i64 c.b.k, .int .i64 c.b.ln, .string (bst c.b.re), .bool c.nt, .int .u8 c.nm.toNat, .string (bst c.lb), .string (bst c.tx), .string (bst c.fl), .string (bst c.re), pv, .int .i64 c.nh, .bool c.an, .bool c.pr, .string (bst c.fr), .string (bst c.to)]
def CmAt (W : World) (g : Nat) (xs : List Value) : Prop := W.heap[g]? = some (.cells xs.toArray 71)
theorem CmAt.cell (h : CmAt W g xs) (j : Nat) {v : Value} (hj : xs[j]? = some v) : W.cell? ⟨g, j, none⟩ = some v := by simp [World.cell?, show W.heap[g]? = _ from h, hj]
theorem CmAt.fz (h : CmAt W g xs) (k : Nat) : W.frozen? ⟨g, k, none⟩ = false := by simp [World.frozen?, show W.heap[g]? = _ from h]
theorem CmAt.put (h : CmAt W g xs) (k : Nat) (u : Value) : CmAt (W.setCell ⟨g, k, none⟩ u) g (xs.set k u) := by
 simp only [CmAt, World.setCell, Array.getElem?_modify, if_true, show W.heap[g]? = _ from h, Option.map_some];simp [List.setIfInBounds_toArray]
theorem CmAt.far {n : Nat} (h : CmAt W g xs) (hn : g ≠ n) (k : Nat) (u : Value) : CmAt (W.setCell ⟨n, k, none⟩ u) g xs := (put_far W n k u (j := g) hn).trans h
theorem CmAt.stay (h : CmAt W g xs) (ht : Tch F W W') (hn : ¬ F g) : CmAt W' g xs := (ht.block g (xah h) hn).trans h
theorem CmAt.dn (h : CmAt W g xs) (m : Nat) : CmAt (W.drewN m) g xs := h
theorem CmAt.d (h : CmAt W g xs) : CmAt W.drew g xs := h
def PU (b : Nat) (s : ByteArray) (w : World) (r : Rd Nat) (e : Ending) (w' : World) : Prop := match r with
 | .error x => e = gvX x /\ Tch (· = b) w w'
 | .ok k => e = .returned (.tuple #[]) /\ RAt w' b s k /\ Tch (· = b) w w'
abbrev bg (b g : Nat) (j : Nat) : Prop := j = b \/ j = g
def PaAt (W : World) (B : Nat) (pv : Value) (ps : List Pt) : Prop := W.ownsRow B 266 2 pv ps.length (ptV ps)
theorem PaAt.stay {ps : List Pt} (h : PaAt W B pv ps) (ht : Tch F W W') (hF : ∀ k, F k -> k < B) : PaAt W' B pv ps :=
 owns_keep h (fun g hg => by
  obtain ⟨h1, h2, _⟩ := owns_blk h hg;exact ht.block g h2 (fun hf => absurd (hF g hf) (by omega)))
def PC (b g B : Nat) (s : ByteArray) (w : World) (r : Rd (Co × Nat)) (e : Ending) (w' : World) : Prop := match r with
 | .error x => e = gvX x /\ Tch (bg b g) w w'
 | .ok (c, k) => e = .returned (.tuple #[]) /\ RAt w' b s k /\ Tch (bg b g) w w' /\ ∃ pv, CmAt w' g (coV c pv) /\ PaAt w' B pv c.ps
theorem Tch.wide (h : Tch (· = b) W W') : Tch (bg b g) W W' := h.mono (fun _ => .inl)
theorem xa8 (w : World) (h : RAt w b s i) (hi : i <= s.size) (hs : s.size <= 4096) : Calls Tryz.prog 175 #[.pointer (some ⟨b, 0, none⟩)] w (PU b s w (endR s.data.toList i)) := by
 have hk : xab s.data.toList i <= s.size := xao s.data.toList i hi;have HB := hideT (xa0 w h hi hs);have HR := hideT h;clear h;unfold endR;generalize xab s.data.toList i = k at *;have X : ∀ m, RAt ((w.drewN m).setCell ⟨b, 1, none⟩ (.int .i64 k)) b s k := fun m => (HR.out.drew m).put k _ rfl;have TX : ∀ m, Tch (· = b) w ((w.drewN m).setCell ⟨b, 1, none⟩ (.int .i64 k)) := fun m => (Tch.drewN _ _ m).put1 _ _;by_cases h1 : k = s.size
 ·rw [if_pos (.inl h1)];have E1 := hideT (decide_eq_true h1);clear h1;go_enter Tryz.func175, Tryz.ntmps175
  go_wp2_with fail
  refine HB.out.mono ?_;rintro x w1 ⟨rfl, m, rfl⟩;have RX := hideT (X m);have TT := hideT (TX m);generalize (w.drewN m).setCell ⟨b, 1, none⟩ (.int .i64 k) = Y at *;clear X TX HB
  go_wp2_with fail
  refine (xaz Y RX.out).mono ?_;rintro x w1 ⟨rfl, m1, rfl⟩;rw [E1.out];go_wp2
  go_end0
  exact ⟨rfl, RX.out.drew m1, TT.out.more (Tch.drewN _ _ m1)⟩
 ·have E1 := hideT (decide_eq_false h1);by_cases h2 : mtB s.data.toList k [10, 59, 125, 35] = true
  ·rw [if_pos (.inr h2)];have E2 := hideT h2;clear h1 h2;go_enter Tryz.func175, Tryz.ntmps175
   go_wp2_with fail
   refine HB.out.mono ?_;rintro x w1 ⟨rfl, m, rfl⟩;have RX := hideT (X m);have TT := hideT (TX m);generalize (w.drewN m).setCell ⟨b, 1, none⟩ (.int .i64 k) = Y at *;clear X TX HB
   go_wp2_with fail
   refine (xaz Y RX.out).mono ?_;rintro x w1 ⟨rfl, m1, rfl⟩;rw [E1.out]
   go_wp2_with fail
   refine (xae ⟨#[10, 59, 125, 35]⟩ _ (RX.out.drew m1) hk).mono ?_;rintro x w1 ⟨rfl, m2, rfl⟩;rw [show mtB s.data.toList k (⟨#[10, 59, 125, 35]⟩ : ByteArray).data.toList = true from E2.out];go_wp2
   go_end0
   exact ⟨rfl, RX.out.drew _, TT.out.more (Tch.drewN _ _ _)⟩
  ·rw [if_neg (by rintro (h | h); exact h1 h; exact h2 h)];have E2 := hideT (Bool.eq_false_iff.2 h2);have HG := hideT (xaw 19 k);clear h1 h2;go_enter Tryz.func175, Tryz.ntmps175
   go_wp2_with fail
   refine HB.out.mono ?_;rintro x w1 ⟨rfl, m, rfl⟩;have RX := hideT (X m);have TT := hideT (TX m);generalize (w.drewN m).setCell ⟨b, 1, none⟩ (.int .i64 k) = Y at *;clear X TX HB;have c1 := RX.out.c1
   go_wp2_with fail
   refine (xaz Y RX.out).mono ?_;rintro x w1 ⟨rfl, m1, rfl⟩;rw [E1.out]
   go_wp2_with fail
   refine (xae ⟨#[10, 59, 125, 35]⟩ _ (RX.out.drew m1) hk).mono ?_;rintro x w1 ⟨rfl, m2, rfl⟩;rw [show mtB s.data.toList k (⟨#[10, 59, 125, 35]⟩ : ByteArray).data.toList = false from E2.out]
   go_wp2_with fail
   refine (HG.out _).mono ?_;rintro x w1 ⟨rfl, rfl⟩;go_wp2;exact ⟨rfl, rfl, TT.out.more (Tch.drewN _ _ _)⟩
structure Both (w : World) (b g B : Nat) (s : ByteArray) (i : Nat) (c : Co) (pv : Value) : Prop where
 r : RAt w b s i
 m : CmAt w g (coV c pv)
 p : PaAt w B pv c.ps
 ne : b ≠ g
 lb : b < B
 lg : g < B
theorem Both.tch {w' : World} (h : Both w b g B s i c pv) (ht : Tch (fun _ => False) w w') : Both w' b g B s i c pv := ⟨h.r.stay ht (fun h => h), h.m.stay ht (fun h => h), h.p.stay ht (fun _ h => h.elim), h.ne, h.lb, h.lg⟩
theorem tF {w1 : World} (hb : Below w.drew.heap.size w.drew w1) : Tch (fun _ => False) w w1 := ⟨hb.os, hb.tape, hb.output, hb.size, fun k hk _ => hb.block k hk⟩
theorem xf3 (h1 : b < B) (h2 : g < B) : ∀ k, bg b g k -> k < B := fun k h => by rcases h with rfl | rfl <;> assumption
theorem Tch.putg (h : Tch (bg b g) W W') (k : Nat) (u : Value) : Tch (bg b g) W (W'.setCell ⟨g, k, none⟩ u) := h.put (b := g) (.inr rfl) k u
theorem Tch.putb (h : Tch (bg b g) W W') (k : Nat) (u : Value) : Tch (bg b g) W (W'.setCell ⟨b, k, none⟩ u) := h.put (b := b) (.inl rfl) k u
theorem xf4 (w : World) (h : Both w b g B s i c pv) (hi : i <= s.size) (hs : s.size <= 4096) : Calls Tryz.prog 170 #[.pointer (some ⟨b, 0, none⟩), .pointer (some ⟨g, 0, none⟩)] w (PC b g B s w (txtC s.data.toList c i)) := by
 have c0 := h.r.c0;have c1 := h.r.c1;have HU := hideT (fun w => prg.text_doc s (i : Nat) (by omega) w);rw [xf1 hi] at HU;unfold txtC txtR;generalize hu : textR s.data.toList i = u at *;obtain ⟨t, k, e⟩ := u;have HH := hideT h;have hbg := h.ne;clear h;by_cases he : e = 0
 ·subst he;have HN := hideT (xdx c.pl);rw [if_pos rfl];go_enter Tryz.func170, Tryz.ntmps170
  go_wp2_with fail
  go_region_with (first | (go_at_call 208; refine (HU.out _).mono ?_; rintro x w1 ⟨rfl, hb1⟩))
  all_goals
   have H1 := hideT (HH.out.tch (tF hb1));have T1 := hideT (Tch.of (F := bg b g) hb1).und;clear hb1 c0 c1 hu HU;have d0 := H1.out.m.cell 0 (v := .int .i64 c.pl) rfl;have d10 := H1.out.m.cell 10 (v := .string (bst c.tx)) rfl;have f10 := H1.out.m.fz 10;have c1 := H1.out.r.c1;have f1 := H1.out.r.fz 1;have hgb : ¬ g = b := fun e => hbg e.symm
   go_wp2_with fail
   refine (HN.out _).mono ?_;rintro x w2 ⟨rfl, rfl⟩;go_wp2
   go_end0
   exact ⟨rfl, (H1.out.r.far hbg 10 _).put k _ rfl, (T1.out.putg _ _).putb _ _, pv, (H1.out.m.put 10 (.string (bst t))).far (fun e => hbg e.symm) _ _, H1.out.p.stay (((Tch.refl (bg b g) _).putg _ _).putb _ _) (xf3 H1.out.lb H1.out.lg)⟩
 ·have HN := hideT (xc4 e c.pl he);rw [if_neg he];go_enter Tryz.func170, Tryz.ntmps170
  go_wp2_with fail
  go_region_with (first | (go_at_call 208; refine (HU.out _).mono ?_; rintro x w1 ⟨rfl, hb1⟩))
  all_goals
   have H1 := hideT (HH.out.tch (tF hb1));have T1 := hideT (Tch.of (F := bg b g) hb1).und;clear hb1 c0 c1 hu HU;have d0 := H1.out.m.cell 0 (v := .int .i64 c.pl) rfl
   go_wp2_with fail
   refine (HN.out _).mono ?_;rintro x w2 ⟨rfl, rfl⟩;go_wp2;exact ⟨rfl, rfl, T1.out⟩
theorem xf5 (w : World) (h : Both w b g B s i c pv) (hi : i <= s.size) (hs : s.size <= 4096) : Calls Tryz.prog 171 #[.pointer (some ⟨b, 0, none⟩), .pointer (some ⟨g, 0, none⟩)] w (PC b g B s w (labC s.data.toList c i)) := by
 have c0 := h.r.c0;have c1 := h.r.c1;have HU := hideT (fun w => prg.word_doc s (i : Nat) (by omega) w);rw [xf1 hi] at HU;unfold labC labR;generalize hu : xcw s.data.toList i = u at *;obtain ⟨t, k⟩ := u;have HH := hideT h;have hbg := h.ne;have hgb : ¬ g = b := fun e => hbg e.symm;have HS := hideT (xbt t);have HG := hideT (xaw 22 c.pl);clear h hu;by_cases h1 : 32 < t.length
 ·rw [if_pos (.inl h1)];have k1 : (32 : Int) < ((bst t).size : Int) := by rw [HS.out]; omega
  clear h1;exact bxk2
 ·have k1 : ((32 : Int) < ((bst t).size : Int)) = False := by rw [HS.out, eq_iff_iff, iff_false]; omega
  by_cases h2 : c.nm = 58
  ·have k2 := xc3 (z := 58) rfl h2;by_cases h3 : t = []
   ·rw [if_pos (.inr ⟨h2, h3⟩)];clear h1 h2;subst h3;have k3 : (bst []).toList.isEmpty = true := by rw [Lib.toList_data]; rfl
    exact bxk2
   ·rw [if_neg (by rintro (h | ⟨_, h⟩); exact h1 h; exact h3 h)];have k3 : (bst t).toList.isEmpty = false := by
     cases t with
     | nil => exact absurd rfl h3
     | cons a r =>
      rw [Lib.toList_data];rfl
    clear h1 h2 h3;exact bxk1
  ·have k2 := xam (z := 58) rfl h2;rw [if_neg (by rintro (h | ⟨h, _⟩); exact h1 h; exact h2 h)];clear h1 h2;exact bxk1
theorem xfm (w : World) (h : Both w b g B s i c pv) (hi : i <= s.size) (hs : s.size <= 4096) : Calls Tryz.prog 172 #[.pointer (some ⟨b, 0, none⟩), .pointer (some ⟨g, 0, none⟩)] w (PC b g B s w (filC s.data.toList c i)) := by
 have c0 := h.r.c0;have c1 := h.r.c1;have HU := hideT (fun w => prg.line_doc s (i : Nat) (by omega) w);rw [xf1 hi] at HU;unfold filC filR;generalize hu : xbi s.data.toList i = u at *;obtain ⟨t, k⟩ := u;have HH := hideT h;have hbg := h.ne;have hgb : ¬ g = b := fun e => hbg e.symm;have HM := hideT (fun w => prg.name_doc (bst t) w);rw [xbu] at HM;have HG := hideT (xaw 3 c.pl);clear h hu;by_cases h1 : xfy t = true
 ·rw [if_pos h1];rw [h1] at HM;clear h1;go_enter Tryz.func172, Tryz.ntmps172
  go_wp2_with fail
  go_region_with (first | (go_at_call 134; refine (HU.out _).mono ?_; rintro x w1 ⟨rfl, hb1⟩; have H1 := hideT (HH.out.tch (tF hb1)); have T1 := hideT (Tch.of (F := bg b g) hb1).und; clear hb1; have d9 := H1.out.m.cell 11 (v := .string (bst c.fl)) rfl; have f9 := H1.out.m.fz 11; have c1 := H1.out.r.c1; have f1 := H1.out.r.fz 1; have d0 := H1.out.m.cell 0 (v := .int .i64 c.pl) rfl; have d8 := H1.out.m.cell 8 (v := .int .u8 c.nm.toNat) rfl))
  all_goals
   go_wp2_with fail
   refine (HM.out _).mono ?_;rintro x w2 ⟨rfl, rfl⟩;go_wp2
   go_end0
   exact ⟨rfl, (H1.out.r.far hbg 11 _).put k _ rfl, (T1.out.putg _ _).putb _ _, pv, (H1.out.m.put 11 (.string (bst t))).far (fun e => hbg e.symm) _ _, H1.out.p.stay (((Tch.refl (bg b g) _).putg _ _).putb _ _) (xf3 H1.out.lb H1.out.lg)⟩
 ·rw [if_neg h1];rw [Bool.eq_false_iff.2 h1] at HM;clear h1;go_enter Tryz.func172, Tryz.ntmps172
  go_wp2_with fail
  go_region_with (first | (go_at_call 134; refine (HU.out _).mono ?_; rintro x w1 ⟨rfl, hb1⟩; have H1 := hideT (HH.out.tch (tF hb1)); have T1 := hideT (Tch.of (F := bg b g) hb1).und; clear hb1; have d9 := H1.out.m.cell 11 (v := .string (bst c.fl)) rfl; have f9 := H1.out.m.fz 11; have c1 := H1.out.r.c1; have f1 := H1.out.r.fz 1; have d0 := H1.out.m.cell 0 (v := .int .i64 c.pl) rfl; have d8 := H1.out.m.cell 8 (v := .int .u8 c.nm.toNat) rfl))
  all_goals
   go_wp2_with fail
   refine (HM.out _).mono ?_;rintro x w2 ⟨rfl, rfl⟩
   go_wp2_with fail
   refine (HG.out _).mono ?_;rintro x w2 ⟨rfl, rfl⟩;go_wp2;exact ⟨rfl, rfl, (T1.out.putg _ _).putb _ _⟩
theorem xlx (w : World) (h : Both w b g B s i c pv) (hj : (coV c pv)[j]? = some (.bool true)) : Calls Tryz.prog 262 #[.pointer (some ⟨b, 0, none⟩), .pointer (some ⟨g, j, none⟩)] w fun e w' => e = gvX (20, i) /\ w' = w := by
 have c1 := h.r.c1;have d := h.m.cell j hj;have HG := hideT (xaw 20 i);clear hj h;go_enter Tryz.func262, Tryz.ntmps262
 go_wp2_with fail
 refine (HG.out _).mono ?_;rintro x w2 ⟨rfl, rfl⟩;go_wp2;exact ⟨rfl, rfl, rfl⟩
theorem xoi (w : World) (h : Both w b g B s i c pv) (hj : (coV c pv)[j]? = some (.bool false)) (hi : i <= 4096) : Calls Tryz.prog 262 #[.pointer (some ⟨b, 0, none⟩), .pointer (some ⟨g, j, none⟩)] w fun e w' => e = .returned (.tuple #[]) /\ w' = (w.setCell ⟨g, j, none⟩ (.bool true)).setCell ⟨b, 1, none⟩ (.int .i64 ((i : Int) + 1)) := by
 have c1 := h.r.c1;have f1 := h.r.fz 1;have d := h.m.cell j hj;have f := h.m.fz j;have hbg := h.ne;have hgb : ¬ g = b := fun e => hbg e.symm;have wi : IntKind.i64.wrap ((i : Int) + 1) = (i : Int) + 1 := by rw [IntKind.wrap_i64]; omega
 clear hj h;go_enter Tryz.func262, Tryz.ntmps262;go_wp2
 go_end0
 exact ⟨rfl, rfl⟩
def cntR (l : List UInt8) (c : Co) (i : Nat) : Rd (Co × Nat) := if c.nh ≠ 0 \/ (numR l i).2.2 ≠ 0 \/ (numR l i).1 < 1 \/ 512 < (numR l i).1 then .error (20, i) else .ok ({ c with nh := (numR l i).1 }, (numR l i).2.1)
theorem xoj (w : World) (h : Both w b g B s i c pv) (hi : i <= s.size) (hs : s.size <= 4096) : Calls Tryz.prog 263 #[.pointer (some ⟨b, 0, none⟩), .pointer (some ⟨g, 0, none⟩)] w (PC b g B s w (cntR s.data.toList c i)) := by
 have c0 := h.r.c0;have c1 := h.r.c1;have f1 := h.r.fz 1;have d14 := h.m.cell 14 (v := .int .i64 c.nh) rfl;have f14 := h.m.fz 14;have HU := hideT (fun w => prg.number_doc s (i : Nat) (by omega) w);rw [xf1 hi] at HU;unfold cntR;generalize hu : numR s.data.toList i = u at *;obtain ⟨t, k, e⟩ := u;have HH := hideT h;have hbg := h.ne;have hgb : ¬ g = b := fun e => hbg e.symm;have HG := hideT (xaw 20 i);clear h hu;by_cases h1 : c.nh = 0
 ·have k1 : ((c.nh : Int) != 0) = false := by rw [bne_eq_false_iff_eq]; omega
  by_cases h2 : e = 0
  ·subst h2;by_cases h3 : t < 1
   ·have k3 : (t : Int) < 1 := by omega
    rw [if_pos (.inr (.inr (.inl h3)))];exact bxk0
   ·have k3 : ((t : Int) < 1) = False := qg;by_cases h4 : 512 < t
    ·have k4 : (512 : Int) < (t : Int) := by omega
     rw [if_pos (.inr (.inr (.inr h4)))];exact bxk0
    ·have k4 : ((512 : Int) < (t : Int)) = False := qg;rw [if_neg (by rintro (h | h | h | h); exact h h1; exact h rfl; exact h3 h; exact h4 h)];go_enter Tryz.func263, Tryz.ntmps263
     go_wp2_with fail
     go_region_with (first | (go_at_call 254; refine (HU.out _).mono ?_; rintro x w1 ⟨rfl, rfl⟩))
     all_goals
      go_wp2
      go_end0
      exact ⟨rfl, (HH.out.r.d.far hbg 14 _).put k _ rfl, ((Tch.drewN _ w 1).putg _ _).putb _ _, pv, (HH.out.m.d.put 14 (.int .i64 t)).far (fun e => hbg e.symm) _ _, HH.out.p.stay (((Tch.drewN (bg b g) _ 1).putg _ _).putb _ _) (xf3 HH.out.lb HH.out.lg)⟩
  ·have k2 : ((e : Int) != 0) = true := qb;rw [if_pos (.inr (.inl h2))];exact bxk0
 ·have k1 : ((c.nh : Int) != 0) = true := qb;rw [if_pos (.inl h1)];exact bxk0
def PB (b : Nat) (s : ByteArray) (w : World) (r : Option Nat) (e : Ending) (w' : World) : Prop := match r with
 | none => e = .returned (.bool false) /\ Tch (· = b) w w'
 | some k => e = .returned (.bool true) /\ RAt w' b s k /\ Tch (· = b) w w'
theorem xis (hi : i <= l.length) : (xbi l i).2 <= l.length := by
 have h1 := xao l i hi;have h2 := xhg (l.drop (xab l i));rw [List.length_drop] at h2;unfold xbi;simp only;omega
theorem lin_gt (h : i < s.size) (h1 : s[i]'h = 35) : i < (xbi s.data.toList i).2 := by
 have e : blkN (s.data.toList.drop i) = 0 := by
  rw [xhh (l := s.data.toList) (k := i) h, xe6 s i h, h1];rfl
 have e2 : xab s.data.toList i = i := by unfold xab; rw [e]; rfl
 unfold xbi;simp only;rw [e2, xn6 (l := s.data.toList) (k := i) h, xe6 s i h, h1, if_neg (by decide)];omega
theorem xok (n : Nat) (w : World) (h : RAt w b s i) (hi : i <= s.size) (hs : s.size <= 4096) (hn : s.size < i + n) : Calls Tryz.prog 93 #[.pointer (some ⟨b, 0, none⟩)] w (PB b s w (cmsR s.data.toList n i)) := by
 generalize hRR : cmsR s.data.toList n i = RR;have HRR := hideT hRR;have HR := hideT h;clear h hRR;go_enter Tryz.func93, Tryz.ntmps93
 go_wp2_with fail
 go_loopg [] n (fun k wr => ∃ j, Hid (RAt wr b s j) /\ j <= s.size /\ s.size < j + k /\ Hid (cmsR s.data.toList k j = RR) /\ Hid (Tch (· = b) w wr))
 case atStart => exact ⟨i, HR, hi, hn, HRR, hideT (Tch.refl _ _)⟩
 case round =>
  obtain ⟨j, R, hj, hjk, E, T⟩ := hrel;obtain ⟨k', rfl⟩ : ∃ k', gk = k' + 1 := ⟨gk - 1, by omega⟩;have EU := hideT (show (if s.data.toList.length <= j then none else if mtB s.data.toList j [32, 9, 10, 59] then cmsR s.data.toList k' (j + 1) else if mtB s.data.toList j [35] then cmsR s.data.toList k' (xbi s.data.toList j).2 else some j) = RR from E.out);clear E HRR HR;by_cases hlt : j < s.size
  ·have E1 := hideT (decide_eq_false (show ¬ j = s.size by omega));rw [if_neg (show ¬ s.data.toList.length <= j from Nat.not_le.2 hlt)] at EU;by_cases h2 : mtB s.data.toList j [32, 9, 10, 59] = true
   ·rw [if_pos h2] at EU;have E2 := hideT h2;clear h2;have wi : IntKind.i64.wrap ((j : Int) + 1) = (j : Int) + 1 := by rw [IntKind.wrap_i64]; omega
    go_wp2_with fail
    refine (xaz wr R.out).mono ?_;rintro x w1 ⟨rfl, m, rfl⟩;rw [E1.out]
    go_wp2_with fail
    refine (xae ⟨#[32, 9, 10, 59]⟩ _ (R.out.drew m) hj).mono ?_;rintro x w1 ⟨rfl, m2, rfl⟩;rw [show mtB s.data.toList j (⟨#[32, 9, 10, 59]⟩ : ByteArray).data.toList = true from E2.out];have R2 := hideT (R.out.drew (m + m2));have T2 := hideT (T.out.more (Tch.drewN _ _ (m + m2)));have c1 := R.out.c1;have f1 := R.out.fz 1;go_wp2
    go_roundg k'
    case measure => omega
    case rel => exact ⟨j + 1, hideT (R2.out.put (j + 1) _ (by omega)), hlt, by omega, EU, hideT (T2.out.put1 _ _)⟩
   ·rw [if_neg h2] at EU;have E2 := hideT (Bool.eq_false_iff.2 h2);clear h2;by_cases h3 : mtB s.data.toList j [35] = true
    ·rw [if_pos h3] at EU;have E3 := hideT h3;have hl1 : (xbi s.data.toList j).2 <= s.size := xis hj;have hl2 : j < (xbi s.data.toList j).2 := by
      refine lin_gt hlt ?_;rw [mt_at hlt] at h3;simpa using h3
     have HU := hideT (fun w => prg.line_doc s (j : Nat) (by omega) w);rw [xf1 hj] at HU;clear h3
     go_wp2_with fail
     refine (xaz wr R.out).mono ?_;rintro x w1 ⟨rfl, m, rfl⟩;rw [E1.out]
     go_wp2_with fail
     refine (xae ⟨#[32, 9, 10, 59]⟩ _ (R.out.drew m) hj).mono ?_;rintro x w1 ⟨rfl, m2, rfl⟩;rw [show mtB s.data.toList j (⟨#[32, 9, 10, 59]⟩ : ByteArray).data.toList = false from E2.out]
     go_wp2_with fail
     refine (xae ⟨#[35]⟩ _ (R.out.drew (m + m2)) hj).mono ?_;rintro x w1 ⟨rfl, m3, rfl⟩;rw [show mtB s.data.toList j (⟨#[35]⟩ : ByteArray).data.toList = true from E3.out];have R2 := hideT (R.out.drew (m + m2 + m3));have T2 := hideT (T.out.more (Tch.drewN _ _ (m + m2 + m3)));have c0 := R.out.c0;have c1 := R.out.c1
     go_wp2_with fail
     generalize wr.drewN (m + m2 + m3) = Y at *;have c0 := R2.out.c0;have c1 := R2.out.c1
     go_region_with (first | (go_at_call 134; refine (HU.out _).mono ?_; rintro x w1 ⟨rfl, hb1⟩; have R3 := hideT (R2.out.stay (tF hb1) (fun h => h)); have T3 := hideT (T2.out.more (Tch.of (F := (· = b)) hb1).und); clear hb1; have c1 := R3.out.c1; have f1 := R3.out.fz 1))
     all_goals
      go_wp2
      go_roundg k'
      case measure => omega
      case rel => exact ⟨(xbi s.data.toList j).2, hideT (R3.out.put _ _ rfl), hl1, by omega, EU, hideT (T3.out.put1 _ _)⟩
    ·rw [if_neg h3] at EU;have E3 := hideT (Bool.eq_false_iff.2 h3);clear h3
     go_wp2_with fail
     refine (xaz wr R.out).mono ?_;rintro x w1 ⟨rfl, m, rfl⟩;rw [E1.out]
     go_wp2_with fail
     refine (xae ⟨#[32, 9, 10, 59]⟩ _ (R.out.drew m) hj).mono ?_;rintro x w1 ⟨rfl, m2, rfl⟩;rw [show mtB s.data.toList j (⟨#[32, 9, 10, 59]⟩ : ByteArray).data.toList = false from E2.out]
     go_wp2_with fail
     refine (xae ⟨#[35]⟩ _ (R.out.drew (m + m2)) hj).mono ?_;rintro x w1 ⟨rfl, m3, rfl⟩;rw [show mtB s.data.toList j (⟨#[35]⟩ : ByteArray).data.toList = false from E3.out];go_wp2;go_ret;rw [<- EU.out];exact ⟨rfl, R.out.drew _, T.out.more (Tch.drewN _ _ _)⟩
  ·have E1 := hideT (decide_eq_true (show j = s.size by omega));rw [if_pos (show s.data.toList.length <= j from Nat.le_of_not_lt hlt)] at EU
   go_wp2_with fail
   refine (xaz wr R.out).mono ?_;rintro x w1 ⟨rfl, m, rfl⟩;rw [E1.out];go_wp2;go_ret;rw [<- EU.out];exact ⟨rfl, T.out.more (Tch.drewN _ _ _)⟩
theorem Both.dn (h : Both w b g B s i c pv) (m : Nat) : Both (w.drewN m) b g B s i c pv := ⟨h.r, h.m, h.p, h.ne, h.lb, h.lg⟩
theorem xit (h : (numR l i).2.2 = 0) : i < (numR l i).2.1 := by
 unfold numR at h ⊢;simp only at h ⊢;split at h
 ·simp at h
 ·split at h
  ·simp at h
  ·rename_i h1 h2;rw [if_neg h1, if_neg h2];simp only;omega
theorem xiu (n : Nat) (w : World) (h : Both w b g B s i c pv) (hi : i <= s.size) (hs : s.size <= 4096) (hn : s.size < i + n) : Calls Tryz.prog 215 #[.pointer (some ⟨b, 0, none⟩), .pointer (some ⟨g, 0, none⟩)] w (PC b g B s w (flgR s.data.toList n c i)) := by
 generalize hRR : flgR s.data.toList n c i = RR;have HRR := hideT hRR;have HH := hideT h;clear h hRR;go_enter Tryz.func215, Tryz.ntmps215
 go_wp2_with fail
 go_loopg [] n (fun k wr => ∃ j c' pv, Hid (Both wr b g B s j c' pv) /\ j <= s.size /\ s.size < j + k /\ Hid (flgR s.data.toList k c' j = RR) /\ Hid (Tch (bg b g) w wr))
 case atStart => exact ⟨i, c, pv, HH, hi, hn, HRR, hideT (Tch.refl _ _)⟩
 case round =>
  clear HH;obtain ⟨j, c', pv, H, hj, hjk, E, T⟩ := hrel;obtain ⟨k', rfl⟩ : ∃ k', gk = k' + 1 := ⟨gk - 1, by omega⟩;have EU := hideT (show (if mtB s.data.toList j [103] then (if c'.an = true then Except.error (20, j) else flgR s.data.toList k' { c' with an := true } (j + 1)) else if mtB s.data.toList j [112] then (if c'.pr = true then Except.error (20, j) else flgR s.data.toList k' { c' with pr := true } (j + 1)) else if mtB s.data.toList j dgS then (if c'.nh ≠ 0 \/ (numR s.data.toList j).2.2 ≠ 0 \/ (numR s.data.toList j).1 < 1 \/ 512 < (numR s.data.toList j).1 then Except.error (20, j) else flgR s.data.toList k' { c' with nh := (numR s.data.toList j).1 } (numR s.data.toList j).2.1) else if mtB s.data.toList j [119] then filC s.data.toList c' (j + 1) else endC s.data.toList c' j) = RR from E.out);clear E HRR;by_cases e0 : mtB s.data.toList j [103] = true
  ·rw [if_pos e0] at EU;have E0 := hideT e0;clear e0;have hlt : j < s.size := by
    rcases Nat.lt_or_ge j s.size with h | h
    ·exact h
    ·have := E0.out; rw [xe7 h] at this; cases this
   by_cases hf : c'.an = true
   ·rw [if_pos hf] at EU;have HF := hideT (fun W h => xlx (j := 15) (b := b) (g := g) (B := B) (s := s) (i := j) (c := c') (pv := pv) W h (by simp [coV, hf]));clear hf
    go_wp2_with fail
    refine (xae ⟨#[103]⟩ _ H.out.r hj).mono ?_;rintro x w1 ⟨rfl, m0, rfl⟩;rw [show mtB s.data.toList j (⟨#[103]⟩ : ByteArray).data.toList = true from E0.out];have H2 := hideT (H.out.dn (m0));have T2 := hideT (T.out.more (Tch.drewN _ _ (m0)));exact bxk3
   ·rw [if_neg hf] at EU;have HF := hideT (fun W h => xoi (j := 15) (b := b) (g := g) (B := B) (s := s) (i := j) (c := c') (pv := pv) W h (by simp [coV, hf]) (by omega));clear hf
    go_wp2_with fail
    refine (xae ⟨#[103]⟩ _ H.out.r hj).mono ?_;rintro x w1 ⟨rfl, m0, rfl⟩;rw [show mtB s.data.toList j (⟨#[103]⟩ : ByteArray).data.toList = true from E0.out];have H2 := hideT (H.out.dn (m0));have T2 := hideT (T.out.more (Tch.drewN _ _ (m0)))
    go_wp2_with fail
    refine (HF.out _ H2.out).mono ?_;rintro x w1 ⟨rfl, rfl⟩;go_wp2
    go_roundg k'
    case measure => omega
    case rel => exact ⟨j + 1, { c' with an := true }, pv, hideT ⟨(H2.out.r.far H2.out.ne 15 _).put (j + 1) _ (by omega), (H2.out.m.put 15 (.bool true)).far (fun e => H2.out.ne e.symm) _ _, H2.out.p.stay (((Tch.refl (bg b g) _).putg _ _).putb _ _) (xf3 H2.out.lb H2.out.lg), H2.out.ne, H2.out.lb, H2.out.lg⟩, hlt, by omega, EU, hideT ((T2.out.putg _ _).putb _ _)⟩
  ·rw [if_neg e0] at EU;have E0 := hideT (Bool.eq_false_iff.2 e0);clear e0;by_cases e1 : mtB s.data.toList j [112] = true
   ·rw [if_pos e1] at EU;have E1 := hideT e1;clear e1;have hlt : j < s.size := by
     rcases Nat.lt_or_ge j s.size with h | h
     ·exact h
     ·have := E1.out; rw [xe7 h] at this; cases this
    by_cases hf : c'.pr = true
    ·rw [if_pos hf] at EU;have HF := hideT (fun W h => xlx (j := 16) (b := b) (g := g) (B := B) (s := s) (i := j) (c := c') (pv := pv) W h (by simp [coV, hf]));clear hf
     go_wp2_with fail
     refine (xae ⟨#[103]⟩ _ H.out.r hj).mono ?_;rintro x w1 ⟨rfl, m0, rfl⟩;rw [show mtB s.data.toList j (⟨#[103]⟩ : ByteArray).data.toList = false from E0.out]
     go_wp2_with fail
     refine (xae ⟨#[112]⟩ _ (H.out.r.drew (m0)) hj).mono ?_;rintro x w1 ⟨rfl, m1, rfl⟩;rw [show mtB s.data.toList j (⟨#[112]⟩ : ByteArray).data.toList = true from E1.out];have H2 := hideT (H.out.dn (m0 + m1));have T2 := hideT (T.out.more (Tch.drewN _ _ (m0 + m1)));exact bxk3
    ·rw [if_neg hf] at EU;have HF := hideT (fun W h => xoi (j := 16) (b := b) (g := g) (B := B) (s := s) (i := j) (c := c') (pv := pv) W h (by simp [coV, hf]) (by omega));clear hf
     go_wp2_with fail
     refine (xae ⟨#[103]⟩ _ H.out.r hj).mono ?_;rintro x w1 ⟨rfl, m0, rfl⟩;rw [show mtB s.data.toList j (⟨#[103]⟩ : ByteArray).data.toList = false from E0.out]
     go_wp2_with fail
     refine (xae ⟨#[112]⟩ _ (H.out.r.drew (m0)) hj).mono ?_;rintro x w1 ⟨rfl, m1, rfl⟩;rw [show mtB s.data.toList j (⟨#[112]⟩ : ByteArray).data.toList = true from E1.out];have H2 := hideT (H.out.dn (m0 + m1));have T2 := hideT (T.out.more (Tch.drewN _ _ (m0 + m1)))
     go_wp2_with fail
     refine (HF.out _ H2.out).mono ?_;rintro x w1 ⟨rfl, rfl⟩;go_wp2
     go_roundg k'
     case measure => omega
     case rel => exact ⟨j + 1, { c' with pr := true }, pv, hideT ⟨(H2.out.r.far H2.out.ne 16 _).put (j + 1) _ (by omega), (H2.out.m.put 16 (.bool true)).far (fun e => H2.out.ne e.symm) _ _, H2.out.p.stay (((Tch.refl (bg b g) _).putg _ _).putb _ _) (xf3 H2.out.lb H2.out.lg), H2.out.ne, H2.out.lb, H2.out.lg⟩, hlt, by omega, EU, hideT ((T2.out.putg _ _).putb _ _)⟩
   ·rw [if_neg e1] at EU;have E1 := hideT (Bool.eq_false_iff.2 e1);clear e1;by_cases e2 : mtB s.data.toList j dgS = true
    ·rw [if_pos e2] at EU;have E2 := hideT e2;clear e2;have HC := hideT (fun W h => xoj (b := b) (g := g) (B := B) (s := s) (i := j) (c := c') (pv := pv) W h hj hs);unfold cntR at HC;by_cases hc : c'.nh ≠ 0 \/ (numR s.data.toList j).2.2 ≠ 0 \/ (numR s.data.toList j).1 < 1 \/ 512 < (numR s.data.toList j).1
     ·rw [if_pos hc] at EU HC;clear hc
      go_wp2_with fail
      refine (xae ⟨#[103]⟩ _ H.out.r hj).mono ?_;rintro x w1 ⟨rfl, m0, rfl⟩;rw [show mtB s.data.toList j (⟨#[103]⟩ : ByteArray).data.toList = false from E0.out]
      go_wp2_with fail
      refine (xae ⟨#[112]⟩ _ (H.out.r.drew (m0)) hj).mono ?_;rintro x w1 ⟨rfl, m1, rfl⟩;rw [show mtB s.data.toList j (⟨#[112]⟩ : ByteArray).data.toList = false from E1.out]
      go_wp2_with fail
      refine (xae ⟨#[48, 49, 50, 51, 52, 53, 54, 55, 56, 57]⟩ _ (H.out.r.drew (m0 + m1)) hj).mono ?_;rintro x w1 ⟨rfl, m2, rfl⟩;rw [show mtB s.data.toList j (⟨#[48, 49, 50, 51, 52, 53, 54, 55, 56, 57]⟩ : ByteArray).data.toList = true from E2.out];have H2 := hideT (H.out.dn (m0 + m1 + m2));have T2 := hideT (T.out.more (Tch.drewN _ _ (m0 + m1 + m2)))
      go_wp2_with fail
      refine (HC.out _ H2.out).mono ?_;rintro x w1 ⟨rfl, ht⟩;have T3 := hideT (T2.out.more ht);clear ht;go_wp2;rw [<- EU.out];exact ⟨rfl, rfl, T3.out⟩
     ·rw [if_neg hc] at EU HC;have he : (numR s.data.toList j).2.2 = 0 := Decidable.not_not.1 fun e => hc (.inr (.inl e));have hg1 := xit he;have hg2 : (numR s.data.toList j).2.1 <= s.size := xeu hj he;clear hc he
      go_wp2_with fail
      refine (xae ⟨#[103]⟩ _ H.out.r hj).mono ?_;rintro x w1 ⟨rfl, m0, rfl⟩;rw [show mtB s.data.toList j (⟨#[103]⟩ : ByteArray).data.toList = false from E0.out]
      go_wp2_with fail
      refine (xae ⟨#[112]⟩ _ (H.out.r.drew (m0)) hj).mono ?_;rintro x w1 ⟨rfl, m1, rfl⟩;rw [show mtB s.data.toList j (⟨#[112]⟩ : ByteArray).data.toList = false from E1.out]
      go_wp2_with fail
      refine (xae ⟨#[48, 49, 50, 51, 52, 53, 54, 55, 56, 57]⟩ _ (H.out.r.drew (m0 + m1)) hj).mono ?_;rintro x w1 ⟨rfl, m2, rfl⟩;rw [show mtB s.data.toList j (⟨#[48, 49, 50, 51, 52, 53, 54, 55, 56, 57]⟩ : ByteArray).data.toList = true from E2.out];have H2 := hideT (H.out.dn (m0 + m1 + m2));have T2 := hideT (T.out.more (Tch.drewN _ _ (m0 + m1 + m2)))
      go_wp2_with fail
      refine (HC.out _ H2.out).mono ?_;rintro x w1 ⟨rfl, hr, ht, pv', hm, hp⟩;have T3 := hideT (T2.out.more ht);have H3 := hideT (show Both w1 b g B s _ _ pv' from ⟨hr, hm, hp, H2.out.ne, H2.out.lb, H2.out.lg⟩);clear ht hr hm hp;go_wp2
      go_roundg k'
      case measure => omega
      case rel => exact ⟨_, _, _, H3, hg2, by omega, EU, T3⟩
    ·rw [if_neg e2] at EU;have E2 := hideT (Bool.eq_false_iff.2 e2);clear e2;by_cases e3 : mtB s.data.toList j [119] = true
     ·rw [if_pos e3] at EU;have E3 := hideT e3;clear e3;have hlt : j < s.size := by
       rcases Nat.lt_or_ge j s.size with h | h
       ·exact h
       ·have := E3.out; rw [xe7 h] at this; cases this
      rcases hq : filC s.data.toList c' (j + 1) with y | ⟨c2, k2⟩
      ·rw [hq] at EU
       go_wp2_with fail
       refine (xae ⟨#[103]⟩ _ H.out.r hj).mono ?_;rintro x w1 ⟨rfl, m0, rfl⟩;rw [show mtB s.data.toList j (⟨#[103]⟩ : ByteArray).data.toList = false from E0.out]
       go_wp2_with fail
       refine (xae ⟨#[112]⟩ _ (H.out.r.drew (m0)) hj).mono ?_;rintro x w1 ⟨rfl, m1, rfl⟩;rw [show mtB s.data.toList j (⟨#[112]⟩ : ByteArray).data.toList = false from E1.out]
       go_wp2_with fail
       refine (xae ⟨#[48, 49, 50, 51, 52, 53, 54, 55, 56, 57]⟩ _ (H.out.r.drew (m0 + m1)) hj).mono ?_;rintro x w1 ⟨rfl, m2, rfl⟩;rw [show mtB s.data.toList j (⟨#[48, 49, 50, 51, 52, 53, 54, 55, 56, 57]⟩ : ByteArray).data.toList = false from E2.out]
       go_wp2_with fail
       refine (xae ⟨#[119]⟩ _ (H.out.r.drew (m0 + m1 + m2)) hj).mono ?_;rintro x w1 ⟨rfl, m3, rfl⟩;rw [show mtB s.data.toList j (⟨#[119]⟩ : ByteArray).data.toList = true from E3.out];have H2 := hideT (H.out.dn (m0 + m1 + m2 + m3));have T2 := hideT (T.out.more (Tch.drewN _ _ (m0 + m1 + m2 + m3)));have c1 := H.out.r.c1;have f1 := H.out.r.fz 1;have wi : IntKind.i64.wrap ((j : Int) + 1) = (j : Int) + 1 := by rw [IntKind.wrap_i64]; omega
       have H3 := hideT (show Both ((wr.drewN (m0 + m1 + m2 + m3)).setCell ⟨b, 1, none⟩ (.int .i64 ((j : Int) + 1))) b g B s (j + 1) c' pv from ⟨H2.out.r.put (j + 1) _ (by omega), H2.out.m.far (fun e => H2.out.ne e.symm) _ _, H2.out.p.stay ((Tch.refl (bg b g) _).putb _ _) (xf3 H2.out.lb H2.out.lg), H2.out.ne, H2.out.lb, H2.out.lg⟩);have T3 := hideT (T2.out.putb 1 (.int .i64 ((j : Int) + 1)))
       go_wp2_with fail
       have HX := xfm _ H3.out hlt hs;rw [hq] at HX;clear hq;refine HX.mono ?_;rintro x w1 ⟨rfl, ht⟩;have T4 := hideT (T3.out.more ht);clear ht;go_wp2;rw [<- EU.out];exact ⟨rfl, rfl, T4.out⟩
      ·rw [hq] at EU
       go_wp2_with fail
       refine (xae ⟨#[103]⟩ _ H.out.r hj).mono ?_;rintro x w1 ⟨rfl, m0, rfl⟩;rw [show mtB s.data.toList j (⟨#[103]⟩ : ByteArray).data.toList = false from E0.out]
       go_wp2_with fail
       refine (xae ⟨#[112]⟩ _ (H.out.r.drew (m0)) hj).mono ?_;rintro x w1 ⟨rfl, m1, rfl⟩;rw [show mtB s.data.toList j (⟨#[112]⟩ : ByteArray).data.toList = false from E1.out]
       go_wp2_with fail
       refine (xae ⟨#[48, 49, 50, 51, 52, 53, 54, 55, 56, 57]⟩ _ (H.out.r.drew (m0 + m1)) hj).mono ?_;rintro x w1 ⟨rfl, m2, rfl⟩;rw [show mtB s.data.toList j (⟨#[48, 49, 50, 51, 52, 53, 54, 55, 56, 57]⟩ : ByteArray).data.toList = false from E2.out]
       go_wp2_with fail
       refine (xae ⟨#[119]⟩ _ (H.out.r.drew (m0 + m1 + m2)) hj).mono ?_;rintro x w1 ⟨rfl, m3, rfl⟩;rw [show mtB s.data.toList j (⟨#[119]⟩ : ByteArray).data.toList = true from E3.out];have H2 := hideT (H.out.dn (m0 + m1 + m2 + m3));have T2 := hideT (T.out.more (Tch.drewN _ _ (m0 + m1 + m2 + m3)));have c1 := H.out.r.c1;have f1 := H.out.r.fz 1;have wi : IntKind.i64.wrap ((j : Int) + 1) = (j : Int) + 1 := by rw [IntKind.wrap_i64]; omega
       have H3 := hideT (show Both ((wr.drewN (m0 + m1 + m2 + m3)).setCell ⟨b, 1, none⟩ (.int .i64 ((j : Int) + 1))) b g B s (j + 1) c' pv from ⟨H2.out.r.put (j + 1) _ (by omega), H2.out.m.far (fun e => H2.out.ne e.symm) _ _, H2.out.p.stay ((Tch.refl (bg b g) _).putb _ _) (xf3 H2.out.lb H2.out.lg), H2.out.ne, H2.out.lb, H2.out.lg⟩);have T3 := hideT (T2.out.putb 1 (.int .i64 ((j : Int) + 1)))
       go_wp2_with fail
       have HX := xfm _ H3.out hlt hs;rw [hq] at HX;clear hq;refine HX.mono ?_;rintro x w1 ⟨rfl, hr, ht, pv', hm, hp⟩;have T4 := hideT (T3.out.more ht);have H4 := hideT (And.intro hr (And.intro hm hp));clear ht hr hm hp;go_wp2
       first | go_end0 | refine bodyPost_ret (results_none rfl _ _ _) rfl ?_
       rw [<- EU.out];exact ⟨rfl, H4.out.1, T4.out, pv', H4.out.2.1, H4.out.2.2⟩
     ·rw [if_neg e3] at EU;have E3 := hideT (Bool.eq_false_iff.2 e3);clear e3;have EN := hideT (fun W h => xa8 (b := b) (s := s) (i := j) W h hj hs);unfold endC at EU;rcases hq : endR s.data.toList j with y | k2
      ·rw [hq] at EU EN
       go_wp2_with fail
       refine (xae ⟨#[103]⟩ _ H.out.r hj).mono ?_;rintro x w1 ⟨rfl, m0, rfl⟩;rw [show mtB s.data.toList j (⟨#[103]⟩ : ByteArray).data.toList = false from E0.out]
       go_wp2_with fail
       refine (xae ⟨#[112]⟩ _ (H.out.r.drew (m0)) hj).mono ?_;rintro x w1 ⟨rfl, m1, rfl⟩;rw [show mtB s.data.toList j (⟨#[112]⟩ : ByteArray).data.toList = false from E1.out]
       go_wp2_with fail
       refine (xae ⟨#[48, 49, 50, 51, 52, 53, 54, 55, 56, 57]⟩ _ (H.out.r.drew (m0 + m1)) hj).mono ?_;rintro x w1 ⟨rfl, m2, rfl⟩;rw [show mtB s.data.toList j (⟨#[48, 49, 50, 51, 52, 53, 54, 55, 56, 57]⟩ : ByteArray).data.toList = false from E2.out]
       go_wp2_with fail
       refine (xae ⟨#[119]⟩ _ (H.out.r.drew (m0 + m1 + m2)) hj).mono ?_;rintro x w1 ⟨rfl, m3, rfl⟩;rw [show mtB s.data.toList j (⟨#[119]⟩ : ByteArray).data.toList = false from E3.out];have H2 := hideT (H.out.dn (m0 + m1 + m2 + m3));have T2 := hideT (T.out.more (Tch.drewN _ _ (m0 + m1 + m2 + m3)))
       go_wp2_with fail
       refine (EN.out _ H2.out.r).mono ?_;rintro x w1 ⟨rfl, ht⟩;have T4 := hideT (T2.out.more ht.wide);clear ht;go_wp2;rw [<- EU.out];exact ⟨rfl, rfl, T4.out⟩
      ·rw [hq] at EU EN
       go_wp2_with fail
       refine (xae ⟨#[103]⟩ _ H.out.r hj).mono ?_;rintro x w1 ⟨rfl, m0, rfl⟩;rw [show mtB s.data.toList j (⟨#[103]⟩ : ByteArray).data.toList = false from E0.out]
       go_wp2_with fail
       refine (xae ⟨#[112]⟩ _ (H.out.r.drew (m0)) hj).mono ?_;rintro x w1 ⟨rfl, m1, rfl⟩;rw [show mtB s.data.toList j (⟨#[112]⟩ : ByteArray).data.toList = false from E1.out]
       go_wp2_with fail
       refine (xae ⟨#[48, 49, 50, 51, 52, 53, 54, 55, 56, 57]⟩ _ (H.out.r.drew (m0 + m1)) hj).mono ?_;rintro x w1 ⟨rfl, m2, rfl⟩;rw [show mtB s.data.toList j (⟨#[48, 49, 50, 51, 52, 53, 54, 55, 56, 57]⟩ : ByteArray).data.toList = false from E2.out]
       go_wp2_with fail
       refine (xae ⟨#[119]⟩ _ (H.out.r.drew (m0 + m1 + m2)) hj).mono ?_;rintro x w1 ⟨rfl, m3, rfl⟩;rw [show mtB s.data.toList j (⟨#[119]⟩ : ByteArray).data.toList = false from E3.out];have H2 := hideT (H.out.dn (m0 + m1 + m2 + m3));have T2 := hideT (T.out.more (Tch.drewN _ _ (m0 + m1 + m2 + m3)))
       go_wp2_with fail
       refine (EN.out _ H2.out.r).mono ?_;rintro x w1 ⟨rfl, hr, ht⟩;have T4 := hideT (T2.out.more ht.wide);have H4 := hideT (And.intro hr (And.intro (H2.out.m.stay ht (fun e => H2.out.ne e.symm)) (H2.out.p.stay ht (fun k e => by subst e; exact H2.out.lb))));clear ht hr;go_wp2
       first | go_end0 | refine bodyPost_ret (results_none rfl _ _ _) rfl ?_
       rw [<- EU.out];exact ⟨rfl, H4.out.1, T4.out, pv, H4.out.2.1, H4.out.2.2⟩
end Go.Proofs.YtcpokkpjeeblnaaGreatDoor
