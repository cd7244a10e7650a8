/- measure: together. -/
import Derived.Test.YtolpakpdkheanaaKPa
import Derived.Test.YtolpakpdkheanaaKQf
import Derived.Test.YtolpakpdkheanaaKMc
import Derived.Deep.Cut
import Derived.Handy
set_option maxRecDepth 100000
set_option maxHeartbeats 4000000
namespace Go.Proofs.Ytolpakpdkheanaa.br
open Go.RowKit
mutual
def msT : Tr → Ms
 | .mk k _ lo hi _ kids => if k = 1 then ⟨1, 0, 1, 1, false, false, false⟩ else if k = 2 then ⟨0, 0, 0, 0, false, true, false⟩ else if k = 3 then ⟨0, 0, 0, 0, false, false, true⟩ else if k = 6 then ⟨1, 0, 0, -1, true, false, false⟩ else if k = 4 then (msF .zero kids).grp else if k = 5 then (msF .zero kids).rep lo hi else msF .zero kids
def msF : Ms → List Tr → Ms
 | a, [] => a
 | a, t :: ts => msF (a.both (msT t)) ts
end
theorem xp5 : ∀ (a b : List Tr) (m : Ms), msF m (a ++ b) = msF (msF m a) b
 | [], b, m => by simp only [List.nil_append, msF]
 | t :: a, b, m => by simp only [List.cons_append, msF]; exact xp5 a b _
theorem msF_take {ts : List Tr} {k : Nat} (h : k < ts.length) (m : Ms) : msF m (ts.take (k + 1)) = (msF m (ts.take k)).both (msT ts[k]) := by
 rw [List.take_succ_eq_append_getElem h, xp5]
 simp only [msF]
def FitM (m : Ms) : Prop := (0 ≤ m.pos ∧ m.pos ≤ 1000) ∧ (0 ≤ m.groups ∧ m.groups ≤ 1000) ∧ (0 ≤ m.least ∧ m.least ≤ 1000) ∧ (-1 ≤ m.most ∧ m.most ≤ 1000)
abbrev put7 (W : World) (b : Nat) (m : Ms) : World := ((((((W.setCell ⟨b, 0, none⟩ (.int .i64 m.pos)).setCell ⟨b, 1, none⟩ (.int .i64 m.groups)).setCell ⟨b, 2, none⟩ (.int .i64 m.least)).setCell ⟨b, 3, none⟩ (.int .i64 m.most)).setCell ⟨b, 4, none⟩ (.bool m.back)).setCell ⟨b, 5, none⟩ (.bool m.bol)).setCell ⟨b, 6, none⟩ (.bool m.eol)
theorem xd4 {W : World} {b : Nat} {m0 : Ms} (m : Ms) (h : W.heap[b]? = some (.cells m0.arr 50 (0, 0))) : (put7 W b m).heap[b]? = some (.cells m.arr 50 (0, 0)) := by
 have h0 := xai W b 0 (.int .i64 m.pos) h
 have h1 := xai _ b 1 (.int .i64 m.groups) h0
 have h2 := xai _ b 2 (.int .i64 m.least) h1
 have h3 := xai _ b 3 (.int .i64 m.most) h2
 have h4 := xai _ b 4 (.bool m.back) h3
 have h5 := xai _ b 5 (.bool m.bol) h4
 have h6 := xai _ b 6 (.bool m.eol) h5
 exact h6.trans (by simp)
theorem xh7 (W : World) {b : Nat} (m : Ms) {j : Nat} (h : j ≠ b) : (put7 W b m).heap[j]? = W.heap[j]? := by
 exact (put_far _ b 6 _ h).trans ((put_far _ b 5 _ h).trans ((put_far _ b 4 _ h).trans ((put_far _ b 3 _ h).trans ((put_far _ b 2 _ h).trans ((put_far _ b 1 _ h).trans (put_far _ b 0 _ h))))))
theorem xbs {B : Nat} {a W : World} (h : Below B a W) {b : Nat} (hb : B ≤ b) (m : Ms) : Below B a (put7 W b m) :=
 (((((((h.setCell (p := ⟨b, 0, none⟩) hb _).setCell (p := ⟨b, 1, none⟩) hb _).setCell (p := ⟨b, 2, none⟩) hb _).setCell (p := ⟨b, 3, none⟩) hb _).setCell (p := ⟨b, 4, none⟩) hb _).setCell (p := ⟨b, 5, none⟩) hb _).setCell (p := ⟨b, 6, none⟩) hb _)
theorem xh8 (ks : List Tr) (hlen : ks.length ≤ 1000000) (hfit : ∀ k, k ≤ ks.length → FitM (msF .zero (ks.take k))) (ih : ∀ x ∈ ks, ∀ (w : World) (ok : Nat → Prop) (a : Option Addr) (n c : Nat), Kids w ok (.slice a n c) x.kids → Calls Try.prog 28 #[nodeA x (.slice a n c)] w fun e w' => e = .returned (.agg (msT x).arr) ∧ Below w.heap.size w w')
  (hfx : ∀ x ∈ ks, FitM (msT x)) (w : World) (ok : Nat → Prop) (a : Option Addr) (c : Nat) (hk : Kids w ok (.slice a ks.length c) ks) :
  Calls Try.prog 53 #[.slice a ks.length c] w fun e w' => e = .returned (.agg (msF .zero ks).arr) ∧ Below w.heap.size w w' := by
 have HA := xbj (And.intro hk (And.intro ih (And.intro hfx hfit)))
 clear hk ih hfx hfit
 go_enter Try.func53, Try.ntmps53
 go_wp2_with fail
 obtain ⟨X, hX⟩ : ∃ X, X = (w.alloc (.cells #[.int .i64 0, .int .i64 0, .int .i64 0, .int .i64 0, .bool false, .bool false, .bool false] 50)).alloc (.cells #[.int .i64 0, .int .i64 0, .int .i64 0, .int .i64 0, .bool false, .bool false, .bool false] 50) := ⟨_, rfl⟩
 have xb1 : X.heap[w.heap.size]? = some (.cells Ms.zero.arr 50 (0, 0)) := by
  rw [hX, Below.heap_alloc _ _ _ (by rw [World.size_alloc]; omega)]
  exact heap_alloc_new w _
 have xb2 : X.heap[w.heap.size + 1]? = some (.cells Ms.zero.arr 50 (0, 0)) := by
  rw [hX, ← World.size_alloc w (.cells #[.int .i64 0, .int .i64 0, .int .i64 0, .int .i64 0, .bool false, .bool false, .bool false] 50)]
  exact heap_alloc_new _ _
 have hBX : Below w.heap.size w X := by
  rw [hX]
  exact ((Below.refl _ _).alloc (Nat.le_refl _) _).alloc (by rw [World.size_alloc]; omega) _
 rw [← hX]
 clear hX
 have HX := xbj (And.intro xb1 (And.intro xb2 hBX))
 clear xb1 xb2 hBX
 go_loopw [9] (fun iv wr => ∃ k : Nat, k ≤ ks.length ∧ iv = .int .i64 k ∧ wr.heap[w.heap.size + 1]? = some (.cells (msF .zero (ks.take k)).arr 50 (0, 0)) ∧ wr.heap[w.heap.size]? = some (.cells Ms.zero.arr 50 (0, 0)) ∧ Below w.heap.size w wr) (fun iv _ => (ks.length - intOf iv).toNat)
 case atStart => exact ⟨0, by omega, rfl, by simp only [List.take_zero, msF]; exact HX.out.2.1, HX.out.1, HX.out.2.2⟩
 case round =>
  clear HX
  obtain ⟨k, hk1, rfl, gb1, gb2, gB⟩ := hrel
  by_cases hlt : k < ks.length
  ·have hkr := xc1 HA.out.1 gB
   obtain ⟨g, c', u, he, _, _, hcell, hku⟩ := kids_at hkr (i := k) (List.getElem?_eq_getElem hlt)
   obtain rfl : a = some ⟨g, 0, none⟩ := by injection he
   obtain ⟨ua, uc, rfl⟩ := xey hku
   have y0 := (hcell 0 _ rfl).1
   have y1 := (hcell 1 _ rfl).1
   have y2 := (hcell 2 _ rfl).1
   have y3 := (hcell 3 _ rfl).1
   have y4 := (hcell 4 _ rfl).1
   have y5 := (hcell 5 _ rfl).1
   have y6 := (hcell 6 _ rfl).1
   have y7 := (hcell 7 _ rfl).1
   have y8 := (hcell 8 _ rfl).1
   rw [Nat.add_zero] at y0
   have k3 : (k : Int) < (ks.length : Int) := by omega
   have k4 : (0 : Int) ≤ (k : Int) := by omega
   have k5 : IntKind.i64.wrap ((k : Int) + 1) = (k : Int) + 1 := by rw [IntKind.wrap_i64]; omega
   have hsum := msF_take hlt .zero
   have hf1 := HA.out.2.2.2 k hk1
   have hf2 := HA.out.2.2.1 ks[k] (List.getElem_mem hlt)
   have hic := fun (W : World) (hW : Below wr.heap.size wr W) => HA.out.2.1 ks[k] (List.getElem_mem hlt) W ok ua _ uc (xc1 hku hW)
   have HC := xbj (And.intro hic (And.intro hsum (And.intro gb1 (And.intro gb2 (And.intro gB (And.intro hf1 hf2))))))
   clear hkr hcell hku he hic hsum gb1 gb2 gB hf1 hf2
   go_wp2_with fail
   refine (HC.out.1 _ ((Below.refl _ _).alloc (Nat.le_refl _) _)).mono ?_
   rintro e w2 ⟨rfl, hb2⟩
   obtain ⟨M, hM⟩ : ∃ M, M = msT ks[k] := ⟨_, rfl⟩
   obtain ⟨A, hA⟩ : ∃ A, A = msF .zero (ks.take k) := ⟨_, rfl⟩
   have hb3 : Below wr.heap.size wr w2 := ((Below.refl _ _).alloc (Nat.le_refl _) _).trans (hb2.mono (by rw [World.size_alloc]; omega))
   have hl1 := (Array.getElem?_eq_some_iff.1 HC.out.2.2.1).1
   have q1 := (hb3.block _ hl1).trans HC.out.2.2.1
   have q2 := (hb3.block _ (show w.heap.size < wr.heap.size by omega)).trans HC.out.2.2.2.1
   have hsz := hb3.size
   have hfa := HC.out.2.2.2.2.2.1
   have hfm := HC.out.2.2.2.2.2.2
   rw [← hM] at hfm ⊢
   rw [← hA] at hfa q1
   obtain ⟨⟨a1, a2⟩, ⟨a3, a4⟩, ⟨a5, a6⟩, ⟨a7, a8⟩⟩ := hfa
   obtain ⟨⟨m1, m2⟩, ⟨m3, m4⟩, ⟨m5, m6⟩, ⟨m7, m8⟩⟩ := hfm
   have i1 : IntKind.i64.wrap (A.pos + M.pos) = A.pos + M.pos := by rw [IntKind.wrap_i64]; omega
   have i2 : IntKind.i64.wrap (A.groups + M.groups) = A.groups + M.groups := by rw [IntKind.wrap_i64]; omega
   have i3 : IntKind.i64.wrap (A.least + M.least) = A.least + M.least := by rw [IntKind.wrap_i64]; omega
   have hsm := sum_any A.most M.most (by omega) (by omega)
   obtain ⟨V, hV⟩ : ∃ V, V = w2.alloc (.cells M.arr 50) := ⟨_, rfl⟩
   have v1 : V.heap[w.heap.size + 1]? = some (.cells A.arr 50 (0, 0)) := by rw [hV, Below.heap_alloc _ _ _ (by omega)]; exact q1
   have v2 : V.heap[w.heap.size]? = some (.cells Ms.zero.arr 50 (0, 0)) := by rw [hV, Below.heap_alloc _ _ _ (by omega)]; exact q2
   have v3 : V.heap[w2.heap.size]? = some (.cells M.arr 50 (0, 0)) := by rw [hV]; exact heap_alloc_new w2 _
   have hBV : Below w.heap.size w V := by rw [hV]; exact (HC.out.2.2.2.2.1.trans (hb3.mono HC.out.2.2.2.2.1.size)).alloc (by have := HC.out.2.2.2.2.1.size; omega) _
   have hne : w.heap.size + 1 ≠ w2.heap.size := by omega
   have z0 : V.cell? ⟨w.heap.size + 1, 0, none⟩ = some (.int .i64 A.pos) := by simp [World.cell?, v1]
   have z1 : V.cell? ⟨w.heap.size + 1, 1, none⟩ = some (.int .i64 A.groups) := by simp [World.cell?, v1]
   have z2 : V.cell? ⟨w.heap.size + 1, 2, none⟩ = some (.int .i64 A.least) := by simp [World.cell?, v1]
   have z3 : V.cell? ⟨w.heap.size + 1, 3, none⟩ = some (.int .i64 A.most) := by simp [World.cell?, v1]
   have z4 : V.cell? ⟨w.heap.size + 1, 4, none⟩ = some (.bool A.back) := by simp [World.cell?, v1]
   have z5 : V.cell? ⟨w.heap.size + 1, 5, none⟩ = some (.bool A.bol) := by simp [World.cell?, v1]
   have z6 : V.cell? ⟨w.heap.size + 1, 6, none⟩ = some (.bool A.eol) := by simp [World.cell?, v1]
   have f0 : V.frozen? ⟨w.heap.size + 1, 0, none⟩ = false := by simp [World.frozen?, v1]
   have f1 : V.frozen? ⟨w.heap.size + 1, 1, none⟩ = false := by simp [World.frozen?, v1]
   have f2 : V.frozen? ⟨w.heap.size + 1, 2, none⟩ = false := by simp [World.frozen?, v1]
   have f3 : V.frozen? ⟨w.heap.size + 1, 3, none⟩ = false := by simp [World.frozen?, v1]
   have f4 : V.frozen? ⟨w.heap.size + 1, 4, none⟩ = false := by simp [World.frozen?, v1]
   have f5 : V.frozen? ⟨w.heap.size + 1, 5, none⟩ = false := by simp [World.frozen?, v1]
   have f6 : V.frozen? ⟨w.heap.size + 1, 6, none⟩ = false := by simp [World.frozen?, v1]
   have x0 : V.cell? ⟨w2.heap.size, 0, none⟩ = some (.int .i64 M.pos) := by simp [World.cell?, v3]
   have x1 : V.cell? ⟨w2.heap.size, 1, none⟩ = some (.int .i64 M.groups) := by simp [World.cell?, v3]
   have x2 : V.cell? ⟨w2.heap.size, 2, none⟩ = some (.int .i64 M.least) := by simp [World.cell?, v3]
   have x3 : V.cell? ⟨w2.heap.size, 3, none⟩ = some (.int .i64 M.most) := by simp [World.cell?, v3]
   have x4 : V.cell? ⟨w2.heap.size, 4, none⟩ = some (.bool M.back) := by simp [World.cell?, v3]
   have x5 : V.cell? ⟨w2.heap.size, 5, none⟩ = some (.bool M.bol) := by simp [World.cell?, v3]
   have x6 : V.cell? ⟨w2.heap.size, 6, none⟩ = some (.bool M.eol) := by simp [World.cell?, v3]
   have hne2 : (w2.heap.size = w.heap.size + 1) = False := eq_false (by omega)
   have hne3 : (w.heap.size + 1 = w2.heap.size) = False := eq_false (by omega)
   have HD := xbj (And.intro hsm (And.intro v1 (And.intro v2 (And.intro v3 (And.intro hBV (And.intro hM hA))))))
   clear y0 y1 y2 y3 y4 y5 y6 y7 y8 hb2 hb3 hl1 q1 q2 hsz hsm v1 v2 v3 hBV hM hA a1 a2 a3 a4 a5 a6 a7 a8 m1 m2 m3 m4 m5 m6 m7 m8
   go_upto_region 6 with fail
   try rw [← hV]
   clear hV
   obtain ⟨ap, ag, al, am, ab, ao, ae⟩ := A
   simp only at z0 z1 z2 z3 z4 z5 z6 i1 i2 i3
   have HE : Hid ((⟨ap, ag, al, am, ab, ao, ae⟩ : Ms).both M = ⟨ap + M.pos, ag + M.groups, al + M.least, sumM am M.most, ab || M.back, ao || M.bol, ae || M.eol⟩) := xbj rfl
   go_wp2_with fail
   refine (HD.out.1 _).mono ?_
   rintro e w3 ⟨rfl, rfl⟩
   go_upto_region 10 with fail
   cases ab <;> cases ao <;> cases ae
   all_goals
    go_wp2
    refine ⟨⟨k + 1, by omega, by go_num, ?_, (xh7 V ⟨_, _, _, _, _, _, _⟩ (by omega)).trans HD.out.2.2.1, xbs HD.out.2.2.2.2.1 (by omega) ⟨_, _, _, _, _, _, _⟩⟩, by simp [intOf]; omega⟩
    rw [HC.out.2.1, ← HD.out.2.2.2.2.2.1, ← HD.out.2.2.2.2.2.2]
    exact xd4 ⟨_, _, _, _, _, _, _⟩ HD.out.2.1
  ·obtain rfl : k = ks.length := by omega
   have k3 : ¬ (ks.length : Int) < (ks.length : Int) := by omega
   rw [List.take_length] at gb1
   obtain ⟨M, hM⟩ : ∃ M, M = msF .zero ks := ⟨_, rfl⟩
   rw [← hM] at gb1
   have z0 : wr.cell? ⟨w.heap.size + 1, 0, none⟩ = some (.int .i64 M.pos) := by simp [World.cell?, gb1]
   have z1 : wr.cell? ⟨w.heap.size + 1, 1, none⟩ = some (.int .i64 M.groups) := by simp [World.cell?, gb1]
   have z2 : wr.cell? ⟨w.heap.size + 1, 2, none⟩ = some (.int .i64 M.least) := by simp [World.cell?, gb1]
   have z3 : wr.cell? ⟨w.heap.size + 1, 3, none⟩ = some (.int .i64 M.most) := by simp [World.cell?, gb1]
   have z4 : wr.cell? ⟨w.heap.size + 1, 4, none⟩ = some (.bool M.back) := by simp [World.cell?, gb1]
   have z5 : wr.cell? ⟨w.heap.size + 1, 5, none⟩ = some (.bool M.bol) := by simp [World.cell?, gb1]
   have z6 : wr.cell? ⟨w.heap.size + 1, 6, none⟩ = some (.bool M.eol) := by simp [World.cell?, gb1]
   have r0 : wr.cell? ⟨w.heap.size, 0, none⟩ = some (.int .i64 0) := by simp [World.cell?, gb2]; rfl
   have s0 : wr.frozen? ⟨w.heap.size, 0, none⟩ = false := by simp [World.frozen?, gb2]
   have r1 : wr.cell? ⟨w.heap.size, 1, none⟩ = some (.int .i64 0) := by simp [World.cell?, gb2]; rfl
   have s1 : wr.frozen? ⟨w.heap.size, 1, none⟩ = false := by simp [World.frozen?, gb2]
   have r2 : wr.cell? ⟨w.heap.size, 2, none⟩ = some (.int .i64 0) := by simp [World.cell?, gb2]; rfl
   have s2 : wr.frozen? ⟨w.heap.size, 2, none⟩ = false := by simp [World.frozen?, gb2]
   have r3 : wr.cell? ⟨w.heap.size, 3, none⟩ = some (.int .i64 0) := by simp [World.cell?, gb2]; rfl
   have s3 : wr.frozen? ⟨w.heap.size, 3, none⟩ = false := by simp [World.frozen?, gb2]
   have r4 : wr.cell? ⟨w.heap.size, 4, none⟩ = some (.bool false) := by simp [World.cell?, gb2]; rfl
   have s4 : wr.frozen? ⟨w.heap.size, 4, none⟩ = false := by simp [World.frozen?, gb2]
   have r5 : wr.cell? ⟨w.heap.size, 5, none⟩ = some (.bool false) := by simp [World.cell?, gb2]; rfl
   have s5 : wr.frozen? ⟨w.heap.size, 5, none⟩ = false := by simp [World.frozen?, gb2]
   have r6 : wr.cell? ⟨w.heap.size, 6, none⟩ = some (.bool false) := by simp [World.cell?, gb2]; rfl
   have s6 : wr.frozen? ⟨w.heap.size, 6, none⟩ = false := by simp [World.frozen?, gb2]
   have HB := xbj (And.intro gb1 (And.intro gb2 (And.intro gB hM)))
   clear gb1 gb2 gB hM
   go_wp2
   obtain ⟨Y, hY⟩ : ∃ Y, Y = ((((((wr.setCell ⟨w.heap.size, 0, none⟩ (.int .i64 M.pos)).setCell ⟨w.heap.size, 1, none⟩ (.int .i64 M.groups)).setCell ⟨w.heap.size, 2, none⟩ (.int .i64 M.least)).setCell ⟨w.heap.size, 3, none⟩ (.int .i64 M.most)).setCell ⟨w.heap.size, 4, none⟩ (.bool M.back)).setCell ⟨w.heap.size, 5, none⟩ (.bool M.bol)).setCell ⟨w.heap.size, 6, none⟩ (.bool M.eol) := ⟨_, rfl⟩
   have yb : Y.heap[w.heap.size]? = some (.cells M.arr 50 (0, 0)) := by rw [hY]; exact xd4 M HB.out.2.1
   have yB : Below w.heap.size w Y := by rw [hY]; exact xbs HB.out.2.2.1 (Nat.le_refl _) M
   rw [← hY]
   clear hY
   have v0 : Y.cell? ⟨w.heap.size, 0, none⟩ = some (.int .i64 M.pos) := by simp [World.cell?, yb]
   have v1 : Y.cell? ⟨w.heap.size, 1, none⟩ = some (.int .i64 M.groups) := by simp [World.cell?, yb]
   have v2 : Y.cell? ⟨w.heap.size, 2, none⟩ = some (.int .i64 M.least) := by simp [World.cell?, yb]
   have v3 : Y.cell? ⟨w.heap.size, 3, none⟩ = some (.int .i64 M.most) := by simp [World.cell?, yb]
   have v4 : Y.cell? ⟨w.heap.size, 4, none⟩ = some (.bool M.back) := by simp [World.cell?, yb]
   have v5 : Y.cell? ⟨w.heap.size, 5, none⟩ = some (.bool M.bol) := by simp [World.cell?, yb]
   have v6 : Y.cell? ⟨w.heap.size, 6, none⟩ = some (.bool M.eol) := by simp [World.cell?, yb]
   refine bodyPost_ret (by simp [results, Try.results53, go_sem, v0, v1, v2, v3, v4, v5, v6]; try rfl) rfl ?_
   exact ⟨by rw [← HB.out.2.2.2], yB⟩
end Go.Proofs.Ytolpakpdkheanaa.br
