/- measure: together. -/
import Derived.Test.YtiedliahmjiadaaKPa
import Derived.Test.YtiedliahmjiadaaKQf
import Derived.Test.YtiedliahmjiadaaKMc
import Derived.Test.YtiedliahmjiadaaKQt
import Derived.Deep.Cut
import Derived.Handy
set_option maxRecDepth 100000
set_option maxHeartbeats 4000000
namespace Go.Proofs.Ytiedliahmjiadaa
open Go.RowKit
mutual
def msT : Tr → Ms
 | .mk k _ lo hi _ kids => if k = 1 then ⟨1, 0, 1, 1, false, false, false⟩ else if k = 2 then ⟨0, 0, 0, 0, false, true, false⟩ else if k = 3 then ⟨0, 0, 0, 0, false, false, true⟩ else if k = 6 then ⟨1, 0, 0, -1, true, false, false⟩ else if k = 4 then (msF .zero kids).grp else if k = 5 then (msF .zero kids).rep lo hi else msF .zero kids
def msF : Ms → List Tr → Ms
 | a, [] => a
 | a, t :: ts => msF (a.both (msT t)) ts
end
theorem msF_app : ∀ (a b : List Tr) (m : Ms), msF m (a ++ b) = msF (msF m a) b
 | [], b, m => by simp only [List.nil_append, msF]
 | t :: a, b, m => by simp only [List.cons_append, msF]; exact msF_app a b _
theorem msF_take {ts : List Tr} {k : Nat} (h : k < ts.length) (m : Ms) : msF m (ts.take (k + 1)) = (msF m (ts.take k)).both (msT ts[k]) := by
 rw [List.take_succ_eq_append_getElem h, msF_app]
 simp only [msF]
def FitM (m : Ms) : Prop := (0 ≤ m.pos ∧ m.pos ≤ 1000) ∧ (0 ≤ m.groups ∧ m.groups ≤ 1000) ∧ (0 ≤ m.least ∧ m.least ≤ 1000) ∧ (-1 ≤ m.most ∧ m.most ≤ 1000)
abbrev put7 (W : World) (b : Nat) (m : Ms) : World := ((((((W.setCell ⟨b, 0, none⟩ (.int .i64 m.pos)).setCell ⟨b, 1, none⟩ (.int .i64 m.groups)).setCell ⟨b, 2, none⟩ (.int .i64 m.least)).setCell ⟨b, 3, none⟩ (.int .i64 m.most)).setCell ⟨b, 4, none⟩ (.bool m.back)).setCell ⟨b, 5, none⟩ (.bool m.bol)).setCell ⟨b, 6, none⟩ (.bool m.eol)
theorem put7_at {W : World} {b : Nat} {m0 : Ms} (m : Ms) (h : W.heap[b]? = some (.cells m0.arr 25 (0, 0))) : (put7 W b m).heap[b]? = some (.cells m.arr 25 (0, 0)) := by
 have h0 := put_same W b 0 (.int .i64 m.pos) h
 have h1 := put_same _ b 1 (.int .i64 m.groups) h0
 have h2 := put_same _ b 2 (.int .i64 m.least) h1
 have h3 := put_same _ b 3 (.int .i64 m.most) h2
 have h4 := put_same _ b 4 (.bool m.back) h3
 have h5 := put_same _ b 5 (.bool m.bol) h4
 have h6 := put_same _ b 6 (.bool m.eol) h5
 exact h6.trans (by simp)
theorem put7_far (W : World) {b : Nat} (m : Ms) {j : Nat} (h : j ≠ b) : (put7 W b m).heap[j]? = W.heap[j]? := by
 exact (put_far _ b 6 _ h).trans ((put_far _ b 5 _ h).trans ((put_far _ b 4 _ h).trans ((put_far _ b 3 _ h).trans ((put_far _ b 2 _ h).trans ((put_far _ b 1 _ h).trans (put_far _ b 0 _ h))))))
theorem put7_below {B : Nat} {a W : World} (h : Below B a W) {b : Nat} (hb : B ≤ b) (m : Ms) : Below B a (put7 W b m) :=
 (((((((h.setCell (p := ⟨b, 0, none⟩) hb _).setCell (p := ⟨b, 1, none⟩) hb _).setCell (p := ⟨b, 2, none⟩) hb _).setCell (p := ⟨b, 3, none⟩) hb _).setCell (p := ⟨b, 4, none⟩) hb _).setCell (p := ⟨b, 5, none⟩) hb _).setCell (p := ⟨b, 6, none⟩) hb _)
theorem together_walk (ks : List Tr) (hlen : ks.length ≤ 1000000) (hfit : ∀ k, k ≤ ks.length → FitM (msF .zero (ks.take k))) (ih : ∀ x ∈ ks, ∀ (w : World) (ok : Nat → Prop) (a : Option Addr) (n c : Nat), Kids w ok (.slice a n c) x.kids → Calls Try.prog 14 #[nodeA x (.slice a n c)] w fun e w' => e = .returned (.agg (msT x).arr) ∧ Below w.heap.size w w')
  (hfx : ∀ x ∈ ks, FitM (msT x)) (w : World) (ok : Nat → Prop) (a : Option Addr) (c : Nat) (hk : Kids w ok (.slice a ks.length c) ks) :
  Calls Try.prog 25 #[.slice a ks.length c] w fun e w' => e = .returned (.agg (msF .zero ks).arr) ∧ Below w.heap.size w w' := by
 have HA := hideM (And.intro hk (And.intro ih (And.intro hfx hfit)))
 clear hk ih hfx hfit
 go_enter Try.func25, Try.ntmps25
 go_wp2_with fail
 obtain ⟨X, hX⟩ : ∃ X, X = (w.alloc (.cells #[.int .i64 0, .int .i64 0, .int .i64 0, .int .i64 0, .bool false, .bool false, .bool false] 25)).alloc (.cells #[.int .i64 0, .int .i64 0, .int .i64 0, .int .i64 0, .bool false, .bool false, .bool false] 25) := ⟨_, rfl⟩
 have xb1 : X.heap[w.heap.size]? = some (.cells Ms.zero.arr 25 (0, 0)) := by
  rw [hX, Below.heap_alloc _ _ _ (by rw [World.size_alloc]; omega)]
  exact heap_alloc_new w _
 have xb2 : X.heap[w.heap.size + 1]? = some (.cells Ms.zero.arr 25 (0, 0)) := by
  rw [hX, ← World.size_alloc w (.cells #[.int .i64 0, .int .i64 0, .int .i64 0, .int .i64 0, .bool false, .bool false, .bool false] 25)]
  exact heap_alloc_new _ _
 have hBX : Below w.heap.size w X := by
  rw [hX]
  exact ((Below.refl _ _).alloc (Nat.le_refl _) _).alloc (by rw [World.size_alloc]; omega) _
 rw [← hX]
 clear hX
 have HX := hideM (And.intro xb1 (And.intro xb2 hBX))
 clear xb1 xb2 hBX
 go_loopw [9] (fun iv wr => ∃ k : Nat, k ≤ ks.length ∧ iv = .int .i64 k ∧ wr.heap[w.heap.size + 1]? = some (.cells (msF .zero (ks.take k)).arr 25 (0, 0)) ∧ wr.heap[w.heap.size]? = some (.cells Ms.zero.arr 25 (0, 0)) ∧ Below w.heap.size w wr) (fun iv _ => (ks.length - intOf iv).toNat)
 case atStart => exact ⟨0, by omega, rfl, by simp only [List.take_zero, msF]; exact HX.out.2.1, HX.out.1, HX.out.2.2⟩
 case round =>
  clear HX
  obtain ⟨k, hk1, rfl, gb1, gb2, gB⟩ := hrel
  by_cases hlt : k < ks.length
  ·have hkr := kids_below HA.out.1 gB
   obtain ⟨g, c', u, he, _, _, hcell, hku⟩ := kids_at hkr (i := k) (List.getElem?_eq_getElem hlt)
   obtain rfl : a = some ⟨g, 0, none⟩ := by injection he
   obtain ⟨ua, uc, rfl⟩ := kids_shape hku
   have y0 := (hcell 0 _ rfl).1
   have y1 := (hcell 1 _ rfl).1
   have y2 := (hcell 2 _ rfl).1
   have y3 := (hcell 3 _ rfl).1
   have y4 := (hcell 4 _ rfl).1
   have y5 := (hcell 5 _ rfl).1
   have y6 := (hcell 6 _ rfl).1
   have y7 := (hcell 7 _ rfl).1
   have y8 := (hcell 8 _ rfl).1
   rw [Nat.add_zero] at y0
   have k3 : (k : Int) < (ks.length : Int) := by omega
   have k4 : (0 : Int) ≤ (k : Int) := by omega
   have k5 : IntKind.i64.wrap ((k : Int) + 1) = (k : Int) + 1 := by rw [IntKind.wrap_i64]; omega
   have hsum := msF_take hlt .zero
   have hf1 := HA.out.2.2.2 k hk1
   have hf2 := HA.out.2.2.1 ks[k] (List.getElem_mem hlt)
   have hic := fun (W : World) (hW : Below wr.heap.size wr W) => HA.out.2.1 ks[k] (List.getElem_mem hlt) W ok ua _ uc (kids_below hku hW)
   have HC := hideM (And.intro hic (And.intro hsum (And.intro gb1 (And.intro gb2 (And.intro gB (And.intro hf1 hf2))))))
   clear hkr hcell hku he hic hsum gb1 gb2 gB hf1 hf2
   go_wp2_with fail
   refine (HC.out.1 _ ((Below.refl _ _).alloc (Nat.le_refl _) _)).mono ?_
   rintro e w2 ⟨rfl, hb2⟩
   obtain ⟨M, hM⟩ : ∃ M, M = msT ks[k] := ⟨_, rfl⟩
   obtain ⟨A, hA⟩ : ∃ A, A = msF .zero (ks.take k) := ⟨_, rfl⟩
   have hb3 : Below wr.heap.size wr w2 := ((Below.refl _ _).alloc (Nat.le_refl _) _).trans (hb2.mono (by rw [World.size_alloc]; omega))
   have hl1 := (Array.getElem?_eq_some_iff.1 HC.out.2.2.1).1
   have q1 := (hb3.block _ hl1).trans HC.out.2.2.1
   have q2 := (hb3.block _ (show w.heap.size < wr.heap.size by omega)).trans HC.out.2.2.2.1
   have hsz := hb3.size
   have hfa := HC.out.2.2.2.2.2.1
   have hfm := HC.out.2.2.2.2.2.2
   rw [← hM] at hfm ⊢
   rw [← hA] at hfa q1
   obtain ⟨⟨a1, a2⟩, ⟨a3, a4⟩, ⟨a5, a6⟩, ⟨a7, a8⟩⟩ := hfa
   obtain ⟨⟨m1, m2⟩, ⟨m3, m4⟩, ⟨m5, m6⟩, ⟨m7, m8⟩⟩ := hfm
   have i1 : IntKind.i64.wrap (A.pos + M.pos) = A.pos + M.pos := by rw [IntKind.wrap_i64]; omega
   have i2 : IntKind.i64.wrap (A.groups + M.groups) = A.groups + M.groups := by rw [IntKind.wrap_i64]; omega
   have i3 : IntKind.i64.wrap (A.least + M.least) = A.least + M.least := by rw [IntKind.wrap_i64]; omega
   have hsm := sum_any A.most M.most (by omega) (by omega)
   obtain ⟨V, hV⟩ : ∃ V, V = w2.alloc (.cells M.arr 25) := ⟨_, rfl⟩
   have v1 : V.heap[w.heap.size + 1]? = some (.cells A.arr 25 (0, 0)) := by rw [hV, Below.heap_alloc _ _ _ (by omega)]; exact q1
   have v2 : V.heap[w.heap.size]? = some (.cells Ms.zero.arr 25 (0, 0)) := by rw [hV, Below.heap_alloc _ _ _ (by omega)]; exact q2
   have v3 : V.heap[w2.heap.size]? = some (.cells M.arr 25 (0, 0)) := by rw [hV]; exact heap_alloc_new w2 _
   have hBV : Below w.heap.size w V := by rw [hV]; exact (HC.out.2.2.2.2.1.trans (hb3.mono HC.out.2.2.2.2.1.size)).alloc (by have := HC.out.2.2.2.2.1.size; omega) _
   have hne : w.heap.size + 1 ≠ w2.heap.size := by omega
   have z0 : V.cell? ⟨w.heap.size + 1, 0, none⟩ = some (.int .i64 A.pos) := by simp [World.cell?, v1]
   have z1 : V.cell? ⟨w.heap.size + 1, 1, none⟩ = some (.int .i64 A.groups) := by simp [World.cell?, v1]
   have z2 : V.cell? ⟨w.heap.size + 1, 2, none⟩ = some (.int .i64 A.least) := by simp [World.cell?, v1]
   have z3 : V.cell? ⟨w.heap.size + 1, 3, none⟩ = some (.int .i64 A.most) := by simp [World.cell?, v1]
   have z4 : V.cell? ⟨w.heap.size + 1, 4, none⟩ = some (.bool A.back) := by simp [World.cell?, v1]
   have z5 : V.cell? ⟨w.heap.size + 1, 5, none⟩ = some (.bool A.bol) := by simp [World.cell?, v1]
   have z6 : V.cell? ⟨w.heap.size + 1, 6, none⟩ = some (.bool A.eol) := by simp [World.cell?, v1]
   have f0 : V.frozen? ⟨w.heap.size + 1, 0, none⟩ = false := by simp [World.frozen?, v1]
   have f1 : V.frozen? ⟨w.heap.size + 1, 1, none⟩ = false := by simp [World.frozen?, v1]
   have f2 : V.frozen? ⟨w.heap.size + 1, 2, none⟩ = false := by simp [World.frozen?, v1]
   have f3 : V.frozen? ⟨w.heap.size + 1, 3, none⟩ = false := by simp [World.frozen?, v1]
   have f4 : V.frozen? ⟨w.heap.size + 1, 4, none⟩ = false := by simp [World.frozen?, v1]
   have f5 : V.frozen? ⟨w.heap.size + 1, 5, none⟩ = false := by simp [World.frozen?, v1]
   have f6 : V.frozen? ⟨w.heap.size + 1, 6, none⟩ = false := by simp [World.frozen?, v1]
   have x0 : V.cell? ⟨w2.heap.size, 0, none⟩ = some (.int .i64 M.pos) := by simp [World.cell?, v3]
   have x1 : V.cell? ⟨w2.heap.size, 1, none⟩ = some (.int .i64 M.groups) := by simp [World.cell?, v3]
   have x2 : V.cell? ⟨w2.heap.size, 2, none⟩ = some (.int .i64 M.least) := by simp [World.cell?, v3]
   have x3 : V.cell? ⟨w2.heap.size, 3, none⟩ = some (.int .i64 M.most) := by simp [World.cell?, v3]
   have x4 : V.cell? ⟨w2.heap.size, 4, none⟩ = some (.bool M.back) := by simp [World.cell?, v3]
   have x5 : V.cell? ⟨w2.heap.size, 5, none⟩ = some (.bool M.bol) := by simp [World.cell?, v3]
   have x6 : V.cell? ⟨w2.heap.size, 6, none⟩ = some (.bool M.eol) := by simp [World.cell?, v3]
   have hne2 : (w2.heap.size = w.heap.size + 1) = False := eq_false (by omega)
   have hne3 : (w.heap.size + 1 = w2.heap.size) = False := eq_false (by omega)
   have HD := hideM (And.intro hsm (And.intro v1 (And.intro v2 (And.intro v3 (And.intro hBV (And.intro hM hA))))))
   clear y0 y1 y2 y3 y4 y5 y6 y7 y8 hb2 hb3 hl1 q1 q2 hsz hsm v1 v2 v3 hBV hM hA a1 a2 a3 a4 a5 a6 a7 a8 m1 m2 m3 m4 m5 m6 m7 m8
   go_upto_region 6 with fail
   try rw [← hV]
   clear hV
   obtain ⟨ap, ag, al, am, ab, ao, ae⟩ := A
   simp only at z0 z1 z2 z3 z4 z5 z6 i1 i2 i3
   have HE : Hid ((⟨ap, ag, al, am, ab, ao, ae⟩ : Ms).both M = ⟨ap + M.pos, ag + M.groups, al + M.least, sumM am M.most, ab || M.back, ao || M.bol, ae || M.eol⟩) := hideM rfl
   go_wp2_with fail
   refine (HD.out.1 _).mono ?_
   rintro e w3 ⟨rfl, rfl⟩
   go_upto_region 10 with fail
   cases ab <;> cases ao <;> cases ae
   all_goals
    go_wp2
    refine ⟨⟨k + 1, by omega, by go_num, ?_, (put7_far V ⟨_, _, _, _, _, _, _⟩ (by omega)).trans HD.out.2.2.1, put7_below HD.out.2.2.2.2.1 (by omega) ⟨_, _, _, _, _, _, _⟩⟩, by simp [intOf]; omega⟩
    rw [HC.out.2.1, ← HD.out.2.2.2.2.2.1, ← HD.out.2.2.2.2.2.2]
    exact put7_at ⟨_, _, _, _, _, _, _⟩ HD.out.2.1
  ·obtain rfl : k = ks.length := by omega
   have k3 : ¬ (ks.length : Int) < (ks.length : Int) := by omega
   rw [List.take_length] at gb1
   obtain ⟨M, hM⟩ : ∃ M, M = msF .zero ks := ⟨_, rfl⟩
   rw [← hM] at gb1
   have z0 : wr.cell? ⟨w.heap.size + 1, 0, none⟩ = some (.int .i64 M.pos) := by simp [World.cell?, gb1]
   have z1 : wr.cell? ⟨w.heap.size + 1, 1, none⟩ = some (.int .i64 M.groups) := by simp [World.cell?, gb1]
   have z2 : wr.cell? ⟨w.heap.size + 1, 2, none⟩ = some (.int .i64 M.least) := by simp [World.cell?, gb1]
   have z3 : wr.cell? ⟨w.heap.size + 1, 3, none⟩ = some (.int .i64 M.most) := by simp [World.cell?, gb1]
   have z4 : wr.cell? ⟨w.heap.size + 1, 4, none⟩ = some (.bool M.back) := by simp [World.cell?, gb1]
   have z5 : wr.cell? ⟨w.heap.size + 1, 5, none⟩ = some (.bool M.bol) := by simp [World.cell?, gb1]
   have z6 : wr.cell? ⟨w.heap.size + 1, 6, none⟩ = some (.bool M.eol) := by simp [World.cell?, gb1]
   have r0 : wr.cell? ⟨w.heap.size, 0, none⟩ = some (.int .i64 0) := by simp [World.cell?, gb2]; rfl
   have s0 : wr.frozen? ⟨w.heap.size, 0, none⟩ = false := by simp [World.frozen?, gb2]
   have r1 : wr.cell? ⟨w.heap.size, 1, none⟩ = some (.int .i64 0) := by simp [World.cell?, gb2]; rfl
   have s1 : wr.frozen? ⟨w.heap.size, 1, none⟩ = false := by simp [World.frozen?, gb2]
   have r2 : wr.cell? ⟨w.heap.size, 2, none⟩ = some (.int .i64 0) := by simp [World.cell?, gb2]; rfl
   have s2 : wr.frozen? ⟨w.heap.size, 2, none⟩ = false := by simp [World.frozen?, gb2]
   have r3 : wr.cell? ⟨w.heap.size, 3, none⟩ = some (.int .i64 0) := by simp [World.cell?, gb2]; rfl
   have s3 : wr.frozen? ⟨w.heap.size, 3, none⟩ = false := by simp [World.frozen?, gb2]
   have r4 : wr.cell? ⟨w.heap.size, 4, none⟩ = some (.bool false) := by simp [World.cell?, gb2]; rfl
   have s4 : wr.frozen? ⟨w.heap.size, 4, none⟩ = false := by simp [World.frozen?, gb2]
   have r5 : wr.cell? ⟨w.heap.size, 5, none⟩ = some (.bool false) := by simp [World.cell?, gb2]; rfl
   have s5 : wr.frozen? ⟨w.heap.size, 5, none⟩ = false := by simp [World.frozen?, gb2]
   have r6 : wr.cell? ⟨w.heap.size, 6, none⟩ = some (.bool false) := by simp [World.cell?, gb2]; rfl
   have s6 : wr.frozen? ⟨w.heap.size, 6, none⟩ = false := by simp [World.frozen?, gb2]
   have HB := hideM (And.intro gb1 (And.intro gb2 (And.intro gB hM)))
   clear gb1 gb2 gB hM
   go_wp2
   obtain ⟨Y, hY⟩ : ∃ Y, Y = ((((((wr.setCell ⟨w.heap.size, 0, none⟩ (.int .i64 M.pos)).setCell ⟨w.heap.size, 1, none⟩ (.int .i64 M.groups)).setCell ⟨w.heap.size, 2, none⟩ (.int .i64 M.least)).setCell ⟨w.heap.size, 3, none⟩ (.int .i64 M.most)).setCell ⟨w.heap.size, 4, none⟩ (.bool M.back)).setCell ⟨w.heap.size, 5, none⟩ (.bool M.bol)).setCell ⟨w.heap.size, 6, none⟩ (.bool M.eol) := ⟨_, rfl⟩
   have yb : Y.heap[w.heap.size]? = some (.cells M.arr 25 (0, 0)) := by rw [hY]; exact put7_at M HB.out.2.1
   have yB : Below w.heap.size w Y := by rw [hY]; exact put7_below HB.out.2.2.1 (Nat.le_refl _) M
   rw [← hY]
   clear hY
   have v0 : Y.cell? ⟨w.heap.size, 0, none⟩ = some (.int .i64 M.pos) := by simp [World.cell?, yb]
   have v1 : Y.cell? ⟨w.heap.size, 1, none⟩ = some (.int .i64 M.groups) := by simp [World.cell?, yb]
   have v2 : Y.cell? ⟨w.heap.size, 2, none⟩ = some (.int .i64 M.least) := by simp [World.cell?, yb]
   have v3 : Y.cell? ⟨w.heap.size, 3, none⟩ = some (.int .i64 M.most) := by simp [World.cell?, yb]
   have v4 : Y.cell? ⟨w.heap.size, 4, none⟩ = some (.bool M.back) := by simp [World.cell?, yb]
   have v5 : Y.cell? ⟨w.heap.size, 5, none⟩ = some (.bool M.bol) := by simp [World.cell?, yb]
   have v6 : Y.cell? ⟨w.heap.size, 6, none⟩ = some (.bool M.eol) := by simp [World.cell?, yb]
   refine bodyPost_ret (by simp [results, Try.results25, go_sem, v0, v1, v2, v3, v4, v5, v6]; try rfl) rfl ?_
   exact ⟨by rw [← HB.out.2.2.2], yB⟩
end Go.Proofs.Ytiedliahmjiadaa
namespace Go.Proofs.Ytiedliahmjiadaa
open Go.RowKit
mutual
def fitT : Tr → Prop
 | .mk k q lo hi g kids => FitM (msT (.mk k q lo hi g kids)) ∧ (k = 5 → 0 ≤ lo ∧ lo ≤ 255) ∧ kids.length ≤ 1000000 ∧ fitF .zero kids
def fitF : Ms → List Tr → Prop
 | m, [] => FitM m
 | m, t :: ts => FitM m ∧ fitT t ∧ fitF (m.both (msT t)) ts
end
theorem fitT_at (t : Tr) (h : fitT t) : FitM (msT t) ∧ (t.kind = 5 → 0 ≤ t.lo ∧ t.lo ≤ 255) ∧ t.kids.length ≤ 1000000 ∧ fitF .zero t.kids := by
 obtain ⟨k, q, lo, hi, g, kids⟩ := t
 exact h
theorem fitF_mem : ∀ (ts : List Tr) (m : Ms), fitF m ts → ∀ t ∈ ts, fitT t
 | t :: ts, m, h, x, hx => by
  rcases List.mem_cons.1 hx with rfl | hx
  ·exact h.2.1
  ·exact fitF_mem ts _ h.2.2 x hx
theorem fitF_take : ∀ (ts : List Tr) (m : Ms) (k : Nat), fitF m ts → FitM (msF m (ts.take k))
 | [], m, k, h => by rw [List.take_nil]; simp only [msF]; exact h
 | t :: ts, m, 0, h => by simp only [List.take_zero, msF]; exact h.1
 | t :: ts, m, k + 1, h => by simp only [List.take_succ_cons, msF]; exact fitF_take ts _ k h.2.2
theorem ofTree_walk (t : Tr) (hfit : fitT t) (ih : ∀ x ∈ t.kids, ∀ (w : World) (ok : Nat → Prop) (a : Option Addr) (n c : Nat), Kids w ok (.slice a n c) x.kids → Calls Try.prog 14 #[nodeA x (.slice a n c)] w fun e w' => e = .returned (.agg (msT x).arr) ∧ Below w.heap.size w w')
  (w : World) (ok : Nat → Prop) (a : Option Addr) (c : Nat) (hk : Kids w ok (.slice a t.kids.length c) t.kids) :
  Calls Try.prog 14 #[nodeA t (.slice a t.kids.length c)] w fun e w' => e = .returned (.agg (msT t).arr) ∧ Below w.heap.size w w' := by
 have htg : ∀ W, Below w.heap.size w W → Calls Try.prog 25 #[.slice a t.kids.length c] W fun e w' => e = .returned (.agg (msF .zero t.kids).arr) ∧ Below W.heap.size W w' := fun W hW =>
  together_walk t.kids (fitT_at t hfit).2.2.1 (fun k _ => fitF_take _ _ k (fitT_at t hfit).2.2.2) ih (fun x hx => (fitT_at x (fitF_mem _ _ (fitT_at t hfit).2.2.2 x hx)).1) W ok a c (kids_below hk hW)
 have hfm := (fitT_at t hfit).1
 have hlo := (fitT_at t hfit).2.1
 obtain ⟨kd, q, lo, hi, gp, ks⟩ := t
 simp only [Tr.kids, Tr.kind, Tr.lo] at htg hlo
 have HA := hideM htg
 clear hk ih hfit htg
 show Calls Try.prog 14 #[.agg #[.int .i64 (kd : Nat), .int .u64 (wd q 0 : Nat), .int .u64 (wd q 1 : Nat), .int .u64 (wd q 2 : Nat), .int .u64 (wd q 3 : Nat), .int .i64 lo, .int .i64 hi, .int .i64 (gp : Nat), .slice a ks.length c]] w _
 by_cases c1 : kd = 1
 ·subst c1
  have hE : Hid (msT (.mk 1 q lo hi gp ks) = ⟨1, 0, 1, 1, false, false, false⟩) := hideM (by simp [msT])
  clear hfm hlo
  go_enter Try.func14, Try.ntmps14
  go_wp2
  refine bodyPost_ret (by simp [results, Try.results14, go_sem]; try rfl) rfl ?_
  exact ⟨by rw [hE.out], ((Below.refl _ _).alloc (Nat.le_refl _) _).alloc (by rw [World.size_alloc]; omega) _⟩
 by_cases c2 : kd = 2
 ·subst c2
  have hE : Hid (msT (.mk 2 q lo hi gp ks) = ⟨0, 0, 0, 0, false, true, false⟩) := hideM (by simp [msT])
  clear hfm hlo
  go_enter Try.func14, Try.ntmps14
  go_wp2
  refine bodyPost_ret (by simp [results, Try.results14, go_sem]; try rfl) rfl ?_
  exact ⟨by rw [hE.out], ((Below.refl _ _).alloc (Nat.le_refl _) _).alloc (by rw [World.size_alloc]; omega) _⟩
 by_cases c3 : kd = 3
 ·subst c3
  have hE : Hid (msT (.mk 3 q lo hi gp ks) = ⟨0, 0, 0, 0, false, false, true⟩) := hideM (by simp [msT])
  clear hfm hlo
  go_enter Try.func14, Try.ntmps14
  go_wp2
  refine bodyPost_ret (by simp [results, Try.results14, go_sem]; try rfl) rfl ?_
  exact ⟨by rw [hE.out], ((Below.refl _ _).alloc (Nat.le_refl _) _).alloc (by rw [World.size_alloc]; omega) _⟩
 by_cases c6 : kd = 6
 ·subst c6
  have hE : Hid (msT (.mk 6 q lo hi gp ks) = ⟨1, 0, 0, -1, true, false, false⟩) := hideM (by simp [msT])
  clear hfm hlo
  go_enter Try.func14, Try.ntmps14
  go_wp2
  refine bodyPost_ret (by simp [results, Try.results14, go_sem]; try rfl) rfl ?_
  exact ⟨by rw [hE.out], ((Below.refl _ _).alloc (Nat.le_refl _) _).alloc (by rw [World.size_alloc]; omega) _⟩
 have e1 : ((kd : Int) == 1) = false := by rw [beq_eq_false_iff_ne]; omega
 have e2 : ((kd : Int) == 2) = false := by rw [beq_eq_false_iff_ne]; omega
 have e3 : ((kd : Int) == 3) = false := by rw [beq_eq_false_iff_ne]; omega
 have e6 : ((kd : Int) == 6) = false := by rw [beq_eq_false_iff_ne]; omega
 go_enter Try.func14, Try.ntmps14
 go_upto_region 10 with fail
 obtain ⟨X, hX⟩ : ∃ X, X = (w.alloc (.cells #[.int .i64 (kd : Nat), .int .u64 (wd q 0 : Nat), .int .u64 (wd q 1 : Nat), .int .u64 (wd q 2 : Nat), .int .u64 (wd q 3 : Nat), .int .i64 lo, .int .i64 hi, .int .i64 (gp : Nat), .slice a ks.length c] 48)).alloc (.cells #[.int .i64 0, .int .i64 0, .int .i64 0, .int .i64 0, .bool false, .bool false, .bool false] 25) := ⟨_, rfl⟩
 have hXs : X.heap.size = w.heap.size + 1 + 1 := by rw [hX, World.size_alloc, World.size_alloc]
 have xb1 : X.heap[w.heap.size]? = some (.cells #[.int .i64 (kd : Nat), .int .u64 (wd q 0 : Nat), .int .u64 (wd q 1 : Nat), .int .u64 (wd q 2 : Nat), .int .u64 (wd q 3 : Nat), .int .i64 lo, .int .i64 hi, .int .i64 (gp : Nat), .slice a ks.length c] 48 (0, 0)) := by
  rw [hX, Below.heap_alloc _ _ _ (by rw [World.size_alloc]; omega)]
  exact heap_alloc_new w _
 have xb2 : X.heap[w.heap.size + 1]? = some (.cells #[.int .i64 0, .int .i64 0, .int .i64 0, .int .i64 0, .bool false, .bool false, .bool false] 25 (0, 0)) := by
  rw [hX, ← World.size_alloc w (.cells #[.int .i64 (kd : Nat), .int .u64 (wd q 0 : Nat), .int .u64 (wd q 1 : Nat), .int .u64 (wd q 2 : Nat), .int .u64 (wd q 3 : Nat), .int .i64 lo, .int .i64 hi, .int .i64 (gp : Nat), .slice a ks.length c] 48)]
  exact heap_alloc_new _ _
 have hBX : Below w.heap.size w X := by
  rw [hX]
  exact ((Below.refl _ _).alloc (Nat.le_refl _) _).alloc (by rw [World.size_alloc]; omega) _
 rw [← hX]
 clear hX
 have y0 : X.cell? ⟨w.heap.size, 0, none⟩ = some (.int .i64 (kd : Nat)) := by simp [World.cell?, xb1]
 have y5 : X.cell? ⟨w.heap.size, 5, none⟩ = some (.int .i64 lo) := by simp [World.cell?, xb1]
 have y6 : X.cell? ⟨w.heap.size, 6, none⟩ = some (.int .i64 hi) := by simp [World.cell?, xb1]
 have y8 : X.cell? ⟨w.heap.size, 8, none⟩ = some (.slice a ks.length c) := by simp [World.cell?, xb1]
 have HX := hideM (And.intro xb1 (And.intro xb2 (And.intro hBX hXs)))
 clear xb1 xb2 hBX hXs
 go_wp2_with fail
 refine (HA.out X HX.out.2.2.1).mono ?_
 rintro e w2 ⟨rfl, hb2⟩
 obtain ⟨A, hA⟩ : ∃ A, A = msF .zero ks := ⟨_, rfl⟩
 rw [← hA]
 clear y0 y5 y6 y8
 obtain ⟨V, hV⟩ : ∃ V, V = w2.alloc (.cells A.arr 25) := ⟨_, rfl⟩
 have hsz := hb2.size
 have hXs := HX.out.2.2.2
 have v1 : V.heap[w.heap.size]? = some (.cells #[.int .i64 (kd : Nat), .int .u64 (wd q 0 : Nat), .int .u64 (wd q 1 : Nat), .int .u64 (wd q 2 : Nat), .int .u64 (wd q 3 : Nat), .int .i64 lo, .int .i64 hi, .int .i64 (gp : Nat), .slice a ks.length c] 48 (0, 0)) := by rw [hV, Below.heap_alloc _ _ _ (by omega), hb2.block _ (by omega)]; exact HX.out.1
 have v2 : V.heap[w.heap.size + 1]? = some (.cells #[.int .i64 0, .int .i64 0, .int .i64 0, .int .i64 0, .bool false, .bool false, .bool false] 25 (0, 0)) := by rw [hV, Below.heap_alloc _ _ _ (by omega), hb2.block _ (by omega)]; exact HX.out.2.1
 have v3 : V.heap[w2.heap.size]? = some (.cells A.arr 25 (0, 0)) := by rw [hV]; exact heap_alloc_new w2 _
 have hBV : Below w.heap.size w V := by rw [hV]; exact (HX.out.2.2.1.trans (hb2.mono (by omega))).alloc (by omega) _
 have hVs : V.heap.size = w2.heap.size + 1 := by rw [hV, World.size_alloc]
 have y0 : V.cell? ⟨w.heap.size, 0, none⟩ = some (.int .i64 (kd : Nat)) := by simp [World.cell?, v1]
 have y5 : V.cell? ⟨w.heap.size, 5, none⟩ = some (.int .i64 lo) := by simp [World.cell?, v1]
 have y6 : V.cell? ⟨w.heap.size, 6, none⟩ = some (.int .i64 hi) := by simp [World.cell?, v1]
 have z0 : V.cell? ⟨w2.heap.size, 0, none⟩ = some (.int .i64 A.pos) := by simp [World.cell?, v3]
 have f0 : V.frozen? ⟨w2.heap.size, 0, none⟩ = false := by simp [World.frozen?, v3]
 have z1 : V.cell? ⟨w2.heap.size, 1, none⟩ = some (.int .i64 A.groups) := by simp [World.cell?, v3]
 have f1 : V.frozen? ⟨w2.heap.size, 1, none⟩ = false := by simp [World.frozen?, v3]
 have z2 : V.cell? ⟨w2.heap.size, 2, none⟩ = some (.int .i64 A.least) := by simp [World.cell?, v3]
 have f2 : V.frozen? ⟨w2.heap.size, 2, none⟩ = false := by simp [World.frozen?, v3]
 have z3 : V.cell? ⟨w2.heap.size, 3, none⟩ = some (.int .i64 A.most) := by simp [World.cell?, v3]
 have f3 : V.frozen? ⟨w2.heap.size, 3, none⟩ = false := by simp [World.frozen?, v3]
 have z4 : V.cell? ⟨w2.heap.size, 4, none⟩ = some (.bool A.back) := by simp [World.cell?, v3]
 have f4 : V.frozen? ⟨w2.heap.size, 4, none⟩ = false := by simp [World.frozen?, v3]
 have z5 : V.cell? ⟨w2.heap.size, 5, none⟩ = some (.bool A.bol) := by simp [World.cell?, v3]
 have f5 : V.frozen? ⟨w2.heap.size, 5, none⟩ = false := by simp [World.frozen?, v3]
 have z6 : V.cell? ⟨w2.heap.size, 6, none⟩ = some (.bool A.eol) := by simp [World.cell?, v3]
 have f6 : V.frozen? ⟨w2.heap.size, 6, none⟩ = false := by simp [World.frozen?, v3]
 have r0 : V.cell? ⟨w.heap.size + 1, 0, none⟩ = some (.int .i64 0) := by simp [World.cell?, v2]
 have s0 : V.frozen? ⟨w.heap.size + 1, 0, none⟩ = false := by simp [World.frozen?, v2]
 have r1 : V.cell? ⟨w.heap.size + 1, 1, none⟩ = some (.int .i64 0) := by simp [World.cell?, v2]
 have s1 : V.frozen? ⟨w.heap.size + 1, 1, none⟩ = false := by simp [World.frozen?, v2]
 have r2 : V.cell? ⟨w.heap.size + 1, 2, none⟩ = some (.int .i64 0) := by simp [World.cell?, v2]
 have s2 : V.frozen? ⟨w.heap.size + 1, 2, none⟩ = false := by simp [World.frozen?, v2]
 have r3 : V.cell? ⟨w.heap.size + 1, 3, none⟩ = some (.int .i64 0) := by simp [World.cell?, v2]
 have s3 : V.frozen? ⟨w.heap.size + 1, 3, none⟩ = false := by simp [World.frozen?, v2]
 have r4 : V.cell? ⟨w.heap.size + 1, 4, none⟩ = some (.bool false) := by simp [World.cell?, v2]
 have s4 : V.frozen? ⟨w.heap.size + 1, 4, none⟩ = false := by simp [World.frozen?, v2]
 have r5 : V.cell? ⟨w.heap.size + 1, 5, none⟩ = some (.bool false) := by simp [World.cell?, v2]
 have s5 : V.frozen? ⟨w.heap.size + 1, 5, none⟩ = false := by simp [World.frozen?, v2]
 have r6 : V.cell? ⟨w.heap.size + 1, 6, none⟩ = some (.bool false) := by simp [World.cell?, v2]
 have s6 : V.frozen? ⟨w.heap.size + 1, 6, none⟩ = false := by simp [World.frozen?, v2]
 have hne2 : (w2.heap.size = w.heap.size + 1) = False := eq_false (by omega)
 have hne3 : (w.heap.size + 1 = w2.heap.size) = False := eq_false (by omega)
 have hne4 : (w.heap.size = w2.heap.size) = False := eq_false (by omega)
 have hne5 : (w2.heap.size = w.heap.size) = False := eq_false (by omega)
 have HH := hideM (And.intro hA (And.intro v1 (And.intro v2 (And.intro v3 (And.intro hBV (And.intro hsz (And.intro hXs (And.intro hb2 hfm))))))))
 clear hA v1 v2 v3 hBV hsz hXs hb2 hfm
 go_upto_region 11 with fail
 rw [← hV]
 clear hV
 obtain ⟨hA, v1, v2, v3, hBV, hsz, hXs, hb2, hfm⟩ := HH.out
 clear HH
 by_cases c4 : kd = 4
 ·have e4 : ((kd : Int) == 4) = true := by rw [beq_iff_eq]; omega
  have hE : msT (.mk kd q lo hi gp ks) = (msF .zero ks).grp := by rw [c4]; simp [msT]
  rw [hE] at hfm
  have HE := hideM hE
  clear hE hlo c4
  have k1 : IntKind.i64.wrap (A.groups + 1) = A.groups + 1 := by
   rw [← hA] at hfm
   have := hfm.2.1
   have h2 : A.grp.groups = A.groups + 1 := rfl
   rw [IntKind.wrap_i64]; omega
  have HD := hideM (And.intro v2 (And.intro v3 (And.intro hBV (And.intro hA (And.intro hsz hXs)))))
  clear v1 v2 v3 hBV hA hsz hXs hfm hb2
  go_wp2
  obtain ⟨Y, hY⟩ : ∃ Y, Y = (((((((V.setCell ⟨w2.heap.size, 1, none⟩ (.int .i64 (A.groups + 1))).setCell ⟨w.heap.size + 1, 0, none⟩ (.int .i64 A.pos)).setCell ⟨w.heap.size + 1, 1, none⟩ (.int .i64 (A.groups + 1))).setCell ⟨w.heap.size + 1, 2, none⟩ (.int .i64 A.least)).setCell ⟨w.heap.size + 1, 3, none⟩ (.int .i64 A.most)).setCell ⟨w.heap.size + 1, 4, none⟩ (.bool A.back)).setCell ⟨w.heap.size + 1, 5, none⟩ (.bool A.bol)).setCell ⟨w.heap.size + 1, 6, none⟩ (.bool A.eol) := ⟨_, rfl⟩
  have yb : Y.heap[w.heap.size + 1]? = some (.cells (⟨A.pos, (A.groups + 1), A.least, A.most, A.back, A.bol, A.eol⟩ : Ms).arr 25 (0, 0)) := by rw [hY]; exact put7_at (m0 := .zero) ⟨A.pos, (A.groups + 1), A.least, A.most, A.back, A.bol, A.eol⟩ ((put_far V _ _ _ (by have := HD.out.2.2.2.2.1; have := HD.out.2.2.2.2.2; omega)).trans HD.out.1)
  have yB : Below w.heap.size w Y := by rw [hY]; exact put7_below (HD.out.2.2.1.setCell (p := ⟨w2.heap.size, 1, none⟩) (by have := HD.out.2.2.2.2.1; have := HD.out.2.2.2.2.2; show w.heap.size ≤ w2.heap.size; omega) _) (by omega) ⟨A.pos, (A.groups + 1), A.least, A.most, A.back, A.bol, A.eol⟩
  rw [← hY]
  clear hY
  have o0 : Y.cell? ⟨w.heap.size + 1, 0, none⟩ = some (.int .i64 A.pos) := by simp [World.cell?, yb]
  have o1 : Y.cell? ⟨w.heap.size + 1, 1, none⟩ = some (.int .i64 ((A.groups + 1))) := by simp [World.cell?, yb]
  have o2 : Y.cell? ⟨w.heap.size + 1, 2, none⟩ = some (.int .i64 A.least) := by simp [World.cell?, yb]
  have o3 : Y.cell? ⟨w.heap.size + 1, 3, none⟩ = some (.int .i64 A.most) := by simp [World.cell?, yb]
  have o4 : Y.cell? ⟨w.heap.size + 1, 4, none⟩ = some (.bool A.back) := by simp [World.cell?, yb]
  have o5 : Y.cell? ⟨w.heap.size + 1, 5, none⟩ = some (.bool A.bol) := by simp [World.cell?, yb]
  have o6 : Y.cell? ⟨w.heap.size + 1, 6, none⟩ = some (.bool A.eol) := by simp [World.cell?, yb]
  refine bodyPost_ret (by simp [results, Try.results14, go_sem, o0, o1, o2, o3, o4, o5, o6]; try rfl) rfl ?_
  exact ⟨by rw [HE.out, ← HD.out.2.2.2.1]; rfl, yB⟩
 have e4 : ((kd : Int) == 4) = false := by rw [beq_eq_false_iff_ne]; omega
 by_cases c5 : kd = 5
 ·have e5 : ((kd : Int) == 5) = true := by rw [beq_iff_eq]; omega
  have hE : msT (.mk kd q lo hi gp ks) = (msF .zero ks).rep lo hi := by rw [c5]; simp [msT]
  rw [hE] at hfm
  have HE := hideM hE
  have hlo' := hlo c5
  clear hE hlo c4 c5
  have hrp := fun W => repeated_any A lo hi hlo' (by rw [← hA] at hfm; have h := hfm.1; have h2 : (A.rep lo hi).pos = A.pos * wrM lo hi := rfl; rw [h2] at h; omega) (by rw [← hA] at hfm; have h := hfm.2.2.1; have h2 : (A.rep lo hi).least = A.least * lo := rfl; rw [h2] at h; omega) (by rw [← hA] at hfm; have h := hfm.2.2.2; have h2 : (A.rep lo hi).most = prodM hi A.most := rfl; rw [h2] at h; omega) W
  have HD := hideM (And.intro v2 (And.intro v3 (And.intro hBV (And.intro hA (And.intro hsz (And.intro hXs hrp))))))
  clear v1 v2 v3 hBV hA hsz hXs hfm hb2 hrp
  go_wp2_with fail
  refine (HD.out.2.2.2.2.2.2 V).mono ?_
  rintro e w3 ⟨rfl, hb3⟩
  obtain ⟨M, hM⟩ : ∃ M, M = A.rep lo hi := ⟨_, rfl⟩
  rw [← hM]
  have hsz3 := hb3.size
  have u2 : w3.heap[w.heap.size + 1]? = some (.cells #[.int .i64 0, .int .i64 0, .int .i64 0, .int .i64 0, .bool false, .bool false, .bool false] 25 (0, 0)) := by have := HD.out.2.2.2.2.1; have := HD.out.2.2.2.2.2.1; rw [hb3.block _ (by omega)]; exact HD.out.1
  have u3 : w3.heap[w2.heap.size]? = some (.cells A.arr 25 (0, 0)) := by rw [hb3.block _ (by omega)]; exact HD.out.2.1
  have hB3 : Below w.heap.size w w3 := by have := HD.out.2.2.2.2.1; have := HD.out.2.2.2.2.2.1; exact HD.out.2.2.1.trans (hb3.mono (by omega))
  clear y0 y5 y6 z0 f0 r0 s0 z1 f1 r1 s1 z2 f2 r2 s2 z3 f3 r3 s3 z4 f4 r4 s4 z5 f5 r5 s5 z6 f6 r6 s6
  have z0 : w3.cell? ⟨w2.heap.size, 0, none⟩ = some (.int .i64 A.pos) := by simp [World.cell?, u3]
  have f0 : w3.frozen? ⟨w2.heap.size, 0, none⟩ = false := by simp [World.frozen?, u3]
  have r0 : w3.cell? ⟨w.heap.size + 1, 0, none⟩ = some (.int .i64 0) := by simp [World.cell?, u2]
  have s0 : w3.frozen? ⟨w.heap.size + 1, 0, none⟩ = false := by simp [World.frozen?, u2]
  have z1 : w3.cell? ⟨w2.heap.size, 1, none⟩ = some (.int .i64 A.groups) := by simp [World.cell?, u3]
  have f1 : w3.frozen? ⟨w2.heap.size, 1, none⟩ = false := by simp [World.frozen?, u3]
  have r1 : w3.cell? ⟨w.heap.size + 1, 1, none⟩ = some (.int .i64 0) := by simp [World.cell?, u2]
  have s1 : w3.frozen? ⟨w.heap.size + 1, 1, none⟩ = false := by simp [World.frozen?, u2]
  have z2 : w3.cell? ⟨w2.heap.size, 2, none⟩ = some (.int .i64 A.least) := by simp [World.cell?, u3]
  have f2 : w3.frozen? ⟨w2.heap.size, 2, none⟩ = false := by simp [World.frozen?, u3]
  have r2 : w3.cell? ⟨w.heap.size + 1, 2, none⟩ = some (.int .i64 0) := by simp [World.cell?, u2]
  have s2 : w3.frozen? ⟨w.heap.size + 1, 2, none⟩ = false := by simp [World.frozen?, u2]
  have z3 : w3.cell? ⟨w2.heap.size, 3, none⟩ = some (.int .i64 A.most) := by simp [World.cell?, u3]
  have f3 : w3.frozen? ⟨w2.heap.size, 3, none⟩ = false := by simp [World.frozen?, u3]
  have r3 : w3.cell? ⟨w.heap.size + 1, 3, none⟩ = some (.int .i64 0) := by simp [World.cell?, u2]
  have s3 : w3.frozen? ⟨w.heap.size + 1, 3, none⟩ = false := by simp [World.frozen?, u2]
  have z4 : w3.cell? ⟨w2.heap.size, 4, none⟩ = some (.bool A.back) := by simp [World.cell?, u3]
  have f4 : w3.frozen? ⟨w2.heap.size, 4, none⟩ = false := by simp [World.frozen?, u3]
  have r4 : w3.cell? ⟨w.heap.size + 1, 4, none⟩ = some (.bool false) := by simp [World.cell?, u2]
  have s4 : w3.frozen? ⟨w.heap.size + 1, 4, none⟩ = false := by simp [World.frozen?, u2]
  have z5 : w3.cell? ⟨w2.heap.size, 5, none⟩ = some (.bool A.bol) := by simp [World.cell?, u3]
  have f5 : w3.frozen? ⟨w2.heap.size, 5, none⟩ = false := by simp [World.frozen?, u3]
  have r5 : w3.cell? ⟨w.heap.size + 1, 5, none⟩ = some (.bool false) := by simp [World.cell?, u2]
  have s5 : w3.frozen? ⟨w.heap.size + 1, 5, none⟩ = false := by simp [World.frozen?, u2]
  have z6 : w3.cell? ⟨w2.heap.size, 6, none⟩ = some (.bool A.eol) := by simp [World.cell?, u3]
  have f6 : w3.frozen? ⟨w2.heap.size, 6, none⟩ = false := by simp [World.frozen?, u3]
  have r6 : w3.cell? ⟨w.heap.size + 1, 6, none⟩ = some (.bool false) := by simp [World.cell?, u2]
  have s6 : w3.frozen? ⟨w.heap.size + 1, 6, none⟩ = false := by simp [World.frozen?, u2]
  have HU := hideM (And.intro u2 (And.intro u3 (And.intro hB3 hM)))
  clear u2 u3 hB3 hM hb3 hsz3
  go_upto_region 16 with fail
  obtain ⟨U, hU⟩ : ∃ U, U = ((((((w3.setCell ⟨w2.heap.size, 0, none⟩ (.int .i64 M.pos)).setCell ⟨w2.heap.size, 1, none⟩ (.int .i64 M.groups)).setCell ⟨w2.heap.size, 2, none⟩ (.int .i64 M.least)).setCell ⟨w2.heap.size, 3, none⟩ (.int .i64 M.most)).setCell ⟨w2.heap.size, 4, none⟩ (.bool M.back)).setCell ⟨w2.heap.size, 5, none⟩ (.bool M.bol)).setCell ⟨w2.heap.size, 6, none⟩ (.bool M.eol) := ⟨_, rfl⟩
  have uU : U.heap[w.heap.size + 1]? = some (.cells Ms.zero.arr 25 (0, 0)) := by rw [hU]; exact (put7_far w3 M (by have := HD.out.2.2.2.2.1; have := HD.out.2.2.2.2.2.1; omega)).trans HU.out.1
  have bU : Below w.heap.size w U := by rw [hU]; exact put7_below HU.out.2.2.1 (by have := HD.out.2.2.2.2.1; have := HD.out.2.2.2.2.2.1; omega) M
  have uM : U.heap[w2.heap.size]? = some (.cells M.arr 25 (0, 0)) := by rw [hU]; exact put7_at M HU.out.2.1
  rw [← hU]
  clear hU z0 f0 r0 s0 z1 f1 r1 s1 z2 f2 r2 s2 z3 f3 r3 s3 z4 f4 r4 s4 z5 f5 r5 s5 z6 f6 r6 s6
  have z0 : U.cell? ⟨w2.heap.size, 0, none⟩ = some (.int .i64 M.pos) := by simp [World.cell?, uM]
  have r0 : U.cell? ⟨w.heap.size + 1, 0, none⟩ = some (.int .i64 0) := by simp [World.cell?, uU, Ms.zero]
  have s0 : U.frozen? ⟨w.heap.size + 1, 0, none⟩ = false := by simp [World.frozen?, uU]
  have z1 : U.cell? ⟨w2.heap.size, 1, none⟩ = some (.int .i64 M.groups) := by simp [World.cell?, uM]
  have r1 : U.cell? ⟨w.heap.size + 1, 1, none⟩ = some (.int .i64 0) := by simp [World.cell?, uU, Ms.zero]
  have s1 : U.frozen? ⟨w.heap.size + 1, 1, none⟩ = false := by simp [World.frozen?, uU]
  have z2 : U.cell? ⟨w2.heap.size, 2, none⟩ = some (.int .i64 M.least) := by simp [World.cell?, uM]
  have r2 : U.cell? ⟨w.heap.size + 1, 2, none⟩ = some (.int .i64 0) := by simp [World.cell?, uU, Ms.zero]
  have s2 : U.frozen? ⟨w.heap.size + 1, 2, none⟩ = false := by simp [World.frozen?, uU]
  have z3 : U.cell? ⟨w2.heap.size, 3, none⟩ = some (.int .i64 M.most) := by simp [World.cell?, uM]
  have r3 : U.cell? ⟨w.heap.size + 1, 3, none⟩ = some (.int .i64 0) := by simp [World.cell?, uU, Ms.zero]
  have s3 : U.frozen? ⟨w.heap.size + 1, 3, none⟩ = false := by simp [World.frozen?, uU]
  have z4 : U.cell? ⟨w2.heap.size, 4, none⟩ = some (.bool M.back) := by simp [World.cell?, uM]
  have r4 : U.cell? ⟨w.heap.size + 1, 4, none⟩ = some (.bool false) := by simp [World.cell?, uU, Ms.zero]
  have s4 : U.frozen? ⟨w.heap.size + 1, 4, none⟩ = false := by simp [World.frozen?, uU]
  have z5 : U.cell? ⟨w2.heap.size, 5, none⟩ = some (.bool M.bol) := by simp [World.cell?, uM]
  have r5 : U.cell? ⟨w.heap.size + 1, 5, none⟩ = some (.bool false) := by simp [World.cell?, uU, Ms.zero]
  have s5 : U.frozen? ⟨w.heap.size + 1, 5, none⟩ = false := by simp [World.frozen?, uU]
  have z6 : U.cell? ⟨w2.heap.size, 6, none⟩ = some (.bool M.eol) := by simp [World.cell?, uM]
  have r6 : U.cell? ⟨w.heap.size + 1, 6, none⟩ = some (.bool false) := by simp [World.cell?, uU, Ms.zero]
  have s6 : U.frozen? ⟨w.heap.size + 1, 6, none⟩ = false := by simp [World.frozen?, uU]
  have HV := hideM (And.intro uM (And.intro uU bU))
  clear uM uU bU
  go_wp2
  obtain ⟨Y, hY⟩ : ∃ Y, Y = ((((((U.setCell ⟨w.heap.size + 1, 0, none⟩ (.int .i64 M.pos)).setCell ⟨w.heap.size + 1, 1, none⟩ (.int .i64 M.groups)).setCell ⟨w.heap.size + 1, 2, none⟩ (.int .i64 M.least)).setCell ⟨w.heap.size + 1, 3, none⟩ (.int .i64 M.most)).setCell ⟨w.heap.size + 1, 4, none⟩ (.bool M.back)).setCell ⟨w.heap.size + 1, 5, none⟩ (.bool M.bol)).setCell ⟨w.heap.size + 1, 6, none⟩ (.bool M.eol) := ⟨_, rfl⟩
  have yb : Y.heap[w.heap.size + 1]? = some (.cells M.arr 25 (0, 0)) := by rw [hY]; exact put7_at M HV.out.2.1
  have yB : Below w.heap.size w Y := by rw [hY]; exact put7_below HV.out.2.2 (by omega) M
  rw [← hY]
  clear hY
  have o0 : Y.cell? ⟨w.heap.size + 1, 0, none⟩ = some (.int .i64 M.pos) := by simp [World.cell?, yb]
  have o1 : Y.cell? ⟨w.heap.size + 1, 1, none⟩ = some (.int .i64 M.groups) := by simp [World.cell?, yb]
  have o2 : Y.cell? ⟨w.heap.size + 1, 2, none⟩ = some (.int .i64 M.least) := by simp [World.cell?, yb]
  have o3 : Y.cell? ⟨w.heap.size + 1, 3, none⟩ = some (.int .i64 M.most) := by simp [World.cell?, yb]
  have o4 : Y.cell? ⟨w.heap.size + 1, 4, none⟩ = some (.bool M.back) := by simp [World.cell?, yb]
  have o5 : Y.cell? ⟨w.heap.size + 1, 5, none⟩ = some (.bool M.bol) := by simp [World.cell?, yb]
  have o6 : Y.cell? ⟨w.heap.size + 1, 6, none⟩ = some (.bool M.eol) := by simp [World.cell?, yb]
  refine bodyPost_ret (by simp [results, Try.results14, go_sem, o0, o1, o2, o3, o4, o5, o6]; try rfl) rfl ?_
  exact ⟨by rw [HE.out, ← HD.out.2.2.2.1, ← HU.out.2.2.2], yB⟩
 have e5 : ((kd : Int) == 5) = false := by rw [beq_eq_false_iff_ne]; omega
 have hE : msT (.mk kd q lo hi gp ks) = msF .zero ks := by simp [msT, c1, c2, c3, c4, c5, c6]
 have HE := hideM hE
 clear hE hlo
 have HD := hideM (And.intro v2 (And.intro v3 (And.intro hBV (And.intro hA (And.intro hsz hXs)))))
 clear v1 v2 v3 hBV hA hsz hXs hfm hb2
 go_wp2
 obtain ⟨Y, hY⟩ : ∃ Y, Y = (((((((V).setCell ⟨w.heap.size + 1, 0, none⟩ (.int .i64 A.pos)).setCell ⟨w.heap.size + 1, 1, none⟩ (.int .i64 A.groups)).setCell ⟨w.heap.size + 1, 2, none⟩ (.int .i64 A.least)).setCell ⟨w.heap.size + 1, 3, none⟩ (.int .i64 A.most)).setCell ⟨w.heap.size + 1, 4, none⟩ (.bool A.back)).setCell ⟨w.heap.size + 1, 5, none⟩ (.bool A.bol)).setCell ⟨w.heap.size + 1, 6, none⟩ (.bool A.eol) := ⟨_, rfl⟩
 have yb : Y.heap[w.heap.size + 1]? = some (.cells (⟨A.pos, A.groups, A.least, A.most, A.back, A.bol, A.eol⟩ : Ms).arr 25 (0, 0)) := by rw [hY]; exact put7_at (m0 := .zero) ⟨A.pos, A.groups, A.least, A.most, A.back, A.bol, A.eol⟩ (HD.out.1)
 have yB : Below w.heap.size w Y := by rw [hY]; exact put7_below (HD.out.2.2.1) (by omega) ⟨A.pos, A.groups, A.least, A.most, A.back, A.bol, A.eol⟩
 rw [← hY]
 clear hY
 have o0 : Y.cell? ⟨w.heap.size + 1, 0, none⟩ = some (.int .i64 A.pos) := by simp [World.cell?, yb]
 have o1 : Y.cell? ⟨w.heap.size + 1, 1, none⟩ = some (.int .i64 A.groups) := by simp [World.cell?, yb]
 have o2 : Y.cell? ⟨w.heap.size + 1, 2, none⟩ = some (.int .i64 A.least) := by simp [World.cell?, yb]
 have o3 : Y.cell? ⟨w.heap.size + 1, 3, none⟩ = some (.int .i64 A.most) := by simp [World.cell?, yb]
 have o4 : Y.cell? ⟨w.heap.size + 1, 4, none⟩ = some (.bool A.back) := by simp [World.cell?, yb]
 have o5 : Y.cell? ⟨w.heap.size + 1, 5, none⟩ = some (.bool A.bol) := by simp [World.cell?, yb]
 have o6 : Y.cell? ⟨w.heap.size + 1, 6, none⟩ = some (.bool A.eol) := by simp [World.cell?, yb]
 refine bodyPost_ret (by simp [results, Try.results14, go_sem, o0, o1, o2, o3, o4, o5, o6]; try rfl) rfl ?_
 exact ⟨by rw [HE.out, ← HD.out.2.2.2.1], yB⟩
theorem ofTree_any : ∀ (m : Nat) (t : Tr), SizeOf.sizeOf t < m → fitT t → ∀ (w : World) (ok : Nat → Prop) (a : Option Addr) (n c : Nat), Kids w ok (.slice a n c) t.kids →
  Calls Try.prog 14 #[nodeA t (.slice a n c)] w fun e w' => e = .returned (.agg (msT t).arr) ∧ Below w.heap.size w w'
 | 0, t, h, _, _, _, _, _, _, _ => absurd h (Nat.not_lt_zero _)
 | m + 1, t, h, hft, w, ok, a, n, c, hk => by
  have hn : n = t.kids.length := by
   obtain ⟨a', c', he⟩ := kids_shape hk
   injection he
  subst hn
  exact ofTree_walk t hft (fun x hx => ofTree_any m x (by have := kids_size hx; omega) (fitF_mem _ _ (fitT_at t hft).2.2.2 x hx)) w ok a c hk
end Go.Proofs.Ytiedliahmjiadaa
namespace Go.Proofs.Ytiedliahmjiadaa
open Go.RowKit
structure OkM (m : Ms) : Prop where
 least : 0 ≤ m.least
 pos : m.least ≤ m.pos
 most : -1 ≤ m.most
 top : m.most ≤ m.pos
 mid : 0 ≤ m.most → m.least ≤ m.most
theorem okM_zero : OkM .zero := ⟨by decide, by decide, by decide, by decide, by decide⟩
theorem okM_both {a m : Ms} (h : OkM a) (k : OkM m) : OkM (a.both m) := by
 obtain ⟨a1, a2, a3, a4, a5⟩ := h
 obtain ⟨m1, m2, m3, m4, m5⟩ := k
 have e : (a.both m).most = sumM a.most m.most := rfl
 refine ⟨?_, ?_, ?_, ?_, fun h0 => ?_⟩
 ·show 0 ≤ a.least + m.least; omega
 ·show a.least + m.least ≤ a.pos + m.pos; omega
 ·rw [e]; unfold sumM; split <;> omega
 ·rw [e]; show _ ≤ a.pos + m.pos; unfold sumM; split <;> omega
 ·rw [e] at h0 ⊢
  show a.least + m.least ≤ _
  unfold sumM at h0 ⊢
  split at h0
  ·omega
  ·rename_i h9
   rw [if_neg h9]
   have := a5 (by omega)
   have := m5 (by omega)
   omega
theorem okM_grp {m : Ms} (h : OkM m) : OkM m.grp := ⟨h.least, h.pos, h.most, h.top, h.mid⟩
theorem wrM_ge {lo hi : Int} (hl : 0 ≤ lo) (hh : hi = -1 ∨ lo ≤ hi) : lo ≤ wrM lo hi ∧ 0 ≤ wrM lo hi := by
 unfold wrM
 split <;> omega
theorem okM_rep {m : Ms} (h : OkM m) {lo hi : Int} (hl : 0 ≤ lo) (hh : hi = -1 ∨ lo ≤ hi) : OkM (m.rep lo hi) := by
 obtain ⟨m1, m2, m3, m4, m5⟩ := h
 obtain ⟨w1, w2⟩ := wrM_ge hl hh
 have e : (m.rep lo hi).most = prodM hi m.most := rfl
 have hp : 0 ≤ m.pos * wrM lo hi := Int.mul_nonneg (by omega) w2
 refine ⟨Int.mul_nonneg m1 hl, Int.mul_le_mul m2 w1 hl (by omega), ?_, ?_, fun h0 => ?_⟩
 ·rw [e]
  unfold prodM
  split
  ·omega
  ·split
   ·omega
   ·have : 0 ≤ hi * m.most := Int.mul_nonneg (by omega) (by omega)
    omega
 ·rw [e]
  show prodM hi m.most ≤ m.pos * wrM lo hi
  unfold prodM
  split
  ·exact hp
  ·split
   ·omega
   ·rename_i h1 h2
    have e2 : wrM lo hi = hi := by unfold wrM; rw [if_neg (by omega)]
    rw [e2, Int.mul_comm hi]
    exact Int.mul_le_mul_of_nonneg_right m4 (by omega)
 ·rw [e] at h0 ⊢
  show m.least * lo ≤ prodM hi m.most
  unfold prodM at h0 ⊢
  split
  ·rename_i h1
   rcases h1 with h1 | h1
   ·have : lo = 0 := by omega
    rw [this, Int.mul_zero]; exact Int.le_refl _
   ·have := m5 (by omega)
    have : m.least = 0 := by omega
    rw [this, Int.zero_mul]; exact Int.le_refl _
  ·rename_i h1
   rw [if_neg h1] at h0
   split at h0
   ·omega
   ·rename_i h2
    rw [if_neg h2, Int.mul_comm hi]
    have := m5 (by omega)
    exact Int.mul_le_mul this (by omega) hl (by omega)
theorem rep_pos {lo hi : Int} (hl : 0 ≤ lo) (hh : hi = -1 ∨ lo ≤ hi) (p : Int) : p * wrM lo hi = if 0 ≤ hi then p * hi else if 0 < lo then p * lo else p := by
 unfold wrM
 rcases hh with rfl | hh
 ·rw [if_pos rfl, if_neg (by omega)]
  by_cases h : 0 < lo
  ·rw [if_pos h, show max lo 1 = lo by omega]
  ·rw [if_neg h, show max lo 1 = 1 by omega, Int.mul_one]
 ·rw [if_neg (by omega), if_pos (by omega)]
mutual
theorem ms_ok : ∀ (t : Tr) (s s' : Sh), ShT t s s' → OkM (msT t) ∧ (msT t).pos = posT t ∧ (msT t).groups = (s'.1 : Int) - (s.1 : Int) ∧ s.1 ≤ s'.1 ∧ (s.1 ≤ 9 → s'.1 ≤ 9)
 | .mk k q lo hi g kids, s, s', h => by
  rcases h with ⟨rfl, _, _, _, _, h⟩ | ⟨hk, rfl, rfl, _, rfl, rfl⟩ | ⟨rfl, _, rfl, rfl, rfl, _, _, _, rfl⟩ | ⟨rfl, _, _, _, hg, hg9, _, s1, h, rfl⟩ | ⟨rfl, _, _, hlo, hhi, _, h⟩
  ·obtain ⟨h1, h2, h3, h4, h5⟩ := msF_ok kids .zero s s' okM_zero h
   have e : msT (.mk 0 q lo hi g kids) = msF .zero kids := by simp [msT]
   have e2 : posT (.mk 0 q lo hi g kids) = posL kids := by simp [posT]
   rw [e, e2]
   refine ⟨h1, ?_, ?_, h4, h5⟩
   ·rw [h2]; show 0 + posL kids = _; omega
   ·rw [h3]; show 0 + _ = _; omega
  ·rcases hk with rfl | ⟨rfl | rfl, _⟩
   ·refine ⟨?_, by simp [msT, posT], by simp [msT], Nat.le_refl _, id⟩
    simp only [msT]; exact ⟨by decide, by decide, by decide, by decide, by decide⟩
   ·refine ⟨?_, by simp [msT, posT, posL], by simp [msT], Nat.le_refl _, id⟩
    simp only [msT]; exact ⟨by decide, by decide, by decide, by decide, by decide⟩
   ·refine ⟨?_, by simp [msT, posT, posL], by simp [msT], Nat.le_refl _, id⟩
    simp only [msT]; exact ⟨by decide, by decide, by decide, by decide, by decide⟩
  ·refine ⟨?_, by simp [msT, posT], by simp [msT], Nat.le_refl _, id⟩
   simp only [msT]; exact ⟨by decide, by decide, by decide, by decide, by decide⟩
  ·obtain ⟨h1, h2, h3, h4, h5⟩ := msF_ok kids .zero _ s1 okM_zero h
   have e : msT (.mk 4 q lo hi g kids) = (msF .zero kids).grp := by simp [msT]
   have e2 : posT (.mk 4 q lo hi g kids) = posL kids := by simp [posT]
   rw [e, e2]
   have h4' : s.1 + 1 ≤ s1.1 := h4
   have h3' : (msF .zero kids).groups = 0 + ((s1.1 : Int) - ((s.1 + 1 : Nat) : Int)) := h3
   refine ⟨okM_grp h1, ?_, ?_, ?_, ?_⟩
   ·show (msF .zero kids).pos = _; rw [h2]; show 0 + posL kids = _; omega
   ·show (msF .zero kids).groups + 1 = (s1.1 : Int) - (s.1 : Int); rw [h3']; omega
   ·show s.1 ≤ s1.1; omega
   ·intro _; show s1.1 ≤ 9; exact h5 (by show s.1 + 1 ≤ 9; omega)
  ·obtain ⟨h1, h2, h3, h4, h5⟩ := msF_ok kids .zero s s' okM_zero h
   have e : msT (.mk 5 q lo hi g kids) = (msF .zero kids).rep lo hi := by simp [msT]
   have hh : hi = -1 ∨ lo ≤ hi := hhi.imp id And.left
   have e2 : posT (.mk 5 q lo hi g kids) = posL kids * wrM lo hi := by rw [rep_pos hlo.1 hh]; simp [posT]
   rw [e, e2]
   refine ⟨okM_rep h1 hlo.1 hh, ?_, ?_, h4, h5⟩
   ·show (msF .zero kids).pos * wrM lo hi = _
    rw [h2]; show (0 + posL kids) * _ = _; rw [Int.zero_add]
   ·show (msF .zero kids).groups = _; rw [h3]; show 0 + _ = _; omega
theorem msF_ok : ∀ (ts : List Tr) (m : Ms) (s s' : Sh), OkM m → ShL ts s s' → OkM (msF m ts) ∧ (msF m ts).pos = m.pos + posL ts ∧ (msF m ts).groups = m.groups + ((s'.1 : Int) - (s.1 : Int)) ∧ s.1 ≤ s'.1 ∧ (s.1 ≤ 9 → s'.1 ≤ 9)
 | [], m, s, s', hm, h => by
  have h' : s' = s := h
  subst h'
  simp only [msF, posL]
  exact ⟨hm, by omega, by omega, Nat.le_refl _, id⟩
 | t :: ts, m, s, s', hm, h => by
  obtain ⟨s1, h1, h2⟩ := h
  obtain ⟨a1, a2, a3, a4, a5⟩ := ms_ok t s s1 h1
  obtain ⟨b1, b2, b3, b4, b5⟩ := msF_ok ts (m.both (msT t)) s1 s' (okM_both hm a1) h2
  simp only [msF, posL]
  refine ⟨b1, ?_, ?_, by omega, fun h => b5 (a5 h)⟩
  ·rw [b2]; show m.pos + (msT t).pos + posL ts = _; omega
  ·rw [b3]; show m.groups + (msT t).groups + _ = _; omega
end
theorem fit_of {m : Ms} (h : OkM m) (hp : m.pos ≤ 256) (hg : 0 ≤ m.groups ∧ m.groups ≤ 9) : FitM m := by
 obtain ⟨h1, h2, h3, h4, h5⟩ := h
 exact ⟨⟨by omega, by omega⟩, ⟨by omega, by omega⟩, ⟨by omega, by omega⟩, ⟨by omega, by omega⟩⟩
mutual
theorem fit_ok : ∀ (t : Tr) (s s' : Sh), ShT t s s' → smallT t → s.1 ≤ 9 → fitT t
 | .mk k q lo hi g kids, s, s', h, hs, h9 => by
  obtain ⟨a1, a2, a3, a4, a5⟩ := ms_ok _ _ _ h
  obtain ⟨p1, p2, ⟨p3, p4⟩, p5⟩ := hs
  have a6 := a5 h9
  refine ⟨fit_of a1 (by omega) (by omega), ?_, p4, ?_⟩
  ·rcases h with ⟨rfl, _⟩ | ⟨hk, _⟩ | ⟨rfl, _⟩ | ⟨rfl, _⟩ | ⟨rfl, _, _, hlo, _⟩
   ·intro e; omega
   ·intro e; omega
   ·intro e; omega
   ·intro e; omega
   ·intro _; exact hlo
  ·rcases h with ⟨rfl, _, _, _, _, h⟩ | ⟨hk, rfl, rfl, _, rfl, rfl⟩ | ⟨rfl, _, rfl, rfl, rfl, _, _, _, rfl⟩ | ⟨rfl, _, _, _, hg, hg9, _, s1, h, rfl⟩ | ⟨rfl, _, _, hlo, hhi, _, h⟩
   ·exact fitF_ok kids .zero s s' okM_zero ⟨Int.le_refl _, by show (0 : Int) ≤ _; omega⟩ (by show 0 + posL kids ≤ 256; omega) h p5 h9
   ·exact fit_of okM_zero (by decide) (by decide)
   ·exact fit_of okM_zero (by decide) (by decide)
   ·exact fitF_ok kids .zero _ s1 okM_zero ⟨Int.le_refl _, by show (0 : Int) ≤ _; omega⟩ (by show 0 + posL kids ≤ 256; omega) h p5 (by show s.1 + 1 ≤ 9; omega)
   ·exact fitF_ok kids .zero s s' okM_zero ⟨Int.le_refl _, by show (0 : Int) ≤ _; omega⟩ (by show 0 + posL kids ≤ 256; omega) h p5 h9
theorem fitF_ok : ∀ (ts : List Tr) (m : Ms) (s s' : Sh), OkM m → (0 ≤ m.groups ∧ m.groups ≤ (s.1 : Int)) → m.pos + posL ts ≤ 256 → ShL ts s s' → smallL ts → s.1 ≤ 9 → fitF m ts
 | [], m, s, s', hm, hg, hp, h, hs, h9 => by
  have e : posL [] = 0 := by simp [posL]
  exact fit_of hm (by omega) ⟨hg.1, by omega⟩
 | t :: ts, m, s, s', hm, hg, hp, h, hs, h9 => by
  obtain ⟨s1, h1, h2⟩ := h
  obtain ⟨a1, a2, a3, a4, a5⟩ := ms_ok t s s1 h1
  have e : posL (t :: ts) = posT t + posL ts := by simp [posL]
  have q1 := (smallT_pos t hs.1).1
  have q2 := posL_nonneg ts hs.2
  refine ⟨fit_of hm (by omega) ⟨hg.1, by omega⟩, fit_ok t s s1 h1 hs.1 h9, fitF_ok ts _ s1 s' (okM_both hm a1) ?_ ?_ h2 hs.2 (a5 h9)⟩
  ·show 0 ≤ m.groups + (msT t).groups ∧ m.groups + (msT t).groups ≤ (s1.1 : Int)
   omega
  ·show m.pos + (msT t).pos + posL ts ≤ 256
   omega
end
theorem parse_fit (s : ByteArray) (ts : List Tr) (h : parseT s = .ok ts) : fitT (catT ts) := by
 obtain ⟨s', hs⟩ := parse_shapes s ts h
 exact fit_ok _ _ _ hs (parse_small s ts h) (Nat.zero_le _)
end Go.Proofs.Ytiedliahmjiadaa
namespace Go.Proofs.Ytiedliahmjiadaa
open Go.RowKit
noncomputable def ofM (s : ByteArray) : Ms × Int × Nat :=
 match parseT s with
 | .ok ts => (msF .zero ts, 0, 0)
 | .error (e, p) => (.zero, e, p)
theorem put9_all {W w : World} {b : Nat} (M : Ms) (e p : Int) (h1 : W.heap[b]? = some (.cells Ms.zero.arr 25 (0, 0))) (h2 : W.heap[b + 1]? = some (.cells #[.int .i64 0, .int .i64 0] 28 (0, 0))) (hB : Below b w W) :
  (((put7 W b M).setCell ⟨b + 1, 0, none⟩ (.int .i64 e)).setCell ⟨b + 1, 1, none⟩ (.int .i64 p)).heap[b]? = some (.cells M.arr 25 (0, 0)) ∧
  (((put7 W b M).setCell ⟨b + 1, 0, none⟩ (.int .i64 e)).setCell ⟨b + 1, 1, none⟩ (.int .i64 p)).heap[b + 1]? = some (.cells #[.int .i64 e, .int .i64 p] 28 (0, 0)) ∧
  Below b w (((put7 W b M).setCell ⟨b + 1, 0, none⟩ (.int .i64 e)).setCell ⟨b + 1, 1, none⟩ (.int .i64 p)) := by
 refine ⟨?_, ?_, ?_⟩
 ·rw [put_far _ _ _ _ (by omega), put_far _ _ _ _ (by omega)]
  exact put7_at M h1
 ·have h3 := (put7_far W M (show b + 1 ≠ b by omega)).trans h2
  have h4 := put_same _ (b + 1) 0 (.int .i64 e) h3
  exact (put_same _ (b + 1) 1 (.int .i64 p) h4).trans (by simp)
 ·exact ((put7_below hB (Nat.le_refl _) M).setCell (p := ⟨b + 1, 0, none⟩) (by show b ≤ b + 1; omega) _).setCell (p := ⟨b + 1, 1, none⟩) (by show b ≤ b + 1; omega) _
theorem mOf_any (s : ByteArray) (w : World) (hg : Glob w) :
  Calls Try.prog 6 #[.string s] w fun e w' => e = .returned (.tuple #[.agg (ofM s).1.arr, .agg #[.int .i64 (ofM s).2.1, .int .i64 ((ofM s).2.2 : Nat)]]) ∧ Below w.heap.size w w' := by
 cases hp : parseT s with
 | ok ts =>
  have hft := parse_fit s ts hp
  have hs : s.size ≤ 1073741824 := by
   have h9 := hp
   unfold parseT at h9
   split at h9
   ·cases h9
   ·omega
  have hM : ofM s = (msF .zero ts, 0, 0) := by unfold ofM; rw [hp]
  rw [hM]
  have HF := hideM hft
  clear hft hM
  go_enter Try.func6, Try.ntmps6
  go_wp2_with fail
  obtain ⟨X, hX⟩ : ∃ X, X = (w.alloc (.cells #[.int .i64 0, .int .i64 0, .int .i64 0, .int .i64 0, .bool false, .bool false, .bool false] 25)).alloc (.cells #[.int .i64 0, .int .i64 0] 28) := ⟨_, rfl⟩
  have hXs : X.heap.size = w.heap.size + 1 + 1 := by rw [hX, World.size_alloc, World.size_alloc]
  have xb1 : X.heap[w.heap.size]? = some (.cells Ms.zero.arr 25 (0, 0)) := by
   rw [hX, Below.heap_alloc _ _ _ (by rw [World.size_alloc]; omega)]
   exact heap_alloc_new w _
  have xb2 : X.heap[w.heap.size + 1]? = some (.cells #[.int .i64 0, .int .i64 0] 28 (0, 0)) := by
   rw [hX, ← World.size_alloc w (.cells #[.int .i64 0, .int .i64 0, .int .i64 0, .int .i64 0, .bool false, .bool false, .bool false] 25)]
   exact heap_alloc_new _ _
  have hBX : Below w.heap.size w X := by
   rw [hX]
   exact ((Below.refl _ _).alloc (Nat.le_refl _) _).alloc (by rw [World.size_alloc]; omega) _
  rw [← hX]
  clear hX
  refine (parse_ok s hs ts hp X (hg.below hBX (Nat.le_refl _))).mono ?_
  rintro e w1 ⟨hB1, a, n, c, rfl, hk⟩
  have hsz := hB1.size
  obtain ⟨V, hV⟩ : ∃ V, V = (w1.alloc (.cells #[.int .i64 0, .int .u64 0, .int .u64 0, .int .u64 0, .int .u64 0, .int .i64 0, .int .i64 0, .int .i64 0, .slice a n c] 48)).alloc (.cells #[.int .i64 0, .int .i64 0] 28) := ⟨_, rfl⟩
  have hBV1 : Below w1.heap.size w1 V := by rw [hV]; exact ((Below.refl _ _).alloc (Nat.le_refl _) _).alloc (by rw [World.size_alloc]; omega) _
  have hVs : V.heap.size = w1.heap.size + 1 + 1 := by rw [hV, World.size_alloc, World.size_alloc]
  have v1 : V.heap[w.heap.size]? = some (.cells Ms.zero.arr 25 (0, 0)) := by rw [hBV1.block _ (by omega), hB1.block _ (by omega)]; exact xb1
  have v2 : V.heap[w.heap.size + 1]? = some (.cells #[.int .i64 0, .int .i64 0] 28 (0, 0)) := by rw [hBV1.block _ (by omega), hB1.block _ (by omega)]; exact xb2
  have v3 : V.heap[w1.heap.size]? = some (.cells #[.int .i64 0, .int .u64 0, .int .u64 0, .int .u64 0, .int .u64 0, .int .i64 0, .int .i64 0, .int .i64 0, .slice a n c] 48 (0, 0)) := by
   rw [hV, Below.heap_alloc _ _ _ (by rw [World.size_alloc]; omega)]
   exact heap_alloc_new w1 _
  have v4 : V.heap[w1.heap.size + 1]? = some (.cells #[.int .i64 0, .int .i64 0] 28 (0, 0)) := by
   rw [hV, ← World.size_alloc w1 (.cells #[.int .i64 0, .int .u64 0, .int .u64 0, .int .u64 0, .int .u64 0, .int .i64 0, .int .i64 0, .int .i64 0, .slice a n c] 48)]
   exact heap_alloc_new _ _
  have hBV : Below w.heap.size w V := (hBX.trans (hB1.mono (by omega))).trans (hBV1.mono (by omega))
  have hic := fun (W : World) (hW : Below V.heap.size V W) => ofTree_any _ (catT ts) (Nat.lt_succ_self _) HF.out W _ a n c (kids_below (kids_below (show Kids w1 _ (.slice a n c) (catT ts).kids from hk) hBV1) hW)
  have y0 : V.cell? ⟨w1.heap.size + 1, 0, none⟩ = some (.int .i64 0) := by simp [World.cell?, v4]
  have t0 : V.cell? ⟨w1.heap.size, 0, none⟩ = some (.int .i64 0) := by simp [World.cell?, v3]
  have t1 : V.cell? ⟨w1.heap.size, 1, none⟩ = some (.int .u64 0) := by simp [World.cell?, v3]
  have t2 : V.cell? ⟨w1.heap.size, 2, none⟩ = some (.int .u64 0) := by simp [World.cell?, v3]
  have t3 : V.cell? ⟨w1.heap.size, 3, none⟩ = some (.int .u64 0) := by simp [World.cell?, v3]
  have t4 : V.cell? ⟨w1.heap.size, 4, none⟩ = some (.int .u64 0) := by simp [World.cell?, v3]
  have t5 : V.cell? ⟨w1.heap.size, 5, none⟩ = some (.int .i64 0) := by simp [World.cell?, v3]
  have t6 : V.cell? ⟨w1.heap.size, 6, none⟩ = some (.int .i64 0) := by simp [World.cell?, v3]
  have t7 : V.cell? ⟨w1.heap.size, 7, none⟩ = some (.int .i64 0) := by simp [World.cell?, v3]
  have t8 : V.cell? ⟨w1.heap.size, 8, none⟩ = some (.slice a n c) := by simp [World.cell?, v3]
  have HD := hideM (And.intro v1 (And.intro v2 (And.intro hBV (And.intro hic (And.intro hsz (And.intro hXs hVs))))))
  clear v1 v2 v3 v4 hBV hic hsz hXs hVs hBV1 hB1 hk xb1 xb2 hBX HF
  go_upto_region 2 with fail
  rw [← hV]
  clear hV
  go_wp2_with fail
  refine (HD.out.2.2.2.1 V (Below.refl _ _)).mono ?_
  rintro e w3 ⟨rfl, hb3⟩
  obtain ⟨M, hM⟩ : ∃ M, M = msF .zero ts := ⟨_, rfl⟩
  have hM2 : msT (catT ts) = M := by rw [hM]; simp [catT, msT]
  rw [hM2]
  have hsz := HD.out.2.2.2.2.1
  have hXs := HD.out.2.2.2.2.2.1
  have hVs := HD.out.2.2.2.2.2.2
  have u1 := (hb3.block w.heap.size (by omega)).trans HD.out.1
  have u2 := (hb3.block (w.heap.size + 1) (by omega)).trans HD.out.2.1
  have uB := HD.out.2.2.1.trans (hb3.mono (by omega))
  have r0 : w3.cell? ⟨w.heap.size, 0, none⟩ = some (.int .i64 0) := by simp [World.cell?, u1, Ms.zero]
  have rf0 : w3.frozen? ⟨w.heap.size, 0, none⟩ = false := by simp [World.frozen?, u1]
  have r1 : w3.cell? ⟨w.heap.size, 1, none⟩ = some (.int .i64 0) := by simp [World.cell?, u1, Ms.zero]
  have rf1 : w3.frozen? ⟨w.heap.size, 1, none⟩ = false := by simp [World.frozen?, u1]
  have r2 : w3.cell? ⟨w.heap.size, 2, none⟩ = some (.int .i64 0) := by simp [World.cell?, u1, Ms.zero]
  have rf2 : w3.frozen? ⟨w.heap.size, 2, none⟩ = false := by simp [World.frozen?, u1]
  have r3 : w3.cell? ⟨w.heap.size, 3, none⟩ = some (.int .i64 0) := by simp [World.cell?, u1, Ms.zero]
  have rf3 : w3.frozen? ⟨w.heap.size, 3, none⟩ = false := by simp [World.frozen?, u1]
  have r4 : w3.cell? ⟨w.heap.size, 4, none⟩ = some (.bool false) := by simp [World.cell?, u1, Ms.zero]
  have rf4 : w3.frozen? ⟨w.heap.size, 4, none⟩ = false := by simp [World.frozen?, u1]
  have r5 : w3.cell? ⟨w.heap.size, 5, none⟩ = some (.bool false) := by simp [World.cell?, u1, Ms.zero]
  have rf5 : w3.frozen? ⟨w.heap.size, 5, none⟩ = false := by simp [World.frozen?, u1]
  have r6 : w3.cell? ⟨w.heap.size, 6, none⟩ = some (.bool false) := by simp [World.cell?, u1, Ms.zero]
  have rf6 : w3.frozen? ⟨w.heap.size, 6, none⟩ = false := by simp [World.frozen?, u1]
  have q0 : w3.cell? ⟨w.heap.size + 1, 0, none⟩ = some (.int .i64 0) := by simp [World.cell?, u2]
  have qf0 : w3.frozen? ⟨w.heap.size + 1, 0, none⟩ = false := by simp [World.frozen?, u2]
  have q1 : w3.cell? ⟨w.heap.size + 1, 1, none⟩ = some (.int .i64 0) := by simp [World.cell?, u2]
  have qf1 : w3.frozen? ⟨w.heap.size + 1, 1, none⟩ = false := by simp [World.frozen?, u2]
  have HU := hideM (And.intro u1 (And.intro u2 (And.intro uB hM)))
  clear u1 u2 uB hM hM2 hsz hXs hVs hb3 y0 t0 t1 t2 t3 t4 t5 t6 t7 t8
  go_wp2
  obtain ⟨Y, hY⟩ : ∃ Y, Y = ((((((((w3.setCell ⟨w.heap.size, 0, none⟩ (.int .i64 M.pos)).setCell ⟨w.heap.size, 1, none⟩ (.int .i64 M.groups)).setCell ⟨w.heap.size, 2, none⟩ (.int .i64 M.least)).setCell ⟨w.heap.size, 3, none⟩ (.int .i64 M.most)).setCell ⟨w.heap.size, 4, none⟩ (.bool M.back)).setCell ⟨w.heap.size, 5, none⟩ (.bool M.bol)).setCell ⟨w.heap.size, 6, none⟩ (.bool M.eol)).setCell ⟨w.heap.size + 1, 0, none⟩ (.int .i64 0)).setCell ⟨w.heap.size + 1, 1, none⟩ (.int .i64 0) := ⟨_, rfl⟩
  have hY2 : Y.heap[w.heap.size]? = some (.cells M.arr 25 (0, 0)) ∧ Y.heap[w.heap.size + 1]? = some (.cells #[.int .i64 0, .int .i64 0] 28 (0, 0)) ∧ Below w.heap.size w Y := by rw [hY]; exact put9_all M 0 0 HU.out.1 HU.out.2.1 HU.out.2.2.1
  obtain ⟨yb, yc, yB⟩ := hY2
  rw [← hY]
  clear hY
  have o0 : Y.cell? ⟨w.heap.size, 0, none⟩ = some (.int .i64 M.pos) := by simp [World.cell?, yb]
  have o1 : Y.cell? ⟨w.heap.size, 1, none⟩ = some (.int .i64 M.groups) := by simp [World.cell?, yb]
  have o2 : Y.cell? ⟨w.heap.size, 2, none⟩ = some (.int .i64 M.least) := by simp [World.cell?, yb]
  have o3 : Y.cell? ⟨w.heap.size, 3, none⟩ = some (.int .i64 M.most) := by simp [World.cell?, yb]
  have o4 : Y.cell? ⟨w.heap.size, 4, none⟩ = some (.bool M.back) := by simp [World.cell?, yb]
  have o5 : Y.cell? ⟨w.heap.size, 5, none⟩ = some (.bool M.bol) := by simp [World.cell?, yb]
  have o6 : Y.cell? ⟨w.heap.size, 6, none⟩ = some (.bool M.eol) := by simp [World.cell?, yb]
  have o7 : Y.cell? ⟨w.heap.size + 1, 0, none⟩ = some (.int .i64 0) := by simp [World.cell?, yc]
  have o8 : Y.cell? ⟨w.heap.size + 1, 1, none⟩ = some (.int .i64 0) := by simp [World.cell?, yc]
  refine bodyPost_ret (v := .tuple #[.agg M.arr, .agg #[.int .i64 0, .int .i64 0]]) (by simp [results, Try.results6, go_sem, o0, o1, o2, o3, o4, o5, o6, o7, o8]; try rfl) rfl ?_
  exact ⟨by rw [HU.out.2.2.2]; rfl, yB⟩
 | error x =>
  obtain ⟨e, p⟩ := x
  have hM : ofM s = (.zero, e, p) := by unfold ofM; rw [hp]
  rw [hM]
  clear hM
  go_enter Try.func6, Try.ntmps6
  go_wp2_with fail
  obtain ⟨X, hX⟩ : ∃ X, X = (w.alloc (.cells #[.int .i64 0, .int .i64 0, .int .i64 0, .int .i64 0, .bool false, .bool false, .bool false] 25)).alloc (.cells #[.int .i64 0, .int .i64 0] 28) := ⟨_, rfl⟩
  have hXs : X.heap.size = w.heap.size + 1 + 1 := by rw [hX, World.size_alloc, World.size_alloc]
  have xb1 : X.heap[w.heap.size]? = some (.cells Ms.zero.arr 25 (0, 0)) := by
   rw [hX, Below.heap_alloc _ _ _ (by rw [World.size_alloc]; omega)]
   exact heap_alloc_new w _
  have xb2 : X.heap[w.heap.size + 1]? = some (.cells #[.int .i64 0, .int .i64 0] 28 (0, 0)) := by
   rw [hX, ← World.size_alloc w (.cells #[.int .i64 0, .int .i64 0, .int .i64 0, .int .i64 0, .bool false, .bool false, .bool false] 25)]
   exact heap_alloc_new _ _
  have hBX : Below w.heap.size w X := by
   rw [hX]
   exact ((Below.refl _ _).alloc (Nat.le_refl _) _).alloc (by rw [World.size_alloc]; omega) _
  rw [← hX]
  clear hX
  refine (parse_fault s e p hp X (hg.below hBX (Nat.le_refl _))).mono ?_
  rintro e' w1 ⟨rfl, hB1⟩
  have hne : (e != 0) = true := by simpa using (parse_place s e p hp).1
  have hsz := hB1.size
  obtain ⟨V, hV⟩ : ∃ V, V = (w1.alloc (.cells #[.int .i64 0, .int .u64 0, .int .u64 0, .int .u64 0, .int .u64 0, .int .i64 0, .int .i64 0, .int .i64 0, .slice none 0 0] 48)).alloc (.cells #[.int .i64 e, .int .i64 (p : Nat)] 28) := ⟨_, rfl⟩
  have hBV1 : Below w1.heap.size w1 V := by rw [hV]; exact ((Below.refl _ _).alloc (Nat.le_refl _) _).alloc (by rw [World.size_alloc]; omega) _
  have hVs : V.heap.size = w1.heap.size + 1 + 1 := by rw [hV, World.size_alloc, World.size_alloc]
  have v1 : V.heap[w.heap.size]? = some (.cells Ms.zero.arr 25 (0, 0)) := by rw [hBV1.block _ (by omega), hB1.block _ (by omega)]; exact xb1
  have v2 : V.heap[w.heap.size + 1]? = some (.cells #[.int .i64 0, .int .i64 0] 28 (0, 0)) := by rw [hBV1.block _ (by omega), hB1.block _ (by omega)]; exact xb2
  have v4 : V.heap[w1.heap.size + 1]? = some (.cells #[.int .i64 e, .int .i64 (p : Nat)] 28 (0, 0)) := by
   rw [hV, ← World.size_alloc w1 (.cells #[.int .i64 0, .int .u64 0, .int .u64 0, .int .u64 0, .int .u64 0, .int .i64 0, .int .i64 0, .int .i64 0, .slice none 0 0] 48)]
   exact heap_alloc_new _ _
  have hBV : Below w.heap.size w V := (hBX.trans (hB1.mono (by omega))).trans (hBV1.mono (by omega))
  have y0 : V.cell? ⟨w1.heap.size + 1, 0, none⟩ = some (.int .i64 e) := by simp [World.cell?, v4]
  have y1 : V.cell? ⟨w1.heap.size + 1, 1, none⟩ = some (.int .i64 (p : Nat)) := by simp [World.cell?, v4]
  have r0 : V.cell? ⟨w.heap.size, 0, none⟩ = some (.int .i64 0) := by simp [World.cell?, v1, Ms.zero]
  have rf0 : V.frozen? ⟨w.heap.size, 0, none⟩ = false := by simp [World.frozen?, v1]
  have r1 : V.cell? ⟨w.heap.size, 1, none⟩ = some (.int .i64 0) := by simp [World.cell?, v1, Ms.zero]
  have rf1 : V.frozen? ⟨w.heap.size, 1, none⟩ = false := by simp [World.frozen?, v1]
  have r2 : V.cell? ⟨w.heap.size, 2, none⟩ = some (.int .i64 0) := by simp [World.cell?, v1, Ms.zero]
  have rf2 : V.frozen? ⟨w.heap.size, 2, none⟩ = false := by simp [World.frozen?, v1]
  have r3 : V.cell? ⟨w.heap.size, 3, none⟩ = some (.int .i64 0) := by simp [World.cell?, v1, Ms.zero]
  have rf3 : V.frozen? ⟨w.heap.size, 3, none⟩ = false := by simp [World.frozen?, v1]
  have r4 : V.cell? ⟨w.heap.size, 4, none⟩ = some (.bool false) := by simp [World.cell?, v1, Ms.zero]
  have rf4 : V.frozen? ⟨w.heap.size, 4, none⟩ = false := by simp [World.frozen?, v1]
  have r5 : V.cell? ⟨w.heap.size, 5, none⟩ = some (.bool false) := by simp [World.cell?, v1, Ms.zero]
  have rf5 : V.frozen? ⟨w.heap.size, 5, none⟩ = false := by simp [World.frozen?, v1]
  have r6 : V.cell? ⟨w.heap.size, 6, none⟩ = some (.bool false) := by simp [World.cell?, v1, Ms.zero]
  have rf6 : V.frozen? ⟨w.heap.size, 6, none⟩ = false := by simp [World.frozen?, v1]
  have q0 : V.cell? ⟨w.heap.size + 1, 0, none⟩ = some (.int .i64 0) := by simp [World.cell?, v2]
  have qf0 : V.frozen? ⟨w.heap.size + 1, 0, none⟩ = false := by simp [World.frozen?, v2]
  have q1 : V.cell? ⟨w.heap.size + 1, 1, none⟩ = some (.int .i64 0) := by simp [World.cell?, v2]
  have qf1 : V.frozen? ⟨w.heap.size + 1, 1, none⟩ = false := by simp [World.frozen?, v2]
  have n1 : (w.heap.size = w1.heap.size + 1) = False := eq_false (by omega)
  have n2 : (w.heap.size + 1 = w1.heap.size + 1) = False := eq_false (by omega)
  have n3 : (w1.heap.size + 1 = w.heap.size) = False := eq_false (by omega)
  have n4 : (w1.heap.size + 1 = w.heap.size + 1) = False := eq_false (by omega)
  have HD := hideM (And.intro v1 (And.intro v2 hBV))
  clear v1 v2 v4 hBV hsz hXs hVs hBV1 hB1 xb1 xb2 hBX
  go_upto_region 2 with fail
  rw [← hV]
  clear hV
  go_wp2_with fail
  go_region
  obtain ⟨Y, hY⟩ : ∃ Y, Y = ((((((((V.setCell ⟨w.heap.size, 0, none⟩ (.int .i64 0)).setCell ⟨w.heap.size, 1, none⟩ (.int .i64 0)).setCell ⟨w.heap.size, 2, none⟩ (.int .i64 0)).setCell ⟨w.heap.size, 3, none⟩ (.int .i64 0)).setCell ⟨w.heap.size, 4, none⟩ (.bool false)).setCell ⟨w.heap.size, 5, none⟩ (.bool false)).setCell ⟨w.heap.size, 6, none⟩ (.bool false)).setCell ⟨w.heap.size + 1, 0, none⟩ (.int .i64 e)).setCell ⟨w.heap.size + 1, 1, none⟩ (.int .i64 (p : Nat)) := ⟨_, rfl⟩
  have hY2 : Y.heap[w.heap.size]? = some (.cells Ms.zero.arr 25 (0, 0)) ∧ Y.heap[w.heap.size + 1]? = some (.cells #[.int .i64 e, .int .i64 (p : Nat)] 28 (0, 0)) ∧ Below w.heap.size w Y := by rw [hY]; exact put9_all Ms.zero e (p : Nat) HD.out.1 HD.out.2.1 HD.out.2.2
  obtain ⟨yb, yc, yB⟩ := hY2
  rw [← hY]
  clear hY
  go_wp2
  have o0 : Y.cell? ⟨w.heap.size, 0, none⟩ = some (.int .i64 0) := by simp [World.cell?, yb, Ms.zero]
  have o1 : Y.cell? ⟨w.heap.size, 1, none⟩ = some (.int .i64 0) := by simp [World.cell?, yb, Ms.zero]
  have o2 : Y.cell? ⟨w.heap.size, 2, none⟩ = some (.int .i64 0) := by simp [World.cell?, yb, Ms.zero]
  have o3 : Y.cell? ⟨w.heap.size, 3, none⟩ = some (.int .i64 0) := by simp [World.cell?, yb, Ms.zero]
  have o4 : Y.cell? ⟨w.heap.size, 4, none⟩ = some (.bool false) := by simp [World.cell?, yb, Ms.zero]
  have o5 : Y.cell? ⟨w.heap.size, 5, none⟩ = some (.bool false) := by simp [World.cell?, yb, Ms.zero]
  have o6 : Y.cell? ⟨w.heap.size, 6, none⟩ = some (.bool false) := by simp [World.cell?, yb, Ms.zero]
  have o7 : Y.cell? ⟨w.heap.size + 1, 0, none⟩ = some (.int .i64 e) := by simp [World.cell?, yc]
  have o8 : Y.cell? ⟨w.heap.size + 1, 1, none⟩ = some (.int .i64 (p : Nat)) := by simp [World.cell?, yc]
  refine bodyPost_ret (v := .tuple #[.agg Ms.zero.arr, .agg #[.int .i64 e, .int .i64 (p : Nat)]]) (by simp [results, Try.results6, go_sem, o0, o1, o2, o3, o4, o5, o6, o7, o8, Ms.zero]; try rfl) rfl ?_
  exact ⟨rfl, yB.drew⟩
end Go.Proofs.Ytiedliahmjiadaa
