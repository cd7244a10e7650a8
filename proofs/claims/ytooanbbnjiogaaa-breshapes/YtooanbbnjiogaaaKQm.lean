/- bre: shaped: a row. -/
import Derived.Test.YtooanbbnjiogaaaKQl
import Derived.Deep.Cut
import Derived.Handy
namespace Go.Proofs.Ytooanbbnjiogaaa
open Go.RowKit

set_option maxRecDepth 100000 in
set_option maxHeartbeats 4000000 in
theorem shaped_cat (ks : List Tr) (hlen : ks.length ≤ 1000000) (s s1 : Sh) (hs : s.1 ≤ 100) (hsh : ShL ks s s1)
    (ih : ∀ x ∈ ks, ∀ (r r' : Sh), r.1 ≤ 100 → ShT x r r' → r'.1 ≤ 100 ∧ ∀ (w : World) (ok : Nat → Prop) (a : Option Addr) (n c : Nat), Kids w ok (.slice a n c) x.kids → Calls Try.prog 13 #[nodeA x (.slice a n c), .int .i64 (r.1 : Nat), .agg (boolsA r.2)] w fun e w' => e = shA r' ∧ Below w.heap.size w w')
    (w : World) (ok : Nat → Prop) (a : Option Addr) (c : Nat) (hk : Kids w ok (.slice a ks.length c) ks) :
    Calls Try.prog 13 #[.agg #[.int .i64 0, .int .u64 0, .int .u64 0, .int .u64 0, .int .u64 0, .int .i64 0, .int .i64 0, .int .i64 0, .slice a ks.length c], .int .i64 (s.1 : Nat), .agg (boolsA s.2)] w fun e w' => e = shA s1 ∧ Below w.heap.size w w' := by
  have heq := eql_zero
  obtain ⟨g0, cl⟩ := s
  have HA := hideT (And.intro hk (And.intro ih (And.intro hsh hs)))
  clear hk ih hsh hs
  go_enter Try.func13, Try.ntmps13
  go_upto_region 1 with fail
  obtain ⟨X, hX⟩ : ∃ X, X = ((w.alloc (.cells #[.int .i64 0, .int .u64 0, .int .u64 0, .int .u64 0, .int .u64 0, .int .i64 0, .int .i64 0, .int .i64 0, .slice a ks.length c] 27)).alloc (.cells (boolsA cl) 38)).alloc (.cells #[.bool false, .bool false, .bool false, .bool false, .bool false, .bool false, .bool false, .bool false, .bool false, .bool false] 38) := ⟨_, rfl⟩
  have xb1 : X.heap[w.heap.size]? = some (.cells #[.int .i64 0, .int .u64 0, .int .u64 0, .int .u64 0, .int .u64 0, .int .i64 0, .int .i64 0, .int .i64 0, .slice a ks.length c] 27 (0, 0)) := by
    rw [hX, Below.heap_alloc _ _ _ (by simp only [World.size_alloc]; omega), Below.heap_alloc _ _ _ (by simp only [World.size_alloc]; omega)]
    exact heap_alloc_new w _
  have nw := fun (W : World) (ob : Obj) (H : Nat) (hH : W.heap.size = H) => (show (W.alloc ob).heap[H]? = some ob from hH ▸ heap_alloc_new W ob)
  have xb2 : X.heap[w.heap.size + 1]? = some (.cells (boolsA cl) 38 (0, 0)) := by
    rw [hX, Below.heap_alloc _ _ _ (by simp only [World.size_alloc]; omega)]
    exact nw _ _ _ (by simp only [World.size_alloc])
  have xb3 : X.heap[w.heap.size + 1 + 1]? = some (.cells #[.bool false, .bool false, .bool false, .bool false, .bool false, .bool false, .bool false, .bool false, .bool false, .bool false] 38 (0, 0)) := by
    rw [hX]
    exact nw _ _ _ (by simp only [World.size_alloc])
  have hBX : Below w.heap.size w X := by
    rw [hX]
    exact (((Below.refl _ _).alloc (Nat.le_refl _) _).alloc (by rw [World.size_alloc]; omega) _).alloc (by simp only [World.size_alloc]; omega) _
  rw [← hX]
  clear hX nw
  have z0 : X.cell? ⟨w.heap.size, 0, none⟩ = some (.int .i64 0) := by simp [World.cell?, xb1]
  have z1 : X.cell? ⟨w.heap.size, 1, none⟩ = some (.int .u64 0) := by simp [World.cell?, xb1]
  have z2 : X.cell? ⟨w.heap.size, 2, none⟩ = some (.int .u64 0) := by simp [World.cell?, xb1]
  have z3 : X.cell? ⟨w.heap.size, 3, none⟩ = some (.int .u64 0) := by simp [World.cell?, xb1]
  have z4 : X.cell? ⟨w.heap.size, 4, none⟩ = some (.int .u64 0) := by simp [World.cell?, xb1]
  have z5 : X.cell? ⟨w.heap.size, 5, none⟩ = some (.int .i64 0) := by simp [World.cell?, xb1]
  have z6 : X.cell? ⟨w.heap.size, 6, none⟩ = some (.int .i64 0) := by simp [World.cell?, xb1]
  have z7 : X.cell? ⟨w.heap.size, 7, none⟩ = some (.int .i64 0) := by simp [World.cell?, xb1]
  have z8 : X.cell? ⟨w.heap.size, 8, none⟩ = some (.slice a ks.length c) := by simp [World.cell?, xb1]
  have HX := hideT (And.intro xb1 (And.intro xb2 (And.intro xb3 hBX)))
  clear xb1 xb2 xb3 hBX
  go_wp2_with fail
  go_loopw [1, 9, 10] (fun gv okv iv wr => ∃ (k : Nat) (st : Sh), k ≤ ks.length ∧ gv = .int .i64 (st.1 : Nat) ∧ okv = .bool true ∧ iv = .int .i64 k ∧ ShL (ks.drop k) st s1 ∧ st.1 ≤ 100 ∧ wr.heap[w.heap.size]? = some (.cells #[.int .i64 0, .int .u64 0, .int .u64 0, .int .u64 0, .int .u64 0, .int .i64 0, .int .i64 0, .int .i64 0, .slice a ks.length c] 27 (0, 0)) ∧ wr.heap[w.heap.size + 1]? = some (.cells (boolsA st.2) 38 (0, 0)) ∧ wr.heap[w.heap.size + 1 + 1]? = some (.cells #[.bool false, .bool false, .bool false, .bool false, .bool false, .bool false, .bool false, .bool false, .bool false, .bool false] 38 (0, 0)) ∧ Below w.heap.size w wr) (fun _ _ iv _ => (ks.length - intOf iv).toNat)
  case atStart => exact ⟨0, (g0, cl), by omega, by go_num, rfl, rfl, HA.out.2.2.1, HA.out.2.2.2, HX.out.1, HX.out.2.1, HX.out.2.2.1, HX.out.2.2.2⟩
  case round =>
    clear HX z0 z1 z2 z3 z4 z5 z6 z7 z8
    obtain ⟨k, ⟨gn, cs⟩, hk1, rfl, rfl, rfl, hsl, hg100, gb1, gb2, gb3, gB⟩ := hrel
    have z0 : wr.cell? ⟨w.heap.size, 0, none⟩ = some (.int .i64 0) := by simp [World.cell?, gb1]
    have z7 : wr.cell? ⟨w.heap.size, 7, none⟩ = some (.int .i64 0) := by simp [World.cell?, gb1]
    have z8 : wr.cell? ⟨w.heap.size, 8, none⟩ = some (.slice a ks.length c) := by simp [World.cell?, gb1]
    have e0 : wr.cell? ⟨w.heap.size + 1, 0, none⟩ = some (.bool (cs 0)) := by simp [World.cell?, gb2]
    have f0 : wr.frozen? ⟨w.heap.size + 1, 0, none⟩ = false := by simp [World.frozen?, gb2]
    have e1 : wr.cell? ⟨w.heap.size + 1, 1, none⟩ = some (.bool (cs 1)) := by simp [World.cell?, gb2]
    have f1 : wr.frozen? ⟨w.heap.size + 1, 1, none⟩ = false := by simp [World.frozen?, gb2]
    have e2 : wr.cell? ⟨w.heap.size + 1, 2, none⟩ = some (.bool (cs 2)) := by simp [World.cell?, gb2]
    have f2 : wr.frozen? ⟨w.heap.size + 1, 2, none⟩ = false := by simp [World.frozen?, gb2]
    have e3 : wr.cell? ⟨w.heap.size + 1, 3, none⟩ = some (.bool (cs 3)) := by simp [World.cell?, gb2]
    have f3 : wr.frozen? ⟨w.heap.size + 1, 3, none⟩ = false := by simp [World.frozen?, gb2]
    have e4 : wr.cell? ⟨w.heap.size + 1, 4, none⟩ = some (.bool (cs 4)) := by simp [World.cell?, gb2]
    have f4 : wr.frozen? ⟨w.heap.size + 1, 4, none⟩ = false := by simp [World.frozen?, gb2]
    have e5 : wr.cell? ⟨w.heap.size + 1, 5, none⟩ = some (.bool (cs 5)) := by simp [World.cell?, gb2]
    have f5 : wr.frozen? ⟨w.heap.size + 1, 5, none⟩ = false := by simp [World.frozen?, gb2]
    have e6 : wr.cell? ⟨w.heap.size + 1, 6, none⟩ = some (.bool (cs 6)) := by simp [World.cell?, gb2]
    have f6 : wr.frozen? ⟨w.heap.size + 1, 6, none⟩ = false := by simp [World.frozen?, gb2]
    have e7 : wr.cell? ⟨w.heap.size + 1, 7, none⟩ = some (.bool (cs 7)) := by simp [World.cell?, gb2]
    have f7 : wr.frozen? ⟨w.heap.size + 1, 7, none⟩ = false := by simp [World.frozen?, gb2]
    have e8 : wr.cell? ⟨w.heap.size + 1, 8, none⟩ = some (.bool (cs 8)) := by simp [World.cell?, gb2]
    have f8 : wr.frozen? ⟨w.heap.size + 1, 8, none⟩ = false := by simp [World.frozen?, gb2]
    have e9 : wr.cell? ⟨w.heap.size + 1, 9, none⟩ = some (.bool (cs 9)) := by simp [World.cell?, gb2]
    have f9 : wr.frozen? ⟨w.heap.size + 1, 9, none⟩ = false := by simp [World.frozen?, gb2]
    have h0 : wr.cell? ⟨w.heap.size + 1 + 1, 0, none⟩ = some (.bool false) := by simp [World.cell?, gb3]
    have i0 : wr.frozen? ⟨w.heap.size + 1 + 1, 0, none⟩ = false := by simp [World.frozen?, gb3]
    have h1 : wr.cell? ⟨w.heap.size + 1 + 1, 1, none⟩ = some (.bool false) := by simp [World.cell?, gb3]
    have i1 : wr.frozen? ⟨w.heap.size + 1 + 1, 1, none⟩ = false := by simp [World.frozen?, gb3]
    have h2 : wr.cell? ⟨w.heap.size + 1 + 1, 2, none⟩ = some (.bool false) := by simp [World.cell?, gb3]
    have i2 : wr.frozen? ⟨w.heap.size + 1 + 1, 2, none⟩ = false := by simp [World.frozen?, gb3]
    have h3 : wr.cell? ⟨w.heap.size + 1 + 1, 3, none⟩ = some (.bool false) := by simp [World.cell?, gb3]
    have i3 : wr.frozen? ⟨w.heap.size + 1 + 1, 3, none⟩ = false := by simp [World.frozen?, gb3]
    have h4 : wr.cell? ⟨w.heap.size + 1 + 1, 4, none⟩ = some (.bool false) := by simp [World.cell?, gb3]
    have i4 : wr.frozen? ⟨w.heap.size + 1 + 1, 4, none⟩ = false := by simp [World.frozen?, gb3]
    have h5 : wr.cell? ⟨w.heap.size + 1 + 1, 5, none⟩ = some (.bool false) := by simp [World.cell?, gb3]
    have i5 : wr.frozen? ⟨w.heap.size + 1 + 1, 5, none⟩ = false := by simp [World.frozen?, gb3]
    have h6 : wr.cell? ⟨w.heap.size + 1 + 1, 6, none⟩ = some (.bool false) := by simp [World.cell?, gb3]
    have i6 : wr.frozen? ⟨w.heap.size + 1 + 1, 6, none⟩ = false := by simp [World.frozen?, gb3]
    have h7 : wr.cell? ⟨w.heap.size + 1 + 1, 7, none⟩ = some (.bool false) := by simp [World.cell?, gb3]
    have i7 : wr.frozen? ⟨w.heap.size + 1 + 1, 7, none⟩ = false := by simp [World.frozen?, gb3]
    have h8 : wr.cell? ⟨w.heap.size + 1 + 1, 8, none⟩ = some (.bool false) := by simp [World.cell?, gb3]
    have i8 : wr.frozen? ⟨w.heap.size + 1 + 1, 8, none⟩ = false := by simp [World.frozen?, gb3]
    have h9 : wr.cell? ⟨w.heap.size + 1 + 1, 9, none⟩ = some (.bool false) := by simp [World.cell?, gb3]
    have i9 : wr.frozen? ⟨w.heap.size + 1 + 1, 9, none⟩ = false := by simp [World.frozen?, gb3]
    by_cases hlt : k < ks.length
    · rw [List.drop_eq_getElem_cons hlt] at hsl
      obtain ⟨s2, hx, hrest⟩ := hsl
      obtain ⟨hs2, hcall⟩ := HA.out.2.1 ks[k] (List.getElem_mem hlt) (gn, cs) s2 hg100 hx
      have hkr := kids_below HA.out.1 gB
      obtain ⟨g, c', u, he, _, _, hcell, hku⟩ := kids_at hkr (i := k) (List.getElem?_eq_getElem hlt)
      obtain rfl : a = some ⟨g, 0, none⟩ := by injection he
      obtain ⟨ua, uc, rfl⟩ := kids_shape hku
      have hkd : Kids wr.drew ok (.slice ua (ks[k].kids).length uc) ks[k].kids := hku.keep (fun _ _ => rfl) (fun _ h => h)
      have hcl := hcall wr.drew ok ua _ uc hkd
      have y0 := (hcell 0 _ rfl).1
      have y1 := (hcell 1 _ rfl).1
      have y2 := (hcell 2 _ rfl).1
      have y3 := (hcell 3 _ rfl).1
      have y4 := (hcell 4 _ rfl).1
      have y5 := (hcell 5 _ rfl).1
      have y6 := (hcell 6 _ rfl).1
      have y7 := (hcell 7 _ rfl).1
      have y8 := (hcell 8 _ rfl).1
      rw [Nat.add_zero] at y0
      have k3 : (k : Int) < (ks.length : Int) := by omega
      have k4 : (0 : Int) ≤ (k : Int) := by omega
      have k5 : IntKind.i64.wrap ((k : Int) + 1) = (k : Int) + 1 := by rw [IntKind.wrap_i64]; omega
      have HC := hideT (And.intro hcl (And.intro hs2 (And.intro hrest (And.intro gb1 (And.intro gb2 (And.intro gb3 gB))))))
      clear hkr hcell hku he hcl hcall hx hkd hrest gb1 gb2 gb3 gB hs2
      go_wp2_with fail
      go_region_with (go_at_call 13; refine HC.out.1.mono ?_; rintro e w2 ⟨rfl, hb2⟩; have hq1 := (hb2.block _ (show w.heap.size < wr.drew.heap.size from (Array.getElem?_eq_some_iff.1 HC.out.2.2.2.1).1)).trans HC.out.2.2.2.1; have hq2 := (hb2.block _ (show w.heap.size + 1 < wr.drew.heap.size from (Array.getElem?_eq_some_iff.1 HC.out.2.2.2.2.1).1)).trans HC.out.2.2.2.2.1; have hq3 := (hb2.block _ (show w.heap.size + 1 + 1 < wr.drew.heap.size from (Array.getElem?_eq_some_iff.1 HC.out.2.2.2.2.2.1).1)).trans HC.out.2.2.2.2.2.1; have d0 : w2.cell? ⟨w.heap.size + 1, 0, none⟩ = some (.bool (cs 0)) := (by simp [World.cell?, hq2]); have d1 : w2.cell? ⟨w.heap.size + 1, 1, none⟩ = some (.bool (cs 1)) := (by simp [World.cell?, hq2]); have d2 : w2.cell? ⟨w.heap.size + 1, 2, none⟩ = some (.bool (cs 2)) := (by simp [World.cell?, hq2]); have d3 : w2.cell? ⟨w.heap.size + 1, 3, none⟩ = some (.bool (cs 3)) := (by simp [World.cell?, hq2]); have d4 : w2.cell? ⟨w.heap.size + 1, 4, none⟩ = some (.bool (cs 4)) := (by simp [World.cell?, hq2]); have d5 : w2.cell? ⟨w.heap.size + 1, 5, none⟩ = some (.bool (cs 5)) := (by simp [World.cell?, hq2]); have d6 : w2.cell? ⟨w.heap.size + 1, 6, none⟩ = some (.bool (cs 6)) := (by simp [World.cell?, hq2]); have d7 : w2.cell? ⟨w.heap.size + 1, 7, none⟩ = some (.bool (cs 7)) := (by simp [World.cell?, hq2]); have d8 : w2.cell? ⟨w.heap.size + 1, 8, none⟩ = some (.bool (cs 8)) := (by simp [World.cell?, hq2]); have d9 : w2.cell? ⟨w.heap.size + 1, 9, none⟩ = some (.bool (cs 9)) := (by simp [World.cell?, hq2]); have p0 : w2.frozen? ⟨w.heap.size + 1, 0, none⟩ = false := (by simp [World.frozen?, hq2]); have p1 : w2.frozen? ⟨w.heap.size + 1, 1, none⟩ = false := (by simp [World.frozen?, hq2]); have p2 : w2.frozen? ⟨w.heap.size + 1, 2, none⟩ = false := (by simp [World.frozen?, hq2]); have p3 : w2.frozen? ⟨w.heap.size + 1, 3, none⟩ = false := (by simp [World.frozen?, hq2]); have p4 : w2.frozen? ⟨w.heap.size + 1, 4, none⟩ = false := (by simp [World.frozen?, hq2]); have p5 : w2.frozen? ⟨w.heap.size + 1, 5, none⟩ = false := (by simp [World.frozen?, hq2]); have p6 : w2.frozen? ⟨w.heap.size + 1, 6, none⟩ = false := (by simp [World.frozen?, hq2]); have p7 : w2.frozen? ⟨w.heap.size + 1, 7, none⟩ = false := (by simp [World.frozen?, hq2]); have p8 : w2.frozen? ⟨w.heap.size + 1, 8, none⟩ = false := (by simp [World.frozen?, hq2]); have p9 : w2.frozen? ⟨w.heap.size + 1, 9, none⟩ = false := (by simp [World.frozen?, hq2]); have HD := hideT (And.intro hb2 (And.intro hq1 (And.intro hq2 hq3))); clear hb2 hq1 hq2 hq3)
      all_goals clear y0 y1 y2 y3 y4 y5 y6 y7 y8 z0 z7 z8 d0 d1 d2 d3 d4 d5 d6 d7 d8 d9 p0 p1 p2 p3 p4 p5 p6 p7 p8 p9
      all_goals clear e0 f0 h0 i0 e1 f1 h1 i1 e2 f2 h2 i2 e3 f3 h3 i3 e4 f4 h4 i4 e5 f5 h5 i5 e6 f6 h6 i6 e7 f7 h7 i7 e8 f8 h8 i8 e9 f9 h9 i9
      all_goals go_wp2
      all_goals exact ⟨⟨k + 1, s2, by omega, rfl, rfl, by go_num, HC.out.2.2.1, HC.out.2.1, (put10_far _ _ (by omega)).trans HD.out.2.1, put10_at _ HD.out.2.2.1, (put10_far _ _ (by omega)).trans HD.out.2.2.2, put10_below (HC.out.2.2.2.2.2.2.drew.trans (HD.out.1.mono HC.out.2.2.2.2.2.2.drew.size)) (by omega) _⟩, by simp [intOf]; omega⟩
    · obtain rfl : k = ks.length := by omega
      have k3 : ¬ (ks.length : Int) < (ks.length : Int) := by omega
      rw [List.drop_length] at hsl
      have hsl' : s1 = (gn, cs) := hsl
      subst hsl'
      have HB := hideT (And.intro gb1 (And.intro gb2 (And.intro gb3 gB)))
      clear gb1 gb2 gb3 gB hsl
      go_wp2_with fail
      go_region
      obtain ⟨Y, hY⟩ : ∃ Y, Y = ((((((((((wr.setCell ⟨w.heap.size + 1 + 1, 0, none⟩ (.bool (cs 0))).setCell ⟨w.heap.size + 1 + 1, 1, none⟩ (.bool (cs 1))).setCell ⟨w.heap.size + 1 + 1, 2, none⟩ (.bool (cs 2))).setCell ⟨w.heap.size + 1 + 1, 3, none⟩ (.bool (cs 3))).setCell ⟨w.heap.size + 1 + 1, 4, none⟩ (.bool (cs 4))).setCell ⟨w.heap.size + 1 + 1, 5, none⟩ (.bool (cs 5))).setCell ⟨w.heap.size + 1 + 1, 6, none⟩ (.bool (cs 6))).setCell ⟨w.heap.size + 1 + 1, 7, none⟩ (.bool (cs 7))).setCell ⟨w.heap.size + 1 + 1, 8, none⟩ (.bool (cs 8))).setCell ⟨w.heap.size + 1 + 1, 9, none⟩ (.bool (cs 9))).drew := ⟨_, rfl⟩
      have yb : Y.heap[w.heap.size + 1 + 1]? = some (.cells (boolsA cs) 38 (0, 0)) := by rw [hY]; exact put10_drew (W := wr) cs (put10c HB.out.2.2.1)
      have yB : Below w.heap.size w Y := by rw [hY]; exact (put10_below (HB.out.2.2.2) (by omega) cs).drew
      rw [← hY]
      clear e0 f0 h0 i0 e1 f1 h1 i1 e2 f2 h2 i2 e3 f3 h3 i3 e4 f4 h4 i4 e5 f5 h5 i5 e6 f6 h6 i6 e7 f7 h7 i7 e8 f8 h8 i8 e9 f9 h9 i9
      clear hY
      have v0 : Y.cell? ⟨w.heap.size + 1 + 1, 0, none⟩ = some (.bool (cs 0)) := by simp [World.cell?, yb]
      have v1 : Y.cell? ⟨w.heap.size + 1 + 1, 1, none⟩ = some (.bool (cs 1)) := by simp [World.cell?, yb]
      have v2 : Y.cell? ⟨w.heap.size + 1 + 1, 2, none⟩ = some (.bool (cs 2)) := by simp [World.cell?, yb]
      have v3 : Y.cell? ⟨w.heap.size + 1 + 1, 3, none⟩ = some (.bool (cs 3)) := by simp [World.cell?, yb]
      have v4 : Y.cell? ⟨w.heap.size + 1 + 1, 4, none⟩ = some (.bool (cs 4)) := by simp [World.cell?, yb]
      have v5 : Y.cell? ⟨w.heap.size + 1 + 1, 5, none⟩ = some (.bool (cs 5)) := by simp [World.cell?, yb]
      have v6 : Y.cell? ⟨w.heap.size + 1 + 1, 6, none⟩ = some (.bool (cs 6)) := by simp [World.cell?, yb]
      have v7 : Y.cell? ⟨w.heap.size + 1 + 1, 7, none⟩ = some (.bool (cs 7)) := by simp [World.cell?, yb]
      have v8 : Y.cell? ⟨w.heap.size + 1 + 1, 8, none⟩ = some (.bool (cs 8)) := by simp [World.cell?, yb]
      have v9 : Y.cell? ⟨w.heap.size + 1 + 1, 9, none⟩ = some (.bool (cs 9)) := by simp [World.cell?, yb]
      clear yb
      go_wp2
      refine bodyPost_ret (by simp [results, Try.results13, go_sem, v0, v1, v2, v3, v4, v5, v6, v7, v8, v9]; try rfl) rfl ?_
      exact ⟨rfl, yB⟩
end Go.Proofs.Ytooanbbnjiogaaa

/- bre: shaped: a repeat. -/
namespace Go.Proofs.Ytooanbbnjiogaaa
open Go.RowKit

set_option maxRecDepth 100000 in
set_option maxHeartbeats 4000000 in
theorem shaped_star (ks : List Tr) (hlen : ks.length ≤ 1000000) (h1 : ks.length = 1) (c0 : Tr) (hc0 : ks[0]? = some c0) (n0 : c0.kind ≠ 0) (n2 : c0.kind ≠ 2) (n3 : c0.kind ≠ 3) (lo hi : Int) (r0 : 0 ≤ lo) (r1 : lo ≤ 255) (hhi : hi = -1) (s s1 : Sh) (hs : s.1 ≤ 100) (hsh : ShL ks s s1)
    (ih : ∀ x ∈ ks, ∀ (r r' : Sh), r.1 ≤ 100 → ShT x r r' → r'.1 ≤ 100 ∧ ∀ (w : World) (ok : Nat → Prop) (a : Option Addr) (n c : Nat), Kids w ok (.slice a n c) x.kids → Calls Try.prog 13 #[nodeA x (.slice a n c), .int .i64 (r.1 : Nat), .agg (boolsA r.2)] w fun e w' => e = shA r' ∧ Below w.heap.size w w')
    (w : World) (ok : Nat → Prop) (gA : Nat) (c : Nat) (hk : Kids w ok (.slice (some ⟨gA, 0, none⟩) ks.length c) ks) :
    Calls Try.prog 13 #[.agg #[.int .i64 5, .int .u64 0, .int .u64 0, .int .u64 0, .int .u64 0, .int .i64 lo, .int .i64 hi, .int .i64 0, .slice (some ⟨gA, 0, none⟩) ks.length c], .int .i64 (s.1 : Nat), .agg (boolsA s.2)] w fun e w' => e = shA s1 ∧ Below w.heap.size w w' := by
  have heq := eql_zero
  obtain ⟨g0, cl⟩ := s
  subst hhi
  have m0 : ((c0.kind : Int) != 0) = true := by rw [bne_iff_ne]; omega
  have m2 : ((c0.kind : Int) != 2) = true := by rw [bne_iff_ne]; omega
  have m3 : ((c0.kind : Int) != 3) = true := by rw [bne_iff_ne]; omega
  have HA := hideT (And.intro hk (And.intro ih (And.intro hsh hs)))
  have HG := hideT (And.intro True.intro (And.intro hc0 h1))
  clear hk ih hsh hs hc0 n0 n2 n3 h1
  go_enter Try.func13, Try.ntmps13
  go_upto_region 1 with fail
  obtain ⟨X, hX⟩ : ∃ X, X = ((w.alloc (.cells #[.int .i64 5, .int .u64 0, .int .u64 0, .int .u64 0, .int .u64 0, .int .i64 lo, .int .i64 (-1), .int .i64 0, .slice (some ⟨gA, 0, none⟩) ks.length c] 27)).alloc (.cells (boolsA cl) 38)).alloc (.cells #[.bool false, .bool false, .bool false, .bool false, .bool false, .bool false, .bool false, .bool false, .bool false, .bool false] 38) := ⟨_, rfl⟩
  have xb1 : X.heap[w.heap.size]? = some (.cells #[.int .i64 5, .int .u64 0, .int .u64 0, .int .u64 0, .int .u64 0, .int .i64 lo, .int .i64 (-1), .int .i64 0, .slice (some ⟨gA, 0, none⟩) ks.length c] 27 (0, 0)) := by
    rw [hX, Below.heap_alloc _ _ _ (by simp only [World.size_alloc]; omega), Below.heap_alloc _ _ _ (by simp only [World.size_alloc]; omega)]
    exact heap_alloc_new w _
  have nw := fun (W : World) (ob : Obj) (H : Nat) (hH : W.heap.size = H) => (show (W.alloc ob).heap[H]? = some ob from hH ▸ heap_alloc_new W ob)
  have xb2 : X.heap[w.heap.size + 1]? = some (.cells (boolsA cl) 38 (0, 0)) := by
    rw [hX, Below.heap_alloc _ _ _ (by simp only [World.size_alloc]; omega)]
    exact nw _ _ _ (by simp only [World.size_alloc])
  have xb3 : X.heap[w.heap.size + 1 + 1]? = some (.cells #[.bool false, .bool false, .bool false, .bool false, .bool false, .bool false, .bool false, .bool false, .bool false, .bool false] 38 (0, 0)) := by
    rw [hX]
    exact nw _ _ _ (by simp only [World.size_alloc])
  have hBX : Below w.heap.size w X := by
    rw [hX]
    exact (((Below.refl _ _).alloc (Nat.le_refl _) _).alloc (by rw [World.size_alloc]; omega) _).alloc (by simp only [World.size_alloc]; omega) _
  rw [← hX]
  clear hX nw
  have z0 : X.cell? ⟨w.heap.size, 0, none⟩ = some (.int .i64 5) := by simp [World.cell?, xb1]
  have z1 : X.cell? ⟨w.heap.size, 1, none⟩ = some (.int .u64 0) := by simp [World.cell?, xb1]
  have z2 : X.cell? ⟨w.heap.size, 2, none⟩ = some (.int .u64 0) := by simp [World.cell?, xb1]
  have z3 : X.cell? ⟨w.heap.size, 3, none⟩ = some (.int .u64 0) := by simp [World.cell?, xb1]
  have z4 : X.cell? ⟨w.heap.size, 4, none⟩ = some (.int .u64 0) := by simp [World.cell?, xb1]
  have z5 : X.cell? ⟨w.heap.size, 5, none⟩ = some (.int .i64 lo) := by simp [World.cell?, xb1]
  have z6 : X.cell? ⟨w.heap.size, 6, none⟩ = some (.int .i64 (-1)) := by simp [World.cell?, xb1]
  have z7 : X.cell? ⟨w.heap.size, 7, none⟩ = some (.int .i64 0) := by simp [World.cell?, xb1]
  have z8 : X.cell? ⟨w.heap.size, 8, none⟩ = some (.slice (some ⟨gA, 0, none⟩) ks.length c) := by simp [World.cell?, xb1]
  obtain ⟨g, c', u, he, _, _, hcell, _⟩ := kids_at (kids_below HA.out.1 hBX) (i := 0) (HG.out.2.1)
  obtain rfl : gA = g := by injection he with q1; injection q1 with q2; injection q2
  have y0 : X.cell? ⟨gA, 0, none⟩ = some (.int .i64 (c0.kind : Nat)) := by simpa using (hcell 0 _ rfl).1
  clear hcell he
  have l1 : ((ks.length : Int) == 1) = true := by rw [HG.out.2.2]; rfl
  have l2 : (0 : Int) < (ks.length : Int) := by rw [HG.out.2.2]; decide
  have HX := hideT (And.intro xb1 (And.intro xb2 (And.intro xb3 hBX)))
  clear xb1 xb2 xb3 hBX
  go_wp2_with fail
  go_loopw [1, 9, 10] (fun gv okv iv wr => ∃ (k : Nat) (st : Sh), k ≤ ks.length ∧ gv = .int .i64 (st.1 : Nat) ∧ okv = .bool true ∧ iv = .int .i64 k ∧ ShL (ks.drop k) st s1 ∧ st.1 ≤ 100 ∧ wr.heap[w.heap.size]? = some (.cells #[.int .i64 5, .int .u64 0, .int .u64 0, .int .u64 0, .int .u64 0, .int .i64 lo, .int .i64 (-1), .int .i64 0, .slice (some ⟨gA, 0, none⟩) ks.length c] 27 (0, 0)) ∧ wr.heap[w.heap.size + 1]? = some (.cells (boolsA st.2) 38 (0, 0)) ∧ wr.heap[w.heap.size + 1 + 1]? = some (.cells #[.bool false, .bool false, .bool false, .bool false, .bool false, .bool false, .bool false, .bool false, .bool false, .bool false] 38 (0, 0)) ∧ Below w.heap.size w wr) (fun _ _ iv _ => (ks.length - intOf iv).toNat)
  case atStart => exact ⟨0, (g0, cl), by omega, by go_num, rfl, rfl, HA.out.2.2.1, HA.out.2.2.2, HX.out.1, HX.out.2.1, HX.out.2.2.1, HX.out.2.2.2⟩
  case round =>
    clear HX z0 z1 z2 z3 z4 z5 z6 z7 z8 y0
    obtain ⟨k, ⟨gn, cs⟩, hk1, rfl, rfl, rfl, hsl, hg100, gb1, gb2, gb3, gB⟩ := hrel
    have z0 : wr.cell? ⟨w.heap.size, 0, none⟩ = some (.int .i64 5) := by simp [World.cell?, gb1]
    have z7 : wr.cell? ⟨w.heap.size, 7, none⟩ = some (.int .i64 0) := by simp [World.cell?, gb1]
    have z8 : wr.cell? ⟨w.heap.size, 8, none⟩ = some (.slice (some ⟨gA, 0, none⟩) ks.length c) := by simp [World.cell?, gb1]
    have e0 : wr.cell? ⟨w.heap.size + 1, 0, none⟩ = some (.bool (cs 0)) := by simp [World.cell?, gb2]
    have f0 : wr.frozen? ⟨w.heap.size + 1, 0, none⟩ = false := by simp [World.frozen?, gb2]
    have e1 : wr.cell? ⟨w.heap.size + 1, 1, none⟩ = some (.bool (cs 1)) := by simp [World.cell?, gb2]
    have f1 : wr.frozen? ⟨w.heap.size + 1, 1, none⟩ = false := by simp [World.frozen?, gb2]
    have e2 : wr.cell? ⟨w.heap.size + 1, 2, none⟩ = some (.bool (cs 2)) := by simp [World.cell?, gb2]
    have f2 : wr.frozen? ⟨w.heap.size + 1, 2, none⟩ = false := by simp [World.frozen?, gb2]
    have e3 : wr.cell? ⟨w.heap.size + 1, 3, none⟩ = some (.bool (cs 3)) := by simp [World.cell?, gb2]
    have f3 : wr.frozen? ⟨w.heap.size + 1, 3, none⟩ = false := by simp [World.frozen?, gb2]
    have e4 : wr.cell? ⟨w.heap.size + 1, 4, none⟩ = some (.bool (cs 4)) := by simp [World.cell?, gb2]
    have f4 : wr.frozen? ⟨w.heap.size + 1, 4, none⟩ = false := by simp [World.frozen?, gb2]
    have e5 : wr.cell? ⟨w.heap.size + 1, 5, none⟩ = some (.bool (cs 5)) := by simp [World.cell?, gb2]
    have f5 : wr.frozen? ⟨w.heap.size + 1, 5, none⟩ = false := by simp [World.frozen?, gb2]
    have e6 : wr.cell? ⟨w.heap.size + 1, 6, none⟩ = some (.bool (cs 6)) := by simp [World.cell?, gb2]
    have f6 : wr.frozen? ⟨w.heap.size + 1, 6, none⟩ = false := by simp [World.frozen?, gb2]
    have e7 : wr.cell? ⟨w.heap.size + 1, 7, none⟩ = some (.bool (cs 7)) := by simp [World.cell?, gb2]
    have f7 : wr.frozen? ⟨w.heap.size + 1, 7, none⟩ = false := by simp [World.frozen?, gb2]
    have e8 : wr.cell? ⟨w.heap.size + 1, 8, none⟩ = some (.bool (cs 8)) := by simp [World.cell?, gb2]
    have f8 : wr.frozen? ⟨w.heap.size + 1, 8, none⟩ = false := by simp [World.frozen?, gb2]
    have e9 : wr.cell? ⟨w.heap.size + 1, 9, none⟩ = some (.bool (cs 9)) := by simp [World.cell?, gb2]
    have f9 : wr.frozen? ⟨w.heap.size + 1, 9, none⟩ = false := by simp [World.frozen?, gb2]
    have h0 : wr.cell? ⟨w.heap.size + 1 + 1, 0, none⟩ = some (.bool false) := by simp [World.cell?, gb3]
    have i0 : wr.frozen? ⟨w.heap.size + 1 + 1, 0, none⟩ = false := by simp [World.frozen?, gb3]
    have h1 : wr.cell? ⟨w.heap.size + 1 + 1, 1, none⟩ = some (.bool false) := by simp [World.cell?, gb3]
    have i1 : wr.frozen? ⟨w.heap.size + 1 + 1, 1, none⟩ = false := by simp [World.frozen?, gb3]
    have h2 : wr.cell? ⟨w.heap.size + 1 + 1, 2, none⟩ = some (.bool false) := by simp [World.cell?, gb3]
    have i2 : wr.frozen? ⟨w.heap.size + 1 + 1, 2, none⟩ = false := by simp [World.frozen?, gb3]
    have h3 : wr.cell? ⟨w.heap.size + 1 + 1, 3, none⟩ = some (.bool false) := by simp [World.cell?, gb3]
    have i3 : wr.frozen? ⟨w.heap.size + 1 + 1, 3, none⟩ = false := by simp [World.frozen?, gb3]
    have h4 : wr.cell? ⟨w.heap.size + 1 + 1, 4, none⟩ = some (.bool false) := by simp [World.cell?, gb3]
    have i4 : wr.frozen? ⟨w.heap.size + 1 + 1, 4, none⟩ = false := by simp [World.frozen?, gb3]
    have h5 : wr.cell? ⟨w.heap.size + 1 + 1, 5, none⟩ = some (.bool false) := by simp [World.cell?, gb3]
    have i5 : wr.frozen? ⟨w.heap.size + 1 + 1, 5, none⟩ = false := by simp [World.frozen?, gb3]
    have h6 : wr.cell? ⟨w.heap.size + 1 + 1, 6, none⟩ = some (.bool false) := by simp [World.cell?, gb3]
    have i6 : wr.frozen? ⟨w.heap.size + 1 + 1, 6, none⟩ = false := by simp [World.frozen?, gb3]
    have h7 : wr.cell? ⟨w.heap.size + 1 + 1, 7, none⟩ = some (.bool false) := by simp [World.cell?, gb3]
    have i7 : wr.frozen? ⟨w.heap.size + 1 + 1, 7, none⟩ = false := by simp [World.frozen?, gb3]
    have h8 : wr.cell? ⟨w.heap.size + 1 + 1, 8, none⟩ = some (.bool false) := by simp [World.cell?, gb3]
    have i8 : wr.frozen? ⟨w.heap.size + 1 + 1, 8, none⟩ = false := by simp [World.frozen?, gb3]
    have h9 : wr.cell? ⟨w.heap.size + 1 + 1, 9, none⟩ = some (.bool false) := by simp [World.cell?, gb3]
    have i9 : wr.frozen? ⟨w.heap.size + 1 + 1, 9, none⟩ = false := by simp [World.frozen?, gb3]
    by_cases hlt : k < ks.length
    · rw [List.drop_eq_getElem_cons hlt] at hsl
      obtain ⟨s2, hx, hrest⟩ := hsl
      obtain ⟨hs2, hcall⟩ := HA.out.2.1 ks[k] (List.getElem_mem hlt) (gn, cs) s2 hg100 hx
      have hkr := kids_below HA.out.1 gB
      obtain ⟨g, c', u, he, _, _, hcell, hku⟩ := kids_at hkr (i := k) (List.getElem?_eq_getElem hlt)
      obtain rfl : gA = g := by injection he with q1; injection q1 with q2; injection q2
      obtain ⟨ua, uc, rfl⟩ := kids_shape hku
      have hkd : Kids wr.drew ok (.slice ua (ks[k].kids).length uc) ks[k].kids := hku.keep (fun _ _ => rfl) (fun _ h => h)
      have hcl := hcall wr.drew ok ua _ uc hkd
      have y0 := (hcell 0 _ rfl).1
      have y1 := (hcell 1 _ rfl).1
      have y2 := (hcell 2 _ rfl).1
      have y3 := (hcell 3 _ rfl).1
      have y4 := (hcell 4 _ rfl).1
      have y5 := (hcell 5 _ rfl).1
      have y6 := (hcell 6 _ rfl).1
      have y7 := (hcell 7 _ rfl).1
      have y8 := (hcell 8 _ rfl).1
      rw [Nat.add_zero] at y0
      have k3 : (k : Int) < (ks.length : Int) := by omega
      have k4 : (0 : Int) ≤ (k : Int) := by omega
      have k5 : IntKind.i64.wrap ((k : Int) + 1) = (k : Int) + 1 := by rw [IntKind.wrap_i64]; omega
      have HC := hideT (And.intro hcl (And.intro hs2 (And.intro hrest (And.intro gb1 (And.intro gb2 (And.intro gb3 gB))))))
      clear hkr hcell hku he hcl hcall hx hkd hrest gb1 gb2 gb3 gB hs2
      go_wp2_with fail
      go_region_with (go_at_call 13; refine HC.out.1.mono ?_; rintro e w2 ⟨rfl, hb2⟩; have hq1 := (hb2.block _ (show w.heap.size < wr.drew.heap.size from (Array.getElem?_eq_some_iff.1 HC.out.2.2.2.1).1)).trans HC.out.2.2.2.1; have hq2 := (hb2.block _ (show w.heap.size + 1 < wr.drew.heap.size from (Array.getElem?_eq_some_iff.1 HC.out.2.2.2.2.1).1)).trans HC.out.2.2.2.2.1; have hq3 := (hb2.block _ (show w.heap.size + 1 + 1 < wr.drew.heap.size from (Array.getElem?_eq_some_iff.1 HC.out.2.2.2.2.2.1).1)).trans HC.out.2.2.2.2.2.1; have d0 : w2.cell? ⟨w.heap.size + 1, 0, none⟩ = some (.bool (cs 0)) := (by simp [World.cell?, hq2]); have d1 : w2.cell? ⟨w.heap.size + 1, 1, none⟩ = some (.bool (cs 1)) := (by simp [World.cell?, hq2]); have d2 : w2.cell? ⟨w.heap.size + 1, 2, none⟩ = some (.bool (cs 2)) := (by simp [World.cell?, hq2]); have d3 : w2.cell? ⟨w.heap.size + 1, 3, none⟩ = some (.bool (cs 3)) := (by simp [World.cell?, hq2]); have d4 : w2.cell? ⟨w.heap.size + 1, 4, none⟩ = some (.bool (cs 4)) := (by simp [World.cell?, hq2]); have d5 : w2.cell? ⟨w.heap.size + 1, 5, none⟩ = some (.bool (cs 5)) := (by simp [World.cell?, hq2]); have d6 : w2.cell? ⟨w.heap.size + 1, 6, none⟩ = some (.bool (cs 6)) := (by simp [World.cell?, hq2]); have d7 : w2.cell? ⟨w.heap.size + 1, 7, none⟩ = some (.bool (cs 7)) := (by simp [World.cell?, hq2]); have d8 : w2.cell? ⟨w.heap.size + 1, 8, none⟩ = some (.bool (cs 8)) := (by simp [World.cell?, hq2]); have d9 : w2.cell? ⟨w.heap.size + 1, 9, none⟩ = some (.bool (cs 9)) := (by simp [World.cell?, hq2]); have p0 : w2.frozen? ⟨w.heap.size + 1, 0, none⟩ = false := (by simp [World.frozen?, hq2]); have p1 : w2.frozen? ⟨w.heap.size + 1, 1, none⟩ = false := (by simp [World.frozen?, hq2]); have p2 : w2.frozen? ⟨w.heap.size + 1, 2, none⟩ = false := (by simp [World.frozen?, hq2]); have p3 : w2.frozen? ⟨w.heap.size + 1, 3, none⟩ = false := (by simp [World.frozen?, hq2]); have p4 : w2.frozen? ⟨w.heap.size + 1, 4, none⟩ = false := (by simp [World.frozen?, hq2]); have p5 : w2.frozen? ⟨w.heap.size + 1, 5, none⟩ = false := (by simp [World.frozen?, hq2]); have p6 : w2.frozen? ⟨w.heap.size + 1, 6, none⟩ = false := (by simp [World.frozen?, hq2]); have p7 : w2.frozen? ⟨w.heap.size + 1, 7, none⟩ = false := (by simp [World.frozen?, hq2]); have p8 : w2.frozen? ⟨w.heap.size + 1, 8, none⟩ = false := (by simp [World.frozen?, hq2]); have p9 : w2.frozen? ⟨w.heap.size + 1, 9, none⟩ = false := (by simp [World.frozen?, hq2]); have HD := hideT (And.intro hb2 (And.intro hq1 (And.intro hq2 hq3))); clear hb2 hq1 hq2 hq3)
      all_goals clear y0 y1 y2 y3 y4 y5 y6 y7 y8 z0 z7 z8 d0 d1 d2 d3 d4 d5 d6 d7 d8 d9 p0 p1 p2 p3 p4 p5 p6 p7 p8 p9
      all_goals clear e0 f0 h0 i0 e1 f1 h1 i1 e2 f2 h2 i2 e3 f3 h3 i3 e4 f4 h4 i4 e5 f5 h5 i5 e6 f6 h6 i6 e7 f7 h7 i7 e8 f8 h8 i8 e9 f9 h9 i9
      all_goals go_wp2
      all_goals exact ⟨⟨k + 1, s2, by omega, rfl, rfl, by go_num, HC.out.2.2.1, HC.out.2.1, (put10_far _ _ (by omega)).trans HD.out.2.1, put10_at _ HD.out.2.2.1, (put10_far _ _ (by omega)).trans HD.out.2.2.2, put10_below (HC.out.2.2.2.2.2.2.drew.trans (HD.out.1.mono HC.out.2.2.2.2.2.2.drew.size)) (by omega) _⟩, by simp [intOf]; omega⟩
    · obtain rfl : k = ks.length := by omega
      have k3 : ¬ (ks.length : Int) < (ks.length : Int) := by omega
      rw [List.drop_length] at hsl
      have hsl' : s1 = (gn, cs) := hsl
      subst hsl'
      have HB := hideT (And.intro gb1 (And.intro gb2 (And.intro gb3 gB)))
      clear gb1 gb2 gb3 gB hsl
      go_wp2_with fail
      go_region
      obtain ⟨Y, hY⟩ : ∃ Y, Y = ((((((((((wr.setCell ⟨w.heap.size + 1 + 1, 0, none⟩ (.bool (cs 0))).setCell ⟨w.heap.size + 1 + 1, 1, none⟩ (.bool (cs 1))).setCell ⟨w.heap.size + 1 + 1, 2, none⟩ (.bool (cs 2))).setCell ⟨w.heap.size + 1 + 1, 3, none⟩ (.bool (cs 3))).setCell ⟨w.heap.size + 1 + 1, 4, none⟩ (.bool (cs 4))).setCell ⟨w.heap.size + 1 + 1, 5, none⟩ (.bool (cs 5))).setCell ⟨w.heap.size + 1 + 1, 6, none⟩ (.bool (cs 6))).setCell ⟨w.heap.size + 1 + 1, 7, none⟩ (.bool (cs 7))).setCell ⟨w.heap.size + 1 + 1, 8, none⟩ (.bool (cs 8))).setCell ⟨w.heap.size + 1 + 1, 9, none⟩ (.bool (cs 9))).drew := ⟨_, rfl⟩
      have yb : Y.heap[w.heap.size + 1 + 1]? = some (.cells (boolsA cs) 38 (0, 0)) := by rw [hY]; exact put10_drew (W := wr) cs (put10c HB.out.2.2.1)
      have yB : Below w.heap.size w Y := by rw [hY]; exact (put10_below (HB.out.2.2.2) (by omega) cs).drew
      rw [← hY]
      clear e0 f0 h0 i0 e1 f1 h1 i1 e2 f2 h2 i2 e3 f3 h3 i3 e4 f4 h4 i4 e5 f5 h5 i5 e6 f6 h6 i6 e7 f7 h7 i7 e8 f8 h8 i8 e9 f9 h9 i9
      clear hY
      have v0 : Y.cell? ⟨w.heap.size + 1 + 1, 0, none⟩ = some (.bool (cs 0)) := by simp [World.cell?, yb]
      have v1 : Y.cell? ⟨w.heap.size + 1 + 1, 1, none⟩ = some (.bool (cs 1)) := by simp [World.cell?, yb]
      have v2 : Y.cell? ⟨w.heap.size + 1 + 1, 2, none⟩ = some (.bool (cs 2)) := by simp [World.cell?, yb]
      have v3 : Y.cell? ⟨w.heap.size + 1 + 1, 3, none⟩ = some (.bool (cs 3)) := by simp [World.cell?, yb]
      have v4 : Y.cell? ⟨w.heap.size + 1 + 1, 4, none⟩ = some (.bool (cs 4)) := by simp [World.cell?, yb]
      have v5 : Y.cell? ⟨w.heap.size + 1 + 1, 5, none⟩ = some (.bool (cs 5)) := by simp [World.cell?, yb]
      have v6 : Y.cell? ⟨w.heap.size + 1 + 1, 6, none⟩ = some (.bool (cs 6)) := by simp [World.cell?, yb]
      have v7 : Y.cell? ⟨w.heap.size + 1 + 1, 7, none⟩ = some (.bool (cs 7)) := by simp [World.cell?, yb]
      have v8 : Y.cell? ⟨w.heap.size + 1 + 1, 8, none⟩ = some (.bool (cs 8)) := by simp [World.cell?, yb]
      have v9 : Y.cell? ⟨w.heap.size + 1 + 1, 9, none⟩ = some (.bool (cs 9)) := by simp [World.cell?, yb]
      clear yb
      go_wp2
      refine bodyPost_ret (by simp [results, Try.results13, go_sem, v0, v1, v2, v3, v4, v5, v6, v7, v8, v9]; try rfl) rfl ?_
      exact ⟨rfl, yB⟩
end Go.Proofs.Ytooanbbnjiogaaa
