/- WholeTexts: the walk. -/
import Derived.Test.YtemgfbidfdhanaaDoorKWta
namespace Go.Proofs.YtemgfbidfdhanaaDoor
open Go.RowKit Go.Shelf
open Go.Sort

theorem cellB {W : World} {b k : Nat} {cs : Array Value} {t : TypeId} {u : Value} (h : W.heap[b]? = some (.cells cs t (0, 0))) (hu : cs[k]? = some u) : W.cell? ⟨b, k, none⟩ = some u := by simp [World.cell?, h, hu]
theorem froB {W : World} {b k : Nat} {cs : Array Value} {t : TypeId} (h : W.heap[b]? = some (.cells cs t (0, 0))) : W.frozen? ⟨b, k, none⟩ = false := by simp [World.frozen?, h]
theorem keepB {W W' : World} {b : Nat} {o : Obj} (hb : Below W.heap.size W W') (h : W.heap[b]? = some o) : W'.heap[b]? = some o := (hb.block _ (Array.getElem?_eq_some_iff.1 h).1).trans h
theorem keepA {W : World} {b : Nat} {o : Obj} (x : Obj) (h : W.heap[b]? = some o) : (W.alloc x).heap[b]? = some o := (Below.heap_alloc W x _ (Array.getElem?_eq_some_iff.1 h).1).trans h
theorem newA (W : World) (x : Obj) : (W.alloc x).heap[W.heap.size]? = some x := heap_alloc_new W x
theorem newA1 (W : World) (x y : Obj) : ((W.alloc x).alloc y).heap[W.heap.size + 1]? = some y := by rw [← World.size_alloc W x]; exact heap_alloc_new _ _

theorem eql_ms7 (m1 m2 m3 m4 : Int) (b1 b2 b3 : Bool) (w : World) : (binOp .eql 34 (.agg #[.int .i64 m1, .int .i64 m2, .int .i64 m3, .int .i64 m4, .bool b1, .bool b2, .bool b3]) (.agg #[.int .i64 m1, .int .i64 m2, .int .i64 m3, .int .i64 m4, .bool b1, .bool b2, .bool b3])).run Tryd.prog w = .ok (.bool true) w := eql_ms ⟨m1, m2, m3, m4, b1, b2, b3⟩ w

namespace wtexts
set_option maxRecDepth 100000 in
set_option maxHeartbeats 2000000 in
theorem core (s S : ByteArray) (E : Int) (p : Nat) (m1 m2 m3 m4 : Int) (b1 b2 b3 : Bool) (w : World)
    (H0 : Hid (Calls Tryd.prog 4 #[.string ⟨#[97, 92]⟩] w fun e w' => e = .returned (.tuple #[.agg #[.int .i64 0, .int .u64 0, .int .u64 0, .int .u64 0, .int .u64 0, .int .i64 0, .int .i64 0, .int .i64 0, .slice none 0 0], .agg #[.int .i64 6, .int .i64 1]]) ∧ Below w.heap.size w w'))
    (HP : Hid (∀ W, Below w.heap.size w W → Calls Tryd.prog 4 #[.string s] W fun e w' => Below W.heap.size W w' ∧ ∃ a n c, e = .returned (.tuple #[.agg #[.int .i64 0, .int .u64 0, .int .u64 0, .int .u64 0, .int .u64 0, .int .i64 0, .int .i64 0, .int .i64 0, .slice a n c], .agg #[.int .i64 E, .int .i64 (p : Nat)]]) ∧ Hid (∀ ts, parseT s = .ok ts → Kids w' (fun g => W.heap.size ≤ g) (.slice a n c) ts)))
    (HM : Hid (∀ W, Below w.heap.size w W → Calls Tryd.prog 5 #[.string s] W fun e w' => e = .returned (.tuple #[.agg #[.int .i64 m1, .int .i64 m2, .int .i64 m3, .int .i64 m4, .bool b1, .bool b2, .bool b3], .agg #[.int .i64 E, .int .i64 (p : Nat)]]) ∧ Below W.heap.size W w'))
    (HA : Hid (∀ W, Below w.heap.size w W → Calls Tryd.prog 6 #[.string s] W fun e w' => e = .returned (.tuple #[.string S, .agg #[.int .i64 E, .int .i64 (p : Nat)]]) ∧ Below W.heap.size W w'))
    (HP2 : Hid (E = 0 → S.size ≤ 512 → ∀ W, Below w.heap.size w W → Calls Tryd.prog 4 #[.string S] W fun e w' => Below W.heap.size W w' ∧ ∃ a n c, e = .returned (.tuple #[.agg #[.int .i64 0, .int .u64 0, .int .u64 0, .int .u64 0, .int .u64 0, .int .i64 0, .int .i64 0, .int .i64 0, .slice a n c], .agg #[.int .i64 0, .int .i64 0]]) ∧ Hid (∀ ts, parseT S = .ok ts → Kids w' (fun g => W.heap.size ≤ g) (.slice a n c) ts)))
    (HM2 : Hid (E = 0 → S.size ≤ 512 → ∀ W, Below w.heap.size w W → Calls Tryd.prog 5 #[.string S] W fun e w' => e = .returned (.tuple #[.agg #[.int .i64 m1, .int .i64 m2, .int .i64 m3, .int .i64 m4, .bool b1, .bool b2, .bool b3], .agg #[.int .i64 0, .int .i64 0]]) ∧ Below W.heap.size W w'))
    (HT : Hid (E = 0 → S.size ≤ 512 → ∀ (W : World) (ok ok2 : Nat → Prop) (a1 a2 : Option Addr) (n1 c1 n2 c2 : Nat), (∀ ts, parseT s = .ok ts → Kids W ok (.slice a1 n1 c1) ts) → (∀ ts, parseT S = .ok ts → Kids W ok2 (.slice a2 n2 c2) ts) → Calls Tryd.prog 7 #[.agg #[.int .i64 0, .int .u64 0, .int .u64 0, .int .u64 0, .int .u64 0, .int .i64 0, .int .i64 0, .int .i64 0, .slice a1 n1 c1], .agg #[.int .i64 0, .int .u64 0, .int .u64 0, .int .u64 0, .int .u64 0, .int .i64 0, .int .i64 0, .int .i64 0, .slice a2 n2 c2]] W fun e w' => e = .returned (.bool true) ∧ Below W.heap.size W w')) :
    Calls Tryd.prog 3 #[.string s] w fun e w' => e = .returned (.bool true) ∧ Below w.heap.size w w' := by
  have hneq := fun W => neq_fault E (p : Int) W
  have hneqA := fun W => neq_fault 6 1 W
  have heqM := fun W => eql_ms7 m1 m2 m3 m4 b1 b2 b3 W
  go_enter Tryd.func3, Tryd.ntmps3
  go_wp2_with fail
  refine H0.out.mono ?_
  rintro e w1 ⟨rfl, hb1⟩
  have B1 := hideT ((hb1.alloc hb1.size (.cells #[.int .i64 0, .int .u64 0, .int .u64 0, .int .u64 0, .int .u64 0, .int .i64 0, .int .i64 0, .int .i64 0, .slice none 0 0] 27)).alloc (hb1.alloc hb1.size (.cells #[.int .i64 0, .int .u64 0, .int .u64 0, .int .u64 0, .int .u64 0, .int .i64 0, .int .i64 0, .int .i64 0, .slice none 0 0] 27)).size (.cells #[.int .i64 6, .int .i64 1] 30))
  clear hb1
  go_wp2_with fail
  refine (HP.out _ B1.out).mono ?_
  rintro e w2 ⟨hb2, a1, n1, c1, rfl, K1⟩
  have B2 := hideT (((B1.out.trans (hb2.mono B1.out.size)).alloc (B1.out.trans (hb2.mono B1.out.size)).size (.cells #[.int .i64 0, .int .u64 0, .int .u64 0, .int .u64 0, .int .u64 0, .int .i64 0, .int .i64 0, .int .i64 0, .slice a1 n1 c1] 27)).alloc (((B1.out.trans (hb2.mono B1.out.size)).alloc (B1.out.trans (hb2.mono B1.out.size)).size (.cells #[.int .i64 0, .int .u64 0, .int .u64 0, .int .u64 0, .int .u64 0, .int .i64 0, .int .i64 0, .int .i64 0, .slice a1 n1 c1] 27))).size (.cells #[.int .i64 E, .int .i64 (p : Nat)] 30))
  have W2 := hideT (Nat.le_trans B1.out.size hb2.size)
  clear hb2
  go_wp2_with fail
  refine (HM.out _ B2.out).mono ?_
  rintro e w3 ⟨rfl, hb3⟩
  have x3t : w3.heap[w2.heap.size]? = some (.cells #[.int .i64 0, .int .u64 0, .int .u64 0, .int .u64 0, .int .u64 0, .int .i64 0, .int .i64 0, .int .i64 0, .slice a1 n1 c1] 27 (0, 0)) := keepB hb3 (keepA _ (newA w2 _))
  have x3f : w3.heap[w2.heap.size + 1]? = some (.cells #[.int .i64 E, .int .i64 (p : Nat)] 30 (0, 0)) := keepB hb3 (newA1 w2 _ _)
  have k23 : Below w2.heap.size w2 w3 := (((Below.refl _ w2).alloc (Nat.le_refl _) (.cells #[.int .i64 0, .int .u64 0, .int .u64 0, .int .u64 0, .int .u64 0, .int .i64 0, .int .i64 0, .int .i64 0, .slice a1 n1 c1] 27)).alloc (by rw [World.size_alloc]; omega) (.cells #[.int .i64 E, .int .i64 (p : Nat)] 30)).trans (hb3.mono (by rw [World.size_alloc, World.size_alloc]; omega))
  have hB3 := B2.out.trans (hb3.mono B2.out.size)
  have B3 := hideT (And.intro ((hB3.alloc hB3.size (.cells #[.int .i64 m1, .int .i64 m2, .int .i64 m3, .int .i64 m4, .bool b1, .bool b2, .bool b3] 34)).alloc (hB3.alloc hB3.size (.cells #[.int .i64 m1, .int .i64 m2, .int .i64 m3, .int .i64 m4, .bool b1, .bool b2, .bool b3] 34)).size (.cells #[.int .i64 E, .int .i64 (p : Nat)] 30)) (And.intro x3t (And.intro x3f k23)))
  clear hb3 x3t x3f k23 hB3
  go_wp2_with fail
  refine (HA.out _ B3.out.1).mono ?_
  rintro e w4 ⟨rfl, hb4⟩
  have x4t : w4.heap[w2.heap.size]? = some (.cells #[.int .i64 0, .int .u64 0, .int .u64 0, .int .u64 0, .int .u64 0, .int .i64 0, .int .i64 0, .int .i64 0, .slice a1 n1 c1] 27 (0, 0)) := keepB hb4 (keepA _ (keepA _ B3.out.2.1))
  have x4f : w4.heap[w2.heap.size + 1]? = some (.cells #[.int .i64 E, .int .i64 (p : Nat)] 30 (0, 0)) := keepB hb4 (keepA _ (keepA _ B3.out.2.2.1))
  have x4m : w4.heap[w3.heap.size]? = some (.cells #[.int .i64 m1, .int .i64 m2, .int .i64 m3, .int .i64 m4, .bool b1, .bool b2, .bool b3] 34 (0, 0)) := keepB hb4 (keepA _ (newA w3 _))
  have x4g : w4.heap[w3.heap.size + 1]? = some (.cells #[.int .i64 E, .int .i64 (p : Nat)] 30 (0, 0)) := keepB hb4 (newA1 w3 _ _)
  have k34 : Below w3.heap.size w3 w4 := (((Below.refl _ w3).alloc (Nat.le_refl _) (.cells #[.int .i64 m1, .int .i64 m2, .int .i64 m3, .int .i64 m4, .bool b1, .bool b2, .bool b3] 34)).alloc (by rw [World.size_alloc]; omega) (.cells #[.int .i64 E, .int .i64 (p : Nat)] 30)).trans (hb4.mono (by rw [World.size_alloc, World.size_alloc]; omega))
  have hB4 := B3.out.1.trans (hb4.mono B3.out.1.size)
  have B4 := hideT (And.intro (hB4.alloc hB4.size (.cells #[.int .i64 E, .int .i64 (p : Nat)] 30)) (And.intro x4t (And.intro x4f (And.intro x4m (And.intro x4g (B3.out.2.2.2.trans (k34.mono B3.out.2.2.2.size)))))))
  have f0 : ∀ o, (w4.alloc o).cell? ⟨w2.heap.size + 1, 0, none⟩ = some (.int .i64 E) := fun o => cellB (keepA o x4f) rfl
  have f1 : ∀ o, (w4.alloc o).cell? ⟨w2.heap.size + 1, 1, none⟩ = some (.int .i64 (p : Nat)) := fun o => cellB (keepA o x4f) rfl
  have g0 : ∀ o, (w4.alloc o).cell? ⟨w3.heap.size + 1, 0, none⟩ = some (.int .i64 E) := fun o => cellB (keepA o x4g) rfl
  have g1 : ∀ o, (w4.alloc o).cell? ⟨w3.heap.size + 1, 1, none⟩ = some (.int .i64 (p : Nat)) := fun o => cellB (keepA o x4g) rfl
  have hl24 : w2.heap.size + 1 < w3.heap.size := (Array.getElem?_eq_some_iff.1 B3.out.2.2.1).1
  have hl34 : w3.heap.size + 1 < w4.heap.size := (Array.getElem?_eq_some_iff.1 x4g).1
  have HL := hideT (And.intro hl24 hl34)
  clear hb4 x4t x4f x4m x4g k34 hB4 hl24 hl34
  by_cases e0 : E = 0
  · by_cases l0 : S.size ≤ 512
    · have H2 := hideT (HP2.out e0 l0)
      have H3 := hideT (HM2.out e0 l0)
      have H4 := hideT (HT.out e0 l0)
      have mS : ¬ (512 : Int) < (S.size : Int) := by omega
      subst e0
      clear l0
      go_wp2_with fail
      refine (H2.out _ B4.out.1).mono ?_
      rintro e w5 ⟨hb5, a2, n2, c2, rfl, K2⟩
      have x5t : w5.heap[w2.heap.size]? = some (.cells #[.int .i64 0, .int .u64 0, .int .u64 0, .int .u64 0, .int .u64 0, .int .i64 0, .int .i64 0, .int .i64 0, .slice a1 n1 c1] 27 (0, 0)) := keepB hb5 (keepA _ B4.out.2.1)
      have x5f : w5.heap[w2.heap.size + 1]? = some (.cells #[.int .i64 0, .int .i64 (p : Nat)] 30 (0, 0)) := keepB hb5 (keepA _ B4.out.2.2.1)
      have x5m : w5.heap[w3.heap.size]? = some (.cells #[.int .i64 m1, .int .i64 m2, .int .i64 m3, .int .i64 m4, .bool b1, .bool b2, .bool b3] 34 (0, 0)) := keepB hb5 (keepA _ B4.out.2.2.2.1)
      have x5g : w5.heap[w3.heap.size + 1]? = some (.cells #[.int .i64 0, .int .i64 (p : Nat)] 30 (0, 0)) := keepB hb5 (keepA _ B4.out.2.2.2.2.1)
      have k25 : Below w2.heap.size w2 w5 := B4.out.2.2.2.2.2.trans (((Below.refl _ w4).alloc (Nat.le_refl _) _).trans (hb5.mono (by rw [World.size_alloc]; omega)) |>.mono (by have := HL.out; omega))
      have hB5 := B4.out.1.trans (hb5.mono B4.out.1.size)
      have hl45 : w4.heap.size + 1 ≤ w5.heap.size := by have := hb5.size; rw [World.size_alloc] at this; exact this
      have fc0 : ∀ o, (w5.alloc o).cell? ⟨w2.heap.size + 1, 0, none⟩ = some (.int .i64 0) := fun o => cellB (keepA o x5f) rfl
      have fc1 : ∀ o, (w5.alloc o).cell? ⟨w2.heap.size + 1, 1, none⟩ = some (.int .i64 (p : Nat)) := fun o => cellB (keepA o x5f) rfl
      have ff0 : ∀ o, (w5.alloc o).frozen? ⟨w2.heap.size + 1, 0, none⟩ = false := fun o => froB (keepA o x5f)
      have ff1 : ∀ o, (w5.alloc o).frozen? ⟨w2.heap.size + 1, 1, none⟩ = false := fun o => froB (keepA o x5f)
      obtain ⟨Y1, hY1⟩ : ∃ Y, Y = ((w5.alloc (.cells #[.int .i64 0, .int .u64 0, .int .u64 0, .int .u64 0, .int .u64 0, .int .i64 0, .int .i64 0, .int .i64 0, .slice a2 n2 c2] 27)).setCell ⟨w2.heap.size + 1, 0, none⟩ (.int .i64 0)).setCell ⟨w2.heap.size + 1, 1, none⟩ (.int .i64 0) := ⟨_, rfl⟩
      have yf : ∀ g, g ≠ w2.heap.size + 1 → Y1.heap[g]? = (w5.alloc (.cells #[.int .i64 0, .int .u64 0, .int .u64 0, .int .u64 0, .int .u64 0, .int .i64 0, .int .i64 0, .int .i64 0, .slice a2 n2 c2] 27)).heap[g]? := fun g hg => by rw [hY1, Below.heap_setCell _ _ _ g hg, Below.heap_setCell _ _ _ g hg]
      have hll := HL.out
      have y1f : Y1.heap[w2.heap.size + 1]? = some (.cells #[.int .i64 0, .int .i64 0] 30 (0, 0)) := by rw [hY1]; exact set_blk (set_blk (keepA _ x5f) _) _
      have y1t : Y1.heap[w2.heap.size]? = some (.cells #[.int .i64 0, .int .u64 0, .int .u64 0, .int .u64 0, .int .u64 0, .int .i64 0, .int .i64 0, .int .i64 0, .slice a1 n1 c1] 27 (0, 0)) := (yf _ (by omega)).trans (keepA _ x5t)
      have y1m : Y1.heap[w3.heap.size]? = some (.cells #[.int .i64 m1, .int .i64 m2, .int .i64 m3, .int .i64 m4, .bool b1, .bool b2, .bool b3] 34 (0, 0)) := (yf _ (by omega)).trans (keepA _ x5m)
      have y1g : Y1.heap[w3.heap.size + 1]? = some (.cells #[.int .i64 0, .int .i64 (p : Nat)] 30 (0, 0)) := (yf _ (by omega)).trans (keepA _ x5g)
      have y1u : Y1.heap[w5.heap.size]? = some (.cells #[.int .i64 0, .int .u64 0, .int .u64 0, .int .u64 0, .int .u64 0, .int .i64 0, .int .i64 0, .int .i64 0, .slice a2 n2 c2] 27 (0, 0)) := (yf _ (by omega)).trans (newA w5 _)
      have hw2 : w.heap.size ≤ w2.heap.size + 1 := by have := W2.out; omega
      have hBY : Below w.heap.size w Y1 := by
        rw [hY1]
        exact ((hB5.alloc hB5.size _).setCell (p := ⟨w2.heap.size + 1, 0, none⟩) hw2 _).setCell (p := ⟨w2.heap.size + 1, 1, none⟩) hw2 _
      have KY := hideT (And.intro (fun ts h => (kids_blk (K1.out ts h)).keep (W' := Y1) (ok' := fun g => g < w2.heap.size) (fun g hg => by
          rw [yf g (by have := hg.2; omega), Below.heap_alloc w5 _ _ (by have := hg.2; have := k25.size; omega), k25.block g hg.2]) (fun _ h => h.2))
        (fun ts h => (kids_blk (K2.out ts h)).keep (W' := Y1) (ok' := fun g => w4.heap.size + 1 ≤ g) (fun g hg => by
          rw [yf g (by have := hg.1; rw [World.size_alloc] at this; omega), Below.heap_alloc w5 _ _ hg.2]) (fun _ h => by have := h.1; rw [World.size_alloc] at this; exact this)))
      have HY1 := hideT (And.intro y1t (And.intro y1f (And.intro y1m (And.intro y1g (And.intro y1u hBY)))))
      clear x5t x5f x5m x5g k25 hB5 yf y1f y1t y1m y1g y1u hBY hll hw2 hb5 f0 f1 g0 g1
      go_wp2_with fail
      rw [← hY1]
      clear hY1 fc0 fc1 ff0 ff1
      refine (H3.out Y1 HY1.out.2.2.2.2.2).mono ?_
      rintro e w6 ⟨rfl, hb6⟩
      have x6t := keepB hb6 HY1.out.1
      have x6f := keepB hb6 HY1.out.2.1
      have x6m := keepB hb6 HY1.out.2.2.1
      have x6g := keepB hb6 HY1.out.2.2.2.1
      have x6u := keepB hb6 HY1.out.2.2.2.2.1
      have gc0 : ∀ o, (w6.alloc o).cell? ⟨w3.heap.size + 1, 0, none⟩ = some (.int .i64 0) := fun o => cellB (keepA o x6g) rfl
      have gc1 : ∀ o, (w6.alloc o).cell? ⟨w3.heap.size + 1, 1, none⟩ = some (.int .i64 (p : Nat)) := fun o => cellB (keepA o x6g) rfl
      have gf0 : ∀ o, (w6.alloc o).frozen? ⟨w3.heap.size + 1, 0, none⟩ = false := fun o => froB (keepA o x6g)
      have gf1 : ∀ o, (w6.alloc o).frozen? ⟨w3.heap.size + 1, 1, none⟩ = false := fun o => froB (keepA o x6g)
      obtain ⟨Y2, hY2⟩ : ∃ Y, Y = ((w6.alloc (.cells #[.int .i64 m1, .int .i64 m2, .int .i64 m3, .int .i64 m4, .bool b1, .bool b2, .bool b3] 34)).setCell ⟨w3.heap.size + 1, 0, none⟩ (.int .i64 0)).setCell ⟨w3.heap.size + 1, 1, none⟩ (.int .i64 0) := ⟨_, rfl⟩
      have hll := HL.out
      have hw2 := W2.out
      have hl6 : w5.heap.size < w6.heap.size := (Array.getElem?_eq_some_iff.1 x6u).1
      have yf : ∀ g, g ≠ w3.heap.size + 1 → Y2.heap[g]? = (w6.alloc (.cells #[.int .i64 m1, .int .i64 m2, .int .i64 m3, .int .i64 m4, .bool b1, .bool b2, .bool b3] 34)).heap[g]? := fun g hg => by rw [hY2, Below.heap_setCell _ _ _ g hg, Below.heap_setCell _ _ _ g hg]
      have y2g : Y2.heap[w3.heap.size + 1]? = some (.cells #[.int .i64 0, .int .i64 0] 30 (0, 0)) := by rw [hY2]; exact set_blk (set_blk (keepA _ x6g) _) _
      have y2t : Y2.heap[w2.heap.size]? = some (.cells #[.int .i64 0, .int .u64 0, .int .u64 0, .int .u64 0, .int .u64 0, .int .i64 0, .int .i64 0, .int .i64 0, .slice a1 n1 c1] 27 (0, 0)) := (yf _ (by omega)).trans (keepA _ x6t)
      have y2f : Y2.heap[w2.heap.size + 1]? = some (.cells #[.int .i64 0, .int .i64 0] 30 (0, 0)) := (yf _ (by omega)).trans (keepA _ x6f)
      have y2m : Y2.heap[w3.heap.size]? = some (.cells #[.int .i64 m1, .int .i64 m2, .int .i64 m3, .int .i64 m4, .bool b1, .bool b2, .bool b3] 34 (0, 0)) := (yf _ (by omega)).trans (keepA _ x6m)
      have y2u : Y2.heap[w5.heap.size]? = some (.cells #[.int .i64 0, .int .u64 0, .int .u64 0, .int .u64 0, .int .u64 0, .int .i64 0, .int .i64 0, .int .i64 0, .slice a2 n2 c2] 27 (0, 0)) := (yf _ (by omega)).trans (keepA _ x6u)
      have y2n : Y2.heap[w6.heap.size]? = some (.cells #[.int .i64 m1, .int .i64 m2, .int .i64 m3, .int .i64 m4, .bool b1, .bool b2, .bool b3] 34 (0, 0)) := (yf _ (by omega)).trans (newA w6 _)
      have hB6 : Below w.heap.size w w6 := HY1.out.2.2.2.2.2.trans (hb6.mono HY1.out.2.2.2.2.2.size)
      have hBY2 : Below w.heap.size w Y2 := by
        rw [hY2]
        exact ((hB6.alloc hB6.size _).setCell (p := ⟨w3.heap.size + 1, 0, none⟩) (by show w.heap.size ≤ w3.heap.size + 1; omega) _).setCell (p := ⟨w3.heap.size + 1, 1, none⟩) (by show w.heap.size ≤ w3.heap.size + 1; omega) _
      have hY1s : w5.heap.size < Y1.heap.size := (Array.getElem?_eq_some_iff.1 HY1.out.2.2.2.2.1).1
      have KZ := hideT (H4.out Y2 (fun _ => True) (fun _ => True) a1 a2 n1 c1 n2 c2
        (fun ts h => (kids_blk (KY.out.1 ts h)).keep (W' := Y2) (fun g hg => by
          rw [yf g (by have := hg.1; omega), Below.heap_alloc w6 _ _ (by have := hg.2; have := hb6.size; omega), hb6.block g hg.2]) (fun _ _ => trivial))
        (fun ts h => (kids_blk (KY.out.2 ts h)).keep (W' := Y2) (fun g hg => by
          rw [yf g (by have := hg.1; omega), Below.heap_alloc w6 _ _ (by have := hg.2; have := hb6.size; omega), hb6.block g hg.2]) (fun _ _ => trivial)))
      have t0 : Y2.cell? ⟨w2.heap.size, 0, none⟩ = some (.int .i64 0) := cellB y2t rfl
      have t1 : Y2.cell? ⟨w2.heap.size, 1, none⟩ = some (.int .u64 0) := cellB y2t rfl
      have t2 : Y2.cell? ⟨w2.heap.size, 2, none⟩ = some (.int .u64 0) := cellB y2t rfl
      have t3 : Y2.cell? ⟨w2.heap.size, 3, none⟩ = some (.int .u64 0) := cellB y2t rfl
      have t4 : Y2.cell? ⟨w2.heap.size, 4, none⟩ = some (.int .u64 0) := cellB y2t rfl
      have t5 : Y2.cell? ⟨w2.heap.size, 5, none⟩ = some (.int .i64 0) := cellB y2t rfl
      have t6 : Y2.cell? ⟨w2.heap.size, 6, none⟩ = some (.int .i64 0) := cellB y2t rfl
      have t7 : Y2.cell? ⟨w2.heap.size, 7, none⟩ = some (.int .i64 0) := cellB y2t rfl
      have t8 : Y2.cell? ⟨w2.heap.size, 8, none⟩ = some (.slice a1 n1 c1) := cellB y2t rfl
      have u0 : Y2.cell? ⟨w5.heap.size, 0, none⟩ = some (.int .i64 0) := cellB y2u rfl
      have u1 : Y2.cell? ⟨w5.heap.size, 1, none⟩ = some (.int .u64 0) := cellB y2u rfl
      have u2 : Y2.cell? ⟨w5.heap.size, 2, none⟩ = some (.int .u64 0) := cellB y2u rfl
      have u3 : Y2.cell? ⟨w5.heap.size, 3, none⟩ = some (.int .u64 0) := cellB y2u rfl
      have u4 : Y2.cell? ⟨w5.heap.size, 4, none⟩ = some (.int .u64 0) := cellB y2u rfl
      have u5 : Y2.cell? ⟨w5.heap.size, 5, none⟩ = some (.int .i64 0) := cellB y2u rfl
      have u6 : Y2.cell? ⟨w5.heap.size, 6, none⟩ = some (.int .i64 0) := cellB y2u rfl
      have u7 : Y2.cell? ⟨w5.heap.size, 7, none⟩ = some (.int .i64 0) := cellB y2u rfl
      have u8 : Y2.cell? ⟨w5.heap.size, 8, none⟩ = some (.slice a2 n2 c2) := cellB y2u rfl
      have mm0 : Y2.cell? ⟨w3.heap.size, 0, none⟩ = some (.int .i64 m1) := cellB y2m rfl
      have mm1 : Y2.cell? ⟨w3.heap.size, 1, none⟩ = some (.int .i64 m2) := cellB y2m rfl
      have mm2 : Y2.cell? ⟨w3.heap.size, 2, none⟩ = some (.int .i64 m3) := cellB y2m rfl
      have mm3 : Y2.cell? ⟨w3.heap.size, 3, none⟩ = some (.int .i64 m4) := cellB y2m rfl
      have mm4 : Y2.cell? ⟨w3.heap.size, 4, none⟩ = some (.bool b1) := cellB y2m rfl
      have mm5 : Y2.cell? ⟨w3.heap.size, 5, none⟩ = some (.bool b2) := cellB y2m rfl
      have mm6 : Y2.cell? ⟨w3.heap.size, 6, none⟩ = some (.bool b3) := cellB y2m rfl
      have nn0 : Y2.cell? ⟨w6.heap.size, 0, none⟩ = some (.int .i64 m1) := cellB y2n rfl
      have nn1 : Y2.cell? ⟨w6.heap.size, 1, none⟩ = some (.int .i64 m2) := cellB y2n rfl
      have nn2 : Y2.cell? ⟨w6.heap.size, 2, none⟩ = some (.int .i64 m3) := cellB y2n rfl
      have nn3 : Y2.cell? ⟨w6.heap.size, 3, none⟩ = some (.int .i64 m4) := cellB y2n rfl
      have nn4 : Y2.cell? ⟨w6.heap.size, 4, none⟩ = some (.bool b1) := cellB y2n rfl
      have nn5 : Y2.cell? ⟨w6.heap.size, 5, none⟩ = some (.bool b2) := cellB y2n rfl
      have nn6 : Y2.cell? ⟨w6.heap.size, 6, none⟩ = some (.bool b3) := cellB y2n rfl
      have fe : Y2.cell? ⟨w2.heap.size + 1, 0, none⟩ = some (.int .i64 0) := cellB y2f rfl
      have ge : Y2.cell? ⟨w3.heap.size + 1, 0, none⟩ = some (.int .i64 0) := cellB y2g rfl
      have HZ := hideT (And.intro hBY2 (And.intro y2m y2n))
      clear x6t x6f x6m x6g x6u yf y2g y2t y2f y2m y2u y2n hB6 hBY2 hY1s hb6 hll hl6 hw2
      go_upto_region 13 with fail
      rw [← hY2]
      clear hY2 gc0 gc1 gf0 gf1
      go_wp2_with fail
      refine KZ.out.mono ?_
      rintro e w7 ⟨rfl, hb7⟩
      have z7m := keepB hb7 HZ.out.2.1
      have z7n := keepB hb7 HZ.out.2.2
      have km0 : w7.cell? ⟨w3.heap.size, 0, none⟩ = some (.int .i64 m1) := cellB z7m rfl
      have km1 : w7.cell? ⟨w3.heap.size, 1, none⟩ = some (.int .i64 m2) := cellB z7m rfl
      have km2 : w7.cell? ⟨w3.heap.size, 2, none⟩ = some (.int .i64 m3) := cellB z7m rfl
      have km3 : w7.cell? ⟨w3.heap.size, 3, none⟩ = some (.int .i64 m4) := cellB z7m rfl
      have km4 : w7.cell? ⟨w3.heap.size, 4, none⟩ = some (.bool b1) := cellB z7m rfl
      have km5 : w7.cell? ⟨w3.heap.size, 5, none⟩ = some (.bool b2) := cellB z7m rfl
      have km6 : w7.cell? ⟨w3.heap.size, 6, none⟩ = some (.bool b3) := cellB z7m rfl
      have kn0 : w7.cell? ⟨w6.heap.size, 0, none⟩ = some (.int .i64 m1) := cellB z7n rfl
      have kn1 : w7.cell? ⟨w6.heap.size, 1, none⟩ = some (.int .i64 m2) := cellB z7n rfl
      have kn2 : w7.cell? ⟨w6.heap.size, 2, none⟩ = some (.int .i64 m3) := cellB z7n rfl
      have kn3 : w7.cell? ⟨w6.heap.size, 3, none⟩ = some (.int .i64 m4) := cellB z7n rfl
      have kn4 : w7.cell? ⟨w6.heap.size, 4, none⟩ = some (.bool b1) := cellB z7n rfl
      have kn5 : w7.cell? ⟨w6.heap.size, 5, none⟩ = some (.bool b2) := cellB z7n rfl
      have kn6 : w7.cell? ⟨w6.heap.size, 6, none⟩ = some (.bool b3) := cellB z7n rfl
      have HR := hideT (HZ.out.1.trans (hb7.mono HZ.out.1.size))
      clear z7m z7n hb7 t0 t1 t2 t3 t4 t5 t6 t7 t8 u0 u1 u2 u3 u4 u5 u6 u7 u8 fe ge
      go_wp2
      go_ret
      exact ⟨by simp, HR.out⟩
    · subst e0
      have mS : (512 : Int) < (S.size : Int) := by omega
      clear l0
      go_wp2
      go_ret
      exact ⟨rfl, B4.out.1⟩
  · have k1 : (E == 0) = false := by rw [beq_eq_false_iff_ne]; exact e0
    have k2 : (E != 0) = true := by rw [bne_iff_ne]; exact e0
    clear e0
    go_wp2
    go_ret
    exact ⟨rfl, B4.out.1⟩

theorem walk (s : ByteArray) (w : World) (hg : Glob w) (ht : Tab w) : Calls Tryd.prog 3 #[.string s] w fun e w' => e = .returned (.bool true) ∧ Below w.heap.size w w' := by
  have hG := fun (W : World) (h : Below w.heap.size w W) => hg.below h (Nat.le_refl _)
  have hT := fun (W : World) (h : Below w.heap.size w W) => ht.below h (Nat.le_refl _)
  have hM : ∀ t W, Glob W → Calls Tryd.prog 5 #[.string t] W fun e w' => e = .returned (.tuple #[.agg #[.int .i64 (ofM t).1.pos, .int .i64 (ofM t).1.groups, .int .i64 (ofM t).1.least, .int .i64 (ofM t).1.most, .bool (ofM t).1.back, .bool (ofM t).1.bol, .bool (ofM t).1.eol], .agg #[.int .i64 (textX t).2.1, .int .i64 ((textX t).2.2 : Nat)]]) ∧ Below W.heap.size W w' := fun t W h => by
    have h2 := mOf_any t W h
    rw [ofM_textX t] at h2
    exact h2
  refine core s ⟨(textX s).1.toArray⟩ (textX s).2.1 (textX s).2.2 (ofM s).1.pos (ofM s).1.groups (ofM s).1.least (ofM s).1.most (ofM s).1.back (ofM s).1.bol (ofM s).1.eol w (hideT (parse_fault _ 6 1 awake_end w hg))
    (hideT fun W h => parseX_any s W (hG W h)) (hideT fun W h => hM s W (hG W h)) (hideT fun W h => canonText_any s W (hG W h) (hT W h)) (hideT ?_) (hideT ?_) (hideT ?_)
  · intro h1 h2 W h
    rw [size_str] at h2
    obtain ⟨ts, us, hp, hq, hn, he⟩ := back_of h1 h2
    have h3 := parseX_any ⟨(textX s).1.toArray⟩ W (hG W h)
    rw [he] at h3
    exact h3
  · intro h1 h2 W h
    rw [size_str] at h2
    obtain ⟨ts, us, hp, hq, hn, he⟩ := back_of h1 h2
    have h3 := hM ⟨(textX s).1.toArray⟩ W (hG W h)
    rw [he, ofM_back h1 h2] at h3
    exact h3
  · intro h1 h2 W ok ok2 a1 a2 n1 c1 n2 c2 k1 k2
    rw [size_str] at h2
    obtain ⟨ts, us, hp, hq, hn, he⟩ := back_of h1 h2
    exact same_any _ (catT ts) (Nat.lt_succ_self _) (parse_small s ts hp) W ok ok2 a1 a2 n1 c1 n2 c2 (k1 ts hp) (kids_swap (k2 us hq) ts hn)
end wtexts
end Go.Proofs.YtemgfbidfdhanaaDoor
