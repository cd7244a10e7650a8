/- template: Parse. -/
import Derived.Test.YtjfkhlmoppbbgaaGreatDoorKTd
import Derived.Deep.MidRow
namespace Go.Proofs.YtjfkhlmoppbbgaaGreatDoor
namespace tpl
open Go.RowKit

theorem runP_nil (k : Nat) (x : Ga) : runP [] k x = (x.out, 0, 0) := by unfold runP; rfl
theorem runP_amp (b : UInt8) (r : List UInt8) (k : Nat) (x : Ga) (h : b.toNat = 38) : runP (b :: r) k x = runP r (k + 1) (x.group 0) := by
  rw [runP.eq_def]
  dsimp only
  rw [if_pos h]
theorem runP_nl (b : UInt8) (r : List UInt8) (k : Nat) (x : Ga) (h : b.toNat = 10) : runP (b :: r) k x = (⟨[], []⟩, 19, k) := by
  rw [runP.eq_def]
  dsimp only
  rw [if_neg (by omega), if_pos h]
theorem runP_pl (b : UInt8) (r : List UInt8) (k : Nat) (x : Ga) (h1 : b.toNat ≠ 38) (h2 : b.toNat ≠ 10) (h3 : b.toNat ≠ 92) : runP (b :: r) k x = runP r (k + 1) (x.plain b) := by
  rw [runP.eq_def]
  dsimp only
  rw [if_neg h1, if_neg h2, if_pos h3]
theorem runP_end (b : UInt8) (k : Nat) (x : Ga) (h : b.toNat = 92) : runP [b] k x = (⟨[], []⟩, 6, k) := by
  rw [runP, if_neg (by omega), if_neg (by omega), if_neg (by omega)]
theorem runP_esc (b c : UInt8) (q : List UInt8) (k : Nat) (x : Ga) (h : b.toNat = 92) : runP (b :: c :: q) k x = runP q (k + 2) (x.esc c) := by
  rw [runP, if_neg (by omega), if_neg (by omega), if_neg (by omega)]

theorem drop_at (s : ByteArray) (k : Nat) (h : k < s.size) : s.data.toList.drop k = s[k] :: s.data.toList.drop (k + 1) := by
  rw [List.drop_eq_getElem_cons (by simpa using h)]
  rfl

theorem esc_wt (x : Ga) (c : UInt8) : (x.esc c).wt ≤ x.wt + 1 := by
  unfold Ga.esc
  split
  · exact group_wt _ _
  · split <;> exact plain_wt _ _
theorem group_bs (x : Ga) (n : Int) : (x.group n).bs = [] := rfl
theorem plain_bs (x : Ga) (b : UInt8) : (x.plain b).bs.length = x.bs.length + 1 := by simp [Ga.plain]
theorem esc_bs (x : Ga) (c : UInt8) : (x.esc c).bs.length ≤ x.bs.length + 1 := by
  unfold Ga.esc
  split
  · rw [group_bs]; simp
  · split <;> rw [plain_bs] <;> omega
theorem ps_wt (x : Ga) : x.ps.length ≤ x.wt := by unfold Ga.wt; omega

theorem range_block {W : World} {b : Nat} {cs : List Value} {t : TypeId} {fr : Nat × Nat} (h : W.heap[b]? = some (.cells cs.toArray t fr)) : W.rangeAt b 0 cs := fun j v hv => by
  simp [World.cell?, h, hv]
theorem info25 : (Tryz.prog.info? 25).map (·.size) = some 2 := by kernel_rfl
/-- The end of a function that hands back a value and a fault. -/
theorem fault_result {fn : Func} {W : World} {t r b : Nat} {tmps : Array Value} {x y : Value} {fr : Nat × Nat} (hf : fn.results = #[.tmp t, .cell r 25]) (hr : tmps[r]?.getD undef = .pointer (some ⟨b, 0, none⟩)) (h : W.heap[b]? = some (.cells #[x, y] 25 fr)) : (results fn tmps).run Tryz.prog W = .ok (.tuple #[tmps.getD t undef, .agg #[x, y]]) W := by
  have := run_loadVar_mid (P := Tryz.prog) W b 0 25 [x, y] _ (range_block h) Tryz.underlying25 rfl (by rw [info25]; rfl)
  simp [results, hf, asAddr, hr, this]

/-- Two cells of a block written. -/
theorem put2 {W : World} {b t : Nat} {x y : Value} (h : W.heap[b]? = some (.cells #[x, y] t (0, 0))) (u v : Value) : ((W.setCell ⟨b, 0, none⟩ u).setCell ⟨b, 1, none⟩ v).heap[b]? = some (.cells #[u, v] t (0, 0)) := by
  simp only [World.setCell, Array.getElem?_modify, if_true, h, Option.map_some]
  rfl
theorem owns_put2 {W : World} {B e size n b t : Nat} {v x y : Value} {xs : List Value} (h : W.ownsRow B e size v n xs) (hb : W.heap[b]? = some (.cells #[x, y] t (0, 0))) (ht : e ≠ t) (u u' : Value) : ((W.setCell ⟨b, 0, none⟩ u).setCell ⟨b, 1, none⟩ u').ownsRow B e size v n xs :=
  owns_keep h fun g hg => by
    obtain ⟨_, _, cur, h3⟩ := owns_blk h hg
    have hne : g ≠ b := fun e2 => by
      rw [e2, hb] at h3
      cases h3
      exact ht rfl
    rw [put_far _ _ _ _ hne, put_far _ _ _ _ hne]
theorem owns_mono {W : World} {B B' e size n : Nat} {v : Value} {xs : List Value} (h : W.ownsRow B e size v n xs) (hb : B' ≤ B) : W.ownsRow B' e size v n xs := by
  obtain ⟨hl, h⟩ := h
  refine ⟨hl, ?_⟩
  rcases h with h | ⟨g, cap, cur, hv, hg, rest⟩
  · exact .inl h
  · exact .inr ⟨g, cap, cur, hv, Nat.le_trans hb hg, rest⟩

/-- What lies where while Parse goes on. -/
def PaR (X0 : World) (B : Nat) (s : ByteArray) (k : Nat) (x : Ga) (W : World) : Prop :=
  GaAt W B B x ∧ Below B X0 W ∧ runP (s.data.toList.drop k) k x = runP s.data.toList 0 ⟨[], []⟩ ∧ x.wt ≤ k ∧ x.bs.length ≤ k

theorem ga_new (w : World) : GaAt (w.alloc (.cells #[.slice none 0 0, .slice none 0 0] 166)) w.heap.size w.heap.size ⟨[], []⟩ :=
  ⟨Nat.le_refl _, _, _, heap_alloc_new w _, World.ownsRow_nil _ _ _ _, World.ownsRow_nil _ _ _ _⟩

set_option maxRecDepth 100000 in
set_option maxHeartbeats 2000000 in
theorem parse_any (s : ByteArray) (hs : s.size ≤ 4611686018427387904) (w : World) :
    Calls Tryz.prog 90 #[.string s] w fun e w' => ∃ v, e = .returned (.tuple #[v, .agg #[.int .i64 ((parseR s.data.toList).2.1 : Nat), .int .i64 ((parseR s.data.toList).2.2 : Nat)]]) ∧ w'.ownsRow w.heap.size 47 2 v (parseR s.data.toList).1.ps.length (ptV (parseR s.data.toList).1.ps) ∧ Below w.heap.size w w' := by
  have hlen : s.data.toList.length = s.size := rfl
  by_cases hbig : 4096 < s.size
  · have hp : parseR s.data.toList = (⟨[], []⟩, 2, 0) := by unfold parseR; rw [hlen, if_pos hbig]
    rw [hp]
    have i1 : (4096 : Int) < (s.size : Int) := by omega
    have HB := hideT ((Below.refl _ w).alloc (Nat.le_refl _) (.cells #[.int .i64 2, .int .i64 0] 25))
    go_enter Tryz.func90, Tryz.ntmps90
    go_wp2
    refine bodyPost_ret (fault_result rfl rfl (heap_alloc_new w _)) rfl ?_
    exact ⟨.slice none 0 0, rfl, World.ownsRow_nil _ _ _ _, HB.out⟩
  · have hp : parseR s.data.toList = runP s.data.toList 0 ⟨[], []⟩ := by unfold parseR; rw [hlen, if_neg hbig]
    rw [hp]
    generalize hR : runP s.data.toList 0 ⟨[], []⟩ = R
    have HR := hideT hR
    clear hR hp
    have i1 : ((s.size : Int) ≤ 4096) := by omega
    have i1' : ((4096 : Int) < (s.size : Int)) = False := by rw [eq_iff_iff, iff_false]; omega
    have hX0 := (Below.refl _ w).alloc (Nat.le_refl _) (.cells #[.int .i64 0, .int .i64 0] 25)
    have x0 : (w.alloc (.cells #[.int .i64 0, .int .i64 0] 25)).heap[w.heap.size]? = some (.cells #[.int .i64 0, .int .i64 0] 25 (0, 0)) := heap_alloc_new w _
    have hga := ga_new (w.alloc (.cells #[.int .i64 0, .int .i64 0] 25))
    have hX1 := (Below.refl _ (w.alloc (.cells #[.int .i64 0, .int .i64 0] 25))).alloc (Nat.le_refl _) (.cells #[.slice none 0 0, .slice none 0 0] 166)
    rw [World.size_alloc] at hga hX1
    go_enter Tryz.func90, Tryz.ntmps90
    go_wp2_with fail
    generalize hV0 : (w.alloc (.cells #[.int .i64 0, .int .i64 0] 25)).alloc (.cells #[.slice none 0 0, .slice none 0 0] 166) = V0 at *
    clear hV0
    generalize hX : w.alloc (.cells #[.int .i64 0, .int .i64 0] 25) = X0 at *
    clear hX
    go_loopw [5] (fun i wr => ∃ (k : Nat) (x : Ga), k ≤ s.size ∧ i = .int .i64 k ∧ PaR X0 (w.heap.size + 1) s k x wr) (fun i _ => s.size - (intOf i).toNat)
    case atStart => exact ⟨0, ⟨[], []⟩, by omega, rfl, hga, hX1, by simp, by simp [Ga.wt], by simp⟩
    case round =>
      obtain ⟨k, x, hk, rfl, hG, hBw, hrun, hwt, hbs⟩ := hrel
      have hps := ps_wt x
      have xr := (hBw.block w.heap.size (by omega)).trans x0
      by_cases hlt : k < s.size
      · have i2 : (k : Int) < (s.size : Int) := by omega
        have i3 : (0 : Int) ≤ (k : Int) := by omega
        rw [drop_at s k hlt] at hrun
        have u0 : wr.cell? ⟨w.heap.size, 0, none⟩ = some (.int .i64 0) := by simp [World.cell?, xr]
        have u1 : wr.cell? ⟨w.heap.size, 1, none⟩ = some (.int .i64 0) := by simp [World.cell?, xr]
        have f0 : wr.frozen? ⟨w.heap.size, 0, none⟩ = false := by simp [World.frozen?, xr]
        have f1 : wr.frozen? ⟨w.heap.size, 1, none⟩ = false := by simp [World.frozen?, xr]
        by_cases c1 : (s[k]'hlt).toNat = 38
        · rw [runP_amp _ _ _ _ c1] at hrun
          have e1 : (((s[k]'hlt).toNat : Int) == 38) = true := by rw [beq_iff_eq]; omega
          have HC := hideT (group_any 0 wr hG (by omega) (by omega))
          have HS := hideT (And.intro hBw (And.intro hrun (And.intro (group_wt x 0) (group_bs x 0))))
          clear hG hBw hrun xr x0 hX0 hX1 hga
          go_wp2_with (go_at_call 112; refine HC.out.mono ?_)
          rintro e w1 ⟨rfl, h1, hb1⟩
          have HH := hideT (And.intro h1 hb1)
          clear h1 hb1 u0 u1 f0 f1
          go_wp2
          exact ⟨⟨k + 1, x.group 0, by omega, by go_num, HH.out.1, HS.out.1.trans HH.out.2, HS.out.2.1, by have := HS.out.2.2.1; omega, by rw [HS.out.2.2.2]; simp⟩, by simp [intOf]; omega⟩
        have e1 : (((s[k]'hlt).toNat : Int) == 38) = false := by rw [beq_eq_false_iff_ne]; omega
        by_cases c2 : (s[k]'hlt).toNat = 10
        · rw [runP_nl _ _ _ _ c2] at hrun
          have e2 : (((s[k]'hlt).toNat : Int) == 10) = true := by rw [beq_iff_eq]; omega
          obtain rfl := hrun.trans HR.out
          clear HR
          have HX : Hid _ := hideT (And.intro (put2 xr (.int .i64 19) (.int .i64 (k : Nat))) (((hX0.trans (hBw.mono (by omega))).setCell (p := ⟨w.heap.size, 0, none⟩) (Nat.le_refl _) (.int .i64 19)).setCell (p := ⟨w.heap.size, 1, none⟩) (Nat.le_refl _) (.int .i64 (k : Nat))))
          clear hG hBw xr x0 hX0 hX1 hga hwt hbs
          go_wp2
          refine bodyPost_ret (fault_result rfl rfl HX.out.1) rfl ?_
          exact ⟨.slice none 0 0, rfl, World.ownsRow_nil _ _ _ _, HX.out.2⟩
        have e2 : (((s[k]'hlt).toNat : Int) == 10) = false := by rw [beq_eq_false_iff_ne]; omega
        by_cases c3 : (s[k]'hlt).toNat = 92
        · have e3 : (((s[k]'hlt).toNat : Int) != 92) = false := by rw [bne_eq_false_iff_eq]; omega
          by_cases c4 : k + 1 = s.size
          · rw [show s.data.toList.drop (k + 1) = [] by rw [List.drop_eq_nil_iff, hlen]; omega, runP_end _ _ _ c3] at hrun
            have e4 : ((k : Int) == (s.size : Int) - 1) = true := by rw [beq_iff_eq]; omega
            have j4 : IntKind.i64.wrap ((s.size : Int) - 1) = (s.size : Int) - 1 := by rw [IntKind.wrap_i64]; omega
            obtain rfl := hrun.trans HR.out
            clear HR
            have HX : Hid _ := hideT (And.intro (put2 xr (.int .i64 6) (.int .i64 (k : Nat))) (((hX0.trans (hBw.mono (by omega))).setCell (p := ⟨w.heap.size, 0, none⟩) (Nat.le_refl _) (.int .i64 6)).setCell (p := ⟨w.heap.size, 1, none⟩) (Nat.le_refl _) (.int .i64 (k : Nat))))
            clear hG hBw xr x0 hX0 hX1 hga hwt hbs
            go_wp2
            refine bodyPost_ret (fault_result rfl rfl HX.out.1) rfl ?_
            exact ⟨.slice none 0 0, rfl, World.ownsRow_nil _ _ _ _, HX.out.2⟩
          · have hlt2 : k + 1 < s.size := by omega
            rw [drop_at s (k + 1) hlt2, runP_esc _ _ _ _ _ c3] at hrun
            have e4 : ((k : Int) == (s.size : Int) - 1) = false := by rw [beq_eq_false_iff_ne]; omega
            have j4 : IntKind.i64.wrap ((s.size : Int) - 1) = (s.size : Int) - 1 := by rw [IntKind.wrap_i64]; omega
            have i4 : (k : Int) + 1 < (s.size : Int) := by omega
            have i5 : (0 : Int) ≤ (k : Int) + 1 := by omega
            have HC := hideT (escaped_any (s[k + 1]'hlt2) wr hG (by omega) (by omega))
            have HS := hideT (And.intro hBw (And.intro hrun (And.intro (esc_wt x (s[k + 1]'hlt2)) (esc_bs x (s[k + 1]'hlt2)))))
            clear hG hBw hrun xr x0 hX0 hX1 hga u0 u1 f0 f1
            go_wp2_with (go_at_call 114; refine HC.out.mono ?_)
            rintro e w1 ⟨rfl, h1, hb1⟩
            have HH := hideT (And.intro h1 hb1)
            clear h1 hb1
            go_wp2
            exact ⟨⟨k + 2, x.esc (s[k + 1]'hlt2), by omega, by go_num, HH.out.1, HS.out.1.trans HH.out.2, HS.out.2.1, by have := HS.out.2.2.1; omega, by have := HS.out.2.2.2; omega⟩, by simp [intOf]; omega⟩
        · have e3 : (((s[k]'hlt).toNat : Int) != 92) = true := by rw [bne_iff_ne]; omega
          rw [runP_pl _ _ _ _ c1 c2 c3] at hrun
          have HC := hideT (plain_any (s[k]'hlt) wr hG (by omega))
          have HS := hideT (And.intro hBw (And.intro hrun (And.intro (plain_wt x (s[k]'hlt)) (plain_bs x (s[k]'hlt)))))
          clear hG hBw hrun xr x0 hX0 hX1 hga u0 u1 f0 f1
          go_wp2_with (go_at_call 113; refine HC.out.mono ?_)
          rintro e w1 ⟨rfl, h1, hb1⟩
          have HH := hideT (And.intro h1 hb1)
          clear h1 hb1
          go_wp2
          exact ⟨⟨k + 1, x.plain (s[k]'hlt), by omega, by go_num, HH.out.1, HS.out.1.trans HH.out.2, HS.out.2.1, by have := HS.out.2.2.1; omega, by rw [HS.out.2.2.2]; omega⟩, by simp [intOf]; omega⟩
      · obtain rfl : k = s.size := by omega
        rw [show s.data.toList.drop s.size = [] by rw [List.drop_eq_nil_iff, hlen]; omega, runP_nil] at hrun
        obtain rfl := hrun.trans HR.out
        clear HR
        have HC := hideT (letOut_any wr hG (by omega) (by omega))
        go_wp2_with (go_at_call 115; refine HC.out.mono ?_)
        rintro e w1 ⟨rfl, h1, hb1⟩
        have xr1 := (hb1.block w.heap.size (by omega)).trans xr
        obtain ⟨_, vp, vb, k0, k1, k2⟩ := h1
        have u0 : w1.cell? ⟨w.heap.size, 0, none⟩ = some (.int .i64 0) := by simp [World.cell?, xr1]
        have u1 : w1.cell? ⟨w.heap.size, 1, none⟩ = some (.int .i64 0) := by simp [World.cell?, xr1]
        have f0 : w1.frozen? ⟨w.heap.size, 0, none⟩ = false := by simp [World.frozen?, xr1]
        have f1 : w1.frozen? ⟨w.heap.size, 1, none⟩ = false := by simp [World.frozen?, xr1]
        have p0 : w1.cell? ⟨w.heap.size + 1, 0, none⟩ = some vp := by simp [World.cell?, k0]
        have HX := hideT (And.intro (put2 xr1 (.int .i64 0) (.int .i64 0)) (And.intro (((hX0.trans ((hBw.trans hb1).mono (by omega))).setCell (p := ⟨w.heap.size, 0, none⟩) (Nat.le_refl _) (.int .i64 0)).setCell (p := ⟨w.heap.size, 1, none⟩) (Nat.le_refl _) (.int .i64 0)) (owns_put2 k1 xr1 (by decide) (.int .i64 0) (.int .i64 0))))
        clear hG hBw xr xr1 x0 hX0 hX1 hga hb1 k0 k1 k2 hwt hbs
        go_wp2
        refine bodyPost_ret (fault_result rfl rfl HX.out.1) rfl ?_
        refine ⟨vp, rfl, ?_, HX.out.2.1⟩
        exact owns_mono HX.out.2.2 (by omega)

end tpl
end Go.Proofs.YtjfkhlmoppbbgaaGreatDoor
