/- BreQuotes: the walk. -/
import Derived.Test.YtooanbbnjiogaaaKQd
import Derived.Test.YtooanbbnjiogaaaKPv
import Derived.Lib.QuietBelow
import Derived.Deep.QuietTactic
import Derived.BigQuiet
namespace Go.Proofs.Ytooanbbnjiogaaa
open Go.RowKit
open Go.Sort

/-- The blocks of a list of trees are blocks. -/
theorem kids_lt {W : World} {ok : Nat → Prop} {N : Nat} (hN : W.heap.size = N) {v : Value} {ts : List Tr} (h : Kids W ok v ts) : Kids W (fun g => ok g ∧ g < N) v ts := by
  induction h with
  | mk v ts vs hl own hok _ ih => exact .mk v ts vs hl own (fun g hg => ⟨hok g hg, by rw [← hN]; exact (owns_blk own hg).2.1⟩) ih

namespace quotes
/-- The text as the law takes it: at most 256 bytes. -/
def cutS (s : ByteArray) : ByteArray := if 256 < s.size then s.extract 0 256 else s
theorem cutS_size (s : ByteArray) : (cutS s).size ≤ 256 := by
  unfold cutS
  split
  · simp; omega
  · omega

theorem one_byte (s : ByteArray) (k : Nat) (hk : k < s.size) : s.extract k (k + 1) = ⟨#[UInt8.ofNat s[k].toNat]⟩ := by
  have h : (s.extract k (k + 1)).data.toList = [s[k]] := by
    rw [ByteArray.data_extract, Array.toList_extract, List.extract_eq_take_drop]
    have hk' : k < s.data.toList.length := by simpa using hk
    rw [Nat.add_sub_cancel_left, List.drop_eq_getElem_cons hk', List.take_succ_cons, List.take_zero]
    rfl
  rw [UInt8.ofNat_toNat]
  apply ByteArray.ext
  apply Array.toList_inj.1
  exact h

set_option maxRecDepth 100000 in
set_option maxHeartbeats 8000000 in
theorem walk (s0 : ByteArray) (w : World) (hg : Glob w) : Calls Try.prog 5 #[.string s0] w fun e w' => e = .returned (.bool true) ∧ Below w.heap.size w w' := by
  obtain ⟨s, hs⟩ : ∃ s, s = cutS s0 := ⟨_, rfl⟩
  have hsz : s.size ≤ 256 := by rw [hs]; exact cutS_size s0
  have hpt := parse_quote (bytesN s) (bytesN_lt s) (by rw [bytesN_len]; exact hsz)
  have hql : (bstr (quoteL (bytesN s))).size ≤ 1073741824 := by
    have := quoteL_len (bytesN s)
    rw [bytesN_len] at this
    rw [bstr_size]
    omega
  have HP := hideT (fun w hg => parse_ok _ hql _ hpt w hg)
  clear hql
  have hcut : (if 256 < s0.size then s0.extract 0 256 else s0) = s := hs.symm
  clear hs
  go_enter Try.func5, Try.ntmps5
  go_wp2_with fail
  refine (awake_any w hg).mono ?_
  rintro e w1 ⟨rfl, hB1⟩
  by_cases hlong : 256 < s0.size
  · rw [if_pos hlong] at hcut
    have k1 : (256 : Int) < (s0.size : Int) := by omega
    have k2 : (256 : Int) ≤ (s0.size : Int) := by omega
    go_wp2_with fail
    try rw [hcut]
    clear hcut k1 k2
    refine (quoted_any s hsz w1).mono ?_
    rintro e w2 ⟨rfl, hB2⟩
    go_wp2_with fail
    refine (HP.out w2 ((hg.below hB1 (Nat.le_refl _)).below hB2 (Nat.le_refl _))).mono ?_
    rintro e w3 ⟨hB3, a, n, c, rfl, hk⟩
    have hn : n = s.size := by
      obtain ⟨a', c', he⟩ := kids_shape hk
      injection he with _ h2 _
      rw [h2, List.length_map, bytesN_len]
    subst hn
    obtain ⟨X, hX⟩ : ∃ X, X = (w3.alloc (.cells #[.int .i64 0, .int .u64 0, .int .u64 0, .int .u64 0, .int .u64 0, .int .i64 0, .int .i64 0, .int .i64 0, .slice a s.size c] 27)).alloc (.cells #[.int .i64 0, .int .i64 0] 30) := ⟨_, rfl⟩
    have hBX : Below w3.heap.size w3 X := by rw [hX]; exact ((Below.refl _ _).alloc (Nat.le_refl _) _).alloc (by rw [World.size_alloc]; omega) _
    have x0 : X.cell? ⟨w3.heap.size, 0, none⟩ = some (.int .i64 0) := by
      rw [hX, World.cell?_of_block (a := ⟨w3.heap.size, 0, none⟩) (Below.heap_alloc _ _ w3.heap.size (by rw [World.size_alloc]; omega))]
      exact (new_cell w3 _ 27 _ rfl 0 _ rfl).1
    have x8 : X.cell? ⟨w3.heap.size, 8, none⟩ = some (.slice a s.size c) := by
      rw [hX, World.cell?_of_block (a := ⟨w3.heap.size, 8, none⟩) (Below.heap_alloc _ _ w3.heap.size (by rw [World.size_alloc]; omega))]
      exact (new_cell w3 _ 27 _ rfl 8 _ rfl).1
    have xf : X.cell? ⟨w3.heap.size + 1, 0, none⟩ = some (.int .i64 0) := by
      rw [hX]
      exact (new_cell (w3.alloc _) _ 30 _ (World.size_alloc _ _) 0 _ rfl).1
    have hkX : Kids X (fun g => w2.heap.size ≤ g ∧ g < w3.heap.size) (.slice a s.size c) ((bytesN s).map fun b => byteT (selfP b)) := by
      refine (kids_lt rfl hk).keep (fun g hg => hBX.block g hg.2) (fun _ h => h)
    have hBw : Below w.heap.size w X := below_next (below_next (below_next hB1 hB2) hB3) hBX
    have HK := hideT (And.intro hkX (And.intro hBw hBX))
    clear hk hkX hBw hB1 hB2 hB3 HP hpt hBX
    go_wp2_with fail
    rw [← hX]
    clear hX
    go_wp2_with fail
    go_loopw [39] (fun i wr => ∃ k : Nat, k ≤ s.size ∧ i = .int .i64 k ∧ Below X.heap.size X wr) (fun i _ => (s.size - intOf i).toNat)
    case atStart => exact ⟨0, by omega, rfl, Below.refl _ _⟩
    case round =>
      obtain ⟨k, hk1, rfl, hB⟩ := hrel
      by_cases hlt : k < s.size
      · have hkr : Kids wr (fun g => w2.heap.size ≤ g ∧ g < w3.heap.size) (.slice a s.size c) ((bytesN s).map fun b => byteT (selfP b)) := HK.out.1.keep (fun g hg => hB.block g (Nat.lt_of_lt_of_le hg.2 HK.out.2.2.size)) (fun _ h => h)
        obtain ⟨g, c', u, he, hgk, hgl, hcell, hku⟩ := kids_at hkr (i := k) (t := byteT (selfP s[k].toNat)) (by rw [List.getElem?_map, List.getElem?_eq_getElem (by rw [bytesN_len]; exact hlt)]; simp [bytesN]; rfl)
        obtain rfl : a = some ⟨g, 0, none⟩ := by injection he
        obtain ⟨ua, uc, rfl⟩ := kids_shape hku
        obtain ⟨q, hq⟩ : ∃ q, q = selfP s[k].toNat := ⟨_, rfl⟩
        rw [← hq] at hcell
        have y0 := (hcell 0 _ rfl).1
        have y1 := (hcell 1 _ rfl).1
        have y2 := (hcell 2 _ rfl).1
        have y3 := (hcell 3 _ rfl).1
        have y4 := (hcell 4 _ rfl).1
        have y5 := (hcell 5 _ rfl).1
        have y6 := (hcell 6 _ rfl).1
        have y7 := (hcell 7 _ rfl).1
        have y8 := (hcell 8 _ rfl).1
        simp only [byteT, Tr.kind, Tr.q, Tr.lo, Tr.hi, Tr.grp, Tr.kids, List.length_nil, Nat.add_zero] at y0 y1 y2 y3 y4 y5 y6 y7 y8
        have k3 : (k : Int) < (s.size : Int) := by omega
        have k4 : (0 : Int) ≤ (k : Int) := by omega
        have k5 : IntKind.i64.wrap ((k : Int) + 1) = (k : Int) + 1 := by rw [IntKind.wrap_i64]; omega
        have k6 : (k : Int) + 1 ≤ (s.size : Int) := by omega
        have k7 : (k : Int) ≤ (k : Int) + 1 := by omega
        have k8 : ((k : Int) + 1).toNat = k + 1 := by omega
        have k9 : (0 : Int) ≤ (k : Int) + 1 := by omega
        have hone := one_byte s k hlt
        have hne : ∀ w, (binOp .neq 24 (.agg #[.int .u64 (wd q 0 : Nat), .int .u64 (wd q 1 : Nat), .int .u64 (wd q 2 : Nat), .int .u64 (wd q 3 : Nat)]) (.agg #[.int .u64 (wd q 0 : Nat), .int .u64 (wd q 1 : Nat), .int .u64 (wd q 2 : Nat), .int .u64 (wd q 3 : Nat)])).run Try.prog w = .ok (.bool false) w := fun w => by rw [run_neq_set, eqB_of (fun _ _ => rfl)]; rfl
        have HQ := hideT hq
        clear hkr hcell hku he hgk hq
        go_wp2_with fail
        obtain ⟨V, hV⟩ : ∃ V, V = wr.alloc (.cells #[.int .i64 1, .int .u64 (wd q 0 : Nat), .int .u64 (wd q 1 : Nat), .int .u64 (wd q 2 : Nat), .int .u64 (wd q 3 : Nat), .int .i64 0, .int .i64 0, .int .i64 0, .slice ua 0 uc] 27) := ⟨_, rfl⟩
        rw [← hV]
        have hbV : V.heap[wr.heap.size]? = some (.cells #[.int .i64 1, .int .u64 (wd q 0 : Nat), .int .u64 (wd q 1 : Nat), .int .u64 (wd q 2 : Nat), .int .u64 (wd q 3 : Nat), .int .i64 0, .int .i64 0, .int .i64 0, .slice ua 0 uc] 27 (0, 0)) := by rw [hV]; exact heap_alloc_new wr _
        have hlV : wr.heap.size < V.heap.size := by rw [hV, World.size_alloc]; omega
        have hBV : Below X.heap.size X V := by rw [hV]; exact hB.alloc hB.size _
        have z := fun (j : Nat) (x : Value) (hx : #[.int .i64 1, .int .u64 (wd q 0 : Nat), .int .u64 (wd q 1 : Nat), .int .u64 (wd q 2 : Nat), .int .u64 (wd q 3 : Nat), .int .i64 0, .int .i64 0, .int .i64 0, .slice ua 0 uc][j]? = some x) (d : Nat) (os : Array Obj) => (show (grow (redrawn V d) os).cell? ⟨wr.heap.size, j, none⟩ = some x from (World.cell?_of_block (a := ⟨wr.heap.size, j, none⟩) ((below_regrown V d os).block _ hlV)).trans (by simp only [World.cell?, hbV]; exact hx))
        have z0 := z 0 _ rfl
        have z1 := z 1 _ rfl
        have z2 := z 2 _ rfl
        have z3 := z 3 _ rfl
        have z4 := z 4 _ rfl
        have cO : Hid (∀ d os, Calls Try.prog 16 #[.string (s.extract k (k + 1))] (grow (redrawn V d) os) fun e w'' => e = .returned (.agg #[.int .u64 (wd q 0 : Nat), .int .u64 (wd q 1 : Nat), .int .u64 (wd q 2 : Nat), .int .u64 (wd q 3 : Nat)]) ∧ ∃ p : Regrown, w'' = grow (redrawn V p.d) p.os) := hideT (fun d os => by
          rw [hone, HQ.out]
          exact Calls.regrown_of (refOfD _ (by unfold maxLen; show 1 ≤ _; omega) _))
        have HBV := hideT hBV
        clear hV hbV hlV hBV z y0 y1 y2 y3 y4 y5 y6 y7 y8 hone HQ
        refine wp_region_quiet_below (by kernel_rfl) (by kernel_rfl) ?_
        repeat (quiet_step (with_reducible exact cO.out _ _))
        refine wpQuiet_nil ?_
        intro _ hw'
        obtain ⟨⟨dq, osq⟩, hw''⟩ := hw'
        subst hw''
        have HB4 := hideT (HBV.out.trans ((below_regrown V dq osq).mono HBV.out.size))
        clear z0 z1 z2 z3 z4 cO hne HBV
        go_wp2
        exact ⟨⟨k + 1, by omega, by go_num, HB4.out⟩, by simp [intOf]; omega⟩
      · obtain rfl : k = s.size := by omega
        have k3 : ¬ (s.size : Int) < (s.size : Int) := by omega
        have HB4 := hideT (HK.out.2.1.trans (hB.mono HK.out.2.1.size))
        clear HK hB
        go_wp2
        go_ret
        exact ⟨rfl, HB4.out⟩
  · rw [if_neg hlong] at hcut
    have k1 : ((256 : Int) < (s0.size : Int)) = False := eq_false (by omega)
    go_wp2_with fail
    try rw [hcut]
    clear k1
    refine (quoted_any s hsz w1).mono ?_
    rintro e w2 ⟨rfl, hB2⟩
    go_wp2_with fail
    refine (HP.out w2 ((hg.below hB1 (Nat.le_refl _)).below hB2 (Nat.le_refl _))).mono ?_
    rintro e w3 ⟨hB3, a, n, c, rfl, hk⟩
    have hn : n = s.size := by
      obtain ⟨a', c', he⟩ := kids_shape hk
      injection he with _ h2 _
      rw [h2, List.length_map, bytesN_len]
    subst hn
    obtain ⟨X, hX⟩ : ∃ X, X = (w3.alloc (.cells #[.int .i64 0, .int .u64 0, .int .u64 0, .int .u64 0, .int .u64 0, .int .i64 0, .int .i64 0, .int .i64 0, .slice a s.size c] 27)).alloc (.cells #[.int .i64 0, .int .i64 0] 30) := ⟨_, rfl⟩
    have hBX : Below w3.heap.size w3 X := by rw [hX]; exact ((Below.refl _ _).alloc (Nat.le_refl _) _).alloc (by rw [World.size_alloc]; omega) _
    have x0 : X.cell? ⟨w3.heap.size, 0, none⟩ = some (.int .i64 0) := by
      rw [hX, World.cell?_of_block (a := ⟨w3.heap.size, 0, none⟩) (Below.heap_alloc _ _ w3.heap.size (by rw [World.size_alloc]; omega))]
      exact (new_cell w3 _ 27 _ rfl 0 _ rfl).1
    have x8 : X.cell? ⟨w3.heap.size, 8, none⟩ = some (.slice a s.size c) := by
      rw [hX, World.cell?_of_block (a := ⟨w3.heap.size, 8, none⟩) (Below.heap_alloc _ _ w3.heap.size (by rw [World.size_alloc]; omega))]
      exact (new_cell w3 _ 27 _ rfl 8 _ rfl).1
    have xf : X.cell? ⟨w3.heap.size + 1, 0, none⟩ = some (.int .i64 0) := by
      rw [hX]
      exact (new_cell (w3.alloc _) _ 30 _ (World.size_alloc _ _) 0 _ rfl).1
    have hkX : Kids X (fun g => w2.heap.size ≤ g ∧ g < w3.heap.size) (.slice a s.size c) ((bytesN s).map fun b => byteT (selfP b)) := by
      refine (kids_lt rfl hk).keep (fun g hg => hBX.block g hg.2) (fun _ h => h)
    have hBw : Below w.heap.size w X := below_next (below_next (below_next hB1 hB2) hB3) hBX
    have HK := hideT (And.intro hkX (And.intro hBw hBX))
    clear hk hkX hBw hB1 hB2 hB3 HP hpt hBX
    go_wp2_with fail
    rw [← hX]
    clear hX
    go_wp2_with fail
    go_loopw [39] (fun i wr => ∃ k : Nat, k ≤ s.size ∧ i = .int .i64 k ∧ Below X.heap.size X wr) (fun i _ => (s.size - intOf i).toNat)
    case atStart => exact ⟨0, by omega, rfl, Below.refl _ _⟩
    case round =>
      obtain ⟨k, hk1, rfl, hB⟩ := hrel
      by_cases hlt : k < s.size
      · have hkr : Kids wr (fun g => w2.heap.size ≤ g ∧ g < w3.heap.size) (.slice a s.size c) ((bytesN s).map fun b => byteT (selfP b)) := HK.out.1.keep (fun g hg => hB.block g (Nat.lt_of_lt_of_le hg.2 HK.out.2.2.size)) (fun _ h => h)
        obtain ⟨g, c', u, he, hgk, hgl, hcell, hku⟩ := kids_at hkr (i := k) (t := byteT (selfP s[k].toNat)) (by rw [List.getElem?_map, List.getElem?_eq_getElem (by rw [bytesN_len]; exact hlt)]; simp [bytesN]; rfl)
        obtain rfl : a = some ⟨g, 0, none⟩ := by injection he
        obtain ⟨ua, uc, rfl⟩ := kids_shape hku
        obtain ⟨q, hq⟩ : ∃ q, q = selfP s[k].toNat := ⟨_, rfl⟩
        rw [← hq] at hcell
        have y0 := (hcell 0 _ rfl).1
        have y1 := (hcell 1 _ rfl).1
        have y2 := (hcell 2 _ rfl).1
        have y3 := (hcell 3 _ rfl).1
        have y4 := (hcell 4 _ rfl).1
        have y5 := (hcell 5 _ rfl).1
        have y6 := (hcell 6 _ rfl).1
        have y7 := (hcell 7 _ rfl).1
        have y8 := (hcell 8 _ rfl).1
        simp only [byteT, Tr.kind, Tr.q, Tr.lo, Tr.hi, Tr.grp, Tr.kids, List.length_nil, Nat.add_zero] at y0 y1 y2 y3 y4 y5 y6 y7 y8
        have k3 : (k : Int) < (s.size : Int) := by omega
        have k4 : (0 : Int) ≤ (k : Int) := by omega
        have k5 : IntKind.i64.wrap ((k : Int) + 1) = (k : Int) + 1 := by rw [IntKind.wrap_i64]; omega
        have k6 : (k : Int) + 1 ≤ (s.size : Int) := by omega
        have k7 : (k : Int) ≤ (k : Int) + 1 := by omega
        have k8 : ((k : Int) + 1).toNat = k + 1 := by omega
        have k9 : (0 : Int) ≤ (k : Int) + 1 := by omega
        have hone := one_byte s k hlt
        have hne : ∀ w, (binOp .neq 24 (.agg #[.int .u64 (wd q 0 : Nat), .int .u64 (wd q 1 : Nat), .int .u64 (wd q 2 : Nat), .int .u64 (wd q 3 : Nat)]) (.agg #[.int .u64 (wd q 0 : Nat), .int .u64 (wd q 1 : Nat), .int .u64 (wd q 2 : Nat), .int .u64 (wd q 3 : Nat)])).run Try.prog w = .ok (.bool false) w := fun w => by rw [run_neq_set, eqB_of (fun _ _ => rfl)]; rfl
        have HQ := hideT hq
        clear hkr hcell hku he hgk hq
        go_wp2_with fail
        obtain ⟨V, hV⟩ : ∃ V, V = wr.alloc (.cells #[.int .i64 1, .int .u64 (wd q 0 : Nat), .int .u64 (wd q 1 : Nat), .int .u64 (wd q 2 : Nat), .int .u64 (wd q 3 : Nat), .int .i64 0, .int .i64 0, .int .i64 0, .slice ua 0 uc] 27) := ⟨_, rfl⟩
        rw [← hV]
        have hbV : V.heap[wr.heap.size]? = some (.cells #[.int .i64 1, .int .u64 (wd q 0 : Nat), .int .u64 (wd q 1 : Nat), .int .u64 (wd q 2 : Nat), .int .u64 (wd q 3 : Nat), .int .i64 0, .int .i64 0, .int .i64 0, .slice ua 0 uc] 27 (0, 0)) := by rw [hV]; exact heap_alloc_new wr _
        have hlV : wr.heap.size < V.heap.size := by rw [hV, World.size_alloc]; omega
        have hBV : Below X.heap.size X V := by rw [hV]; exact hB.alloc hB.size _
        have z := fun (j : Nat) (x : Value) (hx : #[.int .i64 1, .int .u64 (wd q 0 : Nat), .int .u64 (wd q 1 : Nat), .int .u64 (wd q 2 : Nat), .int .u64 (wd q 3 : Nat), .int .i64 0, .int .i64 0, .int .i64 0, .slice ua 0 uc][j]? = some x) (d : Nat) (os : Array Obj) => (show (grow (redrawn V d) os).cell? ⟨wr.heap.size, j, none⟩ = some x from (World.cell?_of_block (a := ⟨wr.heap.size, j, none⟩) ((below_regrown V d os).block _ hlV)).trans (by simp only [World.cell?, hbV]; exact hx))
        have z0 := z 0 _ rfl
        have z1 := z 1 _ rfl
        have z2 := z 2 _ rfl
        have z3 := z 3 _ rfl
        have z4 := z 4 _ rfl
        have cO : Hid (∀ d os, Calls Try.prog 16 #[.string (s.extract k (k + 1))] (grow (redrawn V d) os) fun e w'' => e = .returned (.agg #[.int .u64 (wd q 0 : Nat), .int .u64 (wd q 1 : Nat), .int .u64 (wd q 2 : Nat), .int .u64 (wd q 3 : Nat)]) ∧ ∃ p : Regrown, w'' = grow (redrawn V p.d) p.os) := hideT (fun d os => by
          rw [hone, HQ.out]
          exact Calls.regrown_of (refOfD _ (by unfold maxLen; show 1 ≤ _; omega) _))
        have HBV := hideT hBV
        clear hV hbV hlV hBV z y0 y1 y2 y3 y4 y5 y6 y7 y8 hone HQ
        refine wp_region_quiet_below (by kernel_rfl) (by kernel_rfl) ?_
        repeat (quiet_step (with_reducible exact cO.out _ _))
        refine wpQuiet_nil ?_
        intro _ hw'
        obtain ⟨⟨dq, osq⟩, hw''⟩ := hw'
        subst hw''
        have HB4 := hideT (HBV.out.trans ((below_regrown V dq osq).mono HBV.out.size))
        clear z0 z1 z2 z3 z4 cO hne HBV
        go_wp2
        exact ⟨⟨k + 1, by omega, by go_num, HB4.out⟩, by simp [intOf]; omega⟩
      · obtain rfl : k = s.size := by omega
        have k3 : ¬ (s.size : Int) < (s.size : Int) := by omega
        have HB4 := hideT (HK.out.2.1.trans (hB.mono HK.out.2.1.size))
        clear HK hB
        go_wp2
        go_ret
        exact ⟨rfl, HB4.out⟩
end quotes
end Go.Proofs.Ytooanbbnjiogaaa
