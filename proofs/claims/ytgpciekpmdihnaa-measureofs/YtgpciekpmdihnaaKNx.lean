/- measure: the document's sums, by the tree: Groups, Least. -/
import Derived.Test.YtgpciekpmdihnaaKMd
import Derived.Test.YtgpciekpmdihnaaKDp
import Derived.Deep.RegionHeld3
namespace Go.Proofs.Ytgpciekpmdihnaa
open Go.RowKit
mutual
def wfT : Tr → Prop
  | .mk k _ lo hi _ kids => k ≤ 6 ∧ (k = 1 ∨ k = 2 ∨ k = 3 ∨ k = 6 → kids = []) ∧ (k = 5 → (0 ≤ lo ∧ lo ≤ 255) ∧ (hi = -1 ∨ lo ≤ hi ∧ hi ≤ 255) ∧ ∃ c, kids = [c]) ∧ wfL kids
def wfL : List Tr → Prop
  | [] => True
  | t :: ts => wfT t ∧ wfL ts
end
mutual
theorem wf_sh : ∀ (t : Tr) (s s' : Sh), ShT t s s' → wfT t
  | .mk k q lo hi g kids, s, s', h => by
    rcases h with ⟨rfl, _, _, _, _, h⟩ | ⟨hk, rfl, rfl, _, rfl, rfl⟩ | ⟨rfl, _, rfl, rfl, rfl, _, _, _, rfl⟩ | ⟨rfl, _, _, _, hg, hg9, _, s1, h, rfl⟩ | ⟨rfl, _, _, hlo, hhi, ⟨c, hc, _⟩, h⟩
    · exact ⟨by omega, (fun e => by omega), (fun e => by omega), wfL_sh kids s s' h⟩
    · refine ⟨?_, fun _ => rfl, fun e => ?_, trivial⟩
      · rcases hk with rfl | ⟨rfl | rfl, _⟩ <;> omega
      · rcases hk with rfl | ⟨rfl | rfl, _⟩ <;> omega
    · exact ⟨by omega, fun _ => rfl, (fun e => by omega), trivial⟩
    · exact ⟨by omega, (fun e => by omega), (fun e => by omega), wfL_sh kids _ s1 h⟩
    · exact ⟨by omega, (fun e => by omega), fun _ => ⟨hlo, hhi, c, hc⟩, wfL_sh kids s s' h⟩
theorem wfL_sh : ∀ (ts : List Tr) (s s' : Sh), ShL ts s s' → wfL ts
  | [], _, _, _ => trivial
  | t :: ts, s, s', h => by
    obtain ⟨s1, h1, h2⟩ := h
    exact ⟨wf_sh t s s1 h1, wfL_sh ts s1 s' h2⟩
end
theorem wfL_mem : ∀ (ts : List Tr), wfL ts → ∀ t ∈ ts, wfT t
  | t :: ts, h, x, hx => by
    rcases List.mem_cons.1 hx with rfl | hx
    · exact h.1
    · exact wfL_mem ts h.2 x hx
theorem ms_groups (k : Nat) (q : Nat → Bool) (lo hi : Int) (g : Nat) (ks : List Tr) (h : wfT (.mk k q lo hi g ks)) : (msT (.mk k q lo hi g ks)).groups = (if k = 4 then 1 else 0) + (msF .zero ks).groups := by
  obtain ⟨h1, h2, h3, _⟩ := h
  have hz : (k = 1 ∨ k = 2 ∨ k = 3 ∨ k = 6) → (msF .zero ks).groups = 0 := fun e => by rw [h2 e]; rfl
  simp only [msT]
  split
  · rename_i e; rw [hz (by omega), if_neg (by omega)]; rfl
  split
  · rename_i e; rw [hz (by omega), if_neg (by omega)]; rfl
  split
  · rename_i e; rw [hz (by omega), if_neg (by omega)]; rfl
  split
  · rename_i e; rw [hz (by omega), if_neg (by omega)]; rfl
  split
  · show (msF .zero ks).groups + 1 = _; omega
  split
  · show (msF .zero ks).groups = _; omega
  · show (msF .zero ks).groups = _; omega
theorem ms_least (k : Nat) (q : Nat → Bool) (lo hi : Int) (g : Nat) (ks : List Tr) (h : wfT (.mk k q lo hi g ks)) : (msT (.mk k q lo hi g ks)).least = if k = 1 then 1 else if k = 5 then (msF .zero ks).least * lo else (msF .zero ks).least := by
  obtain ⟨h1, h2, h3, _⟩ := h
  have hz : (k = 1 ∨ k = 2 ∨ k = 3 ∨ k = 6) → (msF .zero ks).least = 0 := fun e => by rw [h2 e]; rfl
  simp only [msT]
  split
  · rfl
  rename_i e1
  split
  · rename_i e; rw [hz (by omega), if_neg (by omega)]
  split
  · rename_i e; rw [hz (by omega), if_neg (by omega)]
  split
  · rename_i e; rw [hz (by omega), if_neg (by omega)]
  split
  · rename_i e; rw [if_neg (by omega)]; rfl
  split
  · rfl
  · rfl
theorem ms_has (k : Nat) (q : Nat → Bool) (lo hi : Int) (g : Nat) (ks : List Tr) (h : wfT (.mk k q lo hi g ks)) : (msT (.mk k q lo hi g ks)).back = (decide (k = 6) || (msF .zero ks).back) ∧ (msT (.mk k q lo hi g ks)).bol = (decide (k = 2) || (msF .zero ks).bol) ∧ (msT (.mk k q lo hi g ks)).eol = (decide (k = 3) || (msF .zero ks).eol) := by
  obtain ⟨h1, h2, h3, _⟩ := h
  have hz : (k = 1 ∨ k = 2 ∨ k = 3 ∨ k = 6) → msF .zero ks = .zero := fun e => by rw [h2 e]; rfl
  simp only [msT]
  split
  · rename_i e; rw [hz (by omega), e]; exact ⟨rfl, rfl, rfl⟩
  split
  · rename_i e; rw [hz (by omega), e]; exact ⟨rfl, rfl, rfl⟩
  split
  · rename_i e; rw [hz (by omega), e]; exact ⟨rfl, rfl, rfl⟩
  split
  · rename_i e; rw [hz (by omega), e]; exact ⟨rfl, rfl, rfl⟩
  rename_i n1 n2 n3 n6
  rw [decide_eq_false n2, decide_eq_false n3, decide_eq_false n6]
  split
  · exact ⟨rfl, rfl, rfl⟩
  split
  · exact ⟨rfl, rfl, rfl⟩
  · exact ⟨rfl, rfl, rfl⟩
theorem ms_most (k : Nat) (q : Nat → Bool) (lo hi : Int) (g : Nat) (ks : List Tr) (h : wfT (.mk k q lo hi g ks)) : (msT (.mk k q lo hi g ks)).most = if k = 1 then 1 else if k = 6 then -1 else if k = 5 then prodM hi (msF .zero ks).most else (msF .zero ks).most := by
  obtain ⟨h1, h2, h3, _⟩ := h
  have hz : (k = 1 ∨ k = 2 ∨ k = 3 ∨ k = 6) → (msF .zero ks).most = 0 := fun e => by rw [h2 e]; rfl
  simp only [msT]
  split
  · rfl
  split
  · rename_i e; rw [hz (by omega), if_neg (by omega), if_neg (by omega)]
  split
  · rename_i e; rw [hz (by omega), if_neg (by omega), if_neg (by omega)]
  split
  · rfl
  split
  · rename_i e; rw [if_neg (by omega)]; rfl
  split
  · rfl
  · rfl
end Go.Proofs.Ytgpciekpmdihnaa
/- measure: the document's Groups, Least, Most and Has. -/
namespace Go.Proofs.Ytgpciekpmdihnaa
open Go.RowKit
set_option maxRecDepth 100000 in
set_option maxHeartbeats 4000000 in
theorem docGroups_walk (kd : Nat) (q : Nat → Bool) (lo hi : Int) (gp : Nat) (ks : List Tr) (hwf : wfT (.mk kd q lo hi gp ks)) (hft : fitT (.mk kd q lo hi gp ks)) (ih : ∀ x ∈ ks, ∀ (w : World) (ok : Nat → Prop) (a : Option Addr) (n c : Nat), Kids w ok (.slice a n c) x.kids → Calls Try.prog 37 #[nodeA x (.slice a n c)] w fun e w' => e = .returned (.int .i64 (msT x).groups) ∧ Below w.heap.size w w')
    (w : World) (ok : Nat → Prop) (a : Option Addr) (c : Nat) (hk : Kids w ok (.slice a ks.length c) ks) :
    Calls Try.prog 37 #[.agg #[.int .i64 (kd : Nat), .int .u64 (wd q 0 : Nat), .int .u64 (wd q 1 : Nat), .int .u64 (wd q 2 : Nat), .int .u64 (wd q 3 : Nat), .int .i64 lo, .int .i64 hi, .int .i64 (gp : Nat), .slice a ks.length c]] w fun e w' => e = .returned (.int .i64 (msT (.mk kd q lo hi gp ks)).groups) ∧ Below w.heap.size w w' := by
  have hr := ms_groups kd q lo hi gp ks hwf
  clear hwf
  have hpre := fun k => fitF_take ks .zero k (fitT_at _ hft).2.2.2
  have hmem := fun x hx => (fitT_at x (fitF_mem ks .zero (fitT_at _ hft).2.2.2 x hx)).1
  have hlen : ks.length ≤ 1000000 := (fitT_at _ hft).2.2.1
  have HA := hideM (And.intro hk (And.intro ih (And.intro hpre hmem)))
  clear hk ih hpre hmem hft
  by_cases c4 : kd = 4
  · have e4 : ((kd : Int) == 4) = true := by rw [beq_iff_eq]; omega
    rw [if_pos c4] at hr
    have HR := hideM hr
    clear hr c4
    go_enter Try.func37, Try.ntmps37
    go_upto_region 1 with fail
    obtain ⟨X, hX⟩ : ∃ X, X = w.alloc (.cells #[.int .i64 (kd : Nat), .int .u64 (wd q 0 : Nat), .int .u64 (wd q 1 : Nat), .int .u64 (wd q 2 : Nat), .int .u64 (wd q 3 : Nat), .int .i64 lo, .int .i64 hi, .int .i64 (gp : Nat), .slice a ks.length c] 27) := ⟨_, rfl⟩
    have hbX : X.heap[w.heap.size]? = some (.cells #[.int .i64 (kd : Nat), .int .u64 (wd q 0 : Nat), .int .u64 (wd q 1 : Nat), .int .u64 (wd q 2 : Nat), .int .u64 (wd q 3 : Nat), .int .i64 lo, .int .i64 hi, .int .i64 (gp : Nat), .slice a ks.length c] 27 (0, 0)) := by rw [hX]; exact heap_alloc_new w _
    have hBX : Below w.heap.size w X := by rw [hX]; exact (Below.refl _ _).alloc (Nat.le_refl _) _
    rw [← hX]
    clear hX
    have HX := hideM (And.intro hbX hBX)
    clear hbX hBX
    have z0 : X.cell? ⟨w.heap.size, 0, none⟩ = some (.int .i64 (kd : Nat)) := by simp [World.cell?, HX.out.1]
    have z5 : X.cell? ⟨w.heap.size, 5, none⟩ = some (.int .i64 lo) := by simp [World.cell?, HX.out.1]
    have z6 : X.cell? ⟨w.heap.size, 6, none⟩ = some (.int .i64 hi) := by simp [World.cell?, HX.out.1]
    have z8 : X.cell? ⟨w.heap.size, 8, none⟩ = some (.slice a ks.length c) := by simp [World.cell?, HX.out.1]
    go_wp2_with fail
    clear z0 z5 z6 z8
    go_loopw [3, 4] (fun v i wr => ∃ k : Nat, k ≤ ks.length ∧ i = .int .i64 k ∧ v = .int .i64 ((1 : Int) + (msF .zero (ks.take k)).groups) ∧ Below X.heap.size X wr) (fun _ i _ => (ks.length - intOf i).toNat)
    case atStart => exact ⟨0, by omega, rfl, by simp only [List.take_zero, msF, Ms.zero]; try rfl, Below.refl _ _⟩
    case round =>
      obtain ⟨k, hk1, rfl, rfl, hB⟩ := hrel
      have hlw : w.heap.size < X.heap.size := (Array.getElem?_eq_some_iff.1 HX.out.1).1
      have hbr := (hB.block _ hlw).trans HX.out.1
      have z0 : wr.cell? ⟨w.heap.size, 0, none⟩ = some (.int .i64 (kd : Nat)) := by simp [World.cell?, hbr]
      have z5 : wr.cell? ⟨w.heap.size, 5, none⟩ = some (.int .i64 lo) := by simp [World.cell?, hbr]
      have z6 : wr.cell? ⟨w.heap.size, 6, none⟩ = some (.int .i64 hi) := by simp [World.cell?, hbr]
      have z8 : wr.cell? ⟨w.heap.size, 8, none⟩ = some (.slice a ks.length c) := by simp [World.cell?, hbr]
      clear hbr hlw
      by_cases hlt : k < ks.length
      · skip
        have hkr := kids_below (kids_below HA.out.1 HX.out.2) hB
        obtain ⟨g, c', u, he, _, _, hcell, hku⟩ := kids_at hkr (i := k) (List.getElem?_eq_getElem hlt)
        obtain rfl : a = some ⟨g, 0, none⟩ := by injection he
        obtain ⟨ua, uc, rfl⟩ := kids_shape hku
        have hic := HA.out.2.1 ks[k] (List.getElem_mem hlt) wr ok ua _ uc hku
        have hsum := msF_take hlt .zero
        have hb1 := HA.out.2.2.1 k
        have hb2 := HA.out.2.2.1 (k + 1)
        have hb3 := HA.out.2.2.2 ks[k] (List.getElem_mem hlt)
        have y0 := (hcell 0 _ rfl).1
        have y1 := (hcell 1 _ rfl).1
        have y2 := (hcell 2 _ rfl).1
        have y3 := (hcell 3 _ rfl).1
        have y4 := (hcell 4 _ rfl).1
        have y5 := (hcell 5 _ rfl).1
        have y6 := (hcell 6 _ rfl).1
        have y7 := (hcell 7 _ rfl).1
        have y8 := (hcell 8 _ rfl).1
        rw [Nat.add_zero] at y0
        have k3 : (k : Int) < (ks.length : Int) := by omega
        have k4 : (0 : Int) ≤ (k : Int) := by omega
        have k5 : IntKind.i64.wrap ((k : Int) + 1) = (k : Int) + 1 := by rw [IntKind.wrap_i64]; omega
        have h1 := hb1.2.1
        have h2 := hb3.2.1
        have h3 : (msF .zero (ks.take (k + 1))).groups = (msF .zero (ks.take k)).groups + (msT ks[k]).groups := by rw [hsum]; rfl
        have k6 : IntKind.i64.wrap ((1 : Int) + (msF .zero (ks.take k)).groups + (msT ks[k]).groups) = (1 : Int) + (msF .zero (ks.take k)).groups + (msT ks[k]).groups := by rw [IntKind.wrap_i64]; omega
        have HC := hideM (And.intro hic h3)
        clear hkr hcell hku he hic hsum hb1 hb2 hb3 h1 h2 h3
        go_wp2_with fail
        refine HC.out.1.mono ?_
        rintro e w2 ⟨rfl, hb2⟩
        have HB := hideM (hB.trans (hb2.mono hB.size))
        clear y0 y1 y2 y3 y4 y5 y6 y7 y8 z0 z5 z6 z8 hB hb2
        go_wp2
        exact ⟨⟨k + 1, by omega, by go_num, by rw [HC.out.2]; congr 1; omega, HB.out⟩, by simp [intOf]; omega⟩
      · obtain rfl : k = ks.length := by omega
        have k3 : ¬ (ks.length : Int) < (ks.length : Int) := by omega
        rw [List.take_length]
        have HB := hideM (HX.out.2.trans (hB.mono HX.out.2.size))
        clear hB
        go_wp2
        go_ret
        exact ⟨by rw [HR.out]; rfl, HB.out⟩
  · have e4 : ((kd : Int) == 4) = false := by rw [beq_eq_false_iff_ne]; omega
    rw [if_neg c4, Int.zero_add] at hr
    have HR := hideM hr
    clear hr
    go_enter Try.func37, Try.ntmps37
    go_upto_region 1 with fail
    obtain ⟨X, hX⟩ : ∃ X, X = w.alloc (.cells #[.int .i64 (kd : Nat), .int .u64 (wd q 0 : Nat), .int .u64 (wd q 1 : Nat), .int .u64 (wd q 2 : Nat), .int .u64 (wd q 3 : Nat), .int .i64 lo, .int .i64 hi, .int .i64 (gp : Nat), .slice a ks.length c] 27) := ⟨_, rfl⟩
    have hbX : X.heap[w.heap.size]? = some (.cells #[.int .i64 (kd : Nat), .int .u64 (wd q 0 : Nat), .int .u64 (wd q 1 : Nat), .int .u64 (wd q 2 : Nat), .int .u64 (wd q 3 : Nat), .int .i64 lo, .int .i64 hi, .int .i64 (gp : Nat), .slice a ks.length c] 27 (0, 0)) := by rw [hX]; exact heap_alloc_new w _
    have hBX : Below w.heap.size w X := by rw [hX]; exact (Below.refl _ _).alloc (Nat.le_refl _) _
    rw [← hX]
    clear hX
    have HX := hideM (And.intro hbX hBX)
    clear hbX hBX
    have z0 : X.cell? ⟨w.heap.size, 0, none⟩ = some (.int .i64 (kd : Nat)) := by simp [World.cell?, HX.out.1]
    have z5 : X.cell? ⟨w.heap.size, 5, none⟩ = some (.int .i64 lo) := by simp [World.cell?, HX.out.1]
    have z6 : X.cell? ⟨w.heap.size, 6, none⟩ = some (.int .i64 hi) := by simp [World.cell?, HX.out.1]
    have z8 : X.cell? ⟨w.heap.size, 8, none⟩ = some (.slice a ks.length c) := by simp [World.cell?, HX.out.1]
    go_wp2_with fail
    clear z0 z5 z6 z8
    go_loopw [3, 4] (fun v i wr => ∃ k : Nat, k ≤ ks.length ∧ i = .int .i64 k ∧ v = .int .i64 ((msF .zero (ks.take k)).groups) ∧ Below X.heap.size X wr) (fun _ i _ => (ks.length - intOf i).toNat)
    case atStart => exact ⟨0, by omega, rfl, by simp only [List.take_zero, msF, Ms.zero]; try rfl, Below.refl _ _⟩
    case round =>
      obtain ⟨k, hk1, rfl, rfl, hB⟩ := hrel
      have hlw : w.heap.size < X.heap.size := (Array.getElem?_eq_some_iff.1 HX.out.1).1
      have hbr := (hB.block _ hlw).trans HX.out.1
      have z0 : wr.cell? ⟨w.heap.size, 0, none⟩ = some (.int .i64 (kd : Nat)) := by simp [World.cell?, hbr]
      have z5 : wr.cell? ⟨w.heap.size, 5, none⟩ = some (.int .i64 lo) := by simp [World.cell?, hbr]
      have z6 : wr.cell? ⟨w.heap.size, 6, none⟩ = some (.int .i64 hi) := by simp [World.cell?, hbr]
      have z8 : wr.cell? ⟨w.heap.size, 8, none⟩ = some (.slice a ks.length c) := by simp [World.cell?, hbr]
      clear hbr hlw
      by_cases hlt : k < ks.length
      · skip
        have hkr := kids_below (kids_below HA.out.1 HX.out.2) hB
        obtain ⟨g, c', u, he, _, _, hcell, hku⟩ := kids_at hkr (i := k) (List.getElem?_eq_getElem hlt)
        obtain rfl : a = some ⟨g, 0, none⟩ := by injection he
        obtain ⟨ua, uc, rfl⟩ := kids_shape hku
        have hic := HA.out.2.1 ks[k] (List.getElem_mem hlt) wr ok ua _ uc hku
        have hsum := msF_take hlt .zero
        have hb1 := HA.out.2.2.1 k
        have hb2 := HA.out.2.2.1 (k + 1)
        have hb3 := HA.out.2.2.2 ks[k] (List.getElem_mem hlt)
        have y0 := (hcell 0 _ rfl).1
        have y1 := (hcell 1 _ rfl).1
        have y2 := (hcell 2 _ rfl).1
        have y3 := (hcell 3 _ rfl).1
        have y4 := (hcell 4 _ rfl).1
        have y5 := (hcell 5 _ rfl).1
        have y6 := (hcell 6 _ rfl).1
        have y7 := (hcell 7 _ rfl).1
        have y8 := (hcell 8 _ rfl).1
        rw [Nat.add_zero] at y0
        have k3 : (k : Int) < (ks.length : Int) := by omega
        have k4 : (0 : Int) ≤ (k : Int) := by omega
        have k5 : IntKind.i64.wrap ((k : Int) + 1) = (k : Int) + 1 := by rw [IntKind.wrap_i64]; omega
        have h1 := hb1.2.1
        have h2 := hb3.2.1
        have h3 : (msF .zero (ks.take (k + 1))).groups = (msF .zero (ks.take k)).groups + (msT ks[k]).groups := by rw [hsum]; rfl
        have k6 : IntKind.i64.wrap ((msF .zero (ks.take k)).groups + (msT ks[k]).groups) = (msF .zero (ks.take k)).groups + (msT ks[k]).groups := by rw [IntKind.wrap_i64]; omega
        have HC := hideM (And.intro hic h3)
        clear hkr hcell hku he hic hsum hb1 hb2 hb3 h1 h2 h3
        go_wp2_with fail
        refine HC.out.1.mono ?_
        rintro e w2 ⟨rfl, hb2⟩
        have HB := hideM (hB.trans (hb2.mono hB.size))
        clear y0 y1 y2 y3 y4 y5 y6 y7 y8 z0 z5 z6 z8 hB hb2
        go_wp2
        exact ⟨⟨k + 1, by omega, by go_num, by rw [HC.out.2], HB.out⟩, by simp [intOf]; omega⟩
      · obtain rfl : k = ks.length := by omega
        have k3 : ¬ (ks.length : Int) < (ks.length : Int) := by omega
        rw [List.take_length]
        have HB := hideM (HX.out.2.trans (hB.mono HX.out.2.size))
        clear hB
        go_wp2
        go_ret
        exact ⟨by rw [HR.out]; rfl, HB.out⟩
set_option maxRecDepth 100000 in
set_option maxHeartbeats 4000000 in
theorem docLeast_walk (kd : Nat) (q : Nat → Bool) (lo hi : Int) (gp : Nat) (ks : List Tr) (hwf : wfT (.mk kd q lo hi gp ks)) (hft : fitT (.mk kd q lo hi gp ks)) (ih : ∀ x ∈ ks, ∀ (w : World) (ok : Nat → Prop) (a : Option Addr) (n c : Nat), Kids w ok (.slice a n c) x.kids → Calls Try.prog 38 #[nodeA x (.slice a n c)] w fun e w' => e = .returned (.int .i64 (msT x).least) ∧ Below w.heap.size w w')
    (w : World) (ok : Nat → Prop) (a : Option Addr) (c : Nat) (hk : Kids w ok (.slice a ks.length c) ks) :
    Calls Try.prog 38 #[.agg #[.int .i64 (kd : Nat), .int .u64 (wd q 0 : Nat), .int .u64 (wd q 1 : Nat), .int .u64 (wd q 2 : Nat), .int .u64 (wd q 3 : Nat), .int .i64 lo, .int .i64 hi, .int .i64 (gp : Nat), .slice a ks.length c]] w fun e w' => e = .returned (.int .i64 (msT (.mk kd q lo hi gp ks)).least) ∧ Below w.heap.size w w' := by
  have hr := ms_least kd q lo hi gp ks hwf
  have hfl := (fitT_at _ hft).1.2.2.1
  clear hwf
  have hpre := fun k => fitF_take ks .zero k (fitT_at _ hft).2.2.2
  have hmem := fun x hx => (fitT_at x (fitF_mem ks .zero (fitT_at _ hft).2.2.2 x hx)).1
  have hlen : ks.length ≤ 1000000 := (fitT_at _ hft).2.2.1
  have HA := hideM (And.intro hk (And.intro ih (And.intro hpre hmem)))
  clear hk ih hpre hmem hft
  have HR := hideM (And.intro hr hfl)
  clear hr hfl
  go_enter Try.func38, Try.ntmps38
  go_upto_region 1 with fail
  obtain ⟨X, hX⟩ : ∃ X, X = w.alloc (.cells #[.int .i64 (kd : Nat), .int .u64 (wd q 0 : Nat), .int .u64 (wd q 1 : Nat), .int .u64 (wd q 2 : Nat), .int .u64 (wd q 3 : Nat), .int .i64 lo, .int .i64 hi, .int .i64 (gp : Nat), .slice a ks.length c] 27) := ⟨_, rfl⟩
  have hbX : X.heap[w.heap.size]? = some (.cells #[.int .i64 (kd : Nat), .int .u64 (wd q 0 : Nat), .int .u64 (wd q 1 : Nat), .int .u64 (wd q 2 : Nat), .int .u64 (wd q 3 : Nat), .int .i64 lo, .int .i64 hi, .int .i64 (gp : Nat), .slice a ks.length c] 27 (0, 0)) := by rw [hX]; exact heap_alloc_new w _
  have hBX : Below w.heap.size w X := by rw [hX]; exact (Below.refl _ _).alloc (Nat.le_refl _) _
  rw [← hX]
  clear hX
  have HX := hideM (And.intro hbX hBX)
  clear hbX hBX
  have z0 : X.cell? ⟨w.heap.size, 0, none⟩ = some (.int .i64 (kd : Nat)) := by simp [World.cell?, HX.out.1]
  have z5 : X.cell? ⟨w.heap.size, 5, none⟩ = some (.int .i64 lo) := by simp [World.cell?, HX.out.1]
  have z6 : X.cell? ⟨w.heap.size, 6, none⟩ = some (.int .i64 hi) := by simp [World.cell?, HX.out.1]
  have z8 : X.cell? ⟨w.heap.size, 8, none⟩ = some (.slice a ks.length c) := by simp [World.cell?, HX.out.1]
  go_wp2_with fail
  clear z0 z5 z6 z8
  go_loopw [3, 4] (fun v i wr => ∃ k : Nat, k ≤ ks.length ∧ i = .int .i64 k ∧ v = .int .i64 (msF .zero (ks.take k)).least ∧ Below X.heap.size X wr) (fun _ i _ => (ks.length - intOf i).toNat)
  case atStart => exact ⟨0, by omega, rfl, by simp only [List.take_zero, msF, Ms.zero], Below.refl _ _⟩
  case round =>
    obtain ⟨k, hk1, rfl, rfl, hB⟩ := hrel
    have hlw : w.heap.size < X.heap.size := (Array.getElem?_eq_some_iff.1 HX.out.1).1
    have hbr := (hB.block _ hlw).trans HX.out.1
    have z0 : wr.cell? ⟨w.heap.size, 0, none⟩ = some (.int .i64 (kd : Nat)) := by simp [World.cell?, hbr]
    have z5 : wr.cell? ⟨w.heap.size, 5, none⟩ = some (.int .i64 lo) := by simp [World.cell?, hbr]
    have z6 : wr.cell? ⟨w.heap.size, 6, none⟩ = some (.int .i64 hi) := by simp [World.cell?, hbr]
    have z8 : wr.cell? ⟨w.heap.size, 8, none⟩ = some (.slice a ks.length c) := by simp [World.cell?, hbr]
    clear hbr hlw
    by_cases hlt : k < ks.length
    · skip
      have hkr := kids_below (kids_below HA.out.1 HX.out.2) hB
      obtain ⟨g, c', u, he, _, _, hcell, hku⟩ := kids_at hkr (i := k) (List.getElem?_eq_getElem hlt)
      obtain rfl : a = some ⟨g, 0, none⟩ := by injection he
      obtain ⟨ua, uc, rfl⟩ := kids_shape hku
      have hic := HA.out.2.1 ks[k] (List.getElem_mem hlt) wr ok ua _ uc hku
      have hsum := msF_take hlt .zero
      have hb1 := HA.out.2.2.1 k
      have hb2 := HA.out.2.2.1 (k + 1)
      have hb3 := HA.out.2.2.2 ks[k] (List.getElem_mem hlt)
      have y0 := (hcell 0 _ rfl).1
      have y1 := (hcell 1 _ rfl).1
      have y2 := (hcell 2 _ rfl).1
      have y3 := (hcell 3 _ rfl).1
      have y4 := (hcell 4 _ rfl).1
      have y5 := (hcell 5 _ rfl).1
      have y6 := (hcell 6 _ rfl).1
      have y7 := (hcell 7 _ rfl).1
      have y8 := (hcell 8 _ rfl).1
      rw [Nat.add_zero] at y0
      have k3 : (k : Int) < (ks.length : Int) := by omega
      have k4 : (0 : Int) ≤ (k : Int) := by omega
      have k5 : IntKind.i64.wrap ((k : Int) + 1) = (k : Int) + 1 := by rw [IntKind.wrap_i64]; omega
      have h1 := hb1.2.2.1
      have h2 := hb3.2.2.1
      have h3 : (msF .zero (ks.take (k + 1))).least = (msF .zero (ks.take k)).least + (msT ks[k]).least := by rw [hsum]; rfl
      have k6 : IntKind.i64.wrap ((msF .zero (ks.take k)).least + (msT ks[k]).least) = (msF .zero (ks.take k)).least + (msT ks[k]).least := by rw [IntKind.wrap_i64]; omega
      have HC := hideM (And.intro hic h3)
      clear hkr hcell hku he hic hsum hb1 hb2 hb3 h1 h2 h3
      go_wp2_with fail
      refine HC.out.1.mono ?_
      rintro e w2 ⟨rfl, hb2⟩
      have HB := hideM (hB.trans (hb2.mono hB.size))
      clear y0 y1 y2 y3 y4 y5 y6 y7 y8 z0 z5 z6 z8 hB hb2
      go_wp2
      exact ⟨⟨k + 1, by omega, by go_num, by rw [HC.out.2], HB.out⟩, by simp [intOf]; omega⟩
    · obtain rfl : k = ks.length := by omega
      have k3 : ¬ (ks.length : Int) < (ks.length : Int) := by omega
      rw [List.take_length]
      have HB := hideM (HX.out.2.trans (hB.mono HX.out.2.size))
      clear hB
      generalize (msF .zero ks).least = n at *
      by_cases c1 : kd = 1
      · have e1 : ((kd : Int) == 1) = true := by rw [beq_iff_eq]; omega
        have hr1 := HR.out.1
        rw [if_pos c1] at hr1
        have HR1 := hideM hr1
        clear c1 hr1
        go_wp2
        go_ret
        exact ⟨by rw [HR1.out]; rfl, HB.out⟩
      have e1 : ((kd : Int) == 1) = false := by rw [beq_eq_false_iff_ne]; omega
      by_cases c5 : kd = 5
      · have e5 : ((kd : Int) == 5) = true := by rw [beq_iff_eq]; omega
        have h9 := HR.out
        rw [h9.1, if_neg c1, if_pos c5] at h9
        have kk : IntKind.i64.wrap (n * lo) = n * lo := by rw [IntKind.wrap_i64]; have := h9.2; omega
        have hr1 := HR.out.1
        rw [if_neg c1, if_pos c5] at hr1
        have HR1 := hideM hr1
        clear h9 c5 hr1
        go_wp2
        go_ret
        exact ⟨by rw [HR1.out]; rfl, HB.out⟩
      have e5 : ((kd : Int) == 5) = false := by rw [beq_eq_false_iff_ne]; omega
      go_wp2
      go_ret
      exact ⟨by rw [HR.out.1, if_neg c1, if_neg c5]; rfl, HB.out⟩
end Go.Proofs.Ytgpciekpmdihnaa
/- measure: the document's Has and Most. -/
namespace Go.Proofs.Ytgpciekpmdihnaa
open Go.RowKit
def selM (kk : Nat) (m : Ms) : Bool := if kk = 6 then m.back else if kk = 2 then m.bol else m.eol
theorem sel_both (kk : Nat) (a m : Ms) : selM kk (a.both m) = (selM kk a || selM kk m) := by
  unfold selM
  split
  · rfl
  split
  · rfl
  · rfl
theorem sel_zero (kk : Nat) : selM kk .zero = false := by
  unfold selM
  split
  · rfl
  split
  · rfl
  · rfl
theorem sel_T (kk : Nat) (hkk : kk = 6 ∨ kk = 2 ∨ kk = 3) (k : Nat) (q : Nat → Bool) (lo hi : Int) (g : Nat) (ks : List Tr) (h : wfT (.mk k q lo hi g ks)) : selM kk (msT (.mk k q lo hi g ks)) = (decide (k = kk) || selM kk (msF .zero ks)) := by
  obtain ⟨h1, h2, h3⟩ := ms_has k q lo hi g ks h
  rcases hkk with rfl | rfl | rfl
  · exact h1
  · exact h2
  · exact h3
theorem sel_grows (kk : Nat) : ∀ (ts : List Tr) (m : Ms), selM kk m = true → selM kk (msF m ts) = true
  | [], m, h => by simp only [msF]; exact h
  | t :: ts, m, h => by simp only [msF]; exact sel_grows kk ts _ (by rw [sel_both, h]; rfl)
theorem sel_take (kk : Nat) (ts : List Tr) (k : Nat) (h : selM kk (msF .zero (ts.take k)) = true) : selM kk (msF .zero ts) = true := by
  have e := msF_app (ts.take k) (ts.drop k) .zero
  rw [List.take_append_drop] at e
  rw [e]
  exact sel_grows kk _ _ h
set_option maxRecDepth 100000 in
set_option maxHeartbeats 4000000 in
theorem docHas_walk (kk : Nat) (hkk : kk = 6 ∨ kk = 2 ∨ kk = 3) (kd : Nat) (q : Nat → Bool) (lo hi : Int) (gp : Nat) (ks : List Tr) (hwf : wfT (.mk kd q lo hi gp ks)) (hft : fitT (.mk kd q lo hi gp ks)) (ih : ∀ x ∈ ks, ∀ (w : World) (ok : Nat → Prop) (a : Option Addr) (n c : Nat), Kids w ok (.slice a n c) x.kids → Calls Try.prog 40 #[nodeA x (.slice a n c), .int .i64 (kk : Nat)] w fun e w' => e = .returned (.bool (selM kk (msT x))) ∧ Below w.heap.size w w')
    (w : World) (ok : Nat → Prop) (a : Option Addr) (c : Nat) (hk : Kids w ok (.slice a ks.length c) ks) :
    Calls Try.prog 40 #[.agg #[.int .i64 (kd : Nat), .int .u64 (wd q 0 : Nat), .int .u64 (wd q 1 : Nat), .int .u64 (wd q 2 : Nat), .int .u64 (wd q 3 : Nat), .int .i64 lo, .int .i64 hi, .int .i64 (gp : Nat), .slice a ks.length c], .int .i64 (kk : Nat)] w fun e w' => e = .returned (.bool (selM kk (msT (.mk kd q lo hi gp ks)))) ∧ Below w.heap.size w w' := by
  have hr := sel_T kk hkk kd q lo hi gp ks hwf
  clear hwf hkk
  have hpre := fun k => fitF_take ks .zero k (fitT_at _ hft).2.2.2
  have hmem := fun x hx => (fitT_at x (fitF_mem ks .zero (fitT_at _ hft).2.2.2 x hx)).1
  have hlen : ks.length ≤ 1000000 := (fitT_at _ hft).2.2.1
  have HA := hideM (And.intro hk (And.intro ih (And.intro hpre hmem)))
  clear hk ih hpre hmem hft
  by_cases ck : kd = kk
  · have ek : ((kd : Int) == (kk : Int)) = true := by rw [beq_iff_eq]; omega
    rw [decide_eq_true ck, Bool.true_or] at hr
    have HR := hideM hr
    clear hr ck
    go_enter Try.func40, Try.ntmps40
    go_wp2
    go_ret
    exact ⟨by rw [HR.out]; rfl, (Below.refl _ _).alloc (Nat.le_refl _) _⟩
  · have ek : ((kd : Int) == (kk : Int)) = false := by rw [beq_eq_false_iff_ne]; omega
    rw [decide_eq_false ck, Bool.false_or] at hr
    have HR := hideM hr
    clear hr ck
    go_enter Try.func40, Try.ntmps40
    go_upto_region 1 with fail
    obtain ⟨X, hX⟩ : ∃ X, X = w.alloc (.cells #[.int .i64 (kd : Nat), .int .u64 (wd q 0 : Nat), .int .u64 (wd q 1 : Nat), .int .u64 (wd q 2 : Nat), .int .u64 (wd q 3 : Nat), .int .i64 lo, .int .i64 hi, .int .i64 (gp : Nat), .slice a ks.length c] 27) := ⟨_, rfl⟩
    have hbX : X.heap[w.heap.size]? = some (.cells #[.int .i64 (kd : Nat), .int .u64 (wd q 0 : Nat), .int .u64 (wd q 1 : Nat), .int .u64 (wd q 2 : Nat), .int .u64 (wd q 3 : Nat), .int .i64 lo, .int .i64 hi, .int .i64 (gp : Nat), .slice a ks.length c] 27 (0, 0)) := by rw [hX]; exact heap_alloc_new w _
    have hBX : Below w.heap.size w X := by rw [hX]; exact (Below.refl _ _).alloc (Nat.le_refl _) _
    rw [← hX]
    clear hX
    have HX := hideM (And.intro hbX hBX)
    clear hbX hBX
    have z0 : X.cell? ⟨w.heap.size, 0, none⟩ = some (.int .i64 (kd : Nat)) := by simp [World.cell?, HX.out.1]
    have z5 : X.cell? ⟨w.heap.size, 5, none⟩ = some (.int .i64 lo) := by simp [World.cell?, HX.out.1]
    have z6 : X.cell? ⟨w.heap.size, 6, none⟩ = some (.int .i64 hi) := by simp [World.cell?, HX.out.1]
    have z8 : X.cell? ⟨w.heap.size, 8, none⟩ = some (.slice a ks.length c) := by simp [World.cell?, HX.out.1]
    go_wp2_with fail
    clear z0 z5 z6 z8
    go_loopw [5] (fun i wr => ∃ k : Nat, k ≤ ks.length ∧ i = .int .i64 k ∧ Hid (selM kk (msF .zero (ks.take k)) = false) ∧ Below X.heap.size X wr) (fun i _ => (ks.length - intOf i).toNat)
    case atStart => exact ⟨0, by omega, rfl, by simp only [List.take_zero, msF]; exact sel_zero kk, Below.refl _ _⟩
    case round =>
      obtain ⟨k, hk1, rfl, HS, hB⟩ := hrel
      have hlw : w.heap.size < X.heap.size := (Array.getElem?_eq_some_iff.1 HX.out.1).1
      have hbr := (hB.block _ hlw).trans HX.out.1
      have z0 : wr.cell? ⟨w.heap.size, 0, none⟩ = some (.int .i64 (kd : Nat)) := by simp [World.cell?, hbr]
      have z5 : wr.cell? ⟨w.heap.size, 5, none⟩ = some (.int .i64 lo) := by simp [World.cell?, hbr]
      have z6 : wr.cell? ⟨w.heap.size, 6, none⟩ = some (.int .i64 hi) := by simp [World.cell?, hbr]
      have z8 : wr.cell? ⟨w.heap.size, 8, none⟩ = some (.slice a ks.length c) := by simp [World.cell?, hbr]
      clear hbr hlw
      by_cases hlt : k < ks.length
      · skip
        have hkr := kids_below (kids_below HA.out.1 HX.out.2) hB
        obtain ⟨g, c', u, he, _, _, hcell, hku⟩ := kids_at hkr (i := k) (List.getElem?_eq_getElem hlt)
        obtain rfl : a = some ⟨g, 0, none⟩ := by injection he
        obtain ⟨ua, uc, rfl⟩ := kids_shape hku
        have hic := HA.out.2.1 ks[k] (List.getElem_mem hlt) wr ok ua _ uc hku
        have hsum := msF_take hlt .zero
        have hb1 := HA.out.2.2.1 k
        have hb2 := HA.out.2.2.1 (k + 1)
        have hb3 := HA.out.2.2.2 ks[k] (List.getElem_mem hlt)
        have y0 := (hcell 0 _ rfl).1
        have y1 := (hcell 1 _ rfl).1
        have y2 := (hcell 2 _ rfl).1
        have y3 := (hcell 3 _ rfl).1
        have y4 := (hcell 4 _ rfl).1
        have y5 := (hcell 5 _ rfl).1
        have y6 := (hcell 6 _ rfl).1
        have y7 := (hcell 7 _ rfl).1
        have y8 := (hcell 8 _ rfl).1
        rw [Nat.add_zero] at y0
        have k3 : (k : Int) < (ks.length : Int) := by omega
        have k4 : (0 : Int) ≤ (k : Int) := by omega
        have k5 : IntKind.i64.wrap ((k : Int) + 1) = (k : Int) + 1 := by rw [IntKind.wrap_i64]; omega
        have h3 : selM kk (msF .zero (ks.take (k + 1))) = selM kk (msT ks[k]) := by rw [hsum, sel_both, HS.out, Bool.false_or]
        cases hsel : selM kk (msT ks[k]) with
        | true =>
          rw [hsel] at hic h3
          have hall := sel_take kk ks (k + 1) h3
          have HC := hideM (And.intro hic hall)
          clear hkr hcell hku he hic hsum hb1 hb2 hb3 h3 hall hsel
          go_wp2_with fail
          refine HC.out.1.mono ?_
          rintro e w2 ⟨rfl, hb2⟩
          have HB := hideM (HX.out.2.trans ((hB.trans (hb2.mono hB.size)).mono HX.out.2.size))
          clear y0 y1 y2 y3 y4 y5 y6 y7 y8 z0 z5 z6 z8 hB hb2
          go_wp2
          go_ret
          exact ⟨by rw [HR.out, HC.out.2]; rfl, HB.out⟩
        | false =>
          rw [hsel] at hic h3
          have HC := hideM (And.intro hic h3)
          clear hkr hcell hku he hic hsum hb1 hb2 hb3 h3 hsel
          go_wp2_with fail
          refine HC.out.1.mono ?_
          rintro e w2 ⟨rfl, hb2⟩
          have HB := hideM (hB.trans (hb2.mono hB.size))
          clear y0 y1 y2 y3 y4 y5 y6 y7 y8 z0 z5 z6 z8 hB hb2
          go_wp2
          exact ⟨⟨k + 1, by omega, by go_num, HC.out.2, HB.out⟩, by simp [intOf]; omega⟩
      · obtain rfl : k = ks.length := by omega
        have k3 : ¬ (ks.length : Int) < (ks.length : Int) := by omega
        rw [List.take_length] at HS
        have HB := hideM (HX.out.2.trans (hB.mono HX.out.2.size))
        clear hB
        go_wp2
        go_ret
        exact ⟨by rw [HR.out, HS.out]; rfl, HB.out⟩
end Go.Proofs.Ytgpciekpmdihnaa
/- measure: the document's Most. -/
namespace Go.Proofs.Ytgpciekpmdihnaa
open Go.RowKit
theorem most_keeps : ∀ (ts : List Tr) (m : Ms), m.most = -1 → (msF m ts).most = -1
  | [], m, h => by simp only [msF]; exact h
  | t :: ts, m, h => by
    simp only [msF]
    exact most_keeps ts _ (by show sumM m.most (msT t).most = -1; unfold sumM; rw [if_pos (.inl h)])
theorem most_take (ts : List Tr) (k : Nat) (h : (msF .zero (ts.take k)).most = -1) : (msF .zero ts).most = -1 := by
  have e := msF_app (ts.take k) (ts.drop k) .zero
  rw [List.take_append_drop] at e
  rw [e]
  exact most_keeps _ _ h
theorem most_one (c : Tr) (h : -1 ≤ (msT c).most) : (msF .zero [c]).most = (msT c).most := by
  simp only [msF]
  show sumM 0 (msT c).most = _
  unfold sumM
  split <;> omega
set_option maxRecDepth 100000 in
set_option maxHeartbeats 4000000 in
theorem docMost_walk (kd : Nat) (q : Nat → Bool) (lo hi : Int) (gp : Nat) (ks : List Tr) (hwf : wfT (.mk kd q lo hi gp ks)) (hft : fitT (.mk kd q lo hi gp ks)) (ih : ∀ x ∈ ks, ∀ (w : World) (ok : Nat → Prop) (a : Option Addr) (n c : Nat), Kids w ok (.slice a n c) x.kids → Calls Try.prog 39 #[nodeA x (.slice a n c)] w fun e w' => e = .returned (.int .i64 (msT x).most) ∧ Below w.heap.size w w')
    (w : World) (ok : Nat → Prop) (a : Option Addr) (c : Nat) (hk : Kids w ok (.slice a ks.length c) ks) :
    Calls Try.prog 39 #[.agg #[.int .i64 (kd : Nat), .int .u64 (wd q 0 : Nat), .int .u64 (wd q 1 : Nat), .int .u64 (wd q 2 : Nat), .int .u64 (wd q 3 : Nat), .int .i64 lo, .int .i64 hi, .int .i64 (gp : Nat), .slice a ks.length c]] w fun e w' => e = .returned (.int .i64 (msT (.mk kd q lo hi gp ks)).most) ∧ Below w.heap.size w w' := by
  have hr := ms_most kd q lo hi gp ks hwf
  have hw5 := hwf.2.2.1
  have hfm := (fitT_at _ hft).1.2.2.2
  clear hwf
  have hpre := fun k => fitF_take ks .zero k (fitT_at _ hft).2.2.2
  have hmem := fun x hx => (fitT_at x (fitF_mem ks .zero (fitT_at _ hft).2.2.2 x hx)).1
  have hlen : ks.length ≤ 1000000 := (fitT_at _ hft).2.2.1
  have HA := hideM (And.intro hk (And.intro ih (And.intro hpre hmem)))
  clear hk ih hpre hmem hft
  by_cases c1 : kd = 1
  · have e1 : ((kd : Int) == 1) = true := by rw [beq_iff_eq]; omega
    rw [if_pos c1] at hr
    have HR := hideM hr
    clear hr c1 hw5 hfm
    go_enter Try.func39, Try.ntmps39
    go_wp2
    go_ret
    exact ⟨by rw [HR.out]; rfl, (Below.refl _ _).alloc (Nat.le_refl _) _⟩
  have e1 : ((kd : Int) == 1) = false := by rw [beq_eq_false_iff_ne]; omega
  rw [if_neg c1] at hr
  by_cases c6 : kd = 6
  · have e6 : ((kd : Int) == 6) = true := by rw [beq_iff_eq]; omega
    rw [if_pos c6] at hr
    have HR := hideM hr
    clear hr c1 c6 hw5 hfm
    go_enter Try.func39, Try.ntmps39
    go_wp2
    go_ret
    exact ⟨by rw [HR.out]; rfl, (Below.refl _ _).alloc (Nat.le_refl _) _⟩
  have e6 : ((kd : Int) == 6) = false := by rw [beq_eq_false_iff_ne]; omega
  rw [if_neg c6] at hr
  by_cases c5 : kd = 5
  · have e5 : ((kd : Int) == 5) = true := by rw [beq_iff_eq]; omega
    rw [if_pos c5] at hr
    obtain ⟨⟨hl1, hl2⟩, hh, cc, hcc⟩ := hw5 c5
    subst hcc
    have hmc := (HA.out.2.2.2 cc (by simp)).2.2.2
    rw [most_one cc hmc.1] at hr
    rw [hr] at hfm
    have hkk := HA.out.1
    clear hw5 c1 c6 c5
    go_enter Try.func39, Try.ntmps39
    go_upto_region 1 with fail
    obtain ⟨X, hX⟩ : ∃ X, X = w.alloc (.cells #[.int .i64 (kd : Nat), .int .u64 (wd q 0 : Nat), .int .u64 (wd q 1 : Nat), .int .u64 (wd q 2 : Nat), .int .u64 (wd q 3 : Nat), .int .i64 lo, .int .i64 hi, .int .i64 (gp : Nat), .slice a 1 c] 27) := ⟨_, rfl⟩
    have hbX : X.heap[w.heap.size]? = some (.cells #[.int .i64 (kd : Nat), .int .u64 (wd q 0 : Nat), .int .u64 (wd q 1 : Nat), .int .u64 (wd q 2 : Nat), .int .u64 (wd q 3 : Nat), .int .i64 lo, .int .i64 hi, .int .i64 (gp : Nat), .slice a 1 c] 27 (0, 0)) := by rw [hX]; exact heap_alloc_new w _
    have hBX : Below w.heap.size w X := by rw [hX]; exact (Below.refl _ _).alloc (Nat.le_refl _) _
    rw [← hX]
    clear hX
    have HX := hideM (And.intro hbX hBX)
    clear hbX hBX
    have hlw : w.heap.size < X.heap.size := (Array.getElem?_eq_some_iff.1 HX.out.1).1
    have hkr := kids_below hkk HX.out.2
    obtain ⟨g, c', u, he, _, _, hcell, hku⟩ := kids_at hkr (i := 0) (t := cc) rfl
    obtain rfl : a = some ⟨g, 0, none⟩ := by injection he
    obtain ⟨ua, uc, rfl⟩ := kids_shape hku
    have hic := HA.out.2.1 cc (by simp) X ok ua _ uc hku
    have z0 : X.cell? ⟨w.heap.size, 0, none⟩ = some (.int .i64 (kd : Nat)) := by simp [World.cell?, HX.out.1]
    have z5 : X.cell? ⟨w.heap.size, 5, none⟩ = some (.int .i64 lo) := by simp [World.cell?, HX.out.1]
    have z6 : X.cell? ⟨w.heap.size, 6, none⟩ = some (.int .i64 hi) := by simp [World.cell?, HX.out.1]
    have z8 : X.cell? ⟨w.heap.size, 8, none⟩ = some (.slice (some ⟨g, 0, none⟩) 1 c) := by simp [World.cell?, HX.out.1]
    have y0 := (hcell 0 _ rfl).1
    have y1 := (hcell 1 _ rfl).1
    have y2 := (hcell 2 _ rfl).1
    have y3 := (hcell 3 _ rfl).1
    have y4 := (hcell 4 _ rfl).1
    have y5 := (hcell 5 _ rfl).1
    have y6 := (hcell 6 _ rfl).1
    have y7 := (hcell 7 _ rfl).1
    have y8 := (hcell 8 _ rfl).1
    simp only [Nat.zero_mul, Nat.zero_add] at y0 y1 y2 y3 y4 y5 y6 y7 y8
    obtain ⟨M, hM⟩ : ∃ M, M = (msT cc).most := ⟨_, rfl⟩
    rw [← hM] at hr hfm hmc hic
    have HC := hideM (And.intro hic hr)
    clear hkk hkr hcell hku he hic hr hM hlw
    go_wp2_with fail
    refine HC.out.1.mono ?_
    rintro e w2 ⟨rfl, hb2⟩
    have hbr := (hb2.block _ (Array.getElem?_eq_some_iff.1 HX.out.1).1).trans HX.out.1
    have HB := hideM (HX.out.2.trans (hb2.mono HX.out.2.size))
    clear y0 y1 y2 y3 y4 y5 y6 y7 y8 z0 z5 z6 z8
    have z6 : w2.cell? ⟨w.heap.size, 6, none⟩ = some (.int .i64 hi) := by simp [World.cell?, hbr]
    clear hbr hb2
    by_cases m0 : M = 0
    · have q1 : (M == 0) = true := by rw [beq_iff_eq]; exact m0
      have hp : prodM hi M = 0 := by unfold prodM; rw [if_pos (.inr m0)]
      have HP := hideM hp
      clear hp m0 hfm hmc hh
      go_wp2
      go_ret
      exact ⟨by rw [HC.out.2, HP.out]; rfl, HB.out⟩
    have q1 : (M == 0) = false := by rw [beq_eq_false_iff_ne]; exact m0
    by_cases h0 : hi = 0
    · have q2 : (hi == 0) = true := by rw [beq_iff_eq]; exact h0
      have hp : prodM hi M = 0 := by unfold prodM; rw [if_pos (.inl h0)]
      have HP := hideM hp
      clear hp m0 h0 hfm hmc hh
      go_wp2
      go_ret
      exact ⟨by rw [HC.out.2, HP.out]; rfl, HB.out⟩
    have q2 : (hi == 0) = false := by rw [beq_eq_false_iff_ne]; exact h0
    by_cases mn : M < 0
    · have q3 : (M < 0) = True := eq_true mn
      have hp : prodM hi M = -1 := by unfold prodM; rw [if_neg (by omega), if_pos (.inr (by omega))]
      have HP := hideM hp
      clear hp m0 h0 hfm hmc hh mn
      go_wp2
      go_ret
      exact ⟨by rw [HC.out.2, HP.out]; rfl, HB.out⟩
    have q3 : (M < 0) = False := eq_false mn
    by_cases hn : hi < 0
    · have q4 : (hi < 0) = True := eq_true hn
      have hp : prodM hi M = -1 := by unfold prodM; rw [if_neg (by omega), if_pos (.inl (by omega))]
      have HP := hideM hp
      clear hp m0 h0 hfm hmc hh mn hn
      go_wp2
      go_ret
      exact ⟨by rw [HC.out.2, HP.out]; rfl, HB.out⟩
    have q4 : (hi < 0) = False := eq_false hn
    have hp : prodM hi M = M * hi := by unfold prodM; rw [if_neg (by omega), if_neg (by omega), Int.mul_comm]
    have kk : IntKind.i64.wrap (M * hi) = M * hi := by rw [hp] at hfm; rw [IntKind.wrap_i64]; omega
    have HP := hideM hp
    clear hp m0 h0 hfm hmc hh mn hn
    go_wp2
    go_ret
    exact ⟨by rw [HC.out.2, HP.out]; rfl, HB.out⟩
  have e5 : ((kd : Int) == 5) = false := by rw [beq_eq_false_iff_ne]; omega
  rw [if_neg c5] at hr
  have HR := hideM hr
  clear hr c1 c6 c5 hw5 hfm
  go_enter Try.func39, Try.ntmps39
  go_upto_region 1 with fail
  obtain ⟨X, hX⟩ : ∃ X, X = w.alloc (.cells #[.int .i64 (kd : Nat), .int .u64 (wd q 0 : Nat), .int .u64 (wd q 1 : Nat), .int .u64 (wd q 2 : Nat), .int .u64 (wd q 3 : Nat), .int .i64 lo, .int .i64 hi, .int .i64 (gp : Nat), .slice a ks.length c] 27) := ⟨_, rfl⟩
  have hbX : X.heap[w.heap.size]? = some (.cells #[.int .i64 (kd : Nat), .int .u64 (wd q 0 : Nat), .int .u64 (wd q 1 : Nat), .int .u64 (wd q 2 : Nat), .int .u64 (wd q 3 : Nat), .int .i64 lo, .int .i64 hi, .int .i64 (gp : Nat), .slice a ks.length c] 27 (0, 0)) := by rw [hX]; exact heap_alloc_new w _
  have hBX : Below w.heap.size w X := by rw [hX]; exact (Below.refl _ _).alloc (Nat.le_refl _) _
  rw [← hX]
  clear hX
  have HX := hideM (And.intro hbX hBX)
  clear hbX hBX
  have z0 : X.cell? ⟨w.heap.size, 0, none⟩ = some (.int .i64 (kd : Nat)) := by simp [World.cell?, HX.out.1]
  have z5 : X.cell? ⟨w.heap.size, 5, none⟩ = some (.int .i64 lo) := by simp [World.cell?, HX.out.1]
  have z6 : X.cell? ⟨w.heap.size, 6, none⟩ = some (.int .i64 hi) := by simp [World.cell?, HX.out.1]
  have z8 : X.cell? ⟨w.heap.size, 8, none⟩ = some (.slice a ks.length c) := by simp [World.cell?, HX.out.1]
  go_wp2_with fail
  clear z0 z5 z6 z8
  go_loopw [4, 5] (fun v i wr => ∃ k : Nat, k ≤ ks.length ∧ i = .int .i64 k ∧ v = .int .i64 (msF .zero (ks.take k)).most ∧ Hid (0 ≤ (msF .zero (ks.take k)).most) ∧ Below X.heap.size X wr) (fun _ i _ => (ks.length - intOf i).toNat)
  case atStart => exact ⟨0, by omega, rfl, by simp only [List.take_zero, msF, Ms.zero], by simp only [List.take_zero, msF, Ms.zero]; exact Int.le_refl _, Below.refl _ _⟩
  case round =>
    obtain ⟨k, hk1, rfl, rfl, HS, hB⟩ := hrel
    have hlw : w.heap.size < X.heap.size := (Array.getElem?_eq_some_iff.1 HX.out.1).1
    have hbr := (hB.block _ hlw).trans HX.out.1
    have z0 : wr.cell? ⟨w.heap.size, 0, none⟩ = some (.int .i64 (kd : Nat)) := by simp [World.cell?, hbr]
    have z5 : wr.cell? ⟨w.heap.size, 5, none⟩ = some (.int .i64 lo) := by simp [World.cell?, hbr]
    have z6 : wr.cell? ⟨w.heap.size, 6, none⟩ = some (.int .i64 hi) := by simp [World.cell?, hbr]
    have z8 : wr.cell? ⟨w.heap.size, 8, none⟩ = some (.slice a ks.length c) := by simp [World.cell?, hbr]
    clear hbr hlw
    by_cases hlt : k < ks.length
    · skip
      have hkr := kids_below (kids_below HA.out.1 HX.out.2) hB
      obtain ⟨g, c', u, he, _, _, hcell, hku⟩ := kids_at hkr (i := k) (List.getElem?_eq_getElem hlt)
      obtain rfl : a = some ⟨g, 0, none⟩ := by injection he
      obtain ⟨ua, uc, rfl⟩ := kids_shape hku
      have hic := HA.out.2.1 ks[k] (List.getElem_mem hlt) wr ok ua _ uc hku
      have hsum := msF_take hlt .zero
      have hb1 := HA.out.2.2.1 k
      have hb2 := HA.out.2.2.1 (k + 1)
      have hb3 := HA.out.2.2.2 ks[k] (List.getElem_mem hlt)
      have y0 := (hcell 0 _ rfl).1
      have y1 := (hcell 1 _ rfl).1
      have y2 := (hcell 2 _ rfl).1
      have y3 := (hcell 3 _ rfl).1
      have y4 := (hcell 4 _ rfl).1
      have y5 := (hcell 5 _ rfl).1
      have y6 := (hcell 6 _ rfl).1
      have y7 := (hcell 7 _ rfl).1
      have y8 := (hcell 8 _ rfl).1
      rw [Nat.add_zero] at y0
      have k3 : (k : Int) < (ks.length : Int) := by omega
      have k4 : (0 : Int) ≤ (k : Int) := by omega
      have k5 : IntKind.i64.wrap ((k : Int) + 1) = (k : Int) + 1 := by rw [IntKind.wrap_i64]; omega
      have h1 := hb1.2.2.2
      have h2 := hb3.2.2.2
      have h0 := HS.out
      have h3 : (msF .zero (ks.take (k + 1))).most = sumM (msF .zero (ks.take k)).most (msT ks[k]).most := by rw [hsum]; rfl
      by_cases hneg : (msT ks[k]).most < 0
      · have h4 : (msT ks[k]).most = -1 := by omega
        have h5 : (msF .zero (ks.take (k + 1))).most = -1 := by rw [h3, h4]; unfold sumM; rw [if_pos (.inr rfl)]
        have hall := most_take ks (k + 1) h5
        rw [h4] at hic
        have HC := hideM (And.intro hic hall)
        clear hkr hcell hku he hic hsum hb1 hb2 hb3 h1 h2 h3 h0 h4 h5 hall hneg
        go_wp2_with fail
        refine HC.out.1.mono ?_
        rintro e w2 ⟨rfl, hb2⟩
        have HB := hideM (HX.out.2.trans ((hB.trans (hb2.mono hB.size)).mono HX.out.2.size))
        clear y0 y1 y2 y3 y4 y5 y6 y7 y8 z0 z5 z6 z8 hB hb2
        go_wp2
        go_ret
        exact ⟨by rw [HR.out, HC.out.2]; rfl, HB.out⟩
      · have n0 : ((msT ks[k]).most < 0) = False := eq_false hneg
        have h4 : (msF .zero (ks.take (k + 1))).most = (msF .zero (ks.take k)).most + (msT ks[k]).most := by rw [h3]; unfold sumM; rw [if_neg (by omega)]
        have k6 : IntKind.i64.wrap ((msF .zero (ks.take k)).most + (msT ks[k]).most) = (msF .zero (ks.take k)).most + (msT ks[k]).most := by rw [IntKind.wrap_i64]; omega
        have h5 : 0 ≤ (msF .zero (ks.take (k + 1))).most := by rw [h4]; omega
        have HC := hideM (And.intro hic (And.intro h4 h5))
        clear hkr hcell hku he hic hsum hb1 hb2 hb3 h1 h2 h3 h0 h4 h5 hneg
        go_wp2_with fail
        refine HC.out.1.mono ?_
        rintro e w2 ⟨rfl, hb2⟩
        have HB := hideM (hB.trans (hb2.mono hB.size))
        clear y0 y1 y2 y3 y4 y5 y6 y7 y8 z0 z5 z6 z8 hB hb2
        go_wp2
        exact ⟨⟨k + 1, by omega, by go_num, by rw [HC.out.2.1], HC.out.2.2, HB.out⟩, by simp [intOf]; omega⟩
    · obtain rfl : k = ks.length := by omega
      have k3 : ¬ (ks.length : Int) < (ks.length : Int) := by omega
      rw [List.take_length]
      have HB := hideM (HX.out.2.trans (hB.mono HX.out.2.size))
      clear hB
      go_wp2
      go_ret
      exact ⟨by rw [HR.out]; rfl, HB.out⟩
end Go.Proofs.Ytgpciekpmdihnaa
/- measure: the document's Of, for any tree as Parse makes it. -/
namespace Go.Proofs.Ytgpciekpmdihnaa
open Go.RowKit
theorem wfT_at (t : Tr) (h : wfT t) : wfL t.kids := by
  obtain ⟨k, q, lo, hi, g, kids⟩ := t
  exact h.2.2.2
theorem docGroups_any : ∀ (m : Nat) (t : Tr), SizeOf.sizeOf t < m → wfT t → fitT t → ∀ (w : World) (ok : Nat → Prop) (a : Option Addr) (n c : Nat), Kids w ok (.slice a n c) t.kids →
    Calls Try.prog 37 #[nodeA t (.slice a n c)] w fun e w' => e = .returned (.int .i64 (msT t).groups) ∧ Below w.heap.size w w'
  | 0, t, h, _, _, _, _, _, _, _, _ => absurd h (Nat.not_lt_zero _)
  | m + 1, t, h, hwf, hft, w, ok, a, n, c, hk => by
    have hn : n = t.kids.length := by
      obtain ⟨a', c', he⟩ := kids_shape hk
      injection he
    subst hn
    have ih := fun x hx => docGroups_any m x (by have := kids_size (t := t) hx; omega) (wfL_mem _ (wfT_at t hwf) x hx) (fitF_mem _ _ (fitT_at t hft).2.2.2 x hx)
    obtain ⟨kd, q, lo, hi, gp, ks⟩ := t
    exact docGroups_walk kd q lo hi gp ks hwf hft ih w ok a c hk
theorem docLeast_any : ∀ (m : Nat) (t : Tr), SizeOf.sizeOf t < m → wfT t → fitT t → ∀ (w : World) (ok : Nat → Prop) (a : Option Addr) (n c : Nat), Kids w ok (.slice a n c) t.kids →
    Calls Try.prog 38 #[nodeA t (.slice a n c)] w fun e w' => e = .returned (.int .i64 (msT t).least) ∧ Below w.heap.size w w'
  | 0, t, h, _, _, _, _, _, _, _, _ => absurd h (Nat.not_lt_zero _)
  | m + 1, t, h, hwf, hft, w, ok, a, n, c, hk => by
    have hn : n = t.kids.length := by
      obtain ⟨a', c', he⟩ := kids_shape hk
      injection he
    subst hn
    have ih := fun x hx => docLeast_any m x (by have := kids_size (t := t) hx; omega) (wfL_mem _ (wfT_at t hwf) x hx) (fitF_mem _ _ (fitT_at t hft).2.2.2 x hx)
    obtain ⟨kd, q, lo, hi, gp, ks⟩ := t
    exact docLeast_walk kd q lo hi gp ks hwf hft ih w ok a c hk
theorem docMost_any : ∀ (m : Nat) (t : Tr), SizeOf.sizeOf t < m → wfT t → fitT t → ∀ (w : World) (ok : Nat → Prop) (a : Option Addr) (n c : Nat), Kids w ok (.slice a n c) t.kids →
    Calls Try.prog 39 #[nodeA t (.slice a n c)] w fun e w' => e = .returned (.int .i64 (msT t).most) ∧ Below w.heap.size w w'
  | 0, t, h, _, _, _, _, _, _, _, _ => absurd h (Nat.not_lt_zero _)
  | m + 1, t, h, hwf, hft, w, ok, a, n, c, hk => by
    have hn : n = t.kids.length := by
      obtain ⟨a', c', he⟩ := kids_shape hk
      injection he
    subst hn
    have ih := fun x hx => docMost_any m x (by have := kids_size (t := t) hx; omega) (wfL_mem _ (wfT_at t hwf) x hx) (fitF_mem _ _ (fitT_at t hft).2.2.2 x hx)
    obtain ⟨kd, q, lo, hi, gp, ks⟩ := t
    exact docMost_walk kd q lo hi gp ks hwf hft ih w ok a c hk
theorem docHas_any (kk : Nat) (hkk : kk = 6 ∨ kk = 2 ∨ kk = 3) : ∀ (m : Nat) (t : Tr), SizeOf.sizeOf t < m → wfT t → fitT t → ∀ (w : World) (ok : Nat → Prop) (a : Option Addr) (n c : Nat), Kids w ok (.slice a n c) t.kids →
    Calls Try.prog 40 #[nodeA t (.slice a n c), .int .i64 (kk : Nat)] w fun e w' => e = .returned (.bool (selM kk (msT t))) ∧ Below w.heap.size w w'
  | 0, t, h, _, _, _, _, _, _, _, _ => absurd h (Nat.not_lt_zero _)
  | m + 1, t, h, hwf, hft, w, ok, a, n, c, hk => by
    have hn : n = t.kids.length := by
      obtain ⟨a', c', he⟩ := kids_shape hk
      injection he
    subst hn
    have ih := fun x hx => docHas_any kk hkk m x (by have := kids_size (t := t) hx; omega) (wfL_mem _ (wfT_at t hwf) x hx) (fitF_mem _ _ (fitT_at t hft).2.2.2 x hx)
    obtain ⟨kd, q, lo, hi, gp, ks⟩ := t
    exact docHas_walk kk hkk kd q lo hi gp ks hwf hft ih w ok a c hk
abbrev SX (w : World) (t : Tr) (a : Option Addr) (n c : Nat) (W : World) : Prop := W.cell? ⟨w.heap.size, 0, none⟩ = some (.int .i64 (t.kind : Nat)) ∧ W.cell? ⟨w.heap.size, 1, none⟩ = some (.int .u64 (wd t.q 0 : Nat)) ∧ W.cell? ⟨w.heap.size, 2, none⟩ = some (.int .u64 (wd t.q 1 : Nat)) ∧ W.cell? ⟨w.heap.size, 3, none⟩ = some (.int .u64 (wd t.q 2 : Nat)) ∧ W.cell? ⟨w.heap.size, 4, none⟩ = some (.int .u64 (wd t.q 3 : Nat)) ∧ W.cell? ⟨w.heap.size, 5, none⟩ = some (.int .i64 t.lo) ∧ W.cell? ⟨w.heap.size, 6, none⟩ = some (.int .i64 t.hi) ∧ W.cell? ⟨w.heap.size, 7, none⟩ = some (.int .i64 (t.grp : Nat)) ∧ W.cell? ⟨w.heap.size, 8, none⟩ = some (.slice a n c) ∧ Hid (W.heap[w.heap.size]? = some (.cells #[.int .i64 (t.kind : Nat), .int .u64 (wd t.q 0 : Nat), .int .u64 (wd t.q 1 : Nat), .int .u64 (wd t.q 2 : Nat), .int .u64 (wd t.q 3 : Nat), .int .i64 t.lo, .int .i64 t.hi, .int .i64 (t.grp : Nat), .slice a n c] 27 (0, 0)) ∧ (∃ m : Ms, W.heap[w.heap.size + 1]? = some (.cells m.arr 42 (0, 0))) ∧ Below w.heap.size w W)
set_option maxRecDepth 100000 in
set_option maxHeartbeats 8000000 in
theorem docOf_tree (t : Tr) (hwf : wfT t) (hft : fitT t) (hsm : smallT t) (hps : (msT t).pos = posT t) (w : World) (ok : Nat → Prop) (a : Option Addr) (n c : Nat) (hk : Kids w ok (.slice a n c) t.kids) :
    Calls Try.prog 24 #[nodeA t (.slice a n c)] w fun e w' => e = .returned (.agg (msT t).arr) ∧ Below w.heap.size w w' := by
  obtain ⟨X, hX⟩ : ∃ X, X = (w.alloc (.cells #[.int .i64 (t.kind : Nat), .int .u64 (wd t.q 0 : Nat), .int .u64 (wd t.q 1 : Nat), .int .u64 (wd t.q 2 : Nat), .int .u64 (wd t.q 3 : Nat), .int .i64 t.lo, .int .i64 t.hi, .int .i64 (t.grp : Nat), .slice a n c] 27)).alloc (.cells #[.int .i64 0, .int .i64 0, .int .i64 0, .int .i64 0, .bool false, .bool false, .bool false] 42) := ⟨_, rfl⟩
  have xb1 : X.heap[w.heap.size]? = some (.cells #[.int .i64 (t.kind : Nat), .int .u64 (wd t.q 0 : Nat), .int .u64 (wd t.q 1 : Nat), .int .u64 (wd t.q 2 : Nat), .int .u64 (wd t.q 3 : Nat), .int .i64 t.lo, .int .i64 t.hi, .int .i64 (t.grp : Nat), .slice a n c] 27 (0, 0)) := by
    rw [hX, Below.heap_alloc _ _ _ (by rw [World.size_alloc]; omega)]
    exact heap_alloc_new w _
  have xb2 : X.heap[w.heap.size + 1]? = some (.cells #[.int .i64 0, .int .i64 0, .int .i64 0, .int .i64 0, .bool false, .bool false, .bool false] 42 (0, 0)) := by
    rw [hX, ← World.size_alloc w (.cells #[.int .i64 (t.kind : Nat), .int .u64 (wd t.q 0 : Nat), .int .u64 (wd t.q 1 : Nat), .int .u64 (wd t.q 2 : Nat), .int .u64 (wd t.q 3 : Nat), .int .i64 t.lo, .int .i64 t.hi, .int .i64 (t.grp : Nat), .slice a n c] 27)]
    exact heap_alloc_new _ _
  have hBX : Below w.heap.size w X := by
    rw [hX]
    exact ((Below.refl _ _).alloc (Nat.le_refl _) _).alloc (by rw [World.size_alloc]; omega) _
  have hS : ∀ W : World, W.heap[w.heap.size]? = some (.cells #[.int .i64 (t.kind : Nat), .int .u64 (wd t.q 0 : Nat), .int .u64 (wd t.q 1 : Nat), .int .u64 (wd t.q 2 : Nat), .int .u64 (wd t.q 3 : Nat), .int .i64 t.lo, .int .i64 t.hi, .int .i64 (t.grp : Nat), .slice a n c] 27 (0, 0)) → (∃ m : Ms, W.heap[w.heap.size + 1]? = some (.cells m.arr 42 (0, 0))) → Below w.heap.size w W → (SX w t a n c W) := by
    intro W h1 h2 h3
    refine ⟨?_, ?_, ?_, ?_, ?_, ?_, ?_, ?_, ?_, h1, h2, h3⟩
    all_goals simp [World.cell?, h1]
  have hH : ∀ W : World, (SX w t a n c W) → W.heap[w.heap.size]? = some (.cells #[.int .i64 (t.kind : Nat), .int .u64 (wd t.q 0 : Nat), .int .u64 (wd t.q 1 : Nat), .int .u64 (wd t.q 2 : Nat), .int .u64 (wd t.q 3 : Nat), .int .i64 t.lo, .int .i64 t.hi, .int .i64 (t.grp : Nat), .slice a n c] 27 (0, 0)) ∧ (∃ m : Ms, W.heap[w.heap.size + 1]? = some (.cells m.arr 42 (0, 0))) ∧ Below w.heap.size w W := fun W h => by
    obtain ⟨_, _, _, _, _, _, _, _, _, h⟩ := h
    exact h
  have hN : ∀ (W W' : World), (SX w t a n c W) → Below W.heap.size W W' → (SX w t a n c (W')) := fun W W' h hb => by
    obtain ⟨h1, ⟨m, h2⟩, h3⟩ := hH W h
    exact hS W' ((hb.block _ (Array.getElem?_eq_some_iff.1 h1).1).trans h1) ⟨m, (hb.block _ (Array.getElem?_eq_some_iff.1 h2).1).trans h2⟩ (h3.trans (hb.mono h3.size))
  have hK : ∀ (W : World), (SX w t a n c W) → Kids W ok (.slice a n c) t.kids := fun W h => kids_below hk (hH W h).2.2
  have hP : ∀ W : World, (SX w t a n c W) → (SX w t a n c (((((((W.setCell ⟨w.heap.size + 1, 0, none⟩ (.int .i64 (msT t).pos)).setCell ⟨w.heap.size + 1, 1, none⟩ (.int .i64 (msT t).groups)).setCell ⟨w.heap.size + 1, 2, none⟩ (.int .i64 (msT t).least)).setCell ⟨w.heap.size + 1, 3, none⟩ (.int .i64 (msT t).most)).setCell ⟨w.heap.size + 1, 4, none⟩ (.bool (msT t).back)).setCell ⟨w.heap.size + 1, 5, none⟩ (.bool (msT t).bol)).setCell ⟨w.heap.size + 1, 6, none⟩ (.bool (msT t).eol))) := fun W h => by
    obtain ⟨h1, ⟨m, h2⟩, h3⟩ := hH W h
    exact hS _ ((put7_far W (msT t) (by omega)).trans h1) ⟨msT t, put7_at (msT t) h2⟩ (put7_below h3 (by omega) (msT t))
  have c13 : Hid (∀ W : World, (SX w t a n c W) → Calls Try.prog 13 #[.agg #[.int .i64 (t.kind : Nat), .int .u64 (wd t.q 0 : Nat), .int .u64 (wd t.q 1 : Nat), .int .u64 (wd t.q 2 : Nat), .int .u64 (wd t.q 3 : Nat), .int .i64 t.lo, .int .i64 t.hi, .int .i64 (t.grp : Nat), .slice a n c]] W fun e w' => e = .returned (.int .i64 (msT t).pos) ∧ (SX w t a n c (w'))) := hideM (fun W h => (hps ▸ pos_any _ t (Nat.lt_succ_self _) hsm W ok a n c (hK W h)).mono (fun e w' h2 => ⟨h2.1, hN W w' h h2.2⟩))
  have c37 : Hid (∀ W : World, (SX w t a n c W) → Calls Try.prog 37 #[.agg #[.int .i64 (t.kind : Nat), .int .u64 (wd t.q 0 : Nat), .int .u64 (wd t.q 1 : Nat), .int .u64 (wd t.q 2 : Nat), .int .u64 (wd t.q 3 : Nat), .int .i64 t.lo, .int .i64 t.hi, .int .i64 (t.grp : Nat), .slice a n c]] W fun e w' => e = .returned (.int .i64 (msT t).groups) ∧ (SX w t a n c (w'))) := hideM (fun W h => (docGroups_any _ t (Nat.lt_succ_self _) hwf hft W ok a n c (hK W h)).mono (fun e w' h2 => ⟨h2.1, hN W w' h h2.2⟩))
  have c38 : Hid (∀ W : World, (SX w t a n c W) → Calls Try.prog 38 #[.agg #[.int .i64 (t.kind : Nat), .int .u64 (wd t.q 0 : Nat), .int .u64 (wd t.q 1 : Nat), .int .u64 (wd t.q 2 : Nat), .int .u64 (wd t.q 3 : Nat), .int .i64 t.lo, .int .i64 t.hi, .int .i64 (t.grp : Nat), .slice a n c]] W fun e w' => e = .returned (.int .i64 (msT t).least) ∧ (SX w t a n c (w'))) := hideM (fun W h => (docLeast_any _ t (Nat.lt_succ_self _) hwf hft W ok a n c (hK W h)).mono (fun e w' h2 => ⟨h2.1, hN W w' h h2.2⟩))
  have c39 : Hid (∀ W : World, (SX w t a n c W) → Calls Try.prog 39 #[.agg #[.int .i64 (t.kind : Nat), .int .u64 (wd t.q 0 : Nat), .int .u64 (wd t.q 1 : Nat), .int .u64 (wd t.q 2 : Nat), .int .u64 (wd t.q 3 : Nat), .int .i64 t.lo, .int .i64 t.hi, .int .i64 (t.grp : Nat), .slice a n c]] W fun e w' => e = .returned (.int .i64 (msT t).most) ∧ (SX w t a n c (w'))) := hideM (fun W h => (docMost_any _ t (Nat.lt_succ_self _) hwf hft W ok a n c (hK W h)).mono (fun e w' h2 => ⟨h2.1, hN W w' h h2.2⟩))
  have c6 : Hid (∀ W : World, (SX w t a n c W) → Calls Try.prog 40 #[.agg #[.int .i64 (t.kind : Nat), .int .u64 (wd t.q 0 : Nat), .int .u64 (wd t.q 1 : Nat), .int .u64 (wd t.q 2 : Nat), .int .u64 (wd t.q 3 : Nat), .int .i64 t.lo, .int .i64 t.hi, .int .i64 (t.grp : Nat), .slice a n c], .int .i64 6] W fun e w' => e = .returned (.bool (msT t).back) ∧ (SX w t a n c (w'))) := hideM (fun W h => (docHas_any 6 (.inl rfl) _ t (Nat.lt_succ_self _) hwf hft W ok a n c (hK W h)).mono (fun e w' h2 => ⟨h2.1, hN W w' h h2.2⟩))
  have c2 : Hid (∀ W : World, (SX w t a n c W) → Calls Try.prog 40 #[.agg #[.int .i64 (t.kind : Nat), .int .u64 (wd t.q 0 : Nat), .int .u64 (wd t.q 1 : Nat), .int .u64 (wd t.q 2 : Nat), .int .u64 (wd t.q 3 : Nat), .int .i64 t.lo, .int .i64 t.hi, .int .i64 (t.grp : Nat), .slice a n c], .int .i64 2] W fun e w' => e = .returned (.bool (msT t).bol) ∧ (SX w t a n c (w'))) := hideM (fun W h => (docHas_any 2 (.inr (.inl rfl)) _ t (Nat.lt_succ_self _) hwf hft W ok a n c (hK W h)).mono (fun e w' h2 => ⟨h2.1, hN W w' h h2.2⟩))
  have c3 : Hid (∀ W : World, (SX w t a n c W) → Calls Try.prog 40 #[.agg #[.int .i64 (t.kind : Nat), .int .u64 (wd t.q 0 : Nat), .int .u64 (wd t.q 1 : Nat), .int .u64 (wd t.q 2 : Nat), .int .u64 (wd t.q 3 : Nat), .int .i64 t.lo, .int .i64 t.hi, .int .i64 (t.grp : Nat), .slice a n c], .int .i64 3] W fun e w' => e = .returned (.bool (msT t).eol) ∧ (SX w t a n c (w'))) := hideM (fun W h => (docHas_any 3 (.inr (.inr rfl)) _ t (Nat.lt_succ_self _) hwf hft W ok a n c (hK W h)).mono (fun e w' h2 => ⟨h2.1, hN W w' h h2.2⟩))
  have hS0 : (SX w t a n c (X.drew)) := hS X.drew xb1 ⟨.zero, xb2⟩ hBX.drew
  have hZ : Hid (∀ W : World, (SX w t a n c W) → ∃ m : Ms, W.heap[w.heap.size + 1]? = some (.cells m.arr 42 (0, 0))) := hideM (fun W h => (hH W h).2.1)
  have HX := hideM (And.intro hBX (And.intro hH hP))
  clear hH hN hK hS xb1 xb2 hBX hk hwf hft hsm hps
  have hP := fun W h => HX.out.2.2 W h
  generalize msT t = M at *
  go_enter Try.func24, Try.ntmps24
  go_upto_region 1 with fail
  rw [← hX]
  clear hX
  go_region_held3 (fun W' => W'.cell? ⟨w.heap.size, 0, none⟩ = some (.int .i64 (t.kind : Nat)) ∧ W'.cell? ⟨w.heap.size, 1, none⟩ = some (.int .u64 (wd t.q 0 : Nat)) ∧ W'.cell? ⟨w.heap.size, 2, none⟩ = some (.int .u64 (wd t.q 1 : Nat)) ∧ W'.cell? ⟨w.heap.size, 3, none⟩ = some (.int .u64 (wd t.q 2 : Nat)) ∧ W'.cell? ⟨w.heap.size, 4, none⟩ = some (.int .u64 (wd t.q 3 : Nat)) ∧ W'.cell? ⟨w.heap.size, 5, none⟩ = some (.int .i64 t.lo) ∧ W'.cell? ⟨w.heap.size, 6, none⟩ = some (.int .i64 t.hi) ∧ W'.cell? ⟨w.heap.size, 7, none⟩ = some (.int .i64 (t.grp : Nat)) ∧ W'.cell? ⟨w.heap.size, 8, none⟩ = some (.slice a n c) ∧ Hid (W'.heap[w.heap.size]? = some (.cells #[.int .i64 (t.kind : Nat), .int .u64 (wd t.q 0 : Nat), .int .u64 (wd t.q 1 : Nat), .int .u64 (wd t.q 2 : Nat), .int .u64 (wd t.q 3 : Nat), .int .i64 t.lo, .int .i64 t.hi, .int .i64 (t.grp : Nat), .slice a n c] 27 (0, 0)) ∧ (∃ m : Ms, W'.heap[w.heap.size + 1]? = some (.cells m.arr 42 (0, 0))) ∧ Below w.heap.size w W')) (first | with_reducible exact hS0 | with_reducible assumption | with_reducible exact hP _ (by with_reducible assumption)) ((first | (go_at_call 13; refine (c13.out _ (by with_reducible assumption)).mono ?_; rintro e1 w1 ⟨rfl, hS1⟩) | (go_at_call 37; refine (c37.out _ (by with_reducible assumption)).mono ?_; rintro e2 w2 ⟨rfl, hS2⟩) | (go_at_call 38; refine (c38.out _ (by with_reducible assumption)).mono ?_; rintro e3 w3 ⟨rfl, hS3⟩) | (go_at_call 39; refine (c39.out _ (by with_reducible assumption)).mono ?_; rintro e4 w4 ⟨rfl, hS4⟩) | (go_at_call 40; with_reducible refine (c6.out _ (by with_reducible assumption)).mono ?_; rintro e5 w5 ⟨rfl, hS5⟩) | (go_at_call 40; with_reducible refine (c2.out _ (by with_reducible assumption)).mono ?_; rintro e6 w6 ⟨rfl, hS6⟩) | (go_at_call 40; with_reducible refine (c3.out _ (by with_reducible assumption)).mono ?_; rintro e7 w7 ⟨rfl, hS7⟩; obtain ⟨m7, hm7⟩ := hZ.out _ hS7; have zc0 : w7.cell? ⟨w.heap.size + 1, 0, none⟩ = some (.int .i64 m7.pos) := (by simp [World.cell?, hm7]); have zc1 : w7.cell? ⟨w.heap.size + 1, 1, none⟩ = some (.int .i64 m7.groups) := (by simp [World.cell?, hm7]); have zc2 : w7.cell? ⟨w.heap.size + 1, 2, none⟩ = some (.int .i64 m7.least) := (by simp [World.cell?, hm7]); have zc3 : w7.cell? ⟨w.heap.size + 1, 3, none⟩ = some (.int .i64 m7.most) := (by simp [World.cell?, hm7]); have zc4 : w7.cell? ⟨w.heap.size + 1, 4, none⟩ = some (.bool m7.back) := (by simp [World.cell?, hm7]); have zc5 : w7.cell? ⟨w.heap.size + 1, 5, none⟩ = some (.bool m7.bol) := (by simp [World.cell?, hm7]); have zc6 : w7.cell? ⟨w.heap.size + 1, 6, none⟩ = some (.bool m7.eol) := (by simp [World.cell?, hm7]); have zf0 : w7.frozen? ⟨w.heap.size + 1, 0, none⟩ = false := (by simp [World.frozen?, hm7]); have zf1 : w7.frozen? ⟨w.heap.size + 1, 1, none⟩ = false := (by simp [World.frozen?, hm7]); have zf2 : w7.frozen? ⟨w.heap.size + 1, 2, none⟩ = false := (by simp [World.frozen?, hm7]); have zf3 : w7.frozen? ⟨w.heap.size + 1, 3, none⟩ = false := (by simp [World.frozen?, hm7]); have zf4 : w7.frozen? ⟨w.heap.size + 1, 4, none⟩ = false := (by simp [World.frozen?, hm7]); have zf5 : w7.frozen? ⟨w.heap.size + 1, 5, none⟩ = false := (by simp [World.frozen?, hm7]); have zf6 : w7.frozen? ⟨w.heap.size + 1, 6, none⟩ = false := (by simp [World.frozen?, hm7]); have HM7 := hideM hm7; clear hm7)))
  have hBw := (HX.out.2.1 w7 hS7).2.2
  obtain ⟨Y, hY⟩ : ∃ Y, Y = ((((((w7.setCell ⟨w.heap.size + 1, 0, none⟩ (.int .i64 M.pos)).setCell ⟨w.heap.size + 1, 1, none⟩ (.int .i64 M.groups)).setCell ⟨w.heap.size + 1, 2, none⟩ (.int .i64 M.least)).setCell ⟨w.heap.size + 1, 3, none⟩ (.int .i64 M.most)).setCell ⟨w.heap.size + 1, 4, none⟩ (.bool M.back)).setCell ⟨w.heap.size + 1, 5, none⟩ (.bool M.bol)).setCell ⟨w.heap.size + 1, 6, none⟩ (.bool M.eol) := ⟨_, rfl⟩
  have yb : Y.heap[w.heap.size + 1]? = some (.cells M.arr 42 (0, 0)) := by rw [hY]; exact put7_at M HM7.out
  have yB : Below w.heap.size w Y := by rw [hY]; exact put7_below hBw (by omega) M
  rw [← hY]
  have o0 : Y.cell? ⟨w.heap.size + 1, 0, none⟩ = some (.int .i64 M.pos) := by simp [World.cell?, yb]
  have o1 : Y.cell? ⟨w.heap.size + 1, 1, none⟩ = some (.int .i64 M.groups) := by simp [World.cell?, yb]
  have o2 : Y.cell? ⟨w.heap.size + 1, 2, none⟩ = some (.int .i64 M.least) := by simp [World.cell?, yb]
  have o3 : Y.cell? ⟨w.heap.size + 1, 3, none⟩ = some (.int .i64 M.most) := by simp [World.cell?, yb]
  have o4 : Y.cell? ⟨w.heap.size + 1, 4, none⟩ = some (.bool M.back) := by simp [World.cell?, yb]
  have o5 : Y.cell? ⟨w.heap.size + 1, 5, none⟩ = some (.bool M.bol) := by simp [World.cell?, yb]
  have o6 : Y.cell? ⟨w.heap.size + 1, 6, none⟩ = some (.bool M.eol) := by simp [World.cell?, yb]
  clear hY yb hBw
  go_wp2
  refine bodyPost_ret (by simp [results, Try.results24, go_sem, o0, o1, o2, o3, o4, o5, o6]; try rfl) rfl ?_
  exact ⟨rfl, yB⟩
end Go.Proofs.Ytgpciekpmdihnaa
/- MeasureOfs: the document's DocOf, and the walk. -/
namespace Go.Proofs.Ytgpciekpmdihnaa
open Go.RowKit
theorem parse_wf (s : ByteArray) (ts : List Tr) (h : parseT s = .ok ts) : wfT (catT ts) ∧ (msT (catT ts)).pos = posT (catT ts) := by
  obtain ⟨s', hs⟩ := parse_shapes s ts h
  exact ⟨wf_sh _ _ _ hs, (ms_ok _ _ _ hs).2.1⟩
set_option maxRecDepth 100000 in
set_option maxHeartbeats 4000000 in
theorem docOf_any (s : ByteArray) (w : World) (hg : Glob w) :
    Calls Try.prog 17 #[.string s] w fun e w' => e = .returned (.tuple #[.agg (ofM s).1.arr, .int .i64 (ofM s).2.1, .int .i64 ((ofM s).2.2 : Nat)]) ∧ Below w.heap.size w w' := by
  cases hp : parseT s with
  | ok ts =>
    have hM : ofM s = (msF .zero ts, 0, 0) := by unfold ofM; rw [hp]
    rw [hM]
    obtain ⟨M, hMM⟩ : ∃ M, M = msF .zero ts := ⟨_, rfl⟩
    have hM2 : msT (catT ts) = M := by rw [hMM]; simp [catT, msT]
    have hof := fun w ok a n c hk => docOf_tree (catT ts) (parse_wf s ts hp).1 (parse_fit s ts hp) (parse_small s ts hp) (parse_wf s ts hp).2 w ok a n c hk
    rw [hM2] at hof
    rw [← hMM]
    have HO := hideM hof
    clear hof hM hMM hM2
    go_enter Try.func17, Try.ntmps17
    go_upto_region 1 with fail
    obtain ⟨X, hX⟩ : ∃ X, X = w.alloc (.cells #[.int .i64 0, .int .i64 0, .int .i64 0, .int .i64 0, .bool false, .bool false, .bool false] 42) := ⟨_, rfl⟩
    have hXs : X.heap.size = w.heap.size + 1 := by rw [hX, World.size_alloc]
    have xb1 : X.heap[w.heap.size]? = some (.cells Ms.zero.arr 42 (0, 0)) := by rw [hX]; exact heap_alloc_new w _
    have hBX : Below w.heap.size w X := by rw [hX]; exact (Below.refl _ _).alloc (Nat.le_refl _) _
    rw [← hX]
    clear hX
    go_wp2_with fail
    refine (doc_ok s ts hp X (hg.below hBX (Nat.le_refl _))).mono ?_
    rintro e w1 ⟨hB1, a, n, c, rfl, hk⟩
    have hsz := hB1.size
    obtain ⟨V, hV⟩ : ∃ V, V = w1.alloc (.cells #[.int .i64 0, .int .u64 0, .int .u64 0, .int .u64 0, .int .u64 0, .int .i64 0, .int .i64 0, .int .i64 0, .slice a n c] 27) := ⟨_, rfl⟩
    have hBV1 : Below w1.heap.size w1 V := by rw [hV]; exact (Below.refl _ _).alloc (Nat.le_refl _) _
    have v1 : V.heap[w.heap.size]? = some (.cells Ms.zero.arr 42 (0, 0)) := by rw [hBV1.block _ (by omega), hB1.block _ (by omega)]; exact xb1
    have v3 : V.heap[w1.heap.size]? = some (.cells #[.int .i64 0, .int .u64 0, .int .u64 0, .int .u64 0, .int .u64 0, .int .i64 0, .int .i64 0, .int .i64 0, .slice a n c] 27 (0, 0)) := by rw [hV]; exact heap_alloc_new w1 _
    have hBV : Below w.heap.size w V := (hBX.trans (hB1.mono (by omega))).trans (hBV1.mono (by omega))
    have hic := HO.out V _ a n c (kids_below (show Kids w1 _ (.slice a n c) (catT ts).kids from hk) hBV1)
    rw [cat_node] at hic
    have t0 : V.cell? ⟨w1.heap.size, 0, none⟩ = some (.int .i64 0) := by simp [World.cell?, v3]
    have t1 : V.cell? ⟨w1.heap.size, 1, none⟩ = some (.int .u64 0) := by simp [World.cell?, v3]
    have t2 : V.cell? ⟨w1.heap.size, 2, none⟩ = some (.int .u64 0) := by simp [World.cell?, v3]
    have t3 : V.cell? ⟨w1.heap.size, 3, none⟩ = some (.int .u64 0) := by simp [World.cell?, v3]
    have t4 : V.cell? ⟨w1.heap.size, 4, none⟩ = some (.int .u64 0) := by simp [World.cell?, v3]
    have t5 : V.cell? ⟨w1.heap.size, 5, none⟩ = some (.int .i64 0) := by simp [World.cell?, v3]
    have t6 : V.cell? ⟨w1.heap.size, 6, none⟩ = some (.int .i64 0) := by simp [World.cell?, v3]
    have t7 : V.cell? ⟨w1.heap.size, 7, none⟩ = some (.int .i64 0) := by simp [World.cell?, v3]
    have t8 : V.cell? ⟨w1.heap.size, 8, none⟩ = some (.slice a n c) := by simp [World.cell?, v3]
    have HD := hideM (And.intro v1 (And.intro hBV (And.intro hsz hXs)))
    have hVs : V.heap.size = w1.heap.size + 1 := by rw [hV, World.size_alloc]
    clear v1 v3 hBV hsz hXs hBV1 hB1 hk xb1 hBX HO
    go_upto_region 2 with fail
    rw [← hV]
    clear hV
    go_wp2_with fail
    refine hic.mono ?_
    rintro e w3 ⟨rfl, hb3⟩
    have hsz := HD.out.2.2.1
    have hXs := HD.out.2.2.2
    have u1 := (hb3.block w.heap.size (by omega)).trans HD.out.1
    have uB := HD.out.2.1.trans (hb3.mono (by omega))
    have r0 : w3.cell? ⟨w.heap.size, 0, none⟩ = some (.int .i64 0) := by simp [World.cell?, u1, Ms.zero]
    have s0 : w3.frozen? ⟨w.heap.size, 0, none⟩ = false := by simp [World.frozen?, u1]
    have r1 : w3.cell? ⟨w.heap.size, 1, none⟩ = some (.int .i64 0) := by simp [World.cell?, u1, Ms.zero]
    have s1 : w3.frozen? ⟨w.heap.size, 1, none⟩ = false := by simp [World.frozen?, u1]
    have r2 : w3.cell? ⟨w.heap.size, 2, none⟩ = some (.int .i64 0) := by simp [World.cell?, u1, Ms.zero]
    have s2 : w3.frozen? ⟨w.heap.size, 2, none⟩ = false := by simp [World.frozen?, u1]
    have r3 : w3.cell? ⟨w.heap.size, 3, none⟩ = some (.int .i64 0) := by simp [World.cell?, u1, Ms.zero]
    have s3 : w3.frozen? ⟨w.heap.size, 3, none⟩ = false := by simp [World.frozen?, u1]
    have r4 : w3.cell? ⟨w.heap.size, 4, none⟩ = some (.bool false) := by simp [World.cell?, u1, Ms.zero]
    have s4 : w3.frozen? ⟨w.heap.size, 4, none⟩ = false := by simp [World.frozen?, u1]
    have r5 : w3.cell? ⟨w.heap.size, 5, none⟩ = some (.bool false) := by simp [World.cell?, u1, Ms.zero]
    have s5 : w3.frozen? ⟨w.heap.size, 5, none⟩ = false := by simp [World.frozen?, u1]
    have r6 : w3.cell? ⟨w.heap.size, 6, none⟩ = some (.bool false) := by simp [World.cell?, u1, Ms.zero]
    have s6 : w3.frozen? ⟨w.heap.size, 6, none⟩ = false := by simp [World.frozen?, u1]
    have HU := hideM (And.intro u1 uB)
    clear u1 uB hsz hXs hb3 hVs hic t0 t1 t2 t3 t4 t5 t6 t7 t8
    go_wp2
    obtain ⟨Y, hY⟩ : ∃ Y, Y = ((((((w3.setCell ⟨w.heap.size, 0, none⟩ (.int .i64 M.pos)).setCell ⟨w.heap.size, 1, none⟩ (.int .i64 M.groups)).setCell ⟨w.heap.size, 2, none⟩ (.int .i64 M.least)).setCell ⟨w.heap.size, 3, none⟩ (.int .i64 M.most)).setCell ⟨w.heap.size, 4, none⟩ (.bool M.back)).setCell ⟨w.heap.size, 5, none⟩ (.bool M.bol)).setCell ⟨w.heap.size, 6, none⟩ (.bool M.eol) := ⟨_, rfl⟩
    have yb : Y.heap[w.heap.size]? = some (.cells M.arr 42 (0, 0)) := by rw [hY]; exact put7_at M HU.out.1
    have yB : Below w.heap.size w Y := by rw [hY]; exact put7_below HU.out.2 (Nat.le_refl _) M
    rw [← hY]
    clear hY
    have o0 : Y.cell? ⟨w.heap.size, 0, none⟩ = some (.int .i64 M.pos) := by simp [World.cell?, yb]
    have o1 : Y.cell? ⟨w.heap.size, 1, none⟩ = some (.int .i64 M.groups) := by simp [World.cell?, yb]
    have o2 : Y.cell? ⟨w.heap.size, 2, none⟩ = some (.int .i64 M.least) := by simp [World.cell?, yb]
    have o3 : Y.cell? ⟨w.heap.size, 3, none⟩ = some (.int .i64 M.most) := by simp [World.cell?, yb]
    have o4 : Y.cell? ⟨w.heap.size, 4, none⟩ = some (.bool M.back) := by simp [World.cell?, yb]
    have o5 : Y.cell? ⟨w.heap.size, 5, none⟩ = some (.bool M.bol) := by simp [World.cell?, yb]
    have o6 : Y.cell? ⟨w.heap.size, 6, none⟩ = some (.bool M.eol) := by simp [World.cell?, yb]
    refine bodyPost_ret (v := .tuple #[.agg M.arr, .int .i64 0, .int .i64 0]) (by simp [results, Try.results17, go_sem, o0, o1, o2, o3, o4, o5, o6]; try rfl) rfl ?_
    exact ⟨rfl, yB⟩
  | error x =>
    obtain ⟨e, p⟩ := x
    have hM : ofM s = (.zero, e, p) := by unfold ofM; rw [hp]
    rw [hM]
    have hne : (e != 0) = true := by simpa using (parse_place s e p hp).1
    clear hM
    go_enter Try.func17, Try.ntmps17
    go_upto_region 1 with fail
    obtain ⟨X, hX⟩ : ∃ X, X = w.alloc (.cells #[.int .i64 0, .int .i64 0, .int .i64 0, .int .i64 0, .bool false, .bool false, .bool false] 42) := ⟨_, rfl⟩
    have hXs : X.heap.size = w.heap.size + 1 := by rw [hX, World.size_alloc]
    have xb1 : X.heap[w.heap.size]? = some (.cells Ms.zero.arr 42 (0, 0)) := by rw [hX]; exact heap_alloc_new w _
    have hBX : Below w.heap.size w X := by rw [hX]; exact (Below.refl _ _).alloc (Nat.le_refl _) _
    rw [← hX]
    clear hX
    go_wp2_with fail
    refine (doc_err s e p hp X (hg.below hBX (Nat.le_refl _))).mono ?_
    rintro e' w1 ⟨hB1, rfl⟩
    have hsz := hB1.size
    obtain ⟨V, hV⟩ : ∃ V, V = w1.alloc (.cells #[.int .i64 0, .int .u64 0, .int .u64 0, .int .u64 0, .int .u64 0, .int .i64 0, .int .i64 0, .int .i64 0, .slice none 0 0] 27) := ⟨_, rfl⟩
    have hBV1 : Below w1.heap.size w1 V := by rw [hV]; exact (Below.refl _ _).alloc (Nat.le_refl _) _
    have v1 : V.heap[w.heap.size]? = some (.cells Ms.zero.arr 42 (0, 0)) := by rw [hBV1.block _ (by omega), hB1.block _ (by omega)]; exact xb1
    have hBV : Below w.heap.size w V := (hBX.trans (hB1.mono (by omega))).trans (hBV1.mono (by omega))
    have r0 : V.cell? ⟨w.heap.size, 0, none⟩ = some (.int .i64 0) := by simp [World.cell?, v1, Ms.zero]
    have s0 : V.frozen? ⟨w.heap.size, 0, none⟩ = false := by simp [World.frozen?, v1]
    have r1 : V.cell? ⟨w.heap.size, 1, none⟩ = some (.int .i64 0) := by simp [World.cell?, v1, Ms.zero]
    have s1 : V.frozen? ⟨w.heap.size, 1, none⟩ = false := by simp [World.frozen?, v1]
    have r2 : V.cell? ⟨w.heap.size, 2, none⟩ = some (.int .i64 0) := by simp [World.cell?, v1, Ms.zero]
    have s2 : V.frozen? ⟨w.heap.size, 2, none⟩ = false := by simp [World.frozen?, v1]
    have r3 : V.cell? ⟨w.heap.size, 3, none⟩ = some (.int .i64 0) := by simp [World.cell?, v1, Ms.zero]
    have s3 : V.frozen? ⟨w.heap.size, 3, none⟩ = false := by simp [World.frozen?, v1]
    have r4 : V.cell? ⟨w.heap.size, 4, none⟩ = some (.bool false) := by simp [World.cell?, v1, Ms.zero]
    have s4 : V.frozen? ⟨w.heap.size, 4, none⟩ = false := by simp [World.frozen?, v1]
    have r5 : V.cell? ⟨w.heap.size, 5, none⟩ = some (.bool false) := by simp [World.cell?, v1, Ms.zero]
    have s5 : V.frozen? ⟨w.heap.size, 5, none⟩ = false := by simp [World.frozen?, v1]
    have r6 : V.cell? ⟨w.heap.size, 6, none⟩ = some (.bool false) := by simp [World.cell?, v1, Ms.zero]
    have s6 : V.frozen? ⟨w.heap.size, 6, none⟩ = false := by simp [World.frozen?, v1]
    have HD := hideM (And.intro v1 hBV)
    clear v1 hBV hsz hXs hBV1 hB1 xb1 hBX
    go_upto_region 2 with fail
    rw [← hV]
    clear hV
    go_wp2
    obtain ⟨Y, hY⟩ : ∃ Y, Y = ((((((V.setCell ⟨w.heap.size, 0, none⟩ (.int .i64 0)).setCell ⟨w.heap.size, 1, none⟩ (.int .i64 0)).setCell ⟨w.heap.size, 2, none⟩ (.int .i64 0)).setCell ⟨w.heap.size, 3, none⟩ (.int .i64 0)).setCell ⟨w.heap.size, 4, none⟩ (.bool false)).setCell ⟨w.heap.size, 5, none⟩ (.bool false)).setCell ⟨w.heap.size, 6, none⟩ (.bool false) := ⟨_, rfl⟩
    have yb : Y.heap[w.heap.size]? = some (.cells Ms.zero.arr 42 (0, 0)) := by rw [hY]; exact put7_at Ms.zero HD.out.1
    have yB : Below w.heap.size w Y := by rw [hY]; exact put7_below HD.out.2 (Nat.le_refl _) Ms.zero
    rw [← hY]
    clear hY
    have o0 : Y.cell? ⟨w.heap.size, 0, none⟩ = some (.int .i64 0) := by simp [World.cell?, yb, Ms.zero]
    have o1 : Y.cell? ⟨w.heap.size, 1, none⟩ = some (.int .i64 0) := by simp [World.cell?, yb, Ms.zero]
    have o2 : Y.cell? ⟨w.heap.size, 2, none⟩ = some (.int .i64 0) := by simp [World.cell?, yb, Ms.zero]
    have o3 : Y.cell? ⟨w.heap.size, 3, none⟩ = some (.int .i64 0) := by simp [World.cell?, yb, Ms.zero]
    have o4 : Y.cell? ⟨w.heap.size, 4, none⟩ = some (.bool false) := by simp [World.cell?, yb, Ms.zero]
    have o5 : Y.cell? ⟨w.heap.size, 5, none⟩ = some (.bool false) := by simp [World.cell?, yb, Ms.zero]
    have o6 : Y.cell? ⟨w.heap.size, 6, none⟩ = some (.bool false) := by simp [World.cell?, yb, Ms.zero]
    refine bodyPost_ret (v := .tuple #[.agg Ms.zero.arr, .int .i64 e, .int .i64 (p : Nat)]) (by simp [results, Try.results17, go_sem, o0, o1, o2, o3, o4, o5, o6, Ms.zero]; try rfl) rfl ?_
    exact ⟨rfl, yB⟩
end Go.Proofs.Ytgpciekpmdihnaa
/- MeasureOfs: the walk. -/
namespace Go.Proofs.Ytgpciekpmdihnaa
open Go.RowKit
theorem same_self (m : Ms) : m.same m = true := by simp [Ms.same]
namespace ofs
set_option maxRecDepth 100000 in
set_option maxHeartbeats 4000000 in
theorem walk (s : ByteArray) (w : World) (hg : Glob w) : Calls Try.prog 6 #[.string s] w fun e w' => e = .returned (.bool true) ∧ Below w.heap.size w w' := by
  have hO := fun w hg => mOf_any s w hg
  have hD := fun w hg => docOf_any s w hg
  obtain ⟨⟨m, e, p⟩, hm⟩ : ∃ x, x = ofM s := ⟨_, rfl⟩
  rw [← hm] at hO hD
  simp only at hO hD
  clear hm
  have heq := run_equal_ms7
  have heqf := run_equal_fault
  have HO := hideM (And.intro hO hD)
  clear hO hD
  go_enter Try.func6, Try.ntmps6
  go_wp2_with fail
  refine (HO.out.1 w hg).mono ?_
  rintro e' w1 ⟨rfl, hB1⟩
  have hg1 := hg.below hB1 (Nat.le_refl _)
  obtain ⟨X, hX⟩ : ∃ X, X = (w1.alloc (.cells m.arr 42)).alloc (.cells #[.int .i64 e, .int .i64 (p : Nat)] 30) := ⟨_, rfl⟩
  have hBX : Below w1.heap.size w1 X := by rw [hX]; exact ((Below.refl _ _).alloc (Nat.le_refl _) _).alloc (by rw [World.size_alloc]; omega) _
  have hXs : X.heap.size = w1.heap.size + 1 + 1 := by rw [hX, World.size_alloc, World.size_alloc]
  have x1 : X.heap[w1.heap.size]? = some (.cells m.arr 42 (0, 0)) := by
    rw [hX, Below.heap_alloc _ _ _ (by rw [World.size_alloc]; omega)]
    exact heap_alloc_new w1 _
  have x2 : X.heap[w1.heap.size + 1]? = some (.cells #[.int .i64 e, .int .i64 (p : Nat)] 30 (0, 0)) := by
    rw [hX, ← World.size_alloc w1 (.cells m.arr 42)]
    exact heap_alloc_new _ _
  have hgX := hg1.below hBX (Nat.le_refl _)
  go_wp2_with fail
  rw [← hX]
  clear hX
  refine (HO.out.2 X hgX).mono ?_
  rintro e' w2 ⟨rfl, hB2⟩
  have hs2 := hB2.size
  obtain ⟨V, hV⟩ : ∃ V, V = w2.alloc (.cells m.arr 42) := ⟨_, rfl⟩
  have hBV : Below w2.heap.size w2 V := by rw [hV]; exact (Below.refl _ _).alloc (Nat.le_refl _) _
  have hVs : V.heap.size = w2.heap.size + 1 := by rw [hV, World.size_alloc]
  have v3 : V.heap[w2.heap.size]? = some (.cells m.arr 42 (0, 0)) := by rw [hV]; exact heap_alloc_new w2 _
  have v1 : V.heap[w1.heap.size]? = some (.cells m.arr 42 (0, 0)) := by rw [hBV.block _ (by omega), hB2.block _ (by omega)]; exact x1
  have v2 : V.heap[w1.heap.size + 1]? = some (.cells #[.int .i64 e, .int .i64 (p : Nat)] 30 (0, 0)) := by rw [hBV.block _ (by omega), hB2.block _ (by omega)]; exact x2
  have hBw := below_next (below_next (below_next hB1 hBX) hB2) hBV
  have hgV := hg.below hBw (Nat.le_refl _)
  have haw := mAwake_any V hgV
  go_upto_region 3 with fail
  rw [← hV]
  clear hV
  go_wp2_with fail
  refine haw.mono ?_
  rintro e' w3 ⟨rfl, hB3⟩
  have hs3 := hB3.size
  have y1 := (hB3.block w1.heap.size (by omega)).trans v1
  have y2 := (hB3.block (w1.heap.size + 1) (by omega)).trans v2
  have y3 := (hB3.block w2.heap.size (by omega)).trans v3
  have a0 : w3.cell? ⟨w1.heap.size, 0, none⟩ = some (.int .i64 m.pos) := by simp [World.cell?, y1]
  have b0 : w3.cell? ⟨w2.heap.size, 0, none⟩ = some (.int .i64 m.pos) := by simp [World.cell?, y3]
  have a1 : w3.cell? ⟨w1.heap.size, 1, none⟩ = some (.int .i64 m.groups) := by simp [World.cell?, y1]
  have b1 : w3.cell? ⟨w2.heap.size, 1, none⟩ = some (.int .i64 m.groups) := by simp [World.cell?, y3]
  have a2 : w3.cell? ⟨w1.heap.size, 2, none⟩ = some (.int .i64 m.least) := by simp [World.cell?, y1]
  have b2 : w3.cell? ⟨w2.heap.size, 2, none⟩ = some (.int .i64 m.least) := by simp [World.cell?, y3]
  have a3 : w3.cell? ⟨w1.heap.size, 3, none⟩ = some (.int .i64 m.most) := by simp [World.cell?, y1]
  have b3 : w3.cell? ⟨w2.heap.size, 3, none⟩ = some (.int .i64 m.most) := by simp [World.cell?, y3]
  have a4 : w3.cell? ⟨w1.heap.size, 4, none⟩ = some (.bool m.back) := by simp [World.cell?, y1]
  have b4 : w3.cell? ⟨w2.heap.size, 4, none⟩ = some (.bool m.back) := by simp [World.cell?, y3]
  have a5 : w3.cell? ⟨w1.heap.size, 5, none⟩ = some (.bool m.bol) := by simp [World.cell?, y1]
  have b5 : w3.cell? ⟨w2.heap.size, 5, none⟩ = some (.bool m.bol) := by simp [World.cell?, y3]
  have a6 : w3.cell? ⟨w1.heap.size, 6, none⟩ = some (.bool m.eol) := by simp [World.cell?, y1]
  have b6 : w3.cell? ⟨w2.heap.size, 6, none⟩ = some (.bool m.eol) := by simp [World.cell?, y3]
  have f0 : w3.cell? ⟨w1.heap.size + 1, 0, none⟩ = some (.int .i64 e) := by simp [World.cell?, y2]
  have f1 : w3.cell? ⟨w1.heap.size + 1, 1, none⟩ = some (.int .i64 (p : Nat)) := by simp [World.cell?, y2]
  have HB := hideM (below_next hBw hB3)
  have hss := same_self m
  clear y1 y2 y3 v1 v2 v3 x1 x2 hBV hBw hgV haw hB1 hBX hB2 hB3 hs2 hs3 hVs hXs hgX hg1 hg HO
  obtain ⟨mp, mg, ml, mm, mb, mo, me⟩ := m
  simp only at *
  go_wp2
  go_ret
  exact ⟨rfl, HB.out⟩
end ofs
end Go.Proofs.Ytgpciekpmdihnaa
