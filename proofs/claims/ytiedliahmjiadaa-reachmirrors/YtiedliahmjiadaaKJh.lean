/- reach: the walk of ReachMirrors where there is a tree. -/
import Derived.Test.YtiedliahmjiadaaKJf
set_option maxRecDepth 100000
set_option maxHeartbeats 8000000
namespace Go.Proofs.Ytiedliahmjiadaa
open Go.RowKit Go.Shelf
theorem fold_le {x : Int} : ∀ (zs : List Int) (a : Int), (∀ z ∈ zs, z ≤ x) → a ≤ x → zs.foldl max a ≤ x
 | [], a, _, h => h
 | z :: zs, a, hz, h => fold_le zs (max a z) (fun y hy => hz y (by simp [hy])) (by have := hz z (by simp); omega)
theorem le_fold : ∀ (zs : List Int) (a : Int), a ≤ zs.foldl max a ∧ ∀ z ∈ zs, z ≤ zs.foldl max a
 | [], a => ⟨Int.le_refl _, fun z h => by simp at h⟩
 | y :: zs, a => by
  obtain ⟨h1, h2⟩ := le_fold zs (max a y)
  refine ⟨by simp only [List.foldl_cons]; omega, fun z hz => ?_⟩
  simp only [List.foldl_cons]
  rw [List.mem_cons] at hz
  rcases hz with rfl | hz
  ·omega
  ·exact h2 z hz
theorem top_last {l : List Nat} (h : l.Pairwise (· < ·)) (h0 : l ≠ []) : topI l = lastI l := by
 have hp : 0 < l.length := List.length_pos_iff.2 h0
 have hx : l.getD (l.length - 1) 0 = l[l.length - 1]'(by omega) := by
  rw [List.getD_eq_getElem?_getD, List.getElem?_eq_getElem (by omega)]
  rfl
 have hle : ∀ y ∈ l, y ≤ l[l.length - 1]'(by omega) := fun y hy => by
  obtain ⟨j, hj, e⟩ := List.getElem_of_mem hy
  rw [← e]
  by_cases c : j = l.length - 1
  ·simp only [c]; exact Nat.le_refl _
  ·exact Nat.le_of_lt (rise_at h (by omega) (by omega))
 have hmem : l[l.length - 1]'(by omega) ∈ l := List.getElem_mem _
 unfold topI lastI Lib.maxOf
 rw [hx]
 have hall : ∀ z ∈ l.map fun (n : Nat) => (n : Int), z ≤ ((l[l.length - 1]'(by omega) : Nat) : Int) := fun z hz => by
  obtain ⟨y, hy, e⟩ := List.mem_map.1 hz
  have := hle y hy
  omega
 apply Int.le_antisymm
 ·refine fold_le _ _ hall ?_
  cases l with
  | nil => exact absurd rfl h0
  | cons a r => exact hall _ (by simp)
 ·exact (le_fold _ _).2 _ (List.mem_map.2 ⟨_, hmem, rfl⟩)
def fstA (o : Option Nat) : Int := match o with | some a => (a : Int) | none => 0
def fstB (f : Nat → List Nat) (o : Option Nat) : Int := match o with | some a => lastI (f a) | none => 0
structure MiR (w wr : World) (Mb P : Nat) (ms : Array Value) (o : Option Nat) (f : Nat → List Nat) : Prop where
 bel : Below w.heap.size w wr
 glob : Glob wr
 mb : wr.heap[Mb]? = some (.cells ms 25 (0, 0))
 pb : wr.heap[P]? = some (.cells #[.int .i64 (fstA o), .int .i64 (fstB f o)] 35 (0, 0))
theorem MiR.step {w W W' : World} {Mb P : Nat} {ms : Array Value} {o : Option Nat} {f : Nat → List Nat} (h : MiR w W Mb P ms o f) (hb : Below W.heap.size W W') : MiR w W' Mb P ms o f :=
 ⟨h.bel.trans (hb.mono h.bel.size), h.glob.below hb (Nat.le_refl _), (hb.block _ (Array.getElem?_eq_some_iff.1 h.mb).1).trans h.mb, (hb.block _ (Array.getElem?_eq_some_iff.1 h.pb).1).trans h.pb⟩
theorem IntsR.shape {W : World} {v : Value} {l : List Nat} (h : IntsR W v l) : ∃ a c, v = .slice a l.length c ∧ ∀ (k : Nat) (x : Nat), l[k]? = some x → ∃ g, a = some ⟨g, 0, none⟩ ∧ W.cell? ⟨g, k, none⟩ = some (.int .i64 (x : Nat)) := by
 rcases h with ⟨rfl, rfl⟩ | ⟨g, cap, rfl, hc⟩
 ·exact ⟨none, 0, rfl, fun k x hx => by simp at hx⟩
 ·exact ⟨_, cap, rfl, fun k x hx => ⟨g, rfl, hc k x hx⟩⟩
theorem mirrors_ok (t s : ByteArray) (ts : List Tr) (hp : parseT t = .ok ts) (hb : (msF .zero ts).back = false) (w : World) (hg : Glob w) : Calls Try.prog 3 #[.string t, .string s] w fun e w' => e = .returned (.bool true) ∧ Below w.heap.size w w' := by
 have hof : ofM t = (msF .zero ts, 0, 0) := by unfold ofM; rw [hp]
 have HGW := hideT hg
 have AW := hideT (awake7 w hg)
 have HG := hideT hg
 have HSH := hideT (fun W => short_any s 10 (by omega) W)
 obtain ⟨s1, hs1⟩ : ∃ x, x = s.extract 0 (min s.size 10) := ⟨_, rfl⟩
 have hz1 : s1.size ≤ 10 := by rw [hs1, ByteArray.size_extract]; omega
 rw [← hs1] at HSH
 clear hs1 hg
 have HEN := hideT (fun (i : Nat) (hi : i ≤ s1.size) W hg => Ends_ok t s1 i ts hp hb (by omega) hi W hg)
 have HST := hideT (fun (j : Nat) (hj : j ≤ s1.size) W hg => Starts_ok t s1 j ts hp hb (by omega) hj W hg)
 have HWH := hideT (fun W hg => Whole_ok t s1 ts hp hb (by omega) W hg)
 have HFI := hideT (fun W hg => First_ok t s1 0 ts hp hb (by omega) (Nat.zero_le _) W hg)
 have HMI := hideT (fun (i j : Nat) (hi : i ≤ s1.size) (hj : j ∈ endsT ts s1 i) => mirror_in s1 hp hb hi hj)
 have HMM := hideT (fun (i j : Nat) (hi : i ≤ s1.size) => mirror_mem s1 hp hb (i := i) (j := j) hi)
 have HMF := hideT (mirror_first s1 hp hb)
 have HRI := hideT (fun (i : Nat) (hi : i ≤ s1.size) => (ends_T s1 hp hb hi).1)
 have HLE := hideT (fun (i : Nat) => ends_len s1.size (sbN s1) (adT (catT ts) []).1 (adT (catT ts) []).2 i (by omega))
 have hmo := mirror_most hp hb
 generalize msF .zero ts = M at *
 obtain ⟨m1, m2, m3, m4, m5, m6, m7⟩ := M
 simp only at hb hmo
 subst hb
 go_enter Try.func3, Try.ntmps3
 go_wp2_with fail
 refine (AW.out).mono ?_
 rintro e W1 ⟨rfl, hb1⟩
 have HX1 := hideT (And.intro hb1 (HG.out.below hb1 (Nat.le_refl _)))
 clear hb1 AW HG
 go_wp2_with fail
 refine (HSH.out _).mono ?_
 rintro e W1' ⟨rfl, rfl⟩
 have HM := hideT (mOf_any t W1' HX1.out.2)
 rw [hof] at HM
 clear HSH
 go_wp2_with fail
 refine (HM.out).mono ?_
 rintro e W2 ⟨rfl, hb2⟩
 have hG2 := HX1.out.2.below hb2 (Nat.le_refl _)
 have HX2 := hideT (And.intro (HX1.out.1.trans (hb2.mono HX1.out.1.size)) hG2)
 clear hb2 hG2 HM HX1
 have a1 := ((Below.refl W2.heap.size W2).alloc (Nat.le_refl _) (.cells #[.int .i64 m1, .int .i64 m2, .int .i64 m3, .int .i64 m4, .bool false, .bool m6, .bool m7] 25)).alloc (by rw [World.size_alloc]; omega) (.cells #[.int .i64 0, .int .i64 0] 28)
 have a2 := a1.alloc (by simp only [World.size_alloc]; omega) (.cells #[.int .i64 0, .int .i64 0] 35)
 go_wp2_with fail
 have y1 : (((W2.alloc (.cells #[.int .i64 m1, .int .i64 m2, .int .i64 m3, .int .i64 m4, .bool false, .bool m6, .bool m7] 25)).alloc (.cells #[.int .i64 0, .int .i64 0] 28)).alloc (.cells #[.int .i64 0, .int .i64 0] 35)).heap[W2.heap.size]? = some (.cells #[.int .i64 m1, .int .i64 m2, .int .i64 m3, .int .i64 m4, .bool false, .bool m6, .bool m7] 25 (0, 0)) := (Below.heap_alloc _ _ _ (by simp only [World.size_alloc]; omega)).trans ((Below.heap_alloc _ _ _ (by simp only [World.size_alloc]; omega)).trans (heap_alloc_new W2 _))
 have y2 : (((W2.alloc (.cells #[.int .i64 m1, .int .i64 m2, .int .i64 m3, .int .i64 m4, .bool false, .bool m6, .bool m7] 25)).alloc (.cells #[.int .i64 0, .int .i64 0] 28)).alloc (.cells #[.int .i64 0, .int .i64 0] 35)).heap[W2.heap.size + 2]? = some (.cells #[.int .i64 0, .int .i64 0] 35 (0, 0)) := by
  have h := heap_alloc_new ((W2.alloc (.cells #[.int .i64 m1, .int .i64 m2, .int .i64 m3, .int .i64 m4, .bool false, .bool m6, .bool m7] 25)).alloc (.cells #[.int .i64 0, .int .i64 0] 28)) (.cells #[.int .i64 0, .int .i64 0] 35)
  simp only [World.size_alloc] at h
  exact h
 have HR0 := hideT (show MiR w (((W2.alloc (.cells #[.int .i64 m1, .int .i64 m2, .int .i64 m3, .int .i64 m4, .bool false, .bool m6, .bool m7] 25)).alloc (.cells #[.int .i64 0, .int .i64 0] 28)).alloc (.cells #[.int .i64 0, .int .i64 0] 35)) W2.heap.size (W2.heap.size + 2) #[.int .i64 m1, .int .i64 m2, .int .i64 m3, .int .i64 m4, .bool false, .bool m6, .bool m7] none (endsT ts s1) from ⟨HX2.out.1.trans (a2.mono HX2.out.1.size), HX2.out.2.below a2 (Nat.le_refl _), y1, y2⟩)
 have hPge : w.heap.size ≤ W2.heap.size + 2 := by have := HX2.out.1.size; omega
 generalize hY : (((W2.alloc (.cells #[.int .i64 m1, .int .i64 m2, .int .i64 m3, .int .i64 m4, .bool false, .bool m6, .bool m7] 25)).alloc (.cells #[.int .i64 0, .int .i64 0] 28)).alloc (.cells #[.int .i64 0, .int .i64 0] 35)) = Y at *
 clear hY a1 a2 y1 y2 HX2
 generalize W2.heap.size = Mb at *
 obtain ⟨P, hPe⟩ : ∃ P, P = Mb + 2 := ⟨_, rfl⟩
 rw [← hPe] at HR0 hPge
 rw [show Mb + 1 + 1 = P by omega]
 have hMP : Mb ≠ P := by omega
 clear hPe
 obtain ⟨f, hf⟩ : ∃ f, f = endsT ts s1 := ⟨_, rfl⟩
 rw [← hf] at HR0 HEN HMI HMM HMF HRI
 have HFE := hideT hf
 clear hf
 go_loopw [10, 11] (fun fv v wr => ∃ i : Nat, i ≤ s1.size + 1 ∧ v = .int .i64 (i : Nat) ∧ fv = .bool (fstN f i).isSome ∧ MiR w wr Mb P #[.int .i64 m1, .int .i64 m2, .int .i64 m3, .int .i64 m4, .bool false, .bool m6, .bool m7] (fstN f i) f) (fun _ v _ => s1.size + 1 - (intOf v).toNat)
 case atStart => exact ⟨0, Nat.zero_le _, rfl, rfl, HR0.out⟩
 case round =>
  obtain ⟨i, hi, rfl, rfl, hR⟩ := hrel
  have R0 := hideT hR
  clear hR HR0
  by_cases hlt : i ≤ s1.size
  ·have i1 : (i : Int) ≤ (s1.size : Int) := by omega
   have HE1 := hideT (HEN.out i hlt wr R0.out.glob)
   go_wp2_with fail
   refine (HE1.out).mono ?_
   rintro e W3 ⟨v, rfl, ho3, hb3⟩
   have R3 := hideT (R0.out.step hb3)
   have hrd : IntsR W3 v (f i) := Ints.read ho3
   obtain ⟨va, vc, rfl, hcl⟩ := hrd.shape
   have hln : (f i).length ≤ 1025 := by rw [HFE.out]; exact HLE.out i
   have HGP := hideT (show ∀ g, va = some ⟨g, 0, none⟩ → P ≠ g from fun g e => by
    have hb := (owns_blk ho3 (g := g) (by rw [e]; rfl)).1
    have := (Array.getElem?_eq_some_iff.1 R0.out.pb).1
    omega)
   have HCL := hideT hcl
   have HIR := hideT hrd
   clear ho3 hb3 hcl hrd HE1 R0
   go_wp2_with fail
   go_loopw [68] (fun v wr2 => ∃ k : Nat, k ≤ (f i).length ∧ v = .int .i64 (k : Nat) ∧ Below W3.heap.size W3 wr2) (fun v _ => (f i).length - (intOf v).toNat)
   case atStart => exact ⟨0, Nat.zero_le _, rfl, Below.refl _ _⟩
   case round =>
    obtain ⟨k, hk, rfl, hbk⟩ := hrel
    have HB := hideT hbk
    clear hbk
    by_cases hkl : k < (f i).length
    ·have j1 : (k : Int) < ((f i).length : Int) := by omega
     have j2 : (0 : Int) ≤ (k : Int) := by omega
     have hkx : (f i)[k]? = some (f i)[k] := List.getElem?_eq_getElem hkl
     obtain ⟨g, rfl, cl0⟩ := HCL.out k _ hkx
     have cl := keep_cell HB.out cl0
     have hmi := HMI.out i _ hlt (List.getElem_mem hkl)
     have hrise := HRI.out i hlt
     have hmb := (R3.out.step HB.out).mb
     have c2 : wr.cell? ⟨Mb, 2, none⟩ = some (.int .i64 m3) := by simp [World.cell?, hmb]
     have c3 : wr.cell? ⟨Mb, 3, none⟩ = some (.int .i64 m4) := by simp [World.cell?, hmb]
     have hprev : ∀ y, 0 < k → (f i)[k - 1]? = some y → y < (f i)[k] := fun y h0 hy => by
      obtain ⟨h1, rfl⟩ := List.getElem?_eq_some_iff.1 hy
      exact rise_at hrise (by omega) hkl
     have HPV := hideT hprev
     clear hmb cl0 hrise hkx hprev
     generalize (f i)[k] = x at *
     obtain ⟨e1, e2, e3, e4⟩ := hmi
     have t1 : ((x : Int) < (i : Int)) = False := by rw [eq_iff_iff, iff_false]; omega
     have t2 : ((s1.size : Int) < (x : Int)) = False := by rw [eq_iff_iff, iff_false]; omega
     have t3 : ((x : Int) - (i : Int) < m3) = False := by rw [eq_iff_iff, iff_false]; exact Int.not_lt.2 e3
     have xr : (x : Int) ≤ 10 := by omega
     have ir : (i : Int) ≤ 10 := by omega
     have i0' : (0 : Int) ≤ (i : Int) := by omega
     have x0' : (0 : Int) ≤ (x : Int) := by omega
     by_cases hm : 0 ≤ m4
     ·have t4 : (m4 < (x : Int) - (i : Int)) = False := by rw [eq_iff_iff, iff_false]; omega
      by_cases hk0 : k = 0
      ·have t5 : (0 < k) = False := by rw [eq_iff_iff, iff_false]; omega
       clear hk0 HPV
       go_wp2
       exact ⟨⟨k + 1, by omega, by go_num, HB.out⟩, by simp [intOf]; omega⟩
      ·have t5 : 0 < k := by omega
       have hyx : (f i)[k - 1]? = some ((f i)[k - 1]'(by omega)) := List.getElem?_eq_getElem (by omega)
       obtain ⟨g', e', cy0⟩ := HCL.out (k - 1) _ hyx
       cases e'
       have cy := keep_cell HB.out cy0
       have hpv := HPV.out _ t5 hyx
       clear hyx cy0 HPV hk0
       generalize (f i)[k - 1]'(by omega) = y at *
       have t6 : ((x : Int) ≤ (y : Int)) = False := by rw [eq_iff_iff, iff_false]; omega
       have t6' : (x ≤ y) = False := by rw [eq_iff_iff, iff_false]; omega
       have j3 : (0 : Int) ≤ (k : Int) - 1 := by omega
       have j4 : (k : Int) - 1 < ((f i).length : Int) := by omega
       have j5 : ((k : Int) - 1).toNat = k - 1 := by omega
       go_wp2
       exact ⟨⟨k + 1, by omega, by go_num, HB.out⟩, by simp [intOf]; omega⟩
     ·have t4 : ((0 : Int) ≤ m4) = False := by rw [eq_iff_iff, iff_false]; exact hm
      by_cases hk0 : k = 0
      ·have t5 : (0 < k) = False := by rw [eq_iff_iff, iff_false]; omega
       clear hk0 HPV
       go_wp2
       exact ⟨⟨k + 1, by omega, by go_num, HB.out⟩, by simp [intOf]; omega⟩
      ·have t5 : 0 < k := by omega
       have hyx : (f i)[k - 1]? = some ((f i)[k - 1]'(by omega)) := List.getElem?_eq_getElem (by omega)
       obtain ⟨g', e', cy0⟩ := HCL.out (k - 1) _ hyx
       cases e'
       have cy := keep_cell HB.out cy0
       have hpv := HPV.out _ t5 hyx
       clear hyx cy0 HPV hk0
       generalize (f i)[k - 1]'(by omega) = y at *
       have t6 : ((x : Int) ≤ (y : Int)) = False := by rw [eq_iff_iff, iff_false]; omega
       have t6' : (x ≤ y) = False := by rw [eq_iff_iff, iff_false]; omega
       have j3 : (0 : Int) ≤ (k : Int) - 1 := by omega
       have j4 : (k : Int) - 1 < ((f i).length : Int) := by omega
       have j5 : ((k : Int) - 1).toNat = k - 1 := by omega
       go_wp2
       exact ⟨⟨k + 1, by omega, by go_num, HB.out⟩, by simp [intOf]; omega⟩
    ·obtain rfl : k = (f i).length := by omega
     have j1 : (((f i).length : Int) < ((f i).length : Int)) = False := by rw [eq_iff_iff, iff_false]; omega
     have RJ0 := hideT (R3.out.step HB.out)
     have HIJ0 := hideT (HIR.out.step HB.out)
     clear HB HIR R3 HCL HMI HRI
     by_cases hnil : f i = []
     ·have u1 : (0 < (f i).length) = False := by rw [eq_iff_iff, iff_false, hnil]; simp
      have efs : fstN f (i + 1) = fstN f i := by
       rw [fstN]
       cases fstN f i with
       | some a => rfl
       | none => simp [hnil]
      have HFN := hideT (show (fstN f (i + 1)).isSome = (fstN f i).isSome by rw [efs])
      have HIJ := HIJ0
      have RJ : Hid (MiR w wr Mb P #[.int .i64 m1, .int .i64 m2, .int .i64 m3, .int .i64 m4, .bool false, .bool m6, .bool m7] (fstN f (i + 1)) f) := hideT (by rw [efs]; exact RJ0.out)
      clear efs hnil RJ0 HIJ0
      obtain ⟨fb, hfb⟩ : ∃ b, b = (fstN f i).isSome := ⟨_, rfl⟩
      rw [← hfb] at HFN ⊢
      clear hfb
      obtain ⟨WJ, hWJ⟩ : ∃ W, W = wr := ⟨_, rfl⟩
      subst hWJ
      go_wp2_with fail
      (try clear hlp)
      (try clear u1)
      go_loopw [16] (fun v wr3 => ∃ j : Nat, j ≤ s1.size + 1 ∧ v = .int .i64 (j : Nat) ∧ Below WJ.heap.size WJ wr3) (fun v _ => s1.size + 1 - (intOf v).toNat)
      case atStart => exact ⟨0, Nat.zero_le _, rfl, Below.refl _ _⟩
      case round =>
       obtain ⟨j, hj, rfl, hbj⟩ := hrel
       have HBJ := hideT hbj
       clear hbj
       by_cases hjl : j ≤ s1.size
       ·have l1 : (j : Int) ≤ (s1.size : Int) := by omega
        have HS1 := hideT (HST.out j hjl wr (RJ.out.step HBJ.out).glob)
        go_wp2_with fail
        refine (HS1.out).mono ?_
        rintro e W5 ⟨v5, rfl, ho5, hb5⟩
        obtain ⟨sl, hsl⟩ : ∃ l, l = startsT ts s1 (fun k => decide (k = j)) := ⟨_, rfl⟩
        rw [← hsl] at ho5
        have hmm := HMM.out i j hlt
        rw [← hsl] at hmm
        have hln5 : sl.length ≤ 1025 := by
         rw [hsl]
         unfold startsT startsB
         rw [List.length_reverse]
         have := st_len s1.size (sbN s1) (adT (catT ts) []).1 (adT (catT ts) []).2 (fun k => decide (k = j)) s1.size noB
         omega
        have HI1 := hideT (in_any (Ints.read ho5) i (by omega))
        have HI2 := hideT (in_any ((HIJ.out.step HBJ.out).step hb5) j (by omega))
        rw [hmm] at HI1
        have HB5 := hideT (HBJ.out.trans (hb5.mono HBJ.out.size))
        clear ho5 hb5 hsl hmm HS1
        generalize (f i).contains j = bb at *
        go_wp2_with fail
        refine (HI1.out).mono ?_
        rintro e W6 ⟨rfl, rfl⟩
        go_wp2_with fail
        refine (HI2.out).mono ?_
        rintro e W7 ⟨rfl, rfl⟩
        go_wp2
        exact ⟨⟨j + 1, by omega, by go_num, HB5.out⟩, by simp [intOf]; omega⟩
       ·obtain rfl : j = s1.size + 1 := by omega
        have l1 : (((s1.size + 1 : Nat) : Int) ≤ (s1.size : Int)) = False := by rw [eq_iff_iff, iff_false]; omega
        have l2 : ((s1.size : Int) + 1 ≤ (s1.size : Int)) = False := by rw [eq_iff_iff, iff_false]; omega
        have RK := hideT (RJ.out.step HBJ.out)
        go_wp2
        exact ⟨⟨i + 1, by omega, by go_num, by rw [HFN.out], RK.out⟩, by simp [intOf]; omega⟩
     ·have hlp : 0 < (f i).length := List.length_pos_iff.2 hnil
      cases hfo : fstN f i with
      | some a =>
       rw [Option.isSome_some]
       have efs : fstN f (i + 1) = fstN f i := by rw [fstN, hfo]
       have HFN := hideT (show (fstN f (i + 1)).isSome = true by rw [efs, hfo]; rfl)
       have HIJ := HIJ0
       have RJ : Hid (MiR w wr Mb P #[.int .i64 m1, .int .i64 m2, .int .i64 m3, .int .i64 m4, .bool false, .bool m6, .bool m7] (fstN f (i + 1)) f) := hideT (by rw [efs]; exact RJ0.out)
       clear efs hnil RJ0 HIJ0 hfo
       obtain ⟨WJ, hWJ⟩ : ∃ W, W = wr := ⟨_, rfl⟩
       subst hWJ
       go_wp2_with fail
       (try clear hlp)
       (try clear u1)
       go_loopw [16] (fun v wr3 => ∃ j : Nat, j ≤ s1.size + 1 ∧ v = .int .i64 (j : Nat) ∧ Below WJ.heap.size WJ wr3) (fun v _ => s1.size + 1 - (intOf v).toNat)
       case atStart => exact ⟨0, Nat.zero_le _, rfl, Below.refl _ _⟩
       case round =>
        obtain ⟨j, hj, rfl, hbj⟩ := hrel
        have HBJ := hideT hbj
        clear hbj
        by_cases hjl : j ≤ s1.size
        ·have l1 : (j : Int) ≤ (s1.size : Int) := by omega
         have HS1 := hideT (HST.out j hjl wr (RJ.out.step HBJ.out).glob)
         go_wp2_with fail
         refine (HS1.out).mono ?_
         rintro e W5 ⟨v5, rfl, ho5, hb5⟩
         obtain ⟨sl, hsl⟩ : ∃ l, l = startsT ts s1 (fun k => decide (k = j)) := ⟨_, rfl⟩
         rw [← hsl] at ho5
         have hmm := HMM.out i j hlt
         rw [← hsl] at hmm
         have hln5 : sl.length ≤ 1025 := by
          rw [hsl]
          unfold startsT startsB
          rw [List.length_reverse]
          have := st_len s1.size (sbN s1) (adT (catT ts) []).1 (adT (catT ts) []).2 (fun k => decide (k = j)) s1.size noB
          omega
         have HI1 := hideT (in_any (Ints.read ho5) i (by omega))
         have HI2 := hideT (in_any ((HIJ.out.step HBJ.out).step hb5) j (by omega))
         rw [hmm] at HI1
         have HB5 := hideT (HBJ.out.trans (hb5.mono HBJ.out.size))
         clear ho5 hb5 hsl hmm HS1
         generalize (f i).contains j = bb at *
         go_wp2_with fail
         refine (HI1.out).mono ?_
         rintro e W6 ⟨rfl, rfl⟩
         go_wp2_with fail
         refine (HI2.out).mono ?_
         rintro e W7 ⟨rfl, rfl⟩
         go_wp2
         exact ⟨⟨j + 1, by omega, by go_num, HB5.out⟩, by simp [intOf]; omega⟩
        ·obtain rfl : j = s1.size + 1 := by omega
         have l1 : (((s1.size + 1 : Nat) : Int) ≤ (s1.size : Int)) = False := by rw [eq_iff_iff, iff_false]; omega
         have l2 : ((s1.size : Int) + 1 ≤ (s1.size : Int)) = False := by rw [eq_iff_iff, iff_false]; omega
         have RK := hideT (RJ.out.step HBJ.out)
         go_wp2
         exact ⟨⟨i + 1, by omega, by go_num, by rw [HFN.out], RK.out⟩, by simp [intOf]; omega⟩
      | none =>
       rw [Option.isSome_none]
       have efs : fstN f (i + 1) = some i := by rw [fstN, hfo]; simp [hnil]
       have HFN := hideT (show (fstN f (i + 1)).isSome = true by rw [efs]; rfl)
       have hpb := RJ0.out.pb
       have p0 : wr.cell? ⟨P, 0, none⟩ = some (.int .i64 (fstA none)) := by simp [World.cell?, hpb, hfo]
       have p1 : wr.cell? ⟨P, 1, none⟩ = some (.int .i64 (fstB f none)) := by simp [World.cell?, hpb, hfo]
       have q0 : wr.frozen? ⟨P, 0, none⟩ = false := by simp [World.frozen?, hpb]
       have q1 : wr.frozen? ⟨P, 1, none⟩ = false := by simp [World.frozen?, hpb]
       obtain ⟨va', vc', ev, hcl⟩ := HIJ0.out.shape
       cases ev
       have hlx : (f i)[(f i).length - 1]? = some ((f i)[(f i).length - 1]'(by omega)) := List.getElem?_eq_getElem (by omega)
       obtain ⟨g, rfl, cz⟩ := hcl _ _ hlx
       have hla : ((f i)[(f i).length - 1]'(by omega) : Nat) = (f i).getD ((f i).length - 1) 0 := by
        rw [List.getD_eq_getElem?_getD, hlx]; rfl
       obtain ⟨z, hz⟩ : ∃ z, z = (f i)[(f i).length - 1]'(by omega) := ⟨_, rfl⟩
       rw [← hz] at cz hla
       have HZ := hideT (show lastI (f i) = (z : Int) by unfold lastI; rw [← hla])
       have j3 : (0 : Int) ≤ ((f i).length : Int) - 1 := by omega
       have j4 : ((f i).length : Int) - 1 < ((f i).length : Int) := by omega
       have j5 : (((f i).length : Int) - 1).toNat = (f i).length - 1 := by omega
       have hgP : Hid (MiR w ((wr.setCell ⟨P, 0, none⟩ (.int .i64 (i : Nat))).setCell ⟨P, 1, none⟩ (.int .i64 (z : Nat))) Mb P #[.int .i64 m1, .int .i64 m2, .int .i64 m3, .int .i64 m4, .bool false, .bool m6, .bool m7] (fstN f (i + 1)) f) := hideT (by
        rw [efs]
        refine ⟨(RJ0.out.bel.setCell (p := ⟨P, 0, none⟩) hPge _).setCell (p := ⟨P, 1, none⟩) hPge _, ?_, ?_, ?_⟩
        ·exact HGW.out.below ((RJ0.out.bel.setCell (p := ⟨P, 0, none⟩) hPge (.int .i64 (i : Nat))).setCell (p := ⟨P, 1, none⟩) hPge (.int .i64 (z : Nat))) (Nat.le_refl _)
        ·exact (put_far _ P 1 _ hMP).trans ((put_far wr P 0 _ hMP).trans RJ0.out.mb)
        ·have h := put2s hpb (.int .i64 (i : Nat)) (.int .i64 (z : Nat))
         rw [h]
         show _ = some (Obj.cells #[.int .i64 (i : Int), .int .i64 (lastI (f i))] 35 (0, 0))
         rw [HZ.out])
       have hrp : Hid (IntsR ((wr.setCell ⟨P, 0, none⟩ (.int .i64 (i : Nat))).setCell ⟨P, 1, none⟩ (.int .i64 (z : Nat))) (.slice (some ⟨g, 0, none⟩) (f i).length vc) (f i)) := hideT (.inr ⟨g, vc, rfl, fun k x hx => by
        obtain ⟨g', e', c'⟩ := hcl k x hx
        cases e'
        have hne : g ≠ P := fun e => HGP.out g rfl e.symm
        exact (World.cell?_of_block ((put_far (wr.setCell ⟨P, 0, none⟩ (.int .i64 (i : Nat))) P 1 (.int .i64 (z : Nat)) hne).trans (put_far wr P 0 (.int .i64 (i : Nat)) hne))).trans c'⟩)
       have RJ := hgP
       have HIJ := hrp
       clear hpb efs hnil hcl hlx hla hz hgP hrp RJ0 HIJ0 hfo HZ
       go_wp2_with fail
       generalize hWJ : (wr.setCell ⟨P, 0, none⟩ (.int .i64 (i : Nat))).setCell ⟨P, 1, none⟩ (.int .i64 (z : Nat)) = WJ at *
       clear hWJ p0 p1 q0 q1 cz
       (try clear hlp)
       (try clear u1)
       go_loopw [16] (fun v wr3 => ∃ j : Nat, j ≤ s1.size + 1 ∧ v = .int .i64 (j : Nat) ∧ Below WJ.heap.size WJ wr3) (fun v _ => s1.size + 1 - (intOf v).toNat)
       case atStart => exact ⟨0, Nat.zero_le _, rfl, Below.refl _ _⟩
       case round =>
        obtain ⟨j, hj, rfl, hbj⟩ := hrel
        have HBJ := hideT hbj
        clear hbj
        by_cases hjl : j ≤ s1.size
        ·have l1 : (j : Int) ≤ (s1.size : Int) := by omega
         have HS1 := hideT (HST.out j hjl wr (RJ.out.step HBJ.out).glob)
         go_wp2_with fail
         refine (HS1.out).mono ?_
         rintro e W5 ⟨v5, rfl, ho5, hb5⟩
         obtain ⟨sl, hsl⟩ : ∃ l, l = startsT ts s1 (fun k => decide (k = j)) := ⟨_, rfl⟩
         rw [← hsl] at ho5
         have hmm := HMM.out i j hlt
         rw [← hsl] at hmm
         have hln5 : sl.length ≤ 1025 := by
          rw [hsl]
          unfold startsT startsB
          rw [List.length_reverse]
          have := st_len s1.size (sbN s1) (adT (catT ts) []).1 (adT (catT ts) []).2 (fun k => decide (k = j)) s1.size noB
          omega
         have HI1 := hideT (in_any (Ints.read ho5) i (by omega))
         have HI2 := hideT (in_any ((HIJ.out.step HBJ.out).step hb5) j (by omega))
         rw [hmm] at HI1
         have HB5 := hideT (HBJ.out.trans (hb5.mono HBJ.out.size))
         clear ho5 hb5 hsl hmm HS1
         generalize (f i).contains j = bb at *
         go_wp2_with fail
         refine (HI1.out).mono ?_
         rintro e W6 ⟨rfl, rfl⟩
         go_wp2_with fail
         refine (HI2.out).mono ?_
         rintro e W7 ⟨rfl, rfl⟩
         go_wp2
         exact ⟨⟨j + 1, by omega, by go_num, HB5.out⟩, by simp [intOf]; omega⟩
        ·obtain rfl : j = s1.size + 1 := by omega
         have l1 : (((s1.size + 1 : Nat) : Int) ≤ (s1.size : Int)) = False := by rw [eq_iff_iff, iff_false]; omega
         have l2 : ((s1.size : Int) + 1 ≤ (s1.size : Int)) = False := by rw [eq_iff_iff, iff_false]; omega
         have RK := hideT (RJ.out.step HBJ.out)
         go_wp2
         exact ⟨⟨i + 1, by omega, by go_num, by rw [HFN.out], RK.out⟩, by simp [intOf]; omega⟩
  ·obtain rfl : i = s1.size + 1 := by omega
   have i1 : (((s1.size + 1 : Nat) : Int) ≤ (s1.size : Int)) = False := by rw [eq_iff_iff, iff_false]; omega
   have l2 : ((s1.size : Int) + 1 ≤ (s1.size : Int)) = False := by rw [eq_iff_iff, iff_false]; omega
   have hfv : firstV ts s1 0 = .tuple #[.agg #[.int .i64 (fstA (fstN f (s1.size + 1))), .int .i64 (fstB f (fstN f (s1.size + 1)))], .bool (fstN f (s1.size + 1)).isSome, .int .i64 0] := by
    unfold firstV
    rw [HMF.out]
    cases hfo : fstN f (s1.size + 1) with
    | none => rfl
    | some a =>
     obtain ⟨h1, h2, _⟩ := fst_some f (s1.size + 1) a hfo
     show Value.tuple #[.agg #[.int .i64 (a : Nat), .int .i64 (topI (endsT ts s1 a))], .bool true, .int .i64 0] = _
     rw [← HFE.out, top_last (HRI.out a (by omega)) h2]
     rfl
   have HF1 := hideT (HFI.out wr R0.out.glob)
   rw [hfv] at HF1
   clear hfv
   have HP0 := R0.out.pb
   generalize (fstN f (s1.size + 1)).isSome = fb at *
   generalize fstA (fstN f (s1.size + 1)) = fA at *
   generalize fstB f (fstN f (s1.size + 1)) = fB at *
   have HPB := hideT HP0
   have HBG := hideT (And.intro R0.out.bel R0.out.glob)
   clear HP0 R0
   go_wp2_with fail
   refine (HF1.out).mono ?_
   rintro e W4 ⟨rfl, hb4⟩
   have a4 := (Below.refl W4.heap.size W4).alloc (Nat.le_refl _) (.cells #[.int .i64 fA, .int .i64 fB] 35)
   have s4 := heap_alloc_new W4 (.cells #[.int .i64 fA, .int .i64 fB] 35)
   have hb4' := hb4.trans (a4.mono hb4.size)
   have p4 := (hb4'.block P (Array.getElem?_eq_some_iff.1 HPB.out).1).trans HPB.out
   have g4 := HBG.out.2.below hb4' (Nat.le_refl _)
   have HE4 := hideT (HEN.out 0 (Nat.zero_le _) _ g4)
   have HX4 := hideT (And.intro s4 (And.intro p4 (And.intro (HBG.out.1.trans (hb4'.mono HBG.out.1.size)) g4)))
   clear a4 s4 hb4' p4 g4 hb4 HBG HPB HF1
   go_wp2_with fail
   refine (HE4.out).mono ?_
   rintro e W5 ⟨v5, rfl, ho5, hb5⟩
   have hbX := HX4.out.2.2.1.trans (hb5.mono HX4.out.2.2.1.size)
   have s5 := (hb5.block _ (Array.getElem?_eq_some_iff.1 HX4.out.1).1).trans HX4.out.1
   have p5 := (hb5.block _ (Array.getElem?_eq_some_iff.1 HX4.out.2.1).1).trans HX4.out.2.1
   have g5 := HX4.out.2.2.2.below hb5 (Nat.le_refl _)
   have HW5 := hideT (HWH.out W5 g5)
   rw [← HFE.out] at HW5
   have hr5 : IntsR W5 v5 (f 0) := Ints.read ho5
   have HX5 := hideT (And.intro s5 (And.intro p5 (And.intro hbX hr5)))
   clear hbX s5 p5 g5 hr5 ho5 hb5 HX4 HE4
   go_wp2_with fail
   refine (HW5.out).mono ?_
   rintro e W6 ⟨rfl, hb6⟩
   have hln0 : (f 0).length ≤ 1025 := by rw [HFE.out]; exact HLE.out 0
   have HI6 := hideT (in_any (HX5.out.2.2.2.step hb6) s1.size (by omega))
   have s6 := (hb6.block _ (Array.getElem?_eq_some_iff.1 HX5.out.1).1).trans HX5.out.1
   have p6 := (hb6.block _ (Array.getElem?_eq_some_iff.1 HX5.out.2.1).1).trans HX5.out.2.1
   have x0 : W6.cell? ⟨W4.heap.size, 0, none⟩ = some (.int .i64 fA) := by simp [World.cell?, s6]
   have x1 : W6.cell? ⟨W4.heap.size, 1, none⟩ = some (.int .i64 fB) := by simp [World.cell?, s6]
   have y0 : W6.cell? ⟨P, 0, none⟩ = some (.int .i64 fA) := by simp [World.cell?, p6]
   have y1 : W6.cell? ⟨P, 1, none⟩ = some (.int .i64 fB) := by simp [World.cell?, p6]
   have HX6 := hideT (HX5.out.2.2.1.trans (hb6.mono HX5.out.2.2.1.size))
   clear s6 p6 hb6 HX5 HW5
   generalize (f 0).contains s1.size = cb at *
   go_wp2_with fail
   refine (HI6.out).mono ?_
   rintro e W7 ⟨rfl, rfl⟩
   go_wp2
   go_ret
   exact ⟨rfl, HX6.out⟩
end Go.Proofs.Ytiedliahmjiadaa
namespace Go.Proofs.Ytiedliahmjiadaa
open Go.RowKit Go.Shelf
theorem mirrors.walk (t s : ByteArray) (w : World) (hg : Glob w) : Calls Try.prog 3 #[.string t, .string s] w fun e w' => e = .returned (.bool true) ∧ Below w.heap.size w w' := by
 cases hp : parseT t with
 | error x =>
  obtain ⟨er, p⟩ := x
  exact mirrors_bad t s er p hp w hg
 | ok ts =>
  cases hb : (msF .zero ts).back with
  | true => exact mirrors_back t s ts hp hb w hg
  | false => exact mirrors_ok t s ts hp hb w hg
end Go.Proofs.Ytiedliahmjiadaa
