/- reach: the walk of ReachMirrors. -/
import Derived.Test.YtiedliahmjiadaaKGf
import Derived.Test.YtiedliahmjiadaaKJd
set_option maxRecDepth 100000
set_option maxHeartbeats 4000000
namespace Go.Proofs.Ytiedliahmjiadaa
open Go.RowKit Go.Shelf
theorem Ends_no (t s : ByteArray) (i : Int) (er : Int) (h0 : er ≠ 0) (w : World) (h : Calls Try.prog 15 #[.string t, .string s, .int .i64 i] w fun e w' => e = .returned (.tuple #[.pointer none, .int .i64 er]) ∧ Below w.heap.size w w') :
  Calls Try.prog 7 #[.string t, .string s, .int .i64 i] w fun e w' => e = .returned (.tuple #[.slice none 0 0, .int .i64 er]) ∧ Below w.heap.size w w' := by
 have H := hideT h
 have x1 : (er != 0) = true := by rw [bne_iff_ne]; exact h0
 clear h
 go_enter Try.func7, Try.ntmps7
 go_wp2_with fail
 refine (H.out).mono ?_
 rintro e W1 ⟨rfl, hb1⟩
 have B1 := hideT hb1
 clear hb1
 go_wp2
 go_ret2
 exact ⟨rfl, B1.out⟩
theorem msT_cat (ts : List Tr) : msT (catT ts) = msF .zero ts := by simp [catT, msT]
theorem mirrors_bad (t s : ByteArray) (er : Int) (p : Nat) (hp : parseT t = .error (er, p)) (w : World) (hg : Glob w) : Calls Try.prog 3 #[.string t, .string s] w fun e w' => e = .returned (.bool true) ∧ Below w.heap.size w w' := by
 have h0 := (parse_place t er p hp).1
 have hof : ofM t = (.zero, er, p) := by unfold ofM; rw [hp]
 have x1 : (er != 0) = true := by rw [bne_iff_ne]; exact h0
 have AW := hideT (awake7 w hg)
 have HG := hideT hg
 have HSH := hideT (fun W => short_any s 10 (by omega) W)
 obtain ⟨s1, hs1⟩ : ∃ x, x = s.extract 0 (min s.size 10) := ⟨_, rfl⟩
 have hz1 : s1.size ≤ 10 := by rw [hs1, ByteArray.size_extract]; omega
 rw [← hs1] at HSH
 clear hs1 hg
 go_enter Try.func3, Try.ntmps3
 go_wp2_with fail
 refine (AW.out).mono ?_
 rintro e W1 ⟨rfl, hb1⟩
 have HX1 := hideT (And.intro hb1 (HG.out.below hb1 (Nat.le_refl _)))
 clear hb1 AW HG
 go_wp2_with fail
 refine (HSH.out _).mono ?_
 rintro e W1' ⟨rfl, rfl⟩
 have HM := hideT (mOf_any t W1' HX1.out.2)
 rw [hof] at HM
 clear HSH
 go_wp2_with fail
 refine (HM.out).mono ?_
 rintro e W2 ⟨rfl, hb2⟩
 have hG2 := HX1.out.2.below hb2 (Nat.le_refl _)
 have HX2 := hideT (And.intro (HX1.out.1.trans (hb2.mono HX1.out.1.size)) hG2)
 clear hb2 hG2 HM HX1
 have hA := ((Below.refl W2.heap.size W2).alloc (Nat.le_refl _) (.cells Ms.zero.arr 25)).alloc (by rw [World.size_alloc]; omega) (.cells #[.int .i64 er, .int .i64 (p : Nat)] 28)
 have HA := hideT hA
 have HE := hideT (Ends_no t s1 0 er h0 _ (webFor_bad t s1 0 er p hp h0 _ (HX2.out.2.below hA (Nat.le_refl _))))
 clear hA hof
 go_wp2_with fail
 refine (HE.out).mono ?_
 rintro e W3 ⟨rfl, hb3⟩
 have HB3 := hideT hb3
 clear hb3
 go_wp2
 go_ret
 exact ⟨rfl, (HX2.out.1.trans (HA.out.mono HX2.out.1.size)).trans (HB3.out.mono (Nat.le_trans HX2.out.1.size HA.out.size))⟩
theorem mirrors_back (t s : ByteArray) (ts : List Tr) (hp : parseT t = .ok ts) (hb : (msF .zero ts).back = true) (w : World) (hg : Glob w) : Calls Try.prog 3 #[.string t, .string s] w fun e w' => e = .returned (.bool true) ∧ Below w.heap.size w w' := by
 have hof : ofM t = (msF .zero ts, 0, 0) := by unfold ofM; rw [hp]
 have HWB := hideT (fun s1 W hg => Ends_no t s1 0 11 (by omega) W (webFor_back t s1 0 ts hp hb W hg))
 generalize msF .zero ts = M at *
 obtain ⟨m1, m2, m3, m4, m5, m6, m7⟩ := M
 simp only at hb
 subst hb
 have AW := hideT (awake7 w hg)
 have HG := hideT hg
 have HSH := hideT (fun W => short_any s 10 (by omega) W)
 obtain ⟨s1, hs1⟩ : ∃ x, x = s.extract 0 (min s.size 10) := ⟨_, rfl⟩
 have hz1 : s1.size ≤ 10 := by rw [hs1, ByteArray.size_extract]; omega
 rw [← hs1] at HSH
 clear hs1 hg
 go_enter Try.func3, Try.ntmps3
 go_wp2_with fail
 refine (AW.out).mono ?_
 rintro e W1 ⟨rfl, hb1⟩
 have HX1 := hideT (And.intro hb1 (HG.out.below hb1 (Nat.le_refl _)))
 clear hb1 AW HG
 go_wp2_with fail
 refine (HSH.out _).mono ?_
 rintro e W1' ⟨rfl, rfl⟩
 have HM := hideT (mOf_any t W1' HX1.out.2)
 rw [hof] at HM
 clear HSH
 go_wp2_with fail
 refine (HM.out).mono ?_
 rintro e W2 ⟨rfl, hb2⟩
 have hG2 := HX1.out.2.below hb2 (Nat.le_refl _)
 have HX2 := hideT (And.intro (HX1.out.1.trans (hb2.mono HX1.out.1.size)) hG2)
 clear hb2 hG2 HM HX1
 have hA := ((Below.refl W2.heap.size W2).alloc (Nat.le_refl _) (.cells #[.int .i64 m1, .int .i64 m2, .int .i64 m3, .int .i64 m4, .bool true, .bool m6, .bool m7] 25)).alloc (by rw [World.size_alloc]; omega) (.cells #[.int .i64 0, .int .i64 0] 28)
 have HA := hideT hA
 have HE := hideT (HWB.out s1 _ (HX2.out.2.below hA (Nat.le_refl _)))
 clear hA hof
 go_wp2_with fail
 refine (HE.out).mono ?_
 rintro e W3 ⟨rfl, hb3⟩
 have HB3 := hideT hb3
 clear hb3
 go_wp2
 go_ret
 exact ⟨rfl, (HX2.out.1.trans (HA.out.mono HX2.out.1.size)).trans (HB3.out.mono (Nat.le_trans HX2.out.1.size HA.out.size))⟩
end Go.Proofs.Ytiedliahmjiadaa
namespace Go.Proofs.Ytiedliahmjiadaa
def fstN (f : Nat → List Nat) : Nat → Option Nat
 | 0 => none
 | k + 1 => match fstN f k with
  | some a => some a
  | none => if f k = [] then none else some k
theorem fst_none (f : Nat → List Nat) : ∀ (k : Nat), fstN f k = none → ∀ b, b < k → f b = []
 | 0, _, b, hb => by omega
 | k + 1, h, b, hb => by
  unfold fstN at h
  cases hk : fstN f k with
  | some c => rw [hk] at h; cases h
  | none =>
   rw [hk] at h
   by_cases he : f k = []
   ·by_cases e : b = k
    ·rw [e]; exact he
    ·exact fst_none f k hk b (by omega)
   ·simp [he] at h
theorem fst_some (f : Nat → List Nat) : ∀ (k a : Nat), fstN f k = some a → a < k ∧ f a ≠ [] ∧ ∀ b, b < a → f b = []
 | 0, a, h => by cases h
 | k + 1, a, h => by
  unfold fstN at h
  cases hk : fstN f k with
  | some c =>
   rw [hk] at h
   cases h
   obtain ⟨h1, h2, h3⟩ := fst_some f k a hk
   exact ⟨by omega, h2, h3⟩
  | none =>
   rw [hk] at h
   by_cases he : f k = []
   ·simp [he] at h
   ·simp only [if_neg he] at h
    cases h
    exact ⟨by omega, he, fun b hb => fst_none f k hk b hb⟩
theorem fst_none' (f : Nat → List Nat) (k : Nat) (h : fstN f k = none) : ∀ b, b < k → f b = [] := fst_none f k h
theorem find_zero (l : List Nat) : l.find? (fun a => decide (0 ≤ a)) = l.head? := by cases l <;> simp
theorem head_fst {l : List Nat} {f : Nat → List Nat} {n : Nat} (h : ListsG (fun i => i ≤ n ∧ f i ≠ []) l) : l.head? = fstN f (n + 1) := by
 cases hf : fstN f (n + 1) with
 | none =>
  have h1 := fst_none' f (n + 1) hf
  cases l with
  | nil => rfl
  | cons a r =>
   have := (h.2 a).1 (by simp)
   exact absurd (h1 a (by omega)) this.2
 | some a =>
  obtain ⟨h1, h2, h3⟩ := fst_some f (n + 1) a hf
  have hm := (h.2 a).2 ⟨by omega, h2⟩
  cases l with
  | nil => simp at hm
  | cons b r =>
   have hb := (h.2 b).1 (by simp)
   have hp := (List.pairwise_cons.1 h.1).1
   rw [List.mem_cons] at hm
   rcases hm with rfl | hm
   ·rfl
   ·have := hp a hm
    exact absurd (h3 b this) hb.2
def lastI (l : List Nat) : Int := ((l.getD (l.length - 1) 0 : Nat) : Int)
theorem rise_at {l : List Nat} (h : l.Pairwise (· < ·)) {i j : Nat} (hij : i < j) (hj : j < l.length) : l[i] < l[j] := List.pairwise_iff_getElem.1 h i j (by omega) hj hij
theorem mirror_mem {t : ByteArray} (s : ByteArray) {ts : List Tr} (hp : parseT t = .ok ts) (hb : (msF .zero ts).back = false) {i j : Nat} (hi : i ≤ s.size) : (startsT ts s (fun k => decide (k = j))).contains i = (endsT ts s i).contains j := by
 rw [Bool.eq_iff_iff, List.contains_iff_mem, List.contains_iff_mem, (starts_T s hp hb _).2 i, (ends_T s hp hb hi).2 j]
 constructor
 ·rintro ⟨_, k, hk, hm⟩
  rw [decide_eq_true_iff] at hk
  rw [← hk]
  exact hm
 ·intro hm
  exact ⟨hi, j, by simp, hm⟩
theorem mirror_in {t : ByteArray} (s : ByteArray) {ts : List Tr} (hp : parseT t = .ok ts) (hb : (msF .zero ts).back = false) {i j : Nat} (hi : i ≤ s.size) (hj : j ∈ endsT ts s i) : i ≤ j ∧ j ≤ s.size ∧ (msF .zero ts).least ≤ (j : Int) - (i : Int) ∧ ((msF .zero ts).most = -1 ∨ (j : Int) - (i : Int) ≤ (msF .zero ts).most) := by
 have hm := ((ends_T s hp hb hi).2 j).1 hj
 have h1 := mt_in (catT ts) (pl_parse hp hb) hm
 have h2 := (mt_bounds (n := s.size) (sb := sbN s) (catT ts) (pl_parse hp hb)).2 i j hm
 rw [msT_cat] at h2
 exact ⟨h1.1, h1.2 hi, h2.1, h2.2⟩
theorem mirror_most {t : ByteArray} {ts : List Tr} (hp : parseT t = .ok ts) (hb : (msF .zero ts).back = false) : -1 ≤ (msF .zero ts).most := by
 have h := (mt_bounds (n := 0) (sb := fun _ => 0) (catT ts) (pl_parse hp hb)).1
 rw [msT_cat] at h
 exact h.2
theorem mirror_first {t : ByteArray} (s : ByteArray) {ts : List Tr} (hp : parseT t = .ok ts) (hb : (msF .zero ts).back = false) : firstT ts s 0 = fstN (endsT ts s) (s.size + 1) := by
 unfold firstT
 rw [find_zero]
 refine head_fst ⟨(starts_T s hp hb _).1, fun i => ((starts_T s hp hb _).2 i).trans ⟨fun ⟨h1, j, _, h2⟩ => ⟨h1, fun e => ?_⟩, fun ⟨h1, h2⟩ => ?_⟩⟩
 ·have := ((ends_T s hp hb h1).2 j).2 h2
  rw [e] at this
  simp at this
 ·obtain ⟨j, hj⟩ := List.exists_mem_of_ne_nil _ h2
  exact ⟨h1, j, rfl, ((ends_T s hp hb h1).2 j).1 hj⟩
end Go.Proofs.Ytiedliahmjiadaa
