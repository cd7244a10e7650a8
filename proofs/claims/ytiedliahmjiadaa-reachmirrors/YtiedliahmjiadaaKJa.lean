/- reach: webFor. -/
import Derived.Test.YtiedliahmjiadaaKPv
import Derived.Test.YtiedliahmjiadaaKQt
import Derived.Test.YtiedliahmjiadaaKMd
import Derived.Test.YtiedliahmjiadaaKIz
set_option maxRecDepth 100000
set_option maxHeartbeats 4000000
namespace Go.Proofs.Ytiedliahmjiadaa
open Go.RowKit Go.Shelf
theorem kids_lt {W : World} {ok : Nat → Prop} {v : Value} {ts : List Tr} (h : Kids W ok v ts) : Kids W (· < W.heap.size) v ts := by
 induction h with
 | mk v ts vs hl own hok hk ih => exact .mk v ts vs hl own (fun g hg => (owns_blk own hg).2.1) ih
theorem parse_short {s : ByteArray} {ts : List Tr} (h : parseT s = .ok ts) : s.size ≤ 512 := by
 unfold parseT at h
 split at h
 ·cases h
 ·omega
theorem laid_len {s : ByteArray} {ts : List Tr} (h : parseT s = .ok ts) (hb : (msF .zero ts).back = false) : posT (catT ts) ≤ 256 ∧ (adT (catT ts) []).2.length ≤ 256 := by
 have hp := pl_parse h hb
 have h0 : posT (catT ts) ≤ 256 := by
  have h3 := parse_small s ts h
  unfold catT smallT at h3
  exact h3.2.1
 have h1 := (lays_adT (catT ts) [] hp).1.len
 have h2 := len_glT (catT ts) 0 hp
 simp only [List.length_nil] at h1
 exact ⟨h0, by omega⟩
theorem webFor_bad (t s : ByteArray) (i : Int) (er : Int) (p : Nat) (hp : parseT t = .error (er, p)) (h0 : er ≠ 0) (w : World) (hg : Glob w) :
  Calls Try.prog 15 #[.string t, .string s, .int .i64 i] w fun e w' => e = .returned (.tuple #[.pointer none, .int .i64 er]) ∧ Below w.heap.size w w' := by
 have hm := mOf_any t w hg
 have e : ofM t = (.zero, er, p) := by unfold ofM; rw [hp]
 rw [e] at hm
 have HM := hideT hm
 have x1 : (er != 0) = true := by rw [bne_iff_ne]; exact h0
 clear hm e
 go_enter Try.func15, Try.ntmps15
 go_wp2_with fail
 refine (HM.out).mono ?_
 rintro e W1 ⟨rfl, hb1⟩
 have B1 := hideT hb1
 clear hb1
 have hB := (B1.out.alloc B1.out.size (.cells Ms.zero.arr 25)).alloc (by rw [World.size_alloc]; have := B1.out.size; omega) (.cells #[.int .i64 er, .int .i64 (p : Nat)] 28)
 have HB := hideT hB
 clear hB
 go_wp2
 go_region
 go_wp2
 go_ret2
 exact ⟨rfl, HB.out.drew⟩
theorem webFor_back (t s : ByteArray) (i : Int) (ts : List Tr) (hp : parseT t = .ok ts) (hb : (msF .zero ts).back = true) (w : World) (hg : Glob w) :
  Calls Try.prog 15 #[.string t, .string s, .int .i64 i] w fun e w' => e = .returned (.tuple #[.pointer none, .int .i64 11]) ∧ Below w.heap.size w w' := by
 have hm := mOf_any t w hg
 have e : ofM t = (msF .zero ts, 0, 0) := by unfold ofM; rw [hp]
 rw [e] at hm
 have HM := hideT hm
 clear hm e
 generalize msF .zero ts = M at *
 obtain ⟨m1, m2, m3, m4, m5, m6, m7⟩ := M
 simp only at hb
 subst hb
 go_enter Try.func15, Try.ntmps15
 go_wp2_with fail
 refine (HM.out).mono ?_
 rintro e W1 ⟨rfl, hb1⟩
 have B1 := hideT hb1
 clear hb1
 have hB := (B1.out.alloc B1.out.size (.cells #[.int .i64 m1, .int .i64 m2, .int .i64 m3, .int .i64 m4, .bool true, .bool m6, .bool m7] 25)).alloc (by rw [World.size_alloc]; have := B1.out.size; omega) (.cells #[.int .i64 0, .int .i64 0] 28)
 have HB := hideT hB
 clear hB
 go_wp2
 go_ret2
 exact ⟨rfl, HB.out⟩
theorem webFor_ok (t s : ByteArray) (i : Nat) (ts : List Tr) (hp : parseT t = .ok ts) (hb : (msF .zero ts).back = false) (hs : s.size ≤ 1024) (hi : i ≤ s.size) (w : World) (hg : Glob w) :
  Calls Try.prog 15 #[.string t, .string s, .int .i64 (i : Nat)] w fun e w' => ∃ B b, e = .returned (.tuple #[.pointer (some ⟨b, 0, none⟩), .int .i64 0]) ∧ w.heap.size ≤ B ∧ WebAt w' B b (adT (catT ts) []).2 (paV (adT (catT ts) []).1) ∧ Below w.heap.size w w' := by
 have hm := mOf_any t w hg
 have e : ofM t = (msF .zero ts, 0, 0) := by unfold ofM; rw [hp]
 rw [e] at hm
 have HM := hideT hm
 have HP := hideT (fun W (hg : Glob W) => parse_ok t (by have := parse_short hp; omega) ts hp W hg)
 have HF := hideT (fd_parse hp)
 have HL := hideT (laid_len hp hb).2
 clear hm e
 generalize msF .zero ts = M at *
 obtain ⟨m1, m2, m3, m4, m5, m6, m7⟩ := M
 simp only at hb
 subst hb
 have x1 : ((1024 : Int) < (s.size : Int)) = False := by rw [eq_iff_iff, iff_false]; omega
 have x2 : ((i : Int) < 0) = False := by rw [eq_iff_iff, iff_false]; omega
 have x3 : ((s.size : Int) < (i : Int)) = False := by rw [eq_iff_iff, iff_false]; omega
 go_enter Try.func15, Try.ntmps15
 go_wp2_with fail
 refine (HM.out).mono ?_
 rintro e W1 ⟨rfl, hb1⟩
 have hB := (hb1.alloc hb1.size (.cells #[.int .i64 m1, .int .i64 m2, .int .i64 m3, .int .i64 m4, .bool false, .bool m6, .bool m7] 25)).alloc (by rw [World.size_alloc]; have := hb1.size; omega) (.cells #[.int .i64 0, .int .i64 0] 28)
 have HB := hideT hB
 have HP1 := hideT (HP.out _ (hg.below hB (Nat.le_refl _)))
 clear hB hb1
 go_wp2_with fail
 refine (HP1.out).mono ?_
 rintro e W2 ⟨hb2, va, vn, vc, rfl, hk2⟩
 have hA := ((Below.refl W2.heap.size W2).alloc (Nat.le_refl _) (.cells #[.int .i64 0, .int .u64 0, .int .u64 0, .int .u64 0, .int .u64 0, .int .i64 0, .int .i64 0, .int .i64 0, .slice va vn vc] 48)).alloc (by rw [World.size_alloc]; omega) (.cells #[.int .i64 0, .int .i64 0] 28)
 have hk3 : Kids ((W2.alloc (.cells #[.int .i64 0, .int .u64 0, .int .u64 0, .int .u64 0, .int .u64 0, .int .i64 0, .int .i64 0, .int .i64 0, .slice va vn vc] 48)).alloc (.cells #[.int .i64 0, .int .i64 0] 28)) (· < ((W2.alloc (.cells #[.int .i64 0, .int .u64 0, .int .u64 0, .int .u64 0, .int .u64 0, .int .i64 0, .int .i64 0, .int .i64 0, .slice va vn vc] 48)).alloc (.cells #[.int .i64 0, .int .i64 0] 28)).heap.size) (.slice va vn vc) ts := kids_lt ((kids_lt hk2).keep (ok' := fun _ => True) (fun g hg => hA.block g hg) (fun _ _ => trivial))
 have hn : nodeW (catT ts) (.slice va vn vc) = .agg #[.int .i64 0, .int .u64 0, .int .u64 0, .int .u64 0, .int .u64 0, .int .i64 0, .int .i64 0, .int .i64 0, .slice va vn vc] := by
  have z : ∀ i, wd noneP i = 0 := fun i => wd_none i
  simp [nodeW, nodeV, catT, Tr.kind, Tr.q, Tr.lo, Tr.hi, Tr.grp, z]
 have hv := weave_any (catT ts) HF.out (.slice va vn vc) _ hk3 HL.out
 rw [hn] at hv
 have HV := hideT hv
 have hB2 := HB.out.trans (hb2.mono HB.out.size)
 have HB2 := hideT (And.intro hB2 (hB2.trans (hA.mono hB2.size)))
 clear hv hn hk3 hA hk2 hb2 hB2 HP1 HB HM
 go_wp2_with fail
 refine (HV.out).mono ?_
 rintro e W4 ⟨b, rfl, hw4, hb4⟩
 have HZ := hideT (And.intro hw4 hb4)
 clear hw4 hb4 HV
 go_wp2
 go_ret2
 exact ⟨_, b, rfl, HB2.out.2.size, HZ.out.1, HB2.out.2.trans (HZ.out.2.mono HB2.out.2.size)⟩
end Go.Proofs.Ytiedliahmjiadaa
namespace Go.Proofs.Ytiedliahmjiadaa
open Go.RowKit Go.Shelf
noncomputable def endsT (ts : List Tr) (s : ByteArray) (i : Nat) : List Nat := endsB s.size (sbN s) (adT (catT ts) []).1 (adT (catT ts) []).2 i
noncomputable def startsT (ts : List Tr) (s : ByteArray) (E : Nat → Bool) : List Nat := startsB s.size (sbN s) (adT (catT ts) []).1 (adT (catT ts) []).2 E
theorem owns_lower {W : World} {B B' e z n : Nat} {v : Value} {xs : List Value} (h : W.ownsRow B e z v n xs) (hB : B' ≤ B) : W.ownsRow B' e z v n xs :=
 ⟨h.1, h.2.imp id (fun ⟨g, cap, cur, h1, h2, h3⟩ => ⟨g, cap, cur, h1, Nat.le_trans hB h2, h3⟩)⟩
def Ints (B : Nat) (W : World) (v : Value) (l : List Nat) : Prop := W.ownsRow B 3 1 v l.length (inL l)
theorem Ints.step {B : Nat} {W W' : World} {v : Value} {l : List Nat} (h : Ints B W v l) (hb : Below W.heap.size W W') : Ints B W' v l := owns_below h hb
theorem Ends_ok (t s : ByteArray) (i : Nat) (ts : List Tr) (hp : parseT t = .ok ts) (hb : (msF .zero ts).back = false) (hs : s.size ≤ 1024) (hi : i ≤ s.size) (w : World) (hg : Glob w) :
  Calls Try.prog 7 #[.string t, .string s, .int .i64 (i : Nat)] w fun e w' => ∃ v, e = .returned (.tuple #[v, .int .i64 0]) ∧ Ints w.heap.size w' v (endsT ts s i) ∧ Below w.heap.size w w' := by
 have HW := hideT (webFor_ok t s i ts hp hb hs hi w hg)
 have HI := hideT (ly_adT (catT ts) []).1
 have HN := hideT (nx_laid (catT ts))
 go_enter Try.func7, Try.ntmps7
 go_wp2_with fail
 refine (HW.out).mono ?_
 rintro e W1 ⟨B, b, rfl, hB, hw1, hb1⟩
 have HE := hideT (ends_any s i hi hs W1 hw1 HI.out HN.out)
 have HB := hideT hb1
 clear hw1 hb1 hB HW
 go_wp2_with fail
 refine (HE.out).mono ?_
 rintro e W2 ⟨v, rfl, ho2, hb2⟩
 have HO := hideT (And.intro ho2 hb2)
 clear ho2 hb2 HE
 go_wp2
 go_ret2
 exact ⟨v, rfl, owns_lower HO.out.1 HB.out.size, HB.out.trans (HO.out.2.mono HB.out.size)⟩
theorem enters18 : ∀ args w, (callFunc 18 args).run Try.prog w = .ok (.enter 18 args) w := enters_of Try.func18 (by kernel_rfl) rfl
theorem isEnd_any (i j c : Nat) (W : World) (hc : W.cell? ⟨c, 0, none⟩ = some (.int .i64 (j : Nat))) : Calls Try.prog 18 #[.int .i64 (i : Nat), .pointer (some ⟨c, 0, none⟩)] W fun e w' => e = .returned (.bool (decide (i = j))) ∧ w' = W := by
 have x : ((i : Int) == (j : Int)) = decide (i = j) := by
  by_cases h : i = j
  ·rw [decide_eq_true h, h]; exact beq_self_eq_true _
  ·rw [decide_eq_false h, beq_eq_false_iff_ne]; omega
 have HX := hideT x
 clear x
 go_enter Try.func18, Try.ntmps18
 go_wp2
 go_ret
 exact ⟨congrArg (fun b => Ending.returned (.bool b)) HX.out, rfl⟩
theorem Starts_ok (t s : ByteArray) (j : Nat) (ts : List Tr) (hp : parseT t = .ok ts) (hb : (msF .zero ts).back = false) (hs : s.size ≤ 1024) (hj : j ≤ s.size) (w : World) (hg : Glob w) :
  Calls Try.prog 8 #[.string t, .string s, .int .i64 (j : Nat)] w fun e w' => ∃ v, e = .returned (.tuple #[v, .int .i64 0]) ∧ Ints w.heap.size w' v (startsT ts s (fun i => decide (i = j))) ∧ Below w.heap.size w w' := by
 have hA := (Below.refl w.heap.size w).alloc (Nat.le_refl _) (.cells #[.int .i64 (j : Nat)] 3)
 have HW := hideT (webFor_ok t s j ts hp hb hs hj (w.alloc (.cells #[.int .i64 (j : Nat)] 3)) (hg.below hA (Nat.le_refl _)))
 have hc : (w.alloc (.cells #[.int .i64 (j : Nat)] 3)).cell? ⟨w.heap.size, 0, none⟩ = some (.int .i64 (j : Nat)) := by rw [World.cell?, heap_alloc_new]; rfl
 have HC := hideT (And.intro hc hA)
 have HI := hideT (ly_adT (catT ts) []).1
 have HN := hideT (nx_laid (catT ts))
 clear hA hc
 go_enter Try.func8, Try.ntmps8
 go_wp2_with fail
 refine (HW.out).mono ?_
 rintro e W1 ⟨B, b, rfl, hB, hw1, hb1⟩
 have c1 : W1.cell? ⟨w.heap.size, 0, none⟩ = some (.int .i64 (j : Nat)) := keep_cell hb1 HC.out.1
 have HE := hideT (starts_any s hs 18 #[.pointer (some ⟨w.heap.size, 0, none⟩)] (fun i => decide (i = j)) enters18 W1 hw1 HI.out HN.out (fun W i _ hb => isEnd_any i j w.heap.size W (keep_cell hb c1)))
 have HB := hideT (HC.out.2.trans (hb1.mono HC.out.2.size))
 clear hw1 hb1 hB HW
 go_wp2_with fail
 refine (HE.out).mono ?_
 rintro e W2 ⟨v, rfl, ho2, hb2⟩
 have HO := hideT (And.intro ho2 hb2)
 clear ho2 hb2 HE
 go_wp2
 go_ret2
 exact ⟨v, rfl, owns_lower HO.out.1 HB.out.size, HB.out.trans (HO.out.2.mono HB.out.size)⟩
theorem contains_any {B : Nat} {W : World} {v : Value} {l : List Nat} (h : Ints B W v l) (x : Nat) (hl : l.length ≤ 2000) : Calls Try.prog 21 #[v, .int .i64 (x : Nat)] W fun e w' => e = .returned (.bool (l.contains x)) ∧ w' = W := by
 rcases h.2 with ⟨rfl, h0⟩ | ⟨g, cap, cur, rfl, hg, hh, hc1, hc2, hc3, hc4⟩
 ·obtain rfl := List.eq_nil_of_length_eq_zero h0
  exact Try.slices_Contains_int_empty none 0 x W
 ·have hz : (l.map fun (n : Nat) => (n : Int)).length = l.length := by simp
  have hcell : ∀ j, j < (l.map fun (n : Nat) => (n : Int)).length → W.cell? ⟨g, 0 + j, none⟩ = some (.int .i64 ((l.map fun (n : Nat) => (n : Int)).getD j 0)) := fun j hj => by
   rw [hz] at hj
   have h2 := h.cells (g := g) rfl j (.int .i64 ((l.map fun (n : Nat) => (n : Int)).getD j 0)) (by simp [inL, hj])
   have hplain : (⟨g, 0, none⟩ : Addr).add j = ⟨g, 0 + j, none⟩ := by unfold Addr.add; split <;> simp_all
   rwa [hplain] at h2
  have hr := Try.slices_Contains_int g 0 l.length cap (l.map fun (n : Nat) => (n : Int)) (x : Nat) W (by rw [hz]; omega) (by omega) hcell
  have e : ((l.map fun (n : Nat) => (n : Int)).take l.length).contains (x : Int) = l.contains x := by
   rw [List.take_of_length_le (by rw [hz]; exact Nat.le_refl _)]
   rw [Bool.eq_iff_iff, List.contains_iff_mem, List.contains_iff_mem, List.mem_map]
   exact ⟨fun ⟨a, h1, h2⟩ => by
    obtain rfl : a = x := by omega
    exact h1, fun h => ⟨x, h, rfl⟩⟩
  rw [e] at hr
  exact hr
theorem Whole_ok (t s : ByteArray) (ts : List Tr) (hp : parseT t = .ok ts) (hb : (msF .zero ts).back = false) (hs : s.size ≤ 1024) (w : World) (hg : Glob w) :
  Calls Try.prog 11 #[.string t, .string s] w fun e w' => e = .returned (.tuple #[.bool ((endsT ts s 0).contains s.size), .int .i64 0]) ∧ Below w.heap.size w w' := by
 have HW := hideT (webFor_ok t s 0 ts hp hb hs (Nat.zero_le _) w hg)
 have HI := hideT (ly_adT (catT ts) []).1
 have HN := hideT (nx_laid (catT ts))
 have HL := hideT (ends_len s.size (sbN s) (adT (catT ts) []).1 (adT (catT ts) []).2 0 hs)
 obtain ⟨cb, hcb⟩ : ∃ c, c = (endsT ts s 0).contains s.size := ⟨_, rfl⟩
 rw [← hcb]
 have HCB := hideT hcb
 clear hcb
 go_enter Try.func11, Try.ntmps11
 go_wp2_with fail
 refine (HW.out).mono ?_
 rintro e W1 ⟨B, b, rfl, hB, hw1, hb1⟩
 have HE := hideT (ends_any s 0 (Nat.zero_le _) hs W1 hw1 HI.out HN.out)
 have HB := hideT hb1
 clear hw1 hb1 hB HW
 go_wp2_with fail
 refine (HE.out).mono ?_
 rintro e W2 ⟨v, rfl, ho2, hb2⟩
 have hct := contains_any (show Ints _ W2 v (endsT ts s 0) from ho2) s.size (by have := HL.out; unfold endsT; omega)
 rw [← HCB.out] at hct
 have HCT := hideT hct
 clear hct
 have HO := hideT hb2
 clear ho2 hb2 HE
 go_wp2_with fail
 refine (HCT.out).mono ?_
 rintro e W3 ⟨rfl, rfl⟩
 go_wp2
 go_ret2
 exact ⟨rfl, HB.out.trans (HO.out.mono HB.out.size)⟩
end Go.Proofs.Ytiedliahmjiadaa
namespace Go.Proofs.Ytiedliahmjiadaa
open Go.RowKit Go.Shelf
theorem enters19 : ∀ args w, (callFunc 19 args).run Try.prog w = .ok (.enter 19 args) w := enters_of Try.func19 (by kernel_rfl) rfl
theorem anyEnd_any (i : Nat) (W : World) : Calls Try.prog 19 #[.int .i64 (i : Nat)] W fun e w' => e = .returned (.bool true) ∧ w' = W := by
 go_enter Try.func19, Try.ntmps19
 go_wp2
 go_ret
 exact ⟨rfl, rfl⟩
def topI (l : List Nat) : Int := Lib.maxOf (l.map fun (n : Nat) => (n : Int))
theorem max_any {B : Nat} {W : World} {v : Value} {l : List Nat} (h : Ints B W v l) (h0 : 0 < l.length) (hl : l.length ≤ 2000) : Calls Try.prog 20 #[v] W fun e w' => e = .returned (.int .i64 (topI l)) ∧ w' = W := by
 rcases h.2 with ⟨rfl, h1⟩ | ⟨g, cap, cur, rfl, hg, hh, hc1, hc2, hc3, hc4⟩
 ·omega
 ·have hz : (l.map fun (n : Nat) => (n : Int)).length = l.length := by simp
  have hcell : ∀ j, j < (l.map fun (n : Nat) => (n : Int)).length → W.cell? ⟨g, 0 + j, none⟩ = some (.int .i64 ((l.map fun (n : Nat) => (n : Int)).getD j 0)) := fun j hj => by
   rw [hz] at hj
   have h2 := h.cells (g := g) rfl j (.int .i64 ((l.map fun (n : Nat) => (n : Int)).getD j 0)) (by simp [inL, hj])
   have hplain : (⟨g, 0, none⟩ : Addr).add j = ⟨g, 0 + j, none⟩ := by unfold Addr.add; split <;> simp_all
   rwa [hplain] at h2
  have hr := Try.slices_Max_int g 0 l.length cap (l.map fun (n : Nat) => (n : Int)) W h0 (by rw [hz]; exact Nat.le_refl _) (by omega) hcell
  rw [List.take_of_length_le (by rw [hz]; exact Nat.le_refl _)] at hr
  exact hr
noncomputable def firstT (ts : List Tr) (s : ByteArray) (i : Nat) : Option Nat := (startsT ts s fun _ => true).find? (fun a => decide (i ≤ a))
noncomputable def firstV (ts : List Tr) (s : ByteArray) (i : Nat) : Value := match firstT ts s i with
 | some a => .tuple #[.agg #[.int .i64 (a : Nat), .int .i64 (topI (endsT ts s a))], .bool true, .int .i64 0]
 | none => .tuple #[.agg #[.int .i64 0, .int .i64 0], .bool false, .int .i64 0]
theorem ends_T {t : ByteArray} (s : ByteArray) {ts : List Tr} (hp : parseT t = .ok ts) (hb : (msF .zero ts).back = false) {i : Nat} (hi : i ≤ s.size) : ListsG (MtT s.size (sbN s) (catT ts) i) (endsT ts s i) := ends_lists (catT ts) (pl_parse hp hb) (laid_len hp hb).1 hi
theorem starts_T {t : ByteArray} (s : ByteArray) {ts : List Tr} (hp : parseT t = .ok ts) (hb : (msF .zero ts).back = false) (E : Nat → Bool) : ListsG (fun i => i ≤ s.size ∧ ∃ j, E j = true ∧ MtT s.size (sbN s) (catT ts) i j) (startsT ts s E) := starts_lists (catT ts) (pl_parse hp hb) (laid_len hp hb).1 E
theorem info_span : (Try.prog.info? 35).map (·.size) = some 2 := by kernel_rfl
theorem span_result {fn : Func} {W : World} {b : Nat} {tmps : Array Value} {x y : Value} {fr : Nat × Nat} (hf : fn.results = #[.cell 6 35, .tmp 7, .tmp 8]) (hr : tmps[6]?.getD undef = .pointer (some ⟨b, 0, none⟩)) (h : W.heap[b]? = some (.cells #[x, y] 35 fr)) : (results fn tmps).run Try.prog W = .ok (.tuple #[.agg #[x, y], tmps.getD 7 undef, tmps.getD 8 undef]) W := by
 have := run_loadVar_mid (P := Try.prog) W b 0 35 [x, y] _ (range_block (cs := [x, y]) h) Try.underlying35 rfl (by rw [info_span]; rfl)
 simp [results, hf, asAddr, hr, this]
theorem put2s {W : World} {b t : Nat} {x y : Value} (h : W.heap[b]? = some (.cells #[x, y] t (0, 0))) (u v : Value) : ((W.setCell ⟨b, 0, none⟩ u).setCell ⟨b, 1, none⟩ v).heap[b]? = some (.cells #[u, v] t (0, 0)) := by
 simp only [World.setCell, Array.getElem?_modify, if_true, h, Option.map_some]
 rfl
theorem First_ok (t s : ByteArray) (i : Nat) (ts : List Tr) (hp : parseT t = .ok ts) (hb : (msF .zero ts).back = false) (hs : s.size ≤ 1024) (hi : i ≤ s.size) (w : World) (hg : Glob w) :
  Calls Try.prog 10 #[.string t, .string s, .int .i64 (i : Nat)] w fun e w' => e = .returned (firstV ts s i) ∧ Below w.heap.size w w' := by
 have hA := (Below.refl w.heap.size w).alloc (Nat.le_refl _) (.cells #[.int .i64 0, .int .i64 0] 35)
 have hN : (w.alloc (.cells #[.int .i64 0, .int .i64 0] 35)).heap[w.heap.size]? = some (.cells #[.int .i64 0, .int .i64 0] 35 (0, 0)) := heap_alloc_new w _
 have HW := hideT (webFor_ok t s i ts hp hb hs hi (w.alloc (.cells #[.int .i64 0, .int .i64 0] 35)) (hg.below hA (Nat.le_refl _)))
 have HC := hideT (And.intro hN hA)
 have HI := hideT (ly_adT (catT ts) []).1
 have HNx := hideT (nx_laid (catT ts))
 have HS := hideT (starts_T s hp hb (fun _ => true))
 have HEl := hideT (fun (j : Nat) (hj : j ≤ s.size) => ends_T s hp hb hj)
 have HLn := hideT (show (startsT ts s fun _ => true).length ≤ 1025 by
  unfold startsT startsB
  rw [List.length_reverse]
  have := st_len s.size (sbN s) (adT (catT ts) []).1 (adT (catT ts) []).2 (fun _ => true) s.size noB
  omega)
 clear hA hN
 obtain ⟨R, hR⟩ : ∃ R, R = firstV ts s i := ⟨_, rfl⟩
 rw [← hR]
 have HR := hideT hR
 clear hR
 go_enter Try.func10, Try.ntmps10
 go_wp2_with fail
 refine (HW.out).mono ?_
 rintro e W1 ⟨B, b, rfl, hB, hw1, hb1⟩
 have HE := hideT (starts_any s hs 19 #[] (fun _ => true) enters19 W1 hw1 HI.out HNx.out (fun W j _ _ => anyEnd_any j W))
 have HB := hideT (And.intro hb1 (And.intro hw1 hB))
 clear hw1 hb1 hB HW
 go_wp2_with fail
 refine (HE.out).mono ?_
 rintro e W2 ⟨v, rfl, ho2, hb2⟩
 have ho : Ints W1.heap.size W2 v (startsT ts s fun _ => true) := ho2
 have hnb : W2.heap[w.heap.size]? = some (.cells #[.int .i64 0, .int .i64 0] 35 (0, 0)) := by
  refine (hb2.block _ (Nat.lt_of_lt_of_le ?_ HB.out.1.size)).trans ((HB.out.1.block _ ?_).trans HC.out.1) <;> (rw [World.size_alloc]; exact Nat.lt_succ_self _)
 have hbw : Below w.heap.size w W2 := HC.out.2.trans ((HB.out.1.trans (hb2.mono HB.out.1.size)).mono HC.out.2.size)
 have HO := hideT (And.intro ho (And.intro hnb (And.intro hbw hb2)))
 clear ho2 hb2 HE ho hnb hbw
 rcases HO.out.1.2 with ⟨rfl, h0⟩ | ⟨g, cap, cur, rfl, hg2, hh, hc1, hc2, hc3, hc4⟩
 ·have hL0 : (startsT ts s fun _ => true) = [] := List.eq_nil_of_length_eq_zero h0
  have HL0 := hideT hL0
  clear hL0 h0
  go_wp2_with fail
  go_loopw [28] (fun v wr => v = .int .i64 0 ∧ wr = W2) (fun _ _ => 0)
  case atStart => exact ⟨rfl, rfl⟩
  case round =>
   obtain ⟨rfl, rfl⟩ := hrel
   have HF := hideT (show firstT ts s i = none by unfold firstT; rw [HL0.out]; rfl)
   have hnb := HO.out.2.1
   have c0 : wr.cell? ⟨w.heap.size, 0, none⟩ = some (.int .i64 0) := by simp [World.cell?, hnb]
   have c1 : wr.cell? ⟨w.heap.size, 1, none⟩ = some (.int .i64 0) := by simp [World.cell?, hnb]
   have f0 : wr.frozen? ⟨w.heap.size, 0, none⟩ = false := by simp [World.frozen?, hnb]
   have f1 : wr.frozen? ⟨w.heap.size, 1, none⟩ = false := by simp [World.frozen?, hnb]
   clear hnb
   go_wp2
   refine bodyPost_ret (span_result rfl rfl (put2s HO.out.2.1 _ _)) rfl ?_
   exact ⟨by rw [HR.out, firstV, HF.out]; rfl, (HO.out.2.2.1.setCell (p := ⟨w.heap.size, 0, none⟩) (Nat.le_refl _) _).setCell (p := ⟨w.heap.size, 1, none⟩) (Nat.le_refl _) _⟩
 ·obtain ⟨L, hL⟩ : ∃ L, L = startsT ts s fun _ => true := ⟨_, rfl⟩
  rw [← hL] at HS HLn HO hc1 hc4
  rw [← hL]
  have HLx := hideT hL
  clear hL hc1 hc2 hc3 hc4 hh hg2
  go_wp2_with fail
  go_loopw [28] (fun v wr => ∃ k : Nat, k ≤ L.length ∧ v = .int .i64 (k : Nat) ∧ Hid (∀ j, j < k → ∀ x, L[j]? = some x → x < i) ∧ wr = W2) (fun v _ => L.length - (intOf v).toNat)
  case atStart => exact ⟨0, Nat.zero_le _, rfl, hideT (fun j hj => by omega), rfl⟩
  case round =>
   obtain ⟨k, hk, rfl, HJ, rfl⟩ := hrel
   have hln := HLn.out
   by_cases hlt : k < L.length
   ·have i1 : (k : Int) < (L.length : Int) := by omega
    have i2 : (0 : Int) ≤ (k : Int) := by omega
    have hin := (HS.out.2 L[k]).1 (List.getElem_mem hlt)
    have cl : wr.cell? ⟨g, 0 + k, none⟩ = some (.int .i64 (L[k] : Nat)) := by
     have h2 := HO.out.1.cells (g := g) rfl k (.int .i64 (L[k] : Nat)) (by simp [inL, hlt])
     have hplain : (⟨g, 0, none⟩ : Addr).add k = ⟨g, 0 + k, none⟩ := by unfold Addr.add; split <;> simp_all
     rwa [hplain] at h2
    rw [Nat.zero_add] at cl
    have hkx : L[k]? = some L[k] := List.getElem?_eq_getElem hlt
    generalize L[k] = x at *
    by_cases hx : i ≤ x
    ·have x1 : (i : Int) ≤ (x : Int) := by omega
     have HF := hideT (show firstT ts s i = some x by
      unfold firstT
      rw [← HLx.out, List.find?_eq_some_iff_getElem]
      refine ⟨by simpa using hx, k, hlt, (List.getElem?_eq_some_iff.1 hkx).2, fun j hj => ?_⟩
      have h := HJ.out j hj L[j] (List.getElem?_eq_getElem (by omega))
      simp
      omega)
     have hwW := HB.out.2.1.below HO.out.2.2.2
     have HEn := hideT (ends_any s x hin.1 hs wr hwW HI.out HNx.out)
     have hne : 0 < (endsT ts s x).length := by
      obtain ⟨j, _, hj⟩ := hin.2
      exact List.length_pos_of_mem (((HEl.out x hin.1).2 j).2 hj)
     have hel := ends_len s.size (sbN s) (adT (catT ts) []).1 (adT (catT ts) []).2 x hs
     have HNE := hideT (And.intro hne hel)
     clear hin hkx hwW hne hel hx
     go_wp2_with fail
     refine (HEn.out).mono ?_
     rintro e W3 ⟨v3, rfl, ho3, hb3⟩
     have HMx := hideT (max_any (show Ints _ W3 v3 (endsT ts s x) from ho3) HNE.out.1 (by have := HNE.out.2; unfold endsT; omega))
     have hnb := (hb3.block _ (Array.getElem?_eq_some_iff.1 HO.out.2.1).1).trans HO.out.2.1
     have HB3 := hideT (And.intro hnb (HO.out.2.2.1.trans (hb3.mono HO.out.2.2.1.size)))
     have c0 : W3.cell? ⟨w.heap.size, 0, none⟩ = some (.int .i64 0) := by simp [World.cell?, hnb]
     have c1 : W3.cell? ⟨w.heap.size, 1, none⟩ = some (.int .i64 0) := by simp [World.cell?, hnb]
     have f0 : W3.frozen? ⟨w.heap.size, 0, none⟩ = false := by simp [World.frozen?, hnb]
     have f1 : W3.frozen? ⟨w.heap.size, 1, none⟩ = false := by simp [World.frozen?, hnb]
     clear ho3 hb3 hnb HEn cl
     go_wp2_with fail
     refine (HMx.out).mono ?_
     rintro e W4 ⟨rfl, rfl⟩
     go_wp2
     refine bodyPost_ret (span_result rfl rfl (put2s HB3.out.1 _ _)) rfl ?_
     exact ⟨by rw [HR.out, firstV, HF.out]; rfl, (HB3.out.2.setCell (p := ⟨w.heap.size, 0, none⟩) (Nat.le_refl _) _).setCell (p := ⟨w.heap.size, 1, none⟩) (Nat.le_refl _) _⟩
    ·have x1 : ((i : Int) ≤ (x : Int)) = False := by rw [eq_iff_iff, iff_false]; omega
     have HJ2 := hideT (show ∀ j, j < k + 1 → ∀ y, L[j]? = some y → y < i from fun j hj y hy => by
      by_cases e : j = k
      ·rw [e, hkx] at hy
       cases hy
       omega
      ·exact HJ.out j (by omega) y hy)
     clear hin hkx hx
     go_wp2
     exact ⟨⟨k + 1, by omega, by go_num, HJ2, by simp⟩, by simp [intOf]; omega⟩
   ·obtain rfl : k = L.length := by omega
    have i1 : ((L.length : Int) < (L.length : Int)) = False := by rw [eq_iff_iff, iff_false]; omega
    have HF := hideT (show firstT ts s i = none by 
       unfold firstT
       rw [← HLx.out, List.find?_eq_none]
       intro y hy
       obtain ⟨j, hj, e⟩ := List.getElem_of_mem hy
       have := HJ.out j hj y (by rw [List.getElem?_eq_getElem hj, e])
       simp
       omega)
    have hnb := HO.out.2.1
    have c0 : wr.cell? ⟨w.heap.size, 0, none⟩ = some (.int .i64 0) := by simp [World.cell?, hnb]
    have c1 : wr.cell? ⟨w.heap.size, 1, none⟩ = some (.int .i64 0) := by simp [World.cell?, hnb]
    have f0 : wr.frozen? ⟨w.heap.size, 0, none⟩ = false := by simp [World.frozen?, hnb]
    have f1 : wr.frozen? ⟨w.heap.size, 1, none⟩ = false := by simp [World.frozen?, hnb]
    clear hnb
    go_wp2
    refine bodyPost_ret (span_result rfl rfl (put2s HO.out.2.1 _ _)) rfl ?_
    exact ⟨by rw [HR.out, firstV, HF.out]; rfl, (HO.out.2.2.1.setCell (p := ⟨w.heap.size, 0, none⟩) (Nat.le_refl _) _).setCell (p := ⟨w.heap.size, 1, none⟩) (Nat.le_refl _) _⟩
end Go.Proofs.Ytiedliahmjiadaa
