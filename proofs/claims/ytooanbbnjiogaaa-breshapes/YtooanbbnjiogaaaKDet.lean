/- Walks: the sets' calls with the one value that each answers; '==' of two sets; Span. -/
import Derived.Test.YtooanbbnjiogaaaKOf
import Derived.ChangeKeysEq
namespace Go.Proofs.Ytooanbbnjiogaaa
open Go.RowKit

def notP (p : Nat → Bool) : Nat → Bool := fun n => !p n
def orP (p r : Nat → Bool) : Nat → Bool := fun n => p n || r n
def andP (p r : Nat → Bool) : Nat → Bool := fun n => p n && r n
def ofP (s : ByteArray) : Nat → Bool := inText s s.size
def spanP (lo hi : Nat) : Nat → Bool := fun n => decide (lo ≤ n ∧ n ≤ hi)
def noneP : Nat → Bool := fun _ => false

theorem det {f : FuncId} {args : Array Value} {w : World} {spec : Nat → Bool} (h : Calls Try.prog f args w fun e w' => ∃ q, e = .returned (.agg #[.int .u64 (wd q 0 : Nat), .int .u64 (wd q 1 : Nat), .int .u64 (wd q 2 : Nat), .int .u64 (wd q 3 : Nat)]) ∧ Is q (spec) ∧ Below w.heap.size w w') :
    Calls Try.prog f args w fun e w' => e = .returned (.agg #[.int .u64 (wd spec 0 : Nat), .int .u64 (wd spec 1 : Nat), .int .u64 (wd spec 2 : Nat), .int .u64 (wd spec 3 : Nat)]) ∧ Below w.heap.size w w' :=
  h.mono fun _ _ ⟨_, he, hq, hb⟩ => by
    obtain ⟨e0, e1, e2, e3⟩ := wd_Is hq
    rw [e0, e1, e2, e3] at he
    exact ⟨he, hb⟩

theorem notD (p : Nat → Bool) (w : World) : Calls Try.prog 36 #[.agg #[.int .u64 (wd p 0 : Nat), .int .u64 (wd p 1 : Nat), .int .u64 (wd p 2 : Nat), .int .u64 (wd p 3 : Nat)]] w fun e w' => e = .returned (.agg #[.int .u64 (wd (notP p) 0 : Nat), .int .u64 (wd (notP p) 1 : Nat), .int .u64 (wd (notP p) 2 : Nat), .int .u64 (wd (notP p) 3 : Nat)]) ∧ Below w.heap.size w w' := det (not_any p w)
theorem refNotD (p : Nat → Bool) (w : World) : Calls Try.prog 44 #[.agg #[.int .u64 (wd p 0 : Nat), .int .u64 (wd p 1 : Nat), .int .u64 (wd p 2 : Nat), .int .u64 (wd p 3 : Nat)]] w fun e w' => e = .returned (.agg #[.int .u64 (wd (notP p) 0 : Nat), .int .u64 (wd (notP p) 1 : Nat), .int .u64 (wd (notP p) 2 : Nat), .int .u64 (wd (notP p) 3 : Nat)]) ∧ Below w.heap.size w w' := det (refNot_any p w)
theorem orD (p r : Nat → Bool) (w : World) : Calls Try.prog 62 #[.agg #[.int .u64 (wd p 0 : Nat), .int .u64 (wd p 1 : Nat), .int .u64 (wd p 2 : Nat), .int .u64 (wd p 3 : Nat)], .agg #[.int .u64 (wd r 0 : Nat), .int .u64 (wd r 1 : Nat), .int .u64 (wd r 2 : Nat), .int .u64 (wd r 3 : Nat)]] w fun e w' => e = .returned (.agg #[.int .u64 (wd (orP p r) 0 : Nat), .int .u64 (wd (orP p r) 1 : Nat), .int .u64 (wd (orP p r) 2 : Nat), .int .u64 (wd (orP p r) 3 : Nat)]) ∧ Below w.heap.size w w' := det (or_any p r w)
theorem refOrD (p r : Nat → Bool) (w : World) : Calls Try.prog 55 #[.agg #[.int .u64 (wd p 0 : Nat), .int .u64 (wd p 1 : Nat), .int .u64 (wd p 2 : Nat), .int .u64 (wd p 3 : Nat)], .agg #[.int .u64 (wd r 0 : Nat), .int .u64 (wd r 1 : Nat), .int .u64 (wd r 2 : Nat), .int .u64 (wd r 3 : Nat)]] w fun e w' => e = .returned (.agg #[.int .u64 (wd (orP p r) 0 : Nat), .int .u64 (wd (orP p r) 1 : Nat), .int .u64 (wd (orP p r) 2 : Nat), .int .u64 (wd (orP p r) 3 : Nat)]) ∧ Below w.heap.size w w' := det (refOr_any p r w)
theorem andD (p r : Nat → Bool) (w : World) : Calls Try.prog 89 #[.agg #[.int .u64 (wd p 0 : Nat), .int .u64 (wd p 1 : Nat), .int .u64 (wd p 2 : Nat), .int .u64 (wd p 3 : Nat)], .agg #[.int .u64 (wd r 0 : Nat), .int .u64 (wd r 1 : Nat), .int .u64 (wd r 2 : Nat), .int .u64 (wd r 3 : Nat)]] w fun e w' => e = .returned (.agg #[.int .u64 (wd (andP p r) 0 : Nat), .int .u64 (wd (andP p r) 1 : Nat), .int .u64 (wd (andP p r) 2 : Nat), .int .u64 (wd (andP p r) 3 : Nat)]) ∧ Below w.heap.size w w' := det (and_any p r w)
theorem ofD (s : ByteArray) (hs : s.size ≤ maxLen) (w : World) : Calls Try.prog 53 #[.string s] w fun e w' => e = .returned (.agg #[.int .u64 (wd (ofP s) 0 : Nat), .int .u64 (wd (ofP s) 1 : Nat), .int .u64 (wd (ofP s) 2 : Nat), .int .u64 (wd (ofP s) 3 : Nat)]) ∧ Below w.heap.size w w' := det (of_any s hs w)
theorem refOfD (s : ByteArray) (hs : s.size ≤ maxLen) (w : World) : Calls Try.prog 16 #[.string s] w fun e w' => e = .returned (.agg #[.int .u64 (wd (ofP s) 0 : Nat), .int .u64 (wd (ofP s) 1 : Nat), .int .u64 (wd (ofP s) 2 : Nat), .int .u64 (wd (ofP s) 3 : Nat)]) ∧ Below w.heap.size w w' := det (refOf_any s hs w)
theorem stretchD (lo hi : Int) (h0 : 0 ≤ lo) (h1 : lo ≤ hi) (h2 : hi < 256) (w : World) : Calls Try.prog 85 #[.int .u8 lo, .int .u8 hi] w fun e w' => e = .returned (.agg #[.int .u64 (wd (spanP lo.toNat hi.toNat) 0 : Nat), .int .u64 (wd (spanP lo.toNat hi.toNat) 1 : Nat), .int .u64 (wd (spanP lo.toNat hi.toNat) 2 : Nat), .int .u64 (wd (spanP lo.toNat hi.toNat) 3 : Nat)]) ∧ Below w.heap.size w w' :=
  det ((stretch_any lo hi h0 h1 h2 w).mono fun _ _ ⟨q, he, hq, hb⟩ => ⟨q, he, fun n hn => by rw [hq n hn]; unfold spanP; rw [Bool.eq_iff_iff]; simp only [decide_eq_true_eq]; omega, hb⟩)

theorem info22 : ∃ i, Try.prog.info? 22 = some i := by
  have h : (Try.prog.info? 22).isSome = true := by kernel_rfl
  exact Option.isSome_iff_exists.1 h
theorem cells22 : Try.prog.cellsOf 22 = 1 := by kernel_rfl

theorem run_eql_words (a0 a1 a2 a3 b0 b1 b2 b3 : Int) (w : World) :
    (binOp .eql 24 (.agg #[.int .u64 a0, .int .u64 a1, .int .u64 a2, .int .u64 a3]) (.agg #[.int .u64 b0, .int .u64 b1, .int .u64 b2, .int .u64 b3])).run Try.prog w = .ok (.bool ((a0 == b0) && (a1 == b1) && (a2 == b2) && (a3 == b3))) w := by
  obtain ⟨i, hi⟩ := info22
  rw [run_eql_struct, run_equalIn_array w 9999 _ _ Try.underlying24 hi, cells22]
  simp [Op.eqItems, List.range_succ, go_sem]
  by_cases h0 : a0 = b0 <;> by_cases h1 : a1 = b1 <;> by_cases h2 : a2 = b2 <;> by_cases h3 : a3 = b3 <;> simp [h0, h1, h2, h3]

theorem run_neq_words (a0 a1 a2 a3 b0 b1 b2 b3 : Int) (w : World) :
    (binOp .neq 24 (.agg #[.int .u64 a0, .int .u64 a1, .int .u64 a2, .int .u64 a3]) (.agg #[.int .u64 b0, .int .u64 b1, .int .u64 b2, .int .u64 b3])).run Try.prog w = .ok (.bool (!((a0 == b0) && (a1 == b1) && (a2 == b2) && (a3 == b3)))) w := by
  obtain ⟨i, hi⟩ := info22
  rw [run_neq_struct, run_equalIn_array w 9999 _ _ Try.underlying24 hi, cells22]
  simp [Op.eqItems, List.range_succ, go_sem]
  by_cases h0 : a0 = b0 <;> by_cases h1 : a1 = b1 <;> by_cases h2 : a2 = b2 <;> by_cases h3 : a3 = b3 <;> simp [h0, h1, h2, h3]

/-- '==' of two sets. -/
theorem run_eql_set (p q : Nat → Bool) (w : World) : (binOp .eql 24 (.agg #[.int .u64 (wd p 0 : Nat), .int .u64 (wd p 1 : Nat), .int .u64 (wd p 2 : Nat), .int .u64 (wd p 3 : Nat)]) (.agg #[.int .u64 (wd q 0 : Nat), .int .u64 (wd q 1 : Nat), .int .u64 (wd q 2 : Nat), .int .u64 (wd q 3 : Nat)])).run Try.prog w = .ok (.bool (eqB p q)) w := by
  rw [run_eql_words, eqB_words]

theorem run_neq_set (p q : Nat → Bool) (w : World) : (binOp .neq 24 (.agg #[.int .u64 (wd p 0 : Nat), .int .u64 (wd p 1 : Nat), .int .u64 (wd p 2 : Nat), .int .u64 (wd p 3 : Nat)]) (.agg #[.int .u64 (wd q 0 : Nat), .int .u64 (wd q 1 : Nat), .int .u64 (wd q 2 : Nat), .int .u64 (wd q 3 : Nat)])).run Try.prog w = .ok (.bool (!eqB p q)) w := by
  rw [run_neq_words, eqB_words]

theorem eqB_of {p q : Nat → Bool} (h : Is p q) : eqB p q = true := (eqB_iff p q).2 h

set_option maxHeartbeats 400000 in
theorem spanD (lo hi : Int) (h0 : 0 ≤ lo) (h1 : lo ≤ hi) (h2 : hi < 256) (w : World) :
    Calls Try.prog 76 #[.int .u8 lo, .int .u8 hi] w fun e w' => e = .returned (.tuple #[.agg #[.int .u64 (wd (spanP lo.toNat hi.toNat) 0 : Nat), .int .u64 (wd (spanP lo.toNat hi.toNat) 1 : Nat), .int .u64 (wd (spanP lo.toNat hi.toNat) 2 : Nat), .int .u64 (wd (spanP lo.toNat hi.toNat) 3 : Nat)], .int .i64 0]) ∧ Below w.heap.size w w' := by
  have hlt : ¬ hi < lo := by omega
  go_enter Try.func76, Try.ntmps76
  go_wp2_with fail
  refine (stretchD lo hi h0 h1 h2 _).mono ?_
  rintro e w1 ⟨rfl, hb1⟩
  have hr1 := (holds4_zero w 24).below hb1 (by simp)
  have hr2 := hr1
  obtain ⟨⟨c0, c1, c2, c3⟩, f0, f1, f2, f3⟩ := hr2
  go_wp2
  exact bodyPost_ret (v := .tuple #[.agg #[.int .u64 (wd (spanP lo.toNat hi.toNat) 0 : Nat), .int .u64 (wd (spanP lo.toNat hi.toNat) 1 : Nat), .int .u64 (wd (spanP lo.toNat hi.toNat) 2 : Nat), .int .u64 (wd (spanP lo.toNat hi.toNat) 3 : Nat)], .int .i64 0]) (by simp [results, Try.results76, go_sem, *]) rfl ⟨rfl, below_put4 (((Below.refl _ _).alloc (Nat.le_refl _) _).trans (hb1.mono (by simp))) (Nat.le_refl _) _⟩

set_option maxHeartbeats 400000 in
theorem spanBad (lo hi : Int) (hlt : hi < lo) (w : World) :
    Calls Try.prog 76 #[.int .u8 lo, .int .u8 hi] w fun e w' => e = .returned (.tuple #[.agg #[.int .u64 (wd noneP 0 : Nat), .int .u64 (wd noneP 1 : Nat), .int .u64 (wd noneP 2 : Nat), .int .u64 (wd noneP 3 : Nat)], .int .i64 7]) ∧ Below w.heap.size w w' := by
  unfold noneP
  rw [wd_none, wd_none, wd_none, wd_none]
  go_enter Try.func76, Try.ntmps76
  go_wp2
  exact bodyPost_ret (v := .tuple #[.agg #[.int .u64 0, .int .u64 0, .int .u64 0, .int .u64 0], .int .i64 7]) (by simp [results, Try.results76, go_sem]) rfl ⟨rfl, (Below.refl _ _).alloc (Nat.le_refl _) _⟩

theorem demorgan (p r : Nat → Bool) : notP (orP (notP p) (notP r)) = andP p r := by
  funext n; simp [notP, orP, andP]

end Go.Proofs.Ytooanbbnjiogaaa
