/- KA1 -/
import Derived.Test.YtbekghinikjjeaaGreatDoorKPlain
import Derived.OwnWalk
import Derived.ChangeKeysEq
set_option maxRecDepth 100000
set_option maxHeartbeats 4000000
namespace Go.Proofs.YtbekghinikjjeaaGreatDoor.smt
open Go.RowKit Go.Proofs.YtbekghinikjjeaaGreatDoor.br
def up (s b : Nat) : Nat := (s <<< b) % 2 ^ 256
theorem up_bit (s b m : Nat) : (up s b).testBit m = (decide (m < 256) && (decide (b ≤ m) && s.testBit (m - b))) := by
 rw [up, Nat.testBit_mod_two_pow, Nat.testBit_shiftLeft]
theorem wd_bit (n i j : Nat) : (wd n.testBit i).testBit j = (decide (j < 64) && n.testBit (64 * i + j)) := by unfold wd; rw [xce]
theorem up_one (n q r i : Nat) (hr : r < 64) (hi : i = q) (h4 : i < 4) : wd n.testBit (i - q) * 2 ^ r % 18446744073709551616 = wd (up n (64 * q + r)).testBit i := by
 refine xec _ _ _ (Nat.mod_lt _ (by omega)) fun j hj => ?_
 rw [show (18446744073709551616 : Nat) = 2 ^ 64 by decide, Nat.testBit_mod_two_pow, ← Nat.shiftLeft_eq, Nat.testBit_shiftLeft, wd_bit, up_bit]
 by_cases h : r ≤ j
 · have e1 : 64 * q + r ≤ 64 * i + j := by omega
   simp only [hj, h, e1, show 64 * i + j < 256 by omega, show j - r < 64 by omega, decide_true, Bool.true_and]
   congr 1; omega
 · have e1 : ¬ 64 * q + r ≤ 64 * i + j := by omega
   simp [h, e1]
theorem up_two (n q r i : Nat) (hr : r < 64) (hi : q < i) (h4 : i < 4) : wd n.testBit (i - q) * 2 ^ r % 18446744073709551616 ||| wd n.testBit (i - q - 1) / 2 ^ (64 - r) = wd (up n (64 * q + r)).testBit i := by
 have hlt : wd n.testBit (i - q - 1) / 2 ^ (64 - r) < 2 ^ 64 := Nat.lt_of_le_of_lt (Nat.div_le_self _ _) (xea _ _)
 refine xec _ _ _ (Nat.or_lt_two_pow (n := 64) (Nat.mod_lt _ (by omega)) hlt) fun j hj => ?_
 rw [Nat.testBit_or, show (18446744073709551616 : Nat) = 2 ^ 64 by decide, Nat.testBit_mod_two_pow, ← Nat.shiftLeft_eq, Nat.testBit_shiftLeft, wd_bit, up_bit, ← Nat.shiftRight_eq_div_pow, Nat.testBit_shiftRight, wd_bit]
 have e1 : 64 * q + r ≤ 64 * i + j := by omega
 by_cases h : r ≤ j
 · simp only [hj, h, e1, show 64 * i + j < 256 by omega, show j - r < 64 by omega, show ¬ 64 - r + j < 64 by omega, decide_true, decide_false, Bool.true_and, Bool.false_and, Bool.or_false]
   congr 1; omega
 · simp only [hj, h, e1, show 64 * i + j < 256 by omega, show 64 - r + j < 64 by omega, decide_true, decide_false, Bool.true_and, Bool.false_and, Bool.false_or]
   congr 1; omega
theorem up_low (n b i : Nat) (h : 64 * i + 64 ≤ b) : wd (up n b).testBit i = 0 := by
 symm; refine xec _ _ _ (by omega) fun j hj => ?_
 rw [up_bit, Nat.zero_testBit]
 have e1 : ¬ b ≤ 64 * i + j := by omega
 simp [e1]
theorem dn_two (n q r i : Nat) (hr : r < 64) : wd n.testBit (i + q) / 2 ^ r ||| wd n.testBit (i + q + 1) * 2 ^ (64 - r) % 18446744073709551616 = wd (n >>> (64 * q + r)).testBit i := by
 have hlt : wd n.testBit (i + q) / 2 ^ r < 2 ^ 64 := Nat.lt_of_le_of_lt (Nat.div_le_self _ _) (xea _ _)
 refine xec _ _ _ (Nat.or_lt_two_pow (n := 64) hlt (Nat.mod_lt _ (by omega))) fun j hj => ?_
 rw [Nat.testBit_or, show (18446744073709551616 : Nat) = 2 ^ 64 by decide, Nat.testBit_mod_two_pow, ← Nat.shiftLeft_eq, Nat.testBit_shiftLeft, wd_bit, ← Nat.shiftRight_eq_div_pow, Nat.testBit_shiftRight, wd_bit, Nat.testBit_shiftRight]
 by_cases h : r + j < 64
 · simp only [hj, h, show ¬ 64 - r ≤ j by omega, decide_true, decide_false, Bool.true_and, Bool.false_and, Bool.and_false, Bool.or_false]
   congr 1; omega
 · simp only [hj, h, show 64 - r ≤ j by omega, show j - (64 - r) < 64 by omega, decide_true, decide_false, Bool.true_and, Bool.false_and, Bool.false_or]
   congr 1; omega
theorem dn_one (n q r i : Nat) (hn : n < 2 ^ 256) (hi : i + q = 3) : wd n.testBit (i + q) / 2 ^ r = wd (n >>> (64 * q + r)).testBit i := by
 have hlt : wd n.testBit (i + q) / 2 ^ r < 2 ^ 64 := Nat.lt_of_le_of_lt (Nat.div_le_self _ _) (xea _ _)
 refine xec _ _ _ hlt fun j hj => ?_
 rw [← Nat.shiftRight_eq_div_pow, Nat.testBit_shiftRight, wd_bit, Nat.testBit_shiftRight]
 by_cases h : r + j < 64
 · simp only [h, decide_true, Bool.true_and]
   congr 1; omega
 · have e : n.testBit (64 * q + r + (64 * i + j)) = false := Nat.testBit_lt_two_pow (Nat.lt_of_lt_of_le hn (Nat.pow_le_pow_right (by omega) (by omega)))
   simp [h, e]
theorem dn_high (n b i : Nat) (hn : n < 2 ^ 256) (h : 256 ≤ b + 64 * i) : wd (n >>> b).testBit i = 0 := by
 symm; refine xec _ _ _ (by omega) fun j hj => ?_
 rw [Nat.testBit_shiftRight, Nat.zero_testBit]
 exact (Nat.testBit_lt_two_pow (Nat.lt_of_lt_of_le hn (Nat.pow_le_pow_right (by omega) (by omega)))).symm
theorem wd_zero (i : Nat) : wd (Nat.testBit 0) i = 0 := by
 have : Nat.testBit 0 = fun _ => false := funext fun n => Nat.zero_testBit n
 rw [this, xaa]
theorem or_bits (a b : Nat) : (fun n => a.testBit n || b.testBit n) = (a ||| b).testBit := funext fun n => (Nat.testBit_or a b n).symm
theorem and_bits (a b : Nat) : (fun n => a.testBit n && b.testBit n) = (a &&& b).testBit := funext fun n => (Nat.testBit_and a b n).symm
def wo (a b : Nat) : Nat := a ^^^ (a &&& b)
theorem wo_bit (a b n : Nat) : (wo a b).testBit n = (a.testBit n && !b.testBit n) := by
 rw [wo, Nat.testBit_xor, Nat.testBit_and]; cases a.testBit n <;> cases b.testBit n <;> rfl
theorem add_bits (n k : Nat) : ins n.testBit k = (n ||| 1 <<< k).testBit := funext fun j => by
 rw [Nat.testBit_or, Nat.one_shiftLeft, Nat.testBit_two_pow, ins]
 congr 1
 by_cases h : j = k
 · subst h; simp
 · simp [h, Ne.symm h]
theorem wd_inj {a b : Nat} (ha : a < 2 ^ 256) (hb : b < 2 ^ 256) (h : ∀ i, i < 4 → wd a.testBit i = wd b.testBit i) : a = b := by
 apply Nat.eq_of_testBit_eq; intro j
 by_cases hj : j < 256
 · have e := congrArg (fun x => x.testBit (j % 64)) (h (j / 64) (by omega))
   simp only [wd_bit, Nat.mod_lt j (show 0 < 64 by omega), decide_true, Bool.true_and] at e
   rwa [show 64 * (j / 64) + j % 64 = j by omega] at e
 · rw [Nat.testBit_lt_two_pow (Nat.lt_of_lt_of_le ha (Nat.pow_le_pow_right (by omega) (by omega))), Nat.testBit_lt_two_pow (Nat.lt_of_lt_of_le hb (Nat.pow_le_pow_right (by omega) (by omega)))]
theorem none_iff {a : Nat} (ha : a < 2 ^ 256) : (wd a.testBit 0 = 0 ∧ wd a.testBit 1 = 0 ∧ wd a.testBit 2 = 0 ∧ wd a.testBit 3 = 0) ↔ a = 0 := by
 constructor
 · rintro ⟨h0, h1, h2, h3⟩
   refine wd_inj ha (by decide) fun i hi => ?_
   rw [wd_zero]
   match i, hi with
   | 0, _ => exact h0
   | 1, _ => exact h1
   | 2, _ => exact h2
   | 3, _ => exact h3
 · rintro rfl; exact ⟨wd_zero _, wd_zero _, wd_zero _, wd_zero _⟩
def mr (p : Nat → Bool) (k : Nat) : List Nat := (List.range' k (256 - k)).filter p
theorem mr_step (p : Nat → Bool) {k : Nat} (h : k < 256) : mr p k = if p k then k :: mr p (k + 1) else mr p (k + 1) := by
 unfold mr
 rw [show 256 - k = (256 - (k + 1)) + 1 by omega, List.range'_succ, List.filter_cons]
theorem mr_end (p : Nat → Bool) : mr p 256 = [] := rfl
theorem mr_skip (p : Nat → Bool) : ∀ (d k l : Nat), l - k = d → k ≤ l → l ≤ 256 → (∀ y, k ≤ y → y < l → p y = false) → mr p k = mr p l
 | 0, k, l, hd, hk, _, _ => by rw [show k = l by omega]
 | d + 1, k, l, hd, hk, hl, h => by
  rw [mr_step p (by omega), h k (by omega) (by omega)]
  exact mr_skip p d (k + 1) l (by omega) (by omega) hl fun y h1 h2 => h y (by omega) h2
theorem mr_lt {p : Nat → Bool} {k x : Nat} (h : x ∈ mr p k) : x < 256 ∧ p x = true := by
 unfold mr at h
 obtain ⟨h1, h2⟩ := List.mem_filter.1 h
 have := List.mem_range'_1.1 h1
 exact ⟨by omega, h2⟩
structure Lft (n i j x : Nat) : Prop where
 lt : x < 18446744073709551616
 j64 : j ≤ 64
 bit : ∀ m, m < 64 → x.testBit m = (decide (j ≤ m) && n.testBit (64 * i + m))
theorem Lft.start (n i : Nat) : Lft n i 0 (wd n.testBit i) := ⟨xea _ _, by omega, fun m hm => by rw [xca _ _ _ hm]; simp⟩
theorem Lft.done {n i j x : Nat} (h : Lft n i j x) (h0 : x = 0) (hi : i < 4) : mr n.testBit (64 * i + j) = mr n.testBit (64 * (i + 1)) := by
 have := h.j64
 refine mr_skip _ _ _ _ rfl (by omega) (by omega) fun y h1 h2 => ?_
 have e := h.bit (y - 64 * i) (by omega)
 rw [h0, Nat.zero_testBit, show 64 * i + (y - 64 * i) = y by omega] at e
 simpa [show j ≤ y - 64 * i by omega] using e.symm
theorem low_step (x c m : Nat) (h : x = 2 ^ c * (2 * m + 1)) : x.testBit c = true ∧ (∀ k, k < c → x.testBit k = false) ∧ ∀ k, (x &&& (x - 1)).testBit k = (x.testBit k && decide (c < k)) := by
 have hp : 0 < 2 ^ c := Nat.pow_pos (by omega)
 have e1 : x = 2 ^ (c + 1) * m + 2 ^ c := by rw [h, Nat.pow_succ]; grind
 have e2 : x - 1 = 2 ^ (c + 1) * m + (2 ^ c - 1) := by omega
 have hl : 2 ^ c < 2 ^ (c + 1) := by rw [Nat.pow_succ]; omega
 have b1 : ∀ k, x.testBit k = if k < c + 1 then (2 ^ c).testBit k else m.testBit (k - (c + 1)) := fun k => by rw [e1, Nat.testBit_two_pow_mul_add _ hl]
 have b2 : ∀ k, (x - 1).testBit k = if k < c + 1 then (2 ^ c - 1).testBit k else m.testBit (k - (c + 1)) := fun k => by rw [e2, Nat.testBit_two_pow_mul_add _ (by omega)]
 have c1 : x.testBit c = true := by rw [b1, if_pos (by omega), Nat.testBit_two_pow_self]
 have c2 : ∀ k, k < c → x.testBit k = false := fun k hk => by rw [b1, if_pos (by omega), Nat.testBit_two_pow_of_ne (by omega)]
 refine ⟨c1, c2, fun k => ?_⟩
 rw [Nat.testBit_and]
 rcases Nat.lt_trichotomy k c with hk | hk | hk
 · rw [c2 k hk]; simp
 · subst hk; rw [b2, if_pos (by omega), Nat.testBit_two_pow_sub_one]
 · rw [b1, b2, if_neg (by omega), if_neg (by omega)]; simp [hk]
theorem Lft.next {n i j x c m : Nat} (h : Lft n i j x) (hx : x = 2 ^ c * (2 * m + 1)) (hc : c < 64) (hi : i < 4) : mr n.testBit (64 * i + j) = (64 * i + c) :: mr n.testBit (64 * i + (c + 1)) ∧ Lft n i (c + 1) (x &&& (x - 1)) := by
 obtain ⟨b1, b2, b3⟩ := low_step x c m hx
 have hb := h.bit c hc
 rw [b1] at hb
 have hjc : j ≤ c ∧ n.testBit (64 * i + c) = true := by simpa using hb.symm
 constructor
 · rw [mr_skip n.testBit (c - j) (64 * i + j) (64 * i + c) (by omega) (by omega) (by omega) fun y h1 h2 => ?_, mr_step _ (by omega), if_pos hjc.2]
   · rfl
   · have e := h.bit (y - 64 * i) (by omega)
     rw [b2 _ (by omega), show 64 * i + (y - 64 * i) = y by omega] at e
     simpa [show j ≤ y - 64 * i by omega] using e.symm
 · refine ⟨Nat.lt_of_le_of_lt Nat.and_le_left h.lt, by omega, fun k hk => ?_⟩
   rw [b3, h.bit k hk]
   by_cases hck : c < k
   · simp [show c + 1 ≤ k by omega, show j ≤ k by omega, hck]
   · simp [show ¬ c + 1 ≤ k by omega, hck]
end Go.Proofs.YtbekghinikjjeaaGreatDoor.smt
namespace Go.Proofs.YtbekghinikjjeaaGreatDoor.smt
open Go.RowKit Go.Proofs.YtbekghinikjjeaaGreatDoor.br
theorem wd_orN (a b i : Nat) : bits .or .u64 (wd (Nat.testBit a) i : Nat) (wd (Nat.testBit b) i : Nat) = (wd (Nat.testBit (a ||| b)) i : Nat) := by rw [wd_or, or_bits]
theorem wd_andN (a b i : Nat) : bits .and .u64 (wd (Nat.testBit a) i : Nat) (wd (Nat.testBit b) i : Nat) = (wd (Nat.testBit (a &&& b)) i : Nat) := by rw [xmc, and_bits]
theorem wd_woN (a b i : Nat) : bits .andNot .u64 (wd (Nat.testBit a) i : Nat) (wd (Nat.testBit b) i : Nat) = (wd (Nat.testBit (wo a b)) i : Nat) := by
 have ha := xea (Nat.testBit a) i; have hb := xea (Nat.testBit b) i
 have e : (BitVec.ofInt 64 (wd (Nat.testBit a) i : Nat) &&& ~~~ BitVec.ofInt 64 (wd (Nat.testBit b) i : Nat)).toNat = wd (Nat.testBit (wo a b)) i := by
  refine xec _ _ _ (BitVec.isLt _) fun j hj => ?_
  rw [BitVec.testBit_toNat, BitVec.getLsbD_and, BitVec.getLsbD_not, BitVec.ofInt_natCast, BitVec.ofInt_natCast, BitVec.getLsbD_ofNat, BitVec.getLsbD_ofNat, wd_bit, wd_bit, wo_bit]
  simp [hj]
 show IntKind.u64.wrap ((BitVec.ofInt 64 (wd (Nat.testBit a) i : Nat) &&& ~~~ BitVec.ofInt 64 (wd (Nat.testBit b) i : Nat)).toNat : Int) = _
 rw [e, IntKind.wrap_u64]
 have := xea (Nat.testBit (wo a b)) i
 omega
theorem or_words (a0 a1 a2 a3 b0 b1 b2 b3 : Int) (w : World) : Calls Tryz.prog 93 #[.agg #[.int .u64 a0, .int .u64 a1, .int .u64 a2, .int .u64 a3], .agg #[.int .u64 b0, .int .u64 b1, .int .u64 b2, .int .u64 b3]] w fun e w' => e = .returned (.agg #[.int .u64 (bits .or .u64 a0 b0), .int .u64 (bits .or .u64 a1 b1), .int .u64 (bits .or .u64 a2 b2), .int .u64 (bits .or .u64 a3 b3)]) ∧ Below w.heap.size w w' := by
 have i0 : ∀ w : World, (Instr.index 157 (.agg #[.int .u64 b0, .int .u64 b1, .int .u64 b2, .int .u64 b3]) (.int .i64 0)).run Tryz.prog w = .ok (.int .u64 b0) w := fun _ => by kernel_rfl
 have i1 : ∀ w : World, (Instr.index 157 (.agg #[.int .u64 b0, .int .u64 b1, .int .u64 b2, .int .u64 b3]) (.int .i64 1)).run Tryz.prog w = .ok (.int .u64 b1) w := fun _ => by kernel_rfl
 have i2 : ∀ w : World, (Instr.index 157 (.agg #[.int .u64 b0, .int .u64 b1, .int .u64 b2, .int .u64 b3]) (.int .i64 2)).run Tryz.prog w = .ok (.int .u64 b2) w := fun _ => by kernel_rfl
 have i3 : ∀ w : World, (Instr.index 157 (.agg #[.int .u64 b0, .int .u64 b1, .int .u64 b2, .int .u64 b3]) (.int .i64 3)).run Tryz.prog w = .ok (.int .u64 b3) w := fun _ => by kernel_rfl
 go_enter Tryz.func93, Tryz.ntmps93
 go_wp2
 go_rounds 5
 exact bodyPost_ret (v := .agg #[.int .u64 (bits .or .u64 a0 b0), .int .u64 (bits .or .u64 a1 b1), .int .u64 (bits .or .u64 a2 b2), .int .u64 (bits .or .u64 a3 b3)]) (by simp [results, Tryz.results93, go_sem]) rfl ⟨rfl, by repeat (first | exact Below.refl _ _ | refine Below.drew ?_ | refine Below.setCell ?_ (by simp; try omega) _ | refine Below.alloc ?_ (by simp; try omega) _)⟩
theorem or_any (a b : Nat) (w : World) : Calls Tryz.prog 93 #[.agg #[.int .u64 (wd (Nat.testBit a) 0 : Nat), .int .u64 (wd (Nat.testBit a) 1 : Nat), .int .u64 (wd (Nat.testBit a) 2 : Nat), .int .u64 (wd (Nat.testBit a) 3 : Nat)], .agg #[.int .u64 (wd (Nat.testBit b) 0 : Nat), .int .u64 (wd (Nat.testBit b) 1 : Nat), .int .u64 (wd (Nat.testBit b) 2 : Nat), .int .u64 (wd (Nat.testBit b) 3 : Nat)]] w fun e w' => e = .returned (.agg #[.int .u64 (wd (Nat.testBit (a ||| b)) 0 : Nat), .int .u64 (wd (Nat.testBit (a ||| b)) 1 : Nat), .int .u64 (wd (Nat.testBit (a ||| b)) 2 : Nat), .int .u64 (wd (Nat.testBit (a ||| b)) 3 : Nat)]) ∧ Below w.heap.size w w' := by
 have h := or_words (wd (Nat.testBit a) 0 : Nat) (wd (Nat.testBit a) 1 : Nat) (wd (Nat.testBit a) 2 : Nat) (wd (Nat.testBit a) 3 : Nat) (wd (Nat.testBit b) 0 : Nat) (wd (Nat.testBit b) 1 : Nat) (wd (Nat.testBit b) 2 : Nat) (wd (Nat.testBit b) 3 : Nat) w
 rw [wd_orN, wd_orN, wd_orN, wd_orN] at h
 exact h
theorem and_words (a0 a1 a2 a3 b0 b1 b2 b3 : Int) (w : World) : Calls Tryz.prog 123 #[.agg #[.int .u64 a0, .int .u64 a1, .int .u64 a2, .int .u64 a3], .agg #[.int .u64 b0, .int .u64 b1, .int .u64 b2, .int .u64 b3]] w fun e w' => e = .returned (.agg #[.int .u64 (bits .and .u64 a0 b0), .int .u64 (bits .and .u64 a1 b1), .int .u64 (bits .and .u64 a2 b2), .int .u64 (bits .and .u64 a3 b3)]) ∧ Below w.heap.size w w' := by
 have i0 : ∀ w : World, (Instr.index 157 (.agg #[.int .u64 b0, .int .u64 b1, .int .u64 b2, .int .u64 b3]) (.int .i64 0)).run Tryz.prog w = .ok (.int .u64 b0) w := fun _ => by kernel_rfl
 have i1 : ∀ w : World, (Instr.index 157 (.agg #[.int .u64 b0, .int .u64 b1, .int .u64 b2, .int .u64 b3]) (.int .i64 1)).run Tryz.prog w = .ok (.int .u64 b1) w := fun _ => by kernel_rfl
 have i2 : ∀ w : World, (Instr.index 157 (.agg #[.int .u64 b0, .int .u64 b1, .int .u64 b2, .int .u64 b3]) (.int .i64 2)).run Tryz.prog w = .ok (.int .u64 b2) w := fun _ => by kernel_rfl
 have i3 : ∀ w : World, (Instr.index 157 (.agg #[.int .u64 b0, .int .u64 b1, .int .u64 b2, .int .u64 b3]) (.int .i64 3)).run Tryz.prog w = .ok (.int .u64 b3) w := fun _ => by kernel_rfl
 go_enter Tryz.func123, Tryz.ntmps123
 go_wp2
 go_rounds 5
 exact bodyPost_ret (v := .agg #[.int .u64 (bits .and .u64 a0 b0), .int .u64 (bits .and .u64 a1 b1), .int .u64 (bits .and .u64 a2 b2), .int .u64 (bits .and .u64 a3 b3)]) (by simp [results, Tryz.results123, go_sem]) rfl ⟨rfl, by repeat (first | exact Below.refl _ _ | refine Below.drew ?_ | refine Below.setCell ?_ (by simp; try omega) _ | refine Below.alloc ?_ (by simp; try omega) _)⟩
theorem and_any (a b : Nat) (w : World) : Calls Tryz.prog 123 #[.agg #[.int .u64 (wd (Nat.testBit a) 0 : Nat), .int .u64 (wd (Nat.testBit a) 1 : Nat), .int .u64 (wd (Nat.testBit a) 2 : Nat), .int .u64 (wd (Nat.testBit a) 3 : Nat)], .agg #[.int .u64 (wd (Nat.testBit b) 0 : Nat), .int .u64 (wd (Nat.testBit b) 1 : Nat), .int .u64 (wd (Nat.testBit b) 2 : Nat), .int .u64 (wd (Nat.testBit b) 3 : Nat)]] w fun e w' => e = .returned (.agg #[.int .u64 (wd (Nat.testBit (a &&& b)) 0 : Nat), .int .u64 (wd (Nat.testBit (a &&& b)) 1 : Nat), .int .u64 (wd (Nat.testBit (a &&& b)) 2 : Nat), .int .u64 (wd (Nat.testBit (a &&& b)) 3 : Nat)]) ∧ Below w.heap.size w w' := by
 have h := and_words (wd (Nat.testBit a) 0 : Nat) (wd (Nat.testBit a) 1 : Nat) (wd (Nat.testBit a) 2 : Nat) (wd (Nat.testBit a) 3 : Nat) (wd (Nat.testBit b) 0 : Nat) (wd (Nat.testBit b) 1 : Nat) (wd (Nat.testBit b) 2 : Nat) (wd (Nat.testBit b) 3 : Nat) w
 rw [wd_andN, wd_andN, wd_andN, wd_andN] at h
 exact h
theorem wo_words (a0 a1 a2 a3 b0 b1 b2 b3 : Int) (w : World) : Calls Tryz.prog 95 #[.agg #[.int .u64 a0, .int .u64 a1, .int .u64 a2, .int .u64 a3], .agg #[.int .u64 b0, .int .u64 b1, .int .u64 b2, .int .u64 b3]] w fun e w' => e = .returned (.agg #[.int .u64 (bits .andNot .u64 a0 b0), .int .u64 (bits .andNot .u64 a1 b1), .int .u64 (bits .andNot .u64 a2 b2), .int .u64 (bits .andNot .u64 a3 b3)]) ∧ Below w.heap.size w w' := by
 have i0 : ∀ w : World, (Instr.index 157 (.agg #[.int .u64 b0, .int .u64 b1, .int .u64 b2, .int .u64 b3]) (.int .i64 0)).run Tryz.prog w = .ok (.int .u64 b0) w := fun _ => by kernel_rfl
 have i1 : ∀ w : World, (Instr.index 157 (.agg #[.int .u64 b0, .int .u64 b1, .int .u64 b2, .int .u64 b3]) (.int .i64 1)).run Tryz.prog w = .ok (.int .u64 b1) w := fun _ => by kernel_rfl
 have i2 : ∀ w : World, (Instr.index 157 (.agg #[.int .u64 b0, .int .u64 b1, .int .u64 b2, .int .u64 b3]) (.int .i64 2)).run Tryz.prog w = .ok (.int .u64 b2) w := fun _ => by kernel_rfl
 have i3 : ∀ w : World, (Instr.index 157 (.agg #[.int .u64 b0, .int .u64 b1, .int .u64 b2, .int .u64 b3]) (.int .i64 3)).run Tryz.prog w = .ok (.int .u64 b3) w := fun _ => by kernel_rfl
 go_enter Tryz.func95, Tryz.ntmps95
 go_wp2
 go_rounds 5
 exact bodyPost_ret (v := .agg #[.int .u64 (bits .andNot .u64 a0 b0), .int .u64 (bits .andNot .u64 a1 b1), .int .u64 (bits .andNot .u64 a2 b2), .int .u64 (bits .andNot .u64 a3 b3)]) (by simp [results, Tryz.results95, go_sem]) rfl ⟨rfl, by repeat (first | exact Below.refl _ _ | refine Below.drew ?_ | refine Below.setCell ?_ (by simp; try omega) _ | refine Below.alloc ?_ (by simp; try omega) _)⟩
theorem wo_any (a b : Nat) (w : World) : Calls Tryz.prog 95 #[.agg #[.int .u64 (wd (Nat.testBit a) 0 : Nat), .int .u64 (wd (Nat.testBit a) 1 : Nat), .int .u64 (wd (Nat.testBit a) 2 : Nat), .int .u64 (wd (Nat.testBit a) 3 : Nat)], .agg #[.int .u64 (wd (Nat.testBit b) 0 : Nat), .int .u64 (wd (Nat.testBit b) 1 : Nat), .int .u64 (wd (Nat.testBit b) 2 : Nat), .int .u64 (wd (Nat.testBit b) 3 : Nat)]] w fun e w' => e = .returned (.agg #[.int .u64 (wd (Nat.testBit (wo a b)) 0 : Nat), .int .u64 (wd (Nat.testBit (wo a b)) 1 : Nat), .int .u64 (wd (Nat.testBit (wo a b)) 2 : Nat), .int .u64 (wd (Nat.testBit (wo a b)) 3 : Nat)]) ∧ Below w.heap.size w w' := by
 have h := wo_words (wd (Nat.testBit a) 0 : Nat) (wd (Nat.testBit a) 1 : Nat) (wd (Nat.testBit a) 2 : Nat) (wd (Nat.testBit a) 3 : Nat) (wd (Nat.testBit b) 0 : Nat) (wd (Nat.testBit b) 1 : Nat) (wd (Nat.testBit b) 2 : Nat) (wd (Nat.testBit b) 3 : Nat) w
 rw [wd_woN, wd_woN, wd_woN, wd_woN] at h
 exact h
end Go.Proofs.YtbekghinikjjeaaGreatDoor.smt
namespace Go.Proofs.YtbekghinikjjeaaGreatDoor.smt
open Go.RowKit Go.Proofs.YtbekghinikjjeaaGreatDoor.br
theorem info_u64 : ∃ i, Tryz.prog.info? 93 = some i := by
 have h : (Tryz.prog.info? 93).isSome = true := by kernel_rfl
 exact Option.isSome_iff_exists.1 h
theorem cells_u64 : Tryz.prog.cellsOf 93 = 1 := by kernel_rfl
theorem eql_words (a0 a1 a2 a3 b0 b1 b2 b3 : Int) (w : World) : (binOp .eql 157 (.agg #[.int .u64 a0, .int .u64 a1, .int .u64 a2, .int .u64 a3]) (.agg #[.int .u64 b0, .int .u64 b1, .int .u64 b2, .int .u64 b3])).run Tryz.prog w = .ok (.bool ((a0 == b0) && (a1 == b1) && (a2 == b2) && (a3 == b3))) w := by
 obtain ⟨i, hi⟩ := info_u64
 rw [run_eql_struct, run_equalIn_array w 9999 _ _ Tryz.underlying157 hi, cells_u64]
 simp [Op.eqItems, List.range_succ, go_sem]
 by_cases h0 : a0 = b0 <;> by_cases h1 : a1 = b1 <;> by_cases h2 : a2 = b2 <;> by_cases h3 : a3 = b3 <;> simp [h0, h1, h2, h3]
theorem beq0 (a : Nat) : Nat.beq a 0 = true ↔ a = 0 := ⟨fun h => Nat.eq_of_beq_eq_true h, fun h => by rw [h]; rfl⟩
theorem eql_none {a : Nat} (ha : a < 2 ^ 256) (w : World) : (binOp .eql 157 (.agg #[.int .u64 (wd (Nat.testBit a) 0 : Nat), .int .u64 (wd (Nat.testBit a) 1 : Nat), .int .u64 (wd (Nat.testBit a) 2 : Nat), .int .u64 (wd (Nat.testBit a) 3 : Nat)]) (.agg #[.int .u64 0, .int .u64 0, .int .u64 0, .int .u64 0])).run Tryz.prog w = .ok (.bool (Nat.beq a 0)) w := by
 rw [eql_words]
 congr 2
 rw [Bool.eq_iff_iff, beq0, ← none_iff ha]
 simp only [Bool.and_eq_true, beq_iff_eq]
 omega
theorem none_any {a : Nat} (ha : a < 2 ^ 256) (w : World) : Calls Tryz.prog 68 #[.agg #[.int .u64 (wd (Nat.testBit a) 0 : Nat), .int .u64 (wd (Nat.testBit a) 1 : Nat), .int .u64 (wd (Nat.testBit a) 2 : Nat), .int .u64 (wd (Nat.testBit a) 3 : Nat)]] w fun e w' => e = .returned (.bool (Nat.beq a 0)) ∧ Below w.heap.size w w' := by
 have hq := eql_none ha
 go_enter Tryz.func68, Tryz.ntmps68
 go_wp2
 go_ret
 exact ⟨rfl, (Below.refl _ _).alloc (Nat.le_refl _) _⟩
theorem meets_words (a0 a1 a2 a3 b0 b1 b2 b3 x0 x1 x2 x3 : Int) (h0 : bits .and .u64 a0 b0 = x0) (h1 : bits .and .u64 a1 b1 = x1) (h2 : bits .and .u64 a2 b2 = x2) (h3 : bits .and .u64 a3 b3 = x3) (w : World) : Calls Tryz.prog 70 #[.agg #[.int .u64 a0, .int .u64 a1, .int .u64 a2, .int .u64 a3], .agg #[.int .u64 b0, .int .u64 b1, .int .u64 b2, .int .u64 b3]] w fun e w' => e = .returned (.bool ((x0 != 0) || ((x1 != 0) || ((x2 != 0) || (x3 != 0))))) ∧ Below w.heap.size w w' := by
 have i0 : ∀ w : World, (Instr.index 157 (.agg #[.int .u64 b0, .int .u64 b1, .int .u64 b2, .int .u64 b3]) (.int .i64 0)).run Tryz.prog w = .ok (.int .u64 b0) w := fun _ => by kernel_rfl
 have i1 : ∀ w : World, (Instr.index 157 (.agg #[.int .u64 b0, .int .u64 b1, .int .u64 b2, .int .u64 b3]) (.int .i64 1)).run Tryz.prog w = .ok (.int .u64 b1) w := fun _ => by kernel_rfl
 have i2 : ∀ w : World, (Instr.index 157 (.agg #[.int .u64 b0, .int .u64 b1, .int .u64 b2, .int .u64 b3]) (.int .i64 2)).run Tryz.prog w = .ok (.int .u64 b2) w := fun _ => by kernel_rfl
 have i3 : ∀ w : World, (Instr.index 157 (.agg #[.int .u64 b0, .int .u64 b1, .int .u64 b2, .int .u64 b3]) (.int .i64 3)).run Tryz.prog w = .ok (.int .u64 b3) w := fun _ => by kernel_rfl
 have hB : ∀ o1 o2, Below w.heap.size w ((w.alloc o1).alloc o2) := fun o1 o2 => ((Below.refl _ _).alloc (Nat.le_refl _) _).alloc (by simp) _
 cases c0 : (x0 != 0) with
 | true =>
  go_enter Tryz.func70, Tryz.ntmps70
  go_wp2
  refine wp_loop_rounds 1 ?_
  rw [rounds_succ]; go_wp2
  go_ret; exact ⟨rfl, hB _ _⟩
 | false =>
 cases c1 : (x1 != 0) with
 | true =>
  go_enter Tryz.func70, Tryz.ntmps70
  go_wp2
  refine wp_loop_rounds 2 ?_
  rw [rounds_succ]; go_wp2
  rw [rounds_succ]; go_wp2
  go_ret; exact ⟨rfl, hB _ _⟩
 | false =>
 cases c2 : (x2 != 0) with
 | true =>
  go_enter Tryz.func70, Tryz.ntmps70
  go_wp2
  refine wp_loop_rounds 3 ?_
  rw [rounds_succ]; go_wp2
  rw [rounds_succ]; go_wp2
  rw [rounds_succ]; go_wp2
  go_ret; exact ⟨rfl, hB _ _⟩
 | false =>
 cases c3 : (x3 != 0) with
 | true =>
  go_enter Tryz.func70, Tryz.ntmps70
  go_wp2
  refine wp_loop_rounds 4 ?_
  rw [rounds_succ]; go_wp2
  rw [rounds_succ]; go_wp2
  rw [rounds_succ]; go_wp2
  rw [rounds_succ]; go_wp2
  go_ret; exact ⟨rfl, hB _ _⟩
 | false =>
  go_enter Tryz.func70, Tryz.ntmps70
  go_wp2
  refine wp_loop_rounds 5 ?_
  rw [rounds_succ]; go_wp2
  rw [rounds_succ]; go_wp2
  rw [rounds_succ]; go_wp2
  rw [rounds_succ]; go_wp2
  rw [rounds_succ]; go_wp2
  go_ret; exact ⟨rfl, hB _ _⟩
theorem meets_any {a b : Nat} (ha : a < 2 ^ 256) (w : World) : Calls Tryz.prog 70 #[.agg #[.int .u64 (wd (Nat.testBit a) 0 : Nat), .int .u64 (wd (Nat.testBit a) 1 : Nat), .int .u64 (wd (Nat.testBit a) 2 : Nat), .int .u64 (wd (Nat.testBit a) 3 : Nat)], .agg #[.int .u64 (wd (Nat.testBit b) 0 : Nat), .int .u64 (wd (Nat.testBit b) 1 : Nat), .int .u64 (wd (Nat.testBit b) 2 : Nat), .int .u64 (wd (Nat.testBit b) 3 : Nat)]] w fun e w' => e = .returned (.bool (!Nat.beq (a &&& b) 0)) ∧ Below w.heap.size w w' := by
 have h := meets_words _ _ _ _ _ _ _ _ _ _ _ _ (wd_andN a b 0) (wd_andN a b 1) (wd_andN a b 2) (wd_andN a b 3) w
 have e : (!Nat.beq (a &&& b) 0) = (((wd (Nat.testBit (a &&& b)) 0 : Nat) : Int) != 0 || (((wd (Nat.testBit (a &&& b)) 1 : Nat) : Int) != 0 || (((wd (Nat.testBit (a &&& b)) 2 : Nat) : Int) != 0 || ((wd (Nat.testBit (a &&& b)) 3 : Nat) : Int) != 0))) := by
  rw [Bool.eq_iff_iff]
  simp only [Bool.not_eq_true', ← Bool.not_eq_true, beq0, ← none_iff (Nat.lt_of_le_of_lt (Nat.and_le_left (m := b)) ha), Bool.or_eq_true, bne_iff_ne]
  omega
 rw [e]
 exact h
theorem add_any {b o n k : Nat} (hk : k < 256) (w : World) (c : w.cell? ⟨b, o + k / 64, none⟩ = some (.int .u64 (wd (Nat.testBit n) (k / 64) : Nat))) (f : w.frozen? ⟨b, o + k / 64, none⟩ = false) : Calls Tryz.prog 61 #[.pointer (some ⟨b, o, none⟩), .int .i64 (k : Nat)] w fun e w' => (∃ v, e = .returned v) ∧ ∃ m, w' = ((w.drewN m).setCell ⟨b, o + k / 64, none⟩ (.int .u64 (wd (Nat.testBit (n ||| 1 <<< k)) (k / 64) : Nat))) := by
 have e : wd (Nat.testBit (n ||| 1 <<< k)) (k / 64) = wd (Nat.testBit n) (k / 64) ||| 2 ^ (k % 64) := by rw [← add_bits, xc5 _ _ _ rfl]
 have hm := xma (wd (Nat.testBit n) (k / 64)) (xea _ _) (k : Int) (by omega)
 rw [Int.toNat_natCast, ← e, show ((k : Int) % 64).toNat = k % 64 by omega] at hm
 obtain ⟨q, hq⟩ : ∃ q, k / 64 = q := ⟨_, rfl⟩
 rw [hq] at c f hm ⊢
 have q1 : (k : Int) / 64 = (q : Int) := by omega
 have q2 : (q : Int) < 4 := by omega
 have q3 : (0 : Int) ≤ (q : Int) := by omega
 have r1 : (0 : Int) ≤ (k : Int) % 64 := by omega
 clear e hq
 go_enter Tryz.func61, Tryz.ntmps61
 go_wp2
 go_region
 go_end0
 exact ⟨⟨_, rfl⟩, 1, rfl⟩
end Go.Proofs.YtbekghinikjjeaaGreatDoor.smt
namespace Go.Proofs.YtbekghinikjjeaaGreatDoor.smt
open Go.RowKit Go.Proofs.YtbekghinikjjeaaGreatDoor.br
theorem shlN (x r : Nat) : IntKind.u64.wrap ((x : Int) * 2 ^ r) = ((x * 2 ^ r % 18446744073709551616 : Nat) : Int) := by
 rw [IntKind.wrap_u64]
 have : (x : Int) * 2 ^ r = ((x * 2 ^ r : Nat) : Int) := by simp
 rw [this]; omega
theorem shrN (x r : Nat) : (x : Int) / 2 ^ r = ((x / 2 ^ r : Nat) : Int) := by simp
theorem up_w1 (n q r i : Nat) (hr : r < 64) (hi : i = q) (h4 : i < 4) : IntKind.u64.wrap ((wd (Nat.testBit n) (i - q) : Nat) * 2 ^ r) = (wd (Nat.testBit (up n (64 * q + r))) i : Nat) := by rw [shlN, up_one n q r i hr hi h4]
theorem up_w2 (n q r i : Nat) (hr : r < 64) (hi : q < i) (h4 : i < 4) : bits .or .u64 (IntKind.u64.wrap ((wd (Nat.testBit n) (i - q) : Nat) * 2 ^ r)) ((wd (Nat.testBit n) (i - q - 1) : Nat) / 2 ^ (64 - r)) = (wd (Nat.testBit (up n (64 * q + r))) i : Nat) := by
 rw [shlN, shrN, u64_or_nat _ _ (Nat.mod_lt _ (by omega)) (Nat.lt_of_le_of_lt (Nat.div_le_self _ _) (xea _ _)), up_two n q r i hr hi h4]
theorem dn_w2 (n q r i : Nat) (hr : r < 64) : bits .or .u64 ((wd (Nat.testBit n) (i + q) : Nat) / 2 ^ r) (IntKind.u64.wrap ((wd (Nat.testBit n) (i + q + 1) : Nat) * 2 ^ (64 - r))) = (wd (Nat.testBit (n >>> (64 * q + r))) i : Nat) := by
 rw [shlN, shrN, u64_or_nat _ _ (Nat.lt_of_le_of_lt (Nat.div_le_self _ _) (xea _ _)) (Nat.mod_lt _ (by omega)), dn_two n q r i hr]
theorem dn_w1 (n q r i : Nat) (hn : n < 2 ^ 256) (hi : i + q = 3) : ((wd (Nat.testBit n) (i + q) : Nat) : Int) / 2 ^ r = (wd (Nat.testBit (n >>> (64 * q + r))) i : Nat) := by rw [shrN, dn_one n q r i hn hi]
theorem up0 (n r : Nat) (hr : r < 64) (w : World) : Calls Tryz.prog 89 #[.agg #[.int .u64 (wd (Nat.testBit n) 0 : Nat), .int .u64 (wd (Nat.testBit n) 1 : Nat), .int .u64 (wd (Nat.testBit n) 2 : Nat), .int .u64 (wd (Nat.testBit n) 3 : Nat)], .int .i64 ((64 * 0 + r : Nat) : Int)] w fun e w' => e = .returned (.agg #[.int .u64 (wd (Nat.testBit (up n (64 * 0 + r))) 0 : Nat), .int .u64 (wd (Nat.testBit (up n (64 * 0 + r))) 1 : Nat), .int .u64 (wd (Nat.testBit (up n (64 * 0 + r))) 2 : Nat), .int .u64 (wd (Nat.testBit (up n (64 * 0 + r))) 3 : Nat)]) ∧ Below w.heap.size w w' := by
 rw [← up_w1 n 0 r 0 hr rfl (by omega), ← up_w2 n 0 r 1 hr (by omega) (by omega), ← up_w2 n 0 r 2 hr (by omega) (by omega), ← up_w2 n 0 r 3 hr (by omega) (by omega)]
 obtain ⟨k, hk⟩ : ∃ k : Nat, 64 * 0 + r = k := ⟨_, rfl⟩
 rw [hk]
 have e1 : (k : Int) / 64 = 0 := by omega
 have e2 : (k : Int) % 64 = (r : Int) := by omega
 have e3 : IntKind.i64.wrap (64 - (r : Int)) = 64 - (r : Int) := by rw [IntKind.wrap_i64]; omega
 have e4 : (0 : Int) ≤ 64 - (r : Int) := by omega
 clear hk
 go_enter Tryz.func89, Tryz.ntmps89
 go_wp2
 refine wp_loop_rounds 5 ?_
 rw [rounds_succ]; go_wp2
 rw [rounds_succ]; go_wp2; go_region; go_wp2
 rw [rounds_succ]; go_wp2; go_region; go_wp2
 rw [rounds_succ]; go_wp2; go_region; go_wp2
 rw [rounds_succ]; go_wp2
 exact bodyPost_ret (v := .agg #[.int .u64 (IntKind.u64.wrap ((wd (Nat.testBit n) 0 : Nat) * 2 ^ r)), .int .u64 (bits .or .u64 (IntKind.u64.wrap ((wd (Nat.testBit n) 1 : Nat) * 2 ^ r)) ((wd (Nat.testBit n) 0 : Nat) / 2 ^ (64 - r))), .int .u64 (bits .or .u64 (IntKind.u64.wrap ((wd (Nat.testBit n) 2 : Nat) * 2 ^ r)) ((wd (Nat.testBit n) 1 : Nat) / 2 ^ (64 - r))), .int .u64 (bits .or .u64 (IntKind.u64.wrap ((wd (Nat.testBit n) 3 : Nat) * 2 ^ r)) ((wd (Nat.testBit n) 2 : Nat) / 2 ^ (64 - r)))]) (by simp [results, Tryz.results89, go_sem]) rfl ⟨rfl, by repeat (first | exact Below.refl _ _ | refine Below.drew ?_ | refine Below.setCell ?_ (by simp; try omega) _ | refine Below.alloc ?_ (by simp; try omega) _)⟩
theorem up1 (n r : Nat) (hr : r < 64) (w : World) : Calls Tryz.prog 89 #[.agg #[.int .u64 (wd (Nat.testBit n) 0 : Nat), .int .u64 (wd (Nat.testBit n) 1 : Nat), .int .u64 (wd (Nat.testBit n) 2 : Nat), .int .u64 (wd (Nat.testBit n) 3 : Nat)], .int .i64 ((64 * 1 + r : Nat) : Int)] w fun e w' => e = .returned (.agg #[.int .u64 (wd (Nat.testBit (up n (64 * 1 + r))) 0 : Nat), .int .u64 (wd (Nat.testBit (up n (64 * 1 + r))) 1 : Nat), .int .u64 (wd (Nat.testBit (up n (64 * 1 + r))) 2 : Nat), .int .u64 (wd (Nat.testBit (up n (64 * 1 + r))) 3 : Nat)]) ∧ Below w.heap.size w w' := by
 rw [up_low n (64 * 1 + r) 0 (by omega), ← up_w1 n 1 r 1 hr rfl (by omega), ← up_w2 n 1 r 2 hr (by omega) (by omega), ← up_w2 n 1 r 3 hr (by omega) (by omega)]
 obtain ⟨k, hk⟩ : ∃ k : Nat, 64 * 1 + r = k := ⟨_, rfl⟩
 rw [hk]
 have e1 : (k : Int) / 64 = 1 := by omega
 have e2 : (k : Int) % 64 = (r : Int) := by omega
 have e3 : IntKind.i64.wrap (64 - (r : Int)) = 64 - (r : Int) := by rw [IntKind.wrap_i64]; omega
 have e4 : (0 : Int) ≤ 64 - (r : Int) := by omega
 clear hk
 go_enter Tryz.func89, Tryz.ntmps89
 go_wp2
 refine wp_loop_rounds 4 ?_
 rw [rounds_succ]; go_wp2
 rw [rounds_succ]; go_wp2; go_region; go_wp2
 rw [rounds_succ]; go_wp2; go_region; go_wp2
 rw [rounds_succ]; go_wp2
 exact bodyPost_ret (v := .agg #[.int .u64 0, .int .u64 (IntKind.u64.wrap ((wd (Nat.testBit n) 0 : Nat) * 2 ^ r)), .int .u64 (bits .or .u64 (IntKind.u64.wrap ((wd (Nat.testBit n) 1 : Nat) * 2 ^ r)) ((wd (Nat.testBit n) 0 : Nat) / 2 ^ (64 - r))), .int .u64 (bits .or .u64 (IntKind.u64.wrap ((wd (Nat.testBit n) 2 : Nat) * 2 ^ r)) ((wd (Nat.testBit n) 1 : Nat) / 2 ^ (64 - r)))]) (by simp [results, Tryz.results89, go_sem]) rfl ⟨rfl, by repeat (first | exact Below.refl _ _ | refine Below.drew ?_ | refine Below.setCell ?_ (by simp; try omega) _ | refine Below.alloc ?_ (by simp; try omega) _)⟩
theorem up2 (n r : Nat) (hr : r < 64) (w : World) : Calls Tryz.prog 89 #[.agg #[.int .u64 (wd (Nat.testBit n) 0 : Nat), .int .u64 (wd (Nat.testBit n) 1 : Nat), .int .u64 (wd (Nat.testBit n) 2 : Nat), .int .u64 (wd (Nat.testBit n) 3 : Nat)], .int .i64 ((64 * 2 + r : Nat) : Int)] w fun e w' => e = .returned (.agg #[.int .u64 (wd (Nat.testBit (up n (64 * 2 + r))) 0 : Nat), .int .u64 (wd (Nat.testBit (up n (64 * 2 + r))) 1 : Nat), .int .u64 (wd (Nat.testBit (up n (64 * 2 + r))) 2 : Nat), .int .u64 (wd (Nat.testBit (up n (64 * 2 + r))) 3 : Nat)]) ∧ Below w.heap.size w w' := by
 rw [up_low n (64 * 2 + r) 0 (by omega), up_low n (64 * 2 + r) 1 (by omega), ← up_w1 n 2 r 2 hr rfl (by omega), ← up_w2 n 2 r 3 hr (by omega) (by omega)]
 obtain ⟨k, hk⟩ : ∃ k : Nat, 64 * 2 + r = k := ⟨_, rfl⟩
 rw [hk]
 have e1 : (k : Int) / 64 = 2 := by omega
 have e2 : (k : Int) % 64 = (r : Int) := by omega
 have e3 : IntKind.i64.wrap (64 - (r : Int)) = 64 - (r : Int) := by rw [IntKind.wrap_i64]; omega
 have e4 : (0 : Int) ≤ 64 - (r : Int) := by omega
 clear hk
 go_enter Tryz.func89, Tryz.ntmps89
 go_wp2
 refine wp_loop_rounds 3 ?_
 rw [rounds_succ]; go_wp2
 rw [rounds_succ]; go_wp2; go_region; go_wp2
 rw [rounds_succ]; go_wp2
 exact bodyPost_ret (v := .agg #[.int .u64 0, .int .u64 0, .int .u64 (IntKind.u64.wrap ((wd (Nat.testBit n) 0 : Nat) * 2 ^ r)), .int .u64 (bits .or .u64 (IntKind.u64.wrap ((wd (Nat.testBit n) 1 : Nat) * 2 ^ r)) ((wd (Nat.testBit n) 0 : Nat) / 2 ^ (64 - r)))]) (by simp [results, Tryz.results89, go_sem]) rfl ⟨rfl, by repeat (first | exact Below.refl _ _ | refine Below.drew ?_ | refine Below.setCell ?_ (by simp; try omega) _ | refine Below.alloc ?_ (by simp; try omega) _)⟩
theorem up3 (n r : Nat) (hr : r < 64) (w : World) : Calls Tryz.prog 89 #[.agg #[.int .u64 (wd (Nat.testBit n) 0 : Nat), .int .u64 (wd (Nat.testBit n) 1 : Nat), .int .u64 (wd (Nat.testBit n) 2 : Nat), .int .u64 (wd (Nat.testBit n) 3 : Nat)], .int .i64 ((64 * 3 + r : Nat) : Int)] w fun e w' => e = .returned (.agg #[.int .u64 (wd (Nat.testBit (up n (64 * 3 + r))) 0 : Nat), .int .u64 (wd (Nat.testBit (up n (64 * 3 + r))) 1 : Nat), .int .u64 (wd (Nat.testBit (up n (64 * 3 + r))) 2 : Nat), .int .u64 (wd (Nat.testBit (up n (64 * 3 + r))) 3 : Nat)]) ∧ Below w.heap.size w w' := by
 rw [up_low n (64 * 3 + r) 0 (by omega), up_low n (64 * 3 + r) 1 (by omega), up_low n (64 * 3 + r) 2 (by omega), ← up_w1 n 3 r 3 hr rfl (by omega)]
 obtain ⟨k, hk⟩ : ∃ k : Nat, 64 * 3 + r = k := ⟨_, rfl⟩
 rw [hk]
 have e1 : (k : Int) / 64 = 3 := by omega
 have e2 : (k : Int) % 64 = (r : Int) := by omega
 have e3 : IntKind.i64.wrap (64 - (r : Int)) = 64 - (r : Int) := by rw [IntKind.wrap_i64]; omega
 have e4 : (0 : Int) ≤ 64 - (r : Int) := by omega
 clear hk
 go_enter Tryz.func89, Tryz.ntmps89
 go_wp2
 refine wp_loop_rounds 2 ?_
 rw [rounds_succ]; go_wp2
 rw [rounds_succ]; go_wp2
 exact bodyPost_ret (v := .agg #[.int .u64 0, .int .u64 0, .int .u64 0, .int .u64 (IntKind.u64.wrap ((wd (Nat.testBit n) 0 : Nat) * 2 ^ r))]) (by simp [results, Tryz.results89, go_sem]) rfl ⟨rfl, by repeat (first | exact Below.refl _ _ | refine Below.drew ?_ | refine Below.setCell ?_ (by simp; try omega) _ | refine Below.alloc ?_ (by simp; try omega) _)⟩
theorem down0 (n r : Nat) (hn : n < 2 ^ 256) (hr : r < 64) (w : World) : Calls Tryz.prog 125 #[.agg #[.int .u64 (wd (Nat.testBit n) 0 : Nat), .int .u64 (wd (Nat.testBit n) 1 : Nat), .int .u64 (wd (Nat.testBit n) 2 : Nat), .int .u64 (wd (Nat.testBit n) 3 : Nat)], .int .i64 ((64 * 0 + r : Nat) : Int)] w fun e w' => e = .returned (.agg #[.int .u64 (wd (Nat.testBit (n >>> (64 * 0 + r))) 0 : Nat), .int .u64 (wd (Nat.testBit (n >>> (64 * 0 + r))) 1 : Nat), .int .u64 (wd (Nat.testBit (n >>> (64 * 0 + r))) 2 : Nat), .int .u64 (wd (Nat.testBit (n >>> (64 * 0 + r))) 3 : Nat)]) ∧ Below w.heap.size w w' := by
 rw [← dn_w2 n 0 r 0 hr, ← dn_w2 n 0 r 1 hr, ← dn_w2 n 0 r 2 hr, ← dn_w1 n 0 r 3 hn rfl]
 obtain ⟨k, hk⟩ : ∃ k : Nat, 64 * 0 + r = k := ⟨_, rfl⟩
 rw [hk]
 have e1 : (k : Int) / 64 = 0 := by omega
 have e2 : (k : Int) % 64 = (r : Int) := by omega
 have e3 : IntKind.i64.wrap (64 - (r : Int)) = 64 - (r : Int) := by rw [IntKind.wrap_i64]; omega
 have e4 : (0 : Int) ≤ 64 - (r : Int) := by omega
 clear hk hn
 go_enter Tryz.func125, Tryz.ntmps125
 go_wp2
 refine wp_loop_rounds 5 ?_
 rw [rounds_succ]; go_wp2; go_region; go_wp2
 rw [rounds_succ]; go_wp2; go_region; go_wp2
 rw [rounds_succ]; go_wp2; go_region; go_wp2
 rw [rounds_succ]; go_wp2
 rw [rounds_succ]; go_wp2
 exact bodyPost_ret (v := .agg #[.int .u64 (bits .or .u64 ((wd (Nat.testBit n) 0 : Nat) / 2 ^ r) (IntKind.u64.wrap ((wd (Nat.testBit n) 1 : Nat) * 2 ^ (64 - r)))), .int .u64 (bits .or .u64 ((wd (Nat.testBit n) 1 : Nat) / 2 ^ r) (IntKind.u64.wrap ((wd (Nat.testBit n) 2 : Nat) * 2 ^ (64 - r)))), .int .u64 (bits .or .u64 ((wd (Nat.testBit n) 2 : Nat) / 2 ^ r) (IntKind.u64.wrap ((wd (Nat.testBit n) 3 : Nat) * 2 ^ (64 - r)))), .int .u64 ((wd (Nat.testBit n) 3 : Nat) / 2 ^ r)]) (by simp [results, Tryz.results125, go_sem]) rfl ⟨rfl, by repeat (first | exact Below.refl _ _ | refine Below.drew ?_ | refine Below.setCell ?_ (by simp; try omega) _ | refine Below.alloc ?_ (by simp; try omega) _)⟩
theorem down1 (n r : Nat) (hn : n < 2 ^ 256) (hr : r < 64) (w : World) : Calls Tryz.prog 125 #[.agg #[.int .u64 (wd (Nat.testBit n) 0 : Nat), .int .u64 (wd (Nat.testBit n) 1 : Nat), .int .u64 (wd (Nat.testBit n) 2 : Nat), .int .u64 (wd (Nat.testBit n) 3 : Nat)], .int .i64 ((64 * 1 + r : Nat) : Int)] w fun e w' => e = .returned (.agg #[.int .u64 (wd (Nat.testBit (n >>> (64 * 1 + r))) 0 : Nat), .int .u64 (wd (Nat.testBit (n >>> (64 * 1 + r))) 1 : Nat), .int .u64 (wd (Nat.testBit (n >>> (64 * 1 + r))) 2 : Nat), .int .u64 (wd (Nat.testBit (n >>> (64 * 1 + r))) 3 : Nat)]) ∧ Below w.heap.size w w' := by
 rw [← dn_w2 n 1 r 0 hr, ← dn_w2 n 1 r 1 hr, ← dn_w1 n 1 r 2 hn rfl, dn_high n (64 * 1 + r) 3 hn (by omega)]
 obtain ⟨k, hk⟩ : ∃ k : Nat, 64 * 1 + r = k := ⟨_, rfl⟩
 rw [hk]
 have e1 : (k : Int) / 64 = 1 := by omega
 have e2 : (k : Int) % 64 = (r : Int) := by omega
 have e3 : IntKind.i64.wrap (64 - (r : Int)) = 64 - (r : Int) := by rw [IntKind.wrap_i64]; omega
 have e4 : (0 : Int) ≤ 64 - (r : Int) := by omega
 clear hk hn
 go_enter Tryz.func125, Tryz.ntmps125
 go_wp2
 refine wp_loop_rounds 4 ?_
 rw [rounds_succ]; go_wp2; go_region; go_wp2
 rw [rounds_succ]; go_wp2; go_region; go_wp2
 rw [rounds_succ]; go_wp2
 rw [rounds_succ]; go_wp2
 exact bodyPost_ret (v := .agg #[.int .u64 (bits .or .u64 ((wd (Nat.testBit n) 1 : Nat) / 2 ^ r) (IntKind.u64.wrap ((wd (Nat.testBit n) 2 : Nat) * 2 ^ (64 - r)))), .int .u64 (bits .or .u64 ((wd (Nat.testBit n) 2 : Nat) / 2 ^ r) (IntKind.u64.wrap ((wd (Nat.testBit n) 3 : Nat) * 2 ^ (64 - r)))), .int .u64 ((wd (Nat.testBit n) 3 : Nat) / 2 ^ r), .int .u64 0]) (by simp [results, Tryz.results125, go_sem]) rfl ⟨rfl, by repeat (first | exact Below.refl _ _ | refine Below.drew ?_ | refine Below.setCell ?_ (by simp; try omega) _ | refine Below.alloc ?_ (by simp; try omega) _)⟩
theorem down2 (n r : Nat) (hn : n < 2 ^ 256) (hr : r < 64) (w : World) : Calls Tryz.prog 125 #[.agg #[.int .u64 (wd (Nat.testBit n) 0 : Nat), .int .u64 (wd (Nat.testBit n) 1 : Nat), .int .u64 (wd (Nat.testBit n) 2 : Nat), .int .u64 (wd (Nat.testBit n) 3 : Nat)], .int .i64 ((64 * 2 + r : Nat) : Int)] w fun e w' => e = .returned (.agg #[.int .u64 (wd (Nat.testBit (n >>> (64 * 2 + r))) 0 : Nat), .int .u64 (wd (Nat.testBit (n >>> (64 * 2 + r))) 1 : Nat), .int .u64 (wd (Nat.testBit (n >>> (64 * 2 + r))) 2 : Nat), .int .u64 (wd (Nat.testBit (n >>> (64 * 2 + r))) 3 : Nat)]) ∧ Below w.heap.size w w' := by
 rw [← dn_w2 n 2 r 0 hr, ← dn_w1 n 2 r 1 hn rfl, dn_high n (64 * 2 + r) 2 hn (by omega), dn_high n (64 * 2 + r) 3 hn (by omega)]
 obtain ⟨k, hk⟩ : ∃ k : Nat, 64 * 2 + r = k := ⟨_, rfl⟩
 rw [hk]
 have e1 : (k : Int) / 64 = 2 := by omega
 have e2 : (k : Int) % 64 = (r : Int) := by omega
 have e3 : IntKind.i64.wrap (64 - (r : Int)) = 64 - (r : Int) := by rw [IntKind.wrap_i64]; omega
 have e4 : (0 : Int) ≤ 64 - (r : Int) := by omega
 clear hk hn
 go_enter Tryz.func125, Tryz.ntmps125
 go_wp2
 refine wp_loop_rounds 3 ?_
 rw [rounds_succ]; go_wp2; go_region; go_wp2
 rw [rounds_succ]; go_wp2
 rw [rounds_succ]; go_wp2
 exact bodyPost_ret (v := .agg #[.int .u64 (bits .or .u64 ((wd (Nat.testBit n) 2 : Nat) / 2 ^ r) (IntKind.u64.wrap ((wd (Nat.testBit n) 3 : Nat) * 2 ^ (64 - r)))), .int .u64 ((wd (Nat.testBit n) 3 : Nat) / 2 ^ r), .int .u64 0, .int .u64 0]) (by simp [results, Tryz.results125, go_sem]) rfl ⟨rfl, by repeat (first | exact Below.refl _ _ | refine Below.drew ?_ | refine Below.setCell ?_ (by simp; try omega) _ | refine Below.alloc ?_ (by simp; try omega) _)⟩
theorem down3 (n r : Nat) (hn : n < 2 ^ 256) (hr : r < 64) (w : World) : Calls Tryz.prog 125 #[.agg #[.int .u64 (wd (Nat.testBit n) 0 : Nat), .int .u64 (wd (Nat.testBit n) 1 : Nat), .int .u64 (wd (Nat.testBit n) 2 : Nat), .int .u64 (wd (Nat.testBit n) 3 : Nat)], .int .i64 ((64 * 3 + r : Nat) : Int)] w fun e w' => e = .returned (.agg #[.int .u64 (wd (Nat.testBit (n >>> (64 * 3 + r))) 0 : Nat), .int .u64 (wd (Nat.testBit (n >>> (64 * 3 + r))) 1 : Nat), .int .u64 (wd (Nat.testBit (n >>> (64 * 3 + r))) 2 : Nat), .int .u64 (wd (Nat.testBit (n >>> (64 * 3 + r))) 3 : Nat)]) ∧ Below w.heap.size w w' := by
 rw [← dn_w1 n 3 r 0 hn rfl, dn_high n (64 * 3 + r) 1 hn (by omega), dn_high n (64 * 3 + r) 2 hn (by omega), dn_high n (64 * 3 + r) 3 hn (by omega)]
 obtain ⟨k, hk⟩ : ∃ k : Nat, 64 * 3 + r = k := ⟨_, rfl⟩
 rw [hk]
 have e1 : (k : Int) / 64 = 3 := by omega
 have e2 : (k : Int) % 64 = (r : Int) := by omega
 have e3 : IntKind.i64.wrap (64 - (r : Int)) = 64 - (r : Int) := by rw [IntKind.wrap_i64]; omega
 have e4 : (0 : Int) ≤ 64 - (r : Int) := by omega
 clear hk hn
 go_enter Tryz.func125, Tryz.ntmps125
 go_wp2
 refine wp_loop_rounds 2 ?_
 rw [rounds_succ]; go_wp2
 rw [rounds_succ]; go_wp2
 exact bodyPost_ret (v := .agg #[.int .u64 ((wd (Nat.testBit n) 3 : Nat) / 2 ^ r), .int .u64 0, .int .u64 0, .int .u64 0]) (by simp [results, Tryz.results125, go_sem]) rfl ⟨rfl, by repeat (first | exact Below.refl _ _ | refine Below.drew ?_ | refine Below.setCell ?_ (by simp; try omega) _ | refine Below.alloc ?_ (by simp; try omega) _)⟩
theorem up4 (n k : Nat) (h : 256 ≤ k) (hk : k < 1000000) (w : World) : Calls Tryz.prog 89 #[.agg #[.int .u64 (wd (Nat.testBit n) 0 : Nat), .int .u64 (wd (Nat.testBit n) 1 : Nat), .int .u64 (wd (Nat.testBit n) 2 : Nat), .int .u64 (wd (Nat.testBit n) 3 : Nat)], .int .i64 (k : Nat)] w fun e w' => e = .returned (.agg #[.int .u64 (wd (Nat.testBit (up n k)) 0 : Nat), .int .u64 (wd (Nat.testBit (up n k)) 1 : Nat), .int .u64 (wd (Nat.testBit (up n k)) 2 : Nat), .int .u64 (wd (Nat.testBit (up n k)) 3 : Nat)]) ∧ Below w.heap.size w w' := by
 rw [up_low n k 0 (by omega), up_low n k 1 (by omega), up_low n k 2 (by omega), up_low n k 3 (by omega)]
 obtain ⟨q, hq⟩ : ∃ q : Nat, k / 64 = q := ⟨_, rfl⟩
 have e1 : (k : Int) / 64 = (q : Int) := by omega
 have e5 : ((q : Int) < 4) = False := by rw [eq_iff_iff, iff_false]; omega
 clear hq
 go_enter Tryz.func89, Tryz.ntmps89
 go_wp2
 refine wp_loop_rounds 1 ?_
 rw [rounds_succ]; go_wp2
 exact bodyPost_ret (v := .agg #[.int .u64 ((0 : Nat) : Int), .int .u64 ((0 : Nat) : Int), .int .u64 ((0 : Nat) : Int), .int .u64 ((0 : Nat) : Int)]) (by simp [results, Tryz.results89, go_sem]) rfl ⟨rfl, by repeat (first | exact Below.refl _ _ | refine Below.drew ?_ | refine Below.setCell ?_ (by simp; try omega) _ | refine Below.alloc ?_ (by simp; try omega) _)⟩
theorem up_any (n k : Nat) (hk : k < 1000000) (w : World) : Calls Tryz.prog 89 #[.agg #[.int .u64 (wd (Nat.testBit n) 0 : Nat), .int .u64 (wd (Nat.testBit n) 1 : Nat), .int .u64 (wd (Nat.testBit n) 2 : Nat), .int .u64 (wd (Nat.testBit n) 3 : Nat)], .int .i64 (k : Nat)] w fun e w' => e = .returned (.agg #[.int .u64 (wd (Nat.testBit (up n k)) 0 : Nat), .int .u64 (wd (Nat.testBit (up n k)) 1 : Nat), .int .u64 (wd (Nat.testBit (up n k)) 2 : Nat), .int .u64 (wd (Nat.testBit (up n k)) 3 : Nat)]) ∧ Below w.heap.size w w' := by
 by_cases h : 256 ≤ k
 · exact up4 n k h hk w
 · have hq : k / 64 = 0 ∨ k / 64 = 1 ∨ k / 64 = 2 ∨ k / 64 = 3 := by omega
   rcases hq with hq | hq | hq | hq
   · have t := up0 n (k % 64) (by omega) w
     rwa [show 64 * 0 + k % 64 = k by omega] at t
   · have t := up1 n (k % 64) (by omega) w
     rwa [show 64 * 1 + k % 64 = k by omega] at t
   · have t := up2 n (k % 64) (by omega) w
     rwa [show 64 * 2 + k % 64 = k by omega] at t
   · have t := up3 n (k % 64) (by omega) w
     rwa [show 64 * 3 + k % 64 = k by omega] at t
theorem down4 (n k : Nat) (hn : n < 2 ^ 256) (h : 256 ≤ k) (hk : k < 1000000) (w : World) : Calls Tryz.prog 125 #[.agg #[.int .u64 (wd (Nat.testBit n) 0 : Nat), .int .u64 (wd (Nat.testBit n) 1 : Nat), .int .u64 (wd (Nat.testBit n) 2 : Nat), .int .u64 (wd (Nat.testBit n) 3 : Nat)], .int .i64 (k : Nat)] w fun e w' => e = .returned (.agg #[.int .u64 (wd (Nat.testBit (n >>> k)) 0 : Nat), .int .u64 (wd (Nat.testBit (n >>> k)) 1 : Nat), .int .u64 (wd (Nat.testBit (n >>> k)) 2 : Nat), .int .u64 (wd (Nat.testBit (n >>> k)) 3 : Nat)]) ∧ Below w.heap.size w w' := by
 rw [dn_high n k 0 hn (by omega), dn_high n k 1 hn (by omega), dn_high n k 2 hn (by omega), dn_high n k 3 hn (by omega)]
 obtain ⟨q, hq⟩ : ∃ q : Nat, k / 64 = q := ⟨_, rfl⟩
 have e1 : (k : Int) / 64 = (q : Int) := by omega
 have e5 : ((q : Int) < 4) = False := by rw [eq_iff_iff, iff_false]; omega
 clear hq
 go_enter Tryz.func125, Tryz.ntmps125
 go_wp2
 refine wp_loop_rounds 1 ?_
 rw [rounds_succ]; go_wp2
 exact bodyPost_ret (v := .agg #[.int .u64 ((0 : Nat) : Int), .int .u64 ((0 : Nat) : Int), .int .u64 ((0 : Nat) : Int), .int .u64 ((0 : Nat) : Int)]) (by simp [results, Tryz.results125, go_sem]) rfl ⟨rfl, by repeat (first | exact Below.refl _ _ | refine Below.drew ?_ | refine Below.setCell ?_ (by simp; try omega) _ | refine Below.alloc ?_ (by simp; try omega) _)⟩
theorem down_any (n k : Nat) (hn : n < 2 ^ 256) (hk : k < 1000000) (w : World) : Calls Tryz.prog 125 #[.agg #[.int .u64 (wd (Nat.testBit n) 0 : Nat), .int .u64 (wd (Nat.testBit n) 1 : Nat), .int .u64 (wd (Nat.testBit n) 2 : Nat), .int .u64 (wd (Nat.testBit n) 3 : Nat)], .int .i64 (k : Nat)] w fun e w' => e = .returned (.agg #[.int .u64 (wd (Nat.testBit (n >>> k)) 0 : Nat), .int .u64 (wd (Nat.testBit (n >>> k)) 1 : Nat), .int .u64 (wd (Nat.testBit (n >>> k)) 2 : Nat), .int .u64 (wd (Nat.testBit (n >>> k)) 3 : Nat)]) ∧ Below w.heap.size w w' := by
 by_cases h : 256 ≤ k
 · exact down4 n k hn h hk w
 · have hq : k / 64 = 0 ∨ k / 64 = 1 ∨ k / 64 = 2 ∨ k / 64 = 3 := by omega
   rcases hq with hq | hq | hq | hq
   · have t := down0 n (k % 64) hn (by omega) w
     rwa [show 64 * 0 + k % 64 = k by omega] at t
   · have t := down1 n (k % 64) hn (by omega) w
     rwa [show 64 * 1 + k % 64 = k by omega] at t
   · have t := down2 n (k % 64) hn (by omega) w
     rwa [show 64 * 2 + k % 64 = k by omega] at t
   · have t := down3 n (k % 64) hn (by omega) w
     rwa [show 64 * 3 + k % 64 = k by omega] at t
end Go.Proofs.YtbekghinikjjeaaGreatDoor.smt
