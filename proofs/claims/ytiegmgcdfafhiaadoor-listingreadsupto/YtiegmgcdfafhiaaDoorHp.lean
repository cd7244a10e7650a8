/- listing: the document's letter and octal. -/
import Derived.Test.YtiegmgcdfafhiaaDoorHc
import Derived.OpenShut
namespace Go.Proofs.YtiegmgcdfafhiaaDoor
open Go.RowKit

/-- The byte of a backslash and a letter; -1: none. -/
def letR (y : UInt8) : Int := if letN y < 7 then ((7 + letN y : Nat) : Int) else if y.toNat = 92 then 92 else -1
theorem let_hit (y : UInt8) (j : Nat) (hj : j < 7) (h : j ≤ letN y) : (([97, 98, 116, 110, 118, 102, 114] : List UInt8).getD j 0).toNat = y.toNat ↔ letN y = j := by
  have h1 : ∀ n : Fin 256, ∀ j : Fin 7, j.val ≤ letN (UInt8.ofNat n.val) → ((([97, 98, 116, 110, 118, 102, 114] : List UInt8).getD j.val 0).toNat = (UInt8.ofNat n.val).toNat ↔ letN (UInt8.ofNat n.val) = j.val) := by decide +kernel
  exact all_bytes (p := fun y => ∀ j : Fin 7, j.val ≤ letN y → ((([97, 98, 116, 110, 118, 102, 114] : List UInt8).getD j.val 0).toNat = y.toNat ↔ letN y = j.val)) h1 y ⟨j, hj⟩ h

theorem at_one (d : UInt8) (h : 1 < (bst [92, d]).size) : (bst [92, d])[1]'h = d := rfl

set_option maxRecDepth 100000 in
set_option maxHeartbeats 2000000 in
theorem letter_any (y : UInt8) (w : World) : Calls Tryd.prog 29 #[.int .u8 (y.toNat : Nat)] w fun e w' => e = .returned (.int .i64 (letR y)) ∧ Below w.heap.size w w' := by
  have hyl := y.toNat_lt
  go_enter Tryd.func29, Tryd.ntmps29
  go_wp2_with fail
  go_loopw [3] (fun i wr => ∃ k : Nat, 7 ≤ k ∧ k ≤ 14 ∧ i = .int .i64 k ∧ k - 7 ≤ letN y ∧ Below w.heap.size w wr) (fun i _ => 14 - (intOf i).toNat)
  case atStart => exact ⟨7, by omega, by omega, rfl, by omega, Below.refl _ _⟩
  case round =>
    obtain ⟨k, hk1, hk2, rfl, hl, hB⟩ := hrel
    have HB := hideT hB
    clear hB
    by_cases hlt : k ≤ 13
    · have i1 : (k : Int) ≤ 13 := by omega
      have i2 : IntKind.u8.wrap (k : Int) = (k : Int) := by rw [IntKind.wrap_u8]; omega
      have hk3 : (UInt8.ofNat k).toNat = k := by rw [UInt8.toNat_ofNat', Nat.mod_eq_of_lt (by omega)]
      have he := docEscape_any (UInt8.ofNat k) wr
      rw [esc_let _ (by rw [hk3]; omega), hk3] at he
      have hhit := let_hit y (k - 7) (by omega) hl
      obtain ⟨d, hd⟩ : ∃ d, d = ([97, 98, 116, 110, 118, 102, 114] : List UInt8).getD (k - 7) 0 := ⟨_, rfl⟩
      rw [← hd] at he hhit
      have hes : (bst [92, d]).size = 2 := rfl
      have h1 : 1 < (bst [92, d]).size := by rw [hes]; omega
      have hat := at_one d h1
      have HE := hideT he
      have j1 : (1 : Int) < ((bst [92, d]).size : Int) := by omega
      clear he hd hes hk3
      generalize bst [92, d] = es at *
      by_cases hq : d.toNat = y.toNat
      · have e1 : ((d.toNat : Int) == (y.toNat : Int)) = true := by rw [beq_iff_eq]; omega
        have HR := hideT (show letR y = (k : Int) by unfold letR; rw [if_pos (by have := hhit.1 hq; omega)]; have := hhit.1 hq; omega)
        clear hhit hq
        go_wp2_with fail
        refine HE.out.mono ?_
        rintro e w1 ⟨rfl, hb1⟩
        have HB2 := hideT (HB.out.trans (hb1.mono HB.out.size))
        clear hb1
        go_wp2
        go_ret
        exact ⟨by rw [HR.out]; rfl, HB2.out⟩
      · have e1 : ((d.toNat : Int) == (y.toNat : Int)) = false := by rw [beq_eq_false_iff_ne]; omega
        have HR := hideT (show k + 1 - 7 ≤ letN y by
          have : letN y ≠ k - 7 := fun e => hq (hhit.2 e)
          omega)
        clear hhit hq hl
        go_wp2_with fail
        refine HE.out.mono ?_
        rintro e w1 ⟨rfl, hb1⟩
        have HB2 := hideT (HB.out.trans (hb1.mono HB.out.size))
        clear hb1
        go_wp2
        exact ⟨⟨k + 1, by omega, by omega, by go_num, HR.out, HB2.out⟩, by simp [intOf]; omega⟩
    · have i1 : ((k : Int) ≤ 13) = False := by rw [eq_iff_iff, iff_false]; omega
      by_cases h92 : y.toNat = 92
      · have e1 : ((y.toNat : Int) == 92) = true := by rw [beq_iff_eq]; omega
        have HR := hideT (show letR y = 92 by unfold letR; rw [if_neg (by omega), if_pos h92])
        clear h92
        go_wp2
        go_ret
        exact ⟨by rw [HR.out]; rfl, HB.out⟩
      · have e1 : ((y.toNat : Int) == 92) = false := by rw [beq_eq_false_iff_ne]; omega
        have HR := hideT (show letR y = -1 by unfold letR; rw [if_neg (by omega), if_neg h92])
        go_wp2
        go_ret
        exact ⟨by rw [HR.out]; rfl, HB.out⟩

/-- The number of octal digits; -1: they are none. -/
def ocV : List UInt8 → Nat → Nat
  | [], n => n
  | c :: r, n => ocV r (8 * n + (c.toNat - 48))
theorem ocV_snoc (l : List UInt8) (c : UInt8) (n : Nat) : ocV (l ++ [c]) n = 8 * ocV l n + (c.toNat - 48) := by
  induction l generalizing n with
  | nil => rfl
  | cons x r ih => simp only [List.cons_append, ocV]; exact ih _
def ocOk (l : List UInt8) : Prop := ∀ c ∈ l, 48 ≤ c.toNat ∧ c.toNat ≤ 55
theorem ocOk_snoc {l : List UInt8} {c : UInt8} : ocOk (l ++ [c]) ↔ ocOk l ∧ 48 ≤ c.toNat ∧ c.toNat ≤ 55 := by
  unfold ocOk
  constructor
  · exact fun h => ⟨fun x hx => h x (by simp [hx]), h c (by simp)⟩
  · rintro ⟨h1, h2⟩ x hx
    rw [List.mem_append, List.mem_singleton] at hx
    rcases hx with hx | rfl
    · exact h1 x hx
    · exact h2
theorem oct_of {a b c : UInt8} (h : ocOk [a, b, c]) : octN a b c = if ocV [a, b, c] 0 ≤ 255 then some (ocV [a, b, c] 0) else none := by
  have h1 := h a (by simp)
  have h2 := h b (by simp)
  have h3 := h c (by simp)
  unfold octN
  rw [if_pos ⟨h1.1, h1.2, h2.1, h2.2, h3.1, h3.2⟩]
  have e : 64 * (a.toNat - 48) + 8 * (b.toNat - 48) + (c.toNat - 48) = ocV [a, b, c] 0 := by simp only [ocV]; omega
  dsimp only
  rw [e]
theorem oct_none {a b c : UInt8} (h : ¬ ocOk [a, b, c]) : octN a b c = none := by
  unfold octN
  rw [if_neg ?_]
  intro h2
  refine h (fun x hx => ?_)
  simp only [List.mem_cons, List.not_mem_nil, or_false] at hx
  rcases hx with rfl | rfl | rfl
  · exact ⟨h2.1, h2.2.1⟩
  · exact ⟨h2.2.2.1, h2.2.2.2.1⟩
  · exact ⟨h2.2.2.2.2.1, h2.2.2.2.2.2⟩

set_option maxRecDepth 100000 in
set_option maxHeartbeats 2000000 in
theorem octal_any (s : ByteArray) (hs : s.size = 3) (w : World) : Calls Tryd.prog 30 #[.string s] w fun e w' => (∃ r : Int, e = .returned (.int .i64 r) ∧ ((ocOk s.data.toList ∧ r = (ocV s.data.toList 0 : Nat) ∧ r ≤ 511) ∨ (¬ ocOk s.data.toList ∧ r = -1))) ∧ Below w.heap.size w w' := by
  have hlen : s.data.toList.length = s.size := rfl
  have HS := hideT hs
  have hs3 : s.size ≤ 3 := by omega
  have hs4 : 3 ≤ s.size := by omega
  clear hs
  go_enter Tryd.func30, Tryd.ntmps30
  go_wp2_with fail
  go_loopw [3, 4] (fun nv i wr => ∃ k n : Nat, k ≤ 3 ∧ i = .int .i64 k ∧ nv = .int .i64 (n : Nat) ∧ n = ocV (s.data.toList.take k) 0 ∧ n < 8 ^ k ∧ ocOk (s.data.toList.take k) ∧ Below w.heap.size w wr) (fun _ i _ => 3 - (intOf i).toNat)
  case atStart => exact ⟨0, 0, by omega, rfl, rfl, rfl, by simp, by simp [ocOk], Below.refl _ _⟩
  case round =>
    obtain ⟨k, n, hk, rfl, rfl, hn, hb, hok, hB⟩ := hrel
    by_cases hlt : k < 3
    · have hlt2 : k < s.size := by omega
      have i1 : (k : Int) < 3 := by omega
      have i2 : (0 : Int) ≤ (k : Int) := by omega
      have i3 : (k : Int) < (s.size : Int) := by omega
      have hcl := (s[k]'hlt2).toNat_lt
      have htk := take_snocB s k hlt2
      have hb2 : n < 64 := by
        have : k = 0 ∨ k = 1 ∨ k = 2 := by omega
        rcases this with rfl | rfl | rfl <;> simp at hb <;> omega
      have hpw : 8 ^ (k + 1) = 8 * 8 ^ k := by rw [Nat.pow_succ]; omega
      by_cases h1 : (s[k]'hlt2).toNat < 48
      · have j1 : ((s[k]'hlt2).toNat : Int) < 48 := by omega
        have HR := hideT (show ¬ ocOk s.data.toList from fun h => by
          have := h (s[k]'hlt2) (by rw [← List.take_append_drop (k + 1) s.data.toList, htk]; simp)
          omega)
        have HB := hideT hB
        clear hn hb hok hB htk hpw
        go_wp2
        go_ret
        exact ⟨⟨-1, rfl, .inr ⟨HR.out, rfl⟩⟩, HB.out⟩
      · have j1 : decide (((s[k]'hlt2).toNat : Int) < 48) = false := decide_eq_false (by omega)
        by_cases h2 : 55 < (s[k]'hlt2).toNat
        · have j2 : (55 : Int) < ((s[k]'hlt2).toNat : Int) := by omega
          have HR := hideT (show ¬ ocOk s.data.toList from fun h => by
            have := h (s[k]'hlt2) (by rw [← List.take_append_drop (k + 1) s.data.toList, htk]; simp)
            omega)
          have HB := hideT hB
          clear hn hb hok hB htk hpw
          go_wp2
          go_ret
          exact ⟨⟨-1, rfl, .inr ⟨HR.out, rfl⟩⟩, HB.out⟩
        · have j2 : decide ((55 : Int) < ((s[k]'hlt2).toNat : Int)) = false := decide_eq_false (by omega)
          have j3 : IntKind.u8.wrap (((s[k]'hlt2).toNat : Int) - 48) = (((s[k]'hlt2).toNat - 48 : Nat) : Int) := by rw [IntKind.wrap_u8]; omega
          have HR := hideT (And.intro (show 8 * n + ((s[k]'hlt2).toNat - 48) = ocV (s.data.toList.take (k + 1)) 0 by rw [htk, ocV_snoc, ← hn]) (And.intro (show 8 * n + ((s[k]'hlt2).toNat - 48) < 8 ^ (k + 1) by omega) (show ocOk (s.data.toList.take (k + 1)) by rw [htk]; exact ocOk_snoc.2 ⟨hok, by omega, by omega⟩)))
          have HB := hideT hB
          have j4 : (n : Int) < 64 := by omega
          have j5 : (((s[k]'hlt2).toNat - 48 : Nat) : Int) ≤ 7 := by omega
          clear hn hb hok hB htk hpw
          go_wp2
          exact ⟨⟨k + 1, 8 * n + ((s[k]'hlt2).toNat - 48), by omega, by go_num, by rw [Value.int.injEq]; exact ⟨rfl, by omega⟩, HR.out.1, HR.out.2.1, HR.out.2.2, HB.out⟩, by simp [intOf]; omega⟩
    · obtain rfl : k = 3 := by omega
      have i1 : (((3 : Nat) : Int) < 3) = False := by simp
      rw [List.take_of_length_le (by rw [hlen]; omega)] at hn hok
      have HR := hideT (And.intro hn (And.intro hb hok))
      have HB := hideT hB
      clear hn hb hok hB
      go_wp2
      go_ret
      exact ⟨⟨(n : Int), rfl, .inl ⟨HR.out.2.2, by rw [← HR.out.1], by have := HR.out.2.1; omega⟩⟩, HB.out⟩

end Go.Proofs.YtiegmgcdfafhiaaDoor
