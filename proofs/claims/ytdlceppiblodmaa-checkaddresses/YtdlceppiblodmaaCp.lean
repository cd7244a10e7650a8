/- check: the document's in, addresses, Label. -/
import Derived.Test.YtdlceppiblodmaaCk
import Derived.Deep.MidRow
namespace Go.Proofs.Ytdlceppiblodmaa
open Go.RowKit
open chkP

set_option maxRecDepth 100000 in
set_option maxHeartbeats 1000000 in
theorem in_any (b : UInt8) (s : ByteArray) (hs : s.size ≤ 1000) (w : World) : Calls Try.prog 16 #[.int .u8 (b.toNat : Nat), .string s] w fun e w' => e = .returned (.bool (s.data.toList.contains b)) ∧ w' = w := by
  obtain ⟨R, hR⟩ : ∃ R, R = s.data.toList.contains b := ⟨_, rfl⟩
  rw [← hR]
  have HR := hideT hR
  clear hR
  go_enter Try.func16, Try.ntmps16
  go_wp2_with fail
  go_loopw [5] (fun v wr => ∃ k : Nat, k ≤ s.size ∧ v = .int .i64 (k : Nat) ∧ Hid (b ∉ s.data.toList.take k) ∧ wr = w) (fun v _ => s.size - (intOf v).toNat)
  case atStart => exact ⟨0, Nat.zero_le _, rfl, hideT (by simp), rfl⟩
  case round =>
    obtain ⟨k, hk, rfl, HJ, rfl⟩ := hrel
    by_cases hlt : k < s.size
    · have i1 : (k : Int) < (s.size : Int) := by omega
      have i2 : (0 : Int) ≤ (k : Int) := by omega
      have htk : s.data.toList.take (k + 1) = s.data.toList.take k ++ [s[k]'hlt] := List.take_succ_eq_append_getElem hlt
      have HTK := hideT htk
      have HM := hideT (show s[k]'hlt ∈ s.data.toList from List.getElem_mem hlt)
      clear htk
      by_cases hx : s[k]'hlt = b
      · have x1 : (((s[k]'hlt).toNat : Int) == (b.toNat : Int)) = true := by rw [hx]; exact beq_self_eq_true _
        have HF := hideT (show R = true by rw [HR.out, List.contains_iff_mem, ← hx]; exact HM.out)
        clear hx
        go_wp2
        go_ret
        exact ⟨by rw [HF.out]; rfl, rfl⟩
      · have x1 : (((s[k]'hlt).toNat : Int) == (b.toNat : Int)) = false := by
          rw [beq_eq_false_iff_ne]
          intro e
          exact hx (UInt8.toNat_inj.1 (by omega))
        have HJ2 := hideT (show b ∉ s.data.toList.take (k + 1) by
          rw [HTK.out, List.mem_append, List.mem_singleton]
          rintro (h | h)
          · exact HJ.out h
          · exact hx h.symm)
        clear hx
        go_wp2
        exact ⟨⟨k + 1, by omega, by go_num, HJ2, by simp⟩, by simp [intOf]; omega⟩
    · obtain rfl : k = s.size := by omega
      have i1 : ((s.size : Int) < (s.size : Int)) = False := by rw [eq_iff_iff, iff_false]; omega
      have HF := hideT (show R = false by
        rw [HR.out, Bool.eq_false_iff, ne_eq, List.contains_iff_mem]
        have := HJ.out
        rwa [List.take_of_length_le (show s.data.toList.length ≤ s.size from Nat.le_refl _)] at this)
      go_wp2
      go_ret
      exact ⟨by rw [HF.out]; rfl, rfl⟩

set_option maxRecDepth 100000 in
set_option maxHeartbeats 2000000 in
theorem addresses_any (c : Cm) (r : Rst) (w : World) : Calls Try.prog 13 #[.agg (cmV c r).toArray] w fun e w' => e = .returned (.int .i64 (adrR c : Nat)) ∧ Below w.heap.size w w' := by
  have H1 := hideT (fun w => in_any c.nm ⟨#[58, 125]⟩ (by decide) w)
  have H2 := hideT (fun w => in_any c.nm ⟨#[97, 105, 114, 113, 61]⟩ (by decide) w)
  have H3 := hideT (fun w => in_any c.nm ⟨#[123, 98, 99, 100, 68, 103, 71, 104, 72, 108, 110, 78, 112, 80, 115, 116, 119, 120, 121]⟩ (by decide) w)
  obtain ⟨R, hR⟩ : ∃ R, R = adrR c := ⟨_, rfl⟩
  rw [← hR]
  have HR := hideT hR
  clear hR
  unfold cmV
  have HB := hideT ((Below.refl w.heap.size w).alloc (Nat.le_refl _) (.cells #[.int .i64 c.pl, .int .i64 c.ak, .int .i64 r.al, .string r.ar, .int .i64 c.bk, .int .i64 r.bl, .string r.br, .bool c.nt, .int .u8 (c.nm.toNat : Nat), .string ⟨c.lb.toArray⟩, .string r.tx, .string r.fl, .string r.re, .slice r.pa r.pn r.pc, .int .i64 r.nh, .bool r.an, .bool r.pr, .string r.fr, .string r.to] 27))
  obtain ⟨b1, hb1⟩ : ∃ b, b = ([58, 125] : List UInt8).contains c.nm := ⟨_, rfl⟩
  obtain ⟨b2, hb2⟩ : ∃ b, b = ([97, 105, 114, 113, 61] : List UInt8).contains c.nm := ⟨_, rfl⟩
  obtain ⟨b3, hb3⟩ : ∃ b, b = ([123, 98, 99, 100, 68, 103, 71, 104, 72, 108, 110, 78, 112, 80, 115, 116, 119, 120, 121] : List UInt8).contains c.nm := ⟨_, rfl⟩
  have HA := hideT (show R = if b1 then (if c.ak ≠ 0 ∨ c.bk ≠ 0 ∨ c.nt = true then 17 else 0) else if b2 then (if c.bk ≠ 0 then 17 else 0) else if b3 then (if c.bk ≠ 0 ∧ c.ak = 0 then 17 else 0) else 18 by rw [HR.out, hb1, hb2, hb3]; rfl)
  have H1' : Hid (∀ w, Calls Try.prog 16 #[.int .u8 (c.nm.toNat : Nat), .string ⟨#[58, 125]⟩] w fun e w' => e = .returned (.bool b1) ∧ w' = w) := hideT (fun w => by rw [hb1]; exact H1.out w)
  have H2' : Hid (∀ w, Calls Try.prog 16 #[.int .u8 (c.nm.toNat : Nat), .string ⟨#[97, 105, 114, 113, 61]⟩] w fun e w' => e = .returned (.bool b2) ∧ w' = w) := hideT (fun w => by rw [hb2]; exact H2.out w)
  have H3' : Hid (∀ w, Calls Try.prog 16 #[.int .u8 (c.nm.toNat : Nat), .string ⟨#[123, 98, 99, 100, 68, 103, 71, 104, 72, 108, 110, 78, 112, 80, 115, 116, 119, 120, 121]⟩] w fun e w' => e = .returned (.bool b3) ∧ w' = w) := hideT (fun w => by rw [hb3]; exact H3.out w)
  clear hb1 hb2 hb3 H1 H2 H3
  go_enter Try.func13, Try.ntmps13
  go_wp2_with fail
  refine (H1'.out _).mono ?_
  rintro e w1 ⟨rfl, rfl⟩
  cases b1 with
  | true =>
    by_cases hk : c.ak = 0
    · by_cases hl : c.bk = 0
      · cases hn : c.nt with
        | true =>
          have HV := hideT (show R = 17 by rw [HA.out]; simp [hn])
          have a1 : (c.ak != 0) = false := by rw [hk]; rfl
          have a2 : (c.bk != 0) = false := by rw [hl]; rfl
          clear hk hl
          go_wp2
          go_ret
          exact ⟨by rw [HV.out]; rfl, by have h := HB.out; rw [hn] at h; exact h⟩
        | false =>
          have HV := hideT (show R = 0 by rw [HA.out]; simp [hn, hk, hl])
          have a1 : (c.ak != 0) = false := by rw [hk]; rfl
          have a2 : (c.bk != 0) = false := by rw [hl]; rfl
          clear hk hl
          go_wp2
          go_ret
          exact ⟨by rw [HV.out]; rfl, by have h := HB.out; rw [hn] at h; exact h⟩
      · have HV := hideT (show R = 17 by rw [HA.out]; simp [hl])
        have a1 : (c.ak != 0) = false := by rw [hk]; rfl
        have a2 : (c.bk != 0) = true := by rw [bne_iff_ne]; exact hl
        clear hk hl
        go_wp2
        go_ret
        exact ⟨by rw [HV.out]; rfl, HB.out⟩
    · have HV := hideT (show R = 17 by rw [HA.out]; simp [hk])
      have a1 : (c.ak != 0) = true := by rw [bne_iff_ne]; exact hk
      clear hk
      go_wp2
      go_ret
      exact ⟨by rw [HV.out]; rfl, HB.out⟩
  | false =>
    go_wp2_with fail
    refine (H2'.out _).mono ?_
    rintro e w2 ⟨rfl, rfl⟩
    cases b2 with
    | true =>
      by_cases hl : c.bk = 0
      · have HV := hideT (show R = 0 by rw [HA.out]; simp [hl])
        have a2 : (c.bk != 0) = false := by rw [hl]; rfl
        clear hl
        go_wp2
        go_ret
        exact ⟨by rw [HV.out]; rfl, HB.out⟩
      · have HV := hideT (show R = 17 by rw [HA.out]; simp [hl])
        have a2 : (c.bk != 0) = true := by rw [bne_iff_ne]; exact hl
        clear hl
        go_wp2
        go_ret
        exact ⟨by rw [HV.out]; rfl, HB.out⟩
    | false =>
      go_wp2_with fail
      refine (H3'.out _).mono ?_
      rintro e w3 ⟨rfl, rfl⟩
      cases b3 with
      | true =>
        by_cases hl : c.bk = 0
        · have HV := hideT (show R = 0 by rw [HA.out]; simp [hl])
          have a2 : (c.bk != 0) = false := by rw [hl]; rfl
          clear hl
          go_wp2
          go_ret
          exact ⟨by rw [HV.out]; rfl, HB.out⟩
        · have a2 : (c.bk != 0) = true := by rw [bne_iff_ne]; exact hl
          by_cases hk : c.ak = 0
          · have HV := hideT (show R = 17 by rw [HA.out]; simp [hl, hk])
            have a1 : (c.ak != 0) = false := by rw [hk]; rfl
            clear hk hl
            go_wp2
            go_ret
            exact ⟨by rw [HV.out]; rfl, HB.out⟩
          · have HV := hideT (show R = 0 by rw [HA.out]; simp [hk])
            have a1 : (c.ak != 0) = true := by rw [bne_iff_ne]; exact hk
            clear hk hl
            go_wp2
            go_ret
            exact ⟨by rw [HV.out]; rfl, HB.out⟩
      | false =>
        have HV := hideT (show R = 18 by rw [HA.out]; rfl)
        go_wp2
        go_ret
        exact ⟨by rw [HV.out]; rfl, HB.out⟩
/-- Where the first : with a label stands; -1: nowhere. -/
def labI (s : List UInt8) : List Cm → Nat → Int
  | [], _ => -1
  | c :: r, k => if c.nm = 58 ∧ c.lb = s then (k : Int) else labI s r (k + 1)
theorem lab_sign (s : List UInt8) : ∀ (l : List Cm) (k : Nat), (0 ≤ labI s l k) ↔ labB l s = true
  | [], k => by simp [labI, labB]
  | c :: r, k => by
    unfold labI
    have ih := lab_sign s r (k + 1)
    unfold labB at ih ⊢
    rw [List.any_cons]
    by_cases h : c.nm = 58 ∧ c.lb = s
    · rw [if_pos h]
      simp [h.1, h.2]
    · rw [if_neg h, ih]
      have h2 : (c.nm == 58 && c.lb == s) = false := by
        rw [Bool.and_eq_false_iff, beq_eq_false_iff_ne, beq_eq_false_iff_ne]
        by_cases h3 : c.nm = 58
        · exact .inr (fun e => h ⟨h3, e⟩)
        · exact .inl h3
      rw [h2, Bool.false_or]

set_option maxRecDepth 100000 in
set_option maxHeartbeats 2000000 in
theorem docLabel_any {W : World} {v : Value} {l : List Cm} (h : CRow W v l) (n : Nat) (hn : n ≤ l.length) (hl : l.length ≤ 1000000000) (s : List UInt8) : Calls Try.prog 14 #[v, .int .i64 (n : Nat), .string ⟨s.toArray⟩] W fun e w' => e = .returned (.int .i64 (labI s (l.take n) 0)) ∧ Below W.heap.size W w' := by
  obtain ⟨a, c, rfl, hc⟩ := h
  have HC := hideT hc
  clear hc
  obtain ⟨R, hR⟩ : ∃ R, R = labI s (l.take n) 0 := ⟨_, rfl⟩
  rw [← hR]
  have HR := hideT hR
  clear hR
  go_enter Try.func14, Try.ntmps14
  go_wp2_with fail
  go_loopw [7] (fun v wr => ∃ k : Nat, k ≤ n ∧ v = .int .i64 (k : Nat) ∧ Hid (labI s ((l.take n).drop k) k = R) ∧ Below W.heap.size W wr) (fun v _ => n - (intOf v).toNat)
  case atStart => exact ⟨0, Nat.zero_le _, rfl, hideT (by rw [HR.out]; rfl), Below.refl _ _⟩
  case round =>
    obtain ⟨k, hk, rfl, HJ, hbw⟩ := hrel
    have HB := hideT hbw
    clear hbw
    by_cases hlt : k < n
    · have i1 : (k : Int) < (n : Int) := by omega
      have i2 : (0 : Int) ≤ (k : Int) := by omega
      have i3 : (k : Int) < (l.length : Int) := by omega
      have hkx : l[k]? = some (l[k]'(by omega)) := List.getElem?_eq_getElem (by omega)
      obtain ⟨g, o, rfl, hcl, _⟩ := HC.out k _ hkx
      have hst : labI s ((l.take n).drop k) k = if (l[k]'(by omega)).nm = 58 ∧ (l[k]'(by omega)).lb = s then (k : Int) else labI s ((l.take n).drop (k + 1)) (k + 1) := by
        rw [List.drop_eq_getElem_cons (by rw [List.length_take]; omega), List.getElem_take]
        rfl
      generalize (l[k]'(by omega)) = x at *
      have cn := keep_cell HB.out hcl.c8
      have cb := keep_cell HB.out hcl.c9
      have HST := hideT hst
      clear hst hcl hkx
      by_cases hx : x.nm = 58
      · have x1 : ((x.nm.toNat : Int) == 58) = true := by rw [hx]; rfl
        by_cases hy : x.lb = s
        · have y1 : (x.lb == s) = true := by rw [hy]; exact beq_self_eq_true _
          have y2 : (x.lb = s) = True := by rw [hy]; exact eq_self _
          have HF := hideT (show R = (k : Int) by rw [← HJ.out, HST.out, if_pos ⟨hx, hy⟩])
          clear hx hy
          go_wp2
          go_ret
          exact ⟨by rw [HF.out]; rfl, HB.out⟩
        · have y1 : (x.lb == s) = false := by rw [beq_eq_false_iff_ne]; exact hy
          have y2 : (x.lb = s) = False := by rw [eq_iff_iff, iff_false]; exact hy
          have HF := hideT (show labI s ((l.take n).drop (k + 1)) (k + 1) = R by rw [← HJ.out, HST.out, if_neg (fun h => hy h.2)])
          clear hx hy
          go_wp2
          exact ⟨⟨k + 1, by omega, by go_num, HF, HB.out⟩, by simp [intOf]; omega⟩
      · have x1 : ((x.nm.toNat : Int) == 58) = false := by
          rw [beq_eq_false_iff_ne]
          intro e
          exact hx (UInt8.toNat_inj.1 (by show _ = 58; omega))
        have HF := hideT (show labI s ((l.take n).drop (k + 1)) (k + 1) = R by rw [← HJ.out, HST.out, if_neg (fun h => hx h.1)])
        clear hx
        go_wp2
        exact ⟨⟨k + 1, by omega, by go_num, HF, HB.out⟩, by simp [intOf]; omega⟩
    · obtain rfl : k = n := by omega
      have i1 : ((k : Int) < (k : Int)) = False := by rw [eq_iff_iff, iff_false]; omega
      have HF := hideT (show R = -1 by
        rw [← HJ.out, List.drop_of_length_le (by rw [List.length_take]; omega)]
        rfl)
      go_wp2
      go_ret
      exact ⟨by rw [HF.out]; rfl, HB.out⟩
end Go.Proofs.Ytdlceppiblodmaa
