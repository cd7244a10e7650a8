/- BsetStops returns true at every set and number: Members left early has told the least ones, ranged over again it tells all, and of all of them the set is made. No condition. -/
import Derived.Test.YtfmgpcefghoncabTells
namespace Go.Proofs.Ytfmgpcefghoncab
open Go.RowKit Go.Shelf

theorem bstr_size (l : List Nat) : (bstr l).size = l.length := by simp [bstr, ByteArray.size]

set_option maxRecDepth 100000 in
set_option maxHeartbeats 1000000 in
theorem membs_zero (p : Nat → Bool) (w : World) :
    Calls Try.prog 22 #[.agg #[.int .u64 (wd p 0 : Nat), .int .u64 (wd p 1 : Nat), .int .u64 (wd p 2 : Nat), .int .u64 (wd p 3 : Nat)], .int .i64 0] w fun e w' => e = .returned (.tuple #[.string ⟨#[]⟩, .bool true]) ∧ Below w.heap.size w w' := by
  have hnil := func_eq_nil
  have hnil2 := func_ne_nil
  have hms := fun w => (callsIn_wide (n := 5)).1 (members_in 5 p w)
  have HM : Hid _ := hms
  clear hms
  go_enter Try.func22, Try.ntmps22
  go_wp2_with fail
  refine (HM.out _).mono ?_
  rintro e w1 ⟨rfl, rfl⟩
  go_wp2
  go_ret2
  exact ⟨rfl, ((((Below.refl _ w).alloc (Nat.le_refl _) _).alloc (by simp) _).alloc (by simp; omega) _).alloc (by simp; omega) _⟩

theorem membs_take (p : Nat → Bool) (x : Int) (h0 : 0 ≤ x) (w : World) :
    Calls Try.prog 22 #[.agg #[.int .u64 (wd p 0 : Nat), .int .u64 (wd p 1 : Nat), .int .u64 (wd p 2 : Nat), .int .u64 (wd p 3 : Nat)], .int .i64 x] w fun e w' => e = .returned (.tuple #[.string (bstr ((mem p 256).take x.toNat)), .bool true]) ∧ Below w.heap.size w w' := by
  by_cases hx : x = 0
  · subst hx
    exact membs_zero p w
  · refine (membs p x (by simpa using hx) w).mono fun _ _ ⟨pre, he, h, hb⟩ => ?_
    rcases h with ⟨rfl, h⟩ | ⟨hp, h⟩
    · have hl : (mem p 256).length ≤ x.toNat := by
        rcases Nat.lt_or_ge (mem p 256).length x.toNat with g | g
        · omega
        · exact absurd (by omega) (h x.toNat (by omega) g)
      rw [List.take_of_length_le hl]
      exact ⟨he, hb⟩
    · have e : pre = (mem p 256).take x.toNat := by
        have e1 := List.prefix_iff_eq_take.1 hp
        rw [show x.toNat = pre.length by omega]
        exact e1
      rw [← e]
      exact ⟨he, hb⟩

theorem bstr_extract (l : List Nat) (k : Nat) : (bstr l).extract 0 k = bstr (l.take k) := by
  unfold bstr
  rw [ByteArray.extract_mk]
  simp [List.map_take]

theorem of_mem (p : Nat → Bool) : eqB (ofP (bstr (mem p 256))) p = true := by
  rw [eqB_iff]
  intro n hn
  unfold ofP inText
  rw [List.take_of_length_le (by simp [bstr, ByteArray.size])]
  rw [Bool.eq_iff_iff]
  simp only [bstr, List.any_map, List.any_eq_true, mem, List.mem_filter, List.mem_range, Function.comp, beq_iff_eq]
  constructor
  · rintro ⟨m, ⟨hm, hp⟩, e⟩
    have : m = n := by
      rw [← e]; simp; omega
    rw [← this]; exact hp
  · intro hp
    exact ⟨n, ⟨hn, hp⟩, by simp; omega⟩
end Go.Proofs.Ytfmgpcefghoncab

namespace Go.Proofs.Ytfmgpcefghoncab.stops
open Go.ChangeShapes Go.WideShapes Go.ChangeAt Go.RowKit
set_option linter.unusedVariables false

set_option maxRecDepth 100000 in
set_option maxHeartbeats 1000000 in
theorem core (p : Nat → Bool) (x : Int) (hx0 : 0 ≤ x) (hx1 : x < 256) (LS FS : ByteArray)
    (HA : Hid (∀ w : World, Calls Try.prog 22 #[.agg #[.int .u64 (wd p 0 : Nat), .int .u64 (wd p 1 : Nat), .int .u64 (wd p 2 : Nat), .int .u64 (wd p 3 : Nat)], .int .i64 (-1)] w fun e w' => e = .returned (.tuple #[.string LS, .bool true]) ∧ Below w.heap.size w w'))
    (HT : Hid (∀ w : World, Calls Try.prog 22 #[.agg #[.int .u64 (wd p 0 : Nat), .int .u64 (wd p 1 : Nat), .int .u64 (wd p 2 : Nat), .int .u64 (wd p 3 : Nat)], .int .i64 x] w fun e w' => e = .returned (.tuple #[.string FS, .bool true]) ∧ Below w.heap.size w w'))
    (HL : Hid (LS.size ≤ maxLen)) (hle : FS.size ≤ LS.size) (m : Int) (hm : (if (LS.size : Int) < x then (LS.size : Int) else x) = m) (hmin : ((FS.size : Int) == m) = true) (hext : LS.extract 0 FS.size = FS)
    (hcc : ((LS.size : Int) == (card p : Int)) = true)
    (hq1 : ∀ w, (binOp .eql 24 (.agg #[.int .u64 (wd (ofP LS) 0 : Nat), .int .u64 (wd (ofP LS) 1 : Nat), .int .u64 (wd (ofP LS) 2 : Nat), .int .u64 (wd (ofP LS) 3 : Nat)]) (.agg #[.int .u64 (wd p 0 : Nat), .int .u64 (wd p 1 : Nat), .int .u64 (wd p 2 : Nat), .int .u64 (wd p 3 : Nat)])).run Try.prog w = .ok (.bool true) w) (w : World) :
    Calls Try.prog 6 #[.agg #[.int .u64 (wd p 0 : Nat), .int .u64 (wd p 1 : Nat), .int .u64 (wd p 2 : Nat), .int .u64 (wd p 3 : Nat)], .int .u8 x] w fun e w' => e = .returned (.bool true) ∧ Below w.heap.size w w' := by
  have hwx : IntKind.i64.wrap x = x := by rw [IntKind.wrap_i64]; omega
  go_enter Try.func6, Try.ntmps6
  go_wp2_with fail
  have ha := holds4_new w p 24
  have hB : Below w.heap.size w (w.alloc (.cells #[.int .u64 (wd p 0 : Nat), .int .u64 (wd p 1 : Nat), .int .u64 (wd p 2 : Nat), .int .u64 (wd p 3 : Nat)] 24)) := (Below.refl _ _).alloc (Nat.le_refl _) _
  refine (awake_any class_digit _).mono ?_
  rintro e w1 ⟨rfl, hb⟩
  replace ha := ha.below hb ha.lt
  replace hB := hB.trans (hb.mono hB.size)
  clear hb
  obtain ⟨c0, c1, c2, c3⟩ := id ha.1
  go_wp2_with fail
  clear c0 c1 c2 c3
  refine (HA.out _).mono ?_
  rintro e w2 ⟨rfl, hb⟩
  replace ha := ha.below hb ha.lt
  replace hB := hB.trans (hb.mono hB.size)
  clear hb
  obtain ⟨c0, c1, c2, c3⟩ := id ha.1
  go_wp2_with fail
  clear c0 c1 c2 c3
  refine (HT.out _).mono ?_
  rintro e w3 ⟨rfl, hb⟩
  replace ha := ha.below hb ha.lt
  replace hB := hB.trans (hb.mono hB.size)
  clear hb
  go_wp2_with fail
  replace hB := hB.drew
  have hS : w3.drew.cell? ⟨w.heap.size, 0, none⟩ = some (.int .u64 (wd p 0 : Nat)) ∧ w3.drew.cell? ⟨w.heap.size, 1, none⟩ = some (.int .u64 (wd p 1 : Nat)) ∧ w3.drew.cell? ⟨w.heap.size, 2, none⟩ = some (.int .u64 (wd p 2 : Nat)) ∧ w3.drew.cell? ⟨w.heap.size, 3, none⟩ = some (.int .u64 (wd p 3 : Nat)) := ha.1
  obtain ⟨c0, c1, c2, c3⟩ := id ha.1
  go_region_held (fun W' => W'.cell? ⟨w.heap.size, 0, none⟩ = some (.int .u64 (wd p 0 : Nat)) ∧ W'.cell? ⟨w.heap.size, 1, none⟩ = some (.int .u64 (wd p 1 : Nat)) ∧ W'.cell? ⟨w.heap.size, 2, none⟩ = some (.int .u64 (wd p 2 : Nat)) ∧ W'.cell? ⟨w.heap.size, 3, none⟩ = some (.int .u64 (wd p 3 : Nat))) (first | exact hS | exact keepS1 (by assumption) (by assumption) | go_keep) (first | (go_at_call 14; go_must (refine (ofD _ HL.out _).mono ?_; rintro e wv ⟨rfl, hb⟩; have hS := keepS1 hb (by assumption); replace hB := hB.trans (hb.mono hB.size))) | (go_at_call 25; go_must (refine (countD _ _).mono ?_; rintro e wv ⟨rfl, hb⟩; have hS := keepS1 hb (by assumption); replace hB := hB.trans (hb.mono hB.size))))
  all_goals
    go_wp2
    go_ret
    exact ⟨by simp, hB⟩

theorem walk (p : Nat → Bool) (x : Int) (wx : (Lit.int .u8 x).wf = true) (w : World) :
    Calls Try.prog 6 #[.agg #[.int .u64 (wd p 0 : Nat), .int .u64 (wd p 1 : Nat), .int .u64 (wd p 2 : Nat), .int .u64 (wd p 3 : Nat)], .int .u8 x] w fun e w' => e = .returned (.bool true) ∧ Below w.heap.size w w' := by
  have bx := bounds_u8 wx
  have hsz := bstr_size (mem p 256)
  have hml := mem_le p 256
  have hst := bstr_size ((mem p 256).take x.toNat)
  rw [List.length_take] at hst
  refine core p x (by omega) (by omega) (bstr (mem p 256)) (bstr ((mem p 256).take x.toNat)) (fun w => membs_all p w) (fun w => membs_take p x (by omega) w) ?_ (by omega) _ rfl ?_ ?_ ?_ (fun w => by rw [run_eql_set, of_mem]) w
  · show _ ≤ maxLen; unfold maxLen; omega
  · rw [beq_iff_eq]; split <;> omega
  · rw [bstr_extract, bstr_size, List.length_take]
    congr 1
    rw [List.take_eq_take_iff]
    omega
  · rw [beq_iff_eq, hsz, card_mem]

theorem own : ownKnob Try.prog.godebug = none := by kernel_rfl
theorem laidOut : laidOutB Try.prog = true := by kernel_rfl

set_option maxHeartbeats 1000000 in
set_option maxRecDepth 100000 in
theorem lifted (os : Os) (started : os.Started) (H : Type) (enc : TypeId × Value → H) :
    ReturnsInHanded {} Try.checked os 6 .any (Rows.bsetStopsSpec.pre6 enc Try.prog Try.f6 Rows.bsetStopsRow.domain false) (Rows.bsetStopsSpec.post enc Try.prog Try.f6 false true false false) := by
  refine returnsInHanded_of_change (C := Try.checked) own started (by kernel_rfl) Try.func6
    (ChangeSpec.witness6 (enc := enc) (C := Try.checked) false ⟨#[], #[.agg #[.int .u64 0, .int .u64 0, .int .u64 0, .int .u64 0], .int .u8 0], []⟩ 8 (by kernel_rfl) (by kernel_rfl) (by kernel_rfl) (by kernel_rfl)) ?_
  intro W base args ds gs before hval0 hW hcnd _
  have hval : ∀ (j : Nat) t v, Try.f6.params[j]? = some t → args[j]? = some v → Value.okWide Try.prog W .any base t v := hval0
  have hW' := hW
  obtain ⟨p, q, hA0, hV, rfl, hfz, hnd⟩ := hW
  have hA : DataW.TrodAll enc Try.prog W 0 (fun _ => true) true Try.f6.params.toList args.toList ds p := hA0
  rw [Try.params6] at hA hval
  obtain ⟨v0, vs0, d0, ds0, p0, q0, hargs, rfl, rfl, h0, r0⟩ := trodAll_cons hA
  obtain ⟨v1, vs1, d1, ds1, p1, q1, rfl, rfl, rfl, h1, r1⟩ := trodAll_cons r0
  obtain ⟨rfl, rfl, rfl⟩ := trodAll_nil r1
  obtain rfl : args = #[v0, v1] := by cases args; simp_all
  obtain ⟨rfl, rfl⟩ := trodVars_none hV
  have k0 := h0
  have lt0 : ∀ x ∈ p0, x.block < W.heap.size := by obtain ⟨m, hm⟩ := k0; exact DataW.trod_lt m _ _ _ hm
  obtain ⟨a0, rfl⟩ := open_set (hval 0 24 v0 rfl rfl) h0
  obtain ⟨a1, rfl, rfl, rfl, w1⟩ := open_int Try.underlying5 (hval 1 5 v1 rfl rfl) h1
  clear hA0 hval0
  refine (walk a0 a1 w1 W).mono fun e W' ⟨he, bel⟩ => ?_
  subst he
  exact ⟨_, rfl, _, _, _, [], _, [], hW', trodAll_mk1 (shut_bool Try.underlying4 _), (trodAll_cons_mk (Below.trod laidOut (by kernel_rfl) (of_decide_eq_true (by kernel_rfl)) k0 bel lt0) (trodAll_cons_mk (shut_int Try.underlying5 w1) trodAll_mk0)), rfl, bel.frame _, fun h => by cases h⟩

theorem over : Rows.bsetStopsRow.holds Try.pinned (OpenSpec.ofChange Rows.bsetStopsSpec) :=
  OpenClaim.holds_of_wide 6 Try.f6 rfl rfl rfl rfl rfl rfl rfl ⟨rfl, rfl, rfl, rfl, rfl⟩ rfl rfl rfl rfl rfl (by kernel_rfl) Try.func6 (by kernel_rfl)
    (of_decide_eq_true (by kernel_rfl)) (by unfold Func.isWrapper; first | (rw [if_pos (by decide +kernel)]; kernel_rfl) | (rw [if_neg (by decide +kernel)]; exact ⟨rfl, rfl⟩))
    (fun os started H enc _ => lifted os started H enc)

/-- The statement. -/
theorem proved : Rows.BsetStopsSaid := over

end Go.Proofs.Ytfmgpcefghoncab.stops

namespace Go.Proofs.Ytfmgpcefghoncab
/-- BsetStops, for every input. -/
theorem bsetStops_holds : Rows.BsetStopsSaid := stops.proved
#print axioms bsetStops_holds
end Go.Proofs.Ytfmgpcefghoncab
