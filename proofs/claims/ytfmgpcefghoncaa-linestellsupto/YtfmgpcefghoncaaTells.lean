/- LinesTells: for all arguments of bulk at most 1048576 Join, Number and Tail answer just what the document says: the law returns true, and its arguments read as they did. -/
import Derived.Test.YtfmgpcefghoncaaStrs
import Derived.Test.YtfmgpcefghoncaaCuts
namespace Go.Proofs.Ytfmgpcefghoncaa
open Go.ChangeShapes Go.WideShapes Go.ChangeAt Go.RowKit
open Go.ChangeMaps (open_string shut_string)
namespace tells

/-- Number and the document's agree. -/
theorem numbers (s : ByteArray) (hs : s.size ≤ 1073741824) (x : Int) : ∃ a b : Int, (b = 0 ∨ b = 1) ∧
    (∀ w, Calls Try.prog 14 #[.string s, .int .i64 x] w fun e w' => e = .returned (.tuple #[.int .i64 a, .int .i64 b]) ∧ w' = w) ∧
    (∀ w, Calls Try.prog 15 #[.string s, .int .i64 x] w fun e w' => e = .returned (.tuple #[.int .i64 a, .int .i64 b]) ∧ w' = w) := by
  by_cases hx : x < 0 ∨ (s.size : Int) < x
  · exact ⟨0, 1, .inr rfl, number_out s x hx, docNumber_out s x hx⟩
  · obtain ⟨k, rfl⟩ : ∃ k : Nat, x = k := ⟨x.toNat, by omega⟩
    exact ⟨_, 0, .inl rfl, number_in s hs k (by omega), docNumber_in s hs k (by omega)⟩

set_option maxRecDepth 100000 in
set_option maxHeartbeats 1000000 in
theorem walk (v : Value) (l : List (List UInt8)) (s : ByteArray) (x n : Int) (hs : s.size ≤ 1073741824) (hl : (joinL l).length ≤ 1073741824) (hn : l.length ≤ 1073741824) (hr : -9223372036854775808 ≤ n ∧ n ≤ 9223372036854775807) (w : World) (hv : Row w v l) :
    Calls Try.prog 4 #[v, .string s, .int .i64 x, .int .i64 n] w fun e w' => e = .returned (.bool true) ∧ Below w.heap.size w w' := by
  have hcl := cutL_le s.data.toList
  have hsz : s.data.toList.length = s.size := by simp
  have htl : (tailL (cutL s.data.toList) n).length ≤ 1073741824 := by
    unfold tailL
    split
    · simp; omega
    · simp
  obtain ⟨p0, c0, rfl⟩ := hv.shape
  obtain ⟨a, b, hab, hN, hD⟩ := numbers s hs x
  go_enter Try.func4, Try.ntmps4
  go_wp2_with fail
  refine (hN w).mono ?_
  rintro e w1 ⟨rfl, hw1⟩
  have hw1 := hw1.symm
  subst hw1
  go_wp2_with fail
  refine (hD w).mono ?_
  rintro e w1 ⟨rfl, hw1⟩
  have hw1 := hw1.symm
  subst hw1
  go_wp2_with fail
  refine (awake_any w).mono ?_
  rintro e w2 ⟨rfl, hB2⟩
  have hv2 := hv.stay hB2 (Nat.le_refl _)
  go_wp2_with fail
  refine (join_any _ l w2 hv2 hl hn).mono ?_
  rintro e w3 ⟨rfl, hb3⟩
  have hv3 := hv2.stay hb3 (Nat.le_refl _)
  have hB3 := hB2.trans (hb3.mono hB2.size)
  clear hv2 hb3 hB2
  go_wp2_with fail
  refine (refJoin_any _ l w3 hv3 hl hn).mono ?_
  rintro e w4 ⟨rfl, hb4⟩
  have hB4 := hB3.trans (hb4.mono hB3.size)
  clear hv3 hb4 hB3
  rcases hab with rfl | rfl
  all_goals
    go_wp2_with fail
    refine (tail_any s hs n hr.2 w4).mono ?_
    rintro e w5 ⟨v5, rfl, hown5, hb5⟩
    have hB5 := hB4.trans (hb5.mono hB4.size)
    clear hB4 hb5
    obtain ⟨ao5, cp5, rfl⟩ := owns_shape hown5
    go_wp2_with fail
    refine (refTail_any s hs n hr w5).mono ?_
    rintro e w6 ⟨v6, rfl, hown6, hb6⟩
    have hownC := owns_below hown5 hb6
    have hB6 := hB5.trans (hb6.mono hB5.size)
    clear hown5 hB5 hb6
    obtain ⟨ao6, cp6, rfl⟩ := owns_shape hown6
    go_wp2_with fail
    refine (same_any _ _ _ _ w6 (Row.of_owns hownC) (Row.of_owns hown6) htl htl).mono ?_
    rintro e w7 ⟨rfl, hb7⟩
    have hB7 := hB6.trans (hb7.mono hB6.size)
    rw [decide_eq_true rfl]
    clear hownC hown6 hB6 hb7
    go_wp2
    go_ret
    exact ⟨rfl, hB7⟩

theorem own : ownKnob Try.prog.godebug = none := by kernel_rfl
theorem laidOut : laidOutB Try.prog = true := by kernel_rfl

set_option maxHeartbeats 1000000 in
set_option maxRecDepth 100000 in
theorem lifted (os : Os) (started : os.Started) (H : Type) (enc : TypeId × Value → H) (F0 : Stop.Interp) :
    ReturnsInHanded {} Try.checked os 4 .any ((Rows.OpenSpec.upto Rows.linesTellsSpec).pre6 enc Try.prog Try.f4 Rows.linesTellsUptoRow.domain false) (((Rows.OpenSpec.upto Rows.linesTellsSpec).at F0).post enc Try.prog Try.f4 false true false false) := by
  refine returnsInHanded_of_cond (C := Try.checked) (s := (Rows.OpenSpec.upto Rows.linesTellsSpec)) (k := Rows.uptoSmall) rfl own started (by kernel_rfl) Try.func4
    (OpenSpec.witness (enc := enc) (C := Try.checked) (s := (Rows.OpenSpec.upto Rows.linesTellsSpec)) (k := Rows.uptoSmall) rfl false ⟨#[], #[.slice none 0 0, .string ⟨#[]⟩, .int .i64 0, .int .i64 0], []⟩ 8 (by kernel_rfl) (by kernel_rfl) (by kernel_rfl)
      (x := ([.nil, .lit (.string []), .lit (.int .i64 0), .lit (.int .i64 0)], [], [])) (by kernel_rfl) (by kernel_rfl) (by kernel_rfl)) ?_
  intro W base args ds gs before hval0 hW _ hk0 _
  have hval : ∀ (j : Nat) t v, Try.f4.params[j]? = some t → args[j]? = some v → Value.okWide Try.prog W .any base t v := hval0
  have hW' := hW
  obtain ⟨p, q, hA0, hV, rfl, hfz, hnd⟩ := hW
  have hA : DataW.TrodAll enc Try.prog W 0 (fun _ => true) true Try.f4.params.toList args.toList ds p := hA0
  rw [Try.params4] at hA hval
  obtain ⟨v0, vs0, d0, ds0, p0, q0, hargs, rfl, rfl, h0, r0⟩ := trodAll_cons hA
  obtain ⟨v1, vs1, d1, ds1, p1, q1, rfl, rfl, rfl, h1, r1⟩ := trodAll_cons r0
  obtain ⟨v2, vs2, d2, ds2, p2, q2, rfl, rfl, rfl, h2, r2⟩ := trodAll_cons r1
  obtain ⟨v3, vs3, d3, ds3, p3, q3, rfl, rfl, rfl, h3, r3⟩ := trodAll_cons r2
  obtain ⟨rfl, rfl, rfl⟩ := trodAll_nil r3
  obtain rfl : args = #[v0, v1, v2, v3] := by cases args; simp_all
  obtain ⟨rfl, rfl⟩ := trodVars_none hV
  have k0 := h0
  have lt0 : ∀ x ∈ p0, x.block < W.heap.size := by obtain ⟨m, hm⟩ := k0; exact DataW.trod_lt m _ _ _ hm
  obtain ⟨l0, row0, shp0, bk0⟩ := open_strs Try.underlying22 (hval 0 22 v0 rfl rfl) h0
  obtain ⟨s1, rfl, rfl, rfl, w1⟩ := open_string Try.underlying9 (hval 1 9 v1 rfl rfl) h1
  obtain ⟨a2, rfl, rfl, rfl, w2⟩ := open_int Try.underlying3 (hval 2 3 v2 rfl rfl) h2
  obtain ⟨a3, rfl, rfl, rfl, w3⟩ := open_int Try.underlying3 (hval 3 3 v3 rfl rfl) h3
  clear hA0 hval0
  have hk : Rows.uptoBulkAll ([d0, .lit (.string s1.data.toList), .lit (.int .i64 a2), .lit (.int .i64 a3)] ++ [] : List (DataW H)) ≤ 1048576 := of_decide_eq_true hk0
  have zz : (joinL l0).length ≤ 1048576 ∧ s1.size ≤ 1073741824 := by
    simp only [List.append_nil, Rows.uptoBulkAll] at hk
    simp only [Rows.uptoBulk] at hk
    simp at hk
    omega
  have z0 : (joinL l0).length ≤ 1073741824 := by omega
  have z1 := zz.2
  refine (walk v0 l0 s1 a2 a3 z1 z0 (by have := joinL_len l0; omega) (by have h := w3; simp [Lit.wf] at h; exact ⟨h.1, h.2⟩) W row0).mono fun e W' ⟨he, bel⟩ => ?_
  subst he
  exact ⟨_, rfl, _, _, _, [], _, [], hW', trodAll_mk1 (shut_bool Try.underlying4 _), (trodAll_cons_mk (Below.trod laidOut (by kernel_rfl) (of_decide_eq_true (by kernel_rfl)) k0 bel lt0) (trodAll_cons_mk (shut_string Try.underlying9 w1) (trodAll_cons_mk (shut_int Try.underlying3 w2) (trodAll_cons_mk (shut_int Try.underlying3 w3) trodAll_mk0)))), rfl, bel.frame _, fun h => by cases h⟩

theorem over : Rows.linesTellsUptoRow.holds Try.pinned (Rows.OpenSpec.upto Rows.linesTellsSpec) :=
  OpenClaim.holds_of_cond 4 Try.f4 rfl rfl rfl rfl rfl rfl rfl ⟨rfl, rfl, rfl, rfl, rfl⟩ rfl rfl rfl rfl rfl (by kernel_rfl) Try.func4 (by kernel_rfl)
    (of_decide_eq_true (by kernel_rfl)) (by unfold Func.isWrapper; first | (rw [if_pos (by decide +kernel)]; kernel_rfl) | (rw [if_neg (by decide +kernel)]; exact ⟨rfl, rfl⟩))
    (fun os started H enc _ F0 => lifted os started H enc F0)

end tells

/-- The statement. -/
theorem linesTells_holds : Rows.LinesTellsUptoSaid := tells.over
#print axioms linesTells_holds
end Go.Proofs.Ytfmgpcefghoncaa
