/- LinesBack: for all arguments of bulk at most 1048576: what is cut is put together again; what is put together is cut again: the law returns true, and its arguments read as they did. -/
import Derived.Test.YtfmgpcefghoncaaStrs
import Derived.Test.YtfmgpcefghoncaaMx
import Derived.Test.YtfmgpcefghoncaaCuts
namespace Go.Proofs.Ytfmgpcefghoncaa
open Go.ChangeShapes Go.WideShapes Go.ChangeAt Go.RowKit
open Go.ChangeMaps (open_string shut_string)
namespace back

theorem elem_le (l : List (List UInt8)) (k : Nat) (h : k < l.length) : l[k].length < (joinL l).length := by
  have h1 := joinL_take l k h
  have h2 := joinL_take_le l (k + 1)
  rw [h1] at h2
  simp at h2
  omega

theorem str_snoc (s : ByteArray) : str (s.data.toList ++ [10]) = s ++ ⟨#[10]⟩ := by
  apply ByteArray.ext
  simp [str]
  apply Array.toList_inj.1
  simp

theorem str_app (x : List UInt8) : str x ++ ⟨#[120]⟩ = str (x ++ [120]) := by
  apply ByteArray.ext
  simp [str]

theorem str_data (x : List UInt8) : (str x).data.toList = x := rfl

set_option maxRecDepth 100000 in
set_option maxHeartbeats 4000000 in
theorem walk (s : ByteArray) (v : Value) (l : List (List UInt8)) (hs : s.size ≤ 1048576) (hl : (joinL l).length ≤ 1048576) (w : World) (hv : Row w v l) : Calls Try.prog 6 #[.string s, v] w fun e w' => e = .returned (.bool true) ∧ Below w.heap.size w w' := by
  have hcl := cutL_le s.data.toList
  have hsz : s.data.toList.length = s.size := by simp
  have hn := joinL_len l
  have hjc : (joinL (cutL s.data.toList)).length ≤ s.size + 1 := by
    rw [join_cut]
    split <;> simp
  obtain ⟨p0, c0, rfl⟩ := hv.shape
  go_enter Try.func6, Try.ntmps6
  go_wp2_with fail
  refine (awake_any w).mono ?_
  rintro e w1 ⟨rfl, hB1⟩
  have hv1 := hv.stay hB1 (Nat.le_refl _)
  clear hv
  go_wp2_with fail
  refine (cutCall s (by omega) w1).mono ?_
  rintro e w2 ⟨v2, rfl, hown2, hb2⟩
  have hv2 := hv1.stay hb2 (Nat.le_refl _)
  have hB2 := hB1.trans (hb2.mono hB1.size)
  clear hB1 hb2 hv1
  obtain ⟨ao2, cp2, rfl⟩ := owns_shape hown2
  go_wp2_with fail
  refine (join_any _ _ w2 (Row.of_owns hown2) (by omega) (by omega)).mono ?_
  rintro e w3 ⟨rfl, hb3⟩
  have hv3 := hv2.stay hb3 (Nat.le_refl _)
  have hB3 := hB2.trans (hb3.mono hB2.size)
  clear hB2 hb3 hv2 hown2
  rw [join_cut]
  by_cases h0 : s.size = 0
  · obtain rfl : s = ⟨#[]⟩ := by
      cases s with
      | mk d => congr 1; exact Array.eq_empty_of_size_eq_zero h0
    rw [show str (if (⟨#[]⟩ : ByteArray).data.toList = [] ∨ (⟨#[]⟩ : ByteArray).data.toList.getLast? = some 10 then (⟨#[]⟩ : ByteArray).data.toList else (⟨#[]⟩ : ByteArray).data.toList ++ [10]) = ⟨#[]⟩ from rfl]
    clear hcl hsz hjc hs h0
    go_wp2_with fail
    go_loopw [43] (fun i wr => ∃ k : Nat, k ≤ l.length ∧ i = .int .i64 k ∧ Hid (∀ x ∈ l.take k, (10 : UInt8) ∉ x) ∧ Row wr (.slice p0 l.length c0) l ∧ Below w.heap.size w wr) (fun i _ => l.length - (intOf i).toNat)
    case atStart => exact ⟨0, by omega, rfl, by simp [Hid], hv3, hB3⟩
    case round =>
      obtain ⟨k, hk, rfl, HN, hR, hB⟩ := hrel
      by_cases hlt : k < l.length
      · have hel := elem_le l k hlt
        have hR' := hR
        rcases hR with ⟨rfl, -⟩ | ⟨g, off, c, e1, hc⟩
        · simp at hlt
        cases e1
        have h1 := hc k hlt
        have hsx : (str l[k]).size = l[k].length := by simp [str, ByteArray.size]
        have hmx : (9223372036854775807 < (str l[k]).size + 1) = False := by
          rw [hsx]
          simp only [eq_iff_iff, iff_false]
          omega
        go_wp2_with fail
        refine (cutCall _ (by rw [str_app]; simp [str, ByteArray.size]; omega) _).mono ?_
        rintro e w5 ⟨v5, rfl, hown5, hb5⟩
        have hR5 := hR'.stay hb5 (Nat.le_refl _)
        have hB5 := hB.trans (hb5.mono hB.size)
        obtain ⟨ao5, cp5, rfl⟩ := owns_shape hown5
        clear hown5 hb5 hR' hB h1 hc
        rw [str_app]
        have HX : Hid ((cutL (str (l[k] ++ [120])).data.toList).length = 1 → (10 : UInt8) ∉ l[k]) := fun h => cut_one_line l[k] h
        generalize (cutL (str (l[k] ++ [120])).data.toList).length = q at *
        go_wp2
        · go_ret
          exact ⟨rfl, hB5⟩
        · rename_i hq
          refine ⟨⟨k + 1, by omega, by go_num, ?_, hR5, hB5⟩, by simp [intOf]; omega⟩
          show ∀ x ∈ l.take (k + 1), (10 : UInt8) ∉ x
          intro x hx
          rw [List.take_succ_eq_append_getElem hlt, List.mem_append] at hx
          rcases hx with hx | hx
          · exact HN.out x hx
          · rw [List.mem_singleton.1 hx]
            exact HX.out (by simp at hq; omega)
      · obtain rfl : k = l.length := by omega
        have HC : Hid (cutL (joinL l) = l) := cut_join l (fun x hx => HN.out x (by rw [List.take_length]; exact hx))
        clear HN
        go_wp2_with fail
        refine (join_any _ l _ hR (by omega) (by omega)).mono ?_
        rintro e w5 ⟨rfl, hb5⟩
        have hR5 := hR.stay hb5 (Nat.le_refl _)
        have hB5 := hB.trans (hb5.mono hB.size)
        clear hb5 hR hB
        go_wp2_with fail
        refine (cutCall _ (by simp [str, ByteArray.size]; omega) _).mono ?_
        rintro e w6 ⟨v6, rfl, hown6, hb6⟩
        rw [str_data, HC.out] at hown6
        have hR6 := hR5.stay hb6 (Nat.le_refl _)
        have hB6 := hB5.trans (hb6.mono hB5.size)
        clear hb6 hR5 hB5
        obtain ⟨ao6, cp6, rfl⟩ := owns_shape hown6
        go_wp2_with fail
        refine (same_any _ _ l l _ (Row.of_owns hown6) hR6 (by omega) (by omega)).mono ?_
        rintro e w7 ⟨rfl, hb7⟩
        rw [decide_eq_true rfl]
        have hB7 := hB6.trans (hb7.mono hB6.size)
        clear hown6 hR6 hb7 hB6
        go_wp2
        go_ret
        exact ⟨rfl, hB7⟩
  · have hne : s.data.toList ≠ [] := by
      intro e
      rw [e] at hsz
      simp at hsz
      omega
    have hlast : s.data.toList.getLast? = some s[s.size - 1] := by
      rw [List.getLast?_eq_getElem?, hsz]
      exact List.getElem?_eq_getElem _
    by_cases h10 : s[s.size - 1] = 10
    · rw [if_pos (.inr (by rw [hlast, h10])), str_self]
      have hq10 : (s[s.size - 1].toNat : Int) = 10 := by rw [h10]; rfl
      clear h10 hlast hne hjc hcl
      go_wp2_with fail
      go_loopw [43] (fun i wr => ∃ k : Nat, k ≤ l.length ∧ i = .int .i64 k ∧ Hid (∀ x ∈ l.take k, (10 : UInt8) ∉ x) ∧ Row wr (.slice p0 l.length c0) l ∧ Below w.heap.size w wr) (fun i _ => l.length - (intOf i).toNat)
      case atStart => exact ⟨0, by omega, rfl, by simp [Hid], hv3, hB3⟩
      case round =>
        obtain ⟨k, hk, rfl, HN, hR, hB⟩ := hrel
        by_cases hlt : k < l.length
        · have hel := elem_le l k hlt
          have hR' := hR
          rcases hR with ⟨rfl, -⟩ | ⟨g, off, c, e1, hc⟩
          · simp at hlt
          cases e1
          have h1 := hc k hlt
          have hsx : (str l[k]).size = l[k].length := by simp [str, ByteArray.size]
          have hmx : (9223372036854775807 < (str l[k]).size + 1) = False := by
            rw [hsx]
            simp only [eq_iff_iff, iff_false]
            omega
          go_wp2_with fail
          refine (cutCall _ (by rw [str_app]; simp [str, ByteArray.size]; omega) _).mono ?_
          rintro e w5 ⟨v5, rfl, hown5, hb5⟩
          have hR5 := hR'.stay hb5 (Nat.le_refl _)
          have hB5 := hB.trans (hb5.mono hB.size)
          obtain ⟨ao5, cp5, rfl⟩ := owns_shape hown5
          clear hown5 hb5 hR' hB h1 hc
          rw [str_app]
          have HX : Hid ((cutL (str (l[k] ++ [120])).data.toList).length = 1 → (10 : UInt8) ∉ l[k]) := fun h => cut_one_line l[k] h
          generalize (cutL (str (l[k] ++ [120])).data.toList).length = q at *
          go_wp2
          · go_ret
            exact ⟨rfl, hB5⟩
          · rename_i hq
            refine ⟨⟨k + 1, by omega, by go_num, ?_, hR5, hB5⟩, by simp [intOf]; omega⟩
            show ∀ x ∈ l.take (k + 1), (10 : UInt8) ∉ x
            intro x hx
            rw [List.take_succ_eq_append_getElem hlt, List.mem_append] at hx
            rcases hx with hx | hx
            · exact HN.out x hx
            · rw [List.mem_singleton.1 hx]
              exact HX.out (by simp at hq; omega)
        · obtain rfl : k = l.length := by omega
          have HC : Hid (cutL (joinL l) = l) := cut_join l (fun x hx => HN.out x (by rw [List.take_length]; exact hx))
          clear HN
          go_wp2_with fail
          refine (join_any _ l _ hR (by omega) (by omega)).mono ?_
          rintro e w5 ⟨rfl, hb5⟩
          have hR5 := hR.stay hb5 (Nat.le_refl _)
          have hB5 := hB.trans (hb5.mono hB.size)
          clear hb5 hR hB
          go_wp2_with fail
          refine (cutCall _ (by simp [str, ByteArray.size]; omega) _).mono ?_
          rintro e w6 ⟨v6, rfl, hown6, hb6⟩
          rw [str_data, HC.out] at hown6
          have hR6 := hR5.stay hb6 (Nat.le_refl _)
          have hB6 := hB5.trans (hb6.mono hB5.size)
          clear hb6 hR5 hB5
          obtain ⟨ao6, cp6, rfl⟩ := owns_shape hown6
          go_wp2_with fail
          refine (same_any _ _ l l _ (Row.of_owns hown6) hR6 (by omega) (by omega)).mono ?_
          rintro e w7 ⟨rfl, hb7⟩
          rw [decide_eq_true rfl]
          have hB7 := hB6.trans (hb7.mono hB6.size)
          clear hown6 hR6 hb7 hB6
          go_wp2
          go_ret
          exact ⟨rfl, hB7⟩
    · rw [if_neg (by rw [hlast]; simp [hne, h10]), str_snoc]
      have hq10 : ¬ (s[s.size - 1].toNat : Int) = 10 := fun e => h10 (UInt8.toNat_inj.1 (by simpa using Int.ofNat_inj.1 e))
      clear h10 hlast hne hjc hcl
      go_wp2_with fail
      go_loopw [43] (fun i wr => ∃ k : Nat, k ≤ l.length ∧ i = .int .i64 k ∧ Hid (∀ x ∈ l.take k, (10 : UInt8) ∉ x) ∧ Row wr (.slice p0 l.length c0) l ∧ Below w.heap.size w wr) (fun i _ => l.length - (intOf i).toNat)
      case atStart => exact ⟨0, by omega, rfl, by simp [Hid], hv3, hB3⟩
      case round =>
        obtain ⟨k, hk, rfl, HN, hR, hB⟩ := hrel
        by_cases hlt : k < l.length
        · have hel := elem_le l k hlt
          have hR' := hR
          rcases hR with ⟨rfl, -⟩ | ⟨g, off, c, e1, hc⟩
          · simp at hlt
          cases e1
          have h1 := hc k hlt
          have hsx : (str l[k]).size = l[k].length := by simp [str, ByteArray.size]
          have hmx : (9223372036854775807 < (str l[k]).size + 1) = False := by
            rw [hsx]
            simp only [eq_iff_iff, iff_false]
            omega
          go_wp2_with fail
          refine (cutCall _ (by rw [str_app]; simp [str, ByteArray.size]; omega) _).mono ?_
          rintro e w5 ⟨v5, rfl, hown5, hb5⟩
          have hR5 := hR'.stay hb5 (Nat.le_refl _)
          have hB5 := hB.trans (hb5.mono hB.size)
          obtain ⟨ao5, cp5, rfl⟩ := owns_shape hown5
          clear hown5 hb5 hR' hB h1 hc
          rw [str_app]
          have HX : Hid ((cutL (str (l[k] ++ [120])).data.toList).length = 1 → (10 : UInt8) ∉ l[k]) := fun h => cut_one_line l[k] h
          generalize (cutL (str (l[k] ++ [120])).data.toList).length = q at *
          go_wp2
          · go_ret
            exact ⟨rfl, hB5⟩
          · rename_i hq
            refine ⟨⟨k + 1, by omega, by go_num, ?_, hR5, hB5⟩, by simp [intOf]; omega⟩
            show ∀ x ∈ l.take (k + 1), (10 : UInt8) ∉ x
            intro x hx
            rw [List.take_succ_eq_append_getElem hlt, List.mem_append] at hx
            rcases hx with hx | hx
            · exact HN.out x hx
            · rw [List.mem_singleton.1 hx]
              exact HX.out (by simp at hq; omega)
        · obtain rfl : k = l.length := by omega
          have HC : Hid (cutL (joinL l) = l) := cut_join l (fun x hx => HN.out x (by rw [List.take_length]; exact hx))
          clear HN
          go_wp2_with fail
          refine (join_any _ l _ hR (by omega) (by omega)).mono ?_
          rintro e w5 ⟨rfl, hb5⟩
          have hR5 := hR.stay hb5 (Nat.le_refl _)
          have hB5 := hB.trans (hb5.mono hB.size)
          clear hb5 hR hB
          go_wp2_with fail
          refine (cutCall _ (by simp [str, ByteArray.size]; omega) _).mono ?_
          rintro e w6 ⟨v6, rfl, hown6, hb6⟩
          rw [str_data, HC.out] at hown6
          have hR6 := hR5.stay hb6 (Nat.le_refl _)
          have hB6 := hB5.trans (hb6.mono hB5.size)
          clear hb6 hR5 hB5
          obtain ⟨ao6, cp6, rfl⟩ := owns_shape hown6
          go_wp2_with fail
          refine (same_any _ _ l l _ (Row.of_owns hown6) hR6 (by omega) (by omega)).mono ?_
          rintro e w7 ⟨rfl, hb7⟩
          rw [decide_eq_true rfl]
          have hB7 := hB6.trans (hb7.mono hB6.size)
          clear hown6 hR6 hb7 hB6
          go_wp2
          go_ret
          exact ⟨rfl, hB7⟩

theorem own : ownKnob Try.prog.godebug = none := by kernel_rfl
theorem laidOut : laidOutB Try.prog = true := by kernel_rfl

set_option maxHeartbeats 1000000 in
set_option maxRecDepth 100000 in
theorem lifted (os : Os) (started : os.Started) (H : Type) (enc : TypeId × Value → H) (F0 : Stop.Interp) :
    ReturnsInHanded {} Try.checked os 6 .any ((Rows.OpenSpec.upto Rows.linesBackSpec).pre6 enc Try.prog Try.f6 Rows.linesBackUptoRow.domain false) (((Rows.OpenSpec.upto Rows.linesBackSpec).at F0).post enc Try.prog Try.f6 false true false false) := by
  refine returnsInHanded_of_cond (C := Try.checked) (s := (Rows.OpenSpec.upto Rows.linesBackSpec)) (k := Rows.uptoSmall) rfl own started (by kernel_rfl) Try.func6
    (OpenSpec.witness (enc := enc) (C := Try.checked) (s := (Rows.OpenSpec.upto Rows.linesBackSpec)) (k := Rows.uptoSmall) rfl false ⟨#[], #[.string ⟨#[]⟩, .slice none 0 0], []⟩ 8 (by kernel_rfl) (by kernel_rfl) (by kernel_rfl)
      (x := ([.lit (.string []), .nil], [], [])) (by kernel_rfl) (by kernel_rfl) (by kernel_rfl)) ?_
  intro W base args ds gs before hval0 hW _ hk0 _
  have hval : ∀ (j : Nat) t v, Try.f6.params[j]? = some t → args[j]? = some v → Value.okWide Try.prog W .any base t v := hval0
  have hW' := hW
  obtain ⟨p, q, hA0, hV, rfl, hfz, hnd⟩ := hW
  have hA : DataW.TrodAll enc Try.prog W 0 (fun _ => true) true Try.f6.params.toList args.toList ds p := hA0
  rw [Try.params6] at hA hval
  obtain ⟨v0, vs0, d0, ds0, p0, q0, hargs, rfl, rfl, h0, r0⟩ := trodAll_cons hA
  obtain ⟨v1, vs1, d1, ds1, p1, q1, rfl, rfl, rfl, h1, r1⟩ := trodAll_cons r0
  obtain ⟨rfl, rfl, rfl⟩ := trodAll_nil r1
  obtain rfl : args = #[v0, v1] := by cases args; simp_all
  obtain ⟨rfl, rfl⟩ := trodVars_none hV
  obtain ⟨s0, rfl, rfl, rfl, w0⟩ := open_string Try.underlying9 (hval 0 9 v0 rfl rfl) h0
  have k1 := h1
  have lt1 : ∀ x ∈ p1, x.block < W.heap.size := by obtain ⟨m, hm⟩ := k1; exact DataW.trod_lt m _ _ _ hm
  obtain ⟨l1, row1, shp1, bk1⟩ := open_strs Try.underlying22 (hval 1 22 v1 rfl rfl) h1
  clear hA0 hval0
  have hk : Rows.uptoBulkAll ([.lit (.string s0.data.toList), d1] ++ [] : List (DataW H)) ≤ 1048576 := of_decide_eq_true hk0
  have zz : (joinL l1).length ≤ 1048576 ∧ s0.size ≤ 1048576 := by
    simp only [List.append_nil, Rows.uptoBulkAll] at hk
    simp only [Rows.uptoBulk] at hk
    simp at hk
    omega
  have z0 : (joinL l1).length ≤ 1048576 := zz.1
  have z1 := zz.2
  refine (walk s0 v1 l1 z1 z0 W row1).mono fun e W' ⟨he, bel⟩ => ?_
  subst he
  exact ⟨_, rfl, _, _, _, [], _, [], hW', trodAll_mk1 (shut_bool Try.underlying4 _), (trodAll_cons_mk (shut_string Try.underlying9 w0) (trodAll_cons_mk (Below.trod laidOut (by kernel_rfl) (of_decide_eq_true (by kernel_rfl)) k1 bel lt1) trodAll_mk0)), rfl, bel.frame _, fun h => by cases h⟩

theorem over : Rows.linesBackUptoRow.holds Try.pinned (Rows.OpenSpec.upto Rows.linesBackSpec) :=
  OpenClaim.holds_of_cond 6 Try.f6 rfl rfl rfl rfl rfl rfl rfl ⟨rfl, rfl, rfl, rfl, rfl⟩ rfl rfl rfl rfl rfl (by kernel_rfl) Try.func6 (by kernel_rfl)
    (of_decide_eq_true (by kernel_rfl)) (by unfold Func.isWrapper; first | (rw [if_pos (by decide +kernel)]; kernel_rfl) | (rw [if_neg (by decide +kernel)]; exact ⟨rfl, rfl⟩))
    (fun os started H enc _ F0 => lifted os started H enc F0)

end back

/-- The statement. -/
theorem linesBack_holds : Rows.LinesBackUptoSaid := back.over
#print axioms linesBack_holds
end Go.Proofs.Ytfmgpcefghoncaa
