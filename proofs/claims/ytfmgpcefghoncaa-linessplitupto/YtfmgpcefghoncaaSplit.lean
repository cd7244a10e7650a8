/- LinesSplit: for all arguments of bulk at most 1048576: lines ahead of a newline and behind it are cut apart; a place behind a newline lies one line further; Tail has the last ones: the law returns true, and its arguments read as they did. -/
import Derived.Test.YtfmgpcefghoncaaMx
import Derived.Test.YtfmgpcefghoncaaStrs
import Derived.Test.YtfmgpcefghoncaaCuts
import Derived.Laws.AppendOwnNone
namespace Go.Proofs.Ytfmgpcefghoncaa
open Go.ChangeShapes Go.WideShapes Go.ChangeAt Go.RowKit
open Go.ChangeMaps (open_string shut_string)

theorem hide {p : Prop} (h : p) : Hid p := h

/-- A row of texts behind a row of one's own. -/
theorem append_texts {w : World} {ops : Array Oper} {rest : List Oper} {o : Oper} {a : Act} {Q : Exit → Act → World → Prop} (hgd : o.guard = none) (s x : Operand)
    (ho : o.op = .call { callee := .builtin .append, args := #[s, x], argTypes := #[22, 22] }) (base base2 : Nat) (v u : Value) (l m : List (List UInt8)) (hs : a.eval s = v)
    (hown : w.ownsRow base 9 1 v l.length (strVals l)) (hx : a.eval x = u) (hu : w.ownsRow base2 9 1 u m.length (strVals m)) (hlen : l.length + m.length ≤ 8388608) (hbase : base ≤ w.heap.size)
    (h : ∀ v' w', w'.ownsRow base 9 1 v' (l ++ m).length (strVals (l ++ m)) → w.grownBy w' v.ownBlock → wpList Try.prog ops Q rest (a.put o.dst v') w') : wpList Try.prog ops Q (o :: rest) a w := by
  obtain ⟨i0, hi, hz0, hz1, hz2⟩ := info_parts info9
  rcases (id hu).2 with ⟨rfl, h0⟩ | ⟨g, cap, cur, rfl, hg, hh, hcap, hmx, hrest⟩
  · obtain rfl : m = [] := List.eq_nil_of_length_eq_zero h0
    refine wpList_append_own_none hgd s x 22 ho base 9 i0 1 Try.underlying22 hi v l.length (strVals l) hs hown hx ?_
    exact h v w (by simpa using hown) (World.grownBy.refl _ _)
  · refine wpList_append_own _ hgd s x 22 ho base 9 i0 (.string ⟨#[]⟩) 1 16 Try.underlying22 hi hz0 hz1 hz2 rfl (by decide) v l.length (strVals l) hs hown ⟨g, 0, none⟩ m.length cap (strVals m) hx (by simp [strVals]) ?_ ?_ (by unfold maxLen; omega) (by omega) hbase ?_
    · intro j y hj
      exact hu.cells (g := g) rfl j y hj
    · intro y hy
      simp only [strVals, List.mem_map] at hy
      obtain ⟨z, -, rfl⟩ := hy
      rfl
    · intro v' w' h2 h3 _
      exact h v' w' (by simpa [strVals] using h2) h3
namespace split

theorem Row.back {W : World} {g n c : Nat} {l : List (List UInt8)} (h : Row W (.slice (some ⟨g, 0, none⟩) n c) l) (o : Nat) (ho : o ≤ l.length) (c' : Nat) : Row W (.slice (some ⟨g, o, none⟩) (l.length - o) c') (l.drop o) := by
  rcases h with ⟨rfl, p', c2, e⟩ | ⟨g2, off, c2, e, hc⟩
  · exact .inl ⟨by simp, some ⟨g, o, none⟩, c', by simp⟩
  · cases e
    refine .inr ⟨g, o, c', by simp, fun i hi => ?_⟩
    have h1 := hc (o + i) (by simp at hi; omega)
    rw [Nat.zero_add] at h1
    rw [h1]
    simp

theorem num_step (a b : List UInt8) : numL (a ++ 10 :: b) (a.length + 1) = numL (a ++ 10 :: b) a.length + 1 := by
  have e1 : (a ++ 10 :: b).take (a.length + 1) = a ++ [10] := by rw [List.take_length_add_append]; rfl
  have e2 : (a ++ 10 :: b).take a.length = a := List.take_left
  rw [numL, numL, e1, e2]
  simp
  omega

theorem len_size (s : ByteArray) : s.data.toList.length = s.size := by simp

theorem text_eq (a b : ByteArray) : (a ++ ⟨#[10]⟩ ++ b).data.toList = a.data.toList ++ 10 :: b.data.toList := by simp
theorem front_eq (a : ByteArray) : (a ++ ⟨#[10]⟩).data.toList = a.data.toList ++ [10] := by simp

set_option maxRecDepth 100000 in
set_option maxHeartbeats 1000000 in
theorem walk (a b : ByteArray) (n : Int) (ha : a.size ≤ 1048576) (hb : b.size ≤ 1048576) (hn : -9223372036854775808 ≤ n ∧ n ≤ 9223372036854775807) (w : World) : Calls Try.prog 7 #[.string a, .string b, .int .i64 n] w fun e w' => e = .returned (.bool true) ∧ Below w.heap.size w w' := by
  have hta : (a ++ ⟨#[10]⟩ : ByteArray).size = a.size + 1 := by simp; rfl
  have htx : (a ++ ⟨#[10]⟩ ++ b : ByteArray).size = a.size + 1 + b.size := by simp; rfl
  have hc1 := cutL_le (a ++ ⟨#[10]⟩ : ByteArray).data.toList
  have hc2 := cutL_le b.data.toList
  have hsa : (a ++ ⟨#[10]⟩ : ByteArray).data.toList.length = (a ++ ⟨#[10]⟩ : ByteArray).size := by rw [← ByteArray.size_data]; simp
  have hsb : b.data.toList.length = b.size := by simp
  have hcs : cutL (a ++ ⟨#[10]⟩ ++ b : ByteArray).data.toList = cutL (a ++ ⟨#[10]⟩ : ByteArray).data.toList ++ cutL b.data.toList := by
    rw [text_eq, front_eq, cut_split]
  have hb1 : (cutL (a ++ ⟨#[10]⟩ : ByteArray).data.toList).length ≤ 1048577 := by omega
  have hb2 : (cutL b.data.toList).length ≤ 1048577 := by omega
  obtain ⟨L, hLd⟩ : ∃ L, cutL (a ++ ⟨#[10]⟩ ++ b : ByteArray).data.toList = L := ⟨_, rfl⟩
  obtain ⟨F, hFd⟩ : ∃ F, cutL (a ++ ⟨#[10]⟩ : ByteArray).data.toList = F := ⟨_, rfl⟩
  obtain ⟨G, hGd⟩ : ∃ G, cutL b.data.toList = G := ⟨_, rfl⟩
  have hCA := cutCall (a ++ ⟨#[10]⟩ : ByteArray) (by omega)
  have hCB := cutCall b (by omega)
  rw [hLd, hFd, hGd] at hcs
  rw [hFd] at hb1 hCA
  rw [hGd] at hb2 hCB
  have HLD := hide hLd
  have HCA := hide hCA
  have HCB := hide hCB
  clear hLd hFd hGd hCA hCB
  have HB1 := hide (hb1)
  have HB2 := hide (hb2)
  have HTA := hide (hta)
  have HTX := hide (htx)
  have HS := hide hcs
  clear hcs hc1 hc2 hsa hsb hta htx hb1 hb2
  go_enter Try.func7, Try.ntmps7
  go_wp2_with fail
  refine (awake_any w).mono ?_
  rintro e w1 ⟨rfl, hB1⟩
  go_wp2_with fail
  refine (HCA.out w1).mono ?_
  rintro e w2 ⟨v2, rfl, hown2, hb2⟩
  have hB2 := hB1.trans (hb2.mono hB1.size)
  clear hB1 hb2
  obtain ⟨ao2, cp2, rfl⟩ := owns_shape hown2
  have HO2 := hide (hown2)
  clear hown2
  go_wp2_with (at_builtin; refine append_texts rfl _ _ rfl w.heap.size w1.heap.size _ _ [] _ rfl (World.ownsRow_nil _ _ _ _) rfl HO2.out (by have := HB1.out; simp only [List.length_nil]; omega) hB2.size ?_; intro v3 w3 hown3 hg3; rw [List.nil_append] at hown3; have hB3 := hB2.grown hg3 hB2.size (fun k hk => by cases hk); obtain ⟨ao3, cp3, rfl⟩ := owns_shape hown3; have HO3 := hide (hown3); clear hown3 HO2 hg3 hB2)
  refine (HCB.out w3).mono ?_
  rintro e w4 ⟨v4, rfl, hown4, hb4⟩
  have HO5 := hide (owns_below HO3.out hb4)
  have hB4 := hB3.trans (hb4.mono hB3.size)
  clear hB3 hb4 HO3
  obtain ⟨ao4, cp4, rfl⟩ := owns_shape hown4
  have HO4 := hide (hown4)
  clear hown4
  go_wp2_with (at_builtin; refine append_texts rfl _ _ rfl w.heap.size w3.heap.size _ _ _ _ rfl HO5.out rfl HO4.out (by have := HB1.out; have := HB2.out; omega) hB4.size ?_; intro v6 w6 hown6 hg6; have hB6 := hB4.grown hg6 hB4.size (owns_block HO5.out); rw [← HS.out] at hown6; have HO6 := hide (hown6); obtain ⟨ao6, cp6, rfl⟩ := owns_shape hown6; clear HO5 HO4 hg6 hB4 HS HB1 HB2 hown6)
  have hown6 := HO6.out
  have hLd := HLD.out
  clear HO6 HLD
  have hta := HTA.out
  have htx := HTX.out
  clear HTA HTX
  have hcT := cutL_le (a ++ ⟨#[10]⟩ ++ b : ByteArray).data.toList
  have hsT : (a ++ ⟨#[10]⟩ ++ b : ByteArray).data.toList.length = (a ++ ⟨#[10]⟩ ++ b : ByteArray).size := len_size _
  have hne : cutL (a ++ ⟨#[10]⟩ ++ b : ByteArray).data.toList ≠ [] := cutL_ne (by rw [text_eq]; simp)
  have hnum : numL (a ++ ⟨#[10]⟩ ++ b : ByteArray).data.toList (a.size + 1) = numL (a ++ ⟨#[10]⟩ ++ b : ByteArray).data.toList a.size + 1 := by
    rw [text_eq]
    exact num_step a.data.toList b.data.toList
  have hnl : numL (a ++ ⟨#[10]⟩ ++ b : ByteArray).data.toList a.size ≤ a.size + 1 := by
    unfold numL
    have := List.count_le_length (a := (10 : UInt8)) (l := ((a ++ ⟨#[10]⟩ ++ b : ByteArray).data.toList).take a.size)
    simp only [List.length_take] at this
    omega
  have hN1 := number_in (a ++ ⟨#[10]⟩ ++ b : ByteArray) (by omega) a.size (by omega)
  have hN2 := number_in (a ++ ⟨#[10]⟩ ++ b : ByteArray) (by omega) (a.size + 1) (by omega)
  have hT := tail_any (a ++ ⟨#[10]⟩ ++ b : ByteArray) (by omega) n hn.2
  have hC := cutCall (a ++ ⟨#[10]⟩ ++ b : ByteArray) (by omega)
  rw [hnum] at hN2
  have hsz : (a ++ ⟨#[10]⟩ ++ b : ByteArray).size ≤ 2097153 := by omega
  clear hta htx hnum
  generalize hX : (a ++ ⟨#[10]⟩ ++ b : ByteArray) = X at *
  generalize hQ : numL X.data.toList a.size = q at *
  clear hX hQ
  rw [hLd] at hcT hne hT hC
  clear hLd
  obtain ⟨k, hk, hmm, hTk⟩ : ∃ k : Nat, k ≤ L.length ∧ min (max n 0) (L.length : Int) = (k : Int) ∧ tailL L n = L.drop (L.length - k) := by
    refine ⟨min n.toNat L.length, by omega, by omega, ?_⟩
    unfold tailL
    split
    · congr 1
      omega
    · rw [List.drop_of_length_le (by omega)]
  rw [hTk] at hT
  have hlT : (L.drop (L.length - k)).length = k := by simp; omega
  rw [hlT] at hT
  have HN1 := hide (hN1)
  have HN2 := hide (hN2)
  have HT := hide (hT)
  have HC := hide (hC)
  clear hN1 hN2 hT hC hTk
  rcases (id hown6).2 with ⟨-, h0⟩ | ⟨g, cap, cur, e6, hg, hh, hcap, hmx, hrest⟩
  · exact absurd (List.eq_nil_of_length_eq_zero h0) hne
  cases e6
  have HO6 := hide (hown6)
  clear hown6 hh hrest
  refine (HC.out _).mono ?_
  rintro e w7 ⟨v7, rfl, hown7, hb7⟩
  have HO7 := hide (owns_below HO6.out hb7)
  have hB7 := hB6.trans (hb7.mono hB6.size)
  clear HO6 hB6 hb7
  obtain ⟨ao7, cp7, rfl⟩ := owns_shape hown7
  have HR7 := hide (Row.of_owns hown7)
  clear hown7
  go_wp2_with fail
  have hsm := same_any _ _ _ _ w7 HR7.out (Row.of_owns HO7.out) (by omega) (by omega)
  refine hsm.mono ?_
  rintro e w8 ⟨rfl, hb8⟩
  rw [decide_eq_true rfl]
  have HO8 := hide (owns_below HO7.out hb8)
  have hB8 := hB7.trans (hb8.mono hB7.size)
  clear HO7 hB7 hb8 HR7
  go_wp2_with fail
  refine (HN1.out _).mono ?_
  rintro e w9 ⟨rfl, e9⟩
  have e9 := e9.symm
  subst e9
  go_wp2_with fail
  refine (HN2.out _).mono ?_
  rintro e w9 ⟨rfl, e9⟩
  have e9 := e9.symm
  subst e9
  go_wp2_with fail
  refine (HT.out _).mono ?_
  rintro e w9 ⟨v9, rfl, hown9, hb9⟩
  have HO9 := hide (owns_below HO8.out hb9)
  have hB9 := hB8.trans (hb9.mono hB8.size)
  clear HO8 hB8 hb9
  obtain ⟨ao9, cp9, rfl⟩ := owns_shape hown9
  have HR9 := hide (Row.of_owns (l := L.drop (L.length - k)) (by rw [hlT]; exact hown9))
  clear hown9
  obtain ⟨o, ho⟩ : ∃ o : Nat, L.length - k = o := ⟨_, rfl⟩
  rw [ho] at HR9
  have hsub : (L.length : Int) - (k : Int) = (o : Int) := by omega
  have hol : o ≤ L.length := by omega
  have hoc : o ≤ cp6 := by omega
  have HL : Hid (L.length ≤ 2097153) := by show _ ≤ _; omega
  have HK : Hid (L.length = o + k) := by show _ = _; omega
  have hq2 : q ≤ 1048577 := by omega
  have hL2 : L.length ≤ 2097153 := HL.out
  clear hne hlT ho hcT hsT hsz hnl hg hmx
  have HRB := hide (Row.back (Row.of_owns HO9.out) o hol (cp6 - o))
  have HRE : Hid (o = cp6 → Row w9 (.slice (some ⟨g, 0, none⟩) (L.length - o) 0) (L.drop o)) := by
    intro e
    have : L.length - o = 0 := by omega
    rw [this, List.drop_of_length_le (by omega)]
    exact .inl ⟨rfl, _, _, rfl⟩
  go_wp2_with fail
  all_goals
    refine (same_any _ _ _ _ w9 HR9.out (by first | exact HRB.out | exact HRE.out (by omega)) (by rw [List.length_drop]; omega) (by rw [List.length_drop]; omega)).mono ?_
    rintro e wA ⟨rfl, hbA⟩
    rw [decide_eq_true rfl]
    have hBA := hB9.trans (hbA.mono hB9.size)
    clear HR9 HRB HRE HO9 hB9 hbA
    go_wp2
    go_ret
    exact ⟨rfl, hBA⟩

theorem own : ownKnob Try.prog.godebug = none := by kernel_rfl
theorem laidOut : laidOutB Try.prog = true := by kernel_rfl

set_option maxHeartbeats 1000000 in
set_option maxRecDepth 100000 in
theorem lifted (os : Os) (started : os.Started) (H : Type) (enc : TypeId × Value → H) (F0 : Stop.Interp) :
    ReturnsInHanded {} Try.checked os 7 .any ((Rows.OpenSpec.upto Rows.linesSplitSpec).pre6 enc Try.prog Try.f7 Rows.linesSplitUptoRow.domain false) (((Rows.OpenSpec.upto Rows.linesSplitSpec).at F0).post enc Try.prog Try.f7 false true false false) := by
  refine returnsInHanded_of_cond (C := Try.checked) (s := (Rows.OpenSpec.upto Rows.linesSplitSpec)) (k := Rows.uptoSmall) rfl own started (by kernel_rfl) Try.func7
    (OpenSpec.witness (enc := enc) (C := Try.checked) (s := (Rows.OpenSpec.upto Rows.linesSplitSpec)) (k := Rows.uptoSmall) rfl false ⟨#[], #[.string ⟨#[]⟩, .string ⟨#[]⟩, .int .i64 0], []⟩ 8 (by kernel_rfl) (by kernel_rfl) (by kernel_rfl)
      (x := ([.lit (.string []), .lit (.string []), .lit (.int .i64 0)], [], [])) (by kernel_rfl) (by kernel_rfl) (by kernel_rfl)) ?_
  intro W base args ds gs before hval0 hW _ hk0 _
  have hval : ∀ (j : Nat) t v, Try.f7.params[j]? = some t → args[j]? = some v → Value.okWide Try.prog W .any base t v := hval0
  have hW' := hW
  obtain ⟨p, q, hA0, hV, rfl, hfz, hnd⟩ := hW
  have hA : DataW.TrodAll enc Try.prog W 0 (fun _ => true) true Try.f7.params.toList args.toList ds p := hA0
  rw [Try.params7] at hA hval
  obtain ⟨v0, vs0, d0, ds0, p0, q0, hargs, rfl, rfl, h0, r0⟩ := trodAll_cons hA
  obtain ⟨v1, vs1, d1, ds1, p1, q1, rfl, rfl, rfl, h1, r1⟩ := trodAll_cons r0
  obtain ⟨v2, vs2, d2, ds2, p2, q2, rfl, rfl, rfl, h2, r2⟩ := trodAll_cons r1
  obtain ⟨rfl, rfl, rfl⟩ := trodAll_nil r2
  obtain rfl : args = #[v0, v1, v2] := by cases args; simp_all
  obtain ⟨rfl, rfl⟩ := trodVars_none hV
  obtain ⟨s0, rfl, rfl, rfl, w0⟩ := open_string Try.underlying9 (hval 0 9 v0 rfl rfl) h0
  obtain ⟨s1, rfl, rfl, rfl, w1⟩ := open_string Try.underlying9 (hval 1 9 v1 rfl rfl) h1
  obtain ⟨a2, rfl, rfl, rfl, w2⟩ := open_int Try.underlying3 (hval 2 3 v2 rfl rfl) h2
  clear hA0 hval0
  have hk : Rows.uptoBulkAll ([.lit (.string s0.data.toList), .lit (.string s1.data.toList), .lit (.int .i64 a2)] ++ [] : List (DataW H)) ≤ 1048576 := of_decide_eq_true hk0
  have zz : s0.size ≤ 1048576 ∧ s1.size ≤ 1048576 := by
    simp only [List.append_nil, Rows.uptoBulkAll, Rows.uptoBulk] at hk
    simp at hk
    omega
  have z0 := zz.1
  have z1 := zz.2
  refine (walk s0 s1 a2 z0 z1 (by have h := w2; simp [Lit.wf] at h; exact ⟨h.1, h.2⟩) W).mono fun e W' ⟨he, bel⟩ => ?_
  subst he
  exact ⟨_, rfl, _, _, _, [], _, [], hW', trodAll_mk1 (shut_bool Try.underlying4 _), (trodAll_cons_mk (shut_string Try.underlying9 w0) (trodAll_cons_mk (shut_string Try.underlying9 w1) (trodAll_cons_mk (shut_int Try.underlying3 w2) trodAll_mk0))), rfl, bel.frame _, fun h => by cases h⟩

theorem over : Rows.linesSplitUptoRow.holds Try.pinned (Rows.OpenSpec.upto Rows.linesSplitSpec) :=
  OpenClaim.holds_of_cond 7 Try.f7 rfl rfl rfl rfl rfl rfl rfl ⟨rfl, rfl, rfl, rfl, rfl⟩ rfl rfl rfl rfl rfl (by kernel_rfl) Try.func7 (by kernel_rfl)
    (of_decide_eq_true (by kernel_rfl)) (by unfold Func.isWrapper; first | (rw [if_pos (by decide +kernel)]; kernel_rfl) | (rw [if_neg (by decide +kernel)]; exact ⟨rfl, rfl⟩))
    (fun os started H enc _ F0 => lifted os started H enc F0)

end split

/-- The statement. -/
theorem linesSplit_holds : Rows.LinesSplitUptoSaid := split.over
#print axioms linesSplit_holds
end Go.Proofs.Ytfmgpcefghoncaa
