/- BracketBack: the text of a set, with anything in front and behind, is read as the set; front and tail of at most 1048576 bytes together. -/
import Derived.Test.YtolkbemclkgmmaaAwake
import Derived.Test.YtolkbemclkgmmaaChk
import Derived.Test.YtolkbemclkgmmaaOpen
import Derived.Test.YtolkbemclkgmmaaRows
import Derived.ChangeSame
import Derived.JoinedOf
import Derived.JoinedAt
import Derived.JoinedStill
import Derived.JoinedCond
import Derived.RowKit
import Derived.ProofKit
import Derived.ShutString
import Derived.ChangeShapes
import Derived.ChangeMaps5
import Derived.OpenShut
import Derived.Laws.IdiomArrays
import Derived.Deep.DeepHandedRow
import Derived.Lib.LaidTab
import Derived.Shelf.Vars
namespace Go.Proofs.Ytolkbemclkgmmaa
open Go.ChangeShapes Go.WideShapes Go.ChangeAt Go.RowKit
open Go.ChangeMaps (open_string shut_string)
open Go.Sort

namespace back
set_option maxRecDepth 100000 in
set_option maxHeartbeats 1000000 in
theorem walk (p : Nat → Bool) (a c : ByteArray) (hs : a.size + c.size ≤ 1048576) (w : World) (hg : Glob w) : Calls Try.prog 5 #[.agg #[.int .u64 (wd p 0 : Nat), .int .u64 (wd p 1 : Nat), .int .u64 (wd p 2 : Nat), .int .u64 (wd p 3 : Nat)], .string a, .string c] w fun e w' => e = .returned (.bool true) ∧ Below w.heap.size w w' := by
  obtain ⟨q, hq, hIs⟩ := back_parse p a c
  have hT := textL_len p
  generalize hl : textL (mem p 256) = l at *
  have hsz : (a ++ bstr l ++ c).size ≤ 1073741824 := by rw [ByteArray.size_append, ByteArray.size_append, bstr_size]; omega
  have HP : Hid (∀ w, Glob w → Calls Try.prog 9 #[.string (a ++ bstr l ++ c), .int .i64 (a.size : Int)] w fun e w' => e = .returned (.tuple #[.agg #[.int .u64 (wd q 0 : Nat), .int .u64 (wd q 1 : Nat), .int .u64 (wd q 2 : Nat), .int .u64 (wd q 3 : Nat)], .int .i64 ((a.size + l.length : Nat) : Int), .int .i64 0]) ∧ Below w.heap.size w w') := brows.hide2 (fun w hg => by
    have h := parse_any _ hsz (a.size : Int) w hg
    rw [hq] at h
    exact h)
  have HT : Hid (∀ w, Calls Try.prog 12 #[.agg #[.int .u64 (wd p 0 : Nat), .int .u64 (wd p 1 : Nat), .int .u64 (wd p 2 : Nat), .int .u64 (wd p 3 : Nat)]] w fun e w' => e = .returned (.string (bstr l)) ∧ Below w.heap.size w w') := brows.hide2 (fun w => by
    have h := text_any p w
    rw [hl] at h
    exact h)
  have hbl := bstr_size l
  have HBL := brows.hide2 hbl
  have k1 : ¬ 9223372036854775807 < a.size + (bstr l).size := by omega
  have k2 : ¬ 9223372036854775807 < a.size + (bstr l).size + c.size := by omega
  clear hl hq hsz hbl
  go_enter Try.func5, Try.ntmps5
  go_wp2_with fail
  have hB0 : Below w.heap.size w (w.alloc (.cells #[.int .u64 (wd p 0 : Nat), .int .u64 (wd p 1 : Nat), .int .u64 (wd p 2 : Nat), .int .u64 (wd p 3 : Nat)] 24)) := (Below.refl _ _).alloc (Nat.le_refl _) _
  refine (awake_any _ (hg.below hB0 (Nat.le_refl _))).mono ?_
  rintro e' w1 ⟨rfl, hb1⟩
  have hs0 := (holds4_new w p 24).below hb1 (holds4_new w p 24).lt
  have hB1 := hB0.trans (hb1.mono hB0.size)
  obtain ⟨⟨c0, c1, c2, c3⟩, -⟩ := id hs0
  go_wp2_with fail
  refine (HT.out _).mono ?_
  rintro e' w2 ⟨rfl, hb2⟩
  clear c0 c1 c2 c3
  have hs2 := hs0.below hb2 hs0.lt
  have hB2 := hB1.trans (hb2.mono hB1.size)
  go_wp2_with fail
  refine (HP.out _ (hg.below hB2 (Nat.le_refl _))).mono ?_
  rintro e' w3 ⟨rfl, hb3⟩
  have hs3 := (hs2.below hb3 hs2.lt).alloc (.cells #[.int .u64 (wd q 0 : Nat), .int .u64 (wd q 1 : Nat), .int .u64 (wd q 2 : Nat), .int .u64 (wd q 3 : Nat)] 24)
  have ht3 := holds4_new w3 q 24
  have hB3 := hB2.trans (hb3.mono hB2.size)
  have hB4 := hB3.alloc hB3.size (.cells #[.int .u64 (wd q 0 : Nat), .int .u64 (wd q 1 : Nat), .int .u64 (wd q 2 : Nat), .int .u64 (wd q 3 : Nat)] 24)
  obtain ⟨⟨c0, c1, c2, c3⟩, -⟩ := hs3
  obtain ⟨⟨d0, d1, d2, d3⟩, -⟩ := ht3
  have hqe : ∀ w, (binOp .eql 24 (setW q) (setW p)).run Try.prog w = .ok (.bool true) w := fun w => by rw [run_eql_set, eqB_of hIs]
  have hbl := HBL.out
  have k3 : IntKind.i64.wrap ((a.size : Int) + (l.length : Int)) = (a.size : Int) + (l.length : Int) := by rw [IntKind.wrap_i64]; omega
  clear hs2 hb1 hb2 hb3 hB0 hB1 hB2 hB3 hs0 HBL HT HP
  go_wp2
  go_ret
  exact ⟨rfl, hB4⟩

theorem own : ownKnob Try.prog.godebug = none := by kernel_rfl
theorem laidOut : laidOutB Try.prog = true := by kernel_rfl

/-- bytealg.MaxLen's cell holds some int. -/
theorem glob {W : World} (h : W.ShapedOpen Try.prog) : Glob W :=
  cell_of_shapedOpen_int (g := 0) (t := 3) (k := .i64) (zero := #[.int .i64 0]) h (of_decide_eq_true (by kernel_rfl)) (by kernel_rfl) rfl (by kernel_rfl) (by kernel_rfl) Try.underlying3

set_option maxHeartbeats 1000000 in
set_option maxRecDepth 100000 in
theorem lifted (os : Os) (started : os.Started) (H : Type) (enc : TypeId × Value → H) (F0 : Stop.Interp) :
    ReturnsInHanded {} Try.checked os 5 .any ((Rows.OpenSpec.upto Rows.bracketBackSpec).preRow enc Try.prog Try.f5 Rows.bracketBackUptoRow.domain false Rows.bracketBackUptoRow.laid) (((Rows.OpenSpec.upto Rows.bracketBackSpec).at F0).post enc Try.prog Try.f5 false true false false) := by
  refine returnsInHanded_of_row (C := Try.checked) (s := (Rows.OpenSpec.upto Rows.bracketBackSpec)) own started (by kernel_rfl) Try.func5
    (witness_row_at (enc := enc) (C := Try.checked) false (World.holding Try.prog os ⟨#[], #[], []⟩) #[.agg #[.int .u64 0, .int .u64 0, .int .u64 0, .int .u64 0], .string ⟨#[]⟩, .string ⟨#[]⟩] rfl (by kernel_rfl) (by kernel_rfl) (by kernel_rfl)
      (OpenSpec.preRow_of_cond 8 (x := ([.agg [.lit (.int .u64 0), .lit (.int .u64 0), .lit (.int .u64 0), .lit (.int .u64 0)], .lit (.string []), .lit (.string [])], [], [])) (by kernel_rfl) (by kernel_rfl) (fun k hk => by cases hk; kernel_rfl) (by kernel_rfl) (laidMet_of_run' 8 (by kernel_rfl) (by kernel_rfl)))) ?_
  intro W base args ds gs before hval0 hW _ hcond _ _ hsh _
  have hk0 : Rows.uptoSmall H (ds ++ gs) = true := hcond _ rfl
  have hg := glob hsh
  have hval : ∀ (j : Nat) t v, Try.f5.params[j]? = some t → args[j]? = some v → Value.okWide Try.prog W .any base t v := hval0
  have hW' := hW
  obtain ⟨p, q, hA0, hV, rfl, hfz, hnd⟩ := hW
  have hA : DataW.TrodAll enc Try.prog W 0 (fun _ => true) true Try.f5.params.toList args.toList ds p := hA0
  rw [Try.params5] at hA hval
  obtain ⟨v0, vs0, d0, ds0, p0, q0, hargs, rfl, rfl, h0, r0⟩ := trodAll_cons hA
  obtain ⟨v1, vs1, d1, ds1, p1, q1, rfl, rfl, rfl, h1, r1⟩ := trodAll_cons r0
  obtain ⟨v2, vs2, d2, ds2, p2, q2, rfl, rfl, rfl, h2, r2⟩ := trodAll_cons r1
  obtain ⟨rfl, rfl, rfl⟩ := trodAll_nil r2
  obtain rfl : args = #[v0, v1, v2] := by cases args; simp_all
  obtain ⟨rfl, rfl⟩ := trodVars_none hV
  have k0 := h0
  have lt0 : ∀ x ∈ p0, x.block < W.heap.size := by obtain ⟨m, hm⟩ := k0; exact DataW.trod_lt m _ _ _ hm
  obtain ⟨a0, rfl⟩ := open_set (hval 0 24 v0 rfl rfl) h0
  obtain ⟨s1, rfl, rfl, rfl, w1⟩ := open_string Try.underlying9 (hval 1 9 v1 rfl rfl) h1
  obtain ⟨s2, rfl, rfl, rfl, w2⟩ := open_string Try.underlying9 (hval 2 9 v2 rfl rfl) h2
  clear hA0 hval0
  have hk : Rows.uptoBulkAll ([d0, .lit (.string s1.data.toList), .lit (.string s2.data.toList)] ++ [] : List (DataW H)) ≤ 1048576 := of_decide_eq_true hk0
  have z0 : s1.size + s2.size ≤ 1048576 := by
    simp only [List.append_nil, Rows.uptoBulkAll, Rows.uptoBulk] at hk
    simp at hk
    omega
  refine (walk a0 s1 s2 z0 W hg).mono fun e W' ⟨he, bel⟩ => ?_
  subst he
  exact ⟨_, rfl, _, _, _, [], _, [], hW', trodAll_mk1 (shut_bool Try.underlying4 _), (trodAll_cons_mk (Below.trod laidOut (by kernel_rfl) (of_decide_eq_true (by kernel_rfl)) k0 bel lt0) (trodAll_cons_mk (shut_string Try.underlying9 w1) (trodAll_cons_mk (shut_string Try.underlying9 w2) trodAll_mk0))), rfl, bel.frame _, fun h => by cases h⟩

theorem over : Rows.bracketBackUptoRow.holds Try.pinned (Rows.OpenSpec.upto Rows.bracketBackSpec) :=
  OpenClaim.holds_of_cond 5 Try.f5 rfl rfl rfl rfl rfl rfl rfl ⟨rfl, rfl, rfl, rfl, rfl⟩ rfl rfl rfl rfl rfl (by kernel_rfl) Try.func5 (by kernel_rfl)
    (of_decide_eq_true (by kernel_rfl)) (by unfold Func.isWrapper; first | (rw [if_pos (by decide +kernel)]; kernel_rfl) | (rw [if_neg (by decide +kernel)]; exact ⟨rfl, rfl⟩))
    (fun os started H enc _ F0 => by rw [OpenClaim.pre_eq_preRow]; exact lifted os started H enc F0)

/-- The statement. -/
theorem proved : Rows.BracketBackUptoSaid := over
end back

/-- The statement. -/
theorem bracketBack_holds : Rows.BracketBackUptoSaid := back.proved
end Go.Proofs.Ytolkbemclkgmmaa
