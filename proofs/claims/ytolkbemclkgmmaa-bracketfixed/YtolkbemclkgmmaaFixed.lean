/- BracketFixed: the document's examples. Closed. -/
import Derived.Test.YtolkbemclkgmmaaAwake
import Derived.Test.YtolkbemclkgmmaaFix
import Derived.Test.YtolkbemclkgmmaaOpen
import Derived.Test.YtolkbemclkgmmaaRows
import Derived.ChangeSame
import Derived.JoinedOf
import Derived.JoinedAt
import Derived.JoinedStill
import Derived.JoinedCond
import Derived.RowKit
import Derived.ProofKit
import Derived.ShutString
import Derived.ChangeShapes
import Derived.ChangeMaps5
import Derived.OpenShut
import Derived.Laws.IdiomArrays
import Derived.Deep.DeepHandedRow
import Derived.Lib.LaidTab
import Derived.Shelf.Vars
namespace Go.Proofs.Ytolkbemclkgmmaa
open Go.ChangeShapes Go.WideShapes Go.ChangeAt Go.RowKit
open Go.ChangeMaps (open_string shut_string)
open Go.Sort

namespace fixed
def fixV : List Value := fixT.map fun l => Value.string (fixB l)
def wantV : List Value := fixW.flatMap fun p => [.int .u64 (wd p 0 : Nat), .int .u64 (wd p 1 : Nat), .int .u64 (wd p 2 : Nat), .int .u64 (wd p 3 : Nat)]
def errV : List Value := fixE.map fun e => Value.int .i64 e
/-- The texts, the sets and the errors, in a block each. -/
def TB (W : World) (b : Nat) : Prop := W.heap[b]? = some (.cells fixV.toArray 9 (0, 0))
def WB (W : World) (b : Nat) : Prop := W.heap[b]? = some (.cells wantV.toArray 24 (0, 0))
def EB (W : World) (b : Nat) : Prop := W.heap[b]? = some (.cells errV.toArray 25 (0, 0))

theorem below_next {a b c : World} (h : Below a.heap.size a b) (k : Below b.heap.size b c) : Below a.heap.size a c := h.trans (k.mono h.size)

theorem blk {W W' : World} {B b : Nat} {o : Obj} (h : W.heap[b]? = some o) (hb : Below B W W') (hlt : W.heap.size ≤ B) : W'.heap[b]? = some o :=
  (hb.block b (Nat.lt_of_lt_of_le (Array.getElem?_eq_some_iff.1 h).1 hlt)).trans h

theorem cell_of {W : World} {b k t : Nat} {vs : List Value} {v : Value} (h : W.heap[b]? = some (.cells vs.toArray t (0, 0))) (hk : vs[k]? = some v) : W.cell? ⟨b, k, none⟩ = some v := by
  simp [World.cell?, h, hk]

theorem want_at : ∀ (l : List (Nat → Bool)) (k j : Nat) (p : Nat → Bool), l[k]? = some p → j < 4 → (l.flatMap fun p => [Value.int .u64 (wd p 0 : Nat), .int .u64 (wd p 1 : Nat), .int .u64 (wd p 2 : Nat), .int .u64 (wd p 3 : Nat)])[4 * k + j]? = some (.int .u64 (wd p j : Nat))
  | [], k, j, p, h, _ => by simp at h
  | a :: l, 0, j, p, h, hj => by
    simp at h
    subst h
    match j, hj with
    | 0, _ => rfl
    | 1, _ => rfl
    | 2, _ => rfl
    | 3, _ => rfl
  | a :: l, k + 1, j, p, h, hj => by
    rw [List.flatMap_cons, List.getElem?_append_right (by simp; omega)]
    have := want_at l k j p (by simpa using h) hj
    rw [← this]
    congr 1
    simp
    omega

theorem fix_all (k : Nat) (hk : k < 21) : ∃ l ec, fixT[k]? = some l ∧ fixE[k]? = some ec ∧ (parseX (fixB l) 0).e = ec ∧ (fixB l).size ≤ 100 ∧ (k < 8 → ∃ p, fixW[k]? = some p ∧ eqB (parseX (fixB l) 0).q p = true) := by
  have hl : k < fixT.length := hk
  have he := fix_e classQ
  have hw := fix_w classQ
  have hq := fix_q
  have hx : ∀ l, parseX (fixB l) 0 = parseG classQ (fixB l) 0 := fun l => by rw [parseX, if_pos (by omega)]; exact parse_gen _ 0
  refine ⟨fixT[k], fixE[k]'hk, List.getElem?_eq_getElem hl, List.getElem?_eq_getElem hk, ?_, ?_, fun h8 => ?_⟩
  · rw [hx]
    have : (fixT.map (fun l => (parseG classQ (fixB l) 0).e))[k]? = fixE[k]? := by rw [he]
    rw [List.getElem?_map, List.getElem?_eq_getElem hl, List.getElem?_eq_getElem (show k < fixE.length from hk)] at this
    exact Option.some.inj this
  · have : ∀ l ∈ fixT, (fixB l).size ≤ 100 := by decide +kernel
    exact this _ (List.getElem_mem hl)
  · have h8' : k < fixW.length := h8
    refine ⟨fixW[k], List.getElem?_eq_getElem h8', ?_⟩
    rw [hx]
    rw [← hw] at hq
    have h2 : (List.zipWith eqB ((fixT.take 8).map (fun l => (parseG classQ (fixB l) 0).q)) fixW)[k]? = some true := by
      rw [hq]
      match k, h8 with
      | 0, _ => rfl
      | 1, _ => rfl
      | 2, _ => rfl
      | 3, _ => rfl
      | 4, _ => rfl
      | 5, _ => rfl
      | 6, _ => rfl
      | 7, _ => rfl
    rw [List.getElem?_zipWith, List.getElem?_map, List.getElem?_take, if_pos h8, List.getElem?_eq_getElem hl, List.getElem?_eq_getElem h8'] at h2
    simpa using h2
set_option maxRecDepth 100000 in
set_option maxHeartbeats 2000000 in
theorem walk (w : World) (hg : Glob w) : Calls Try.prog 8 #[] w fun e w' => e = .returned (.bool true) ∧ Below w.heap.size w w' := by
  have hT0 : TB (w.alloc (.cells (fixV).toArray 9)) w.heap.size := World.alloc_heap_new w _
  have hB0 : Below w.heap.size w (w.alloc (.cells (fixV).toArray 9)) := (Below.refl _ _).alloc (Nat.le_refl _) _
  go_enter Try.func8, Try.ntmps8
  go_wp2_with fail
  have HT0 := brows.hide2 hT0
  have HB0 := brows.hide2 hB0
  clear hT0 hB0
  refine (refOfD _ (by decide) _).mono ?_
  rintro e' w1 ⟨rfl, hb1⟩
  go_wp2_with fail
  refine (refOfD _ (by decide) _).mono ?_
  rintro e' w2 ⟨rfl, hb2⟩
  go_wp2_with fail
  refine (refNotD _ _).mono ?_
  rintro e' w3 ⟨rfl, hb3⟩
  go_wp2_with fail
  refine (refOfD _ (by decide) _).mono ?_
  rintro e' w4 ⟨rfl, hb4⟩
  go_wp2_with fail
  refine (refOfD _ (by decide) _).mono ?_
  rintro e' w5 ⟨rfl, hb5⟩
  go_wp2_with fail
  refine (refOfD _ (by decide) _).mono ?_
  rintro e' w6 ⟨rfl, hb6⟩
  go_wp2_with fail
  refine (refOfD _ (by decide) _).mono ?_
  rintro e' w7 ⟨rfl, hb7⟩
  go_wp2_with fail
  refine (refOfD _ (by decide) _).mono ?_
  rintro e' w8 ⟨rfl, hb8⟩
  go_wp2_with fail
  refine (refOfD _ (by decide) _).mono ?_
  rintro e' w9 ⟨rfl, hb9⟩
  go_wp2_with fail
  have hc := below_next (below_next (below_next (below_next (below_next (below_next (below_next (below_next hb1 hb2) hb3) hb4) hb5) hb6) hb7) hb8) hb9
  have hB9 : Below w.heap.size w w9 := below_next HB0.out hc
  have hT9 : TB w9 w.heap.size := blk HT0.out hc (Nat.le_refl _)
  have hW9 : WB (w9.alloc (.cells wantV.toArray 24)) w9.heap.size := World.alloc_heap_new w9 _
  have hE9 : EB ((w9.alloc (.cells wantV.toArray 24)).alloc (.cells errV.toArray 25)) (w9.heap.size + 1) := by
    have h := World.alloc_heap_new (w9.alloc (.cells wantV.toArray 24)) (.cells errV.toArray 25)
    rw [World.size_alloc] at h
    exact h
  have hAA : Below w9.heap.size w9 ((w9.alloc (.cells wantV.toArray 24)).alloc (.cells errV.toArray 25)) := ((Below.refl _ _).alloc (Nat.le_refl _) _).alloc (by simp) _
  have hT10 := blk hT9 hAA (Nat.le_refl _)
  have hW10 : WB ((w9.alloc (.cells wantV.toArray 24)).alloc (.cells errV.toArray 25)) w9.heap.size := blk hW9 ((Below.refl _ _).alloc (Nat.le_refl _) _) (Nat.le_refl _)
  have hB10 := below_next hB9 hAA
  have hG : ∀ X, X = (w9.alloc (.cells wantV.toArray 24)).alloc (.cells errV.toArray 25) → TB X w.heap.size ∧ WB X w9.heap.size ∧ EB X (w9.heap.size + 1) ∧ Below w.heap.size w X := fun X h => by subst h; exact ⟨hT10, hW10, hE9, hB10⟩
  clear hT10 hW10 hE9 hB10 hAA hW9 hT9 hB9 hc hb1 hb2 hb3 hb4 hb5 hb6 hb7 hb8 hb9 HT0 HB0
  obtain ⟨gT, gW, gE, gB⟩ := hG _ rfl
  clear hG
  generalize h24 : w9.heap.size = nb at *
  go_loopw [32] (fun i wr => ∃ k : Nat, k ≤ 21 ∧ i = .int .i64 k ∧ TB wr w.heap.size ∧ WB wr nb ∧ EB wr (nb + 1) ∧ Below w.heap.size w wr) (fun i _ => (21 - intOf i).toNat)
  case atStart => exact ⟨0, by omega, rfl, gT, gW, gE, gB⟩
  case round =>
    clear gT gW gE gB
    obtain ⟨k, hk, rfl, gT, gW, gE, gB⟩ := hrel
    by_cases hlt : k < 21
    · obtain ⟨l, ec, hl, hec, hpe, hls, hpw⟩ := fix_all k hlt
      have ct := cell_of (k := k) (v := .string (fixB l)) gT (by unfold fixV; rw [List.getElem?_map, hl]; rfl)
      have hp := parse_any (fixB l) (by omega) 0 wr (hg.below gB (Nat.le_refl _))
      have k1 : (0 : Int) ≤ (k : Int) := by omega
      have k2 : (k : Int) < 21 := by omega
      have k3 : k < 21 := hlt
      generalize parseX (fixB l) 0 = it at *
      obtain ⟨ei, q, bi, eni, ni⟩ := it
      simp only [] at hp hpe hpw
      subst hpe
      go_wp2_with fail
      refine hp.mono ?_
      rintro e' w2 ⟨rfl, hb2⟩
      clear hp ct
      have hB2 := below_next gB hb2
      have gT2 := blk gT hb2 (Nat.le_refl _)
      have gW2 := blk gW hb2 (Nat.le_refl _)
      have gE2 := blk gE hb2 (Nat.le_refl _)
      have hA : Below w2.heap.size w2 (w2.alloc (.cells #[.int .u64 (wd q 0 : Nat), .int .u64 (wd q 1 : Nat), .int .u64 (wd q 2 : Nat), .int .u64 (wd q 3 : Nat)] 24)) := (Below.refl _ _).alloc (Nat.le_refl _) _
      have hB3 := below_next hB2 hA
      have gT3 : TB (w2.alloc (.cells #[.int .u64 (wd q 0 : Nat), .int .u64 (wd q 1 : Nat), .int .u64 (wd q 2 : Nat), .int .u64 (wd q 3 : Nat)] 24)) w.heap.size := blk gT2 hA (Nat.le_refl _)
      have gW3 : WB (w2.alloc (.cells #[.int .u64 (wd q 0 : Nat), .int .u64 (wd q 1 : Nat), .int .u64 (wd q 2 : Nat), .int .u64 (wd q 3 : Nat)] 24)) nb := blk gW2 hA (Nat.le_refl _)
      have gE3 : EB (w2.alloc (.cells #[.int .u64 (wd q 0 : Nat), .int .u64 (wd q 1 : Nat), .int .u64 (wd q 2 : Nat), .int .u64 (wd q 3 : Nat)] 24)) (nb + 1) := blk gE2 hA (Nat.le_refl _)
      have hs3 := holds4_new w2 q 24
      clear gT2 gW2 gE2 hA gT gW gE gB hB2 hb2
      have ce := cell_of (k := k) (v := .int .i64 ei) gE3 (by unfold errV; rw [List.getElem?_map, hec]; rfl)
      go_wp2_with fail
      generalize w2.alloc (.cells #[.int .u64 (wd q 0 : Nat), .int .u64 (wd q 1 : Nat), .int .u64 (wd q 2 : Nat), .int .u64 (wd q 3 : Nat)] 24) = W3 at *
      obtain ⟨⟨c0, c1, c2, c3⟩, -⟩ := id hs3
      by_cases h8 : k < 8
      · obtain ⟨p, hpk, hpq⟩ := hpw h8
        have d0 := cell_of (k := 4 * k + 0) gW3 (want_at fixW k 0 p hpk (by omega))
        have d1 := cell_of (k := 4 * k + 1) gW3 (want_at fixW k 1 p hpk (by omega))
        have d2 := cell_of (k := 4 * k + 2) gW3 (want_at fixW k 2 p hpk (by omega))
        have d3 := cell_of (k := 4 * k + 3) gW3 (want_at fixW k 3 p hpk (by omega))
        rw [Nat.add_zero] at d0
        rw [Nat.mul_comm 4 k] at d0 d1 d2 d3
        have k4 : (k : Int) < 8 := by omega
        have hne : ∀ w, (binOp .neq 24 (setW q) (setW p)).run Try.prog w = .ok (.bool false) w := fun w => by rw [run_neq_set, hpq]; rfl
        have HX := brows.hide2 (And.intro hpk (And.intro hpq (And.intro hl hec)))
        clear hpw hpk hpq hl hec
        go_quiet (fail)
        go_wp2
        exact ⟨⟨k + 1, by omega, by go_num, gT3, gW3, gE3, hB3.trans ⟨rfl, rfl, rfl, Nat.le_refl _, fun _ _ => rfl⟩⟩, by simp [intOf]; omega⟩
      · have k4 : ¬ (k : Int) < 8 := by omega
        clear hpw hl hec
        go_quiet (fail)
        go_wp2
        exact ⟨⟨k + 1, by omega, by go_num, gT3, gW3, gE3, hB3.trans ⟨rfl, rfl, rfl, Nat.le_refl _, fun _ _ => rfl⟩⟩, by simp [intOf]; omega⟩
    · obtain rfl : k = 21 := by omega
      have p1 : parseX ⟨#[97]⟩ 0 = .err 1 := by rw [parseX, if_pos (by omega)]; unfold parseS; rw [if_neg (by decide)]
      have p2 : parseX ⟨#[91, 97, 93]⟩ 3 = .err 1 := by rw [parseX, if_pos (by omega)]; unfold parseS; rw [if_neg (by decide)]
      have p3 : parseX ⟨#[91, 97, 93]⟩ (-1) = .err 1 := by rw [parseX, if_neg (by omega)]
      clear gT gW gE
      go_wp2_with fail
      have h1 := fun W hG => parse_any ⟨#[97]⟩ (by decide) 0 W hG
      rw [p1] at h1
      have h2 := fun W hG => parse_any ⟨#[91, 97, 93]⟩ (by decide) 3 W hG
      rw [p2] at h2
      have h3 := fun W hG => parse_any ⟨#[91, 97, 93]⟩ (by decide) (-1) W hG
      rw [p3] at h3
      simp only [It.err] at h1 h2 h3
      have H2 := brows.hide2 h2
      have H3 := brows.hide2 h3
      clear h2 h3
      refine (h1 _ (hg.below gB (Nat.le_refl _))).mono ?_
      rintro e' x1 ⟨rfl, hb1⟩
      clear h1
      have hB1 := (below_next gB hb1).alloc (below_next gB hb1).size (.cells #[.int .u64 (wd noneP 0 : Nat), .int .u64 (wd noneP 1 : Nat), .int .u64 (wd noneP 2 : Nat), .int .u64 (wd noneP 3 : Nat)] 24)
      go_wp2_with fail
      refine (H2.out _ (hg.below hB1 (Nat.le_refl _))).mono ?_
      rintro e' x2 ⟨rfl, hb2⟩
      have hB2 := (below_next hB1 hb2).alloc (below_next hB1 hb2).size (.cells #[.int .u64 (wd noneP 0 : Nat), .int .u64 (wd noneP 1 : Nat), .int .u64 (wd noneP 2 : Nat), .int .u64 (wd noneP 3 : Nat)] 24)
      go_wp2_with fail
      refine (H3.out _ (hg.below hB2 (Nat.le_refl _))).mono ?_
      rintro e' x3 ⟨rfl, hb3⟩
      have hB3 := (below_next hB2 hb3).alloc (below_next hB2 hb3).size (.cells #[.int .u64 (wd noneP 0 : Nat), .int .u64 (wd noneP 1 : Nat), .int .u64 (wd noneP 2 : Nat), .int .u64 (wd noneP 3 : Nat)] 24)
      go_wp2_with fail
      refine (awake_any _ (hg.below hB3 (Nat.le_refl _))).mono ?_
      rintro e' x4 ⟨rfl, hb4⟩
      go_wp2
      go_ret
      exact ⟨rfl, below_next hB3 hb4⟩

theorem own : ownKnob Try.prog.godebug = none := by kernel_rfl
theorem laidOut : laidOutB Try.prog = true := by kernel_rfl

/-- bytealg.MaxLen's cell holds some int. -/
theorem glob {W : World} (h : W.ShapedOpen Try.prog) : Glob W :=
  cell_of_shapedOpen_int (g := 0) (t := 3) (k := .i64) (zero := #[.int .i64 0]) h (of_decide_eq_true (by kernel_rfl)) (by kernel_rfl) rfl (by kernel_rfl) (by kernel_rfl) Try.underlying3

set_option maxHeartbeats 1000000 in
set_option maxRecDepth 100000 in
theorem lifted (os : Os) (started : os.Started) (H : Type) (enc : TypeId × Value → H) (F0 : Stop.Interp) :
    ReturnsInHanded {} Try.checked os 8 .any ((OpenSpec.ofChange Rows.bracketFixedSpec).preRow enc Try.prog Try.f8 Rows.bracketFixedRow.domain false Rows.bracketFixedRow.laid) (((OpenSpec.ofChange Rows.bracketFixedSpec).at F0).post enc Try.prog Try.f8 false true false false) := by
  refine returnsInHanded_of_row (C := Try.checked) (s := (OpenSpec.ofChange Rows.bracketFixedSpec)) own started (by kernel_rfl) Try.func8
    (witness_row_at (enc := enc) (C := Try.checked) false (World.holding Try.prog os ⟨#[], #[], []⟩) #[] rfl (by kernel_rfl) (by kernel_rfl) (by kernel_rfl)
      (OpenSpec.preRow_of_cond 8 (x := ([], [], [])) (by kernel_rfl) (by kernel_rfl) (fun k hk => by cases hk) (by kernel_rfl) (laidMet_of_run' 8 (by kernel_rfl) (by kernel_rfl)))) ?_
  intro W base args ds gs before hval0 hW _ _ _ _ hsh _
  have hg := glob hsh
  have hval : ∀ (j : Nat) t v, Try.f8.params[j]? = some t → args[j]? = some v → Value.okWide Try.prog W .any base t v := hval0
  have hW' := hW
  obtain ⟨p, q, hA0, hV, rfl, hfz, hnd⟩ := hW
  have hA : DataW.TrodAll enc Try.prog W 0 (fun _ => true) true Try.f8.params.toList args.toList ds p := hA0
  rw [Try.params8] at hA hval
  obtain ⟨hargs, rfl, rfl⟩ := trodAll_nil hA
  obtain rfl : args = #[] := by cases args; simp_all
  obtain ⟨rfl, rfl⟩ := trodVars_none hV
  clear hA0 hval0
  refine (walk  W hg).mono fun e W' ⟨he, bel⟩ => ?_
  subst he
  exact ⟨_, rfl, _, _, _, [], _, [], hW', trodAll_mk1 (shut_bool Try.underlying4 _), trodAll_mk0, rfl, bel.frame _, fun h => by cases h⟩

theorem over : Rows.bracketFixedRow.holds Try.pinned (OpenSpec.ofChange Rows.bracketFixedSpec) :=
  OpenClaim.holds_of_cond 8 Try.f8 rfl rfl rfl rfl rfl rfl rfl ⟨rfl, rfl, rfl, rfl, rfl⟩ rfl rfl rfl rfl rfl (by kernel_rfl) Try.func8 (by kernel_rfl)
    (of_decide_eq_true (by kernel_rfl)) (by unfold Func.isWrapper; first | (rw [if_pos (by decide +kernel)]; kernel_rfl) | (rw [if_neg (by decide +kernel)]; exact ⟨rfl, rfl⟩))
    (fun os started H enc _ F0 => by rw [OpenClaim.pre_eq_preRow]; exact lifted os started H enc F0)

/-- The statement. -/
theorem proved : Rows.BracketFixedSaid := over
end fixed

/-- The statement. -/
theorem bracketFixed_holds : Rows.BracketFixedSaid := fixed.proved
end Go.Proofs.Ytolkbemclkgmmaa
