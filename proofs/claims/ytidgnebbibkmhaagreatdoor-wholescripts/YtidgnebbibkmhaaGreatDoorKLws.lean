/- Of every text that show.Text writes without a refusal, at most 4096 bytes long: emit.Build of the text and of what is written answer alike: both a fault with the same error (and then check.Check of what is read answers just that fault, or the files are too many, and no operation is made), or programs with the same operations (places aside), jumps, slots, files and quietness: WholeScripts. No condition but that the listed variables (errors.errorType, the tables of math/bits, internal/strconv and unicode/utf8) read as listed. -/
import Derived.Test.YtidgnebbibkmhaaGreatDoorKWs
import Derived.Test.YtidgnebbibkmhaaGreatDoorKXw1
import Derived.Test.YtidgnebbibkmhaaGreatDoorRows
import Derived.Test.YtidgnebbibkmhaaGreatDoorTie
import Derived.Test.YtidgnebbibkmhaaGreatDoorCards
import Derived.ChangeSame
import Derived.JoinedOf
import Derived.JoinedAt
import Derived.JoinedStill
import Derived.JoinedCond
import Derived.RowKit
import Derived.ProofKit
import Derived.ShutString
import Derived.ChangeShapes
import Derived.ChangeMaps5
import Derived.OpenShut
import Derived.Laws.IdiomArrays
import Derived.Deep.DeepHandedRow
import Derived.Lib.LaidTab
import Derived.Shelf.Vars
import Derived.Lay
import Derived.MakeChecks
import Derived.SevenTiedAt
import Derived.LaidMore
import Derived.SizedLaws
set_option maxRecDepth 100000
set_option maxHeartbeats 1000000
namespace Go.Proofs.YtidgnebbibkmhaaGreatDoor
open Go.ChangeShapes Go.WideShapes Go.ChangeAt Go.RowKit
open Go.ChangeMaps (open_string shut_string)
set_option linter.unusedVariables false
def laid6 : List (String × DataW Unit) := Rows.wholeScriptsRow.laid
def plain6 : List (String × DataW Unit) := [("math/bits.deBruijn32tab", Rows.laid_math_bits_deBruijn32tab), ("math/bits.deBruijn64tab", Rows.laid_math_bits_deBruijn64tab), ("internal/strconv.uint64pow10", Rows.laid_internal_strconv_uint64pow10), ("unicode/utf8.acceptRanges", Rows.laid_unicode_utf8_acceptRanges), ("unicode/utf8.first", Rows.laid_unicode_utf8_first)]
theorem handles6 : (laid6.filter fun x => x.2.handleName?.isSome) = [("errors.errorType", Rows.laid_errors_errorType)] := by kernel_rfl
theorem plains6 : (laid6.filter fun x => x.2.handleName?.isNone) = plain6 := by kernel_rfl
theorem gl6 {W : World} (h : laidMetH Tryz.prog laid6 W) (hm : ∃ m : Int, W.cell? ⟨1, 0, none⟩ = some (.int .i64 m)) : Gl W := by
 refine ⟨hm, ?_⟩
 unfold laidMetH at h
 rw [handles6] at h
 obtain ⟨name, u, ty, e1, e2, e3, e4, e5⟩ := h.2 _ (List.mem_singleton.2 rfl)
 have en : name = [101, 114, 114, 111, 114] := (Option.some.inj e1).symm
 subst en
 obtain rfl := Option.some.inj (rt.symm.trans e2)
 have hx : ty ∈ (List.range 435).filter fun t => Tryz.prog.rowNamed t [101, 114, 114, 111, 114] := List.mem_filter.2 ⟨List.mem_range.2 (by rw [← tysize]; exact e3), e4⟩
 rw [oneRow] at hx
 obtain rfl := List.mem_singleton.1 hx
 have hh : typeHandle Tryz.prog 58 = .pointer (some ⟨7, 58, none⟩) := by kernel_rfl
 rw [hh] at e5
 simpa using World.var?_cell et e5 0
theorem gs6 {W : World} (h : laidMetH Tryz.prog laid6 W) (hm : ∃ m : Int, W.cell? ⟨1, 0, none⟩ = some (.int .i64 m)) : sho.Gs W := by
 refine ⟨hm, ?_⟩
 unfold laidMetH at h
 rw [plains6] at h
 obtain ⟨ps, hv, -, -⟩ := h.1
 obtain ⟨_, _, _, _, _, _, _, _, _, _, hv, _⟩ := hv
 obtain ⟨_, _, _, _, _, _, _, _, _, _, hv, _⟩ := hv
 obtain ⟨g, t, cs, fuel, p, q, hg, ht, hvar, hd, -, -⟩ := hv
 have ht2 : (Tryz.prog.globals[2]?).map (·.type) = some 215 := by kernel_rfl
 obtain rfl := Option.some.inj (sho.tab_num.symm.trans hg)
 obtain rfl := Option.some.inj (ht2.symm.trans ht)
 have hd2 : DataW.trod (fun _ => ()) Tryz.prog W 0 (fun _ => true) false fuel 215 cs.toList = some (Lib.tabData .u64 Lib.pow10Tab, p) := hd.trans (congrArg (fun d => some (d, p)) (by kernel_rfl))
 show World.var? Tryz.prog W "internal/strconv.uint64pow10" = _
 rw [hvar, ← Lib.cells_of_tab (n := 20) (e := 190) (by kernel_rfl) (by kernel_rfl) (by kernel_rfl) (by kernel_rfl) hd2]
theorem heap6 {W : World} (h : laidMetH Tryz.prog laid6 W) : 2 < W.heap.size := by
 unfold laidMetH at h
 rw [plains6] at h
 obtain ⟨ps, hv, -, -⟩ := h.1
 obtain ⟨_, _, _, _, _, _, _, _, _, _, hv, _⟩ := hv
 obtain ⟨_, _, _, _, _, _, _, _, _, _, hv, _⟩ := hv
 obtain ⟨g, t, cs, fuel, p, q, hg, ht, hvar, hd, -, -⟩ := hv
 rcases Nat.lt_or_ge 2 W.heap.size with h' | h'
 ·exact h'
 ·simp [World.var?, sho.tab_num, Array.getElem?_eq_none h'] at hvar
noncomputable def laidW (os : Os) : World := (startW os).layVars Tryz.prog plain6
theorem laidW_os (os : Os) : (laidW os).os = os := World.layVars_os _ _ _
theorem laidW_met (os : Os) (args : Array Value) : laidMetH Tryz.prog laid6 ((laidW os).forCall (fun _ _ => 0) ⟨#[], args, []⟩).memory := by
 refine laidMetH_of_parts ?_ (by kernel_rfl)
 rw [plains6]
 have e1 : (plain6.filter fun x => (plain6.map (·.1)).contains x.1) = plain6 := List.filter_eq_self.2 fun x hx => List.contains_iff_mem.2 (List.mem_map.2 ⟨x, hx, rfl⟩)
 have e2 : (plain6.filter fun x => !(plain6.map (·.1)).contains x.1) = [] := List.filter_eq_nil_iff.2 fun x hx => by rw [List.contains_iff_mem.2 (List.mem_map.2 ⟨x, hx, rfl⟩)]; simp
 have h : laidMet Tryz.prog plain6 (laidW os) := laidMet_layVars (w0 := startW os) (plain6.map (·.1)) [] (by rw [e1]; rfl) (by rw [e1]; kernel_rfl) (by rw [e1]; kernel_rfl) (by rw [e2]; exact LaidIn.none)
 exact h.of_heap (by simp [World.memory, World.forCall, Input.heap])
namespace WholeScriptsP
theorem own : ownKnob Tryz.prog.godebug = none := by kernel_rfl
theorem laidOut : laidOutB Tryz.prog = true := by kernel_rfl
theorem glob {W : World} (h : W.ShapedOpen Tryz.prog) : ∃ m : Int, W.cell? ⟨1, 0, none⟩ = some (.int .i64 m) :=
 cell_of_shapedOpen_int (g := 1) (t := 3) (k := .i64) (zero := #[.int .i64 0]) h (of_decide_eq_true (by kernel_rfl)) (by kernel_rfl) rfl (by kernel_rfl) (by kernel_rfl) Tryz.underlying3
theorem lifted (os : Os) (started : os.Started) (H : Type) (enc : TypeId × Value → H) (F0 : Stop.Interp) :
  ReturnsInHanded {} Tryz.checked os 7 .any ((OpenSpec.ofChange Rows.wholeScriptsSpec).preRow enc Tryz.prog Tryz.f7 Rows.wholeScriptsRow.domain false Rows.wholeScriptsRow.laid) (((OpenSpec.ofChange Rows.wholeScriptsSpec).at F0).post enc Tryz.prog Tryz.f7 false true false false) := by
 refine returnsInHanded_of_row (C := Tryz.checked) (s := (OpenSpec.ofChange Rows.wholeScriptsSpec)) own started (by kernel_rfl) Tryz.func7
  (witness_row_at (enc := enc) (C := Tryz.checked) false (laidW os) #[.string ⟨#[]⟩] (laidW_os os) (by kernel_rfl) (by kernel_rfl) (by kernel_rfl)
   (OpenSpec.preRow_of_cond 8 (x := ([.lit (.string [])], [], [])) (by kernel_rfl) (by kernel_rfl) (fun k hk => by cases hk) (by kernel_rfl) (laidW_met os _))) ?_
 intro W base args ds gs before hval0 hW _ _ hsz0 hL hsh _
 have hsz : (DataW.weightsEach Tryz.prog (Tryz.f7.params.toList ++ (OpenSpec.ofChange Rows.wholeScriptsSpec).bare.plain.varTypes Tryz.prog) (ds ++ gs)).all (· ≤ reachBytes) = true := hsz0
 rw [Tryz.params7] at hsz
 have hg := gl6 hL (glob hsh)
 have hG := gs6 hL (glob hsh)
 have hw := heap6 hL
 have hval : ∀ (j : Nat) t v, Tryz.f7.params[j]? = some t → args[j]? = some v → Value.okWide Tryz.prog W .any base t v := hval0
 have hW' := hW
 obtain ⟨p, q, hA0, hV, rfl, hfz, hnd⟩ := hW
 have hA : DataW.TrodAll enc Tryz.prog W 0 (fun _ => true) true Tryz.f7.params.toList args.toList ds p := hA0
 rw [Tryz.params7] at hA hval
 obtain ⟨v0, vs0, d0, ds0, p0, q0, hargs, rfl, rfl, h0, r0⟩ := trodAll_cons hA
 obtain ⟨rfl, rfl, rfl⟩ := trodAll_nil r0
 obtain rfl : args = #[v0] := by cases args; simp_all
 obtain ⟨rfl, rfl⟩ := trodVars_none hV
 obtain ⟨s0, rfl, rfl, rfl, w0⟩ := open_string Tryz.underlying9 (hval 0 9 v0 rfl rfl) h0
 have z0 : s0.size ≤ 140737488351232 := by
  have h := sized_string hsz (j := 0) (t := 9) rfl rfl
  simpa [reachBytes] using h
 clear hA0 hval0
 refine (em.scripts_any s0 (by omega) W hg hG hw).mono fun e W' ⟨he, bel⟩ => ?_
 subst he
 exact ⟨_, rfl, _, _, _, [], _, [], hW', trodAll_mk1 (shut_bool Tryz.underlying4 _), (trodAll_cons_mk (shut_string Tryz.underlying9 w0) trodAll_mk0), rfl, bel.frame _, fun h => by cases h⟩
theorem bnd {a b : Bool} (h : a = true) (k : b = true) : (a && b) = true := by rw [h, k]; rfl
theorem cInPlace : (Rows.wholeScriptsRow.inPlace == Tryz.prog.inPlace 7) = true := by kernel_rfl
theorem xln : (Rows.wholeScriptsRow.unfollowed == Tryz.prog.unfollowed 7) = true := by kernel_rfl
theorem xrd : (Rows.wholeScriptsRow.recurses == Tryz.prog.recurses 7) = true := by kernel_rfl
theorem cNamed : (Rows.wholeScriptsRow.named == Tryz.prog.varsNamed 7) = true := by kernel_rfl
theorem cMaps : mapsRowed Tryz.prog = true := by kernel_rfl
theorem cWf : Rows.wholeScriptsRow.wf (OpenSpec.ofChange (OpenSpec.ofChange Rows.wholeScriptsSpec).bare) = true := by kernel_rfl
theorem cTie : namedTie Tryz.prog Rows.wholeScriptsRow.named (OpenSpec.ofChange Rows.wholeScriptsSpec).bare.vars = true := by kernel_rfl
theorem closed : joinedFacts Tryz.prog 7 Tryz.f7 (OpenSpec.ofChange Rows.wholeScriptsSpec).bare Rows.wholeScriptsRow = true := by
 unfold joinedFacts
 refine bnd ?_ (by kernel_rfl)
 refine bnd ?_ (by kernel_rfl)
 refine bnd ?_ (by kernel_rfl)
 refine bnd ?_ (by kernel_rfl)
 refine bnd ?_ (by kernel_rfl)
 refine bnd ?_ (by kernel_rfl)
 refine bnd ?_ (by kernel_rfl)
 refine bnd ?_ (by kernel_rfl)
 refine bnd ?_ (by kernel_rfl)
 refine bnd ?_ (by kernel_rfl)
 refine bnd ?_ (by kernel_rfl)
 refine bnd ?_ (by kernel_rfl)
 refine bnd ?_ (by kernel_rfl)
 refine bnd ?_ (by kernel_rfl)
 refine bnd ?_ (by kernel_rfl)
 refine bnd ?_ (by kernel_rfl)
 refine bnd ?_ (by kernel_rfl)
 refine bnd ?_ (by kernel_rfl)
 refine bnd ?_ (by kernel_rfl)
 refine bnd ?_ cNamed
 refine bnd ?_ xrd
 refine bnd ?_ xln
 refine bnd ?_ cInPlace
 refine bnd ?_ (by kernel_rfl)
 refine bnd ?_ (by kernel_rfl)
 refine bnd ?_ (by kernel_rfl)
 refine bnd ?_ (by kernel_rfl)
 refine bnd ?_ cTie
 refine bnd ?_ (by kernel_rfl)
 refine bnd ?_ cMaps
 refine bnd ?_ laidOut
 exact cWf
theorem over : Rows.wholeScriptsRow.holds Tryz.pinned (OpenSpec.ofChange Rows.wholeScriptsSpec) :=
 OpenClaim.holds_of_cond 7 Tryz.f7 rfl rfl rfl rfl rfl rfl rfl ⟨rfl, rfl, rfl, rfl, rfl⟩ rfl rfl rfl rfl rfl (by kernel_rfl) Tryz.func7 closed
  (of_decide_eq_true (by kernel_rfl)) (by unfold Func.isWrapper; first | (rw [if_pos (by decide +kernel)]; kernel_rfl) | (rw [if_neg (by decide +kernel)]; exact ⟨rfl, rfl⟩))
  (fun os started H enc _ F0 => by rw [OpenClaim.pre_eq_preRow]; exact lifted os started H enc F0)
theorem proved : Rows.WholeScriptsSaid := over
end WholeScriptsP
theorem wholeScripts_holds : Rows.WholeScriptsCardSaid :=
 Claim7.holds_tied_plain_at .later [] [.data, .data, .data, .data, .handle, .pinned] true (true, "82b5bd609421ddce1b422d06f422883f97491983fc12f802721022fef6c66dcd") true
  WholeScriptsP.proved (fun _ h => by cases h) (by kernel_rfl) (fun _ h => by cases h) wholeScripts_row_tie rfl ⟨rfl, rfl⟩ (by kernel_rfl) rfl
  (fun f fn hf hfn => by
   obtain rfl : f = 7 := Option.some.inj ((show Tryz.prog.funcNamed "runnel/runneltop.WholeScripts" = some 7 by kernel_rfl).symm.trans hf) |>.symm
   obtain rfl : fn = Tryz.f7 := (Option.some.inj (Tryz.func7.symm.trans hfn)).symm
   exact ⟨by kernel_rfl, fun j t ht => by
    rw [Tryz.params7] at ht
    rcases j with _ | j
    ·have h9 : t = 9 := by simpa using ht.symm
     subst h9
     exact (show Tryz.prog.wantsStandIn 9 = false by kernel_rfl)
    ·simp at ht⟩)
  (by kernel_rfl)
end Go.Proofs.YtidgnebbibkmhaaGreatDoor
