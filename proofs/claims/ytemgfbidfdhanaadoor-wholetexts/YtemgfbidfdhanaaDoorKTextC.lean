/- bracket.Text: the set's one text. -/
import Derived.Test.YtemgfbidfdhanaaDoorKShelf
import Derived.Test.YtemgfbidfdhanaaDoorKTk
import Derived.Test.YtemgfbidfdhanaaDoorKIter
import Derived.Test.YtemgfbidfdhanaaDoorKBrows
import Derived.Maps.OwnIn
import Derived.Laws.EntriesVeiled
import Derived.WalkKit
import Derived.WalkSpells
import Derived.WalkLawsBesides
namespace Go.Proofs.YtemgfbidfdhanaaDoor
open Go.RowKit Go.Shelf
attribute [local go_sem] Oper.semAt_some

theorem func_eq_nil (f : Fn) (a b : Array Value) (w : World) : (binOp .eql 81 (.func f a b) .nilFunc).run Tryd.prog w = .ok (.bool false) w := by
  kernel_rfl

set_option maxRecDepth 100000 in
set_option maxHeartbeats 2000000 in
theorem text_some (hIdx : ∀ n : Nat, n < 256 → ∀ w : World, ∃ x : Int, decide (0 ≤ x) = spec4 n ∧ Calls Tryd.prog 50 #[.string ⟨#[93, 94, 45, 91]⟩, .int .u8 (n : Int)] w fun e w' => e = .returned (.int .i64 x) ∧ w' = w) (p : Nat → Bool) (hp : eqB p noneP = false) (w : World) :
    Calls Tryd.prog 36 #[.agg #[.int .u64 (wd p 0 : Nat), .int .u64 (wd p 1 : Nat), .int .u64 (wd p 2 : Nat), .int .u64 (wd p 3 : Nat)]] w fun e w' => e = .returned (.string (bstr (flush (codeSt (mem p 256)) ++ [93]))) ∧ Below w.heap.size w w' := by
  have hnil := func_eq_nil
  have z0 : wd noneP 0 = 0 := wd_none 0
  have z1 : wd noneP 1 = 0 := wd_none 1
  have z2 : wd noneP 2 = 0 := wd_none 2
  have z3 : wd noneP 3 = 0 := wd_none 3
  have heq := fun W => run_eql_set p noneP W
  rw [hp] at heq
  simp only [z0, z1, z2, z3, Int.ofNat_zero] at heq
  have HI := brows.hide2 hIdx
  clear hIdx
  obtain ⟨i0, hi, hz0, hz1, hz2⟩ := info_parts info5
  refine (callsIn_wide (n := 5)).1 ?_
  refine callsIn_of_wp_marks Tryd.func36 rfl trivial ?_ rfl
  simp only [Tryd.ntmps36, List.size_toArray, List.length_cons, List.length_nil, Nat.reduceAdd, Nat.reduceSub, Array.replicate_succ, Array.replicate_zero, List.push_toArray, List.append_toArray, List.nil_append, List.cons_append]
  gi_wp2_with (refine ⟨trivial, ?_⟩; gi_at_call 34; refine (members_in _ _ _).mono ?_; rintro e w' ⟨rfl, rfl⟩)
  have r1 : (((w.alloc (.cells #[.int .u64 (wd p 0 : Nat), .int .u64 (wd p 1 : Nat), .int .u64 (wd p 2 : Nat), .int .u64 (wd p 3 : Nat)] 24)).alloc (.cells #[.int .u8 91] 5))).ownsRow w.heap.size 5 1 (.slice (some ⟨w.heap.size + 1, 0, none⟩) 1 1) 1 (byteVals [91]) := ⟨rfl, .inr ⟨w.heap.size + 1, 1, #[.int .u8 91], rfl, by omega, by have h := World.alloc_heap_new ((w.alloc (.cells #[.int .u64 (wd p 0 : Nat), .int .u64 (wd p 1 : Nat), .int .u64 (wd p 2 : Nat), .int .u64 (wd p 3 : Nat)] 24))) (.cells #[.int .u8 91] 5); rwa [World.size_alloc] at h, Nat.le_refl _, by unfold maxLen; omega, rfl, rfl⟩⟩
  have r2 : ((((w.alloc (.cells #[.int .u64 (wd p 0 : Nat), .int .u64 (wd p 1 : Nat), .int .u64 (wd p 2 : Nat), .int .u64 (wd p 3 : Nat)] 24)).alloc (.cells #[.int .u8 91] 5)).alloc (.cells #[] 5))).ownsRow w.heap.size 5 1 (.slice (some ⟨w.heap.size + 1 + 1, 0, none⟩) 0 0) 0 (byteVals []) := ⟨rfl, .inr ⟨w.heap.size + 1 + 1, 0, #[], rfl, by omega, by have h := World.alloc_heap_new (((w.alloc (.cells #[.int .u64 (wd p 0 : Nat), .int .u64 (wd p 1 : Nat), .int .u64 (wd p 2 : Nat), .int .u64 (wd p 3 : Nat)] 24)).alloc (.cells #[.int .u8 91] 5))) (.cells #[] 5); rwa [World.size_alloc, World.size_alloc] at h, Nat.le_refl _, by unfold maxLen; omega, rfl, rfl⟩⟩
  have bO : Boxed (((((w.alloc (.cells #[.int .u64 (wd p 0 : Nat), .int .u64 (wd p 1 : Nat), .int .u64 (wd p 2 : Nat), .int .u64 (wd p 3 : Nat)] 24)).alloc (.cells #[.int .u8 91] 5)).alloc (.cells #[] 5)).alloc (.cells #[.slice (some ⟨w.heap.size + 1, 0, none⟩) 1 1] 57))) (w.heap.size + 1 + 1 + 1) 57 (.slice (some ⟨w.heap.size + 1, 0, none⟩) 1 1) := by
    have h := Boxed.new ((((w.alloc (.cells #[.int .u64 (wd p 0 : Nat), .int .u64 (wd p 1 : Nat), .int .u64 (wd p 2 : Nat), .int .u64 (wd p 3 : Nat)] 24)).alloc (.cells #[.int .u8 91] 5)).alloc (.cells #[] 5))) 57 (.slice (some ⟨w.heap.size + 1, 0, none⟩) 1 1)
    rwa [World.size_alloc, World.size_alloc, World.size_alloc] at h
  have bR : Boxed ((((((w.alloc (.cells #[.int .u64 (wd p 0 : Nat), .int .u64 (wd p 1 : Nat), .int .u64 (wd p 2 : Nat), .int .u64 (wd p 3 : Nat)] 24)).alloc (.cells #[.int .u8 91] 5)).alloc (.cells #[] 5)).alloc (.cells #[.slice (some ⟨w.heap.size + 1, 0, none⟩) 1 1] 57)).alloc (.cells #[.slice (some ⟨w.heap.size + 1 + 1, 0, none⟩) 0 0] 57))) (w.heap.size + 1 + 1 + 1 + 1) 57 (.slice (some ⟨w.heap.size + 1 + 1, 0, none⟩) 0 0) := by
    have h := Boxed.new (((((w.alloc (.cells #[.int .u64 (wd p 0 : Nat), .int .u64 (wd p 1 : Nat), .int .u64 (wd p 2 : Nat), .int .u64 (wd p 3 : Nat)] 24)).alloc (.cells #[.int .u8 91] 5)).alloc (.cells #[] 5)).alloc (.cells #[.slice (some ⟨w.heap.size + 1, 0, none⟩) 1 1] 57))) 57 (.slice (some ⟨w.heap.size + 1 + 1, 0, none⟩) 0 0)
    rwa [World.size_alloc, World.size_alloc, World.size_alloc, World.size_alloc] at h
  have bL : Boxed (((((((w.alloc (.cells #[.int .u64 (wd p 0 : Nat), .int .u64 (wd p 1 : Nat), .int .u64 (wd p 2 : Nat), .int .u64 (wd p 3 : Nat)] 24)).alloc (.cells #[.int .u8 91] 5)).alloc (.cells #[] 5)).alloc (.cells #[.slice (some ⟨w.heap.size + 1, 0, none⟩) 1 1] 57)).alloc (.cells #[.slice (some ⟨w.heap.size + 1 + 1, 0, none⟩) 0 0] 57)).alloc (.cells #[.func (.func 49) #[] #[.pointer (some ⟨w.heap.size + 1 + 1 + 1 + 1, 0, none⟩), .pointer (some ⟨w.heap.size + 1 + 1 + 1, 0, none⟩)]] 1))) (w.heap.size + 1 + 1 + 1 + 1 + 1) 1 (brows.letV (w.heap.size + 1 + 1 + 1 + 1) (w.heap.size + 1 + 1 + 1)) := by
    have h := Boxed.new ((((((w.alloc (.cells #[.int .u64 (wd p 0 : Nat), .int .u64 (wd p 1 : Nat), .int .u64 (wd p 2 : Nat), .int .u64 (wd p 3 : Nat)] 24)).alloc (.cells #[.int .u8 91] 5)).alloc (.cells #[] 5)).alloc (.cells #[.slice (some ⟨w.heap.size + 1, 0, none⟩) 1 1] 57)).alloc (.cells #[.slice (some ⟨w.heap.size + 1 + 1, 0, none⟩) 0 0] 57))) 1 (brows.letV (w.heap.size + 1 + 1 + 1 + 1) (w.heap.size + 1 + 1 + 1))
    rwa [World.size_alloc, World.size_alloc, World.size_alloc, World.size_alloc, World.size_alloc] at h
  have bS : Set4 ((((((((w.alloc (.cells #[.int .u64 (wd p 0 : Nat), .int .u64 (wd p 1 : Nat), .int .u64 (wd p 2 : Nat), .int .u64 (wd p 3 : Nat)] 24)).alloc (.cells #[.int .u8 91] 5)).alloc (.cells #[] 5)).alloc (.cells #[.slice (some ⟨w.heap.size + 1, 0, none⟩) 1 1] 57)).alloc (.cells #[.slice (some ⟨w.heap.size + 1 + 1, 0, none⟩) 0 0] 57)).alloc (.cells #[.func (.func 49) #[] #[.pointer (some ⟨w.heap.size + 1 + 1 + 1 + 1, 0, none⟩), .pointer (some ⟨w.heap.size + 1 + 1 + 1, 0, none⟩)]] 1)).alloc (.cells #[.int .u64 (wd p 0 : Nat), .int .u64 (wd p 1 : Nat), .int .u64 (wd p 2 : Nat), .int .u64 (wd p 3 : Nat)] 24))) (w.heap.size + 1 + 1 + 1 + 1 + 1 + 1) p := by
    have h := Set4.new (((((((w.alloc (.cells #[.int .u64 (wd p 0 : Nat), .int .u64 (wd p 1 : Nat), .int .u64 (wd p 2 : Nat), .int .u64 (wd p 3 : Nat)] 24)).alloc (.cells #[.int .u8 91] 5)).alloc (.cells #[] 5)).alloc (.cells #[.slice (some ⟨w.heap.size + 1, 0, none⟩) 1 1] 57)).alloc (.cells #[.slice (some ⟨w.heap.size + 1 + 1, 0, none⟩) 0 0] 57)).alloc (.cells #[.func (.func 49) #[] #[.pointer (some ⟨w.heap.size + 1 + 1 + 1 + 1, 0, none⟩), .pointer (some ⟨w.heap.size + 1 + 1 + 1, 0, none⟩)]] 1))) p
    rwa [World.size_alloc, World.size_alloc, World.size_alloc, World.size_alloc, World.size_alloc, World.size_alloc] at h
  have bO' := ((bO.alloc (.cells #[.slice (some ⟨w.heap.size + 1 + 1, 0, none⟩) 0 0] 57)).alloc (.cells #[.func (.func 49) #[] #[.pointer (some ⟨w.heap.size + 1 + 1 + 1 + 1, 0, none⟩), .pointer (some ⟨w.heap.size + 1 + 1 + 1, 0, none⟩)]] 1)).alloc (.cells #[.int .u64 (wd p 0 : Nat), .int .u64 (wd p 1 : Nat), .int .u64 (wd p 2 : Nat), .int .u64 (wd p 3 : Nat)] 24)
  have bR' := (bR.alloc (.cells #[.func (.func 49) #[] #[.pointer (some ⟨w.heap.size + 1 + 1 + 1 + 1, 0, none⟩), .pointer (some ⟨w.heap.size + 1 + 1 + 1, 0, none⟩)]] 1)).alloc (.cells #[.int .u64 (wd p 0 : Nat), .int .u64 (wd p 1 : Nat), .int .u64 (wd p 2 : Nat), .int .u64 (wd p 3 : Nat)] 24)
  have bL' := bL.alloc (.cells #[.int .u64 (wd p 0 : Nat), .int .u64 (wd p 1 : Nat), .int .u64 (wd p 2 : Nat), .int .u64 (wd p 3 : Nat)] 24)
  have r1' := ((((r1.alloc (.cells #[] 5)).alloc (.cells #[.slice (some ⟨w.heap.size + 1, 0, none⟩) 1 1] 57)).alloc (.cells #[.slice (some ⟨w.heap.size + 1 + 1, 0, none⟩) 0 0] 57)).alloc (.cells #[.func (.func 49) #[] #[.pointer (some ⟨w.heap.size + 1 + 1 + 1 + 1, 0, none⟩), .pointer (some ⟨w.heap.size + 1 + 1 + 1, 0, none⟩)]] 1)).alloc (.cells #[.int .u64 (wd p 0 : Nat), .int .u64 (wd p 1 : Nat), .int .u64 (wd p 2 : Nat), .int .u64 (wd p 3 : Nat)] 24)
  have r2' := (((r2.alloc (.cells #[.slice (some ⟨w.heap.size + 1, 0, none⟩) 1 1] 57)).alloc (.cells #[.slice (some ⟨w.heap.size + 1 + 1, 0, none⟩) 0 0] 57)).alloc (.cells #[.func (.func 49) #[] #[.pointer (some ⟨w.heap.size + 1 + 1 + 1 + 1, 0, none⟩), .pointer (some ⟨w.heap.size + 1 + 1 + 1, 0, none⟩)]] 1)).alloc (.cells #[.int .u64 (wd p 0 : Nat), .int .u64 (wd p 1 : Nat), .int .u64 (wd p 2 : Nat), .int .u64 (wd p 3 : Nat)] 24)
  have hT0 : brows.TS w.heap.size (w.heap.size + 1 + 1 + 1) (w.heap.size + 1 + 1 + 1 + 1) (w.heap.size + 1 + 1 + 1 + 1 + 1) (w.heap.size + 1 + 1 + 1 + 1 + 1 + 1) p (codeSt []) ((((((((w.alloc (.cells #[.int .u64 (wd p 0 : Nat), .int .u64 (wd p 1 : Nat), .int .u64 (wd p 2 : Nat), .int .u64 (wd p 3 : Nat)] 24)).alloc (.cells #[.int .u8 91] 5)).alloc (.cells #[] 5)).alloc (.cells #[.slice (some ⟨w.heap.size + 1, 0, none⟩) 1 1] 57)).alloc (.cells #[.slice (some ⟨w.heap.size + 1 + 1, 0, none⟩) 0 0] 57)).alloc (.cells #[.func (.func 49) #[] #[.pointer (some ⟨w.heap.size + 1 + 1 + 1 + 1, 0, none⟩), .pointer (some ⟨w.heap.size + 1 + 1 + 1, 0, none⟩)]] 1)).alloc (.cells #[.int .u64 (wd p 0 : Nat), .int .u64 (wd p 1 : Nat), .int .u64 (wd p 2 : Nat), .int .u64 (wd p 3 : Nat)] 24))) := by
    refine ⟨w.heap.size + 1, 1, w.heap.size + 1 + 1, 0, bO', bR', ⟨?_, ?_⟩, bL', bS⟩
    · intro r hr
      simp only [List.mem_cons, List.not_mem_nil, or_false] at hr
      rcases hr with rfl | rfl
      · exact r1'
      · exact r2'
    · refine List.pairwise_cons.2 ⟨fun r hr k h1 h2 => ?_, by simp⟩
      simp only [List.mem_cons, List.not_mem_nil, or_false] at hr
      subst hr
      simp only [Value.ownBlock, Option.some.injEq] at h1 h2
      omega
  have hB0 : Below w.heap.size w ((((((((w.alloc (.cells #[.int .u64 (wd p 0 : Nat), .int .u64 (wd p 1 : Nat), .int .u64 (wd p 2 : Nat), .int .u64 (wd p 3 : Nat)] 24)).alloc (.cells #[.int .u8 91] 5)).alloc (.cells #[] 5)).alloc (.cells #[.slice (some ⟨w.heap.size + 1, 0, none⟩) 1 1] 57)).alloc (.cells #[.slice (some ⟨w.heap.size + 1 + 1, 0, none⟩) 0 0] 57)).alloc (.cells #[.func (.func 49) #[] #[.pointer (some ⟨w.heap.size + 1 + 1 + 1 + 1, 0, none⟩), .pointer (some ⟨w.heap.size + 1 + 1 + 1, 0, none⟩)]] 1)).alloc (.cells #[.int .u64 (wd p 0 : Nat), .int .u64 (wd p 1 : Nat), .int .u64 (wd p 2 : Nat), .int .u64 (wd p 3 : Nat)] 24))) := (((((((Below.refl _ w).alloc (Nat.le_refl _) _).alloc (by simp) _).alloc (by simp; omega) _).alloc (by simp; omega) _).alloc (by simp; omega) _).alloc (by simp; omega) _).alloc (by simp; omega) _
  have hs0 : ((((((((w.alloc (.cells #[.int .u64 (wd p 0 : Nat), .int .u64 (wd p 1 : Nat), .int .u64 (wd p 2 : Nat), .int .u64 (wd p 3 : Nat)] 24)).alloc (.cells #[.int .u8 91] 5)).alloc (.cells #[] 5)).alloc (.cells #[.slice (some ⟨w.heap.size + 1, 0, none⟩) 1 1] 57)).alloc (.cells #[.slice (some ⟨w.heap.size + 1 + 1, 0, none⟩) 0 0] 57)).alloc (.cells #[.func (.func 49) #[] #[.pointer (some ⟨w.heap.size + 1 + 1 + 1 + 1, 0, none⟩), .pointer (some ⟨w.heap.size + 1 + 1 + 1, 0, none⟩)]] 1)).alloc (.cells #[.int .u64 (wd p 0 : Nat), .int .u64 (wd p 1 : Nat), .int .u64 (wd p 2 : Nat), .int .u64 (wd p 3 : Nat)] 24))).heap.size = w.heap.size + 1 + 1 + 1 + 1 + 1 + 1 + 1 := by simp
  clear r1 r2 r1' r2' bO bR bL bO' bR' bL'
  generalize (((((((w.alloc (.cells #[.int .u64 (wd p 0 : Nat), .int .u64 (wd p 1 : Nat), .int .u64 (wd p 2 : Nat), .int .u64 (wd p 3 : Nat)] 24)).alloc (.cells #[.int .u8 91] 5)).alloc (.cells #[] 5)).alloc (.cells #[.slice (some ⟨w.heap.size + 1, 0, none⟩) 1 1] 57)).alloc (.cells #[.slice (some ⟨w.heap.size + 1 + 1, 0, none⟩) 0 0] 57)).alloc (.cells #[.func (.func 49) #[] #[.pointer (some ⟨w.heap.size + 1 + 1 + 1 + 1, 0, none⟩), .pointer (some ⟨w.heap.size + 1 + 1 + 1, 0, none⟩)]] 1)).alloc (.cells #[.int .u64 (wd p 0 : Nat), .int .u64 (wd p 1 : Nat), .int .u64 (wd p 2 : Nat), .int .u64 (wd p 3 : Nat)] 24)) = W0 at *
  refine wpIn_rangeFunc_ownF rfl (by omega) (gf := 46) (lb := #[.pointer (some ⟨w.heap.size + 1 + 1 + 1 + 1 + 1 + 1, 0, none⟩)]) rfl trivial (enters_of Tryd.func46 (by kernel_rfl) rfl)
    (iter_stopsF 4 (by omega) (w.heap.size + 1 + 1 + 1 + 1 + 1 + 1) p W0 bS) keepAt_t (keepAt_b (by omega)) (Below.refl _ _) (fun _ => rfl)
    (fun pre W => brows.TS w.heap.size (w.heap.size + 1 + 1 + 1) (w.heap.size + 1 + 1 + 1 + 1) (w.heap.size + 1 + 1 + 1 + 1 + 1) (w.heap.size + 1 + 1 + 1 + 1 + 1 + 1) p (codeSt (pre.map Fin.val)) W ∧ Below w.heap.size w W)
    (fun _ _ _ => False)
    (OwnFrom.and (Own.from (brows.TS_own _ _ _ _ _ _ _) _) (ownFrom_below (Nat.le_refl _) (by omega)))
    (fun _ _ _ _ _ h _ _ => h)
    ⟨hT0, hB0⟩
    (fun x => { tmps := #[.agg #[.int .u64 (wd p 0 : Nat), .int .u64 (wd p 1 : Nat), .int .u64 (wd p 2 : Nat), .int .u64 (wd p 3 : Nat)], .pointer (some ⟨w.heap.size, 0, none⟩), .string ⟨#[]⟩, .pointer (some ⟨w.heap.size + 1 + 1 + 1, 0, none⟩), .pointer (some ⟨w.heap.size + 1 + 1 + 1 + 1, 0, none⟩), .pointer (some ⟨w.heap.size + 1 + 1 + 1 + 1 + 1, 0, none⟩), .int .u8 (x.val : Nat), undef, .agg #[.int .u64 (wd p 0 : Nat), .int .u64 (wd p 1 : Nat), .int .u64 (wd p 2 : Nat), .int .u64 (wd p 3 : Nat)], .agg #[.int .u64 0, .int .u64 0, .int .u64 0, .int .u64 0], .bool false, .slice (some ⟨w.heap.size + 1, 0, none⟩) 1 1, .slice (some ⟨w.heap.size + 1 + 1, 0, none⟩) 0 0, .func (.func 49) #[] #[.pointer (some ⟨w.heap.size + 1 + 1 + 1 + 1, 0, none⟩), .pointer (some ⟨w.heap.size + 1 + 1 + 1, 0, none⟩)], .agg #[.int .u64 (wd p 0 : Nat), .int .u64 (wd p 1 : Nat), .int .u64 (wd p 2 : Nat), .int .u64 (wd p 3 : Nat)], .func (.func 46) #[] #[.pointer (some ⟨w.heap.size + 1 + 1 + 1 + 1 + 1 + 1, 0, none⟩)], .int .u8 (x.val : Nat), undef, undef, undef, undef, undef, undef, undef, undef, undef, undef, undef, undef, undef, undef, undef, undef, undef, undef, undef, undef, undef, undef, undef, undef, undef, undef, undef, undef, undef, undef, undef, undef, undef, undef, undef, undef, undef], defers := [] }) ?assign ?body ?done ?stop
  case assign =>
    intro l x W K hK
    gi_wp2
    exact hK
  case body =>
    rintro l pre x W ⟨hT, hB⟩ hlt
    have hlen := codeSt_len (pre.map Fin.val)
    rw [List.length_map] at hlen
    have hbyt := codeSt_bytes (pre.map Fin.val) (by intro y hy; simp at hy; obtain ⟨z, -, rfl⟩ := hy; exact z.isLt)
    have HST : Hid (codeSt ((pre ++ [x]).map Fin.val) = cstep (codeSt (pre.map Fin.val)) x.val) := brows.hide2 (by rw [List.map_append]; exact codeSt_snoc _ _)
    generalize codeSt (pre.map Fin.val) = st at *
    obtain ⟨out, run⟩ := st
    simp only [] at hlen hbyt
    have hx256 := x.isLt
    obtain ⟨x0, hx0, hcall⟩ := HI.out x.val x.isLt W
    obtain ⟨go, co, gr, cr, t1, t2, t3, t4, t5⟩ := id hT
    simp only [] at t1 t2 t3
    have c1 := t1.cell
    have c2 := t2.cell
    have c4 : W.cell? ⟨w.heap.size + 1 + 1 + 1 + 1 + 1, 0, none⟩ = some (.func (.func 49) #[] #[.pointer (some ⟨w.heap.size + 1 + 1 + 1 + 1, 0, none⟩), .pointer (some ⟨w.heap.size + 1 + 1 + 1, 0, none⟩)]) := t4.cell
    cases hsp : spec4 x.val
    · by_cases hr : run = []
      · skip
        have h0 : x0 < 0 := by rw [hsp] at hx0; have := of_decide_eq_false hx0; omega
        have h0' : decide (0 ≤ x0) = false := decide_eq_false (by omega)
        clear hx0
        subst hr
        simp only [List.length_nil] at t2 c2 t3
        have e : cstep (out, []) x.val = (out, [] ++ [x.val]) := by simp [cstep, hsp]
        gi_wp2_with fail
        refine ⟨trivial, ?_⟩
        refine (CallsIn.inRound l (callsIn_wide.2 hcall)).mono ?_
        rintro e w' ⟨rfl, rfl⟩
        clear hcall
        
        have hsz := t5.lt
        have e1 := (brows.Rows.swap t3).head
        gi_wp2_with (gi_at_builtin; refine wpListIn_append_own_at _ rfl _ _ 57 rfl w.heap.size 5 i0 (.int .u8 0) 1 1 Tryd.underlying57 hi hz0 hz1 hz2 rfl (by decide) _ _ _ rfl (e1.alloc _) ⟨w'.heap.size, 0, none⟩ 1 1 [.int .u8 (x.val : Nat)] rfl rfl (World.news_of_block (cs := #[.int .u8 (x.val : Nat)]) (t := 5) (fr := (0, 0)) (heap_alloc_new w' _)) (by simp [Value.oneCell']) (by unfold maxLen; omega) (by omega) (by simp; omega) ?_; intro vo w2 hown hg _ hat; obtain ⟨gr2, cr2, rfl⟩ : ∃ g c, vo = .slice (some ⟨g, 0, none⟩) (0 + 1) c := ownsRow_succ hown; have HT := brows.TS_run (l := [x.val]) rfl rfl (by omega) t1 t2 t4 t5 t3 hown rfl hg hat (by omega); have hb1 := HT.1.cell; have hb2 := HT.1.frozen; clear hown hg hat)
        have hS := HT.2
        refine ⟨hS.2.1, hS.2.2.1, ?_, hB.trans hS.2.2.2⟩
        rw [HST.out, e]
        exact hS.1

      · skip
        have h0 : x0 < 0 := by rw [hsp] at hx0; have := of_decide_eq_false hx0; omega
        have h0' : decide (0 ≤ x0) = false := decide_eq_false (by omega)
        clear hx0
        have hrun := t3.1 (.slice (some ⟨gr, 0, none⟩) run.length cr, run) (by simp)
        obtain ⟨y, hy⟩ : ∃ y, run.getLastD 0 = y := ⟨_, rfl⟩
        have hyl : run[run.length - 1]? = some y := by
          rw [← List.getLast?_eq_getElem?, ← hy, List.getLastD_eq_getLast?, List.getLast?_eq_some_getLast hr]; rfl
        have hy256 : y < 256 := hbyt y (List.mem_of_getElem? hyl)
        have hadd : ∀ k, (⟨gr, 0, none⟩ : Addr).add k = ⟨gr, k, none⟩ := fun k => by unfold Addr.add; split <;> simp_all
        have hn0 : 0 < run.length := List.length_pos_iff.2 hr
        have hc1 := hrun.cells (g := gr) rfl (run.length - 1) (.int .u8 (y : Nat)) (by simp [byteVals, hyl])
        rw [hadd] at hc1
        clear hyl hadd hrun hbyt
        generalize hnn : run.length = n at *
        have HN := brows.hide2 hnn
        clear hnn
        obtain ⟨j, hj⟩ : ∃ j, n - 1 = j := ⟨_, rfl⟩
        rw [hj] at hc1
        have n2 : (0 : Int) ≤ (j : Int) := by omega
        have n3 : (j : Int) < (n : Int) := by omega
        have n4 : (0 : Int) < (n : Int) := by omega
        have n6 : j < n := by omega
        have n7 : IntKind.i64.wrap ((n : Int) - 1) = (j : Int) := by rw [IntKind.wrap_i64]; omega
        have n8 : IntKind.i64.wrap (j : Int) = (j : Int) := by rw [IntKind.wrap_i64]; omega
        clear hj
        by_cases hz : (y + 1) % 256 = x.val
        · have n9 : IntKind.u8.wrap ((y : Int) + 1) = (x.val : Int) := by rw [← hz]; simp [IntKind.wrap, IntKind.signed, IntKind.bits]
          have e : cstep (out, run) x.val = (out, run ++ [x.val]) := by unfold cstep; rw [if_neg (by simp [hsp]), if_pos (.inr (by simp only []; rw [hy]; exact hz))]
          clear hz hy
          gi_wp2_with fail
          refine ⟨trivial, ?_⟩
          refine (CallsIn.inRound l (callsIn_wide.2 hcall)).mono ?_
          rintro e w' ⟨rfl, rfl⟩
          clear hcall
          
          have hsz := t5.lt
          have e1 := (brows.Rows.swap t3).head
          rw [HN.out] at e1
          gi_wp2_with (gi_at_builtin; refine wpListIn_append_own_at _ rfl _ _ 57 rfl w.heap.size 5 i0 (.int .u8 0) 1 1 Tryd.underlying57 hi hz0 hz1 hz2 rfl (by decide) _ _ _ rfl (e1.alloc _) ⟨w'.heap.size, 0, none⟩ 1 1 [.int .u8 (x.val : Nat)] rfl rfl (World.news_of_block (cs := #[.int .u8 (x.val : Nat)]) (t := 5) (fr := (0, 0)) (heap_alloc_new w' _)) (by simp [Value.oneCell']) (by unfold maxLen; omega) (by omega) (by simp; omega) ?_; intro vo w2 hown hg _ hat; obtain ⟨gr2, cr2, rfl⟩ : ∃ g c, vo = .slice (some ⟨g, 0, none⟩) (n + 1) c := ownsRow_succ hown; have HT := brows.TS_run (l := [x.val]) rfl HN.out (by omega) t1 t2 t4 t5 t3 hown rfl hg hat (by omega); have hb1 := HT.1.cell; have hb2 := HT.1.frozen; clear hown hg hat)
          have hS := HT.2
          refine ⟨hS.2.1, hS.2.2.1, ?_, hB.trans hS.2.2.2⟩
          rw [HST.out, e]
          exact hS.1
        · have e : cstep (out, run) x.val = (flush (out, run), [] ++ [x.val]) := by unfold cstep; rw [if_neg (by simp [hsp]), if_neg (by rintro (h | h); exact hr h; simp only [] at h; rw [hy] at h; exact hz h)]; rfl
          obtain ⟨z, hzz⟩ : ∃ z, (y + 1) % 256 = z := ⟨_, rfl⟩
          have n9 : IntKind.u8.wrap ((y : Int) + 1) = (z : Int) := by rw [← hzz]; simp [IntKind.wrap, IntKind.signed, IntKind.bits]
          rw [hzz] at hz
          have n10 : ¬ (z : Int) = (x.val : Int) := by omega
          have n11 : ((z : Int) == (x.val : Int)) = false := by rw [beq_eq_false_iff_ne]; exact n10
          clear hz hy hzz
          gi_wp2_with fail
          refine ⟨trivial, ?_⟩
          refine (CallsIn.inRound l (callsIn_wide.2 hcall)).mono ?_
          rintro e w' ⟨rfl, rfl⟩
          clear hcall
          gi_wp2_with fail
          all_goals (try exact absurd ‹some undef = some (Value.bool _)› (fun h => by cases h))
          refine ⟨trivial, ?_⟩
          refine (CallsIn.inRound l (callsIn_wide.2 (brows.TS_letOut hT (by omega) (by omega) (by omega) (by simp only [HN.out]; omega) (by simp only []; omega) (by simp only []; omega)))).mono ?_
          rintro e w1 ⟨⟨v, rfl⟩, S1⟩
          clear c1 c2 c4 t1 t2 t3 t4 t5 hT
          obtain ⟨go1, co1, gr1, cr1, u1, u2, u3, u4, u5⟩ := id S1.1
          have d1 := u1.cell
          have d2 := u2.cell
          skip
          have hm2 := flush_len (out, run)
          simp only [List.length_nil] at u1 u2 u3 d1 d2 hm2
          have hsz := u5.lt
          have e1 := (brows.Rows.swap u3).head
          simp only [List.length_nil] at e1
          gi_wp2_with (gi_at_builtin; refine wpListIn_append_own_at _ rfl _ _ 57 rfl w.heap.size 5 i0 (.int .u8 0) 1 1 Tryd.underlying57 hi hz0 hz1 hz2 rfl (by decide) _ _ _ rfl (e1.alloc _) ⟨w1.heap.size, 0, none⟩ 1 1 [.int .u8 (x.val : Nat)] rfl rfl (World.news_of_block (cs := #[.int .u8 (x.val : Nat)]) (t := 5) (fr := (0, 0)) (heap_alloc_new w1 _)) (by simp [Value.oneCell']) (by unfold maxLen; omega) (by omega) (by simp; omega) ?_; intro vo w2 hown hg _ hat; obtain ⟨gr2, cr2, rfl⟩ : ∃ g c, vo = .slice (some ⟨g, 0, none⟩) (0 + 1) c := ownsRow_succ hown; have HT := brows.TS_run (l := [x.val]) rfl rfl (by omega) u1 u2 u4 u5 u3 hown rfl hg hat (by omega); have hb1 := HT.1.cell; have hb2 := HT.1.frozen; clear hown hg hat)
          have hS := S1.trans HT.2
          refine ⟨hS.2.1, hS.2.2.1, ?_, hB.trans hS.2.2.2⟩
          rw [HST.out, e]
          exact hS.1

    · skip
      have h0 : 0 ≤ x0 := by rw [hsp] at hx0; exact of_decide_eq_true hx0
      clear hx0
      gi_wp2_with fail
      refine ⟨trivial, ?_⟩
      refine (CallsIn.inRound l (callsIn_wide.2 hcall)).mono ?_
      rintro e w' ⟨rfl, rfl⟩
      clear hcall
      gi_wp2_with fail
      all_goals (try exact absurd ‹some undef = some (Value.bool _)› (fun h => by cases h))
      refine ⟨trivial, ?_⟩
      refine (CallsIn.inRound l (callsIn_wide.2 (brows.TS_letOut hT (by omega) (by omega) (by omega) (by simp only []; omega) (by simp only []; omega) (by simp only []; omega)))).mono ?_
      rintro e w1 ⟨⟨v, rfl⟩, S1⟩
      clear c1 c2 c4 t1 t2 t3 t4 t5 hT
      obtain ⟨go1, co1, gr1, cr1, u1, u2, u3, u4, u5⟩ := id S1.1
      have d1 := u1.cell
      have d2 := u2.cell
      generalize hm1 : (flush (out, run)).length = m1 at *
      have hm2 := flush_len (out, run)
      rw [hm1] at hm2
      simp only [] at hm2
      have hm3 : 1 ≤ m1 := by rw [← hm1]; simp [flush]; omega
      have HM := brows.hide2 hm1
      have e1 := u3.head
      rw [hm1] at e1
      simp only [] at u1 u3 d1
      clear hm1
      have hsz := u5.lt
      gi_wp2_with (gi_at_builtin; refine wpListIn_append_own_at _ rfl _ _ 57 rfl w.heap.size 5 i0 (.int .u8 0) 1 1 Tryd.underlying57 hi hz0 hz1 hz2 rfl (by decide) _ _ _ rfl (e1.alloc _) ⟨w1.heap.size, 0, none⟩ 5 5 [.int .u8 91, .int .u8 46, .int .u8 (x.val : Nat), .int .u8 46, .int .u8 93] rfl rfl (World.news_of_block (cs := #[.int .u8 91, .int .u8 46, .int .u8 (x.val : Nat), .int .u8 46, .int .u8 93]) (t := 5) (fr := (0, 0)) (heap_alloc_new w1 _)) (by simp [Value.oneCell']) (by unfold maxLen; omega) (by omega) (by simp; omega) ?_; intro vo w2 hown hg _ hat; obtain ⟨go2, co2, rfl⟩ : ∃ g c, vo = .slice (some ⟨g, 0, none⟩) (m1 + 5) c := ownsRow_succ hown; have HT := brows.TS_out (l := [91, 46, x.val, 46, 93]) HM.out rfl (by omega) u1 u2 u4 u5 u3 hown rfl hg hat (by omega); have hb1 := HT.1.cell; have hb2 := HT.1.frozen; clear hown hg hat d1 d2)
      have hS := S1.trans HT.2
      refine ⟨hS.2.1, hS.2.2.1, ?_, hB.trans hS.2.2.2⟩
      have e : cstep (out, run) x.val = (flush (out, run) ++ [91, 46, x.val, 46, 93], []) := by simp [cstep, hsp]
      rw [HST.out, e]
      exact hS.1

  case done =>
    rintro D ys W hD hys ⟨hT, hB⟩ hK
    rw [hys] at hT
    have hlen := codeSt_len (mem p 256)
    have hml := mem_le p 256
    generalize hst : codeSt (mem p 256) = st at *
    have HC := brows.hide2 hst
    clear hst
    obtain ⟨out, run⟩ := st
    simp only [] at hlen
    obtain ⟨go, co, gr, cr, t1, t2, t3, t4, t5⟩ := id hT
    have c4 : W.cell? ⟨w.heap.size + 1 + 1 + 1 + 1 + 1, 0, none⟩ = some (.func (.func 49) #[] #[.pointer (some ⟨w.heap.size + 1 + 1 + 1 + 1, 0, none⟩), .pointer (some ⟨w.heap.size + 1 + 1 + 1, 0, none⟩)]) := t4.cell
    gi_wp2_with fail
    refine ⟨trivial, ?_⟩
    refine (callsIn_wide.2 (brows.TS_letOut hT (by omega) (by omega) (by omega) (by simp only []; omega) (by simp only []; omega) (by simp only []; omega))).mono ?_
    rintro e w1 ⟨⟨v, rfl⟩, S1⟩
    have hK1 := S1.2.1.same D _ hK rfl
    obtain ⟨go1, co1, gr1, cr1, u1, u2, u3, u4, u5⟩ := id S1.1
    simp only [] at u1 u3
    have d1 := u1.cell
    have hsz := u5.lt
    have hm2 := flush_len (out, run)
    have hm3 : 1 ≤ (flush (out, run)).length := by simp [flush]; omega
    simp only [] at hm2
    have e1 := u3.head
    have hb1 := hB.trans S1.2.2.2
    clear hT t1 t2 t3 t4 t5 c4 hK u2 u4 S1
    generalize hfl : flush (out, run) = fl at *
    have HFL := brows.hide2 hfl
    clear hfl
    gi_wp2_with (gi_at_builtin; refine wpListIn_append_own_at _ rfl _ _ 57 rfl w.heap.size 5 i0 (.int .u8 0) 1 1 Tryd.underlying57 hi hz0 hz1 hz2 rfl (by decide) _ _ _ rfl (e1.alloc _) ⟨w1.heap.size, 0, none⟩ 1 1 [.int .u8 93] rfl rfl (World.news_of_block (cs := #[.int .u8 93]) (t := 5) (fr := (0, 0)) (heap_alloc_new w1 _)) (by simp [Value.oneCell']) (by unfold maxLen; omega) (by omega) (by simp; omega) ?_; intro vo w2 hown hg _ hat; have hconv := conv_owned (W := w2) (v := vo) (l := fl ++ [93]) (by rw [List.length_append, byteVals_snoc]; exact hown); have hg2 : (w1.alloc (.cells #[.int .u8 93] 5)).grownBy w2 (some go1) := hg; clear hg)
    obtain ⟨hgo, cur, hcur⟩ := brows.row_base e1
    have hK2 : w2.heap[D]? = some (.deferred (some [])) := by
      have hD1 : D < w1.heap.size := (Array.getElem?_eq_some_iff.1 hK1).1
      rw [hg2.block D (by simp; omega) ?_, Below.heap_alloc w1 _ D hD1, hK1]
      intro e'
      obtain rfl : D = go1 := by simpa using e'
      rw [hcur] at hK1
      cases hK1
    have hb2 : Below w.heap.size w1 w2 := ⟨hg2.os, hg2.tape, hg2.output, by have := hg2.size; simp at this; omega, fun k hk => by
      rw [hg2.block k (by simp; omega) (by simp; omega)]
      exact Below.heap_alloc w1 _ k (by omega)⟩
    refine ⟨by simp, .inl ⟨_, _, rfl, run_takeDeferred hK2, ?_⟩⟩
    exact ⟨_, results_tmp rfl _ _ _, by rw [HC.out, HFL.out]; rfl, (hb1.trans hb2).trans (belowK_b (w := w) (Nat.le_refl _) w2 D _ _ (by omega) hK2 rfl rfl)⟩
  case stop =>
    rintro D c pre W hD hSp h hK
    exact h.elim
end Go.Proofs.YtemgfbidfdhanaaDoor

/- bracket: the four bytes: the document's special, and IndexByte over them. -/
namespace Go.Proofs.YtemgfbidfdhanaaDoor
open Go.RowKit

theorem idx4_all : ∀ c : Fin 256, decide (0 ≤ Lib.indexByte [93, 94, 45, 91] (c.val.toUInt8)) = spec4 c.val := by decide +kernel

/-- IndexByte finds just the four bytes. -/
theorem idx4 (n : Nat) (h : n < 256) : decide (0 ≤ Lib.indexByte [93, 94, 45, 91] n.toUInt8) = spec4 n := idx4_all ⟨n, h⟩

theorem index4_call (n : Nat) (h : n < 256) (w : World) : ∃ x : Int, decide (0 ≤ x) = spec4 n ∧ Calls Tryd.prog 50 #[.string ⟨#[93, 94, 45, 91]⟩, .int .u8 (n : Int)] w fun e w' => e = .returned (.int .i64 x) ∧ w' = w := by
  have hI := Tryd.strings_IndexByte ⟨#[93, 94, 45, 91]⟩ (n : Int) w
  rw [Int.toNat_natCast] at hI
  exact ⟨_, idx4 n h, hI⟩
end Go.Proofs.YtemgfbidfdhanaaDoor

/- bracket.Text at every set. -/
namespace Go.Proofs.YtemgfbidfdhanaaDoor
open Go.RowKit

theorem mem_none {p : Nat → Bool} (h : eqB p noneP = true) : mem p 256 = [] := by
  rw [eqB_iff] at h
  unfold mem
  rw [List.filter_eq_nil_iff]
  intro a ha
  rw [h a (List.mem_range.1 ha)]
  simp [noneP]

theorem mem_some {p : Nat → Bool} (h : eqB p noneP = false) : mem p 256 ≠ [] := by
  intro h'
  have : eqB p noneP = true := by
    rw [eqB_iff]
    intro n hn
    unfold mem at h'
    rw [List.filter_eq_nil_iff] at h'
    have := h' n (List.mem_range.2 hn)
    simpa [noneP] using this
  rw [h] at this
  cases this

theorem mem_bytesE (p : Nat → Bool) (k : Nat) : ∀ x ∈ mem p k, x < k := by
  intro x hx
  exact List.mem_range.1 (List.mem_filter.1 hx).1

set_option maxRecDepth 100000 in
set_option maxHeartbeats 1000000 in
theorem text_none (p : Nat → Bool) (hp : eqB p noneP = true) (w : World) :
    Calls Tryd.prog 36 #[.agg #[.int .u64 (wd p 0 : Nat), .int .u64 (wd p 1 : Nat), .int .u64 (wd p 2 : Nat), .int .u64 (wd p 3 : Nat)]] w fun e w' => e = .returned (.string (bstr [91, 94, 0, 45, 255, 93])) ∧ Below w.heap.size w w' := by
  have z0 : wd noneP 0 = 0 := wd_none 0
  have z1 : wd noneP 1 = 0 := wd_none 1
  have z2 : wd noneP 2 = 0 := wd_none 2
  have z3 : wd noneP 3 = 0 := wd_none 3
  have heq := fun W => run_eql_set p noneP W
  rw [hp] at heq
  simp only [z0, z1, z2, z3, Int.ofNat_zero] at heq
  go_enter Tryd.func36, Tryd.ntmps36
  go_wp2
  go_ret
  exact ⟨rfl, (Below.refl _ _).alloc (Nat.le_refl _) _⟩

theorem text_any (p : Nat → Bool) (w : World) :
    Calls Tryd.prog 36 #[.agg #[.int .u64 (wd p 0 : Nat), .int .u64 (wd p 1 : Nat), .int .u64 (wd p 2 : Nat), .int .u64 (wd p 3 : Nat)]] w fun e w' => e = .returned (.string (bstr (textL (mem p 256)))) ∧ Below w.heap.size w w' := by
  cases hp : eqB p noneP
  · have h := text_some index4_call p hp w
    rw [codeSt_eq _ (mem_bytesE p 256) (mem_sorted p 256)] at h
    rw [textL, if_neg (mem_some hp)]
    exact h
  · rw [textL, if_pos (mem_none hp)]
    exact text_none p hp w
end Go.Proofs.YtemgfbidfdhanaaDoor
