/-
  DERIVED: THE SHELF's CONTRACTS AT THIS DUMP, IN PLAIN WORDS (tools/lay-plain.mjs out of 'TryShelf.lean', which tools/lay-shelf.mjs wrote): THE SAME DECLARATIONS UNDER THE SAME NAMES: 'import', 'namespace', 'open', 'def', 'theorem' AND NOTHING ELSE: no command of the shelf's: FOR A HAND-IN. Each laying: the table of numbers ('.._ren') and one theorem, a field a fact of the dump's own or the kernel's comparison; each contract: ONE APPLICATION.
-/
import Derived.Test.YtiedliahmjiadaaKGf
import Derived.Test.YtiedliahmjiadaaKIy
import Derived.Shelf.Slices.Turned
import Derived.Shelf.Slices.Reverse
import Derived.Test.YtiedliahmjiadaaProg
set_option maxRecDepth 100000
set_option maxHeartbeats 8000000
namespace Go.Proofs
open Go.Shelf
def Try.lays107_ren : Go.Shelf.Ren := ⟨fun | 107 => 21 | 108 => 35 | n => n, fun | 28 => 31 | 3 => 3 | 4 => 4 | 0 => 0 | n => n, fun | n => n⟩
theorem Try.lays107 : Go.Proofs.Lays.n107 Try.prog Try.lays107_ren := {
 mixed := by kernel_rfl
 f107 := Try.func21.trans (congrArg some (by kernel_rfl))
 f108 := Try.func35.trans (congrArg some (by kernel_rfl))
 t0 := Try.underlying0
 a0 := Try.isAgg0
 z0 := Try.sizeOf0
 v0 := Try.zeroValue0
 t3 := Try.underlying3
 a3 := Try.isAgg3
 z3 := Try.sizeOf3
 v3 := Try.zeroValue3
 t4 := Try.underlying4
 a4 := Try.isAgg4
 z4 := Try.sizeOf4
 v4 := Try.zeroValue4
 t28 := Try.underlying31
 a28 := Try.isAgg31
 z28 := Try.sizeOf31
 v28 := Try.zeroValue31 }
open Go.Lib in
theorem Try.slices_Contains_int (b off n c : Nat) (zs : List Int) (x : Int) (w : World) (hz : n ≤ zs.length) (hbig : n ≤ 9223372036854775807) (hc : ∀ j, j < zs.length → w.cell? ⟨b, off + j, none⟩ = some (.int .i64 (zs.getD j 0))) :
  Calls Try.prog 21 #[.slice (some ⟨b, off, none⟩) n c, .int .i64 x] w fun e w' => e = .returned (.bool ((zs.take n).contains x)) ∧ w' = w := Any.slices_Contains_int Try.lays107 b off n c zs x w hz hbig hc
open Go.Lib in
theorem Try.slices_Contains_int_empty (a : Option Addr) (c : Nat) (x : Int) (w : World) :
  Calls Try.prog 21 #[.slice a 0 c, .int .i64 x] w fun e w' => e = .returned (.bool false) ∧ w' = w := Any.slices_Contains_int_empty Try.lays107 a c x w
def Try.lays113_ren : Go.Shelf.Ren := ⟨fun | 113 => 20 | n => n, fun | 28 => 31 | 3 => 3 | 4 => 4 | 9 => 9 | 20 => 20 | 0 => 0 | n => n, fun | n => n⟩
theorem Try.lays113 : Go.Proofs.Lays.n113 Try.prog Try.lays113_ren := {
 mixed := by kernel_rfl
 f113 := Try.func20.trans (congrArg some (by kernel_rfl))
 t0 := Try.underlying0
 a0 := Try.isAgg0
 z0 := Try.sizeOf0
 v0 := Try.zeroValue0
 t3 := Try.underlying3
 a3 := Try.isAgg3
 z3 := Try.sizeOf3
 v3 := Try.zeroValue3
 t4 := Try.underlying4
 a4 := Try.isAgg4
 z4 := Try.sizeOf4
 v4 := Try.zeroValue4
 t9 := Try.underlying9
 a9 := Try.isAgg9
 z9 := Try.sizeOf9
 v9 := Try.zeroValue9
 t20 := Try.underlying20
 a20 := Try.isAgg20
 z20 := Try.sizeOf20
 v20 := Try.zeroValue20
 t28 := Try.underlying31
 a28 := Try.isAgg31
 z28 := Try.sizeOf31
 v28 := Try.zeroValue31 }
open Go.Lib in
theorem Try.slices_Max_int (b off n c : Nat) (zs : List Int) (w : World) (hn : 0 < n) (hz : n ≤ zs.length) (hbig : n ≤ 9223372036854775807) (hc : ∀ j, j < zs.length → w.cell? ⟨b, off + j, none⟩ = some (.int .i64 (zs.getD j 0))) :
  Calls Try.prog 20 #[.slice (some ⟨b, off, none⟩) n c] w fun e w' => e = .returned (.int .i64 (Lib.maxOf (zs.take n))) ∧ w' = w := Any.slices_Max_int Try.lays113 b off n c zs w hn hz hbig hc
def Try.lays112_ren : Go.Shelf.Ren := ⟨fun | 112 => 34 | n => n, fun | 28 => 31 | 3 => 3 | 4 => 4 | 0 => 0 | n => n, fun | n => n⟩
theorem Try.lays112 : Go.Proofs.Lays.n112 Try.prog Try.lays112_ren := {
 mixed := by kernel_rfl
 f112 := Try.func34.trans (congrArg some (by kernel_rfl))
 t0 := Try.underlying0
 a0 := Try.isAgg0
 z0 := Try.sizeOf0
 v0 := Try.zeroValue0
 t3 := Try.underlying3
 a3 := Try.isAgg3
 z3 := Try.sizeOf3
 v3 := Try.zeroValue3
 t4 := Try.underlying4
 a4 := Try.isAgg4
 z4 := Try.sizeOf4
 v4 := Try.zeroValue4
 t28 := Try.underlying31
 a28 := Try.isAgg31
 z28 := Try.sizeOf31
 v28 := Try.zeroValue31 }
open Go.RowKit Go.Lib Go.Sort in
theorem Try.slices_Reverse_int (blk off cap : Nat) (zs : List Int) (w : World) (hH : Holds (Value.int .i64) w blk off zs.toArray) (hsz : zs.length ≤ 9223372036854775807) :
  Calls Try.prog 34 #[.slice (some ⟨blk, off, none⟩) zs.length cap] w fun e w' => e = .returned (.tuple #[]) ∧ ∃ n, w' = putRow (Value.int .i64) (Sort.ahead w n) blk off zs.reverse.toArray := Any.slices_Reverse_int Try.lays112 blk off cap zs w hH hsz
open Go.RowKit Go.Lib Go.Sort in
theorem Try.slices_Reverse_int_empty (a : Option Addr) (cap : Nat) (w : World) :
  Calls Try.prog 34 #[.slice a 0 cap] w fun e w' => e = .returned (.tuple #[]) ∧ w' = w := Any.slices_Reverse_int_empty Try.lays112 a cap w
end Go.Proofs
namespace Go.Proofs.Ytiedliahmjiadaa
open Go.RowKit Go.Shelf
def EndsAt (g : Nat) (lb : Array Value) (n : Nat) (E : Nat → Bool) (w : World) : Prop := ∀ (W : World) (i : Nat), i ≤ n → Below w.heap.size w W → Calls Try.prog g (#[.int .i64 (i : Nat)] ++ lb) W fun e w' => e = .returned (.bool (E i)) ∧ w' = W
theorem st_len (n : Nat) (sb : Nat → Nat) (a : PaB) (ps : List PosB) (E : Nat → Bool) : ∀ (i : Nat) (tk : Nat → Bool), (stB n sb a ps E i tk).length ≤ i + 1
 | 0, tk => by
  unfold stB
  split <;> simp
 | i + 1, tk => by
  have h := st_len n sb a ps E i (tkB ps (wtB n a ps E (i + 1) tk) (sb i))
  unfold stB
  rw [List.length_append]
  split <;> simp <;> omega
theorem ah_in {ps : List PosB} {tk : Nat → Bool} (h : ∀ p ∈ ps, ∀ q, p.pr q = true → q < ps.length) : ∀ x, x < 256 → ahB ps tk x = true → x < ps.length := fun x _ hb => by
 unfold ahB at hb
 obtain ⟨p, _, hp⟩ := List.any_eq_true.1 hb
 rw [Bool.and_eq_true] at hp
 cases hq : ps[p]? with
 | none =>
  rw [hq] at hp
  exact absurd hp.2 (by simp)
 | some y =>
  rw [hq] at hp
  exact h y (List.mem_of_getElem? hq) x hp.2
theorem put_at {W : World} {g : Nat} {cur : Array Value} {e : TypeId} {fr : Nat × Nat} (n : Nat) (d : Array Int) (h : W.heap[g]? = some (.cells cur e fr)) : (Go.Sort.putRow (Value.int .i64) (Go.Sort.ahead W n) g 0 d).heap[g]? = some (.cells (Go.Sort.putCells (Value.int .i64) 0 d cur) e fr) := by
 unfold Go.Sort.putRow Go.Sort.mapBlock Go.Sort.ahead
 simp only [Array.getElem?_modify, if_true, h, Option.map_some]
 rfl
theorem put_else {W : World} {g k : Nat} (n : Nat) (d : Array Int) (h : k ≠ g) : (Go.Sort.putRow (Value.int .i64) (Go.Sort.ahead W n) g 0 d).heap[k]? = W.heap[k]? := by
 unfold Go.Sort.putRow Go.Sort.mapBlock Go.Sort.ahead
 simp only [Array.getElem?_modify]
 rw [if_neg (fun e => h e.symm)]
theorem reverse_any {w W : World} {Q : Nat} {fv : Value} {l : List Nat} {wt : Nat → Bool} (h : EnR w W Q fv l wt) (hl : l.length ≤ 2000) : Calls Try.prog 34 #[fv] W fun e w' => e = .returned (.tuple #[]) ∧ w'.ownsRow w.heap.size 3 1 fv l.length (inL l.reverse) ∧ Below w.heap.size w w' := by
 rcases h.own.2 with ⟨rfl, h0⟩ | ⟨g, cap, cur, rfl, hg, hh, hc1, hc2, hc3, hc4⟩
 ·obtain rfl := List.eq_nil_of_length_eq_zero h0
  refine (Try.slices_Reverse_int_empty none 0 W).mono ?_
  rintro e w' ⟨rfl, rfl⟩
  exact ⟨rfl, World.ownsRow_nil _ _ _ _, h.bel⟩
 ·have hz : (l.map fun (n : Nat) => (n : Int)).length = l.length := by simp
  have hcell : ∀ j, j < l.length → W.cell? ⟨g, 0 + j, none⟩ = some (.int .i64 ((l.map fun (n : Nat) => (n : Int)).toArray[j]!)) := fun j hj => by
   have h2 := h.own.cells (g := g) rfl j (.int .i64 ((l.map fun (n : Nat) => (n : Int)).toArray[j]!)) (by simp [inL, hj])
   have hplain : (⟨g, 0, none⟩ : Addr).add j = ⟨g, 0 + j, none⟩ := by unfold Addr.add; split <;> simp_all
   rwa [hplain] at h2
  have hfz : ∀ j, W.frozen? ⟨g, 0 + j, none⟩ = false := fun j => by simp [World.frozen?, hh]
  have hr := Try.slices_Reverse_int g 0 cap (l.map fun (n : Nat) => (n : Int)) W (fun j hj => ⟨hcell j (by simpa using hj), hfz j⟩) (by rw [hz]; omega)
  rw [hz] at hr
  refine hr.mono ?_
  rintro e w' ⟨rfl, n, rfl⟩
  refine ⟨rfl, ⟨by simp [inL_len], .inr ⟨g, cap, _, rfl, hg, put_at n _ hh, hc1, hc2, ?_, ?_⟩⟩, ?_⟩
  ·simpa [Go.Sort.putCells] using hc3
  ·apply List.ext_getElem?
   intro k
   by_cases hk : k < l.length
   ·have hk2 : k < cur.size := by omega
    rw [List.getElem?_take, if_pos (by omega)]
    simp [Go.Sort.putCells, hk, hk2, inL]
   ·rw [List.getElem?_eq_none (by simp; omega), List.getElem?_eq_none (by simp [inL]; omega)]
  ·refine { os := h.bel.os, tape := h.bel.tape, output := h.bel.output, size := ?_, block := fun k hk => ?_ }
   ·rw [Go.Sort.size_putRow]
    exact h.bel.size
   ·rw [put_else n _ (by omega)]
    exact h.bel.block k hk
theorem starts_any {B b : Nat} {ps : List PosB} {a : PaB} (s : ByteArray) (hs : s.size ≤ 1024) (g : Nat) (lb : Array Value) (E : Nat → Bool) (eg : ∀ args w, (callFunc g args).run Try.prog w = .ok (.enter g args) w) (w : World) (hw : WebAt w B b ps (paV a)) (hI : InB a ps.length) (hN : NxB ps ps.length) (hE : EndsAt g lb s.size E w) :
  Calls Try.prog 17 #[.pointer (some ⟨b, 0, none⟩), .string s, .func (.func g) #[] lb] w fun e w' => ∃ v, e = .returned v ∧ w'.ownsRow w.heap.size 3 1 v (startsB s.size (sbN s) a ps E).length (inL (startsB s.size (sbN s) a ps E)) ∧ Below w.heap.size w w' := by
 obtain ⟨ud, hud, hur⟩ := und_border
 obtain ⟨uS, huS, huR⟩ := und_set
 obtain ⟨i0, hi0, hz0, hz1, hz2⟩ := info_parts info_int
 obtain ⟨RR, hRR⟩ : ∃ R, R = stB s.size (sbN s) a ps E s.size noB := ⟨_, rfl⟩
 have eRR : startsB s.size (sbN s) a ps E = RR.reverse := by rw [hRR]; rfl
 rw [eRR]
 have HRR := hideT (show RR.length ≤ 1025 by rw [hRR]; have := st_len s.size (sbN s) a ps E s.size noB; omega)
 have HRX := hideT hRR.symm
 clear hRR eRR
 have HK := hideT (fun i w => kindOf_any s i w)
 have HW := hideT hw
 have HI := hideT hI
 have HN := hideT hN
 have HEA := hideT hE
 have hZb := (Below.refl w.heap.size w).alloc (Nat.le_refl _) (.cells #[.int .u64 0, .int .u64 0, .int .u64 0, .int .u64 0] 45)
 have hZs : Set4 (w.alloc (.cells #[.int .u64 0, .int .u64 0, .int .u64 0, .int .u64 0] 45)) w.heap.size noB := by
  have h := Set4.new w noB
  simp only [wd_noB] at h
  exact h
 have HR1 := hideT (show EnR w (w.alloc (.cells #[.int .u64 0, .int .u64 0, .int .u64 0, .int .u64 0] 45)) w.heap.size (.slice none 0 0) [] noB from ⟨World.ownsRow_nil _ _ _ _, hZb, hZs, (fun e => by cases e), Nat.le_refl _⟩)
 clear hw hI hN hE hZb hZs
 go_enter Try.func17, Try.ntmps17
 go_wp2_with fail
 obtain ⟨Q, hQ⟩ : ∃ Q, Q = w.heap.size := ⟨_, rfl⟩
 have HQ := hideT hQ
 rw [← hQ] at HR1
 rw [← hQ]
 generalize w.alloc (.cells #[.int .u64 0, .int .u64 0, .int .u64 0, .int .u64 0] 45) = X at *
 clear hQ
 go_loopw [7, 9] (fun fv v wr => ∃ (i : Nat) (l : List Nat) (tk : Nat → Bool), i ≤ s.size ∧ v = .int .i64 (i : Nat) ∧ EnR w wr Q fv l tk ∧ (∀ x, x < 256 → tk x = true → x < ps.length) ∧ Hid (l ++ stB s.size (sbN s) a ps E i tk = RR)) (fun _ v _ => (intOf v).toNat)
 case atStart => exact ⟨s.size, [], noB, Nat.le_refl _, rfl, HR1.out, fun x _ h => by simp [noB] at h, HRX⟩
 case round =>
  obtain ⟨i, l, tk, hin, rfl, hR, htk, HE⟩ := hrel
  have hll : l.length ≤ 1025 := by
   have h := congrArg List.length HE.out
   rw [List.length_append] at h
   have := HRR.out
   omega
  have i1 : (0 : Int) ≤ (i : Int) := by omega
  have hk5 := kd_lt s.size i
  have k3 : (0 : Int) ≤ (kdG s.size i : Nat) := by omega
  have k4 : ((kdG s.size i : Nat) : Int) < 4 := by omega
  have st_step : stB s.size (sbN s) a ps E i tk = (if fdB s.size a E i tk then [i] else []) ++ (if i = 0 then [] else stB s.size (sbN s) a ps E (i - 1) (tkB ps (wtB s.size a ps E i tk) (sbN s (i - 1)))) := by
   cases i with
   | zero => rw [if_pos rfl, List.append_nil]; rfl
   | succ k => simp [stB]
  have ST := hideT st_step
  clear st_step
  have R0 := hideT hR
  clear hR
  have hSa : Below wr.heap.size wr wr.drew := (Below.refl _ _).drew
  have hA1 : Below wr.heap.size wr (wr.drew.alloc (.cells #[.bool false, .int .u64 0, .int .u64 0, .int .u64 0, .int .u64 0, .int .u64 0, .int .u64 0, .int .u64 0, .int .u64 0] 78)) := hSa.alloc (Nat.le_refl _) _
  have zb : (wr.drew.alloc (.cells #[.bool false, .int .u64 0, .int .u64 0, .int .u64 0, .int .u64 0, .int .u64 0, .int .u64 0, .int .u64 0, .int .u64 0] 78)).heap[wr.heap.size]? = some (.cells z9.toArray 78 (0, 0)) := World.alloc_heap_new wr.drew _
  go_wp2_with fail
  rename_i K2 hK2
  have key : K2 ⟨#[.pointer (some ⟨b, 0, none⟩), .string s, .func (.func g) #[] lb, undef, undef, undef, .slice none 0 0, u7, .pointer (some ⟨Q, 0, none⟩), .int .i64 (i : Nat), .pointer (some ⟨wr.heap.size, 0, none⟩), u11, u12, .string s, .int .i64 (s.size : Nat), .int .i64 (i : Nat), .bool true, u17, u18, .pointer (some ⟨b, 0, none⟩), .int .i64 (i : Nat), .string s, .int .i64 (kdG s.size i : Nat), .pointer (some ⟨b, 0, none⟩), .pointer (some ⟨b, 1, none⟩), .pointer (some ⟨b, 1 + kdG s.size i * 9, none⟩), .agg (bdV (a (kdG s.size i))).toArray, u27, u28, u29, u30, u31, u32, u33, u34, u35, u36, u37, u38, u39, u40, u41, u42, u43, u44, u45, u46, u47, u48, u49, u50, u51, u52, u53, u54, u55, u56, u57, u58, u59, u60, u61, undef, undef, undef], []⟩ ((wr.drew.alloc (.cells #[.bool false, .int .u64 0, .int .u64 0, .int .u64 0, .int .u64 0, .int .u64 0, .int .u64 0, .int .u64 0, .int .u64 0] 78)).setCells wr.heap.size 0 (bdV (a (kdG s.size i)))) := by
   refine hK2 _ _ ?_
   have xN := setCells_whole (bdV (a (kdG s.size i))) zb rfl
   have xB := below_setCells wr.heap.size (Nat.le_refl _) (bdV (a (kdG s.size i))) _ 0 hA1
   clear hSa hA1 zb hK2
   generalize (wr.drew.alloc (.cells #[.bool false, .int .u64 0, .int .u64 0, .int .u64 0, .int .u64 0, .int .u64 0, .int .u64 0, .int .u64 0, .int .u64 0] 78)).setCells wr.heap.size 0 (bdV (a (kdG s.size i))) = Y at *
   obtain ⟨P, hP⟩ : ∃ P, P = wr.heap.size := ⟨_, rfl⟩
   rw [← hP]
   rw [← hP] at xN
   have RA := hideT (R0.out.step xB)
   have nbA := hideT xN
   have HCL := hideT (HEA.out Y i hin RA.out.bel)
   clear hP xN xB R0
   go_wp2_with fail
   refine (HCL.out).mono ?_
   rintro e Y' ⟨rfl, rfl⟩
   clear HCL
   have st_step := ST.out
   cases hEi : E i with
   | true =>
    have nbY := nbA.out
    have c0 : Y'.cell? ⟨P, 0, none⟩ = some (.bool (a (kdG s.size i)).no) := by simp [World.cell?, nbY, bdV]
    clear nbY
    cases hno : (a (kdG s.size i)).no with
    | true =>
     rw [hno] at c0
     have hfd : fdB s.size a E i tk = true := by unfold fdB; rw [hEi, hno]; rfl
     have HEi := hideT hEi
     have HE2 := hideT (show (l ++ [i]) ++ (if i = 0 then [] else stB s.size (sbN s) a ps E (i - 1) (tkB ps (wtB s.size a ps E i tk) (sbN s (i - 1)))) = RR by
      rw [← HE.out, st_step, hfd, List.append_assoc]; rfl)
     clear hfd
     go_wp2_with (at_builtin; refine wpList_append_lies _ rfl _ _ 31 rfl w.heap.size 3 i0 _ 1 8 und_ints hi0 hz0 hz1 hz2 rfl (by omega) _ l.length (inL l) rfl (owns_below RA.out.own ((Below.refl Y'.heap.size Y').alloc (Nat.le_refl _) _)) ⟨Y'.heap.size, 0, none⟩ 1 1 [.int .i64 (i : Nat)] rfl rfl (fun j u hj => new_cells Y' [.int .i64 (i : Nat)] 3 j u hj) (by simp [Value.oneCell']) (by omega) (by unfold maxLen; omega) (by omega) (by rw [World.size_alloc]; have := RA.out.bel.size; omega) _ rfl ?_)
     intro g4 gc4 W4 hown4 hgr4 hat4 hlt4
     have RB := hideT (RA.out.app (n := i) hgr4 hown4 (hat4.imp id (fun e => by rw [World.size_alloc]; exact e)))
     have nbW := hideT (show W4.heap[P]? = some (.cells (bdV (a (kdG s.size i))).toArray 78 (0, 0)) from (hgr4.block P (by rw [World.size_alloc]; have := (Array.getElem?_eq_some_iff.1 nbA.out).1; omega) (fun e => by
      obtain ⟨_, _, cur, h3⟩ := owns_blk RA.out.own e.symm
      rw [nbA.out] at h3
      cases h3)).trans ((Below.heap_alloc _ _ _ (Array.getElem?_eq_some_iff.1 nbA.out).1).trans nbA.out))
     clear hown4 hgr4 hat4 hlt4 RA nbA
     by_cases hz : i = 0
     ·have z1 : ((i : Int) == 0) = true := by rw [hz]; rfl
      have HRV := hideT (reverse_any RB.out (by (try simp only [List.length_append, List.length_singleton]); omega))
      have HL := hideT (show (l ++ [i]) = RR by
       have h := HE2.out
       rw [if_pos hz, List.append_nil] at h
       exact h)
      clear hz
      go_wp2_with fail
      refine (HRV.out).mono ?_
      rintro e W9 ⟨rfl, hown9, hb9⟩
      have HZ := hideT (And.intro hown9 hb9)
      clear hown9 hb9
      go_wp2
      go_ret
      refine ⟨_, rfl, ?_, HZ.out.2⟩
      rw [List.length_reverse, ← HL.out]
      exact HZ.out.1
     ·have z1 : ((i : Int) == 0) = false := by rw [beq_eq_false_iff_ne]; omega
      obtain ⟨k, hk⟩ : ∃ k, k + 1 = i := ⟨i - 1, by omega⟩
      have hks : k < s.size := by omega
      have HE3 := hideT (show (l ++ [i]) ++ stB s.size (sbN s) a ps E k (tkB ps (wtB s.size a ps E i tk) (s[k]'hks).toNat) = RR by
       have h := HE2.out
       rw [if_neg hz, show i - 1 = k by omega, sb_at s k hks] at h
       exact h)
      have kw : IntKind.i64.wrap (k : Int) = (k : Int) := wrap_small _ (by omega) (by omega)
      have kv : (i : Int) - 1 = (k : Int) := by omega
      have kj1 : (0 : Int) ≤ (k : Int) := by omega
      have kj2 : (k : Int) < (s.size : Int) := by omega
      obtain ⟨⟨q0, q1, q2, q3⟩, -⟩ := Set4.holds RB.out.set
      have HAH := hideT (ahead_any tk W4 (HW.out.below RB.out.bel) htk)
      clear hz
      go_wp2_with fail
      refine (HAH.out).mono ?_
      rintro e W5 ⟨rfl, hb5⟩
      have hvq : W5.heap.size ≠ Q := fun e => by
       have := RB.out.set.lt
       have := hb5.size
       omega
      clear q0 q1 q2 q3 HAH
      have RC := RB.out.step hb5
      have n5 : W5.heap[P]? = some (.cells (bdV (a (kdG s.size i))).toArray 78 (0, 0)) := (hb5.block _ (Array.getElem?_eq_some_iff.1 nbW.out).1).trans nbW.out
      have a5 := (Below.refl W5.heap.size W5).alloc (Nat.le_refl _) (.cells #[.int .u64 (wd (ahB ps tk) 0 : Nat), .int .u64 (wd (ahB ps tk) 1 : Nat), .int .u64 (wd (ahB ps tk) 2 : Nat), .int .u64 (wd (ahB ps tk) 3 : Nat)] 45)
      have RD := hideT (RC.step a5)
      have v5 := Set4.new W5 (ahB ps tk)
      have n6 : (W5.alloc (.cells #[.int .u64 (wd (ahB ps tk) 0 : Nat), .int .u64 (wd (ahB ps tk) 1 : Nat), .int .u64 (wd (ahB ps tk) 2 : Nat), .int .u64 (wd (ahB ps tk) 3 : Nat)] 45)).heap[P]? = some (.cells (bdV (a (kdG s.size i))).toArray 78 (0, 0)) := (a5.block _ (Array.getElem?_eq_some_iff.1 n5).1).trans n5
      have hP5 : P < W5.heap.size := (Array.getElem?_eq_some_iff.1 n5).1
      have d5 : (W5.alloc (.cells #[.int .u64 (wd (ahB ps tk) 0 : Nat), .int .u64 (wd (ahB ps tk) 1 : Nat), .int .u64 (wd (ahB ps tk) 2 : Nat), .int .u64 (wd (ahB ps tk) 3 : Nat)] 45)).cell? ⟨P, 5, none⟩ = some (.int .u64 (wd (a (kdG s.size i)).ls 0 : Nat)) := by simp [World.cell?, n6, bdV]
      have d6 : (W5.alloc (.cells #[.int .u64 (wd (ahB ps tk) 0 : Nat), .int .u64 (wd (ahB ps tk) 1 : Nat), .int .u64 (wd (ahB ps tk) 2 : Nat), .int .u64 (wd (ahB ps tk) 3 : Nat)] 45)).cell? ⟨P, 6, none⟩ = some (.int .u64 (wd (a (kdG s.size i)).ls 1 : Nat)) := by simp [World.cell?, n6, bdV]
      have d7 : (W5.alloc (.cells #[.int .u64 (wd (ahB ps tk) 0 : Nat), .int .u64 (wd (ahB ps tk) 1 : Nat), .int .u64 (wd (ahB ps tk) 2 : Nat), .int .u64 (wd (ahB ps tk) 3 : Nat)] 45)).cell? ⟨P, 7, none⟩ = some (.int .u64 (wd (a (kdG s.size i)).ls 2 : Nat)) := by simp [World.cell?, n6, bdV]
      have d8 : (W5.alloc (.cells #[.int .u64 (wd (ahB ps tk) 0 : Nat), .int .u64 (wd (ahB ps tk) 1 : Nat), .int .u64 (wd (ahB ps tk) 2 : Nat), .int .u64 (wd (ahB ps tk) 3 : Nat)] 45)).cell? ⟨P, 8, none⟩ = some (.int .u64 (wd (a (kdG s.size i)).ls 3 : Nat)) := by simp [World.cell?, n6, bdV]
      have HOR := hideT (orD (ahB ps tk) (a (kdG s.size i)).ls (W5.alloc (.cells #[.int .u64 (wd (ahB ps tk) 0 : Nat), .int .u64 (wd (ahB ps tk) 1 : Nat), .int .u64 (wd (ahB ps tk) 2 : Nat), .int .u64 (wd (ahB ps tk) 3 : Nat)] 45)))
      have HV5 := hideT v5
      clear RC n5 a5 v5 n6
      go_wp2_with fail
      refine (HOR.out).mono ?_
      rintro e W6 ⟨rfl, hb6⟩
      have hb6' : Below (W5.heap.size + 1) (W5.alloc (.cells #[.int .u64 (wd (ahB ps tk) 0 : Nat), .int .u64 (wd (ahB ps tk) 1 : Nat), .int .u64 (wd (ahB ps tk) 2 : Nat), .int .u64 (wd (ahB ps tk) 3 : Nat)] 45)) W6 := hb6.mono (by rw [World.size_alloc]; exact Nat.le_refl _)
      have RE := RD.out.step hb6
      have v6 := HV5.out.below hb6 HV5.out.lt
      obtain ⟨⟨q0, q1, q2, q3⟩, ⟨f0, f1, f2, f3⟩⟩ := Set4.holds v6
      have HRE := hideT RE
      have HV6 := hideT v6
      clear HOR hb6 RE v6 d5 d6 d7 d8 hb6'
      go_wp2_with fail
      have v7 := setCells_whole [.int .u64 (wd (wtB s.size a ps E i tk) 0 : Nat), .int .u64 (wd (wtB s.size a ps E i tk) 1 : Nat), .int .u64 (wd (wtB s.size a ps E i tk) 2 : Nat), .int .u64 (wd (wtB s.size a ps E i tk) 3 : Nat)] (cs := [.int .u64 (wd (ahB ps tk) 0 : Nat), .int .u64 (wd (ahB ps tk) 1 : Nat), .int .u64 (wd (ahB ps tk) 2 : Nat), .int .u64 (wd (ahB ps tk) 3 : Nat)]) HV6.out rfl
      have RF : EnR w (W6.setCells W5.heap.size 0 [.int .u64 (wd (wtB s.size a ps E i tk) 0 : Nat), .int .u64 (wd (wtB s.size a ps E i tk) 1 : Nat), .int .u64 (wd (wtB s.size a ps E i tk) 2 : Nat), .int .u64 (wd (wtB s.size a ps E i tk) 3 : Nat)]) Q _ (l ++ [i]) tk := ⟨owns_keep HRE.out.own (fun g hg => setCells_far W6 _ (fun e => by
       have := (RB.out.own.lt g hg).2
       have := hb5.size
       omega) _ _), below_setCells _ (Nat.le_trans RB.out.bel.size hb5.size) _ _ _ HRE.out.bel, (setCells_far W6 _ (fun e => hvq e.symm) _ _).trans HRE.out.set, HRE.out.ne, HRE.out.base⟩
      have ew : wtB s.size a ps E i tk = orP (ahB ps tk) (a (kdG s.size i)).ls := by unfold wtB; rw [if_pos hEi]; rfl
      have hv7 : Set4 ((((W6.setCell ⟨W5.heap.size, 0, none⟩ (.int .u64 (wd (orP (ahB ps tk) (a (kdG s.size i)).ls) 0 : Nat))).setCell ⟨W5.heap.size, 1, none⟩ (.int .u64 (wd (orP (ahB ps tk) (a (kdG s.size i)).ls) 1 : Nat))).setCell ⟨W5.heap.size, 2, none⟩ (.int .u64 (wd (orP (ahB ps tk) (a (kdG s.size i)).ls) 2 : Nat))).setCell ⟨W5.heap.size, 3, none⟩ (.int .u64 (wd (orP (ahB ps tk) (a (kdG s.size i)).ls) 3 : Nat))) W5.heap.size (orP (ahB ps tk) (a (kdG s.size i)).ls) := by rw [ew] at v7; exact v7
      rw [ew] at RF
      have RG : EnR w ((((W6.setCell ⟨W5.heap.size, 0, none⟩ (.int .u64 (wd (orP (ahB ps tk) (a (kdG s.size i)).ls) 0 : Nat))).setCell ⟨W5.heap.size, 1, none⟩ (.int .u64 (wd (orP (ahB ps tk) (a (kdG s.size i)).ls) 1 : Nat))).setCell ⟨W5.heap.size, 2, none⟩ (.int .u64 (wd (orP (ahB ps tk) (a (kdG s.size i)).ls) 2 : Nat))).setCell ⟨W5.heap.size, 3, none⟩ (.int .u64 (wd (orP (ahB ps tk) (a (kdG s.size i)).ls) 3 : Nat))) Q _ (l ++ [i]) tk := RF
      have HW7 := hideT (And.intro hv7 RG)
      generalize hWW : ((((W6.setCell ⟨W5.heap.size, 0, none⟩ (.int .u64 (wd (orP (ahB ps tk) (a (kdG s.size i)).ls) 0 : Nat))).setCell ⟨W5.heap.size, 1, none⟩ (.int .u64 (wd (orP (ahB ps tk) (a (kdG s.size i)).ls) 1 : Nat))).setCell ⟨W5.heap.size, 2, none⟩ (.int .u64 (wd (orP (ahB ps tk) (a (kdG s.size i)).ls) 2 : Nat))).setCell ⟨W5.heap.size, 3, none⟩ (.int .u64 (wd (orP (ahB ps tk) (a (kdG s.size i)).ls) 3 : Nat))) = W7 at *
      clear hWW v7 hv7 RF RG q0 q1 q2 q3 f0 f1 f2 f3
      obtain ⟨wt, hwt⟩ : ∃ t, t = orP (ahB ps tk) (a (kdG s.size i)).ls := ⟨_, rfl⟩
      rw [← hwt] at HW7
      have HWT := hideT (ew.trans hwt.symm)
      have HWI := hideT (show ∀ x, x < 256 → wt x = true → x < ps.length by
       rw [hwt]
       intro x hx h
       simp only [orP, Bool.or_eq_true] at h
       exact h.elim (fun h => ah_in (fun p hp q => (HN.out p hp q).2) x hx h) (fun h => (HI.out _ x).2 h))
      rw [← hwt]
      clear ew hwt
      have hD7 : Below W7.heap.size W7 W7.drew := (Below.refl _ _).drew
      have hS7 : Set4 W7.drew W5.heap.size wt := HW7.out.1.below hD7 HW7.out.1.lt
      have HTK := hideT (takers_any wt (s[k]'hks).toNat (s[k]'hks).toNat_lt W7.drew (HW.out.below HW7.out.2.bel.drew) HWI.out)
      obtain ⟨tk2, htk2⟩ : ∃ t, t = tkB ps wt (s[k]'hks).toNat := ⟨_, rfl⟩
      rw [← htk2] at HTK
      have HE4 := hideT (show (l ++ [i]) ++ stB s.size (sbN s) a ps E k tk2 = RR by rw [← HE3.out, HWT.out, htk2])
      have HTI := hideT (show ∀ x, x < 256 → tk2 x = true → x < ps.length by rw [htk2]; exact tk_in HWI.out)
      clear htk2
      refine wp_region_held (S := fun V => Set4 V W5.heap.size wt) (by kernel_rfl) ?_
      refine' take_d 0 (some 55) rfl rfl (by kernel_rfl) (by kernel_rfl) (by kernel_rfl) (fun _ _ _ h => h) (by rfl) hS7 ?hy1008 ?rest1008
      case hy1008 => intro V _; go_simp; (try with_reducible rfl)
      refine take_y 1 (some 56) rfl rfl (by kernel_rfl) (by kernel_rfl) (by kernel_rfl) (fun _ _ _ h => h) hS7 (yieldsIf_load_mid (by rfl) 45 _ rfl W5.heap.size 0 rfl [.int .u64 (wd wt 0 : Nat), .int .u64 (wd wt 1 : Nat), .int .u64 (wd wt 2 : Nat), .int .u64 (wd wt 3 : Nat)] uS (fun V hV => range_block (cs := [.int .u64 (wd wt 0 : Nat), .int .u64 (wd wt 1 : Nat), .int .u64 (wd wt 2 : Nat), .int .u64 (wd wt 3 : Nat)]) hV) huS huR (by rw [info_set]; rfl)) ?_
      refine' take_d 2 (some 57) rfl rfl (by kernel_rfl) (by kernel_rfl) (by kernel_rfl) (fun _ _ _ h => h) (by rfl) hS7 ?hy1009 ?rest1009
      case hy1009 => intro V _; go_simp; (try with_reducible rfl)
      refine' take_d 3 (some 58) rfl rfl (by kernel_rfl) (by kernel_rfl) (by kernel_rfl) (fun _ _ _ h => h) (by rfl) hS7 ?hy1010 ?rest1010
      case hy1010 => intro V _; go_simp; (try with_reducible rfl)
      refine' take_d 4 (some 59) rfl rfl (by kernel_rfl) (by kernel_rfl) (by kernel_rfl) (fun _ _ _ h => h) (by rfl) hS7 ?hy1011 ?rest1011
      case hy1011 => intro V _; go_simp; (try with_reducible rfl)
      refine' take_d 5 (some 60) rfl rfl (by kernel_rfl) (by kernel_rfl) (by kernel_rfl) (fun _ _ _ h => h) (by rfl) hS7 ?hy1012 ?rest1012
      case hy1012 => intro V _; go_simp; (try with_reducible rfl)
      (try simp only [Act.put, List.setIfInBounds_toArray, List.set_cons_zero, List.set_cons_succ])
      refine wpAnyH_all (rs := [6]) (by kernel_rfl) (by simp) (fun i hi => ?_)
      obtain rfl : i = 6 := List.mem_singleton.1 hi
      refine op_call (some 61) rfl rfl (by rfl) (by go_simp; (try with_reducible rfl)) (R := fun v w' => v = .agg #[.int .u64 (wd tk2 0 : Nat), .int .u64 (wd tk2 1 : Nat), .int .u64 (wd tk2 2 : Nat), .int .u64 (wd tk2 3 : Nat)] ∧ Below W7.heap.size W7 w') ((HTK.out).mono (fun e w' h => ⟨_, h.1, rfl, hD7.trans (h.2.mono hD7.size)⟩)) ?_
      rintro v W8 ⟨rfl, hb8⟩
      have v8 := HW7.out.1.below hb8 HW7.out.1.lt
      refine And.intro v8 ?_
      have R8 := HW7.out.2.step hb8
      (try simp only [Act.put, List.setIfInBounds_toArray, List.set_cons_zero, List.set_cons_succ])
      refine wpAnyH_all (rs := [7]) (by kernel_rfl) (by simp) (fun i hi => ?_)
      obtain rfl : i = 7 := List.mem_singleton.1 hi
      refine op_store 45 8 61 Q [.int .u64 (wd tk2 0 : Nat), .int .u64 (wd tk2 1 : Nat), .int .u64 (wd tk2 2 : Nat), .int .u64 (wd tk2 3 : Nat)] rfl rfl rfl rfl rfl rfl (there_block (cs := [.int .u64 (wd tk 0 : Nat), .int .u64 (wd tk 1 : Nat), .int .u64 (wd tk 2 : Nat), .int .u64 (wd tk 3 : Nat)]) R8.set _ rfl) (by rw [info_set]; rfl) (by simp [Value.oneCell']) ?_
      refine And.intro ((setCells_far W8 _ hvq _ _).trans v8) ?_
      refine wpAnyH_done (by kernel_rfl) ?_ _
      have HR9 := hideT (R8.put tk2)
      clear R8 hb8 v8
      simp only [Act.put]
      generalize W8.setCells Q 0 [.int .u64 (wd tk2 0 : Nat), .int .u64 (wd tk2 1 : Nat), .int .u64 (wd tk2 2 : Nat), .int .u64 (wd tk2 3 : Nat)] = W9 at *
      go_wp2
      exact ⟨⟨k, (l ++ [i]), tk2, by omega, rfl, HR9.out, HTI.out, HE4⟩, by simp [intOf]; omega⟩
    | false =>
     rw [hno] at c0
     obtain ⟨⟨q0, q1, q2, q3⟩, -⟩ := Set4.holds RA.out.set
     have nbY := nbA.out
     have c1 : Y'.cell? ⟨P, 1, none⟩ = some (.int .u64 (wd (a (kdG s.size i)).fs 0 : Nat)) := by simp [World.cell?, nbY, bdV]
     have c2 : Y'.cell? ⟨P, 2, none⟩ = some (.int .u64 (wd (a (kdG s.size i)).fs 1 : Nat)) := by simp [World.cell?, nbY, bdV]
     have c3 : Y'.cell? ⟨P, 3, none⟩ = some (.int .u64 (wd (a (kdG s.size i)).fs 2 : Nat)) := by simp [World.cell?, nbY, bdV]
     have c4 : Y'.cell? ⟨P, 4, none⟩ = some (.int .u64 (wd (a (kdG s.size i)).fs 3 : Nat)) := by simp [World.cell?, nbY, bdV]
     have HM := hideT (meet_any tk (a (kdG s.size i)).fs Y')
     clear nbY
     go_wp2_with fail
     refine (HM.out).mono ?_
     rintro e W3 ⟨rfl, hb3⟩
     have RA3 := hideT (RA.out.step hb3)
     have nbA3 := hideT (show W3.heap[P]? = some (.cells (bdV (a (kdG s.size i))).toArray 78 (0, 0)) from (hb3.block _ (Array.getElem?_eq_some_iff.1 nbA.out).1).trans nbA.out)
     clear q0 q1 q2 q3 c1 c2 c3 c4 HM hb3 RA nbA
     have RA := RA3
     have nbA := nbA3
     clear RA3 nbA3
     cases hm : meetB tk (a (kdG s.size i)).fs with
     | true =>
      have hfd : fdB s.size a E i tk = true := by unfold fdB; rw [hm, Bool.or_true]
      clear hm
      have HE2 := hideT (show (l ++ [i]) ++ (if i = 0 then [] else stB s.size (sbN s) a ps E (i - 1) (tkB ps (wtB s.size a ps E i tk) (sbN s (i - 1)))) = RR by
       rw [← HE.out, st_step, hfd, List.append_assoc]; rfl)
      clear hfd
      go_wp2_with (at_builtin; refine wpList_append_lies _ rfl _ _ 31 rfl w.heap.size 3 i0 _ 1 8 und_ints hi0 hz0 hz1 hz2 rfl (by omega) _ l.length (inL l) rfl (owns_below RA.out.own ((Below.refl W3.heap.size W3).alloc (Nat.le_refl _) _)) ⟨W3.heap.size, 0, none⟩ 1 1 [.int .i64 (i : Nat)] rfl rfl (fun j u hj => new_cells W3 [.int .i64 (i : Nat)] 3 j u hj) (by simp [Value.oneCell']) (by omega) (by unfold maxLen; omega) (by omega) (by rw [World.size_alloc]; have := RA.out.bel.size; omega) _ rfl ?_)
      intro g4 gc4 W4 hown4 hgr4 hat4 hlt4
      have RB := hideT (RA.out.app (n := i) hgr4 hown4 (hat4.imp id (fun e => by rw [World.size_alloc]; exact e)))
      have nbW := hideT (show W4.heap[P]? = some (.cells (bdV (a (kdG s.size i))).toArray 78 (0, 0)) from (hgr4.block P (by rw [World.size_alloc]; have := (Array.getElem?_eq_some_iff.1 nbA.out).1; omega) (fun e => by
       obtain ⟨_, _, cur, h3⟩ := owns_blk RA.out.own e.symm
       rw [nbA.out] at h3
       cases h3)).trans ((Below.heap_alloc _ _ _ (Array.getElem?_eq_some_iff.1 nbA.out).1).trans nbA.out))
      clear hown4 hgr4 hat4 hlt4 RA nbA
      by_cases hz : i = 0
      ·have z1 : ((i : Int) == 0) = true := by rw [hz]; rfl
       have HRV := hideT (reverse_any RB.out (by (try simp only [List.length_append, List.length_singleton]); omega))
       have HL := hideT (show (l ++ [i]) = RR by
        have h := HE2.out
        rw [if_pos hz, List.append_nil] at h
        exact h)
       clear hz
       go_wp2_with fail
       refine (HRV.out).mono ?_
       rintro e W9 ⟨rfl, hown9, hb9⟩
       have HZ := hideT (And.intro hown9 hb9)
       clear hown9 hb9
       go_wp2
       go_ret
       refine ⟨_, rfl, ?_, HZ.out.2⟩
       rw [List.length_reverse, ← HL.out]
       exact HZ.out.1
      ·have z1 : ((i : Int) == 0) = false := by rw [beq_eq_false_iff_ne]; omega
       obtain ⟨k, hk⟩ : ∃ k, k + 1 = i := ⟨i - 1, by omega⟩
       have hks : k < s.size := by omega
       have HE3 := hideT (show (l ++ [i]) ++ stB s.size (sbN s) a ps E k (tkB ps (wtB s.size a ps E i tk) (s[k]'hks).toNat) = RR by
        have h := HE2.out
        rw [if_neg hz, show i - 1 = k by omega, sb_at s k hks] at h
        exact h)
       have kw : IntKind.i64.wrap (k : Int) = (k : Int) := wrap_small _ (by omega) (by omega)
       have kv : (i : Int) - 1 = (k : Int) := by omega
       have kj1 : (0 : Int) ≤ (k : Int) := by omega
       have kj2 : (k : Int) < (s.size : Int) := by omega
       obtain ⟨⟨q0, q1, q2, q3⟩, -⟩ := Set4.holds RB.out.set
       have HAH := hideT (ahead_any tk W4 (HW.out.below RB.out.bel) htk)
       clear hz
       go_wp2_with fail
       refine (HAH.out).mono ?_
       rintro e W5 ⟨rfl, hb5⟩
       have hvq : W5.heap.size ≠ Q := fun e => by
        have := RB.out.set.lt
        have := hb5.size
        omega
       clear q0 q1 q2 q3 HAH
       have RC := RB.out.step hb5
       have n5 : W5.heap[P]? = some (.cells (bdV (a (kdG s.size i))).toArray 78 (0, 0)) := (hb5.block _ (Array.getElem?_eq_some_iff.1 nbW.out).1).trans nbW.out
       have a5 := (Below.refl W5.heap.size W5).alloc (Nat.le_refl _) (.cells #[.int .u64 (wd (ahB ps tk) 0 : Nat), .int .u64 (wd (ahB ps tk) 1 : Nat), .int .u64 (wd (ahB ps tk) 2 : Nat), .int .u64 (wd (ahB ps tk) 3 : Nat)] 45)
       have RD := hideT (RC.step a5)
       have v5 := Set4.new W5 (ahB ps tk)
       have n6 : (W5.alloc (.cells #[.int .u64 (wd (ahB ps tk) 0 : Nat), .int .u64 (wd (ahB ps tk) 1 : Nat), .int .u64 (wd (ahB ps tk) 2 : Nat), .int .u64 (wd (ahB ps tk) 3 : Nat)] 45)).heap[P]? = some (.cells (bdV (a (kdG s.size i))).toArray 78 (0, 0)) := (a5.block _ (Array.getElem?_eq_some_iff.1 n5).1).trans n5
       have hP5 : P < W5.heap.size := (Array.getElem?_eq_some_iff.1 n5).1
       have d5 : (W5.alloc (.cells #[.int .u64 (wd (ahB ps tk) 0 : Nat), .int .u64 (wd (ahB ps tk) 1 : Nat), .int .u64 (wd (ahB ps tk) 2 : Nat), .int .u64 (wd (ahB ps tk) 3 : Nat)] 45)).cell? ⟨P, 5, none⟩ = some (.int .u64 (wd (a (kdG s.size i)).ls 0 : Nat)) := by simp [World.cell?, n6, bdV]
       have d6 : (W5.alloc (.cells #[.int .u64 (wd (ahB ps tk) 0 : Nat), .int .u64 (wd (ahB ps tk) 1 : Nat), .int .u64 (wd (ahB ps tk) 2 : Nat), .int .u64 (wd (ahB ps tk) 3 : Nat)] 45)).cell? ⟨P, 6, none⟩ = some (.int .u64 (wd (a (kdG s.size i)).ls 1 : Nat)) := by simp [World.cell?, n6, bdV]
       have d7 : (W5.alloc (.cells #[.int .u64 (wd (ahB ps tk) 0 : Nat), .int .u64 (wd (ahB ps tk) 1 : Nat), .int .u64 (wd (ahB ps tk) 2 : Nat), .int .u64 (wd (ahB ps tk) 3 : Nat)] 45)).cell? ⟨P, 7, none⟩ = some (.int .u64 (wd (a (kdG s.size i)).ls 2 : Nat)) := by simp [World.cell?, n6, bdV]
       have d8 : (W5.alloc (.cells #[.int .u64 (wd (ahB ps tk) 0 : Nat), .int .u64 (wd (ahB ps tk) 1 : Nat), .int .u64 (wd (ahB ps tk) 2 : Nat), .int .u64 (wd (ahB ps tk) 3 : Nat)] 45)).cell? ⟨P, 8, none⟩ = some (.int .u64 (wd (a (kdG s.size i)).ls 3 : Nat)) := by simp [World.cell?, n6, bdV]
       have HOR := hideT (orD (ahB ps tk) (a (kdG s.size i)).ls (W5.alloc (.cells #[.int .u64 (wd (ahB ps tk) 0 : Nat), .int .u64 (wd (ahB ps tk) 1 : Nat), .int .u64 (wd (ahB ps tk) 2 : Nat), .int .u64 (wd (ahB ps tk) 3 : Nat)] 45)))
       have HV5 := hideT v5
       clear RC n5 a5 v5 n6
       go_wp2_with fail
       refine (HOR.out).mono ?_
       rintro e W6 ⟨rfl, hb6⟩
       have hb6' : Below (W5.heap.size + 1) (W5.alloc (.cells #[.int .u64 (wd (ahB ps tk) 0 : Nat), .int .u64 (wd (ahB ps tk) 1 : Nat), .int .u64 (wd (ahB ps tk) 2 : Nat), .int .u64 (wd (ahB ps tk) 3 : Nat)] 45)) W6 := hb6.mono (by rw [World.size_alloc]; exact Nat.le_refl _)
       have RE := RD.out.step hb6
       have v6 := HV5.out.below hb6 HV5.out.lt
       obtain ⟨⟨q0, q1, q2, q3⟩, ⟨f0, f1, f2, f3⟩⟩ := Set4.holds v6
       have HRE := hideT RE
       have HV6 := hideT v6
       clear HOR hb6 RE v6 d5 d6 d7 d8 hb6'
       go_wp2_with fail
       have v7 := setCells_whole [.int .u64 (wd (wtB s.size a ps E i tk) 0 : Nat), .int .u64 (wd (wtB s.size a ps E i tk) 1 : Nat), .int .u64 (wd (wtB s.size a ps E i tk) 2 : Nat), .int .u64 (wd (wtB s.size a ps E i tk) 3 : Nat)] (cs := [.int .u64 (wd (ahB ps tk) 0 : Nat), .int .u64 (wd (ahB ps tk) 1 : Nat), .int .u64 (wd (ahB ps tk) 2 : Nat), .int .u64 (wd (ahB ps tk) 3 : Nat)]) HV6.out rfl
       have RF : EnR w (W6.setCells W5.heap.size 0 [.int .u64 (wd (wtB s.size a ps E i tk) 0 : Nat), .int .u64 (wd (wtB s.size a ps E i tk) 1 : Nat), .int .u64 (wd (wtB s.size a ps E i tk) 2 : Nat), .int .u64 (wd (wtB s.size a ps E i tk) 3 : Nat)]) Q _ (l ++ [i]) tk := ⟨owns_keep HRE.out.own (fun g hg => setCells_far W6 _ (fun e => by
        have := (RB.out.own.lt g hg).2
        have := hb5.size
        omega) _ _), below_setCells _ (Nat.le_trans RB.out.bel.size hb5.size) _ _ _ HRE.out.bel, (setCells_far W6 _ (fun e => hvq e.symm) _ _).trans HRE.out.set, HRE.out.ne, HRE.out.base⟩
       have ew : wtB s.size a ps E i tk = orP (ahB ps tk) (a (kdG s.size i)).ls := by unfold wtB; rw [if_pos hEi]; rfl
       have hv7 : Set4 ((((W6.setCell ⟨W5.heap.size, 0, none⟩ (.int .u64 (wd (orP (ahB ps tk) (a (kdG s.size i)).ls) 0 : Nat))).setCell ⟨W5.heap.size, 1, none⟩ (.int .u64 (wd (orP (ahB ps tk) (a (kdG s.size i)).ls) 1 : Nat))).setCell ⟨W5.heap.size, 2, none⟩ (.int .u64 (wd (orP (ahB ps tk) (a (kdG s.size i)).ls) 2 : Nat))).setCell ⟨W5.heap.size, 3, none⟩ (.int .u64 (wd (orP (ahB ps tk) (a (kdG s.size i)).ls) 3 : Nat))) W5.heap.size (orP (ahB ps tk) (a (kdG s.size i)).ls) := by rw [ew] at v7; exact v7
       rw [ew] at RF
       have RG : EnR w ((((W6.setCell ⟨W5.heap.size, 0, none⟩ (.int .u64 (wd (orP (ahB ps tk) (a (kdG s.size i)).ls) 0 : Nat))).setCell ⟨W5.heap.size, 1, none⟩ (.int .u64 (wd (orP (ahB ps tk) (a (kdG s.size i)).ls) 1 : Nat))).setCell ⟨W5.heap.size, 2, none⟩ (.int .u64 (wd (orP (ahB ps tk) (a (kdG s.size i)).ls) 2 : Nat))).setCell ⟨W5.heap.size, 3, none⟩ (.int .u64 (wd (orP (ahB ps tk) (a (kdG s.size i)).ls) 3 : Nat))) Q _ (l ++ [i]) tk := RF
       have HW7 := hideT (And.intro hv7 RG)
       generalize hWW : ((((W6.setCell ⟨W5.heap.size, 0, none⟩ (.int .u64 (wd (orP (ahB ps tk) (a (kdG s.size i)).ls) 0 : Nat))).setCell ⟨W5.heap.size, 1, none⟩ (.int .u64 (wd (orP (ahB ps tk) (a (kdG s.size i)).ls) 1 : Nat))).setCell ⟨W5.heap.size, 2, none⟩ (.int .u64 (wd (orP (ahB ps tk) (a (kdG s.size i)).ls) 2 : Nat))).setCell ⟨W5.heap.size, 3, none⟩ (.int .u64 (wd (orP (ahB ps tk) (a (kdG s.size i)).ls) 3 : Nat))) = W7 at *
       clear hWW v7 hv7 RF RG q0 q1 q2 q3 f0 f1 f2 f3
       obtain ⟨wt, hwt⟩ : ∃ t, t = orP (ahB ps tk) (a (kdG s.size i)).ls := ⟨_, rfl⟩
       rw [← hwt] at HW7
       have HWT := hideT (ew.trans hwt.symm)
       have HWI := hideT (show ∀ x, x < 256 → wt x = true → x < ps.length by
        rw [hwt]
        intro x hx h
        simp only [orP, Bool.or_eq_true] at h
        exact h.elim (fun h => ah_in (fun p hp q => (HN.out p hp q).2) x hx h) (fun h => (HI.out _ x).2 h))
       rw [← hwt]
       clear ew hwt
       have hD7 : Below W7.heap.size W7 W7.drew := (Below.refl _ _).drew
       have hS7 : Set4 W7.drew W5.heap.size wt := HW7.out.1.below hD7 HW7.out.1.lt
       have HTK := hideT (takers_any wt (s[k]'hks).toNat (s[k]'hks).toNat_lt W7.drew (HW.out.below HW7.out.2.bel.drew) HWI.out)
       obtain ⟨tk2, htk2⟩ : ∃ t, t = tkB ps wt (s[k]'hks).toNat := ⟨_, rfl⟩
       rw [← htk2] at HTK
       have HE4 := hideT (show (l ++ [i]) ++ stB s.size (sbN s) a ps E k tk2 = RR by rw [← HE3.out, HWT.out, htk2])
       have HTI := hideT (show ∀ x, x < 256 → tk2 x = true → x < ps.length by rw [htk2]; exact tk_in HWI.out)
       clear htk2
       refine wp_region_held (S := fun V => Set4 V W5.heap.size wt) (by kernel_rfl) ?_
       refine' take_d 0 (some 55) rfl rfl (by kernel_rfl) (by kernel_rfl) (by kernel_rfl) (fun _ _ _ h => h) (by rfl) hS7 ?hy1013 ?rest1013
       case hy1013 => intro V _; go_simp; (try with_reducible rfl)
       refine take_y 1 (some 56) rfl rfl (by kernel_rfl) (by kernel_rfl) (by kernel_rfl) (fun _ _ _ h => h) hS7 (yieldsIf_load_mid (by rfl) 45 _ rfl W5.heap.size 0 rfl [.int .u64 (wd wt 0 : Nat), .int .u64 (wd wt 1 : Nat), .int .u64 (wd wt 2 : Nat), .int .u64 (wd wt 3 : Nat)] uS (fun V hV => range_block (cs := [.int .u64 (wd wt 0 : Nat), .int .u64 (wd wt 1 : Nat), .int .u64 (wd wt 2 : Nat), .int .u64 (wd wt 3 : Nat)]) hV) huS huR (by rw [info_set]; rfl)) ?_
       refine' take_d 2 (some 57) rfl rfl (by kernel_rfl) (by kernel_rfl) (by kernel_rfl) (fun _ _ _ h => h) (by rfl) hS7 ?hy1014 ?rest1014
       case hy1014 => intro V _; go_simp; (try with_reducible rfl)
       refine' take_d 3 (some 58) rfl rfl (by kernel_rfl) (by kernel_rfl) (by kernel_rfl) (fun _ _ _ h => h) (by rfl) hS7 ?hy1015 ?rest1015
       case hy1015 => intro V _; go_simp; (try with_reducible rfl)
       refine' take_d 4 (some 59) rfl rfl (by kernel_rfl) (by kernel_rfl) (by kernel_rfl) (fun _ _ _ h => h) (by rfl) hS7 ?hy1016 ?rest1016
       case hy1016 => intro V _; go_simp; (try with_reducible rfl)
       refine' take_d 5 (some 60) rfl rfl (by kernel_rfl) (by kernel_rfl) (by kernel_rfl) (fun _ _ _ h => h) (by rfl) hS7 ?hy1017 ?rest1017
       case hy1017 => intro V _; go_simp; (try with_reducible rfl)
       (try simp only [Act.put, List.setIfInBounds_toArray, List.set_cons_zero, List.set_cons_succ])
       refine wpAnyH_all (rs := [6]) (by kernel_rfl) (by simp) (fun i hi => ?_)
       obtain rfl : i = 6 := List.mem_singleton.1 hi
       refine op_call (some 61) rfl rfl (by rfl) (by go_simp; (try with_reducible rfl)) (R := fun v w' => v = .agg #[.int .u64 (wd tk2 0 : Nat), .int .u64 (wd tk2 1 : Nat), .int .u64 (wd tk2 2 : Nat), .int .u64 (wd tk2 3 : Nat)] ∧ Below W7.heap.size W7 w') ((HTK.out).mono (fun e w' h => ⟨_, h.1, rfl, hD7.trans (h.2.mono hD7.size)⟩)) ?_
       rintro v W8 ⟨rfl, hb8⟩
       have v8 := HW7.out.1.below hb8 HW7.out.1.lt
       refine And.intro v8 ?_
       have R8 := HW7.out.2.step hb8
       (try simp only [Act.put, List.setIfInBounds_toArray, List.set_cons_zero, List.set_cons_succ])
       refine wpAnyH_all (rs := [7]) (by kernel_rfl) (by simp) (fun i hi => ?_)
       obtain rfl : i = 7 := List.mem_singleton.1 hi
       refine op_store 45 8 61 Q [.int .u64 (wd tk2 0 : Nat), .int .u64 (wd tk2 1 : Nat), .int .u64 (wd tk2 2 : Nat), .int .u64 (wd tk2 3 : Nat)] rfl rfl rfl rfl rfl rfl (there_block (cs := [.int .u64 (wd tk 0 : Nat), .int .u64 (wd tk 1 : Nat), .int .u64 (wd tk 2 : Nat), .int .u64 (wd tk 3 : Nat)]) R8.set _ rfl) (by rw [info_set]; rfl) (by simp [Value.oneCell']) ?_
       refine And.intro ((setCells_far W8 _ hvq _ _).trans v8) ?_
       refine wpAnyH_done (by kernel_rfl) ?_ _
       have HR9 := hideT (R8.put tk2)
       clear R8 hb8 v8
       simp only [Act.put]
       generalize W8.setCells Q 0 [.int .u64 (wd tk2 0 : Nat), .int .u64 (wd tk2 1 : Nat), .int .u64 (wd tk2 2 : Nat), .int .u64 (wd tk2 3 : Nat)] = W9 at *
       go_wp2
       exact ⟨⟨k, (l ++ [i]), tk2, by omega, rfl, HR9.out, HTI.out, HE4⟩, by simp [intOf]; omega⟩
     | false =>
      have hfd : fdB s.size a E i tk = false := by unfold fdB; rw [hm, hEi, hno]; rfl
      clear hm
      have HE2 := hideT (show l ++ (if i = 0 then [] else stB s.size (sbN s) a ps E (i - 1) (tkB ps (wtB s.size a ps E i tk) (sbN s (i - 1)))) = RR by
       rw [← HE.out, st_step, hfd]; rfl)
      clear hfd
      have RB := RA
      have nbW := nbA
      clear RA nbA
      by_cases hz : i = 0
      ·have z1 : ((i : Int) == 0) = true := by rw [hz]; rfl
       have HRV := hideT (reverse_any RB.out (by (try simp only [List.length_append, List.length_singleton]); omega))
       have HL := hideT (show l = RR by
        have h := HE2.out
        rw [if_pos hz, List.append_nil] at h
        exact h)
       clear hz
       go_wp2_with fail
       refine (HRV.out).mono ?_
       rintro e W9 ⟨rfl, hown9, hb9⟩
       have HZ := hideT (And.intro hown9 hb9)
       clear hown9 hb9
       go_wp2
       go_ret
       refine ⟨_, rfl, ?_, HZ.out.2⟩
       rw [List.length_reverse, ← HL.out]
       exact HZ.out.1
      ·have z1 : ((i : Int) == 0) = false := by rw [beq_eq_false_iff_ne]; omega
       obtain ⟨k, hk⟩ : ∃ k, k + 1 = i := ⟨i - 1, by omega⟩
       have hks : k < s.size := by omega
       have HE3 := hideT (show l ++ stB s.size (sbN s) a ps E k (tkB ps (wtB s.size a ps E i tk) (s[k]'hks).toNat) = RR by
        have h := HE2.out
        rw [if_neg hz, show i - 1 = k by omega, sb_at s k hks] at h
        exact h)
       have kw : IntKind.i64.wrap (k : Int) = (k : Int) := wrap_small _ (by omega) (by omega)
       have kv : (i : Int) - 1 = (k : Int) := by omega
       have kj1 : (0 : Int) ≤ (k : Int) := by omega
       have kj2 : (k : Int) < (s.size : Int) := by omega
       obtain ⟨⟨q0, q1, q2, q3⟩, -⟩ := Set4.holds RB.out.set
       have HAH := hideT (ahead_any tk W3 (HW.out.below RB.out.bel) htk)
       clear hz
       go_wp2_with fail
       refine (HAH.out).mono ?_
       rintro e W5 ⟨rfl, hb5⟩
       have hvq : W5.heap.size ≠ Q := fun e => by
        have := RB.out.set.lt
        have := hb5.size
        omega
       clear q0 q1 q2 q3 HAH
       have RC := RB.out.step hb5
       have n5 : W5.heap[P]? = some (.cells (bdV (a (kdG s.size i))).toArray 78 (0, 0)) := (hb5.block _ (Array.getElem?_eq_some_iff.1 nbW.out).1).trans nbW.out
       have a5 := (Below.refl W5.heap.size W5).alloc (Nat.le_refl _) (.cells #[.int .u64 (wd (ahB ps tk) 0 : Nat), .int .u64 (wd (ahB ps tk) 1 : Nat), .int .u64 (wd (ahB ps tk) 2 : Nat), .int .u64 (wd (ahB ps tk) 3 : Nat)] 45)
       have RD := hideT (RC.step a5)
       have v5 := Set4.new W5 (ahB ps tk)
       have n6 : (W5.alloc (.cells #[.int .u64 (wd (ahB ps tk) 0 : Nat), .int .u64 (wd (ahB ps tk) 1 : Nat), .int .u64 (wd (ahB ps tk) 2 : Nat), .int .u64 (wd (ahB ps tk) 3 : Nat)] 45)).heap[P]? = some (.cells (bdV (a (kdG s.size i))).toArray 78 (0, 0)) := (a5.block _ (Array.getElem?_eq_some_iff.1 n5).1).trans n5
       have hP5 : P < W5.heap.size := (Array.getElem?_eq_some_iff.1 n5).1
       have d5 : (W5.alloc (.cells #[.int .u64 (wd (ahB ps tk) 0 : Nat), .int .u64 (wd (ahB ps tk) 1 : Nat), .int .u64 (wd (ahB ps tk) 2 : Nat), .int .u64 (wd (ahB ps tk) 3 : Nat)] 45)).cell? ⟨P, 5, none⟩ = some (.int .u64 (wd (a (kdG s.size i)).ls 0 : Nat)) := by simp [World.cell?, n6, bdV]
       have d6 : (W5.alloc (.cells #[.int .u64 (wd (ahB ps tk) 0 : Nat), .int .u64 (wd (ahB ps tk) 1 : Nat), .int .u64 (wd (ahB ps tk) 2 : Nat), .int .u64 (wd (ahB ps tk) 3 : Nat)] 45)).cell? ⟨P, 6, none⟩ = some (.int .u64 (wd (a (kdG s.size i)).ls 1 : Nat)) := by simp [World.cell?, n6, bdV]
       have d7 : (W5.alloc (.cells #[.int .u64 (wd (ahB ps tk) 0 : Nat), .int .u64 (wd (ahB ps tk) 1 : Nat), .int .u64 (wd (ahB ps tk) 2 : Nat), .int .u64 (wd (ahB ps tk) 3 : Nat)] 45)).cell? ⟨P, 7, none⟩ = some (.int .u64 (wd (a (kdG s.size i)).ls 2 : Nat)) := by simp [World.cell?, n6, bdV]
       have d8 : (W5.alloc (.cells #[.int .u64 (wd (ahB ps tk) 0 : Nat), .int .u64 (wd (ahB ps tk) 1 : Nat), .int .u64 (wd (ahB ps tk) 2 : Nat), .int .u64 (wd (ahB ps tk) 3 : Nat)] 45)).cell? ⟨P, 8, none⟩ = some (.int .u64 (wd (a (kdG s.size i)).ls 3 : Nat)) := by simp [World.cell?, n6, bdV]
       have HOR := hideT (orD (ahB ps tk) (a (kdG s.size i)).ls (W5.alloc (.cells #[.int .u64 (wd (ahB ps tk) 0 : Nat), .int .u64 (wd (ahB ps tk) 1 : Nat), .int .u64 (wd (ahB ps tk) 2 : Nat), .int .u64 (wd (ahB ps tk) 3 : Nat)] 45)))
       have HV5 := hideT v5
       clear RC n5 a5 v5 n6
       go_wp2_with fail
       refine (HOR.out).mono ?_
       rintro e W6 ⟨rfl, hb6⟩
       have hb6' : Below (W5.heap.size + 1) (W5.alloc (.cells #[.int .u64 (wd (ahB ps tk) 0 : Nat), .int .u64 (wd (ahB ps tk) 1 : Nat), .int .u64 (wd (ahB ps tk) 2 : Nat), .int .u64 (wd (ahB ps tk) 3 : Nat)] 45)) W6 := hb6.mono (by rw [World.size_alloc]; exact Nat.le_refl _)
       have RE := RD.out.step hb6
       have v6 := HV5.out.below hb6 HV5.out.lt
       obtain ⟨⟨q0, q1, q2, q3⟩, ⟨f0, f1, f2, f3⟩⟩ := Set4.holds v6
       have HRE := hideT RE
       have HV6 := hideT v6
       clear HOR hb6 RE v6 d5 d6 d7 d8 hb6'
       go_wp2_with fail
       have v7 := setCells_whole [.int .u64 (wd (wtB s.size a ps E i tk) 0 : Nat), .int .u64 (wd (wtB s.size a ps E i tk) 1 : Nat), .int .u64 (wd (wtB s.size a ps E i tk) 2 : Nat), .int .u64 (wd (wtB s.size a ps E i tk) 3 : Nat)] (cs := [.int .u64 (wd (ahB ps tk) 0 : Nat), .int .u64 (wd (ahB ps tk) 1 : Nat), .int .u64 (wd (ahB ps tk) 2 : Nat), .int .u64 (wd (ahB ps tk) 3 : Nat)]) HV6.out rfl
       have RF : EnR w (W6.setCells W5.heap.size 0 [.int .u64 (wd (wtB s.size a ps E i tk) 0 : Nat), .int .u64 (wd (wtB s.size a ps E i tk) 1 : Nat), .int .u64 (wd (wtB s.size a ps E i tk) 2 : Nat), .int .u64 (wd (wtB s.size a ps E i tk) 3 : Nat)]) Q _ l tk := ⟨owns_keep HRE.out.own (fun g hg => setCells_far W6 _ (fun e => by
        have := (RB.out.own.lt g hg).2
        have := hb5.size
        omega) _ _), below_setCells _ (Nat.le_trans RB.out.bel.size hb5.size) _ _ _ HRE.out.bel, (setCells_far W6 _ (fun e => hvq e.symm) _ _).trans HRE.out.set, HRE.out.ne, HRE.out.base⟩
       have ew : wtB s.size a ps E i tk = orP (ahB ps tk) (a (kdG s.size i)).ls := by unfold wtB; rw [if_pos hEi]; rfl
       have hv7 : Set4 ((((W6.setCell ⟨W5.heap.size, 0, none⟩ (.int .u64 (wd (orP (ahB ps tk) (a (kdG s.size i)).ls) 0 : Nat))).setCell ⟨W5.heap.size, 1, none⟩ (.int .u64 (wd (orP (ahB ps tk) (a (kdG s.size i)).ls) 1 : Nat))).setCell ⟨W5.heap.size, 2, none⟩ (.int .u64 (wd (orP (ahB ps tk) (a (kdG s.size i)).ls) 2 : Nat))).setCell ⟨W5.heap.size, 3, none⟩ (.int .u64 (wd (orP (ahB ps tk) (a (kdG s.size i)).ls) 3 : Nat))) W5.heap.size (orP (ahB ps tk) (a (kdG s.size i)).ls) := by rw [ew] at v7; exact v7
       rw [ew] at RF
       have RG : EnR w ((((W6.setCell ⟨W5.heap.size, 0, none⟩ (.int .u64 (wd (orP (ahB ps tk) (a (kdG s.size i)).ls) 0 : Nat))).setCell ⟨W5.heap.size, 1, none⟩ (.int .u64 (wd (orP (ahB ps tk) (a (kdG s.size i)).ls) 1 : Nat))).setCell ⟨W5.heap.size, 2, none⟩ (.int .u64 (wd (orP (ahB ps tk) (a (kdG s.size i)).ls) 2 : Nat))).setCell ⟨W5.heap.size, 3, none⟩ (.int .u64 (wd (orP (ahB ps tk) (a (kdG s.size i)).ls) 3 : Nat))) Q _ l tk := RF
       have HW7 := hideT (And.intro hv7 RG)
       generalize hWW : ((((W6.setCell ⟨W5.heap.size, 0, none⟩ (.int .u64 (wd (orP (ahB ps tk) (a (kdG s.size i)).ls) 0 : Nat))).setCell ⟨W5.heap.size, 1, none⟩ (.int .u64 (wd (orP (ahB ps tk) (a (kdG s.size i)).ls) 1 : Nat))).setCell ⟨W5.heap.size, 2, none⟩ (.int .u64 (wd (orP (ahB ps tk) (a (kdG s.size i)).ls) 2 : Nat))).setCell ⟨W5.heap.size, 3, none⟩ (.int .u64 (wd (orP (ahB ps tk) (a (kdG s.size i)).ls) 3 : Nat))) = W7 at *
       clear hWW v7 hv7 RF RG q0 q1 q2 q3 f0 f1 f2 f3
       obtain ⟨wt, hwt⟩ : ∃ t, t = orP (ahB ps tk) (a (kdG s.size i)).ls := ⟨_, rfl⟩
       rw [← hwt] at HW7
       have HWT := hideT (ew.trans hwt.symm)
       have HWI := hideT (show ∀ x, x < 256 → wt x = true → x < ps.length by
        rw [hwt]
        intro x hx h
        simp only [orP, Bool.or_eq_true] at h
        exact h.elim (fun h => ah_in (fun p hp q => (HN.out p hp q).2) x hx h) (fun h => (HI.out _ x).2 h))
       rw [← hwt]
       clear ew hwt
       have hD7 : Below W7.heap.size W7 W7.drew := (Below.refl _ _).drew
       have hS7 : Set4 W7.drew W5.heap.size wt := HW7.out.1.below hD7 HW7.out.1.lt
       have HTK := hideT (takers_any wt (s[k]'hks).toNat (s[k]'hks).toNat_lt W7.drew (HW.out.below HW7.out.2.bel.drew) HWI.out)
       obtain ⟨tk2, htk2⟩ : ∃ t, t = tkB ps wt (s[k]'hks).toNat := ⟨_, rfl⟩
       rw [← htk2] at HTK
       have HE4 := hideT (show l ++ stB s.size (sbN s) a ps E k tk2 = RR by rw [← HE3.out, HWT.out, htk2])
       have HTI := hideT (show ∀ x, x < 256 → tk2 x = true → x < ps.length by rw [htk2]; exact tk_in HWI.out)
       clear htk2
       refine wp_region_held (S := fun V => Set4 V W5.heap.size wt) (by kernel_rfl) ?_
       refine' take_d 0 (some 55) rfl rfl (by kernel_rfl) (by kernel_rfl) (by kernel_rfl) (fun _ _ _ h => h) (by rfl) hS7 ?hy1018 ?rest1018
       case hy1018 => intro V _; go_simp; (try with_reducible rfl)
       refine take_y 1 (some 56) rfl rfl (by kernel_rfl) (by kernel_rfl) (by kernel_rfl) (fun _ _ _ h => h) hS7 (yieldsIf_load_mid (by rfl) 45 _ rfl W5.heap.size 0 rfl [.int .u64 (wd wt 0 : Nat), .int .u64 (wd wt 1 : Nat), .int .u64 (wd wt 2 : Nat), .int .u64 (wd wt 3 : Nat)] uS (fun V hV => range_block (cs := [.int .u64 (wd wt 0 : Nat), .int .u64 (wd wt 1 : Nat), .int .u64 (wd wt 2 : Nat), .int .u64 (wd wt 3 : Nat)]) hV) huS huR (by rw [info_set]; rfl)) ?_
       refine' take_d 2 (some 57) rfl rfl (by kernel_rfl) (by kernel_rfl) (by kernel_rfl) (fun _ _ _ h => h) (by rfl) hS7 ?hy1019 ?rest1019
       case hy1019 => intro V _; go_simp; (try with_reducible rfl)
       refine' take_d 3 (some 58) rfl rfl (by kernel_rfl) (by kernel_rfl) (by kernel_rfl) (fun _ _ _ h => h) (by rfl) hS7 ?hy1020 ?rest1020
       case hy1020 => intro V _; go_simp; (try with_reducible rfl)
       refine' take_d 4 (some 59) rfl rfl (by kernel_rfl) (by kernel_rfl) (by kernel_rfl) (fun _ _ _ h => h) (by rfl) hS7 ?hy1021 ?rest1021
       case hy1021 => intro V _; go_simp; (try with_reducible rfl)
       refine' take_d 5 (some 60) rfl rfl (by kernel_rfl) (by kernel_rfl) (by kernel_rfl) (fun _ _ _ h => h) (by rfl) hS7 ?hy1022 ?rest1022
       case hy1022 => intro V _; go_simp; (try with_reducible rfl)
       (try simp only [Act.put, List.setIfInBounds_toArray, List.set_cons_zero, List.set_cons_succ])
       refine wpAnyH_all (rs := [6]) (by kernel_rfl) (by simp) (fun i hi => ?_)
       obtain rfl : i = 6 := List.mem_singleton.1 hi
       refine op_call (some 61) rfl rfl (by rfl) (by go_simp; (try with_reducible rfl)) (R := fun v w' => v = .agg #[.int .u64 (wd tk2 0 : Nat), .int .u64 (wd tk2 1 : Nat), .int .u64 (wd tk2 2 : Nat), .int .u64 (wd tk2 3 : Nat)] ∧ Below W7.heap.size W7 w') ((HTK.out).mono (fun e w' h => ⟨_, h.1, rfl, hD7.trans (h.2.mono hD7.size)⟩)) ?_
       rintro v W8 ⟨rfl, hb8⟩
       have v8 := HW7.out.1.below hb8 HW7.out.1.lt
       refine And.intro v8 ?_
       have R8 := HW7.out.2.step hb8
       (try simp only [Act.put, List.setIfInBounds_toArray, List.set_cons_zero, List.set_cons_succ])
       refine wpAnyH_all (rs := [7]) (by kernel_rfl) (by simp) (fun i hi => ?_)
       obtain rfl : i = 7 := List.mem_singleton.1 hi
       refine op_store 45 8 61 Q [.int .u64 (wd tk2 0 : Nat), .int .u64 (wd tk2 1 : Nat), .int .u64 (wd tk2 2 : Nat), .int .u64 (wd tk2 3 : Nat)] rfl rfl rfl rfl rfl rfl (there_block (cs := [.int .u64 (wd tk 0 : Nat), .int .u64 (wd tk 1 : Nat), .int .u64 (wd tk 2 : Nat), .int .u64 (wd tk 3 : Nat)]) R8.set _ rfl) (by rw [info_set]; rfl) (by simp [Value.oneCell']) ?_
       refine And.intro ((setCells_far W8 _ hvq _ _).trans v8) ?_
       refine wpAnyH_done (by kernel_rfl) ?_ _
       have HR9 := hideT (R8.put tk2)
       clear R8 hb8 v8
       simp only [Act.put]
       generalize W8.setCells Q 0 [.int .u64 (wd tk2 0 : Nat), .int .u64 (wd tk2 1 : Nat), .int .u64 (wd tk2 2 : Nat), .int .u64 (wd tk2 3 : Nat)] = W9 at *
       go_wp2
       exact ⟨⟨k, l, tk2, by omega, rfl, HR9.out, HTI.out, HE4⟩, by simp [intOf]; omega⟩
   | false =>
    obtain ⟨⟨q0, q1, q2, q3⟩, -⟩ := Set4.holds RA.out.set
    have nbY := nbA.out
    have c1 : Y'.cell? ⟨P, 1, none⟩ = some (.int .u64 (wd (a (kdG s.size i)).fs 0 : Nat)) := by simp [World.cell?, nbY, bdV]
    have c2 : Y'.cell? ⟨P, 2, none⟩ = some (.int .u64 (wd (a (kdG s.size i)).fs 1 : Nat)) := by simp [World.cell?, nbY, bdV]
    have c3 : Y'.cell? ⟨P, 3, none⟩ = some (.int .u64 (wd (a (kdG s.size i)).fs 2 : Nat)) := by simp [World.cell?, nbY, bdV]
    have c4 : Y'.cell? ⟨P, 4, none⟩ = some (.int .u64 (wd (a (kdG s.size i)).fs 3 : Nat)) := by simp [World.cell?, nbY, bdV]
    have HM := hideT (meet_any tk (a (kdG s.size i)).fs Y')
    clear nbY
    go_wp2_with fail
    refine (HM.out).mono ?_
    rintro e W3 ⟨rfl, hb3⟩
    have RA3 := hideT (RA.out.step hb3)
    have nbA3 := hideT (show W3.heap[P]? = some (.cells (bdV (a (kdG s.size i))).toArray 78 (0, 0)) from (hb3.block _ (Array.getElem?_eq_some_iff.1 nbA.out).1).trans nbA.out)
    clear q0 q1 q2 q3 c1 c2 c3 c4 HM hb3 RA nbA
    have RA := RA3
    have nbA := nbA3
    clear RA3 nbA3
    cases hm : meetB tk (a (kdG s.size i)).fs with
    | true =>
     have hfd : fdB s.size a E i tk = true := by unfold fdB; rw [hm, Bool.or_true]
     clear hm
     have HE2 := hideT (show (l ++ [i]) ++ (if i = 0 then [] else stB s.size (sbN s) a ps E (i - 1) (tkB ps (wtB s.size a ps E i tk) (sbN s (i - 1)))) = RR by
      rw [← HE.out, st_step, hfd, List.append_assoc]; rfl)
     clear hfd
     go_wp2_with (at_builtin; refine wpList_append_lies _ rfl _ _ 31 rfl w.heap.size 3 i0 _ 1 8 und_ints hi0 hz0 hz1 hz2 rfl (by omega) _ l.length (inL l) rfl (owns_below RA.out.own ((Below.refl W3.heap.size W3).alloc (Nat.le_refl _) _)) ⟨W3.heap.size, 0, none⟩ 1 1 [.int .i64 (i : Nat)] rfl rfl (fun j u hj => new_cells W3 [.int .i64 (i : Nat)] 3 j u hj) (by simp [Value.oneCell']) (by omega) (by unfold maxLen; omega) (by omega) (by rw [World.size_alloc]; have := RA.out.bel.size; omega) _ rfl ?_)
     intro g4 gc4 W4 hown4 hgr4 hat4 hlt4
     have RB := hideT (RA.out.app (n := i) hgr4 hown4 (hat4.imp id (fun e => by rw [World.size_alloc]; exact e)))
     have nbW := hideT (show W4.heap[P]? = some (.cells (bdV (a (kdG s.size i))).toArray 78 (0, 0)) from (hgr4.block P (by rw [World.size_alloc]; have := (Array.getElem?_eq_some_iff.1 nbA.out).1; omega) (fun e => by
      obtain ⟨_, _, cur, h3⟩ := owns_blk RA.out.own e.symm
      rw [nbA.out] at h3
      cases h3)).trans ((Below.heap_alloc _ _ _ (Array.getElem?_eq_some_iff.1 nbA.out).1).trans nbA.out))
     clear hown4 hgr4 hat4 hlt4 RA nbA
     by_cases hz : i = 0
     ·have z1 : ((i : Int) == 0) = true := by rw [hz]; rfl
      have HRV := hideT (reverse_any RB.out (by (try simp only [List.length_append, List.length_singleton]); omega))
      have HL := hideT (show (l ++ [i]) = RR by
       have h := HE2.out
       rw [if_pos hz, List.append_nil] at h
       exact h)
      clear hz
      go_wp2_with fail
      refine (HRV.out).mono ?_
      rintro e W9 ⟨rfl, hown9, hb9⟩
      have HZ := hideT (And.intro hown9 hb9)
      clear hown9 hb9
      go_wp2
      go_ret
      refine ⟨_, rfl, ?_, HZ.out.2⟩
      rw [List.length_reverse, ← HL.out]
      exact HZ.out.1
     ·have z1 : ((i : Int) == 0) = false := by rw [beq_eq_false_iff_ne]; omega
      obtain ⟨k, hk⟩ : ∃ k, k + 1 = i := ⟨i - 1, by omega⟩
      have hks : k < s.size := by omega
      have HE3 := hideT (show (l ++ [i]) ++ stB s.size (sbN s) a ps E k (tkB ps (wtB s.size a ps E i tk) (s[k]'hks).toNat) = RR by
       have h := HE2.out
       rw [if_neg hz, show i - 1 = k by omega, sb_at s k hks] at h
       exact h)
      have kw : IntKind.i64.wrap (k : Int) = (k : Int) := wrap_small _ (by omega) (by omega)
      have kv : (i : Int) - 1 = (k : Int) := by omega
      have kj1 : (0 : Int) ≤ (k : Int) := by omega
      have kj2 : (k : Int) < (s.size : Int) := by omega
      obtain ⟨⟨q0, q1, q2, q3⟩, -⟩ := Set4.holds RB.out.set
      have HAH := hideT (ahead_any tk W4 (HW.out.below RB.out.bel) htk)
      clear hz
      go_wp2_with fail
      refine (HAH.out).mono ?_
      rintro e W5 ⟨rfl, hb5⟩
      have hvq : W5.heap.size ≠ Q := fun e => by
       have := RB.out.set.lt
       have := hb5.size
       omega
      clear q0 q1 q2 q3 HAH
      have RC := RB.out.step hb5
      have a5 := (Below.refl W5.heap.size W5).alloc (Nat.le_refl _) (.cells #[.int .u64 (wd (ahB ps tk) 0 : Nat), .int .u64 (wd (ahB ps tk) 1 : Nat), .int .u64 (wd (ahB ps tk) 2 : Nat), .int .u64 (wd (ahB ps tk) 3 : Nat)] 45)
      have HW7 := hideT (And.intro (Set4.new W5 (ahB ps tk)) (RC.step a5))
      have ew : wtB s.size a ps E i tk = ahB ps tk := by unfold wtB; rw [if_neg (by rw [hEi]; simp)]
      clear RC a5
      go_wp2_with fail
      generalize hWW : W5.alloc (.cells #[.int .u64 (wd (ahB ps tk) 0 : Nat), .int .u64 (wd (ahB ps tk) 1 : Nat), .int .u64 (wd (ahB ps tk) 2 : Nat), .int .u64 (wd (ahB ps tk) 3 : Nat)] 45) = W7 at *
      clear hWW
      obtain ⟨wt, hwt⟩ : ∃ t, t = ahB ps tk := ⟨_, rfl⟩
      rw [← hwt] at HW7
      have HWT := hideT (ew.trans hwt.symm)
      have HWI := hideT (show ∀ x, x < 256 → wt x = true → x < ps.length by
       rw [hwt]
       exact ah_in (fun p hp q => (HN.out p hp q).2))
      (try rw [← hwt])
      clear ew hwt
      have hD7 : Below W7.heap.size W7 W7.drew := (Below.refl _ _).drew
      have hS7 : Set4 W7.drew W5.heap.size wt := HW7.out.1.below hD7 HW7.out.1.lt
      have HTK := hideT (takers_any wt (s[k]'hks).toNat (s[k]'hks).toNat_lt W7.drew (HW.out.below HW7.out.2.bel.drew) HWI.out)
      obtain ⟨tk2, htk2⟩ : ∃ t, t = tkB ps wt (s[k]'hks).toNat := ⟨_, rfl⟩
      rw [← htk2] at HTK
      have HE4 := hideT (show (l ++ [i]) ++ stB s.size (sbN s) a ps E k tk2 = RR by rw [← HE3.out, HWT.out, htk2])
      have HTI := hideT (show ∀ x, x < 256 → tk2 x = true → x < ps.length by rw [htk2]; exact tk_in HWI.out)
      clear htk2
      refine wp_region_held (S := fun V => Set4 V W5.heap.size wt) (by kernel_rfl) ?_
      refine' take_d 0 (some 55) rfl rfl (by kernel_rfl) (by kernel_rfl) (by kernel_rfl) (fun _ _ _ h => h) (by rfl) hS7 ?hy1023 ?rest1023
      case hy1023 => intro V _; go_simp; (try with_reducible rfl)
      refine take_y 1 (some 56) rfl rfl (by kernel_rfl) (by kernel_rfl) (by kernel_rfl) (fun _ _ _ h => h) hS7 (yieldsIf_load_mid (by rfl) 45 _ rfl W5.heap.size 0 rfl [.int .u64 (wd wt 0 : Nat), .int .u64 (wd wt 1 : Nat), .int .u64 (wd wt 2 : Nat), .int .u64 (wd wt 3 : Nat)] uS (fun V hV => range_block (cs := [.int .u64 (wd wt 0 : Nat), .int .u64 (wd wt 1 : Nat), .int .u64 (wd wt 2 : Nat), .int .u64 (wd wt 3 : Nat)]) hV) huS huR (by rw [info_set]; rfl)) ?_
      refine' take_d 2 (some 57) rfl rfl (by kernel_rfl) (by kernel_rfl) (by kernel_rfl) (fun _ _ _ h => h) (by rfl) hS7 ?hy1024 ?rest1024
      case hy1024 => intro V _; go_simp; (try with_reducible rfl)
      refine' take_d 3 (some 58) rfl rfl (by kernel_rfl) (by kernel_rfl) (by kernel_rfl) (fun _ _ _ h => h) (by rfl) hS7 ?hy1025 ?rest1025
      case hy1025 => intro V _; go_simp; (try with_reducible rfl)
      refine' take_d 4 (some 59) rfl rfl (by kernel_rfl) (by kernel_rfl) (by kernel_rfl) (fun _ _ _ h => h) (by rfl) hS7 ?hy1026 ?rest1026
      case hy1026 => intro V _; go_simp; (try with_reducible rfl)
      refine' take_d 5 (some 60) rfl rfl (by kernel_rfl) (by kernel_rfl) (by kernel_rfl) (fun _ _ _ h => h) (by rfl) hS7 ?hy1027 ?rest1027
      case hy1027 => intro V _; go_simp; (try with_reducible rfl)
      (try simp only [Act.put, List.setIfInBounds_toArray, List.set_cons_zero, List.set_cons_succ])
      refine wpAnyH_all (rs := [6]) (by kernel_rfl) (by simp) (fun i hi => ?_)
      obtain rfl : i = 6 := List.mem_singleton.1 hi
      refine op_call (some 61) rfl rfl (by rfl) (by go_simp; (try with_reducible rfl)) (R := fun v w' => v = .agg #[.int .u64 (wd tk2 0 : Nat), .int .u64 (wd tk2 1 : Nat), .int .u64 (wd tk2 2 : Nat), .int .u64 (wd tk2 3 : Nat)] ∧ Below W7.heap.size W7 w') ((HTK.out).mono (fun e w' h => ⟨_, h.1, rfl, hD7.trans (h.2.mono hD7.size)⟩)) ?_
      rintro v W8 ⟨rfl, hb8⟩
      have v8 := HW7.out.1.below hb8 HW7.out.1.lt
      refine And.intro v8 ?_
      have R8 := HW7.out.2.step hb8
      (try simp only [Act.put, List.setIfInBounds_toArray, List.set_cons_zero, List.set_cons_succ])
      refine wpAnyH_all (rs := [7]) (by kernel_rfl) (by simp) (fun i hi => ?_)
      obtain rfl : i = 7 := List.mem_singleton.1 hi
      refine op_store 45 8 61 Q [.int .u64 (wd tk2 0 : Nat), .int .u64 (wd tk2 1 : Nat), .int .u64 (wd tk2 2 : Nat), .int .u64 (wd tk2 3 : Nat)] rfl rfl rfl rfl rfl rfl (there_block (cs := [.int .u64 (wd tk 0 : Nat), .int .u64 (wd tk 1 : Nat), .int .u64 (wd tk 2 : Nat), .int .u64 (wd tk 3 : Nat)]) R8.set _ rfl) (by rw [info_set]; rfl) (by simp [Value.oneCell']) ?_
      refine And.intro ((setCells_far W8 _ hvq _ _).trans v8) ?_
      refine wpAnyH_done (by kernel_rfl) ?_ _
      have HR9 := hideT (R8.put tk2)
      clear R8 hb8 v8
      simp only [Act.put]
      generalize W8.setCells Q 0 [.int .u64 (wd tk2 0 : Nat), .int .u64 (wd tk2 1 : Nat), .int .u64 (wd tk2 2 : Nat), .int .u64 (wd tk2 3 : Nat)] = W9 at *
      go_wp2
      exact ⟨⟨k, (l ++ [i]), tk2, by omega, rfl, HR9.out, HTI.out, HE4⟩, by simp [intOf]; omega⟩
    | false =>
     have hfd : fdB s.size a E i tk = false := by unfold fdB; rw [hm, hEi]; rfl
     clear hm
     have HE2 := hideT (show l ++ (if i = 0 then [] else stB s.size (sbN s) a ps E (i - 1) (tkB ps (wtB s.size a ps E i tk) (sbN s (i - 1)))) = RR by
      rw [← HE.out, st_step, hfd]; rfl)
     clear hfd
     have RB := RA
     have nbW := nbA
     clear RA nbA
     by_cases hz : i = 0
     ·have z1 : ((i : Int) == 0) = true := by rw [hz]; rfl
      have HRV := hideT (reverse_any RB.out (by (try simp only [List.length_append, List.length_singleton]); omega))
      have HL := hideT (show l = RR by
       have h := HE2.out
       rw [if_pos hz, List.append_nil] at h
       exact h)
      clear hz
      go_wp2_with fail
      refine (HRV.out).mono ?_
      rintro e W9 ⟨rfl, hown9, hb9⟩
      have HZ := hideT (And.intro hown9 hb9)
      clear hown9 hb9
      go_wp2
      go_ret
      refine ⟨_, rfl, ?_, HZ.out.2⟩
      rw [List.length_reverse, ← HL.out]
      exact HZ.out.1
     ·have z1 : ((i : Int) == 0) = false := by rw [beq_eq_false_iff_ne]; omega
      obtain ⟨k, hk⟩ : ∃ k, k + 1 = i := ⟨i - 1, by omega⟩
      have hks : k < s.size := by omega
      have HE3 := hideT (show l ++ stB s.size (sbN s) a ps E k (tkB ps (wtB s.size a ps E i tk) (s[k]'hks).toNat) = RR by
       have h := HE2.out
       rw [if_neg hz, show i - 1 = k by omega, sb_at s k hks] at h
       exact h)
      have kw : IntKind.i64.wrap (k : Int) = (k : Int) := wrap_small _ (by omega) (by omega)
      have kv : (i : Int) - 1 = (k : Int) := by omega
      have kj1 : (0 : Int) ≤ (k : Int) := by omega
      have kj2 : (k : Int) < (s.size : Int) := by omega
      obtain ⟨⟨q0, q1, q2, q3⟩, -⟩ := Set4.holds RB.out.set
      have HAH := hideT (ahead_any tk W3 (HW.out.below RB.out.bel) htk)
      clear hz
      go_wp2_with fail
      refine (HAH.out).mono ?_
      rintro e W5 ⟨rfl, hb5⟩
      have hvq : W5.heap.size ≠ Q := fun e => by
       have := RB.out.set.lt
       have := hb5.size
       omega
      clear q0 q1 q2 q3 HAH
      have RC := RB.out.step hb5
      have a5 := (Below.refl W5.heap.size W5).alloc (Nat.le_refl _) (.cells #[.int .u64 (wd (ahB ps tk) 0 : Nat), .int .u64 (wd (ahB ps tk) 1 : Nat), .int .u64 (wd (ahB ps tk) 2 : Nat), .int .u64 (wd (ahB ps tk) 3 : Nat)] 45)
      have HW7 := hideT (And.intro (Set4.new W5 (ahB ps tk)) (RC.step a5))
      have ew : wtB s.size a ps E i tk = ahB ps tk := by unfold wtB; rw [if_neg (by rw [hEi]; simp)]
      clear RC a5
      go_wp2_with fail
      generalize hWW : W5.alloc (.cells #[.int .u64 (wd (ahB ps tk) 0 : Nat), .int .u64 (wd (ahB ps tk) 1 : Nat), .int .u64 (wd (ahB ps tk) 2 : Nat), .int .u64 (wd (ahB ps tk) 3 : Nat)] 45) = W7 at *
      clear hWW
      obtain ⟨wt, hwt⟩ : ∃ t, t = ahB ps tk := ⟨_, rfl⟩
      rw [← hwt] at HW7
      have HWT := hideT (ew.trans hwt.symm)
      have HWI := hideT (show ∀ x, x < 256 → wt x = true → x < ps.length by
       rw [hwt]
       exact ah_in (fun p hp q => (HN.out p hp q).2))
      (try rw [← hwt])
      clear ew hwt
      have hD7 : Below W7.heap.size W7 W7.drew := (Below.refl _ _).drew
      have hS7 : Set4 W7.drew W5.heap.size wt := HW7.out.1.below hD7 HW7.out.1.lt
      have HTK := hideT (takers_any wt (s[k]'hks).toNat (s[k]'hks).toNat_lt W7.drew (HW.out.below HW7.out.2.bel.drew) HWI.out)
      obtain ⟨tk2, htk2⟩ : ∃ t, t = tkB ps wt (s[k]'hks).toNat := ⟨_, rfl⟩
      rw [← htk2] at HTK
      have HE4 := hideT (show l ++ stB s.size (sbN s) a ps E k tk2 = RR by rw [← HE3.out, HWT.out, htk2])
      have HTI := hideT (show ∀ x, x < 256 → tk2 x = true → x < ps.length by rw [htk2]; exact tk_in HWI.out)
      clear htk2
      refine wp_region_held (S := fun V => Set4 V W5.heap.size wt) (by kernel_rfl) ?_
      refine' take_d 0 (some 55) rfl rfl (by kernel_rfl) (by kernel_rfl) (by kernel_rfl) (fun _ _ _ h => h) (by rfl) hS7 ?hy1028 ?rest1028
      case hy1028 => intro V _; go_simp; (try with_reducible rfl)
      refine take_y 1 (some 56) rfl rfl (by kernel_rfl) (by kernel_rfl) (by kernel_rfl) (fun _ _ _ h => h) hS7 (yieldsIf_load_mid (by rfl) 45 _ rfl W5.heap.size 0 rfl [.int .u64 (wd wt 0 : Nat), .int .u64 (wd wt 1 : Nat), .int .u64 (wd wt 2 : Nat), .int .u64 (wd wt 3 : Nat)] uS (fun V hV => range_block (cs := [.int .u64 (wd wt 0 : Nat), .int .u64 (wd wt 1 : Nat), .int .u64 (wd wt 2 : Nat), .int .u64 (wd wt 3 : Nat)]) hV) huS huR (by rw [info_set]; rfl)) ?_
      refine' take_d 2 (some 57) rfl rfl (by kernel_rfl) (by kernel_rfl) (by kernel_rfl) (fun _ _ _ h => h) (by rfl) hS7 ?hy1029 ?rest1029
      case hy1029 => intro V _; go_simp; (try with_reducible rfl)
      refine' take_d 3 (some 58) rfl rfl (by kernel_rfl) (by kernel_rfl) (by kernel_rfl) (fun _ _ _ h => h) (by rfl) hS7 ?hy1030 ?rest1030
      case hy1030 => intro V _; go_simp; (try with_reducible rfl)
      refine' take_d 4 (some 59) rfl rfl (by kernel_rfl) (by kernel_rfl) (by kernel_rfl) (fun _ _ _ h => h) (by rfl) hS7 ?hy1031 ?rest1031
      case hy1031 => intro V _; go_simp; (try with_reducible rfl)
      refine' take_d 5 (some 60) rfl rfl (by kernel_rfl) (by kernel_rfl) (by kernel_rfl) (fun _ _ _ h => h) (by rfl) hS7 ?hy1032 ?rest1032
      case hy1032 => intro V _; go_simp; (try with_reducible rfl)
      (try simp only [Act.put, List.setIfInBounds_toArray, List.set_cons_zero, List.set_cons_succ])
      refine wpAnyH_all (rs := [6]) (by kernel_rfl) (by simp) (fun i hi => ?_)
      obtain rfl : i = 6 := List.mem_singleton.1 hi
      refine op_call (some 61) rfl rfl (by rfl) (by go_simp; (try with_reducible rfl)) (R := fun v w' => v = .agg #[.int .u64 (wd tk2 0 : Nat), .int .u64 (wd tk2 1 : Nat), .int .u64 (wd tk2 2 : Nat), .int .u64 (wd tk2 3 : Nat)] ∧ Below W7.heap.size W7 w') ((HTK.out).mono (fun e w' h => ⟨_, h.1, rfl, hD7.trans (h.2.mono hD7.size)⟩)) ?_
      rintro v W8 ⟨rfl, hb8⟩
      have v8 := HW7.out.1.below hb8 HW7.out.1.lt
      refine And.intro v8 ?_
      have R8 := HW7.out.2.step hb8
      (try simp only [Act.put, List.setIfInBounds_toArray, List.set_cons_zero, List.set_cons_succ])
      refine wpAnyH_all (rs := [7]) (by kernel_rfl) (by simp) (fun i hi => ?_)
      obtain rfl : i = 7 := List.mem_singleton.1 hi
      refine op_store 45 8 61 Q [.int .u64 (wd tk2 0 : Nat), .int .u64 (wd tk2 1 : Nat), .int .u64 (wd tk2 2 : Nat), .int .u64 (wd tk2 3 : Nat)] rfl rfl rfl rfl rfl rfl (there_block (cs := [.int .u64 (wd tk 0 : Nat), .int .u64 (wd tk 1 : Nat), .int .u64 (wd tk 2 : Nat), .int .u64 (wd tk 3 : Nat)]) R8.set _ rfl) (by rw [info_set]; rfl) (by simp [Value.oneCell']) ?_
      refine And.intro ((setCells_far W8 _ hvq _ _).trans v8) ?_
      refine wpAnyH_done (by kernel_rfl) ?_ _
      have HR9 := hideT (R8.put tk2)
      clear R8 hb8 v8
      simp only [Act.put]
      generalize W8.setCells Q 0 [.int .u64 (wd tk2 0 : Nat), .int .u64 (wd tk2 1 : Nat), .int .u64 (wd tk2 2 : Nat), .int .u64 (wd tk2 3 : Nat)] = W9 at *
      go_wp2
      exact ⟨⟨k, l, tk2, by omega, rfl, HR9.out, HTI.out, HE4⟩, by simp [intOf]; omega⟩
  have HKEY := hideT key
  clear key hK2
  refine wp_region_held (S := fun V => Below wr.heap.size wr V) (by kernel_rfl) ?_
  refine' take_d 0 (some 19) rfl rfl (by kernel_rfl) (by kernel_rfl) (by kernel_rfl) (fun _ _ _ h => h) (by rfl) hSa ?hy1001 ?rest1001
  case hy1001 => intro V _; go_simp; (try with_reducible rfl)
  refine' take_d 1 (some 20) rfl rfl (by kernel_rfl) (by kernel_rfl) (by kernel_rfl) (fun _ _ _ h => h) (by rfl) hSa ?hy1002 ?rest1002
  case hy1002 => intro V _; go_simp; (try with_reducible rfl)
  refine' take_d 2 (some 21) rfl rfl (by kernel_rfl) (by kernel_rfl) (by kernel_rfl) (fun _ _ _ h => h) (by rfl) hSa ?hy1003 ?rest1003
  case hy1003 => intro V _; go_simp; (try with_reducible rfl)
  refine' take_d 4 (some 23) rfl rfl (by kernel_rfl) (by kernel_rfl) (by kernel_rfl) (fun _ _ _ h => h) (by rfl) hSa ?hy1004 ?rest1004
  case hy1004 => intro V _; go_simp; (try with_reducible rfl)
  refine' take_d 5 (some 24) rfl rfl (by kernel_rfl) (by kernel_rfl) (by kernel_rfl) (fun _ _ _ h => h) (by rfl) hSa ?hy1005 ?rest1005
  case hy1005 => intro V _; go_simp; (try with_reducible rfl)
  (try simp only [Act.put, List.setIfInBounds_toArray, List.set_cons_zero, List.set_cons_succ])
  refine wpAnyH_all (rs := [3, 8]) (by kernel_rfl) (by simp) (fun i hi => ?_)
  have hc2 : i = 3 ∨ i = 8 := by simpa using hi
  rcases hc2 with rfl | rfl
  ·refine op_call (some 22) rfl rfl (by rfl) (by go_simp; (try with_reducible rfl)) (R := fun v w' => v = .int .i64 (kdG s.size i : Nat) ∧ w' = wr.drew) ((HK.out _ _).mono (fun e w' h => ⟨_, h.1, rfl, h.2⟩)) ?_
   rintro v w' ⟨rfl, rfl⟩
   refine And.intro hSa ?_
   refine' take_d 6 (some 25) rfl rfl (by kernel_rfl) (by kernel_rfl) (by kernel_rfl) (fun _ _ _ h => h) (by rfl) hSa ?hy1006 ?rest1006
   case hy1006 => intro V _; go_simp; (try with_reducible rfl)
   refine take_y 7 (some 26) rfl rfl (by kernel_rfl) (by kernel_rfl) (by kernel_rfl) (fun _ _ _ h => h) hSa (yieldsIf_load_mid (by rfl) 78 _ rfl b (1 + kdG s.size i * 9) rfl (bdV (a (kdG s.size i))) ud (fun V hV => web_range (HW.out.below (R0.out.bel.trans (hV.mono R0.out.bel.size))) _ (kd_lt _ _)) hud hur (by rw [info_border]; rfl)) ?_
   (try simp only [Act.put, List.setIfInBounds_toArray, List.set_cons_zero, List.set_cons_succ])
   refine wpAnyH_all (rs := [8]) (by kernel_rfl) (by simp) (fun i hi => ?_)
   obtain rfl : i = 8 := List.mem_singleton.1 hi
   refine op_value (some 10) rfl rfl (by rfl) (v := .pointer (some ⟨wr.heap.size, 0, none⟩)) (w' := wr.drew.alloc (.cells #[.bool false, .int .u64 0, .int .u64 0, .int .u64 0, .int .u64 0, .int .u64 0, .int .u64 0, .int .u64 0, .int .u64 0] 78)) (by go_simp; (try with_reducible rfl)) ⟨hA1, ?_⟩
   (try simp only [Act.put, List.setIfInBounds_toArray, List.set_cons_zero, List.set_cons_succ])
   refine wpAnyH_all (rs := [9]) (by kernel_rfl) (by simp) (fun i hi => ?_)
   obtain rfl : i = 9 := List.mem_singleton.1 hi
   refine op_store 78 10 26 wr.heap.size (bdV (a (kdG s.size i))) rfl rfl rfl rfl rfl rfl (there_block zb _ rfl) (by rw [info_border]; rfl) (bdV_one _) ?_
   refine And.intro (below_setCells _ (Nat.le_refl _) _ _ _ hA1) ?_
   refine wpAnyH_done (by kernel_rfl) ?_ _
   simp only [Act.put]
   exact HKEY.out
  ·refine op_value (some 10) rfl rfl (by rfl) (v := .pointer (some ⟨wr.heap.size, 0, none⟩)) (w' := wr.drew.alloc (.cells #[.bool false, .int .u64 0, .int .u64 0, .int .u64 0, .int .u64 0, .int .u64 0, .int .u64 0, .int .u64 0, .int .u64 0] 78)) (by go_simp; (try with_reducible rfl)) ⟨hA1, ?_⟩
   (try simp only [Act.put, List.setIfInBounds_toArray, List.set_cons_zero, List.set_cons_succ])
   refine wpAnyH_all (rs := [3]) (by kernel_rfl) (by simp) (fun i hi => ?_)
   obtain rfl : i = 3 := List.mem_singleton.1 hi
   refine op_call (some 22) rfl rfl (by rfl) (by go_simp; (try with_reducible rfl)) (R := fun v w' => v = .int .i64 (kdG s.size i : Nat) ∧ w' = wr.drew.alloc (.cells #[.bool false, .int .u64 0, .int .u64 0, .int .u64 0, .int .u64 0, .int .u64 0, .int .u64 0, .int .u64 0, .int .u64 0] 78)) ((HK.out _ _).mono (fun e w' h => ⟨_, h.1, rfl, h.2⟩)) ?_
   rintro v w' ⟨rfl, rfl⟩
   refine And.intro hA1 ?_
   refine' take_d 6 (some 25) rfl rfl (by kernel_rfl) (by kernel_rfl) (by kernel_rfl) (fun _ _ _ h => h) (by rfl) hA1 ?hy1007 ?rest1007
   case hy1007 => intro V _; go_simp; (try with_reducible rfl)
   refine take_y 7 (some 26) rfl rfl (by kernel_rfl) (by kernel_rfl) (by kernel_rfl) (fun _ _ _ h => h) hA1 (yieldsIf_load_mid (by rfl) 78 _ rfl b (1 + kdG s.size i * 9) rfl (bdV (a (kdG s.size i))) ud (fun V hV => web_range (HW.out.below (R0.out.bel.trans (hV.mono R0.out.bel.size))) _ (kd_lt _ _)) hud hur (by rw [info_border]; rfl)) ?_
   (try simp only [Act.put, List.setIfInBounds_toArray, List.set_cons_zero, List.set_cons_succ])
   refine wpAnyH_all (rs := [9]) (by kernel_rfl) (by simp) (fun i hi => ?_)
   obtain rfl : i = 9 := List.mem_singleton.1 hi
   refine op_store 78 10 26 wr.heap.size (bdV (a (kdG s.size i))) rfl rfl rfl rfl rfl rfl (there_block zb _ rfl) (by rw [info_border]; rfl) (bdV_one _) ?_
   refine And.intro (below_setCells _ (Nat.le_refl _) _ _ _ hA1) ?_
   refine wpAnyH_done (by kernel_rfl) ?_ _
   simp only [Act.put]
   exact HKEY.out
end Go.Proofs.Ytiedliahmjiadaa
