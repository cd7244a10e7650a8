/- check: a list of commands as it lies; the jumps. -/
import Derived.Test.YtdlceppiblodmaaCh
namespace Go.Proofs.Ytdlceppiblodmaa
open Go.RowKit
open chkP

/-- A slice that reads as these commands. -/
def CRow (W : World) (v : Value) (l : List Cm) : Prop := ∃ a cp, v = .slice a l.length cp ∧ ∀ (k : Nat) (x : Cm), l[k]? = some x → ∃ g o, a = some ⟨g, o, none⟩ ∧ CAt W g (o + k * 19) x ∧ x.lb.length ≤ 1000000000000000
theorem CRow.keep {W W' : World} {v : Value} {l : List Cm} (h : CRow W v l) (hb : ∀ k, k < W.heap.size → W'.heap[k]? = W.heap[k]?) : CRow W' v l := by
  obtain ⟨a, c, h1, h2⟩ := h
  exact ⟨a, c, h1, fun k x hx => by
    obtain ⟨g, o, h3, h4, h5⟩ := h2 k x hx
    exact ⟨g, o, h3, h4.keep (hb g h4.lt), h5⟩⟩
theorem CRow.step {W W' : World} {v : Value} {l : List Cm} (h : CRow W v l) (hb : Below W.heap.size W W') : CRow W' v l := h.keep hb.block
def fltV (e p : Int) : Value := .agg #[.int .i64 e, .int .i64 p]
def jmpV (l : List Cm) : Value := match jumpR l l with
  | some p => fltV 22 p
  | none => fltV 0 0

set_option maxRecDepth 100000 in
set_option maxHeartbeats 4000000 in
theorem unknown_any {W : World} {B m mb : Nat} {v lv : Value} {st : List Int} {D : DataW Unit} {n : Nat} {l : List Cm} (h : Sof W B m mb v st D n) (hr : CRow W lv l) (hL : LabsIn D l) (hl : l.length ≤ 1000000000) : Calls Try.prog 12 #[.pointer (some ⟨m, 0, none⟩), lv] W fun e w' => e = .returned (jmpV l) ∧ Below W.heap.size W w' := by
  have HR := hideT hr
  obtain ⟨a, cp, rfl, hrow⟩ := hr
  obtain ⟨J, hJ⟩ : ∃ J, J = jmpV l := ⟨_, rfl⟩
  rw [← hJ]
  have HJ := hideT hJ
  have HH := hideT h
  have HLL := hideT hL
  have HROW := hideT hrow
  clear h hL hrow hJ
  go_enter Try.func12, Try.ntmps12
  go_wp2_with fail
  have hA : Below W.heap.size W (W.alloc (.cells #[.int .i64 0, .int .i64 0] 30)) := (Below.refl _ _).alloc (Nat.le_refl _) _
  have hres := heap_alloc_new W (.cells #[.int .i64 0, .int .i64 0] 30)
  have hsz : (W.alloc (.cells #[.int .i64 0, .int .i64 0] 30)).heap.size = W.heap.size + 1 := World.size_alloc _ _
  obtain ⟨X, hX⟩ : ∃ X, X = W.alloc (.cells #[.int .i64 0, .int .i64 0] 30) := ⟨_, rfl⟩
  rw [← hX] at hA hres hsz ⊢
  have HAX := hideT hA
  have HRES := hideT hres
  have HSZ := hideT hsz
  clear hA hres hX hsz
  go_loopw [11] (fun v wr => ∃ k : Nat, k ≤ l.length ∧ v = .int .i64 (k : Nat) ∧ Hid (jumpR l (l.drop k) = jumpR l l) ∧ Hid (Below X.heap.size X wr)) (fun v _ => l.length - (intOf v).toNat)
  case atStart => exact ⟨0, Nat.zero_le _, rfl, hideT rfl, hideT (Below.refl _ _)⟩
  case round =>
    obtain ⟨k, hk, rfl, HJK, HB⟩ := hrel
    have HBW := hideT (HAX.out.trans (HB.out.mono HAX.out.size))
    have hrb : wr.heap[W.heap.size]? = some (.cells #[.int .i64 0, .int .i64 0] 30 (0, 0)) := (HB.out.block _ (by rw [HSZ.out]; omega)).trans HRES.out
    have r0 : wr.cell? ⟨W.heap.size, 0, none⟩ = some (.int .i64 0) := by simp [World.cell?, hrb]
    have r1 : wr.cell? ⟨W.heap.size, 1, none⟩ = some (.int .i64 0) := by simp [World.cell?, hrb]
    have f0 : wr.frozen? ⟨W.heap.size, 0, none⟩ = false := by simp [World.frozen?, hrb]
    have f1 : wr.frozen? ⟨W.heap.size, 1, none⟩ = false := by simp [World.frozen?, hrb]
    have HRB := hideT hrb
    clear hrb
    by_cases hlt : k < l.length
    · have i1 : (k : Int) < (l.length : Int) := by omega
      have i2 : (0 : Int) ≤ (k : Int) := by omega
      have hkx : l[k]? = some (l[k]'hlt) := List.getElem?_eq_getElem hlt
      obtain ⟨g, o, rfl, hcat, hlen⟩ := HROW.out k _ hkx
      have hst : jumpR l (l.drop k) = if ((l[k]'hlt).nm = 98 ∨ (l[k]'hlt).nm = 116) ∧ (l[k]'hlt).lb ≠ [] ∧ labB l (l[k]'hlt).lb = false then some (l[k]'hlt).pl else jumpR l (l.drop (k + 1)) := by
        rw [List.drop_eq_getElem_cons hlt]
        rfl
      generalize (l[k]'hlt) = x at *
      have hcw := hcat.keep (HBW.out.block g hcat.lt)
      have HST := hideT hst
      have HCAT := hideT hcat
      have HCW := hideT hcw
      have HLEN := hideT hlen
      have c8 := hcw.c8
      have c9 := hcw.c9
      have c0 := hcw.c0
      clear hst hkx hcat hcw hlen
      have HNX := hideT (show ¬ ((x.nm = 98 ∨ x.nm = 116) ∧ x.lb ≠ [] ∧ labB l x.lb = false) → jumpR l (l.drop (k + 1)) = jumpR l l from fun hn => by rw [← HJK.out, HST.out, if_neg hn])
      by_cases hbt : x.nm = 98 ∨ x.nm = 116
      · by_cases hem : x.lb = []
        · have HN2 := hideT (HNX.out (fun h => h.2.1 hem))
          rw [hem] at c9
          clear hem HST HJK HNX
          have a1 : (((x.nm.toNat : Int) != 98) = true ∧ ((x.nm.toNat : Int) != 116) = false) ∨ ((x.nm.toNat : Int) != 98) = false := by
            rcases hbt with e | e
            · right; rw [e]; rfl
            · left; rw [e]; exact ⟨rfl, rfl⟩
          clear hbt
          rcases a1 with ⟨a1, a2⟩ | a1
          all_goals
            go_wp2
            exact ⟨⟨k + 1, by omega, by go_num, HN2, HB⟩, by simp [intOf]; omega⟩
        · have HEM := hideT hem
          have he : x.lb.isEmpty = false := by simpa using hem
          have HBT := hideT hbt
          have a1 : (((x.nm.toNat : Int) != 98) = true ∧ ((x.nm.toNat : Int) != 116) = false) ∨ ((x.nm.toNat : Int) != 98) = false := by
            rcases hbt with e | e
            · right; rw [e]; rfl
            · left; rw [e]; exact ⟨rfl, rfl⟩
          clear hbt hem
          obtain ⟨b, hb⟩ : ∃ b, b = Maps.has D (.string x.lb) := ⟨_, rfl⟩
          have HLB := hideT (show b = labB l x.lb by rw [hb, HLL.out])
          have HSW := hideT (HH.out.step HBW.out)
          have HL := hideT (fun (V : World) (hV : Below wr.heap.size wr V) => sof_look HSW.out (hV.block mb HSW.out.mblt) x.lb (by have := HLEN.out; unfold maxLen; omega))
          rw [← hb] at HL
          have m1 := HSW.out.c1
          have HC1 := hideT (fun (V : World) (hV : Below wr.heap.size wr V) => keep_cell hV m1)
          have HCL := hideT (fun (V : World) (hV : Below wr.heap.size wr V) => keep_cell hV c9)
          have HC0 := hideT (fun (V : World) (hV : Below wr.heap.size wr V) => keep_cell hV c0)
          have HR0 := hideT (fun (V : World) (hV : Below wr.heap.size wr V) => keep_cell hV r0)
          have HR1 := hideT (fun (V : World) (hV : Below wr.heap.size wr V) => keep_cell hV r1)
          have HRF := hideT (fun (V : World) (hV : Below wr.heap.size wr V) => show V.frozen? ⟨W.heap.size, 0, none⟩ = false ∧ V.frozen? ⟨W.heap.size, 1, none⟩ = false from ⟨(World.frozen?_of_block (hV.block W.heap.size (World.block_lt_of_cell? wr _ r0))).trans f0, (World.frozen?_of_block (hV.block W.heap.size (World.block_lt_of_cell? wr _ r0))).trans f1⟩)
          have s0 : Below wr.heap.size wr wr.drew := (Below.refl _ _).drew
          clear hb m1
          rcases a1 with ⟨a1, a2⟩ | a1
          · go_wp2_with fail
            refine wp_region_held (S := fun V => Below wr.heap.size wr V) (by kernel_rfl) ?_
            refine' take_d 0 (some 37) rfl rfl (by kernel_rfl) (by kernel_rfl) (by kernel_rfl) (fun _ _ _ h => h) (wanted_none rfl _) s0 ?tk1 ?rs1
            case tk1 => intro V hV; go_simp; (try with_reducible rfl)
            refine' take_d 1 (some 38) rfl rfl (by kernel_rfl) (by kernel_rfl) (by kernel_rfl) (fun _ _ _ h => h) (wanted_none rfl _) s0 ?tk2 ?rs2
            case tk2 => intro V hV; go_simp; (try with_reducible rfl)
            refine' take_d 2 (some 39) rfl rfl (by kernel_rfl) (by kernel_rfl) (by kernel_rfl) (fun _ _ _ h => h) (wanted_none rfl _) s0 ?tk3 ?rs3
            case tk3 => intro V hV; go_simp; (try with_reducible rfl)
            refine' take_d 3 (some 40) rfl rfl (by kernel_rfl) (by kernel_rfl) (by kernel_rfl) (fun _ _ _ h => h) (wanted_none rfl _) s0 ?tk4 ?rs4
            case tk4 => intro V hV; have hc := HC1.out V hV; go_simp; (try with_reducible rfl)
            refine' take_d 4 (some 41) rfl rfl (by kernel_rfl) (by kernel_rfl) (by kernel_rfl) (fun _ _ _ h => h) (wanted_none rfl _) s0 ?tk5 ?rs5
            case tk5 => intro V hV; go_simp; (try with_reducible rfl)
            refine' take_d 5 (some 42) rfl rfl (by kernel_rfl) (by kernel_rfl) (by kernel_rfl) (fun _ _ _ h => h) (wanted_none rfl _) s0 ?tk6 ?rs6
            case tk6 => intro V hV; go_simp; (try with_reducible rfl)
            refine' take_d 6 (some 43) rfl rfl (by kernel_rfl) (by kernel_rfl) (by kernel_rfl) (fun _ _ _ h => h) (wanted_none rfl _) s0 ?tk7 ?rs7
            case tk7 => intro V hV; go_simp; (try with_reducible rfl)
            refine' take_d 7 (some 44) rfl rfl (by kernel_rfl) (by kernel_rfl) (by kernel_rfl) (fun _ _ _ h => h) (wanted_none rfl _) s0 ?tk8 ?rs8
            case tk8 => intro V hV; have hc := HCL.out V hV; go_simp; (try with_reducible rfl)
            simp only [Act.put, List.setIfInBounds_toArray, List.set_cons_zero, List.set_cons_succ]
            refine' take_d 8 (some 45) rfl rfl (by kernel_rfl) (by kernel_rfl) (by kernel_rfl) (fun _ _ _ h => h) (wanted_none rfl _) s0 ?tk9 ?rs9
            case tk9 => intro V hV; exact look_yield rfl rfl rfl (HL.out V hV)
            refine' take_d 9 (some 36) rfl rfl (by kernel_rfl) (by kernel_rfl) (by kernel_rfl) (fun _ _ _ h => h) (wanted_none rfl _) s0 ?tk10 ?rs10
            case tk10 => intro V hV; go_simp; (try with_reducible rfl)
            refine' take_d 10 (some 46) rfl rfl (by kernel_rfl) (by kernel_rfl) (by kernel_rfl) (fun _ _ _ h => h) (wanted_none rfl _) s0 ?tk11 ?rs11
            case tk11 => intro V hV; go_simp; (try with_reducible rfl)
            refine' take_d 11 (some 47) rfl rfl (by kernel_rfl) (by kernel_rfl) (by kernel_rfl) (fun _ _ _ h => h) (wanted_none rfl _) s0 ?tk12 ?rs12
            case tk12 => intro V hV; go_simp; (try with_reducible rfl)
            refine wpAnyH_all (rs := [12]) (by kernel_rfl) (by simp) (fun i hi => ?_)
            obtain rfl : i = 12 := List.mem_singleton.1 hi
            have s1 : Below wr.heap.size wr (wr.drew.alloc (.cells #[] 58)) := s0.alloc (Nat.le_refl _) _
            refine op_value (some 7) (v := .pointer (some ⟨wr.heap.size, 0, none⟩)) (w' := wr.drew.alloc (.cells #[] 58)) rfl rfl (wanted_none rfl _) (by go_simp; (try with_reducible rfl)) ?_
            refine And.intro s1 ?_
            simp only [Act.put, List.setIfInBounds_toArray, List.set_cons_zero, List.set_cons_succ]
            refine wpAnyH_all (rs := [13]) (by kernel_rfl) (by simp) (fun i hi => ?_)
            obtain rfl : i = 13 := List.mem_singleton.1 hi
            refine op_skip (w' := wr.drew.alloc (.cells #[] 58)) rfl rfl (wanted_none rfl _) (by go_simp; (try with_reducible rfl)) ?_
            refine And.intro s1 ?_
            refine' take_d 14 (some 8) rfl rfl (by kernel_rfl) (by kernel_rfl) (by kernel_rfl) (fun _ _ _ h => h) (wanted_none rfl _) s1 ?tk13 ?rs13
            case tk13 => intro V hV; go_simp; (try with_reducible rfl)
            refine wpAnyH_done (by kernel_rfl) ?_ _
            simp only [Act.put, List.setIfInBounds_toArray, List.set_cons_zero, List.set_cons_succ]
            obtain ⟨U, hU⟩ : ∃ U, U = wr.drew.alloc (.cells #[] 58) := ⟨_, rfl⟩
            rw [← hU] at s1 ⊢
            have d0 := HC0.out U s1
            have q0 := HR0.out U s1
            have q1 := HR1.out U s1
            obtain ⟨g0, g1⟩ := HRF.out U s1
            have HS1 := hideT s1
            have HXU := hideT (HB.out.trans (s1.mono HB.out.size))
            have HWU := hideT (HBW.out.trans (s1.mono HBW.out.size))
            clear hU s1 s0 c0 c8 c9 r0 r1 f0 f1 HL
            cases b with
            | true =>
              have HN2 := hideT (HNX.out (fun h => by rw [← HLB.out] at h; cases h.2.2))
              go_wp2
              exact ⟨⟨k + 1, by omega, by go_num, HN2, HXU⟩, by simp [intOf]; omega⟩
            | false =>
              have HF := hideT (show J = fltV 22 x.pl by
                rw [HJ.out, jmpV, ← HJK.out, HST.out, if_pos ⟨HBT.out, HEM.out, HLB.out.symm⟩])
              go_wp2
              rw [HF.out]
              exact bodyPost_ret (v := fltV 22 x.pl) (by simp [results, Try.results12, go_sem, fltV, q0, q1]) rfl ⟨rfl, below_put (below_put HWU.out (Nat.le_refl _) _ _) (Nat.le_refl _) _ _⟩
          · go_wp2_with fail
            refine wp_region_held (S := fun V => Below wr.heap.size wr V) (by kernel_rfl) ?_
            refine' take_d 0 (some 37) rfl rfl (by kernel_rfl) (by kernel_rfl) (by kernel_rfl) (fun _ _ _ h => h) (wanted_none rfl _) s0 ?tk14 ?rs14
            case tk14 => intro V hV; go_simp; (try with_reducible rfl)
            refine' take_d 1 (some 38) rfl rfl (by kernel_rfl) (by kernel_rfl) (by kernel_rfl) (fun _ _ _ h => h) (wanted_none rfl _) s0 ?tk15 ?rs15
            case tk15 => intro V hV; go_simp; (try with_reducible rfl)
            refine' take_d 2 (some 39) rfl rfl (by kernel_rfl) (by kernel_rfl) (by kernel_rfl) (fun _ _ _ h => h) (wanted_none rfl _) s0 ?tk16 ?rs16
            case tk16 => intro V hV; go_simp; (try with_reducible rfl)
            refine' take_d 3 (some 40) rfl rfl (by kernel_rfl) (by kernel_rfl) (by kernel_rfl) (fun _ _ _ h => h) (wanted_none rfl _) s0 ?tk17 ?rs17
            case tk17 => intro V hV; have hc := HC1.out V hV; go_simp; (try with_reducible rfl)
            refine' take_d 4 (some 41) rfl rfl (by kernel_rfl) (by kernel_rfl) (by kernel_rfl) (fun _ _ _ h => h) (wanted_none rfl _) s0 ?tk18 ?rs18
            case tk18 => intro V hV; go_simp; (try with_reducible rfl)
            refine' take_d 5 (some 42) rfl rfl (by kernel_rfl) (by kernel_rfl) (by kernel_rfl) (fun _ _ _ h => h) (wanted_none rfl _) s0 ?tk19 ?rs19
            case tk19 => intro V hV; go_simp; (try with_reducible rfl)
            refine' take_d 6 (some 43) rfl rfl (by kernel_rfl) (by kernel_rfl) (by kernel_rfl) (fun _ _ _ h => h) (wanted_none rfl _) s0 ?tk20 ?rs20
            case tk20 => intro V hV; go_simp; (try with_reducible rfl)
            refine' take_d 7 (some 44) rfl rfl (by kernel_rfl) (by kernel_rfl) (by kernel_rfl) (fun _ _ _ h => h) (wanted_none rfl _) s0 ?tk21 ?rs21
            case tk21 => intro V hV; have hc := HCL.out V hV; go_simp; (try with_reducible rfl)
            simp only [Act.put, List.setIfInBounds_toArray, List.set_cons_zero, List.set_cons_succ]
            refine' take_d 8 (some 45) rfl rfl (by kernel_rfl) (by kernel_rfl) (by kernel_rfl) (fun _ _ _ h => h) (wanted_none rfl _) s0 ?tk22 ?rs22
            case tk22 => intro V hV; exact look_yield rfl rfl rfl (HL.out V hV)
            refine' take_d 9 (some 36) rfl rfl (by kernel_rfl) (by kernel_rfl) (by kernel_rfl) (fun _ _ _ h => h) (wanted_none rfl _) s0 ?tk23 ?rs23
            case tk23 => intro V hV; go_simp; (try with_reducible rfl)
            refine' take_d 10 (some 46) rfl rfl (by kernel_rfl) (by kernel_rfl) (by kernel_rfl) (fun _ _ _ h => h) (wanted_none rfl _) s0 ?tk24 ?rs24
            case tk24 => intro V hV; go_simp; (try with_reducible rfl)
            refine' take_d 11 (some 47) rfl rfl (by kernel_rfl) (by kernel_rfl) (by kernel_rfl) (fun _ _ _ h => h) (wanted_none rfl _) s0 ?tk25 ?rs25
            case tk25 => intro V hV; go_simp; (try with_reducible rfl)
            refine wpAnyH_all (rs := [12]) (by kernel_rfl) (by simp) (fun i hi => ?_)
            obtain rfl : i = 12 := List.mem_singleton.1 hi
            have s1 : Below wr.heap.size wr (wr.drew.alloc (.cells #[] 58)) := s0.alloc (Nat.le_refl _) _
            refine op_value (some 7) (v := .pointer (some ⟨wr.heap.size, 0, none⟩)) (w' := wr.drew.alloc (.cells #[] 58)) rfl rfl (wanted_none rfl _) (by go_simp; (try with_reducible rfl)) ?_
            refine And.intro s1 ?_
            simp only [Act.put, List.setIfInBounds_toArray, List.set_cons_zero, List.set_cons_succ]
            refine wpAnyH_all (rs := [13]) (by kernel_rfl) (by simp) (fun i hi => ?_)
            obtain rfl : i = 13 := List.mem_singleton.1 hi
            refine op_skip (w' := wr.drew.alloc (.cells #[] 58)) rfl rfl (wanted_none rfl _) (by go_simp; (try with_reducible rfl)) ?_
            refine And.intro s1 ?_
            refine' take_d 14 (some 8) rfl rfl (by kernel_rfl) (by kernel_rfl) (by kernel_rfl) (fun _ _ _ h => h) (wanted_none rfl _) s1 ?tk26 ?rs26
            case tk26 => intro V hV; go_simp; (try with_reducible rfl)
            refine wpAnyH_done (by kernel_rfl) ?_ _
            simp only [Act.put, List.setIfInBounds_toArray, List.set_cons_zero, List.set_cons_succ]
            obtain ⟨U, hU⟩ : ∃ U, U = wr.drew.alloc (.cells #[] 58) := ⟨_, rfl⟩
            rw [← hU] at s1 ⊢
            have d0 := HC0.out U s1
            have q0 := HR0.out U s1
            have q1 := HR1.out U s1
            obtain ⟨g0, g1⟩ := HRF.out U s1
            have HS1 := hideT s1
            have HXU := hideT (HB.out.trans (s1.mono HB.out.size))
            have HWU := hideT (HBW.out.trans (s1.mono HBW.out.size))
            clear hU s1 s0 c0 c8 c9 r0 r1 f0 f1 HL
            cases b with
            | true =>
              have HN2 := hideT (HNX.out (fun h => by rw [← HLB.out] at h; cases h.2.2))
              go_wp2
              exact ⟨⟨k + 1, by omega, by go_num, HN2, HXU⟩, by simp [intOf]; omega⟩
            | false =>
              have HF := hideT (show J = fltV 22 x.pl by
                rw [HJ.out, jmpV, ← HJK.out, HST.out, if_pos ⟨HBT.out, HEM.out, HLB.out.symm⟩])
              go_wp2
              rw [HF.out]
              exact bodyPost_ret (v := fltV 22 x.pl) (by simp [results, Try.results12, go_sem, fltV, q0, q1]) rfl ⟨rfl, below_put (below_put HWU.out (Nat.le_refl _) _ _) (Nat.le_refl _) _ _⟩
      · have n1 : ((x.nm.toNat : Int) != 98) = true := by rw [bne_iff_ne]; exact fun e => hbt (.inl (UInt8.toNat_inj.1 (by show _ = 98; omega)))
        have n2 : ((x.nm.toNat : Int) != 116) = true := by rw [bne_iff_ne]; exact fun e => hbt (.inr (UInt8.toNat_inj.1 (by show _ = 116; omega)))
        have HN2 := hideT (HNX.out (fun h => hbt h.1))
        clear hbt HST HJK HNX
        go_wp2
        exact ⟨⟨k + 1, by omega, by go_num, HN2, HB⟩, by simp [intOf]; omega⟩
    · obtain rfl : k = l.length := by omega
      have i1 : ((l.length : Int) < (l.length : Int)) = False := by rw [eq_iff_iff, iff_false]; omega
      have HF := hideT (show J = fltV 0 0 by
        rw [HJ.out, jmpV, ← HJK.out, List.drop_of_length_le (Nat.le_refl _)]
        rfl)
      clear HJ HJK
      go_wp2
      rw [HF.out]
      exact bodyPost_ret (v := fltV 0 0) (by simp [results, Try.results12, go_sem, fltV, r0, r1]) rfl ⟨rfl, below_put (below_put HBW.out (Nat.le_refl _) _ _) (Nat.le_refl _) _ _⟩
end Go.Proofs.Ytdlceppiblodmaa
