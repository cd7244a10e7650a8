/- store: StorePlays. -/
import Derived.Test.YtbibfpgcnmocjaaDe
namespace Go.Proofs.Ytbibfpgcnmocjaa
open Go.RowKit

/-- Both stores of S, the document's rows fixed. -/
structure Bf (W0 W : World) (b d : Nat) (lv ov : Value) (S : Sr) (Q : Nat → Prop) : Prop where
  fr : FrP W0 W b S (fun k => dft d lv ov k ∨ Q k)
  da : DA W W0.heap.size d lv ov S
  ap : ∀ k, Q k → ¬ dft d lv ov k
abbrev dO (lv ov : Value) (S : Sr) : Obj := .cells #[lv, ov, .string ⟨S.out.toArray⟩, .int .i64 (S.wr : Nat)] 37 (0, 0)
theorem dO_cells {V : World} {d : Nat} {lv ov : Value} {S : Sr} (h : V.heap[d]? = some (dO lv ov S)) : V.cell? ⟨d, 0, none⟩ = some lv ∧ V.cell? ⟨d, 2, none⟩ = some (.string ⟨S.out.toArray⟩) ∧ V.cell? ⟨d, 3, none⟩ = some (.int .i64 (S.wr : Nat)) := by simp [World.cell?, h]
section
variable {W0 W W' : World} {b d : Nat} {lv ov : Value} {S : Sr} {Q : Nat → Prop}
theorem Bo.fix (h : Bo W0 W b d S S Q) : ∃ lv ov, Bf W0 W b d lv ov S Q := by
  obtain ⟨lv, ov, h1, h2, h3⟩ := h
  exact ⟨lv, ov, h1, h2, h3⟩
theorem Bf.bo (h : Bf W0 W b d lv ov S Q) : Bo W0 W b d S S Q := ⟨lv, ov, h.fr, h.da, h.ap⟩
theorem Bf.blk (h : Bf W0 W b d lv ov S Q) : W.heap[d]? = some (dO lv ov S) := h.da.blk
theorem Bf.stay (h : Bf W0 W b d lv ov S Q) (hF : FrP W0 W' b S (fun k => dft d lv ov k ∨ Q k)) (hs : Stay (fun k => dft d lv ov k ∨ Q k) W W') : Bf W0 W' b d lv ov S Q := ⟨hF, h.da.keep (fun k hk => hs k (.inl hk)), h.ap⟩
theorem Bf.call {f : FuncId} {args : Array Value} {R : Value} (h : Bf W0 W b d lv ov S Q) (c : ∀ F, I0 W F b S → Calls Try.prog f args W (Pst F W b S R)) : Calls Try.prog f args W fun e w' => e = .returned R ∧ Bf W0 w' b d lv ov S Q := by
  refine (h.fr.call c).mono ?_
  rintro e w' ⟨rfl, h1, h2⟩
  exact ⟨rfl, h.stay h1 h2⟩
theorem Bf.step (h : Bf W0 W b d lv ov S Q) (hb : Below W.heap.size W W') : Bf W0 W' b d lv ov S Q := h.stay (h.fr.step hb).1 (h.fr.step hb).2
theorem Bf.files (h : Bf W0 W b d lv ov S Q) (ho : SOk S) : Calls Try.prog 16 #[ptrV b] W fun e w' => ∃ v, e = .returned v ∧ FRow w' v ((itF S.fs).map bFl) ∧ Bf W0 w' b d lv ov S Q := by
  refine (h.fr.files ho).mono ?_
  rintro e w' ⟨v, rfl, hr, h1, h2⟩
  exact ⟨v, rfl, frow_owns hr, h.stay (h1.less (fun k hk => .inl hk)) h2⟩
theorem DA.frow {W : World} {B b : Nat} {lv ov : Value} {S : Sr} (h : DA W B b lv ov S) : FRow W lv ((itF S.fs).map bFl) := by
  have hl := h.lst
  rw [show S.fs.length = (itF S.fs).length by simp [itF]] at hl
  exact frow_owns hl
theorem Bf.same (h : Bf W0 W b d lv ov S Q) (ho : SOk S) {v : Value} (hv : FRow W v ((itF S.fs).map bFl)) : Calls Try.prog 15 #[v, lv] W fun e w' => e = .returned (.bool true) ∧ Bf W0 w' b d lv ov S Q := by
  have hl := ho.len
  refine (same_any W v lv _ hv h.da.frow (by simp [itF]; omega)).mono ?_
  rintro e w' ⟨rfl, hb⟩
  exact ⟨rfl, h.step hb⟩
theorem written_pst {F : Nat → Prop} (h : I0 W F b S) : Calls Try.prog 14 #[ptrV b] W (Pst F W b S (.int .i64 (S.wr : Nat))) := by
  refine (written_any h).mono ?_
  rintro e w' ⟨rfl, rfl⟩
  exact ⟨rfl, Tch.refl _ _, F, h, fun k hk => .inl hk⟩
end
theorem DA.base {W : World} {B C b : Nat} {lv ov : Value} {S : Sr} (h : DA W B b lv ov S) (hc : C ≤ B) : DA W C b lv ov S := ⟨Nat.le_trans hc h.hb, h.blk, owns_mono h.lst hc, owns_mono h.opn hc⟩
/-- What stores leaves. -/
def StPost (W : World) (R : Nat × Fs) (e : Ending) (w' : World) : Prop := Below W.heap.size W w' ∧ ((R.1 ≠ 0 ∧ e = .returned (.tuple #[.pointer none, .pointer none, .bool true])) ∨ (R.1 = 0 ∧ ∃ b d, e = .returned (.tuple #[ptrV b, ptrV d, .bool true]) ∧ Bo W w' b d ⟨R.2, [], 0⟩ ⟨R.2, [], 0⟩ (fun _ => False)))

set_option maxRecDepth 100000 in
set_option maxHeartbeats 2000000 in
theorem stores_any (W : World) (v : Value) (l : List (ByteArray × ByteArray)) (hv : FRow W v l) (hs : ∀ x ∈ l, x.1.size ≤ 140737488355000 ∧ x.2.size ≤ 140737488355000) : Calls Try.prog 8 #[v] W (StPost W (newR l)) := by
  have HN := hideT (new_any W v l hv hs)
  have HD := hideT (fun w1 (hb : Below W.heap.size W w1) => docNew_any w1 v l (hv.step hb) hs)
  clear hv hs
  go_enter Try.func8, Try.ntmps8
  go_wp2_with fail
  refine HN.out.mono ?_
  rintro e w1 ⟨hb1, hr⟩
  have HD1 := hideT (HD.out w1 hb1)
  have HB1 := hideT hb1
  rcases hr with ⟨h0, rfl⟩ | ⟨h0, b, F, rfl, hI, hF⟩
  · clear HN HD hb1
    go_wp2_with fail
    refine HD1.out.mono ?_
    rintro e w2 ⟨hb2, hr2⟩
    have HB2 := hideT hb2
    rcases hr2 with ⟨_, rfl⟩ | ⟨h1, _⟩
    · have HE := hideT h0
      generalize hEq : (newR l).1 = E at *
      have HEQ := hideT hEq
      clear HD1 hb2 h0 hEq
      go_wp2
      go_ret3
      exact ⟨HB1.out.trans (HB2.out.mono HB1.out.size), .inl ⟨by rw [HEQ.out]; exact HE.out, rfl⟩⟩
    · exact absurd h1 h0
  · have HI := hideT (And.intro hI hF)
    clear HN HD hb1 hI hF
    go_wp2_with fail
    refine HD1.out.mono ?_
    rintro e w2 ⟨hb2, hr2⟩
    have HB2 := hideT hb2
    rcases hr2 with ⟨h1, _⟩ | ⟨_, d, rfl, hd⟩
    · exact absurd h0 h1
    · have HE := hideT h0
      have HBO := hideT (show Bo W w2 b d ⟨(newR l).2, [], 0⟩ ⟨(newR l).2, [], 0⟩ (fun _ => False) from by
        obtain ⟨lv, ov, hD, _⟩ := hd
        refine ⟨lv, ov, ⟨F, HI.out.1.keep (fun k hk => HB2.out.block k (HI.out.1.lt k hk)), HB1.out.trans (HB2.out.mono HB1.out.size), fun k hk => ⟨HI.out.2 k hk, fun hp => ?_⟩, fun k hk => ?_⟩, hD.base HB1.out.size, fun k hk => hk.elim⟩
        · rcases hp with hp | hp
          · have := (hD.lt hp).1
            have := HI.out.1.lt k hk
            omega
          · exact hp
        · rcases hk with hk | hk
          · exact (hD.lt hk).2
          · exact hk.elim)
      clear HD1 hb2 h0 hd HI
      go_wp2
      go_ret3
      exact ⟨HBO.out.bel, .inr ⟨HE.out, b, d, rfl, HBO.out⟩⟩

set_option maxRecDepth 100000 in
set_option maxHeartbeats 8000000 in
theorem plays_walk (W : World) (v0 v1 : Value) (l0 : List (ByteArray × ByteArray)) (l1 : List Op4) (row0 : FRow W v0 l0) (row1 : ORow W v1 l1) (_hl0 : l0.length ≤ 1048576) (hl1 : l1.length ≤ 1048576) (hs0 : ∀ x ∈ l0, x.1.size ≤ 1048576 ∧ x.2.size ≤ 1048576) (hs1 : ∀ x ∈ l1, x.nm.size ≤ 1048576 ∧ x.tx.size ≤ 1048576) : Calls Try.prog 3 #[v0, v1] W fun e w' => e = .returned (.bool true) ∧ Below W.heap.size W w' := by
  have HST := hideT (stores_any W v0 l0 row0 (fun x hx => by have := hs0 x hx; omega))
  have HOK := hideT (fun h => newR_ok (l := l0) h)
  obtain ⟨a, cp, rfl, hrow⟩ := row1
  have HROW := hideT hrow
  have HS := hideT hs1
  clear hrow hs1 hs0 row0
  go_enter Try.func3, Try.ntmps3
  go_wp2_with fail
  refine HST.out.mono ?_
  rintro e w1 ⟨hb1, hr⟩
  have HB1 := hideT hb1
  rcases hr with ⟨h0, rfl⟩ | ⟨h0, b, d, rfl, hbo⟩
  · clear HST hb1 h0
    go_wp2_with fail
    refine (awake_any _).mono ?_
    rintro e w2 ⟨rfl, hb2⟩
    have HB2 := hideT hb2
    clear hb2
    go_wp2
    go_ret
    exact ⟨rfl, HB1.out.trans (HB2.out.mono HB1.out.size)⟩
  · have HK0 := hideT (HOK.out h0)
    have HBO := hideT hbo
    clear HST hb1 h0 hbo HOK
    go_wp2_with fail
    refine (awake_any _).mono ?_
    rintro e w2 ⟨rfl, hb2⟩
    have HI0 := hideT (And.intro HK0.out (HBO.out.step hb2).1)
    generalize (⟨(newR l0).2, [], 0⟩ : Sr) = S0 at *
    clear hb2 HK0 HBO HB1
    go_wp2_with fail
    go_loopw [30] (fun iv wr => ∃ (k : Nat) (S : Sr), k ≤ l1.length ∧ iv = .int .i64 (k : Nat) ∧ Hid (SOk S ∧ Bo W wr b d S S (fun _ => False))) (fun iv _ => l1.length - (intOf iv).toNat)
    case atStart => exact ⟨0, S0, Nat.zero_le _, rfl, HI0⟩
    case round =>
      obtain ⟨k, S, hk, rfl, HI⟩ := hrel
      by_cases hlt : k < l1.length
      · have i1 : (k : Int) < (l1.length : Int) := by omega
        have i2 : (0 : Int) ≤ (k : Int) := by omega
        have w1' : IntKind.i64.wrap ((k : Int) + 1) = (k : Int) + 1 := by rw [IntKind.wrap_i64]; omega
        have hsz := HS.out _ (List.getElem_mem hlt)
        obtain ⟨gb, o, rfl, r0, r1, r2, r3⟩ := HROW.out k _ (List.getElem?_eq_getElem hlt)
        have e0 := keep_cell HI.out.2.bel r0
        have e1 := keep_cell HI.out.2.bel r1
        have e2 := keep_cell HI.out.2.bel r2
        have e3 := keep_cell HI.out.2.bel r3
        generalize (l1[k]'hlt) = x at hsz e0 e1 e2 e3
        clear r0 r1 r2 r3
        go_wp2_with fail
        have hX : Below wr.heap.size wr (wr.alloc (.cells #[.int .i64 x.kd, .string x.nm, .string x.tx, .int .u8 (x.tm.toNat : Nat)] 30)) := (Below.refl _ wr).alloc (Nat.le_refl _) _
        have hXn : (wr.alloc (.cells #[.int .i64 x.kd, .string x.nm, .string x.tx, .int .u8 (x.tm.toNat : Nat)] 30)).heap[wr.heap.size]? = some (opO x) := heap_alloc_new wr _
        generalize wr.alloc (.cells #[.int .i64 x.kd, .string x.nm, .string x.tx, .int .u8 (x.tm.toNat : Nat)] 30) = X at *
        have HBX := hideT (HI.out.2.more hX (P := fun j => j = wr.heap.size) (fun j hj => by rw [hj]; exact ⟨Nat.le_refl _, (Array.getElem?_eq_some_iff.1 hXn).1⟩)).1
        have HO0 := hideT HI.out.1
        generalize wr.heap.size = ob at *
        refine (play_any HBX.out HO0.out x (by omega) (by omega)).mono ?_
        rintro e w3 ⟨rfl, hb3, ht3⟩
        have hbx3 : w3.heap[ob]? = some (opO x) := (ht3 ob (.inr rfl)).trans hXn
        have HO := hideT (HO0.out.play x)
        have HB3 := hideT hb3
        obtain ⟨q0, q1, q2, q3⟩ := opO_cells hbx3
        have HOB := hideT hbx3
        generalize S.play x = S at *
        clear hX hXn hb3 ht3 hbx3 HBX HO0 HI e0 e1 e2 e3 q0 q2 q3
        obtain ⟨Q, hQ⟩ : ∃ Q : Nat → Prop, Q = fun j => False ∨ j = ob := ⟨_, rfl⟩
        rw [← hQ] at HB3
        have HQ := hideT hQ
        clear hQ
        go_wp2_with fail
        refine (HB3.out.callS (fun F hI => read_any hI x.nm (by omega))).mono ?_
        rintro e w4 ⟨rfl, hb4, ht4⟩
        have hbx4 : w4.heap[ob]? = some (opO x) := (ht4 ob (by rw [HQ.out]; exact .inr rfl)).trans HOB.out
        obtain ⟨lv, ov, hbf⟩ := hb4.fix
        obtain ⟨_, p1, _⟩ := opO_cells hbx4
        have HBF := hideT hbf
        clear ht4 hbx4 hb4 hbf HOB HB3 q1
        go_wp2_with fail
        refine (docRead_any HBF.out.da (by have := HO.out.len; omega) x.nm).mono ?_
        rintro e w5 ⟨rfl, rfl⟩
        have hl16 := HO.out.len
        generalize hD : readD S x.nm.data.toList = D at *
        generalize hK : (look S.fs x.nm.data.toList).isSome = K at *
        clear hD hK p1
        go_wp2_with fail
        have HR0 := hideT (HBF.out.step ((Below.refl _ w5).drew))
        have s0 := HR0.out.blk
        clear HBF
        refine wp_region_held (S := fun V => V.heap[d]? = some (dO lv ov S)) (by kernel_rfl) ?_
        refine' take_d 0 (some 53) rfl rfl (by kernel_rfl) (by kernel_rfl) (by kernel_rfl) (fun _ _ _ h => h) (wanted_none rfl _) s0 ?tk1 ?rs1
        case tk1 => intro V hV; go_simp; (try with_reducible rfl)
        simp only [Act.put, List.setIfInBounds_toArray, List.set_cons_zero, List.set_cons_succ]
        refine' take_d 1 (some 54) rfl rfl (by kernel_rfl) (by kernel_rfl) (by kernel_rfl) (fun _ _ _ h => h) (wanted_none rfl _) s0 ?tk2 ?rs2
        case tk2 => intro V hV; go_simp; (try with_reducible rfl)
        simp only [Act.put, List.setIfInBounds_toArray, List.set_cons_zero, List.set_cons_succ]
        refine' take_d 2 (some 55) rfl rfl (by kernel_rfl) (by kernel_rfl) (by kernel_rfl) (fun _ _ _ h => h) (wanted_none rfl _) s0 ?tk3 ?rs3
        case tk3 => intro V hV; go_simp; (try with_reducible rfl)
        simp only [Act.put, List.setIfInBounds_toArray, List.set_cons_zero, List.set_cons_succ]
        refine' take_d 3 (some 56) rfl rfl (by kernel_rfl) (by kernel_rfl) (by kernel_rfl) (fun _ _ _ h => h) (wanted_none rfl _) s0 ?tk4 ?rs4
        case tk4 => intro V hV; go_simp; (try with_reducible rfl)
        simp only [Act.put, List.setIfInBounds_toArray, List.set_cons_zero, List.set_cons_succ]
        refine' take_d 4 (some 57) rfl rfl (by kernel_rfl) (by kernel_rfl) (by kernel_rfl) (fun _ _ _ h => h) (by rfl) s0 ?tk5 ?rs5
        case tk5 => intro V hV; go_simp; (try with_reducible rfl)
        simp only [Act.put, List.setIfInBounds_toArray, List.set_cons_zero, List.set_cons_succ]
        refine' take_d 5 (some 58) rfl rfl (by kernel_rfl) (by kernel_rfl) (by kernel_rfl) (fun _ _ _ h => h) (by rfl) s0 ?tk6 ?rs6
        case tk6 => intro V hV; go_simp; (try with_reducible rfl)
        simp only [Act.put, List.setIfInBounds_toArray, List.set_cons_zero, List.set_cons_succ]
        refine' take_d 6 (some 59) rfl rfl (by kernel_rfl) (by kernel_rfl) (by kernel_rfl) (fun _ _ _ h => h) (by rfl) s0 ?tk7 ?rs7
        case tk7 => intro V hV; go_simp; (try with_reducible rfl)
        simp only [Act.put, List.setIfInBounds_toArray, List.set_cons_zero, List.set_cons_succ]
        refine' take_d 7 (some 60) rfl rfl (by kernel_rfl) (by kernel_rfl) (by kernel_rfl) (fun _ _ _ h => h) (wanted_none rfl _) s0 ?tk8 ?rs8
        case tk8 => intro V hV; go_simp; (try with_reducible rfl)
        simp only [Act.put, List.setIfInBounds_toArray, List.set_cons_zero, List.set_cons_succ]
        refine' take_d 8 (some 61) rfl rfl (by kernel_rfl) (by kernel_rfl) (by kernel_rfl) (fun _ _ _ h => h) (wanted_none rfl _) s0 ?tk9 ?rs9
        case tk9 => intro V hV; go_simp; (try with_reducible rfl)
        simp only [Act.put, List.setIfInBounds_toArray, List.set_cons_zero, List.set_cons_succ]
        refine' take_d 9 (some 62) rfl rfl (by kernel_rfl) (by kernel_rfl) (by kernel_rfl) (fun _ _ _ h => h) (by rfl) s0 ?tk10 ?rs10
        case tk10 => intro V hV; go_simp; (try with_reducible rfl)
        simp only [Act.put, List.setIfInBounds_toArray, List.set_cons_zero, List.set_cons_succ]
        refine' take_d 11 (some 64) rfl rfl (by kernel_rfl) (by kernel_rfl) (by kernel_rfl) (fun _ _ _ h => h) (by rfl) s0 ?tk11 ?rs11
        case tk11 => intro V hV; go_simp; (try with_reducible rfl)
        simp only [Act.put, List.setIfInBounds_toArray, List.set_cons_zero, List.set_cons_succ]
        refine' take_d 12 (some 65) rfl rfl (by kernel_rfl) (by kernel_rfl) (by kernel_rfl) (fun _ _ _ h => h) (by rfl) s0 ?tk12 ?rs12
        case tk12 => intro V hV; go_simp; (try with_reducible rfl)
        simp only [Act.put, List.setIfInBounds_toArray, List.set_cons_zero, List.set_cons_succ]
        refine' take_d 13 (some 66) rfl rfl (by kernel_rfl) (by kernel_rfl) (by kernel_rfl) (fun _ _ _ h => h) (by rfl) s0 ?tk13 ?rs13
        case tk13 => intro V hV; go_simp; (try with_reducible rfl)
        simp only [Act.put, List.setIfInBounds_toArray, List.set_cons_zero, List.set_cons_succ]
        refine' take_d 14 (some 67) rfl rfl (by kernel_rfl) (by kernel_rfl) (by kernel_rfl) (fun _ _ _ h => h) (by rfl) s0 ?tk14 ?rs14
        case tk14 => intro V hV; obtain ⟨hc0, hc2, hc3⟩ := dO_cells hV; go_simp; (try with_reducible rfl)
        simp only [Act.put, List.setIfInBounds_toArray, List.set_cons_zero, List.set_cons_succ]
        refine wpAnyH_all (rs := [10]) (by kernel_rfl) (by simp) (fun i hi => ?_)
        obtain rfl : i = 10 := List.mem_singleton.1 hi
        clear hi
        refine op_call (some 63) rfl rfl (by rfl) (by go_simp; (try with_reducible rfl)) (R := fun u w' => u = .string ⟨S.out.toArray⟩ ∧ Bf W w' b d lv ov S Q) ((HR0.out.call (fun F hI => out_any hI)).mono (fun e w' h => ⟨_, h.1, rfl, h.2⟩)) ?_
        rintro u w1 ⟨rfl, h1⟩
        have s1 := h1.blk
        have H1 := hideT h1
        clear h1
        refine And.intro s1 ?_
        simp only [Act.put, List.setIfInBounds_toArray, List.set_cons_zero, List.set_cons_succ]
        refine' take_d 15 (some 68) rfl rfl (by kernel_rfl) (by kernel_rfl) (by kernel_rfl) (fun _ _ _ h => h) (by rfl) s1 ?tk15 ?rs15
        case tk15 => intro V hV; go_simp; (try with_reducible rfl)
        simp only [Act.put, List.setIfInBounds_toArray, List.set_cons_zero, List.set_cons_succ]
        refine' take_d 16 (some 69) rfl rfl (by kernel_rfl) (by kernel_rfl) (by kernel_rfl) (fun _ _ _ h => h) (wanted_none rfl _) s1 ?tk16 ?rs16
        case tk16 => intro V hV; go_simp; (try with_reducible rfl)
        simp only [Act.put, List.setIfInBounds_toArray, List.set_cons_zero, List.set_cons_succ]
        refine' take_d 17 (some 70) rfl rfl (by kernel_rfl) (by kernel_rfl) (by kernel_rfl) (fun _ _ _ h => h) (wanted_none rfl _) s1 ?tk17 ?rs17
        case tk17 => intro V hV; go_simp; (try with_reducible rfl)
        simp only [Act.put, List.setIfInBounds_toArray, List.set_cons_zero, List.set_cons_succ]
        refine' take_d 18 (some 71) rfl rfl (by kernel_rfl) (by kernel_rfl) (by kernel_rfl) (fun _ _ _ h => h) (by rfl) s1 ?tk18 ?rs18
        case tk18 => intro V hV; go_simp; (try with_reducible rfl)
        simp only [Act.put, List.setIfInBounds_toArray, List.set_cons_zero, List.set_cons_succ]
        refine' take_d 20 (some 73) rfl rfl (by kernel_rfl) (by kernel_rfl) (by kernel_rfl) (fun _ _ _ h => h) (by rfl) s1 ?tk19 ?rs19
        case tk19 => intro V hV; go_simp; (try with_reducible rfl)
        simp only [Act.put, List.setIfInBounds_toArray, List.set_cons_zero, List.set_cons_succ]
        refine' take_d 21 (some 74) rfl rfl (by kernel_rfl) (by kernel_rfl) (by kernel_rfl) (fun _ _ _ h => h) (by rfl) s1 ?tk20 ?rs20
        case tk20 => intro V hV; go_simp; (try with_reducible rfl)
        simp only [Act.put, List.setIfInBounds_toArray, List.set_cons_zero, List.set_cons_succ]
        refine' take_d 22 (some 75) rfl rfl (by kernel_rfl) (by kernel_rfl) (by kernel_rfl) (fun _ _ _ h => h) (by rfl) s1 ?tk21 ?rs21
        case tk21 => intro V hV; go_simp; (try with_reducible rfl)
        simp only [Act.put, List.setIfInBounds_toArray, List.set_cons_zero, List.set_cons_succ]
        refine' take_d 23 (some 76) rfl rfl (by kernel_rfl) (by kernel_rfl) (by kernel_rfl) (fun _ _ _ h => h) (by rfl) s1 ?tk22 ?rs22
        case tk22 => intro V hV; obtain ⟨hc0, hc2, hc3⟩ := dO_cells hV; go_simp; (try with_reducible rfl)
        simp only [Act.put, List.setIfInBounds_toArray, List.set_cons_zero, List.set_cons_succ]
        refine wpAnyH_all (rs := [19]) (by kernel_rfl) (by simp) (fun i hi => ?_)
        obtain rfl : i = 19 := List.mem_singleton.1 hi
        clear hi
        refine op_call (some 72) rfl rfl (by rfl) (by go_simp; (try with_reducible rfl)) (R := fun u w' => u = .int .i64 (S.wr : Nat) ∧ Bf W w' b d lv ov S Q) ((H1.out.call (fun F hI => written_pst hI)).mono (fun e w' h => ⟨_, h.1, rfl, h.2⟩)) ?_
        rintro u w2 ⟨rfl, h2⟩
        have s2 := h2.blk
        have H2 := hideT h2
        clear h2
        refine And.intro s2 ?_
        simp only [Act.put, List.setIfInBounds_toArray, List.set_cons_zero, List.set_cons_succ]
        refine' take_d 24 (some 77) rfl rfl (by kernel_rfl) (by kernel_rfl) (by kernel_rfl) (fun _ _ _ h => h) (by rfl) s2 ?tk23 ?rs23
        case tk23 => intro V hV; go_simp; (try with_reducible rfl)
        simp only [Act.put, List.setIfInBounds_toArray, List.set_cons_zero, List.set_cons_succ]
        refine' take_d 25 (some 78) rfl rfl (by kernel_rfl) (by kernel_rfl) (by kernel_rfl) (fun _ _ _ h => h) (wanted_none rfl _) s2 ?tk24 ?rs24
        case tk24 => intro V hV; go_simp; (try with_reducible rfl)
        simp only [Act.put, List.setIfInBounds_toArray, List.set_cons_zero, List.set_cons_succ]
        refine' take_d 26 (some 79) rfl rfl (by kernel_rfl) (by kernel_rfl) (by kernel_rfl) (fun _ _ _ h => h) (wanted_none rfl _) s2 ?tk25 ?rs25
        case tk25 => intro V hV; go_simp; (try with_reducible rfl)
        simp only [Act.put, List.setIfInBounds_toArray, List.set_cons_zero, List.set_cons_succ]
        refine' take_d 27 (some 80) rfl rfl (by kernel_rfl) (by kernel_rfl) (by kernel_rfl) (fun _ _ _ h => h) (by rfl) s2 ?tk26 ?rs26
        case tk26 => intro V hV; go_simp; (try with_reducible rfl)
        simp only [Act.put, List.setIfInBounds_toArray, List.set_cons_zero, List.set_cons_succ]
        refine' take_d 29 (some 82) rfl rfl (by kernel_rfl) (by kernel_rfl) (by kernel_rfl) (fun _ _ _ h => h) (by rfl) s2 ?tk27 ?rs27
        case tk27 => intro V hV; go_simp; (try with_reducible rfl)
        simp only [Act.put, List.setIfInBounds_toArray, List.set_cons_zero, List.set_cons_succ]
        refine' take_d 30 (some 83) rfl rfl (by kernel_rfl) (by kernel_rfl) (by kernel_rfl) (fun _ _ _ h => h) (by rfl) s2 ?tk28 ?rs28
        case tk28 => intro V hV; go_simp; (try with_reducible rfl)
        simp only [Act.put, List.setIfInBounds_toArray, List.set_cons_zero, List.set_cons_succ]
        refine' take_d 31 (some 84) rfl rfl (by kernel_rfl) (by kernel_rfl) (by kernel_rfl) (fun _ _ _ h => h) (by rfl) s2 ?tk29 ?rs29
        case tk29 => intro V hV; go_simp; (try with_reducible rfl)
        simp only [Act.put, List.setIfInBounds_toArray, List.set_cons_zero, List.set_cons_succ]
        refine' take_d 32 (some 85) rfl rfl (by kernel_rfl) (by kernel_rfl) (by kernel_rfl) (fun _ _ _ h => h) (by rfl) s2 ?tk30 ?rs30
        case tk30 => intro V hV; obtain ⟨hc0, hc2, hc3⟩ := dO_cells hV; go_simp; (try with_reducible rfl)
        simp only [Act.put, List.setIfInBounds_toArray, List.set_cons_zero, List.set_cons_succ]
        refine wpAnyH_all (rs := [28]) (by kernel_rfl) (by simp) (fun i hi => ?_)
        obtain rfl : i = 28 := List.mem_singleton.1 hi
        clear hi
        refine op_call (some 81) rfl rfl (by rfl) (by go_simp; (try with_reducible rfl)) (R := fun u w' => FRow w' u ((itF S.fs).map bFl) ∧ Bf W w' b d lv ov S Q) ((H2.out.files HO.out).mono (fun e w' h => by obtain ⟨v, rfl, h1, h2⟩ := h; exact ⟨_, rfl, h1, h2⟩)) ?_
        rintro fv w3 ⟨hf3, h3⟩
        have s3 := h3.blk
        have H3 := hideT h3
        have HF3 := hideT hf3
        clear h3 hf3
        refine And.intro s3 ?_
        simp only [Act.put, List.setIfInBounds_toArray, List.set_cons_zero, List.set_cons_succ]
        refine wpAnyH_all (rs := [33]) (by kernel_rfl) (by simp) (fun i hi => ?_)
        obtain rfl : i = 33 := List.mem_singleton.1 hi
        clear hi
        refine op_call (some 86) rfl rfl (by rfl) (by go_simp; (try with_reducible rfl)) (R := fun u w' => u = .bool true ∧ Bf W w' b d lv ov S Q) ((H3.out.same HO.out HF3.out).mono (fun e w' h => ⟨_, h.1, rfl, h.2⟩)) ?_
        rintro u w4 ⟨rfl, h4⟩
        have s4 := h4.blk
        have H4 := hideT h4
        clear h4
        refine And.intro s4 ?_
        simp only [Act.put, List.setIfInBounds_toArray, List.set_cons_zero, List.set_cons_succ]
        refine' take_d 34 (some 87) rfl rfl (by kernel_rfl) (by kernel_rfl) (by kernel_rfl) (fun _ _ _ h => h) (by rfl) s4 ?tk31 ?rs31
        case tk31 => intro V hV; go_simp; (try with_reducible rfl)
        simp only [Act.put, List.setIfInBounds_toArray, List.set_cons_zero, List.set_cons_succ]
        refine' take_d 35 (some 88) rfl rfl (by kernel_rfl) (by kernel_rfl) (by kernel_rfl) (fun _ _ _ h => h) (wanted_none rfl _) s4 ?tk32 ?rs32
        case tk32 => intro V hV; go_simp; (try with_reducible rfl)
        simp only [Act.put, List.setIfInBounds_toArray, List.set_cons_zero, List.set_cons_succ]
        refine wpAnyH_done (by kernel_rfl) ?_ _
        clear s4 s0 s1 s2 s3
        go_wp2
        exact ⟨⟨k + 1, S, by omega, by go_num, hideT ⟨HO.out, H4.out.bo.less (fun j hj => hj.elim)⟩⟩, by simp [intOf]; omega⟩
      · obtain rfl : k = l1.length := by omega
        have i1 : ((l1.length : Int) < (l1.length : Int)) = False := by rw [eq_iff_iff, iff_false]; omega
        have HO := hideT HI.out.1
        obtain ⟨lv, ov, hbf⟩ := HI.out.2.fix
        have HBF := hideT hbf
        obtain ⟨Q, hQ⟩ : ∃ Q : Nat → Prop, Q = fun _ => False := ⟨_, rfl⟩
        rw [← hQ] at HBF
        clear hbf hQ
        go_wp2_with fail
        have HR0 := hideT (HBF.out.step ((Below.refl _ wr).drew))
        have s0 := HR0.out.blk
        clear HBF
        refine wp_region_held (S := fun V => V.heap[d]? = some (dO lv ov S)) (by kernel_rfl) ?_
        refine' take_d 0 (some 90) rfl rfl (by kernel_rfl) (by kernel_rfl) (by kernel_rfl) (fun _ _ _ h => h) (wanted_none rfl _) s0 ?tk33 ?rs33
        case tk33 => intro V hV; go_simp; (try with_reducible rfl)
        simp only [Act.put, List.setIfInBounds_toArray, List.set_cons_zero, List.set_cons_succ]
        refine' take_d 2 (some 92) rfl rfl (by kernel_rfl) (by kernel_rfl) (by kernel_rfl) (fun _ _ _ h => h) (wanted_none rfl _) s0 ?tk34 ?rs34
        case tk34 => intro V hV; go_simp; (try with_reducible rfl)
        simp only [Act.put, List.setIfInBounds_toArray, List.set_cons_zero, List.set_cons_succ]
        refine' take_d 3 (some 93) rfl rfl (by kernel_rfl) (by kernel_rfl) (by kernel_rfl) (fun _ _ _ h => h) (wanted_none rfl _) s0 ?tk35 ?rs35
        case tk35 => intro V hV; go_simp; (try with_reducible rfl)
        simp only [Act.put, List.setIfInBounds_toArray, List.set_cons_zero, List.set_cons_succ]
        refine' take_d 4 (some 94) rfl rfl (by kernel_rfl) (by kernel_rfl) (by kernel_rfl) (fun _ _ _ h => h) (wanted_none rfl _) s0 ?tk36 ?rs36
        case tk36 => intro V hV; go_simp; (try with_reducible rfl)
        simp only [Act.put, List.setIfInBounds_toArray, List.set_cons_zero, List.set_cons_succ]
        refine' take_d 5 (some 95) rfl rfl (by kernel_rfl) (by kernel_rfl) (by kernel_rfl) (fun _ _ _ h => h) (wanted_none rfl _) s0 ?tk37 ?rs37
        case tk37 => intro V hV; obtain ⟨hc0, hc2, hc3⟩ := dO_cells hV; go_simp; (try with_reducible rfl)
        simp only [Act.put, List.setIfInBounds_toArray, List.set_cons_zero, List.set_cons_succ]
        refine wpAnyH_all (rs := [1]) (by kernel_rfl) (by simp) (fun i hi => ?_)
        obtain rfl : i = 1 := List.mem_singleton.1 hi
        clear hi
        refine op_call (some 91) rfl rfl (wanted_none rfl _) (by go_simp; (try with_reducible rfl)) (R := fun u w' => FRow w' u ((itF S.fs).map bFl) ∧ Bf W w' b d lv ov S Q) ((HR0.out.files HO.out).mono (fun e w' h => by obtain ⟨v, rfl, h1, h2⟩ := h; exact ⟨_, rfl, h1, h2⟩)) ?_
        rintro fv w3 ⟨hf3, h3⟩
        have s3 := h3.blk
        have H3 := hideT h3
        have HF3 := hideT hf3
        clear h3 hf3
        refine And.intro s3 ?_
        simp only [Act.put, List.setIfInBounds_toArray, List.set_cons_zero, List.set_cons_succ]
        refine wpAnyH_all (rs := [6]) (by kernel_rfl) (by simp) (fun i hi => ?_)
        obtain rfl : i = 6 := List.mem_singleton.1 hi
        clear hi
        refine op_call (some 96) rfl rfl (wanted_none rfl _) (by go_simp; (try with_reducible rfl)) (R := fun u w' => u = .bool true ∧ Bf W w' b d lv ov S Q) ((H3.out.same HO.out HF3.out).mono (fun e w' h => ⟨_, h.1, rfl, h.2⟩)) ?_
        rintro u w4 ⟨rfl, h4⟩
        have s4 := h4.blk
        have H4 := hideT h4
        clear h4
        refine And.intro s4 ?_
        simp only [Act.put, List.setIfInBounds_toArray, List.set_cons_zero, List.set_cons_succ]
        refine' take_d 7 (some 4) rfl rfl (by kernel_rfl) (by kernel_rfl) (by kernel_rfl) (fun _ _ _ h => h) (wanted_none rfl _) s4 ?tk38 ?rs38
        case tk38 => intro V hV; go_simp; (try with_reducible rfl)
        simp only [Act.put, List.setIfInBounds_toArray, List.set_cons_zero, List.set_cons_succ]
        refine wpAnyH_done (by kernel_rfl) ?_ _
        clear s4 s0 s3
        go_wp2
        go_ret
        exact ⟨rfl, H4.out.fr.bel⟩
end Go.Proofs.Ytbibfpgcnmocjaa
