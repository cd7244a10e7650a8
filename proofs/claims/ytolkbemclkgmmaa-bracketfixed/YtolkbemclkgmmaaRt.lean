/- The document's Text. -/
import Derived.Test.YtolkbemclkgmmaaRtM
namespace Go.Proofs.Ytolkbemclkgmmaa
open Go.RowKit

theorem cellL {W : World} {base gl cl n k b : Nat} {tv : Value} {T L : List Nat} (h : brows.Rows W base [(tv, T), (.slice (some ⟨gl, 0, none⟩) n cl, L)]) (hk : L[k]? = some b) : W.cell? ⟨gl, k, none⟩ = some (.int .u8 (b : Nat)) := by
  have h1 := h.1 (.slice (some ⟨gl, 0, none⟩) n cl, L) (by simp)
  have h2 := h1.cells (g := gl) rfl k (.int .u8 (b : Nat)) (by simp [byteVals, hk])
  have hadd : (⟨gl, 0, none⟩ : Addr).add k = ⟨gl, k, none⟩ := by unfold Addr.add; split <;> simp_all
  rwa [hadd] at h2

theorem below_grown {W w1 : World} {base g : Nat} {tmp : Obj} (hg : (W.alloc tmp).grownBy w1 (some g)) (hb : base ≤ g) (hW : base ≤ W.heap.size) : Below base W w1 :=
  ⟨hg.os, hg.tape, hg.output, by have := hg.size; simp at this; omega, fun k hk => by
    rw [hg.block k (by simp; omega) (by simp; omega)]
    exact Below.heap_alloc W _ k (by omega)⟩

/-- The list that is written grows. -/
theorem rows_app {W w1 : World} {tmp : Obj} {base gt ct gt' ct' m m' gl n cl : Nat} {T L l : List Nat} (hm : T.length = m) (h : brows.Rows W base [(.slice (some ⟨gt, 0, none⟩) m ct, T), (.slice (some ⟨gl, 0, none⟩) n cl, L)])
    (hown : w1.ownsRow base 5 1 (.slice (some ⟨gt', 0, none⟩) m' ct') m' (byteVals T ++ byteVals l)) (hm' : m' = m + l.length) (hg : (W.alloc tmp).grownBy w1 (some gt))
    (hat : (Value.slice (some ⟨gt', 0, none⟩) m' ct').ownBlock = (Value.slice (some ⟨gt, 0, none⟩) m ct).ownBlock ∨ (Value.slice (some ⟨gt', 0, none⟩) m' ct').ownBlock = some (W.alloc tmp).heap.size) :
    brows.Rows w1 base [(.slice (some ⟨gt', 0, none⟩) m' ct', T ++ l), (.slice (some ⟨gl, 0, none⟩) n cl, L)] := by
  subst hm
  have el : (T ++ l).length = m' := by rw [List.length_append, hm']
  refine brows.Rows.grown (h.alloc tmp) ?_ hg hat
  rw [el]
  have e : byteVals (T ++ l) = byteVals T ++ byteVals l := by simp [byteVals]
  rw [e]
  exact hown

theorem below_grown0 {W w1 : World} {base g : Nat} (hg : W.grownBy w1 (some g)) (hb : base ≤ g) (hW : base ≤ W.heap.size) : Below base W w1 :=
  ⟨hg.os, hg.tape, hg.output, hg.size, fun k hk => hg.block k (by omega) (by simp; omega)⟩

theorem rows_app0 {W w1 : World} {base gt ct gt' ct' m m' gl n cl : Nat} {T L l : List Nat} (hm : T.length = m) (h : brows.Rows W base [(.slice (some ⟨gt, 0, none⟩) m ct, T), (.slice (some ⟨gl, 0, none⟩) n cl, L)])
    (hown : w1.ownsRow base 5 1 (.slice (some ⟨gt', 0, none⟩) m' ct') m' (byteVals T ++ byteVals l)) (hm' : m' = m + l.length) (hg : W.grownBy w1 (some gt))
    (hat : (Value.slice (some ⟨gt', 0, none⟩) m' ct').ownBlock = (Value.slice (some ⟨gt, 0, none⟩) m ct).ownBlock ∨ (Value.slice (some ⟨gt', 0, none⟩) m' ct').ownBlock = some W.heap.size) :
    brows.Rows w1 base [(.slice (some ⟨gt', 0, none⟩) m' ct', T ++ l), (.slice (some ⟨gl, 0, none⟩) n cl, L)] := by
  subst hm
  have el : (T ++ l).length = m' := by rw [List.length_append, hm']
  refine brows.Rows.grown h ?_ hg hat
  rw [el]
  have e : byteVals (T ++ l) = byteVals T ++ byteVals l := by simp [byteVals]
  rw [e]
  exact hown

set_option maxRecDepth 100000 in
set_option maxHeartbeats 2000000 in
theorem refText_some (p : Nat → Bool) (hp : eqB p noneP = false) (w : World) :
    Calls Try.prog 13 #[.agg #[.int .u64 (wd p 0 : Nat), .int .u64 (wd p 1 : Nat), .int .u64 (wd p 2 : Nat), .int .u64 (wd p 3 : Nat)]] w fun e w' => e = .returned (.string (bstr (flush (textSt (mem p 256)) ++ [93]))) ∧ Below w.heap.size w w' := by
  obtain ⟨i0, hi, hz0, hz1, hz2⟩ := info_parts info5
  have hne := mem_some hp
  have hml := mem_le p 256
  have hby := mem_bytes p 256
  go_enter Try.func13, Try.ntmps13
  go_wp2_with fail
  refine (refMembers_any p _).mono ?_
  rintro e w1 ⟨lv, rfl, hrow, hb1⟩
  have hcard : card p = (mem p 256).length := by have := hrow.1; simp [byteVals] at this; omega
  rw [hcard] at hrow
  clear hcard
  generalize hL : mem p 256 = L at *
  have HL := brows.hide2 hL
  clear hL
  have hn0 : 0 < L.length := List.length_pos_iff.2 hne
  obtain ⟨n, hn⟩ : ∃ n, L.length = n := ⟨_, rfl⟩
  obtain ⟨gl, cl, rfl⟩ : ∃ g c, lv = .slice (some ⟨g, 0, none⟩) n c := by
    rcases hrow.2 with ⟨rfl, h0⟩ | ⟨g, cap, cur, rfl, _⟩
    · omega
    · exact ⟨g, cap, by rw [hn]⟩
  have hnb : ((n : Int) == 0) = false := by rw [beq_eq_false_iff_ne]; omega
  rw [hn] at hn0 hml
  have hbw : Below w.heap.size w w1 := ((Below.refl _ w).alloc (Nat.le_refl _) _).trans (hb1.mono (by simp))
  have hrow' := brows.owns_mono hrow (base' := w.heap.size) (by simp)
  have hR0 : brows.Rows (w1.alloc (.cells #[.int .u8 91] 5)) w.heap.size [(.slice (some ⟨w1.heap.size, 0, none⟩) 1 1, [91]), (.slice (some ⟨gl, 0, none⟩) n cl, L)] := by
    have h0 : brows.Rows w1 w.heap.size [(.slice (some ⟨gl, 0, none⟩) n cl, L)] := ⟨fun r hr => by rw [List.mem_singleton] at hr; subst hr; exact hrow', by simp⟩
    refine brows.Rows.add h0 ((Below.refl _ _).alloc (Nat.le_refl _) _) hbw.size ⟨rfl, .inr ⟨w1.heap.size, 1, #[.int .u8 91], rfl, Nat.le_refl _, World.alloc_heap_new w1 _, Nat.le_refl _, by unfold maxLen; omega, rfl, rfl⟩⟩
  have hb0 : Below w.heap.size w (w1.alloc (.cells #[.int .u8 91] 5)) := hbw.alloc hbw.size _
  have HN := brows.hide2 hn
  clear hrow hrow' hb1 hn hne
  go_wp2_with fail
  generalize w1.alloc (.cells #[.int .u8 91] 5) = W1 at *
  go_loopw [4, 5] (fun t i wr => ∃ (k gt ct m : Nat) (T : List Nat), k ≤ n ∧ i = .int .i64 k ∧ t = .slice (some ⟨gt, 0, none⟩) m ct ∧ T.length = m ∧ 1 ≤ m ∧ m ≤ 1 + 5 * k ∧ Hid (T = flush (textSt (L.take k))) ∧ Hid (Bd L k) ∧ Hid (brows.Rows wr w.heap.size [(.slice (some ⟨gt, 0, none⟩) m ct, T), (.slice (some ⟨gl, 0, none⟩) n cl, L)]) ∧ Below w.heap.size w wr) (fun _ i _ => (n - intOf i).toNat)
  case atStart => exact ⟨0, _, _, 1, [91], by omega, rfl, rfl, rfl, by omega, by omega, brows.hide2 (by simp [textSt, flush]), brows.hide2 (bd_zero L), brows.hide2 hR0, hb0⟩
  case round =>
    obtain ⟨k, gt, ct, m, T, hk, rfl, rfl, hTm, hm1, hm5, HT, HB, HR, hB⟩ := hrel
    have HTm := brows.hide2 hTm
    clear hTm
    by_cases hlt : k < n
    · obtain ⟨b, hb⟩ : ∃ b, L[k]? = some b := ⟨_, List.getElem?_eq_getElem (by rw [HN.out]; exact hlt)⟩
      have hb256 : b < 256 := hby b (List.mem_of_getElem? hb)
      have hck := cellL HR.out hb
      have Hb := brows.hide2 hb
      clear hb
      have k1 : (0 : Int) ≤ (k : Int) := by omega
      have k2 : (k : Int) < (n : Int) := by omega
      have e1 := HR.out.head
      rw [HTm.out] at e1
      have hsz := hB.size
      have hspc := special_any b wr
      have hbase := (brows.row_base e1).1
      cases hs : spec4 b
      · rw [hs] at hspc
        have HRun := brows.hide2 (run_one L k b Hb.out hs)
        go_wp2_with (go_at_call 26; refine hspc.mono ?_; rintro e w' ⟨rfl, rfl⟩)
        go_loopw [6] (fun j wq => ∃ q : Nat, k < q ∧ q ≤ n ∧ j = .int .i64 q ∧ Hid (Run L k q) ∧ Hid (brows.Rows wq w.heap.size [(.slice (some ⟨gt, 0, none⟩) m ct, T), (.slice (some ⟨gl, 0, none⟩) n cl, L)]) ∧ Below w.heap.size w wq) (fun j _ => (n - intOf j).toNat)
        case atStart => exact ⟨k + 1, by omega, by omega, by go_num, HRun, HR, hB⟩
        case round =>
          clear hck hspc HRun HR
          obtain ⟨q, hkq, hqn, rfl, HRun, HR, hBq⟩ := hrel
          obtain ⟨y, hy⟩ : ∃ y, L[q - 1]? = some y := ⟨_, List.getElem?_eq_getElem (by rw [HN.out]; omega)⟩
          have hy256 : y < 256 := hby y (List.mem_of_getElem? hy)
          have hcy := cellL HR.out hy
          obtain ⟨j, hj⟩ : ∃ j, q - 1 = j := ⟨_, rfl⟩
          rw [hj] at hcy
          have q3 : (0 : Int) ≤ (j : Int) := by omega
          have q4 : (j : Int) < (n : Int) := by omega
          have q5 : IntKind.i64.wrap ((q : Int) - 1) = (j : Int) := by rw [IntKind.wrap_i64]; omega
          have Hj := brows.hide2 hj
          clear hj
          have Hy := brows.hide2 hy
          clear hy
          by_cases hqlt : q < n
          · obtain ⟨c, hc⟩ : ∃ c, L[q]? = some c := ⟨_, List.getElem?_eq_getElem (by rw [HN.out]; exact hqlt)⟩
            have hc256 : c < 256 := hby c (List.mem_of_getElem? hc)
            have hcc := cellL HR.out hc
            have Hc := brows.hide2 hc
            clear hc
            have q1 : (0 : Int) ≤ (q : Int) := by omega
            have q2 : (q : Int) < (n : Int) := by omega
            have q6 : IntKind.i64.wrap ((y : Int) + 1) = (y : Int) + 1 := by rw [IntKind.wrap_i64]; omega
            have q7 : IntKind.i64.wrap (c : Int) = (c : Int) := by rw [IntKind.wrap_i64]; omega
            have q8 : IntKind.i64.wrap (y : Int) = (y : Int) := by rw [IntKind.wrap_i64]; omega
            have hq := fun W => special_any c W
            cases hs2 : spec4 c
            · rw [hs2] at hq
              by_cases hyc : y + 1 = c
              · have q9 : ((c : Int) == (y : Int) + 1) = true := by rw [beq_iff_eq]; omega
                have HRun2 := brows.hide2 (run_more L k q y c HRun.out Hc.out Hy.out hs2 hyc)
                clear hyc
                go_wp2_with fail
                go_quiet ((go_at_call 26; exact Calls.quiet_of_same (hq _)))
                go_wp2
                exact ⟨⟨q + 1, by omega, by omega, by go_num, HRun2, HR, hBq.trans ⟨rfl, rfl, rfl, Nat.le_refl _, fun _ _ => rfl⟩⟩, by simp [intOf]; omega⟩
              · have q9 : ((c : Int) == (y : Int) + 1) = false := by rw [beq_eq_false_iff_ne]; omega
                have HE : Hid (∀ b, L[q]? = some b → spec4 b = true ∨ ∀ a, L[q - 1]? = some a → ¬ a + 1 = b) := brows.hide2 (fun b' hb' => by rw [Hc.out] at hb'; cases hb'; refine .inr fun a ha => ?_; rw [Hy.out] at ha; cases ha; exact hyc)
                clear hyc
                go_wp2_with fail
                go_quiet ((go_at_call 26; exact Calls.quiet_of_same (hq _)))
                have HRz : Hid (brows.Rows (wr.drewN nq) w.heap.size [(.slice (some ⟨gt, 0, none⟩) m ct, T), (.slice (some ⟨gl, 0, none⟩) n cl, L)]) := HR
                have hBz : Below w.heap.size w (wr.drewN nq) := hBq.trans ⟨rfl, rfl, rfl, Nat.le_refl _, fun _ _ => rfl⟩
                clear HR hBq
                generalize wr.drewN nq = wz at *
                have HFl := brows.hide2 (run_flush L k q b y HB.out HRun.out Hb.out Hy.out)
                have HBd := brows.hide2 (run_bd L k q HB.out HRun.out HE.out)
                have e2 := HRz.out.head
                rw [HTm.out] at e2
                have hszz := hBz.size
                have hlr := HRz.out.1 (.slice (some ⟨gl, 0, none⟩) n cl, L) (by simp)
                have hcl : n ≤ cl := by
                  rcases hlr.2 with ⟨h', _⟩ | ⟨g', cap', cur, h', _, _, hn', _⟩
                  · simp at h'
                  · simp only [Value.slice.injEq] at h'
                    obtain ⟨-, h2, h3⟩ := h'
                    have := HN.out
                    simp only [] at hn'
                    omega
                have hne2 : some gl ≠ (Value.slice (some ⟨gt, 0, none⟩) m ct).ownBlock := brows.apart_head HRz.out
                by_cases h3 : q - k < 3
                · have t1 : ¬ (3 : Int) ≤ (q : Int) - (k : Int) := by omega
                  have t2 : IntKind.i64.wrap ((q : Int) - (k : Int)) = (q : Int) - (k : Int) := by rw [IntKind.wrap_i64]; omega
                  have t3 : (k : Int) ≤ (q : Int) := by omega
                  have t4 : (q : Int) ≤ (cl : Int) := by omega
                  have t5 : ¬ cl = k := by omega
                  have t6 : (0 : Int) ≤ (q : Int) := by omega
                  have HNEW : Hid (∀ (j : Nat) u, (byteVals ((L.drop k).take (q - k)))[j]? = some u → wz.cell? ((⟨gl, k, none⟩ : Addr).add j) = some u) := brows.hide2 (fun j u hu => by
                    simp only [byteVals, List.getElem?_map] at hu
                    cases hx : ((L.drop k).take (q - k))[j]? with
                    | none => rw [hx] at hu; cases hu
                    | some x =>
                      rw [hx] at hu
                      have hlt2 : j < q - k := by
                        by_cases h : j < q - k
                        · exact h
                        · rw [List.getElem?_take, if_neg h] at hx; cases hx
                      rw [List.getElem?_take, if_pos hlt2, List.getElem?_drop] at hx
                      have := cellL HRz.out hx
                      have hadd : (⟨gl, k, none⟩ : Addr).add j = ⟨gl, k + j, none⟩ := by unfold Addr.add; split <;> simp_all
                      rw [hadd, this]
                      simpa using hu)
                  go_wp2_with (at_builtin; refine wpList_append_own_at _ rfl _ _ 47 rfl w.heap.size 5 i0 (.int .u8 0) 1 1 Try.underlying47 hi hz0 hz1 hz2 rfl (by decide) _ _ _ rfl e2 ⟨gl, k, none⟩ (q - k) (cl - k) (byteVals ((L.drop k).take (q - k))) rfl (by simp [byteVals, HN.out]; omega) HNEW.out (by intro u hu; simp only [byteVals, List.mem_map] at hu; obtain ⟨z, -, rfl⟩ := hu; rfl) (by unfold maxLen; omega) (by omega) hszz ?_; intro vo w2 hown hg _ hat; obtain ⟨gt2, ct2, rfl⟩ : ∃ g c, vo = .slice (some ⟨g, 0, none⟩) (m + (q - k)) c := (by obtain ⟨z, hz⟩ : ∃ z, m + (q - k) = z + 1 := ⟨m + (q - k) - 1, by omega⟩; rw [hz] at hown ⊢; exact ownsRow_succ hown); have hg2 : wz.grownBy w2 (some gt) := hg; have HR2 := brows.hide2 (rows_app0 (l := (L.drop k).take (q - k)) HTm.out HRz.out hown (by simp [HN.out]; omega) hg2 hat); have hb2 := below_grown0 hg2 hbase hszz; clear hown hg hg2 hat)
                  refine ⟨⟨q, gt2, ct2, m + (q - k), T ++ (L.drop k).take (q - k), by omega, rfl, rfl, by rw [List.length_append, HTm.out]; simp [HN.out]; omega, by omega, by omega, brows.hide2 ?_, HBd, HR2, hBz.trans hb2⟩, by simp [intOf]; omega⟩
                  rw [HFl.out, if_pos h3, HT.out]
                · have t1 : (3 : Int) ≤ (q : Int) - (k : Int) := by omega
                  have t2 : IntKind.i64.wrap ((q : Int) - (k : Int)) = (q : Int) - (k : Int) := by rw [IntKind.wrap_i64]; omega
                  have hck2 := cellL HRz.out Hb.out
                  have hcy2 := cellL (k := j) HRz.out (by rw [← Hj.out]; exact Hy.out)
                  have lgl := World.block_lt_of_cell? wz _ hck2
                  go_wp2_with fail
                  have hS : wz.drew.cell? ⟨gl, k, none⟩ = some (.int .u8 (b : Nat)) ∧ wz.drew.cell? ⟨gl, j, none⟩ = some (.int .u8 (y : Nat)) := ⟨hck2, hcy2⟩
                  have hS2 : ∀ ob, (wz.alloc ob).drew.cell? ⟨gl, k, none⟩ = some (.int .u8 (b : Nat)) ∧ (wz.alloc ob).drew.cell? ⟨gl, j, none⟩ = some (.int .u8 (y : Nat)) := fun ob => ⟨(World.cell?_of_block (a := ⟨gl, k, none⟩) (Below.heap_alloc wz ob gl lgl)).trans hck2, (World.cell?_of_block (a := ⟨gl, j, none⟩) (Below.heap_alloc wz ob gl lgl)).trans hcy2⟩
                  have hS3 : ∀ ob w2, (wz.alloc ob).drew.grownBy w2 (some gt) → w2.cell? ⟨gl, k, none⟩ = some (.int .u8 (b : Nat)) ∧ w2.cell? ⟨gl, j, none⟩ = some (.int .u8 (y : Nat)) := fun ob w2 h => ⟨((brows.grown_drawn h).cell_far ⟨gl, k, none⟩ lgl hne2).trans hck2, ((brows.grown_drawn h).cell_far ⟨gl, j, none⟩ lgl hne2).trans hcy2⟩
                  go_region_held3 (fun W' => W'.cell? ⟨gl, k, none⟩ = some (.int .u8 (b : Nat)) ∧ W'.cell? ⟨gl, j, none⟩ = some (.int .u8 (y : Nat))) (first | with_reducible exact hS | with_reducible exact hS2 _ | with_reducible exact hS3 _ _ (by assumption)) ((refine step_append_lies _ (by rfl) _ _ _ (by rfl) w.heap.size 5 i0 (.int .u8 0) 1 1 Try.underlying47 hi hz0 hz1 hz2 rfl (by omega) _ _ _ (by rfl) ((e2.alloc _).drew) ⟨wz.heap.size, 0, none⟩ 3 3 [.int .u8 (b : Nat), .int .u8 45, .int .u8 (y : Nat)] (by rfl) (by rfl) (World.news_of_block (cs := #[.int .u8 (b : Nat), .int .u8 45, .int .u8 (y : Nat)]) (t := 5) (fr := (0, 0)) (heap_alloc_new wz _)) (by simp [Value.oneCell']) (by omega) (by unfold maxLen; omega) (by omega) (by simp; omega) (wz.heap.size + 1) (by simp) ?_; intro gt2 ct2 w2 hown1 hgrow hat hlt3; have hgr2 : (wz.alloc (.cells #[.int .u8 (b : Nat), .int .u8 45, .int .u8 (y : Nat)] 5)).drew.grownBy w2 (some gt) := hgrow))
                  clear hS hS2 hS3
                  have hgr3 : (wz.alloc (.cells #[.int .u8 (b : Nat), .int .u8 45, .int .u8 (y : Nat)] 5)).grownBy w2 (some gt) := ⟨hgr2.os, hgr2.tape, hgr2.output, hgr2.size, hgr2.block⟩
                  have hat2 : (Value.slice (some ⟨gt2, 0, none⟩) (m + 3) ct2).ownBlock = (Value.slice (some ⟨gt, 0, none⟩) m ct).ownBlock ∨ (Value.slice (some ⟨gt2, 0, none⟩) (m + 3) ct2).ownBlock = some (wz.alloc (.cells #[.int .u8 (b : Nat), .int .u8 45, .int .u8 (y : Nat)] 5)).heap.size := by
                    rcases hat with h | h
                    · exact .inl h.symm
                    · refine .inr ?_
                      rw [World.size_alloc, ← h]; rfl
                  have HR2 := brows.hide2 (rows_app (l := [b, 45, y]) HTm.out HRz.out hown1 rfl hgr3 hat2)
                  have hb2 := below_grown hgr3 hbase hszz
                  clear hown1 hgrow hgr2 hgr3 hat hat2 hlt3
                  go_wp2
                  refine ⟨⟨q, gt2, ct2, m + 3, T ++ [b, 45, y], by omega, rfl, rfl, by rw [List.length_append, HTm.out]; rfl, by omega, by omega, brows.hide2 ?_, HBd, HR2, hBz.trans hb2⟩, by simp [intOf]; omega⟩
                  rw [HFl.out, if_neg h3, HT.out]
            · rw [hs2] at hq
              have HE : Hid (∀ b, L[q]? = some b → spec4 b = true ∨ ∀ a, L[q - 1]? = some a → ¬ a + 1 = b) := brows.hide2 (fun b' hb' => by rw [Hc.out] at hb'; cases hb'; exact .inl hs2)
              go_wp2_with fail
              go_quiet ((go_at_call 26; exact Calls.quiet_of_same (hq _)))
              have HRz : Hid (brows.Rows (wr.drewN nq) w.heap.size [(.slice (some ⟨gt, 0, none⟩) m ct, T), (.slice (some ⟨gl, 0, none⟩) n cl, L)]) := HR
              have hBz : Below w.heap.size w (wr.drewN nq) := hBq.trans ⟨rfl, rfl, rfl, Nat.le_refl _, fun _ _ => rfl⟩
              clear HR hBq
              generalize wr.drewN nq = wz at *
              have HFl := brows.hide2 (run_flush L k q b y HB.out HRun.out Hb.out Hy.out)
              have HBd := brows.hide2 (run_bd L k q HB.out HRun.out HE.out)
              have e2 := HRz.out.head
              rw [HTm.out] at e2
              have hszz := hBz.size
              have hlr := HRz.out.1 (.slice (some ⟨gl, 0, none⟩) n cl, L) (by simp)
              have hcl : n ≤ cl := by
                rcases hlr.2 with ⟨h', _⟩ | ⟨g', cap', cur, h', _, _, hn', _⟩
                · simp at h'
                · simp only [Value.slice.injEq] at h'
                  obtain ⟨-, h2, h3⟩ := h'
                  have := HN.out
                  simp only [] at hn'
                  omega
              have hne2 : some gl ≠ (Value.slice (some ⟨gt, 0, none⟩) m ct).ownBlock := brows.apart_head HRz.out
              by_cases h3 : q - k < 3
              · have t1 : ¬ (3 : Int) ≤ (q : Int) - (k : Int) := by omega
                have t2 : IntKind.i64.wrap ((q : Int) - (k : Int)) = (q : Int) - (k : Int) := by rw [IntKind.wrap_i64]; omega
                have t3 : (k : Int) ≤ (q : Int) := by omega
                have t4 : (q : Int) ≤ (cl : Int) := by omega
                have t5 : ¬ cl = k := by omega
                have t6 : (0 : Int) ≤ (q : Int) := by omega
                have HNEW : Hid (∀ (j : Nat) u, (byteVals ((L.drop k).take (q - k)))[j]? = some u → wz.cell? ((⟨gl, k, none⟩ : Addr).add j) = some u) := brows.hide2 (fun j u hu => by
                  simp only [byteVals, List.getElem?_map] at hu
                  cases hx : ((L.drop k).take (q - k))[j]? with
                  | none => rw [hx] at hu; cases hu
                  | some x =>
                    rw [hx] at hu
                    have hlt2 : j < q - k := by
                      by_cases h : j < q - k
                      · exact h
                      · rw [List.getElem?_take, if_neg h] at hx; cases hx
                    rw [List.getElem?_take, if_pos hlt2, List.getElem?_drop] at hx
                    have := cellL HRz.out hx
                    have hadd : (⟨gl, k, none⟩ : Addr).add j = ⟨gl, k + j, none⟩ := by unfold Addr.add; split <;> simp_all
                    rw [hadd, this]
                    simpa using hu)
                go_wp2_with (at_builtin; refine wpList_append_own_at _ rfl _ _ 47 rfl w.heap.size 5 i0 (.int .u8 0) 1 1 Try.underlying47 hi hz0 hz1 hz2 rfl (by decide) _ _ _ rfl e2 ⟨gl, k, none⟩ (q - k) (cl - k) (byteVals ((L.drop k).take (q - k))) rfl (by simp [byteVals, HN.out]; omega) HNEW.out (by intro u hu; simp only [byteVals, List.mem_map] at hu; obtain ⟨z, -, rfl⟩ := hu; rfl) (by unfold maxLen; omega) (by omega) hszz ?_; intro vo w2 hown hg _ hat; obtain ⟨gt2, ct2, rfl⟩ : ∃ g c, vo = .slice (some ⟨g, 0, none⟩) (m + (q - k)) c := (by obtain ⟨z, hz⟩ : ∃ z, m + (q - k) = z + 1 := ⟨m + (q - k) - 1, by omega⟩; rw [hz] at hown ⊢; exact ownsRow_succ hown); have hg2 : wz.grownBy w2 (some gt) := hg; have HR2 := brows.hide2 (rows_app0 (l := (L.drop k).take (q - k)) HTm.out HRz.out hown (by simp [HN.out]; omega) hg2 hat); have hb2 := below_grown0 hg2 hbase hszz; clear hown hg hg2 hat)
                refine ⟨⟨q, gt2, ct2, m + (q - k), T ++ (L.drop k).take (q - k), by omega, rfl, rfl, by rw [List.length_append, HTm.out]; simp [HN.out]; omega, by omega, by omega, brows.hide2 ?_, HBd, HR2, hBz.trans hb2⟩, by simp [intOf]; omega⟩
                rw [HFl.out, if_pos h3, HT.out]
              · have t1 : (3 : Int) ≤ (q : Int) - (k : Int) := by omega
                have t2 : IntKind.i64.wrap ((q : Int) - (k : Int)) = (q : Int) - (k : Int) := by rw [IntKind.wrap_i64]; omega
                have hck2 := cellL HRz.out Hb.out
                have hcy2 := cellL (k := j) HRz.out (by rw [← Hj.out]; exact Hy.out)
                have lgl := World.block_lt_of_cell? wz _ hck2
                go_wp2_with fail
                have hS : wz.drew.cell? ⟨gl, k, none⟩ = some (.int .u8 (b : Nat)) ∧ wz.drew.cell? ⟨gl, j, none⟩ = some (.int .u8 (y : Nat)) := ⟨hck2, hcy2⟩
                have hS2 : ∀ ob, (wz.alloc ob).drew.cell? ⟨gl, k, none⟩ = some (.int .u8 (b : Nat)) ∧ (wz.alloc ob).drew.cell? ⟨gl, j, none⟩ = some (.int .u8 (y : Nat)) := fun ob => ⟨(World.cell?_of_block (a := ⟨gl, k, none⟩) (Below.heap_alloc wz ob gl lgl)).trans hck2, (World.cell?_of_block (a := ⟨gl, j, none⟩) (Below.heap_alloc wz ob gl lgl)).trans hcy2⟩
                have hS3 : ∀ ob w2, (wz.alloc ob).drew.grownBy w2 (some gt) → w2.cell? ⟨gl, k, none⟩ = some (.int .u8 (b : Nat)) ∧ w2.cell? ⟨gl, j, none⟩ = some (.int .u8 (y : Nat)) := fun ob w2 h => ⟨((brows.grown_drawn h).cell_far ⟨gl, k, none⟩ lgl hne2).trans hck2, ((brows.grown_drawn h).cell_far ⟨gl, j, none⟩ lgl hne2).trans hcy2⟩
                go_region_held3 (fun W' => W'.cell? ⟨gl, k, none⟩ = some (.int .u8 (b : Nat)) ∧ W'.cell? ⟨gl, j, none⟩ = some (.int .u8 (y : Nat))) (first | with_reducible exact hS | with_reducible exact hS2 _ | with_reducible exact hS3 _ _ (by assumption)) ((refine step_append_lies _ (by rfl) _ _ _ (by rfl) w.heap.size 5 i0 (.int .u8 0) 1 1 Try.underlying47 hi hz0 hz1 hz2 rfl (by omega) _ _ _ (by rfl) ((e2.alloc _).drew) ⟨wz.heap.size, 0, none⟩ 3 3 [.int .u8 (b : Nat), .int .u8 45, .int .u8 (y : Nat)] (by rfl) (by rfl) (World.news_of_block (cs := #[.int .u8 (b : Nat), .int .u8 45, .int .u8 (y : Nat)]) (t := 5) (fr := (0, 0)) (heap_alloc_new wz _)) (by simp [Value.oneCell']) (by omega) (by unfold maxLen; omega) (by omega) (by simp; omega) (wz.heap.size + 1) (by simp) ?_; intro gt2 ct2 w2 hown1 hgrow hat hlt3; have hgr2 : (wz.alloc (.cells #[.int .u8 (b : Nat), .int .u8 45, .int .u8 (y : Nat)] 5)).drew.grownBy w2 (some gt) := hgrow))
                clear hS hS2 hS3
                have hgr3 : (wz.alloc (.cells #[.int .u8 (b : Nat), .int .u8 45, .int .u8 (y : Nat)] 5)).grownBy w2 (some gt) := ⟨hgr2.os, hgr2.tape, hgr2.output, hgr2.size, hgr2.block⟩
                have hat2 : (Value.slice (some ⟨gt2, 0, none⟩) (m + 3) ct2).ownBlock = (Value.slice (some ⟨gt, 0, none⟩) m ct).ownBlock ∨ (Value.slice (some ⟨gt2, 0, none⟩) (m + 3) ct2).ownBlock = some (wz.alloc (.cells #[.int .u8 (b : Nat), .int .u8 45, .int .u8 (y : Nat)] 5)).heap.size := by
                  rcases hat with h | h
                  · exact .inl h.symm
                  · refine .inr ?_
                    rw [World.size_alloc, ← h]; rfl
                have HR2 := brows.hide2 (rows_app (l := [b, 45, y]) HTm.out HRz.out hown1 rfl hgr3 hat2)
                have hb2 := below_grown hgr3 hbase hszz
                clear hown1 hgrow hgr2 hgr3 hat hat2 hlt3
                go_wp2
                refine ⟨⟨q, gt2, ct2, m + 3, T ++ [b, 45, y], by omega, rfl, rfl, by rw [List.length_append, HTm.out]; rfl, by omega, by omega, brows.hide2 ?_, HBd, HR2, hBz.trans hb2⟩, by simp [intOf]; omega⟩
                rw [HFl.out, if_neg h3, HT.out]
          · have q9 : ¬ (q : Int) < (n : Int) := by omega
            have HE : Hid (∀ b, L[q]? = some b → spec4 b = true ∨ ∀ a, L[q - 1]? = some a → ¬ a + 1 = b) := brows.hide2 (fun b' hb' => by have := (List.getElem?_eq_some_iff.1 hb').1; rw [HN.out] at this; exact absurd this hqlt)
            go_wp2_with fail
            go_quiet (fail)
            have HRz : Hid (brows.Rows (wr.drewN nq) w.heap.size [(.slice (some ⟨gt, 0, none⟩) m ct, T), (.slice (some ⟨gl, 0, none⟩) n cl, L)]) := HR
            have hBz : Below w.heap.size w (wr.drewN nq) := hBq.trans ⟨rfl, rfl, rfl, Nat.le_refl _, fun _ _ => rfl⟩
            clear HR hBq
            generalize wr.drewN nq = wz at *
            have HFl := brows.hide2 (run_flush L k q b y HB.out HRun.out Hb.out Hy.out)
            have HBd := brows.hide2 (run_bd L k q HB.out HRun.out HE.out)
            have e2 := HRz.out.head
            rw [HTm.out] at e2
            have hszz := hBz.size
            have hlr := HRz.out.1 (.slice (some ⟨gl, 0, none⟩) n cl, L) (by simp)
            have hcl : n ≤ cl := by
              rcases hlr.2 with ⟨h', _⟩ | ⟨g', cap', cur, h', _, _, hn', _⟩
              · simp at h'
              · simp only [Value.slice.injEq] at h'
                obtain ⟨-, h2, h3⟩ := h'
                have := HN.out
                simp only [] at hn'
                omega
            have hne2 : some gl ≠ (Value.slice (some ⟨gt, 0, none⟩) m ct).ownBlock := brows.apart_head HRz.out
            by_cases h3 : q - k < 3
            · have t1 : ¬ (3 : Int) ≤ (q : Int) - (k : Int) := by omega
              have t2 : IntKind.i64.wrap ((q : Int) - (k : Int)) = (q : Int) - (k : Int) := by rw [IntKind.wrap_i64]; omega
              have t3 : (k : Int) ≤ (q : Int) := by omega
              have t4 : (q : Int) ≤ (cl : Int) := by omega
              have t5 : ¬ cl = k := by omega
              have t6 : (0 : Int) ≤ (q : Int) := by omega
              have HNEW : Hid (∀ (j : Nat) u, (byteVals ((L.drop k).take (q - k)))[j]? = some u → wz.cell? ((⟨gl, k, none⟩ : Addr).add j) = some u) := brows.hide2 (fun j u hu => by
                simp only [byteVals, List.getElem?_map] at hu
                cases hx : ((L.drop k).take (q - k))[j]? with
                | none => rw [hx] at hu; cases hu
                | some x =>
                  rw [hx] at hu
                  have hlt2 : j < q - k := by
                    by_cases h : j < q - k
                    · exact h
                    · rw [List.getElem?_take, if_neg h] at hx; cases hx
                  rw [List.getElem?_take, if_pos hlt2, List.getElem?_drop] at hx
                  have := cellL HRz.out hx
                  have hadd : (⟨gl, k, none⟩ : Addr).add j = ⟨gl, k + j, none⟩ := by unfold Addr.add; split <;> simp_all
                  rw [hadd, this]
                  simpa using hu)
              go_wp2_with (at_builtin; refine wpList_append_own_at _ rfl _ _ 47 rfl w.heap.size 5 i0 (.int .u8 0) 1 1 Try.underlying47 hi hz0 hz1 hz2 rfl (by decide) _ _ _ rfl e2 ⟨gl, k, none⟩ (q - k) (cl - k) (byteVals ((L.drop k).take (q - k))) rfl (by simp [byteVals, HN.out]; omega) HNEW.out (by intro u hu; simp only [byteVals, List.mem_map] at hu; obtain ⟨z, -, rfl⟩ := hu; rfl) (by unfold maxLen; omega) (by omega) hszz ?_; intro vo w2 hown hg _ hat; obtain ⟨gt2, ct2, rfl⟩ : ∃ g c, vo = .slice (some ⟨g, 0, none⟩) (m + (q - k)) c := (by obtain ⟨z, hz⟩ : ∃ z, m + (q - k) = z + 1 := ⟨m + (q - k) - 1, by omega⟩; rw [hz] at hown ⊢; exact ownsRow_succ hown); have hg2 : wz.grownBy w2 (some gt) := hg; have HR2 := brows.hide2 (rows_app0 (l := (L.drop k).take (q - k)) HTm.out HRz.out hown (by simp [HN.out]; omega) hg2 hat); have hb2 := below_grown0 hg2 hbase hszz; clear hown hg hg2 hat)
              refine ⟨⟨q, gt2, ct2, m + (q - k), T ++ (L.drop k).take (q - k), by omega, rfl, rfl, by rw [List.length_append, HTm.out]; simp [HN.out]; omega, by omega, by omega, brows.hide2 ?_, HBd, HR2, hBz.trans hb2⟩, by simp [intOf]; omega⟩
              rw [HFl.out, if_pos h3, HT.out]
            · have t1 : (3 : Int) ≤ (q : Int) - (k : Int) := by omega
              have t2 : IntKind.i64.wrap ((q : Int) - (k : Int)) = (q : Int) - (k : Int) := by rw [IntKind.wrap_i64]; omega
              have hck2 := cellL HRz.out Hb.out
              have hcy2 := cellL (k := j) HRz.out (by rw [← Hj.out]; exact Hy.out)
              have lgl := World.block_lt_of_cell? wz _ hck2
              go_wp2_with fail
              have hS : wz.drew.cell? ⟨gl, k, none⟩ = some (.int .u8 (b : Nat)) ∧ wz.drew.cell? ⟨gl, j, none⟩ = some (.int .u8 (y : Nat)) := ⟨hck2, hcy2⟩
              have hS2 : ∀ ob, (wz.alloc ob).drew.cell? ⟨gl, k, none⟩ = some (.int .u8 (b : Nat)) ∧ (wz.alloc ob).drew.cell? ⟨gl, j, none⟩ = some (.int .u8 (y : Nat)) := fun ob => ⟨(World.cell?_of_block (a := ⟨gl, k, none⟩) (Below.heap_alloc wz ob gl lgl)).trans hck2, (World.cell?_of_block (a := ⟨gl, j, none⟩) (Below.heap_alloc wz ob gl lgl)).trans hcy2⟩
              have hS3 : ∀ ob w2, (wz.alloc ob).drew.grownBy w2 (some gt) → w2.cell? ⟨gl, k, none⟩ = some (.int .u8 (b : Nat)) ∧ w2.cell? ⟨gl, j, none⟩ = some (.int .u8 (y : Nat)) := fun ob w2 h => ⟨((brows.grown_drawn h).cell_far ⟨gl, k, none⟩ lgl hne2).trans hck2, ((brows.grown_drawn h).cell_far ⟨gl, j, none⟩ lgl hne2).trans hcy2⟩
              go_region_held3 (fun W' => W'.cell? ⟨gl, k, none⟩ = some (.int .u8 (b : Nat)) ∧ W'.cell? ⟨gl, j, none⟩ = some (.int .u8 (y : Nat))) (first | with_reducible exact hS | with_reducible exact hS2 _ | with_reducible exact hS3 _ _ (by assumption)) ((refine step_append_lies _ (by rfl) _ _ _ (by rfl) w.heap.size 5 i0 (.int .u8 0) 1 1 Try.underlying47 hi hz0 hz1 hz2 rfl (by omega) _ _ _ (by rfl) ((e2.alloc _).drew) ⟨wz.heap.size, 0, none⟩ 3 3 [.int .u8 (b : Nat), .int .u8 45, .int .u8 (y : Nat)] (by rfl) (by rfl) (World.news_of_block (cs := #[.int .u8 (b : Nat), .int .u8 45, .int .u8 (y : Nat)]) (t := 5) (fr := (0, 0)) (heap_alloc_new wz _)) (by simp [Value.oneCell']) (by omega) (by unfold maxLen; omega) (by omega) (by simp; omega) (wz.heap.size + 1) (by simp) ?_; intro gt2 ct2 w2 hown1 hgrow hat hlt3; have hgr2 : (wz.alloc (.cells #[.int .u8 (b : Nat), .int .u8 45, .int .u8 (y : Nat)] 5)).drew.grownBy w2 (some gt) := hgrow))
              clear hS hS2 hS3
              have hgr3 : (wz.alloc (.cells #[.int .u8 (b : Nat), .int .u8 45, .int .u8 (y : Nat)] 5)).grownBy w2 (some gt) := ⟨hgr2.os, hgr2.tape, hgr2.output, hgr2.size, hgr2.block⟩
              have hat2 : (Value.slice (some ⟨gt2, 0, none⟩) (m + 3) ct2).ownBlock = (Value.slice (some ⟨gt, 0, none⟩) m ct).ownBlock ∨ (Value.slice (some ⟨gt2, 0, none⟩) (m + 3) ct2).ownBlock = some (wz.alloc (.cells #[.int .u8 (b : Nat), .int .u8 45, .int .u8 (y : Nat)] 5)).heap.size := by
                rcases hat with h | h
                · exact .inl h.symm
                · refine .inr ?_
                  rw [World.size_alloc, ← h]; rfl
              have HR2 := brows.hide2 (rows_app (l := [b, 45, y]) HTm.out HRz.out hown1 rfl hgr3 hat2)
              have hb2 := below_grown hgr3 hbase hszz
              clear hown1 hgrow hgr2 hgr3 hat hat2 hlt3
              go_wp2
              refine ⟨⟨q, gt2, ct2, m + 3, T ++ [b, 45, y], by omega, rfl, rfl, by rw [List.length_append, HTm.out]; rfl, by omega, by omega, brows.hide2 ?_, HBd, HR2, hBz.trans hb2⟩, by simp [intOf]; omega⟩
              rw [HFl.out, if_neg h3, HT.out]
      · rw [hs] at hspc
        have hbd := bd_special L k b Hb.out hs
        go_wp2_with (first | (go_at_call 26; refine hspc.mono ?_; rintro e w' ⟨rfl, rfl⟩) | (at_builtin; refine wpList_append_own_at _ rfl _ _ 47 rfl w.heap.size 5 i0 (.int .u8 0) 1 1 Try.underlying47 hi hz0 hz1 hz2 rfl (by decide) _ _ _ rfl (e1.alloc _) ⟨w'.heap.size, 0, none⟩ 5 5 [.int .u8 91, .int .u8 46, .int .u8 (b : Nat), .int .u8 46, .int .u8 93] rfl rfl (World.news_of_block (cs := #[.int .u8 91, .int .u8 46, .int .u8 (b : Nat), .int .u8 46, .int .u8 93]) (t := 5) (fr := (0, 0)) (heap_alloc_new w' _)) (by simp [Value.oneCell']) (by unfold maxLen; omega) (by omega) (by simp; omega) ?_; intro vo w2 hown hg _ hat; obtain ⟨gt2, ct2, rfl⟩ : ∃ g c, vo = .slice (some ⟨g, 0, none⟩) (m + 5) c := ownsRow_succ hown; have HR2 := brows.hide2 (rows_app (l := [91, 46, b, 46, 93]) HTm.out HR.out hown rfl hg hat); have hb2 := below_grown hg hbase hsz; clear hown hg hat))
        refine ⟨⟨k + 1, gt2, ct2, m + 5, T ++ [91, 46, b, 46, 93], by omega, by go_num, rfl, by rw [List.length_append, HTm.out]; rfl, by omega, by omega, brows.hide2 ?_, brows.hide2 hbd.2, HR2, hB.trans hb2⟩, by simp [intOf]; omega⟩
        rw [hbd.1, flush_nil, HT.out]
    · obtain rfl : k = n := by omega
      have e1 := HR.out.head
      rw [HTm.out] at e1
      have hsz := hB.size
      have hbase := (brows.row_base e1).1
      go_wp2_with (at_builtin; refine wpList_append_own_at _ rfl _ _ 47 rfl w.heap.size 5 i0 (.int .u8 0) 1 1 Try.underlying47 hi hz0 hz1 hz2 rfl (by decide) _ _ _ rfl (e1.alloc _) ⟨wr.heap.size, 0, none⟩ 1 1 [.int .u8 93] rfl rfl (World.news_of_block (cs := #[.int .u8 93]) (t := 5) (fr := (0, 0)) (heap_alloc_new wr _)) (by simp [Value.oneCell']) (by unfold maxLen; omega) (by omega) (by simp; omega) ?_; intro vo w2 hown hg _ hat; have hconv := conv_owned (W := w2) (v := vo) (l := T ++ [93]) (by rw [List.length_append, byteVals_snoc, HTm.out]; exact hown); have hb2 := below_grown hg hbase hsz)
      go_ret
      refine ⟨?_, hB.trans hb2⟩
      rw [HL.out, HT.out, List.take_of_length_le (by rw [HN.out]; exact Nat.le_refl _)]; rfl
end Go.Proofs.Ytolkbemclkgmmaa
