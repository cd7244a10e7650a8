/- ytab: the walk of YtabNews. -/
import Derived.Test.YtgcjjfidcadlgaaYi
namespace Go.Proofs.Ytgcjjfidcadlgaa
open Go.RowKit Go.Sort

/-- A table is read, whatever was laid behind. -/
theorem load_regrown {T : Nat → UInt8} {W : World} {b : Nat} {A : Array Value} (hA : A = (arV (btF T)).toArray) (h : ArAt W b 31 (btF T)) (d : Nat) (os : Array Obj) : (Instr.loadAt 31 (.pointer (some ⟨b, 0, none⟩))).run Try.prog (grow (redrawn W d) os) = .ok (.agg A) (grow (redrawn W d) os) := by
  have h2 := rangeA hA (h.stay (below_regrown W d os))
  have h3 := run_loadAt_mid (P := Try.prog) _ b 0 31 A.toList _ h2 und31 rfl (by rw [info31]; simp [sizeA hA])
  rw [show A.toList.toArray = A from Array.toArray_toList] at h3
  exact h3

theorem loadC_regrown {T : Nat → UInt8} {W : World} {b : Nat} {A : Array Value} (hA : A = (arV (btF T)).toArray) (h : ArAt W b 31 (btF T)) (d : Nat) (os : Array Obj) : (loadCellsFrom ⟨b, 0, none⟩ 0 256 #[]).run Try.prog (grow (redrawn W d) os) = .ok A (grow (redrawn W d) os) := by
  rw [hA]
  exact table_load (h.stay (below_regrown W d os))

/-- A table is read in a region that draws. -/
theorem q_load {W : World} {b : Nat} {A : Array Value} (h : ∀ d os, (Instr.loadAt 31 (.pointer (some ⟨b, 0, none⟩))).run Try.prog (grow (redrawn W d) os) = .ok (.agg A) (grow (redrawn W d) os)) {ops : Array Oper} {Q : Act → Prop} {a : Act} {o : Oper} {rest : List Oper} {x : Operand} {dst : Tmp} (ho : o.op = .load 31 x) (hd : o.dst = some dst) (hx : a.eval x = .pointer (some ⟨b, 0, none⟩)) (hw : Region.wanted o (yielded ops a.tmps) = true) (hk : wpQuiet Try.prog ops (fun w' => ∃ p : Regrown, w' = grow (redrawn W p.d) p.os) Q rest (a.put (some dst) (.agg A))) : wpQuiet Try.prog ops (fun w' => ∃ p : Regrown, w' = grow (redrawn W p.d) p.os) Q (o :: rest) a := by
  refine wpQuiet_step fun K hK => ?_
  rw [if_pos hw]
  refine ⟨.agg A, fun w hw => ?_, by rw [hd]; exact hK _ hk⟩
  obtain ⟨⟨d, os⟩, rfl⟩ := hw
  unfold Oper.quietAt execOp
  simp only [ho, hx, h, Sem.run_bind, Result.andThen_ok, Sem.run_pure]
  exact ⟨rfl, rfl⟩

set_option maxRecDepth 100000 in
set_option maxHeartbeats 4000000 in
theorem news_walk (f t s : ByteArray) (hf : f.size ≤ 140737488355000) (hs : s.size ≤ 140737488355000) (w : World) : Calls Try.prog 4 #[.string f, .string t, .string s] w fun e w' => e = .returned (.bool true) ∧ Below w.heap.size w w' := by
  generalize hT : newT f.data.toList t.data.toList = T
  generalize hE : newE f.data.toList t.data.toList = er
  obtain ⟨A, hA⟩ : ∃ A, A = (arV (btF T)).toArray := ⟨_, rfl⟩
  obtain ⟨Z, hZ⟩ : ∃ Z, Z = (arV fun _ => .int .u8 0).toArray := ⟨_, rfl⟩
  have hz := zero31 hZ
  have hAs := sizeA hA
  have hA2 : A = (arV (btF (newT f.data.toList t.data.toList))).toArray := by rw [hT]; exact hA
  have hN := fun w => newC f t hf w hA2
  have hD := fun w => docNewC f t hf w hA2
  rw [hE] at hN hD
  have HN := hideT hN
  have HD := hideT hD
  have HV := hideT (fun w2 => var_store T w2 hA hZ)
  have HP := hideT (fun w => applyC T s hs w hA)
  have HQ := hideT (fun w => docApplyC T s hs w hA)
  have HR := hideT (fun W b (h : ArAt W b 31 (btF T)) d os => load_regrown hA h d os)
  have he1 : ∀ w, (binOp .eql 31 (.agg A) (.agg A)).run Try.prog w = .ok (.bool true) w := fun w => by rw [hA]; exact eq_table T w
  have he2 : ∀ w, (Op.equalIn 10000 31 (.agg A) (.agg A)).run Try.prog w = .ok true w := fun w => by
    rw [hA]
    exact eq_any 9999 T w (fun i => by
      rw [show (9999 : Nat) = 9998 + 1 from rfl, btF, run_equalIn_int w 9998 5 .u8 .u8 _ _ Try.underlying5]
      simp)
  generalize bst (appL T s.data.toList) = bs at *
  clear hA hZ hE hT hf hs hA2 hN hD
  go_enter Try.func4, Try.ntmps4
  go_wp2_with fail
  refine (HN.out _).mono ?_
  rintro e w1 ⟨rfl, hb1⟩
  obtain ⟨W1, hst, hT1, hB1, hs1⟩ := HV.out w1
  have H1 := hideT (And.intro hT1 (And.intro (hb1.trans (hB1.mono hb1.size)) (And.intro hB1 hs1)))
  clear hb1 hT1 hB1 hs1
  go_wp2_with fail
  refine (HD.out _).mono ?_
  rintro e w2 ⟨rfl, hb2⟩
  clear hst
  obtain ⟨W2, hst, hT2, hB2, hs2⟩ := HV.out w2
  have hT3 : ArAt W2 w1.heap.size 31 (btF T) := (H1.out.1.stay hb2).stay (hB2.mono (Nat.le_refl _))
  have H2 := hideT (And.intro hT3 (And.intro hT2 (H1.out.2.1.trans ((hb2.trans (hB2.mono hb2.size)).mono H1.out.2.1.size))))
  clear hb2 hT2 hT3 hB2 hs2
  go_wp2_with fail
  have l1 := HR.out _ _ H2.out.1
  have l2 := HR.out _ _ H2.out.2.1
  have cA : Hid (∀ d os, Calls Try.prog 9 #[] (grow (redrawn W2 d) os) fun e w'' => e = .returned (.bool true) ∧ ∃ p : Regrown, w'' = grow (redrawn W2 p.d) p.os) := fun d os => Calls.regrown_of (awake_any _)
  have cP : Hid (∀ d os, Calls Try.prog 12 #[.agg A, .string s] (grow (redrawn W2 d) os) fun e w'' => e = .returned (.string bs) ∧ ∃ p : Regrown, w'' = grow (redrawn W2 p.d) p.os) := fun d os => Calls.regrown_of (HP.out _)
  have cQ : Hid (∀ d os, Calls Try.prog 13 #[.agg A, .string s] (grow (redrawn W2 d) os) fun e w'' => e = .returned (.string bs) ∧ ∃ p : Regrown, w'' = grow (redrawn W2 p.d) p.os) := fun d os => Calls.regrown_of (HQ.out _)
  clear hst
  refine wp_region_quiet_below (by kernel_rfl) (by kernel_rfl) ?_
  iterate 2 (quiet_step (first | with_reducible exact cA.out _ _ | with_reducible exact cP.out _ _ | with_reducible exact cQ.out _ _))
  refine q_load l1 rfl rfl rfl (by rfl) ?_
  refine q_load l2 rfl rfl rfl (by rfl) ?_
  iterate 8 (quiet_step (first | with_reducible exact cA.out _ _ | with_reducible exact cP.out _ _ | with_reducible exact cQ.out _ _))
  refine q_load l1 rfl rfl rfl (by rfl) ?_
  iterate 2 (quiet_step (first | with_reducible exact cA.out _ _ | with_reducible exact cP.out _ _ | with_reducible exact cQ.out _ _))
  refine q_load l2 rfl rfl rfl (by rfl) ?_
  iterate 5 (quiet_step (first | with_reducible exact cA.out _ _ | with_reducible exact cP.out _ _ | with_reducible exact cQ.out _ _))
  refine wpQuiet_nil ?_
  intro _ hw'
  obtain ⟨⟨dq, osq⟩, hw''⟩ := hw'
  subst hw''
  have H3 := hideT (H2.out.2.2.trans ((below_regrown W2 dq osq).mono H2.out.2.2.size))
  clear l1 l2 he1 he2
  generalize grow (redrawn W2 dq) osq = W3 at *
  go_wp2
  go_ret
  exact ⟨rfl, H3.out⟩

end Go.Proofs.Ytgcjjfidcadlgaa
