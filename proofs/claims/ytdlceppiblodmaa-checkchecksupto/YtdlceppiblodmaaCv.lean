/- CheckChecks: the walk. -/
import Derived.Test.YtdlceppiblodmaaCu
namespace Go.Proofs.Ytdlceppiblodmaa
open Go.RowKit
open chkP

theorem frow_lies {W : World} {g o cp : Nat} {l : List (Cm × Rst)} (h : FRow W (.slice (some ⟨g, o, none⟩) l.length cp) l) : LiesAt W g o (cmX l) := by
  obtain ⟨a, c, e, hr⟩ := h
  injection e with e _ _
  intro j u hu
  have hj : j < l.length * 19 := by rw [← cmX_len]; exact (List.getElem?_eq_some_iff.1 hu).1
  have hk : j / 19 < l.length := Nat.div_lt_of_lt_mul (by omega)
  have hm : j % 19 < 19 := Nat.mod_lt _ (by decide)
  obtain ⟨g', o', h1, h2, _⟩ := hr (j / 19) _ (List.getElem?_eq_getElem hk)
  rw [← e] at h1
  injection h1 with h1
  injection h1 with h1 h3
  subst h1 h3
  have := cmX_get l (j / 19) (j % 19) _ (List.getElem?_eq_getElem hk) hm
  rw [show j / 19 * 19 + j % 19 = j by omega, hu] at this
  have h4 := h2 (j % 19) u this.symm
  rw [show o + j / 19 * 19 + j % 19 = o + j by omega] at h4
  exact h4
theorem frow_of_lies {W : World} {g o cp : Nat} {l : List (Cm × Rst)} (h : LiesAt W g o (cmX l)) (hl : ∀ p ∈ l, p.1.lb.length ≤ 1000000000000000) : FRow W (.slice (some ⟨g, o, none⟩) l.length cp) l := by
  refine ⟨_, cp, rfl, fun k p hp => ⟨g, o, rfl, fun j v hv => ?_, hl p (List.mem_of_getElem? hp)⟩⟩
  have hj : j < 19 := by rw [← cmV_len p.1 p.2]; exact (List.getElem?_eq_some_iff.1 hv).1
  have := h (k * 19 + j) v (by rw [cmX_get l k j p hp hj]; exact hv)
  rw [← Nat.add_assoc] at this
  exact this
/-- append of a list that came in onto nothing. -/
theorem append_in {w : World} {ops : Array Oper} {rest : List Oper} {op : Oper} {a : Act} {Q : Exit → Act → World → Prop} (hgd : op.guard = none) (s x : Operand)
    (ho : op.op = .call { callee := .builtin .append, args := #[s, x], argTypes := #[22, 22] })
    (u : Value) (l : List (Cm × Rst)) (hs : a.eval s = .slice none 0 0) (hx : a.eval x = u) (hu : FRow w u l) (hshape : u = .slice none 0 0 ∨ ∃ ad n c, u = .slice (some ad) n c) (hlen : l.length ≤ 100000000)
    (h : ∀ v' w', w'.ownsRow w.heap.size 27 19 v' l.length (cmX l) → w.grownBy w' none → wpList Try.prog ops Q rest (a.put op.dst v') w') : wpList Try.prog ops Q (op :: rest) a w := by
  obtain ⟨i0, hi, hz0, hz1, hz2⟩ := info_parts infoCmd
  rcases hshape with rfl | ⟨ad, n, c, rfl⟩
  · obtain rfl : l = [] := by
      obtain ⟨p, c, e, _⟩ := hu
      injection e with _ e _
      exact List.eq_nil_of_length_eq_zero e.symm
    refine wpList_append_own_none hgd s x 22 ho w.heap.size 27 i0 19 Try.underlying22 hi (.slice none 0 0) 0 [] hs (World.ownsRow_nil _ _ _ _) hx ?_
    exact h _ w (World.ownsRow_nil _ _ _ _) ⟨rfl, rfl, rfl, Nat.le_refl _, fun _ _ _ => rfl⟩
  · obtain rfl : n = l.length := by
      obtain ⟨p, c', e, _⟩ := hu
      injection e
    refine wpList_append_own _ hgd s x 22 ho w.heap.size 27 i0 _ 19 216 Try.underlying22 hi hz0 hz1 hz2 rfl (by decide) (.slice none 0 0) 0 [] hs (World.ownsRow_nil _ _ _ _) ad l.length c (cmX l) hx (cmX_len l) ?_ (cmX_one l) (by unfold maxLen; omega) (by omega) (Nat.le_refl _) ?_
    · intro j u hu2
      have hj : j < l.length * 19 := by rw [← cmX_len]; exact (List.getElem?_eq_some_iff.1 hu2).1
      have hk : 0 < l.length := by omega
      have hu' := hu
      obtain ⟨a', c', e, hr⟩ := hu'
      obtain ⟨g, o, h1, _⟩ := hr 0 _ (List.getElem?_eq_getElem hk)
      injection e with e _ _
      rw [← e] at h1
      injection h1 with h1
      subst h1
      have hadd : (⟨g, o, none⟩ : Addr).add j = ⟨g, o + j, none⟩ := by unfold Addr.add; split <;> simp_all
      rw [hadd]
      exact frow_lies hu j u hu2
    · intro v' w' h1 h2 _
      refine h v' w' ?_ h2
      simpa using h1

set_option maxRecDepth 100000 in
set_option maxHeartbeats 4000000 in
theorem checks_walk (lv : Value) (l : List (Cm × Rst)) (W : World) (hr : FRow W lv l) (hshape : lv = .slice none 0 0 ∨ ∃ ad n c, lv = .slice (some ad) n c) (hp : ∀ p ∈ l, PtOk W p.2 ∧ p.2.pn ≤ 1000000000000000) (hl : l.length ≤ 1048576) : Calls Try.prog 3 #[lv] W fun e w' => e = .returned (.bool true) ∧ Below W.heap.size W w' := by
  have HR := hideT hr
  have HP := hideT hp
  have HSH := hideT hshape
  have HLB := hideT (show ∀ p ∈ l, p.1.lb.length ≤ 1000000000000000 from fun p hp => by
    obtain ⟨a, c, _, h2⟩ := hr
    obtain ⟨k, hk⟩ := List.getElem?_of_mem hp
    obtain ⟨_, _, _, _, h3⟩ := h2 k p hk
    exact h3)
  obtain ⟨a0, cp0, hv⟩ : ∃ a cp, lv = .slice a l.length cp := by obtain ⟨a, cp, h, _⟩ := hr; exact ⟨a, cp, h⟩
  subst hv
  clear hr hp hshape
  go_enter Try.func3, Try.ntmps3
  go_wp2_with (at_builtin; refine append_in (by rfl) _ _ (by rfl) (.slice a0 l.length cp0) l (by rfl) (by rfl) HR.out HSH.out (by omega) ?_)
  intro v1 w1 hown1 hgr1
  have HO1 := hideT hown1
  have HB1 := hideT (show Below W.heap.size W w1 from below_grown hgr1 (fun g e => by cases e) (Nat.le_refl _))
  clear hown1 hgr1
  go_wp2_with (at_builtin; refine append_cmds (by rfl) _ _ (by rfl) W.heap.size v1 l [(cm 77 0, rst0)] (by rfl) (World.ownsRow.alloc HO1.out _) w1.heap.size 0 1 (by rfl) (by simp) (lies_block (heap_alloc_new w1 _) (by rfl)) (by simp; omega) (by rw [World.size_alloc]; have := HB1.out.size; omega) ?_)
  intro g2 cap w2 hown2 hgr2 hat2
  have HB2 := hideT (show Below W.heap.size W w2 from (HB1.out.alloc HB1.out.size _).trans (below_grown hgr2 (fun g hg => (HO1.out.lt g hg).1) (by rw [World.size_alloc]; have := HB1.out.size; omega)))
  have hlies : LiesAt w2 g2 0 (cmX (l ++ [(cm 77 0, rst0)])) ∧ l.length + 1 ≤ cap := by
    rcases hown2.2 with ⟨h1, _⟩ | ⟨g', cap', cur, h1, _, hh, hn, _, _, ht⟩
    · cases h1
    · injection h1 with h1 h2 h3
      injection h1 with h1
      injection h1 with h1
      subst h1 h3
      refine ⟨lies_block hh ?_, ?_⟩
      · rw [cmX_len, List.length_append, List.length_singleton]
        exact ht
      · exact hn
  have HLI := hideT (show LiesAt w2 g2 0 (cmX l) from fun j u hu => hlies.1 j u (by rw [cmX_app, List.getElem?_append_left (List.getElem?_eq_some_iff.1 hu).1]; exact hu))
  have c77 : w2.cell? ⟨g2, l.length * 19 + 8, none⟩ = some (.int .u8 77) := by
    have := hlies.1 (l.length * 19 + 8) (.int .u8 77) (by rw [cmX_get _ l.length 8 (cm 77 0, rst0) (by simp) (by decide)]; rfl)
    rw [Nat.zero_add] at this
    exact this
  have hcap := hlies.2
  have n1 : (0 : Int) ≤ (l.length : Int) := by omega
  have n2 : (l.length : Int) ≤ (cap : Int) := by omega
  have n3 : (l.length : Int) < (l.length : Int) + 1 := by omega
  have HFR := hideT (show FRow w2 (.slice (some ⟨g2, 0, none⟩) l.length cap) l from frow_of_lies HLI.out HLB.out)
  have HC := hideT (check_any HFR.out.crow (by rw [List.length_map]; omega))
  have HC77 := hideT c77
  clear hown2 hgr2 hat2 hlies hcap c77 HLI HO1 HB1
  obtain ⟨E, hE⟩ : ∃ E, E = (chkR (l.map Prod.fst)).1 := ⟨_, rfl⟩
  obtain ⟨pp, hpp⟩ : ∃ pp, pp = (chkR (l.map Prod.fst)).2 := ⟨_, rfl⟩
  have hcv : chkV (l.map Prod.fst) = .agg #[.int .i64 (E : Nat), .int .i64 pp] := by rw [hE, hpp]; rfl
  rw [hcv] at HC
  have HE := hideT (And.intro hE hpp)
  clear hcv hE hpp
  have hq1 : ∀ w, (Op.equalIn 10000 30 (.agg #[.int .i64 (E : Nat), .int .i64 pp]) (.agg #[.int .i64 (E : Nat), .int .i64 pp])).run Try.prog w = .ok true w := fun w => by rw [run_equal_fault]; simp
  go_wp2_with fail
  refine HC.out.mono ?_
  rintro e w3 ⟨rfl, hb3⟩
  have HB3 := hideT (HB2.out.trans (hb3.mono HB2.out.size))
  have HF3 := hideT (HFR.out.step hb3)
  have H773 := hideT (keep_cell hb3 HC77.out)
  clear hb3 HC HFR HC77 HB2
  go_wp2_with fail
  have hX : Below w3.heap.size w3 (w3.alloc (.cells #[.int .i64 (E : Nat), .int .i64 pp] 30)) := (Below.refl _ _).alloc (Nat.le_refl _) _
  have hXb := heap_alloc_new w3 (.cells #[.int .i64 (E : Nat), .int .i64 pp] 30)
  obtain ⟨X, hXe⟩ : ∃ X, X = w3.alloc (.cells #[.int .i64 (E : Nat), .int .i64 pp] 30) := ⟨_, rfl⟩
  rw [← hXe] at hX hXb ⊢
  obtain ⟨N, hN⟩ : ∃ N, N = w3.heap.size := ⟨_, rfl⟩
  rw [← hN] at hXb ⊢
  have HX := hideT hX
  have HXB := hideT hXb
  have HBX := hideT (HB3.out.trans (hX.mono HB3.out.size))
  have HDC := hideT (docCheck_any (HR.out.step HBX.out) (by omega))
  rw [← HE.out.1, ← HE.out.2] at HDC
  clear hXe hX hXb hN
  refine HDC.out.mono ?_
  rintro e w4 ⟨rfl, hb4⟩
  have HB4 := hideT (HBX.out.trans (hb4.mono HBX.out.size))
  have HF4 := hideT ((HF3.out.step HX.out).step hb4)
  have H774 := hideT (keep_cell hb4 (keep_cell HX.out H773.out))
  have HN4 := hideT ((hb4.block N (Array.getElem?_eq_some_iff.1 HXB.out).1).trans HXB.out)
  clear hb4 HDC HBX HX HXB HF3 H773 HB3
  go_wp2_with fail
  refine (awake_any w4).mono ?_
  rintro e w5 ⟨rfl, hb5⟩
  have HB5 := hideT (HB4.out.trans (hb5.mono HB4.out.size))
  have HF5 := hideT (HF4.out.step hb5)
  have H775 := hideT (keep_cell hb5 H774.out)
  have hN5 := (hb5.block N (Array.getElem?_eq_some_iff.1 HN4.out).1).trans HN4.out
  have r0 : w5.cell? ⟨N, 0, none⟩ = some (.int .i64 (E : Nat)) := by simp [World.cell?, hN5]
  have r1 : w5.cell? ⟨N, 1, none⟩ = some (.int .i64 pp) := by simp [World.cell?, hN5]
  have HSL := hideT (sameList_any _ _ l w5 HF5.out (HR.out.step HB5.out) (fun p hp => ⟨(HP.out p hp).1.step HB5.out, (HP.out p hp).2⟩) (by omega))
  clear hb5 hN5 HN4 HF4 H774 HB4
  go_wp2_with fail
  refine HSL.out.mono ?_
  rintro e w6 ⟨rfl, hb6⟩
  have d77 := keep_cell hb6 H775.out
  have HF := hideT (HB5.out.trans (hb6.mono HB5.out.size))
  clear hb6 r0 r1 HSL HF5 H775
  go_wp2
  go_ret
  exact ⟨rfl, HF.out⟩
end Go.Proofs.Ytdlceppiblodmaa
