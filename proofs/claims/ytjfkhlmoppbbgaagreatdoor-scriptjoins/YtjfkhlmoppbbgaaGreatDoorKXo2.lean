/- script: lists of commands that are put together; how many parts there are. -/
import Derived.Test.YtjfkhlmoppbbgaaGreatDoorKXm2
import Derived.Test.YtjfkhlmoppbbgaaGreatDoorKXi2
namespace Go.Proofs.YtjfkhlmoppbbgaaGreatDoor
open Go.RowKit
open scanP scrP tpl ytb

theorem flg_ps {l : List UInt8} : ∀ (n : Nat) {c d : Co} {i k : Nat}, flgR l n c i = .ok (d, k) → d.ps = c.ps
  | 0, c, d, i, k, h => by cases h; rfl
  | n + 1, c, d, i, k, h => by
    unfold flgR at h
    split at h
    · split at h
      · cases h
      · exact (flg_ps n h).trans rfl
    · split at h
      · split at h
        · cases h
        · exact (flg_ps n h).trans rfl
      · split at h
        · split at h
          · cases h
          · exact (flg_ps n h).trans rfl
        · split at h
          · unfold filC at h
            split at h
            · cases h
            · cases h; rfl
          · unfold endC at h
            split at h
            · cases h
            · cases h; rfl
theorem rst_ps {G : Gr} {l : List UInt8} {c d : Co} {i k : Nat} (hc : c.ps = []) (h : rstR G l c i = .ok (d, k)) : d.ps.length ≤ l.length := by
  have h0 : c.ps.length ≤ l.length := by rw [hc]; simp
  unfold rstR at h
  split at h
  · cases h; exact h0
  · split at h
    · unfold txtC at h
      split at h
      · cases h
      · cases h; exact h0
    · split at h
      · unfold labC at h
        split at h
        · cases h
        · cases h; exact h0
      · split at h
        · unfold filC at h
          split at h
          · cases h
          · cases h; exact h0
        · split at h
          · unfold sedR at h
            split at h
            · cases h
            · rename_i hd
              split at h
              · cases h
              · rename_i hp
                split at h
                · cases h
                · rename_i u m hu
                  split at h
                  · cases h
                  · split at h
                    · cases h
                    · split at h
                      · cases h
                      · split at h
                        · cases h
                        · rename_i hf
                          cases h
                          have e := flg_ps _ hf
                          have h1 := (pie_len hp (del_len hd).2.1).2
                          have h2 := (pie_len hu h1).1
                          have h3 := parse_len u
                          simp only at e ⊢
                          rw [e]
                          omega
          · split at h
            · split at h
              · cases h
              · rename_i ht
                unfold endC at h
                split at h
                · cases h
                · cases h
                  unfold tabR at ht
                  split at ht
                  · cases ht
                  · split at ht
                    · cases ht
                    · split at ht
                      · cases ht
                      · split at ht
                        · cases ht
                        · cases ht; exact h0
            · split at h
              · unfold endC at h
                split at h
                · cases h
                · cases h; exact h0
              · cases h
theorem all_ps {G : Gr} {l : List UInt8} : ∀ (n : Nat) {i : Nat} {acc cs : List Co}, (∀ c ∈ acc, c.ps.length ≤ l.length) → allR G l n i acc = .ok cs → ∀ c ∈ cs, c.ps.length ≤ l.length
  | 0, i, acc, cs, ha, h => by cases h; exact ha
  | n + 1, i, acc, cs, ha, h => by
    unfold allR at h
    split at h
    · cases h; exact ha
    · split at h
      · cases h
      · rename_i c m hc
        refine all_ps n (fun d hd => ?_) h
        rcases List.mem_append.1 hd with hd | hd
        · exact ha d hd
        · rw [List.mem_singleton.1 hd]
          unfold cmdR at hc
          split at hc
          · cases hc
          · split at hc
            · cases hc
            · exact rst_ps rfl hc
theorem scr_ps {G : Gr} {l : List UInt8} (h : (scrR G l).2.2.1 = 0) : ∀ c ∈ (scrR G l).1, c.ps.length ≤ l.length := by
  obtain ⟨_, cs, h1, e⟩ := scr_ok h
  rw [e]
  exact all_ps _ (fun c hc => by simp at hc) h1
theorem Fields.pl {l : List UInt8} {cs : List Co} (h : Fields l cs) : ∀ c ∈ cs, c.pl < l.length := fun c hc => (List.getElem?_eq_some_iff.1 (h.fo c hc).2).1
theorem Fields.geB {l : List UInt8} {cs : List Co} (h : Fields l cs) : ∀ (k : Nat) (c : Co), cs[k]? = some c → k ≤ c.pl
  | 0, c, _ => Nat.zero_le _
  | k + 1, c, hc => by
    have hk : k < cs.length := by have := (List.getElem?_eq_some_iff.1 hc).1; omega
    have h1 := h.geB k _ (List.getElem?_eq_getElem hk)
    have h2 := h.up k _ c (List.getElem?_eq_getElem hk) hc
    omega
theorem Fields.lenB {l : List UInt8} {cs : List Co} (h : Fields l cs) : cs.length ≤ l.length := by
  rcases Nat.eq_zero_or_pos cs.length with h0 | h0
  · omega
  · have hk : cs.length - 1 < cs.length := by omega
    have h1 := h.geB _ _ (List.getElem?_eq_getElem hk)
    have h2 := h.pl _ (List.getElem_mem hk)
    omega
/-- A list that reads as commands, from its block's head. -/
def RRow (W Wp : World) (v : Value) (cs : List Co) : Prop := ∃ L : List (Co × Value), L.map (·.1) = cs ∧ (∀ x ∈ L, PRow Wp x.2 x.1.ps) ∧ (v = .slice none 0 0 ∧ L = [] ∨ ∃ g cp, v = .slice (some ⟨g, 0, none⟩) L.length cp ∧ W.rangeAt g 0 (coX L))
theorem rrow_owns {W Wp : World} {B : Nat} {v : Value} {L : List (Co × Value)} (h : W.ownsRow B 41 19 v L.length (coX L)) (hp : ∀ x ∈ L, PRow Wp x.2 x.1.ps) : RRow W Wp v (L.map (·.1)) := by
  refine ⟨L, rfl, hp, ?_⟩
  rcases h.2 with ⟨rfl, h0⟩ | ⟨g, cap, cur, rfl, hg, hh, hrest⟩
  · exact .inl ⟨rfl, List.eq_nil_of_length_eq_zero h0⟩
  · refine .inr ⟨g, cap, rfl, fun j u hu => ?_⟩
    have h1 := h.cells (g := g) rfl j _ hu
    have hplain : ∀ k, (⟨g, 0, none⟩ : Addr).add k = ⟨g, 0 + k, none⟩ := fun k => by unfold Addr.add; split <;> simp_all
    rw [hplain] at h1
    exact h1
theorem RRow.stay {W W' Wp : World} {v : Value} {cs : List Co} (h : RRow W Wp v cs) (hb : Below W.heap.size W W') : RRow W' Wp v cs := by
  obtain ⟨L, h1, h2, h3⟩ := h
  refine ⟨L, h1, h2, ?_⟩
  rcases h3 with h3 | ⟨g, cp, h4, h5⟩
  · exact .inl h3
  · exact .inr ⟨g, cp, h4, fun j u hu => (hb.cell (p := ⟨g, 0 + j, none⟩) (tpl.cell_lt (h5 j u hu))).trans (h5 j u hu)⟩
theorem RRow.read {W Wp : World} {v : Value} {cs : List Co} (h : RRow W Wp v cs) : ∃ a cp, v = .slice a cs.length cp ∧ ∀ (k : Nat) (c : Co), cs[k]? = some c → ∃ g o pv, a = some ⟨g, o, none⟩ ∧ W.rangeAt g (o + k * 19) (coV c pv) ∧ PRow Wp pv c.ps := by
  obtain ⟨L, rfl, h2, h3⟩ := h
  rcases h3 with ⟨rfl, rfl⟩ | ⟨g, cp, rfl, h5⟩
  · exact ⟨none, 0, rfl, fun k c hc => by simp at hc⟩
  · refine ⟨some ⟨g, 0, none⟩, cp, by rw [List.length_map], fun k c hc => ?_⟩
    rw [List.getElem?_map] at hc
    cases hx : L[k]? with
    | none => rw [hx] at hc; cases hc
    | some x =>
      rw [hx] at hc
      cases hc
      refine ⟨g, 0, x.2, rfl, fun j u hu => ?_, h2 x (List.mem_of_getElem? hx)⟩
      have h1 := h5 (k * 19 + j) _ (coX_at L k x hx j u hu)
      rw [Nat.add_assoc]
      exact h1
theorem RRow.crow {W Wp : World} {v : Value} {cs : List Co} (h : RRow W Wp v cs) (hp : ∀ pv ps, PRow Wp pv ps → PRow W pv ps) : CRow W v cs := by
  obtain ⟨a, cp, h1, h2⟩ := h.read
  exact ⟨a, cp, h1, fun k c hc => (let ⟨g, o, pv, q1, q2, q3⟩ := h2 k c hc; ⟨g, o, pv, q1, q2, hp pv c.ps q3⟩)⟩
theorem coX_mem {L : List (Co × Value)} (h : ∀ x ∈ L, x.2.oneCell' = true) : ∀ u ∈ coX L, u.oneCell' = true := by
  induction L with
  | nil => intro u hu; cases hu
  | cons x r ih =>
    intro u hu
    rcases List.mem_append.1 hu with hu | hu
    · exact coV_mem x.1 x.2 (h x (by simp)) u hu
    · exact ih (fun y hy => h y (by simp [hy])) u hu
/-- append of a list that reads as commands onto one of one's own. -/
theorem app_rrow {w Wp : World} {ops : Array Oper} {rest : List Oper} {op : Oper} {a : Act} {Q : Exit → Act → World → Prop} (hgd : op.guard = none) (s x : Operand)
    (ho : op.op = .call { callee := .builtin .append, args := #[s, x], argTypes := #[22, 22] })
    (B : Nat) (v y : Value) (L : List (Co × Value)) (cs : List Co) (hs : a.eval s = v) (hL : w.ownsRow B 41 19 v L.length (coX L)) (hx : a.eval x = y) (hy : RRow w Wp y cs) (hl : L.length + cs.length ≤ 100000) (hB : B ≤ w.heap.size)
    (h : ∀ v' w' M, M.map (·.1) = cs → (∀ x ∈ M, PRow Wp x.2 x.1.ps) → w'.ownsRow B 41 19 v' (L ++ M).length (coX (L ++ M)) → Below B w w' → wpList Tryz.prog ops Q rest (a.put op.dst v') w') : wpList Tryz.prog ops Q (op :: rest) a w := by
  obtain ⟨i0, hi, hz0, hz1, hz2⟩ := info_parts infoCo
  obtain ⟨M, rfl, h2, h3⟩ := hy
  rcases h3 with ⟨rfl, rfl⟩ | ⟨g, cp, rfl, h5⟩
  · refine wpList_plain hgd fun K hK => ?_
    have hrun := run_append_owned_none (P := Tryz.prog) (w := w) B 22 op.type 41 i0 19 Tryz.underlying22 hi v L.length (coX L) hL
    unfold Oper.wp
    simp [execOp, ho, resolve, invoke, builtin, hs, hx, hrun, Result.andThen]
    exact hK _ _ (h v w [] rfl h2 (by rw [List.append_nil]; exact hL) (Below.refl _ _))
  · rw [List.length_map] at hl
    refine wpList_plain hgd fun K hK => ?_
    have hadd : ∀ j, (⟨g, 0, none⟩ : Addr).add j = ⟨g, 0 + j, none⟩ := fun j => by unfold Addr.add; split <;> simp_all
    obtain ⟨v', w', hrun, ho', hg', _⟩ := run_append_own (P := Tryz.prog) w B 22 op.type 41 i0 _ 19 216 Tryz.underlying22 hi hz0 hz1 hz2 rfl (by decide) v L.length (coX L) hL ⟨g, 0, none⟩ M.length cp (coX M) (coX_len M) (fun j u hu => by rw [hadd]; exact h5 j u hu) (coX_mem (fun x hx => by obtain ⟨p, c, e⟩ := (h2 x hx).shape; rw [e]; rfl)) (by unfold maxLen; omega) (by omega) hB
    unfold Oper.wp
    simp [execOp, ho, resolve, invoke, builtin, hs, hx, hrun, Result.andThen]
    refine hK _ _ (h v' w' M rfl h2 ?_ ?_)
    · rw [List.length_append, coX_app]; exact ho'
    · refine ⟨hg'.os, hg'.tape, hg'.output, hg'.size, fun k hk => hg'.block k (Nat.lt_of_lt_of_le hk hB) (fun e => ?_)⟩
      exact absurd (owns_blk hL e.symm).1 (by omega)
/-- Parse, its list from its block's head. -/
theorem parse_rows (s : ByteArray) (hs : s.size ≤ 140737488355000) (w : World) (hg : Gl w) : Calls Tryz.prog 9 #[.string s] w fun e w' => ∃ v, e = .returned (.tuple #[v, .bool (scrR gM s.data.toList).2.1, .agg #[.int .i64 ((scrR gM s.data.toList).2.2.1 : Nat), .int .i64 ((scrR gM s.data.toList).2.2.2 : Nat)]]) ∧ RRow w' w' v (scrR gM s.data.toList).1 ∧ Below w.heap.size w w' := by
  refine (parse_ok s hs w hg).mono ?_
  rintro e w' ⟨v, L, rfl, hL, hm, hb⟩
  exact ⟨v, rfl, hm ▸ rrow_owns hL.own (fun x hx => PRow.of_owns (hL.pa x hx)), hb⟩
end Go.Proofs.YtjfkhlmoppbbgaaGreatDoor
