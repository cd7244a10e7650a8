/- script: moved (of the statements). -/
import Derived.Test.YtjfkhlmoppbbgaaGreatDoorKXd2
import Derived.Test.YtjfkhlmoppbbgaaGreatDoorKXe2
import Derived.Deep.CutRange
namespace Go.Proofs.YtjfkhlmoppbbgaaGreatDoor
open Go.RowKit
open scanP scrP tpl ytb

set_option maxRecDepth 100000 in
set_option maxHeartbeats 1000000 in
theorem bld_one {ev : Operand → Value} {op : Oper} {w : World} (x0 : Operand) (ho : op.op = .buildSlice 22 1 #[(0, x0)]) (c : Co) (b : Option Addr) (n m : Nat) (h0 : ev x0 = .agg (coV c (.slice b n m)).toArray) : (execOp ev op).run Tryz.prog w = .ok (.value (.slice (some ⟨w.heap.size, 0, none⟩) 1 1)) (w.alloc (.cells (coV c (.slice b n m)).toArray 41)) := by
  obtain ⟨i0, hi, hz0, hz1, hz2⟩ := info_parts infoCo
  unfold coV at h0
  go_simp
  rfl
theorem append_mv {w V : World} {ops : Array Oper} {rest : List Oper} {op : Oper} {a : Act} {Q : Exit → Act → World → Prop} (hgd : op.guard = none) (s x : Operand)
    (ho : op.op = .call { callee := .builtin .append, args := #[s, x], argTypes := #[22, 22] })
    (B : Nat) (v : Value) (L : List (Co × Value)) (c : Co) (pv : Value) (hw : w = V.alloc (.cells (coV c pv).toArray 41)) (hs : a.eval s = v) (hL : V.ownsRow B 41 19 v L.length (coX L)) (hp : pv.oneCell' = true) (cp : Nat) (hx : a.eval x = .slice (some ⟨V.heap.size, 0, none⟩) 1 cp) (hl : L.length ≤ 100000) (hB : B ≤ V.heap.size)
    (h : ∀ v' w', w'.ownsRow B 41 19 v' (L.length + 1) (coX (L ++ [(c, pv)])) → (∃ g2 cap, v' = .slice (some ⟨g2, 0, none⟩) (L.length + 1) cap) → Below B V w' → wpList Tryz.prog ops Q rest (a.put op.dst v') w') : wpList Tryz.prog ops Q (op :: rest) a w := by
  obtain ⟨i0, hi, hz0, hz1, hz2⟩ := info_parts infoCo
  have hA := (Below.refl V.heap.size V).alloc (Nat.le_refl _) (.cells (coV c pv).toArray 41)
  rw [← hw] at hA
  have hN : w.heap[V.heap.size]? = some (.cells (coV c pv).toArray 41 (0, 0)) := by rw [hw]; exact heap_alloc_new V _
  have hLw : w.ownsRow B 41 19 v L.length (coX L) := owns_keep hL (fun g hg => by
    obtain ⟨h1, h2, _⟩ := owns_blk hL hg
    exact hA.block g h2)
  have hBw := Nat.le_trans hB hA.size
  refine wpList_append_lies w hgd s x 22 ho B 41 i0 _ 19 216 Tryz.underlying22 hi hz0 hz1 hz2 rfl (by decide) v L.length (coX L) hs hLw ⟨V.heap.size, 0, none⟩ 1 cp (coV c pv) hx (by rw [coV_len]) (fun j u hu => ?_) (coV_mem c pv hp) (by decide) (by unfold maxLen; omega) (by omega) hBw w.heap.size rfl ?_
  · have hadd : (⟨V.heap.size, 0, none⟩ : Addr).add j = ⟨V.heap.size, j, none⟩ := by unfold Addr.add; split <;> simp_all
    rw [hadd]
    simp only [World.cell?, hN]
    simpa using hu
  · intro g2 cap w' h1 h2 h3 _
    refine h _ w' ?_ ⟨g2, cap, rfl⟩ ?_
    · rw [coX_app, coX_one]
      exact h1
    · refine ⟨h2.os.trans hA.os, h2.tape.trans hA.tape, h2.output.trans hA.output, Nat.le_trans hA.size h2.size, fun k hk => ?_⟩
      refine (h2.block k (Nat.lt_of_lt_of_le (Nat.lt_of_lt_of_le hk hB) hA.size) (fun e => ?_)).trans (hA.block k (Nat.lt_of_lt_of_le hk hB))
      exact absurd (owns_blk hLw e.symm).1 (by omega)
set_option maxRecDepth 100000 in
set_option maxHeartbeats 4000000 in
theorem moved_any (v : Value) (cs : List Co) (n : Nat) (w Wp : World) (hC : ∃ a cp, v = .slice a cs.length cp ∧ ∀ (k : Nat) (c : Co), cs[k]? = some c → ∃ g o pv, a = some ⟨g, o, none⟩ ∧ w.rangeAt g (o + k * 19) (coV c pv) ∧ PRow Wp pv c.ps) (hl : cs.length ≤ 10000) (hn : n ≤ 10000) (hp : ∀ c ∈ cs, c.pl ≤ 10000) : Calls Tryz.prog 13 #[v, .int .i64 (n : Nat)] w fun e w' => ∃ v' L, e = .returned v' ∧ L.map (·.1) = cs.map (mv n) ∧ w'.ownsRow w.heap.size 41 19 v' L.length (coX L) ∧ (∀ x ∈ L, PRow Wp x.2 x.1.ps) ∧ Below w.heap.size w w' := by
  obtain ⟨a, cp, rfl, hC⟩ := hC
  have HC := hideT hC
  have HP := hideT hp
  clear hC hp
  go_enter Tryz.func13, Tryz.ntmps13
  go_wp2_with fail
  go_loopw [5, 10] (fun r i wr => ∃ (k : Nat) (L : List (Co × Value)), k ≤ cs.length ∧ i = .int .i64 k ∧ L.length = k ∧ Hid (L.map (·.1) = (cs.take k).map (mv n)) ∧ Hid (wr.ownsRow w.heap.size 41 19 r L.length (coX L)) ∧ Hid (∀ x ∈ L, PRow Wp x.2 x.1.ps) ∧ Hid (Below w.heap.size w wr)) (fun _ i _ => cs.length - (intOf i).toNat)
  case atStart => exact ⟨0, [], by omega, rfl, rfl, hideT rfl, hideT (World.ownsRow_nil _ _ _ _), hideT (fun _ h => by cases h), hideT (Below.refl _ _)⟩
  case round =>
    obtain ⟨k, L, hk, rfl, hLk, HM, HO, HR, HW⟩ := hrel
    by_cases hlt : k < cs.length
    · obtain ⟨g, o, pv, rfl, a1, u1⟩ := HC.out k _ (List.getElem?_eq_getElem hlt)
      obtain ⟨pp, pn, hpv⟩ := u1.shape
      have hpl := HP.out _ (List.getElem_mem hlt)
      have HM2 := hideT (show (cs.take (k + 1)).map (mv n) = L.map (·.1) ++ [mv n (cs[k]'hlt)] by rw [List.take_succ_eq_append_getElem hlt, List.map_append, HM.out]; rfl)
      generalize (cs[k]'hlt) = c at *
      subst hpv
      have i1 : (k : Int) < (cs.length : Int) := by omega
      have i2 : (0 : Int) ≤ (k : Int) := by omega
      have q1 := range_keep a1 (HW.out.block g (range_lt a1))
      obtain ⟨xs, hxs⟩ : ∃ xs, xs = coV c (.slice pp c.ps.length pn) := ⟨_, rfl⟩
      have hlx : xs.length = 19 := by rw [hxs]; rfl
      rw [← hxs] at q1
      have HQ := hideT q1
      have IM := hideT (show (Tryz.prog.info? 41).map (·.size) = some xs.length by rw [hlx]; exact info_cmd)
      have hN4 := heap_alloc_new wr (.cells #[.int .i64 0, .int .i64 0, .int .i64 0, .string ⟨#[]⟩, .int .i64 0, .int .i64 0, .string ⟨#[]⟩, .bool false, .int .u8 0, .string ⟨#[]⟩, .string ⟨#[]⟩, .string ⟨#[]⟩, .string ⟨#[]⟩, .slice none 0 0, .int .i64 0, .bool false, .bool false, .string ⟨#[]⟩, .string ⟨#[]⟩] 41)
      have hA4 := (Below.refl wr.heap.size wr).alloc (Nat.le_refl _) (.cells #[.int .i64 0, .int .i64 0, .int .i64 0, .string ⟨#[]⟩, .int .i64 0, .int .i64 0, .string ⟨#[]⟩, .bool false, .int .u8 0, .string ⟨#[]⟩, .string ⟨#[]⟩, .string ⟨#[]⟩, .string ⟨#[]⟩, .slice none 0 0, .int .i64 0, .bool false, .bool false, .string ⟨#[]⟩, .string ⟨#[]⟩] 41)
      have O9 := hideT (show xs.toArray.all (·.oneCell') = true by rw [hxs]; exact coV_one _ _ rfl)
      have IN9 := hideT (show (Tryz.prog.info? 41).map (·.size) = some xs.toArray.size by rw [show xs.toArray.size = 19 from hlx]; exact info_cmd)
      have TH9 := hideT (show (wr.alloc (.cells #[.int .i64 0, .int .i64 0, .int .i64 0, .string ⟨#[]⟩, .int .i64 0, .int .i64 0, .string ⟨#[]⟩, .bool false, .int .u8 0, .string ⟨#[]⟩, .string ⟨#[]⟩, .string ⟨#[]⟩, .string ⟨#[]⟩, .slice none 0 0, .int .i64 0, .bool false, .bool false, .string ⟨#[]⟩, .string ⟨#[]⟩] 41)).there wr.heap.size 0 xs.toArray.size by rw [show xs.toArray.size = 19 from hlx]; exact there_block hN4 19 rfl)
      have hn4 := setCells_whole (cs := [.int .i64 0, .int .i64 0, .int .i64 0, .string ⟨#[]⟩, .int .i64 0, .int .i64 0, .string ⟨#[]⟩, .bool false, .int .u8 0, .string ⟨#[]⟩, .string ⟨#[]⟩, .string ⟨#[]⟩, .string ⟨#[]⟩, .slice none 0 0, .int .i64 0, .bool false, .bool false, .string ⟨#[]⟩, .string ⟨#[]⟩]) xs hN4 (by rw [hlx]; rfl)
      have hS4 := below_setCells wr.heap.size (Nat.le_refl _) xs _ 0 hA4
      have HN := hideT (And.intro hn4 hS4)
      clear hN4 hA4 hn4 hS4 a1 q1 hlx
      have HX := hideT hxs
      clear hxs
      have wn : IntKind.i64.wrap ((c.pl : Int) + (n : Int)) = (c.pl : Int) + (n : Int) := by rw [IntKind.wrap_i64]; omega
      go_upto_region 4 with fail
      go_cut [7] from 11 to 23 (fun s7 w' => s7 = .pointer (some ⟨wr.heap.size, 0, none⟩) ∧ Hid (w'.heap[wr.heap.size]? = some (.cells xs.toArray 41 (0, 0)) ∧ Below wr.heap.size wr w'))
      case first =>
        go_wp2_with (first | (refine wpList_load_mid rfl 41 _ rfl g (o + k * 19) rfl xs _ HQ.out und_cmd rfl IM.out ?_) | (refine wpList_store_mid rfl 41 _ _ rfl wr.heap.size 0 xs.toArray rfl rfl TH9.out IN9.out O9.out ?_))
        simp only [Act.put]
        go_meet
        case rel => exact ⟨rfl, HN⟩
      case rest =>
        obtain ⟨rfl, HV⟩ := hcut
        have e19 := HX.out
        have q0 : wc.cell? ⟨wr.heap.size, 0, none⟩ = some (.int .i64 (c.pl : Nat)) := CmAt.cell HV.out.1 0 (by rw [e19]; rfl)
        have z0 := CmAt.fz HV.out.1 0
        have hput := CmAt.put HV.out.1 0 (.int .i64 ((c.pl : Int) + (n : Int)))
        have hset : xs.set 0 (.int .i64 ((c.pl : Int) + (n : Int))) = coV (mv n c) (.slice pp c.ps.length pn) := by rw [e19, show ((c.pl : Int) + (n : Int)) = (((mv n c).pl : Nat) : Int) by show _ = (((n + c.pl : Nat)) : Int); omega]; rfl
        rw [hset] at hput
        have hBS : Below wr.heap.size wr (wc.setCell ⟨wr.heap.size, 0, none⟩ (.int .i64 ((c.pl : Int) + (n : Int)))) := HV.out.2.setCell (p := ⟨wr.heap.size, 0, none⟩) (Nat.le_refl _) _
        have HL := hideT (show (wc.setCell ⟨wr.heap.size, 0, none⟩ (.int .i64 ((c.pl : Int) + (n : Int)))).rangeAt wr.heap.size 0 (coV (mv n c) (.slice pp c.ps.length pn)) from range_block hput)
        have IM2 := hideT (show (Tryz.prog.info? 41).map (·.size) = some (coV (mv n c) (.slice pp c.ps.length pn)).length from info_cmd)
        have HOw := hideT (owns_keep HO.out (fun g hg => by
          obtain ⟨h1, h2, _⟩ := owns_blk HO.out hg
          exact hBS.block g h2))
        have HBS := hideT hBS
        have hsz := Nat.le_trans HW.out.size hBS.size
        clear hBS hput hset e19 HV HX HN TH9 IN9 O9 IM HQ HO
        go_wp2_with (first | (refine wpList_load_mid rfl 41 _ rfl wr.heap.size 0 rfl (coV (mv n c) (.slice pp c.ps.length pn)) _ HL.out und_cmd rfl IM2.out ?_) | (refine wl_value rfl (bld_one _ rfl (mv n c) pp c.ps.length pn rfl) ?_) | (at_builtin; refine append_mv rfl _ _ rfl w.heap.size _ L (mv n c) (.slice pp c.ps.length pn) rfl rfl HOw.out rfl _ rfl (by omega) hsz ?_; intro v' w' hL ⟨g2, cap, hv'⟩ hT; subst hv'; have L3 := hideT hL; have T3 := hideT hT; clear hL hT))
        refine ⟨⟨k + 1, L ++ [(mv n c, .slice pp c.ps.length pn)], by omega, by go_num, by rw [List.length_append, List.length_singleton, hLk], hideT ?_, hideT ?_, hideT ?_, hideT ?_⟩, by simp [intOf]; omega⟩
        · rw [List.map_append]; exact HM2.out.symm
        · rw [List.length_append, List.length_singleton, ← hLk]; exact L3.out
        · intro x hx
          rcases List.mem_append.1 hx with hx | hx
          · exact HR.out x hx
          · rw [List.mem_singleton.1 hx]; exact u1
        · exact (HW.out.trans (HBS.out.mono HW.out.size)).trans T3.out
    · obtain rfl : k = cs.length := by omega
      have i1 : ((cs.length : Int) < (cs.length : Int)) = False := by rw [eq_iff_iff, iff_false]; omega
      have HM2 := HM.out
      rw [List.take_length] at HM2
      have HM3 := hideT HM2
      clear HM2
      go_wp2
      go_ret
      exact ⟨_, L, rfl, HM3.out, HO.out, HR.out, HW.out⟩
end Go.Proofs.YtjfkhlmoppbbgaaGreatDoor
