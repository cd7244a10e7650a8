/- script: Parse, with nothing left open. -/
import Derived.Test.YtjfkhlmoppbbgaaGreatDoorKXs1
import Derived.Test.YtjfkhlmoppbbgaaGreatDoorKXw1
namespace Go.Proofs.YtjfkhlmoppbbgaaGreatDoor
open Go.RowKit
open scanP scrP tpl ytb

/-- What Parse answers, of any text. -/
theorem parse_ok (s : ByteArray) (hs : s.size ≤ 140737488355000) (w : World) (hg : Gl w) : Calls Tryz.prog 9 #[.string s] w (PP gM s w) := Go.Proofs.YtjfkhlmoppbbgaaGreatDoor.parse_any new_ok tabOk s hs w hg
end Go.Proofs.YtjfkhlmoppbbgaaGreatDoor

/- script: the document's Same of two commands that read alike; of two lists. -/
namespace Go.Proofs.YtjfkhlmoppbbgaaGreatDoor
open Go.RowKit
open scanP scrP tpl ytb

set_option maxRecDepth 100000 in
set_option maxHeartbeats 1000000 in
/-- Same of two lists of the same parts. -/
theorem parts_same (a b : Value) (l : List Pt) (w : World) (ha : PRow w a l) (hb : PRow w b l) (hl : l.length ≤ 9223372036854775807) :
    Calls Tryz.prog 16 #[a, b] w fun e w' => e = .returned (.bool true) ∧ Below w.heap.size w w' := by
  obtain ⟨pa, ca, rfl⟩ := ha.shape
  obtain ⟨pb, cb, rfl⟩ := hb.shape
  go_enter Tryz.func16, Tryz.ntmps16
  go_wp2_with fail
  go_loopw [5] (fun i wr => ∃ k : Nat, k ≤ l.length ∧ i = .int .i64 k ∧ Below w.heap.size w wr) (fun i _ => l.length - (intOf i).toNat)
  case atStart => exact ⟨0, by omega, rfl, Below.refl _ _⟩
  case round =>
    obtain ⟨k, hk, rfl, hB⟩ := hrel
    by_cases hlt : k < l.length
    · rcases ha with ⟨rfl, -⟩ | ⟨g, off, c, e1, ha⟩
      · simp at hlt
      rcases hb with ⟨rfl, -⟩ | ⟨g2, off2, c2, e2, hb⟩
      · simp at hlt
      cases e1
      cases e2
      obtain ⟨a1, a2⟩ := ha k hlt
      obtain ⟨b1, b2⟩ := hb k hlt
      have c1 := tpl.keep_cell hB a1
      have c2 := tpl.keep_cell hB a2
      have d1 := tpl.keep_cell hB b1
      have d2 := tpl.keep_cell hB b2
      have i1 : (k : Int) < (l.length : Int) := by omega
      have i2 : (0 : Int) ≤ (k : Int) := by omega
      go_upto_region 6 with fail
      go_quiet (fail)
      go_wp2
      exact ⟨⟨k + 1, by omega, by go_num, hB.trans (tpl.below_drewN _ _ _)⟩, by simp [intOf]; omega⟩
    · obtain rfl : k = l.length := by omega
      go_wp2
      go_ret
      exact ⟨rfl, hB⟩

set_option maxRecDepth 100000 in
set_option maxHeartbeats 4000000 in
theorem same_cmd (c : Co) (pv qv : Value) (W : World) (h : PRow W pv c.ps) (h' : PRow W qv c.ps) (hl : c.ps.length ≤ 1000000000000000) : Calls Tryz.prog 24 #[.agg (coV c pv).toArray, .agg (coV c qv).toArray, .bool true] W fun e w' => e = .returned (.bool true) ∧ Below W.heap.size W w' := by
  have HH := hideT (And.intro h h')
  have HL := hideT hl
  clear h h' hl
  go_enter Tryz.func24, Tryz.ntmps24
  go_upto_region 1 with fail
  have hb : Below W.heap.size W ((W.alloc (.cells (coV c pv).toArray 41)).alloc (.cells (coV c qv).toArray 41)) := ((Below.refl _ _).alloc (Nat.le_refl _) _).alloc (by simp) _
  have hk1 : ((W.alloc (.cells (coV c pv).toArray 41)).alloc (.cells (coV c qv).toArray 41)).heap[W.heap.size]? = some (.cells (coV c pv).toArray 41 (0, 0)) := (Below.heap_alloc _ _ _ (by simp)).trans (heap_alloc_new W _)
  have hk2 : ((W.alloc (.cells (coV c pv).toArray 41)).alloc (.cells (coV c qv).toArray 41)).heap[W.heap.size + 1]? = some (.cells (coV c qv).toArray 41 (0, 0)) := by
    have h1 := heap_alloc_new (W.alloc (.cells (coV c pv).toArray 41)) (.cells (coV c qv).toArray 41)
    rw [World.size_alloc] at h1
    exact h1
  obtain ⟨X, hX⟩ : ∃ X, X = ((W.alloc (.cells (coV c pv).toArray 41)).alloc (.cells (coV c qv).toArray 41)) := ⟨_, rfl⟩
  rw [← hX] at hb hk1 hk2 ⊢
  obtain ⟨N, hN⟩ : ∃ N, N = W.heap.size := ⟨_, rfl⟩
  rw [← hN] at hk1 hk2 ⊢
  have HXB := hideT hb
  have HX1 := hideT hk1
  have HX2 := hideT hk2
  have p1 : X.cell? ⟨N, 13, none⟩ = some pv := by have h := tpl.range_block hk1 13 _ rfl; simpa using h
  have p2 : X.cell? ⟨N + 1, 13, none⟩ = some qv := by have h := tpl.range_block hk2 13 _ rfl; simpa using h
  have HPS := hideT (parts_same pv qv c.ps X (HH.out.1.stay hb (Nat.le_refl _)) (HH.out.2.stay hb (Nat.le_refl _)) (by have := HL.out; omega))
  have HNN := hideT hN
  clear hX hb hk1 hk2 hN
  go_wp2_with fail
  refine HPS.out.mono ?_
  rintro e w1 ⟨rfl, hb1⟩
  have HK1 := hideT ((hb1.block N (Array.getElem?_eq_some_iff.1 HX1.out).1).trans HX1.out)
  have HK2 := hideT ((hb1.block (N + 1) (Array.getElem?_eq_some_iff.1 HX2.out).1).trans HX2.out)
  have HF := hideT (HXB.out.trans (hb1.mono HXB.out.size))
  clear hb1 p1 p2 HPS
  have a0 : w1.cell? ⟨N, 0, none⟩ = some (.int .i64 (c.pl : Nat)) := by have h := tpl.range_block HK1.out 0 _ rfl; simpa using h
  have d0 : w1.cell? ⟨N + 1, 0, none⟩ = some (.int .i64 (c.pl : Nat)) := by have h := tpl.range_block HK2.out 0 _ rfl; simpa using h
  have a1 : w1.cell? ⟨N, 1, none⟩ = some (.int .i64 (c.a.k : Nat)) := by have h := tpl.range_block HK1.out 1 _ rfl; simpa using h
  have d1 : w1.cell? ⟨N + 1, 1, none⟩ = some (.int .i64 (c.a.k : Nat)) := by have h := tpl.range_block HK2.out 1 _ rfl; simpa using h
  have a2 : w1.cell? ⟨N, 2, none⟩ = some (.int .i64 (c.a.ln : Nat)) := by have h := tpl.range_block HK1.out 2 _ rfl; simpa using h
  have d2 : w1.cell? ⟨N + 1, 2, none⟩ = some (.int .i64 (c.a.ln : Nat)) := by have h := tpl.range_block HK2.out 2 _ rfl; simpa using h
  have a3 : w1.cell? ⟨N, 3, none⟩ = some (.string (bst c.a.re)) := by have h := tpl.range_block HK1.out 3 _ rfl; simpa using h
  have d3 : w1.cell? ⟨N + 1, 3, none⟩ = some (.string (bst c.a.re)) := by have h := tpl.range_block HK2.out 3 _ rfl; simpa using h
  have a4 : w1.cell? ⟨N, 4, none⟩ = some (.int .i64 (c.b.k : Nat)) := by have h := tpl.range_block HK1.out 4 _ rfl; simpa using h
  have d4 : w1.cell? ⟨N + 1, 4, none⟩ = some (.int .i64 (c.b.k : Nat)) := by have h := tpl.range_block HK2.out 4 _ rfl; simpa using h
  have a5 : w1.cell? ⟨N, 5, none⟩ = some (.int .i64 (c.b.ln : Nat)) := by have h := tpl.range_block HK1.out 5 _ rfl; simpa using h
  have d5 : w1.cell? ⟨N + 1, 5, none⟩ = some (.int .i64 (c.b.ln : Nat)) := by have h := tpl.range_block HK2.out 5 _ rfl; simpa using h
  have a6 : w1.cell? ⟨N, 6, none⟩ = some (.string (bst c.b.re)) := by have h := tpl.range_block HK1.out 6 _ rfl; simpa using h
  have d6 : w1.cell? ⟨N + 1, 6, none⟩ = some (.string (bst c.b.re)) := by have h := tpl.range_block HK2.out 6 _ rfl; simpa using h
  have a7 : w1.cell? ⟨N, 7, none⟩ = some (.bool c.nt) := by have h := tpl.range_block HK1.out 7 _ rfl; simpa using h
  have d7 : w1.cell? ⟨N + 1, 7, none⟩ = some (.bool c.nt) := by have h := tpl.range_block HK2.out 7 _ rfl; simpa using h
  have a8 : w1.cell? ⟨N, 8, none⟩ = some (.int .u8 (c.nm.toNat : Nat)) := by have h := tpl.range_block HK1.out 8 _ rfl; simpa using h
  have d8 : w1.cell? ⟨N + 1, 8, none⟩ = some (.int .u8 (c.nm.toNat : Nat)) := by have h := tpl.range_block HK2.out 8 _ rfl; simpa using h
  have a9 : w1.cell? ⟨N, 9, none⟩ = some (.string (bst c.lb)) := by have h := tpl.range_block HK1.out 9 _ rfl; simpa using h
  have d9 : w1.cell? ⟨N + 1, 9, none⟩ = some (.string (bst c.lb)) := by have h := tpl.range_block HK2.out 9 _ rfl; simpa using h
  have a10 : w1.cell? ⟨N, 10, none⟩ = some (.string (bst c.tx)) := by have h := tpl.range_block HK1.out 10 _ rfl; simpa using h
  have d10 : w1.cell? ⟨N + 1, 10, none⟩ = some (.string (bst c.tx)) := by have h := tpl.range_block HK2.out 10 _ rfl; simpa using h
  have a11 : w1.cell? ⟨N, 11, none⟩ = some (.string (bst c.fl)) := by have h := tpl.range_block HK1.out 11 _ rfl; simpa using h
  have d11 : w1.cell? ⟨N + 1, 11, none⟩ = some (.string (bst c.fl)) := by have h := tpl.range_block HK2.out 11 _ rfl; simpa using h
  have a12 : w1.cell? ⟨N, 12, none⟩ = some (.string (bst c.re)) := by have h := tpl.range_block HK1.out 12 _ rfl; simpa using h
  have d12 : w1.cell? ⟨N + 1, 12, none⟩ = some (.string (bst c.re)) := by have h := tpl.range_block HK2.out 12 _ rfl; simpa using h
  have a14 : w1.cell? ⟨N, 14, none⟩ = some (.int .i64 (c.nh : Nat)) := by have h := tpl.range_block HK1.out 14 _ rfl; simpa using h
  have d14 : w1.cell? ⟨N + 1, 14, none⟩ = some (.int .i64 (c.nh : Nat)) := by have h := tpl.range_block HK2.out 14 _ rfl; simpa using h
  have a15 : w1.cell? ⟨N, 15, none⟩ = some (.bool c.an) := by have h := tpl.range_block HK1.out 15 _ rfl; simpa using h
  have d15 : w1.cell? ⟨N + 1, 15, none⟩ = some (.bool c.an) := by have h := tpl.range_block HK2.out 15 _ rfl; simpa using h
  have a16 : w1.cell? ⟨N, 16, none⟩ = some (.bool c.pr) := by have h := tpl.range_block HK1.out 16 _ rfl; simpa using h
  have d16 : w1.cell? ⟨N + 1, 16, none⟩ = some (.bool c.pr) := by have h := tpl.range_block HK2.out 16 _ rfl; simpa using h
  have a17 : w1.cell? ⟨N, 17, none⟩ = some (.string (bst c.fr)) := by have h := tpl.range_block HK1.out 17 _ rfl; simpa using h
  have d17 : w1.cell? ⟨N + 1, 17, none⟩ = some (.string (bst c.fr)) := by have h := tpl.range_block HK2.out 17 _ rfl; simpa using h
  have a18 : w1.cell? ⟨N, 18, none⟩ = some (.string (bst c.to)) := by have h := tpl.range_block HK1.out 18 _ rfl; simpa using h
  have d18 : w1.cell? ⟨N + 1, 18, none⟩ = some (.string (bst c.to)) := by have h := tpl.range_block HK2.out 18 _ rfl; simpa using h
  clear HK1 HK2 HX1 HX2 HH
  go_wp2
  go_ret
  exact ⟨rfl, HF.out⟩

end Go.Proofs.YtjfkhlmoppbbgaaGreatDoor

/- script: the document's SameList of two lists of commands that read alike. -/
namespace Go.Proofs.YtjfkhlmoppbbgaaGreatDoor
open Go.RowKit
open scanP scrP tpl ytb

theorem range_lt {W : World} {g o : Nat} {c : Co} {pv : Value} (h : W.rangeAt g o (coV c pv)) : g < W.heap.size := tpl.cell_lt (h 0 _ rfl)
theorem range_keep {W W' : World} {g o : Nat} {xs : List Value} (h : W.rangeAt g o xs) (e : W'.heap[g]? = W.heap[g]?) : W'.rangeAt g o xs := fun j v hv => (World.cell?_of_block (a := ⟨g, o + j, none⟩) e).trans (h j v hv)
/-- A slice that reads as a list of commands, their parts too. -/
def CRow (W : World) (v : Value) (l : List Co) : Prop := ∃ a cp, v = .slice a l.length cp ∧ ∀ (k : Nat) (c : Co), l[k]? = some c → ∃ g o pv, a = some ⟨g, o, none⟩ ∧ W.rangeAt g (o + k * 19) (coV c pv) ∧ PRow W pv c.ps
theorem load_yield {g o : Nat} {c : Co} {pv : Value} {V : World} {a : Act} {op : Oper} {x : Operand} (ho : op.op = .load 41 x) (hx : a.eval x = .pointer (some ⟨g, o, none⟩)) (h : V.rangeAt g o (coV c pv)) : (execOp a.eval op).run Tryz.prog V = .ok (.value (.agg (coV c pv).toArray)) V := by
  have h1 := run_loadAt_mid (P := Tryz.prog) V g o 41 (coV c pv) _ h und_cmd rfl (by rw [info_cmd]; rfl)
  simp [execOp, ho, hx, h1]

set_option maxRecDepth 100000 in
set_option maxHeartbeats 4000000 in
theorem sameList_any (a b : Value) (l : List Co) (W : World) (ha : CRow W a l) (hb : CRow W b l) (hp : ∀ c ∈ l, c.ps.length ≤ 1000000000000000) (hl : l.length ≤ 100000000) : Calls Tryz.prog 12 #[a, b, .bool true] W fun e w' => e = .returned (.bool true) ∧ Below W.heap.size W w' := by
  obtain ⟨pa, ca, rfl, ha⟩ := ha
  obtain ⟨pb, cb, rfl, hb⟩ := hb
  have HA := hideT ha
  have HB := hideT hb
  have HP := hideT hp
  clear ha hb hp
  go_enter Tryz.func12, Tryz.ntmps12
  go_wp2_with fail
  go_loopw [7] (fun i wr => ∃ k : Nat, k ≤ l.length ∧ i = .int .i64 k ∧ Hid (Below W.heap.size W wr)) (fun i _ => l.length - (intOf i).toNat)
  case atStart => exact ⟨0, by omega, rfl, hideT (Below.refl _ _)⟩
  case round =>
    obtain ⟨k, hk, rfl, HW⟩ := hrel
    by_cases hlt : k < l.length
    · obtain ⟨g, o, pv, rfl, a1, u1⟩ := HA.out k _ (List.getElem?_eq_getElem hlt)
      obtain ⟨g2, o2, qv, rfl, b1, u2⟩ := HB.out k _ (List.getElem?_eq_getElem hlt)
      have hpk := HP.out _ (List.getElem_mem hlt)
      generalize (l[k]'hlt) = c at *
      have i1 : (k : Int) < (l.length : Int) := by omega
      have i2 : (0 : Int) ≤ (k : Int) := by omega
      have q1 := range_keep a1 (HW.out.block g (range_lt a1))
      have q2 := range_keep b1 (HW.out.block g2 (range_lt b1))
      have HR1 := hideT (fun (V : World) (hV : Below wr.heap.size wr V) => range_keep q1 (hV.block g (range_lt q1)))
      have HR2 := hideT (fun (V : World) (hV : Below wr.heap.size wr V) => range_keep q2 (hV.block g2 (range_lt q2)))
      have s0 : Below wr.heap.size wr wr.drew := (Below.refl _ _).drew
      have HS := hideT (same_cmd c pv qv wr.drew ((u1.stay HW.out (Nat.le_refl _)).stay s0 (Nat.le_refl _)) ((u2.stay HW.out (Nat.le_refl _)).stay s0 (Nat.le_refl _)) hpk)
      clear a1 b1 u1 u2 hpk q1 q2
      go_wp2_with fail
      refine wp_region_held (S := fun V => Below wr.heap.size wr V) (by kernel_rfl) ?_
      refine' take_d 0 (some 19) rfl rfl (by kernel_rfl) (by kernel_rfl) (by kernel_rfl) (fun _ _ _ h => h) (wanted_none rfl _) s0 ?tk1 ?rs1
      case tk1 => intro V hV; go_simp; (try with_reducible rfl)
      refine' take_d 1 (some 20) rfl rfl (by kernel_rfl) (by kernel_rfl) (by kernel_rfl) (fun _ _ _ h => h) (wanted_none rfl _) s0 ?tk2 ?rs2
      case tk2 => intro V hV; go_simp; (try with_reducible rfl)
      refine' take_d 2 (some 21) rfl rfl (by kernel_rfl) (by kernel_rfl) (by kernel_rfl) (fun _ _ _ h => h) (wanted_none rfl _) s0 ?tk3 ?rs3
      case tk3 => intro V hV; go_simp; (try with_reducible rfl)
      simp only [Act.put, List.setIfInBounds_toArray, List.set_cons_zero, List.set_cons_succ]
      refine' take_d 3 (some 22) rfl rfl (by kernel_rfl) (by kernel_rfl) (by kernel_rfl) (fun _ _ _ h => h) (wanted_none rfl _) s0 ?tk4 ?rs4
      case tk4 => intro V hV; exact load_yield rfl rfl (HR1.out V hV)
      refine' take_d 4 (some 23) rfl rfl (by kernel_rfl) (by kernel_rfl) (by kernel_rfl) (fun _ _ _ h => h) (wanted_none rfl _) s0 ?tk5 ?rs5
      case tk5 => intro V hV; go_simp; (try with_reducible rfl)
      refine' take_d 5 (some 24) rfl rfl (by kernel_rfl) (by kernel_rfl) (by kernel_rfl) (fun _ _ _ h => h) (wanted_none rfl _) s0 ?tk6 ?rs6
      case tk6 => intro V hV; go_simp; (try with_reducible rfl)
      refine' take_d 6 (some 25) rfl rfl (by kernel_rfl) (by kernel_rfl) (by kernel_rfl) (fun _ _ _ h => h) (wanted_none rfl _) s0 ?tk7 ?rs7
      case tk7 => intro V hV; go_simp; (try with_reducible rfl)
      simp only [Act.put, List.setIfInBounds_toArray, List.set_cons_zero, List.set_cons_succ]
      refine' take_d 7 (some 26) rfl rfl (by kernel_rfl) (by kernel_rfl) (by kernel_rfl) (fun _ _ _ h => h) (wanted_none rfl _) s0 ?tk8 ?rs8
      case tk8 => intro V hV; exact load_yield rfl rfl (HR2.out V hV)
      refine' take_d 8 (some 27) rfl rfl (by kernel_rfl) (by kernel_rfl) (by kernel_rfl) (fun _ _ _ h => h) (wanted_none rfl _) s0 ?tk9 ?rs9
      case tk9 => intro V hV; go_simp; (try with_reducible rfl)
      simp only [Act.put, List.setIfInBounds_toArray, List.set_cons_zero, List.set_cons_succ]
      refine wpAnyH_all (rs := [9]) (by kernel_rfl) (by simp) (fun i hi => ?_)
      obtain rfl : i = 9 := List.mem_singleton.1 hi
      refine op_call (some 28) rfl rfl (wanted_none rfl _) (by go_simp; (try with_reducible rfl)) (R := fun v w' => v = .bool true ∧ Below wr.heap.size wr w') (HS.out.mono (fun e w' h => ⟨_, h.1, rfl, s0.trans (h.2.mono s0.size)⟩)) ?_
      rintro v8 w8 ⟨rfl, hb8⟩
      refine And.intro hb8 ?_
      refine' take_d 10 (some 29) rfl rfl (by kernel_rfl) (by kernel_rfl) (by kernel_rfl) (fun _ _ _ h => h) (wanted_none rfl _) hb8 ?tk10 ?rs10
      case tk10 => intro V hV; go_simp; (try with_reducible rfl)
      refine wpAnyH_done (by kernel_rfl) ?_ _
      simp only [Act.put, List.setIfInBounds_toArray, List.set_cons_zero, List.set_cons_succ]
      have HF := hideT (HW.out.trans (hb8.mono HW.out.size))
      clear hb8 s0 HS HR1 HR2
      go_wp2
      exact ⟨⟨k + 1, by omega, by go_num, HF⟩, by simp [intOf]; omega⟩
    · obtain rfl : k = l.length := by omega
      have i1 : ((l.length : Int) < (l.length : Int)) = False := by rw [eq_iff_iff, iff_false]; omega
      go_wp2
      go_ret
      exact ⟨rfl, HW.out⟩
end Go.Proofs.YtjfkhlmoppbbgaaGreatDoor

/- script: what awake asks, by the text alone. -/
namespace Go.Proofs.YtjfkhlmoppbbgaaGreatDoor
open Go.RowKit
open scanP scrP tpl ytb

theorem tok_x : br.tokenT (bst [120]) 0 4 = br.selfT 120 0 1 := by
  unfold br.tokenT
  rw [if_neg (by decide), if_neg (by decide), if_neg (by decide), if_neg (by decide), if_neg (by decide), if_neg (by decide)]
  rfl
theorem tok_a : br.tokenT (bst [97]) 0 4 = br.selfT 97 0 1 := by
  unfold br.tokenT
  rw [if_neg (by decide), if_neg (by decide), if_neg (by decide), if_neg (by decide), if_neg (by decide), if_neg (by decide)]
  rfl
theorem parse_one (b : UInt8) (n : Nat) (ht : br.tokenT (bst [b]) 0 4 = br.selfT n 0 1) : br.parseT (bst [b]) = .ok [br.byteT (br.selfP n)] := by
  have hz : (bst [b]).size = 1 := rfl
  have e1 : br.runT (bst [b]) ((bst [b]).size + 1) 0 4 br.Ps.start = .ok (br.Ps.start.add (br.byteT (br.selfP n)) 1) := by
    rw [hz, br.runT, if_pos (by rw [hz]; decide), ht]
    have e2 : br.Ps.start.take (br.selfT n 0 1) = (0, br.Ps.start.add (br.byteT (br.selfP n)) 1) := rfl
    rw [e2, if_pos rfl, br.runT, if_neg (by rw [hz]; show ¬ (1 < 1); decide)]
  unfold br.parseT
  rw [if_neg (by rw [hz]; decide), e1]
  rfl
theorem g_one (b : UInt8) (n : Nat) (ht : br.tokenT (bst [b]) 0 4 = br.selfT n 0 1) : gM [b] = (0, 0) := by
  unfold gM br.ofM
  rw [parse_one b n ht]
  rfl
theorem g_as : ∃ g : Gr, gM = fun t => if t = [120] then (0, 0) else if t = [97] then (0, 0) else g t := ⟨gM, funext fun t => by
  split
  · rename_i h; rw [h]; exact g_one 120 120 tok_x
  · split
    · rename_i h; rw [h]; exact g_one 97 97 tok_a
    · rfl⟩
/-- The command of awake. -/
def awC : Co := ⟨9, ⟨1, 2, []⟩, ⟨3, 0, [120]⟩, true, 115, [], [], [], [97], [⟨-1, bst [98]⟩], 2, true, true, [], []⟩
theorem aw_one : scrR gM [35, 110, 10, 50, 44, 47, 120, 47, 33, 115, 47, 97, 47, 98, 47, 50, 103, 112] = ([awC], true, 0, 0) := by
  obtain ⟨g, h⟩ := g_as
  rw [h]
  kernel_rfl
theorem aw_two : scrR gM [49, 44, 112] = ([], false, 17, 2) := by
  obtain ⟨g, h⟩ := g_as
  rw [h]
  kernel_rfl
end Go.Proofs.YtjfkhlmoppbbgaaGreatDoor

/- script: a list of one's own reads as its commands. -/
namespace Go.Proofs.YtjfkhlmoppbbgaaGreatDoor
open Go.RowKit
open scanP scrP tpl ytb

theorem coX_at : ∀ (l : List (Co × Value)) (k : Nat) (x : Co × Value), l[k]? = some x → ∀ (j : Nat) (v : Value), (coV x.1 x.2)[j]? = some v → (coX l)[k * 19 + j]? = some v
  | [], k, x, h, j, v, hv => by simp at h
  | y :: r, 0, x, h, j, v, hv => by
    have e : y = x := by simpa using h
    subst e
    have hj := (List.getElem?_eq_some_iff.1 hv).1
    rw [coX, Nat.zero_mul, Nat.zero_add, List.getElem?_append_left hj]
    exact hv
  | y :: r, k + 1, x, h, j, v, hv => by
    have h' : r[k]? = some x := by simpa using h
    rw [coX, List.getElem?_append_right (by rw [coV_len]; omega), coV_len, show (k + 1) * 19 + j - 19 = k * 19 + j by omega]
    exact coX_at r k x h' j v hv
theorem LsAt.crow {W : World} {B : Nat} {v : Value} {L : List (Co × Value)} (h : LsAt W B v L) : CRow W v (L.map (·.1)) := by
  rcases h.own.2 with ⟨rfl, h0⟩ | ⟨g, cap, cur, rfl, hg, hh, hrest⟩
  · have : L = [] := List.eq_nil_of_length_eq_zero h0
    subst this
    exact ⟨none, 0, rfl, fun k c hc => by simp at hc⟩
  · refine ⟨some ⟨g, 0, none⟩, cap, by rw [List.length_map], fun k c hc => ?_⟩
    rw [List.getElem?_map] at hc
    cases hx : L[k]? with
    | none => rw [hx] at hc; cases hc
    | some x =>
      rw [hx] at hc
      cases hc
      refine ⟨g, 0, x.2, rfl, fun j u hu => ?_, PRow.of_owns (h.pa x (List.mem_of_getElem? hx))⟩
      have h1 := h.own.cells (g := g) rfl (k * 19 + j) _ (coX_at L k x hx j u hu)
      have hplain : ∀ k, (⟨g, 0, none⟩ : Addr).add k = ⟨g, 0 + k, none⟩ := fun k => by unfold Addr.add; split <;> simp_all
      rw [hplain] at h1
      rw [Nat.add_assoc]
      exact h1
/-- Parse, as one who reads its answer sees it. -/
theorem parse_reads (s : ByteArray) (hs : s.size ≤ 140737488355000) (w : World) (hg : Gl w) : Calls Tryz.prog 9 #[.string s] w fun e w' => ∃ v, e = .returned (.tuple #[v, .bool (scrR gM s.data.toList).2.1, .agg #[.int .i64 ((scrR gM s.data.toList).2.2.1 : Nat), .int .i64 ((scrR gM s.data.toList).2.2.2 : Nat)]]) ∧ CRow w' v (scrR gM s.data.toList).1 ∧ Below w.heap.size w w' := by
  refine (parse_ok s hs w hg).mono ?_
  rintro e w' ⟨v, L, rfl, hL, hm, hb⟩
  exact ⟨v, rfl, hm ▸ hL.crow, hb⟩
theorem aw_first (w : World) (hg : Gl w) : Calls Tryz.prog 9 #[.string ⟨#[35, 110, 10, 50, 44, 47, 120, 47, 33, 115, 47, 97, 47, 98, 47, 50, 103, 112]⟩] w fun e w' => ∃ g o cp pv, e = .returned (.tuple #[.slice (some ⟨g, o, none⟩) 1 cp, .bool true, .agg #[.int .i64 0, .int .i64 0]]) ∧ w'.rangeAt g o (coV awC pv) ∧ PRow w' pv awC.ps ∧ Below w.heap.size w w' := by
  refine (parse_reads _ (by decide) w hg).mono ?_
  rintro e w' ⟨v, rfl, hC, hb⟩
  rw [aw_one] at hC ⊢
  obtain ⟨a, cp, rfl, hC⟩ := hC
  obtain ⟨g, o, pv, rfl, h1, h2⟩ := hC 0 awC rfl
  exact ⟨g, o, cp, pv, rfl, by simpa using h1, h2, hb⟩
theorem aw_next (w : World) (hg : Gl w) : Calls Tryz.prog 9 #[.string ⟨#[49, 44, 112]⟩] w fun e w' => ∃ v, e = .returned (.tuple #[v, .bool false, .agg #[.int .i64 17, .int .i64 2]]) ∧ Below w.heap.size w w' := by
  refine (parse_reads _ (by decide) w hg).mono ?_
  rintro e w' ⟨v, rfl, hC, hb⟩
  rw [aw_two]
  exact ⟨v, rfl, hb⟩
end Go.Proofs.YtjfkhlmoppbbgaaGreatDoor
