/- Same, awake, and the walk of ShowBack. -/
import Derived.Test.YtidgnebbibkmhaaGreatDoorKSw5
set_option maxRecDepth 100000
set_option maxHeartbeats 4000000
namespace Go.Proofs.YtidgnebbibkmhaaGreatDoor
open Go.RowKit
open scanP scrP tpl ytb
namespace sho
theorem parts_same (a b : Value) (l : List Pt) (w : World) (ha : PRow w a l) (hb : PRow w b l) (hl : l.length ≤ 9223372036854775807) :
  Calls Tryz.prog 30 #[a, b] w fun e w' => e = .returned (.bool true) ∧ Below w.heap.size w w' := by
 obtain ⟨pa, ca, rfl⟩ := ha.shape
 obtain ⟨pb, cb, rfl⟩ := hb.shape
 go_enter Tryz.func30, Tryz.ntmps30
 go_wp2_with fail
 go_loopw [5] (fun i wr => ∃ k : Nat, k ≤ l.length ∧ i = .int .i64 k ∧ Below w.heap.size w wr) (fun i _ => l.length - (intOf i).toNat)
 case atStart => exact ⟨0, by omega, rfl, Below.refl _ _⟩
 case round =>
  obtain ⟨k, hk, rfl, hB⟩ := hrel
  by_cases hlt : k < l.length
  ·rcases ha with ⟨rfl, -⟩ | ⟨g, off, c, e1, ha⟩
   ·simp at hlt
   rcases hb with ⟨rfl, -⟩ | ⟨g2, off2, c2, e2, hb⟩
   ·simp at hlt
   cases e1
   cases e2
   obtain ⟨a1, a2⟩ := ha k hlt
   obtain ⟨b1, b2⟩ := hb k hlt
   have c1 := tpl.keep_cell hB a1
   have c2 := tpl.keep_cell hB a2
   have d1 := tpl.keep_cell hB b1
   have d2 := tpl.keep_cell hB b2
   have i1 : (k : Int) < (l.length : Int) := by omega
   have i2 : (0 : Int) ≤ (k : Int) := by omega
   go_upto_region 6 with fail
   go_quiet (fail)
   go_wp2
   exact ⟨⟨k + 1, by omega, by go_num, hB.trans (tpl.below_drewN _ _ _)⟩, by simp [intOf]; omega⟩
  ·obtain rfl : k = l.length := by omega
   go_wp2
   go_ret
   exact ⟨rfl, hB⟩
theorem same_cmd (c : Co) (q : Nat) (pv qv : Value) (W : World) (h : PRow W pv c.ps) (h' : PRow W qv c.ps) (hl : c.ps.length ≤ 1000000000000000) : Calls Tryz.prog 17 #[.agg (coV c pv).toArray, .agg (coV { c with pl := q } qv).toArray, .bool false] W fun e w' => e = .returned (.bool true) ∧ Below W.heap.size W w' := by
 have HH := hideT (And.intro h h')
 have HL := hideT hl
 clear h h' hl
 go_enter Tryz.func17, Tryz.ntmps17
 go_upto_region 1 with fail
 have hb : Below W.heap.size W ((W.alloc (.cells (coV c pv).toArray 39)).alloc (.cells (coV { c with pl := q } qv).toArray 39)) := ((Below.refl _ _).alloc (Nat.le_refl _) _).alloc (by simp) _
 have hk1 : CmAt ((W.alloc (.cells (coV c pv).toArray 39)).alloc (.cells (coV { c with pl := q } qv).toArray 39)) W.heap.size (coV c pv) := (Below.heap_alloc _ _ _ (by simp)).trans (heap_alloc_new W _)
 have hk2 : CmAt ((W.alloc (.cells (coV c pv).toArray 39)).alloc (.cells (coV { c with pl := q } qv).toArray 39)) (W.heap.size + 1) (coV { c with pl := q } qv) := by
  have h1 := heap_alloc_new (W.alloc (.cells (coV c pv).toArray 39)) (.cells (coV { c with pl := q } qv).toArray 39)
  rw [World.size_alloc] at h1
  exact h1
 obtain ⟨X, hX⟩ : ∃ X, X = ((W.alloc (.cells (coV c pv).toArray 39)).alloc (.cells (coV { c with pl := q } qv).toArray 39)) := ⟨_, rfl⟩
 rw [← hX] at hb hk1 hk2 ⊢
 obtain ⟨N, hN⟩ : ∃ N, N = W.heap.size := ⟨_, rfl⟩
 rw [← hN] at hk1 hk2 ⊢
 have HXB := hideT hb
 have HX1 := hideT hk1
 have HX2 := hideT hk2
 have p1 := hk1.cell 13 (v := pv) rfl
 have p2 := hk2.cell 13 (v := qv) rfl
 have HPS := hideT (parts_same pv qv c.ps X (HH.out.1.stay hb (Nat.le_refl _)) (HH.out.2.stay hb (Nat.le_refl _)) (by have := HL.out; omega))
 have HNN := hideT hN
 clear hX hb hk1 hk2 hN
 go_wp2_with fail
 refine HPS.out.mono ?_
 rintro e w1 ⟨rfl, hb1⟩
 have HK1 := hideT (cm_keep HX1.out (hb1.block N (Array.getElem?_eq_some_iff.1 HX1.out).1))
 have HK2 := hideT (cm_keep HX2.out (hb1.block (N + 1) (Array.getElem?_eq_some_iff.1 HX2.out).1))
 have HF := hideT (HXB.out.trans (hb1.mono HXB.out.size))
 clear hb1 p1 p2 HPS
 have a1 := HK1.out.cell 1 (v := .int .i64 (c.a.k : Nat)) rfl
 have d1 := HK2.out.cell 1 (v := .int .i64 (c.a.k : Nat)) rfl
 have a2 := HK1.out.cell 2 (v := .int .i64 (c.a.ln : Nat)) rfl
 have d2 := HK2.out.cell 2 (v := .int .i64 (c.a.ln : Nat)) rfl
 have a3 := HK1.out.cell 3 (v := .string (bst c.a.re)) rfl
 have d3 := HK2.out.cell 3 (v := .string (bst c.a.re)) rfl
 have a4 := HK1.out.cell 4 (v := .int .i64 (c.b.k : Nat)) rfl
 have d4 := HK2.out.cell 4 (v := .int .i64 (c.b.k : Nat)) rfl
 have a5 := HK1.out.cell 5 (v := .int .i64 (c.b.ln : Nat)) rfl
 have d5 := HK2.out.cell 5 (v := .int .i64 (c.b.ln : Nat)) rfl
 have a6 := HK1.out.cell 6 (v := .string (bst c.b.re)) rfl
 have d6 := HK2.out.cell 6 (v := .string (bst c.b.re)) rfl
 have a7 := HK1.out.cell 7 (v := .bool c.nt) rfl
 have d7 := HK2.out.cell 7 (v := .bool c.nt) rfl
 have a8 := HK1.out.cell 8 (v := .int .u8 (c.nm.toNat : Nat)) rfl
 have d8 := HK2.out.cell 8 (v := .int .u8 (c.nm.toNat : Nat)) rfl
 have a9 := HK1.out.cell 9 (v := .string (bst c.lb)) rfl
 have d9 := HK2.out.cell 9 (v := .string (bst c.lb)) rfl
 have a10 := HK1.out.cell 10 (v := .string (bst c.tx)) rfl
 have d10 := HK2.out.cell 10 (v := .string (bst c.tx)) rfl
 have a11 := HK1.out.cell 11 (v := .string (bst c.fl)) rfl
 have d11 := HK2.out.cell 11 (v := .string (bst c.fl)) rfl
 have a12 := HK1.out.cell 12 (v := .string (bst c.re)) rfl
 have d12 := HK2.out.cell 12 (v := .string (bst c.re)) rfl
 have a14 := HK1.out.cell 14 (v := .int .i64 (c.nh : Nat)) rfl
 have d14 := HK2.out.cell 14 (v := .int .i64 (c.nh : Nat)) rfl
 have a15 := HK1.out.cell 15 (v := .bool c.an) rfl
 have d15 := HK2.out.cell 15 (v := .bool c.an) rfl
 have a16 := HK1.out.cell 16 (v := .bool c.pr) rfl
 have d16 := HK2.out.cell 16 (v := .bool c.pr) rfl
 have a17 := HK1.out.cell 17 (v := .string (bst c.fr)) rfl
 have d17 := HK2.out.cell 17 (v := .string (bst c.fr)) rfl
 have a18 := HK1.out.cell 18 (v := .string (bst c.to)) rfl
 have d18 := HK2.out.cell 18 (v := .string (bst c.to)) rfl
 clear HK1 HK2 HX1 HX2 HH
 go_wp2
 go_ret
 exact ⟨rfl, HF.out⟩
theorem load_yield {g o : Nat} {c : Co} {pv : Value} {V : World} {a : Act} {op : Oper} {x : Operand} (ho : op.op = .load 39 x) (hx : a.eval x = .pointer (some ⟨g, o, none⟩)) (h : V.rangeAt g o (coV c pv)) : (execOp a.eval op).run Tryz.prog V = .ok (.value (.agg (coV c pv).toArray)) V := by
 have h1 := run_loadAt_mid (P := Tryz.prog) V g o 39 (coV c pv) _ h xc9 rfl (by rw [xcm]; rfl)
 simp [execOp, ho, hx, h1]
theorem sameList_any (a b : Value) (l m : List Co) (W : World) (ha : CRow W a l) (hb : CRow W b m) (hm : m.map nfC = l.map nfC) (hp : ∀ c ∈ l, c.ps.length ≤ 1000000000000000) (hl : l.length ≤ 100000000) : Calls Tryz.prog 15 #[a, b, .bool false] W fun e w' => e = .returned (.bool true) ∧ Below W.heap.size W w' := by
 obtain ⟨pa, ca, rfl, ha⟩ := ha
 obtain ⟨pb, cb, rfl, hb⟩ := hb
 have hml : m.length = l.length := by have := congrArg List.length hm; simpa using this
 rw [hml]
 have HM := hideT hm
 have HML := hideT hml
 clear hm hml
 have HA := hideT ha
 have HB := hideT hb
 have HP := hideT hp
 clear ha hb hp
 go_enter Tryz.func15, Tryz.ntmps15
 go_wp2_with fail
 go_loopw [7] (fun i wr => ∃ k : Nat, k ≤ l.length ∧ i = .int .i64 k ∧ Hid (Below W.heap.size W wr)) (fun i _ => l.length - (intOf i).toNat)
 case atStart => exact ⟨0, by omega, rfl, hideT (Below.refl _ _)⟩
 case round =>
  obtain ⟨k, hk, rfl, HW⟩ := hrel
  by_cases hlt : k < l.length
  ·obtain ⟨g, o, pv, rfl, a1, u1⟩ := HA.out k _ (List.getElem?_eq_getElem hlt)
   obtain ⟨d, hd, hd2⟩ : ∃ d, m[k]? = some d ∧ nfC d = nfC (l[k]'hlt) := by
    have h1 := congrArg (·[k]?) HM.out
    simp only [List.getElem?_map, List.getElem?_eq_getElem hlt, Option.map_some] at h1
    obtain ⟨d, e1, e2⟩ := Option.map_eq_some_iff.1 h1
    exact ⟨d, e1, e2⟩
   obtain ⟨g2, o2, qv, rfl, b1, u2⟩ := HB.out k _ hd
   obtain ⟨q, rfl⟩ : ∃ q, d = { (l[k]'hlt) with pl := q } := ⟨d.pl, by
    generalize (l[k]'hlt) = c at hd2
    obtain ⟨p1, p2, p3, p4, p5, p6, p7, p8, p9, p10, p11, p12, p13, p14, p15⟩ := d
    obtain ⟨q1, q2, q3, q4, q5, q6, q7, q8, q9, q10, q11, q12, q13, q14, q15⟩ := c
    simp only [nfC, Co.mk.injEq, true_and] at hd2 ⊢
    exact hd2⟩
   have hpk := HP.out _ (List.getElem_mem hlt)
   generalize (l[k]'hlt) = c at *
   have i1 : (k : Int) < (l.length : Int) := by omega
   have i2 : (0 : Int) ≤ (k : Int) := by omega
   have q1 := xdr a1 (HW.out.block g (xic a1))
   have q2 := xdr b1 (HW.out.block g2 (xic b1))
   have HR1 := hideT (fun (V : World) (hV : Below wr.heap.size wr V) => xdr q1 (hV.block g (xic q1)))
   have HR2 := hideT (fun (V : World) (hV : Below wr.heap.size wr V) => xdr q2 (hV.block g2 (xic q2)))
   have s0 : Below wr.heap.size wr wr.drew := (Below.refl _ _).drew
   have HS := hideT (same_cmd c q pv qv wr.drew ((u1.stay HW.out (Nat.le_refl _)).stay s0 (Nat.le_refl _)) ((u2.stay HW.out (Nat.le_refl _)).stay s0 (Nat.le_refl _)) hpk)
   clear a1 b1 u1 u2 hpk q1 q2 hd hd2
   go_wp2_with fail
   refine wp_region_held (S := fun V => Below wr.heap.size wr V) (by kernel_rfl) ?_
   refine' take_d 0 (some 19) rfl rfl (by kernel_rfl) (by kernel_rfl) (by kernel_rfl) (fun _ _ _ h => h) (wanted_none rfl _) s0 ?tk1 ?rs1
   case tk1 => intro V hV; go_simp; (try with_reducible rfl)
   refine' take_d 1 (some 20) rfl rfl (by kernel_rfl) (by kernel_rfl) (by kernel_rfl) (fun _ _ _ h => h) (wanted_none rfl _) s0 ?tk2 ?rs2
   case tk2 => intro V hV; go_simp; (try with_reducible rfl)
   refine' take_d 2 (some 21) rfl rfl (by kernel_rfl) (by kernel_rfl) (by kernel_rfl) (fun _ _ _ h => h) (wanted_none rfl _) s0 ?tk3 ?rs3
   case tk3 => intro V hV; go_simp; (try with_reducible rfl)
   simp only [Act.put, List.setIfInBounds_toArray, List.set_cons_zero, List.set_cons_succ]
   refine' take_d 3 (some 22) rfl rfl (by kernel_rfl) (by kernel_rfl) (by kernel_rfl) (fun _ _ _ h => h) (wanted_none rfl _) s0 ?tk4 ?rs4
   case tk4 => intro V hV; exact load_yield rfl rfl (HR1.out V hV)
   refine' take_d 4 (some 23) rfl rfl (by kernel_rfl) (by kernel_rfl) (by kernel_rfl) (fun _ _ _ h => h) (wanted_none rfl _) s0 ?tk5 ?rs5
   case tk5 => intro V hV; go_simp; (try with_reducible rfl)
   refine' take_d 5 (some 24) rfl rfl (by kernel_rfl) (by kernel_rfl) (by kernel_rfl) (fun _ _ _ h => h) (wanted_none rfl _) s0 ?tk6 ?rs6
   case tk6 => intro V hV; go_simp; (try with_reducible rfl)
   refine' take_d 6 (some 25) rfl rfl (by kernel_rfl) (by kernel_rfl) (by kernel_rfl) (fun _ _ _ h => h) (wanted_none rfl _) s0 ?tk7 ?rs7
   case tk7 => intro V hV; go_simp; (try with_reducible rfl)
   simp only [Act.put, List.setIfInBounds_toArray, List.set_cons_zero, List.set_cons_succ]
   refine' take_d 7 (some 26) rfl rfl (by kernel_rfl) (by kernel_rfl) (by kernel_rfl) (fun _ _ _ h => h) (wanted_none rfl _) s0 ?tk8 ?rs8
   case tk8 => intro V hV; exact load_yield rfl rfl (HR2.out V hV)
   refine' take_d 8 (some 27) rfl rfl (by kernel_rfl) (by kernel_rfl) (by kernel_rfl) (fun _ _ _ h => h) (wanted_none rfl _) s0 ?tk9 ?rs9
   case tk9 => intro V hV; go_simp; (try with_reducible rfl)
   simp only [Act.put, List.setIfInBounds_toArray, List.set_cons_zero, List.set_cons_succ]
   refine wpAnyH_all (rs := [9]) (by kernel_rfl) (by simp) (fun i hi => ?_)
   obtain rfl : i = 9 := List.mem_singleton.1 hi
   refine xp8 (some 28) rfl rfl (wanted_none rfl _) (by go_simp; (try with_reducible rfl)) (R := fun v w' => v = .bool true ∧ Below wr.heap.size wr w') (HS.out.mono (fun e w' h => ⟨_, h.1, rfl, s0.trans (h.2.mono s0.size)⟩)) ?_
   rintro v8 w8 ⟨rfl, hb8⟩
   refine And.intro hb8 ?_
   refine' take_d 10 (some 29) rfl rfl (by kernel_rfl) (by kernel_rfl) (by kernel_rfl) (fun _ _ _ h => h) (wanted_none rfl _) hb8 ?tk10 ?rs10
   case tk10 => intro V hV; go_simp; (try with_reducible rfl)
   refine wpAnyH_done (by kernel_rfl) ?_ _
   simp only [Act.put, List.setIfInBounds_toArray, List.set_cons_zero, List.set_cons_succ]
   have HF := hideT (HW.out.trans (hb8.mono HW.out.size))
   clear hb8 s0 HS HR1 HR2
   go_wp2
   exact ⟨⟨k + 1, by omega, by go_num, HF⟩, by simp [intOf]; omega⟩
  ·obtain rfl : k = l.length := by omega
   have i1 : ((l.length : Int) < (l.length : Int)) = False := by rw [eq_iff_iff, iff_false]; omega
   go_wp2
   go_ret
   exact ⟨rfl, HW.out⟩
theorem tok_97 : br.tokenT (bst [97]) 0 4 = br.selfT 97 0 1 := by
 unfold br.tokenT
 rw [if_neg (by decide), if_neg (by decide), if_neg (by decide), if_neg (by decide), if_neg (by decide), if_neg (by decide)]
 rfl
theorem g_97 : ∃ g : Gr, gM = fun t => if t = [97] then (0, 0) else g t := ⟨gM, funext fun t => by
 split
 ·rename_i h; rw [h]; exact g_one 97 97 tok_97
 ·rfl⟩
def aw1 : Co := ⟨9, ⟨1, 1, []⟩, ⟨1, 2, []⟩, true, 112, [], [], [], [], [], 0, false, false, [], []⟩
def aw2 : Co := ⟨13, adr0, adr0, false, 115, [], [], [], [97], [⟨-1, bst [98]⟩], 1, false, false, [], []⟩
theorem scr_aw : scrR gM [32, 49, 32, 44, 32, 50, 32, 33, 32, 112, 32, 59, 32, 115, 44, 97, 44, 98, 44, 32] = ([aw1, aw2], false, 0, 0) := by
 obtain ⟨g, h⟩ := g_97
 rw [h]
 kernel_rfl
theorem scr_k : scrR gM [107] = ([], false, 18, 0) := by
 obtain ⟨g, h⟩ := g_97
 rw [h]
 kernel_rfl
theorem dec_1 (n : Nat) (h : n < 10) : Lib.decDigits n = [UInt8.ofNat (48 + n)] := by rw [Lib.decDigits, dif_pos h]
theorem sh_aw : shR gM [32, 49, 32, 44, 32, 50, 32, 33, 32, 112, 32, 59, 32, 115, 44, 97, 44, 98, 44, 32] = ([49, 44, 50, 33, 112, 10, 115, 47, 97, 47, 98, 47, 10], 0, 0) := by
 have e1 : cmW aw1 = some [49, 44, 50, 33, 112, 10] := by
  have h1 : adW aw1.a = some [49] := by unfold adW; rw [if_pos (show aw1.a.k = 1 from rfl)]; exact congrArg some (dec_1 1 (by decide))
  have h2 : abW aw1 = some [44, 50] := by
   have : adW aw1.b = some [50] := by unfold adW; rw [if_pos (show aw1.b.k = 1 from rfl)]; exact congrArg some (dec_1 2 (by decide))
   unfold abW
   rw [if_neg (by decide), this]
   rfl
  unfold cmW
  rw [h1, h2]
  rfl
 have e2 : cmW aw2 = some [115, 47, 97, 47, 98, 47, 10] := by kernel_rfl
 unfold shR
 rw [scr_aw]
 simp only [ne_eq, not_true, if_false, alW, e1, e2]
 rfl
theorem sh_k : shR gM [107] = ([], 18, 0) := by
 unfold shR
 rw [scr_k]
 rfl
theorem awake_any (w : World) (hg : Gl w) (hG : Gs w) (hw : 2 < w.heap.size) : Calls Tryz.prog 13 #[] w fun e w' => e = .returned (.bool true) ∧ Below w.heap.size w w' := by
 have HA := hideT (show_any ⟨#[32, 49, 32, 44, 32, 50, 32, 33, 32, 112, 32, 59, 32, 115, 44, 97, 44, 98, 44, 32]⟩ (by decide) w hg hG hw)
 rw [show (⟨#[32, 49, 32, 44, 32, 50, 32, 33, 32, 112, 32, 59, 32, 115, 44, 97, 44, 98, 44, 32]⟩ : ByteArray).data.toList = [32, 49, 32, 44, 32, 50, 32, 33, 32, 112, 32, 59, 32, 115, 44, 97, 44, 98, 44, 32] from rfl, sh_aw, show bst [49, 44, 50, 33, 112, 10, 115, 47, 97, 47, 98, 47, 10] = ⟨#[49, 44, 50, 33, 112, 10, 115, 47, 97, 47, 98, 47, 10]⟩ from rfl] at HA
 have HB := hideT (fun V (hV : Below w.heap.size w V) => show_any ⟨#[107]⟩ (by decide) V (hg.stay (F := fun _ => False) (Tch.of hV) (fun k h => h.elim)) (hG.below hV hw) (Nat.lt_of_lt_of_le hw hV.size))
 rw [show (⟨#[107]⟩ : ByteArray).data.toList = [107] from rfl, sh_k, show bst [] = ⟨#[]⟩ from rfl] at HB
 clear hg hG
 go_enter Tryz.func13, Tryz.ntmps13
 go_wp2_with fail
 refine HA.out.mono ?_
 rintro e w1 ⟨rfl, hb1⟩
 have hA := (Below.refl w1.heap.size w1).alloc (Nat.le_refl _) (.cells #[.int .i64 0, .int .i64 0] 29)
 have hn := heap_alloc_new w1 (.cells #[.int .i64 0, .int .i64 0] 29)
 have H1 := hideT (hb1.trans (hA.mono hb1.size))
 clear hb1 hA
 go_upto_region 2 with fail
 generalize w1.alloc (.cells #[.int .i64 0, .int .i64 0] 29) = X at *
 have hlt := (Array.getElem?_eq_some_iff.1 hn).1
 go_wp2_with fail
 refine (HB.out X H1.out).mono ?_
 rintro e w2 ⟨rfl, hb2⟩
 have hA := (Below.refl w2.heap.size w2).alloc (Nat.le_refl _) (.cells #[.int .i64 18, .int .i64 0] 29)
 have hn2 := heap_alloc_new w2 (.cells #[.int .i64 18, .int .i64 0] 29)
 have hX2 : Below X.heap.size X (w2.alloc (.cells #[.int .i64 18, .int .i64 0] 29)) := hb2.trans (hA.mono hb2.size)
 go_upto_region 3 with fail
 generalize w2.alloc (.cells #[.int .i64 18, .int .i64 0] 29) = Y at *
 have hy := (hX2.block w1.heap.size hlt).trans hn
 have y0 : Y.cell? ⟨w1.heap.size, 0, none⟩ = some (.int .i64 0) := by rw [Lib.cell_of_heap hy]; rfl
 have z0 : Y.cell? ⟨w2.heap.size, 0, none⟩ = some (.int .i64 18) := by rw [Lib.cell_of_heap hn2]; rfl
 have z1 : Y.cell? ⟨w2.heap.size, 1, none⟩ = some (.int .i64 0) := by rw [Lib.cell_of_heap hn2]; rfl
 have HF := hideT (H1.out.trans (hX2.mono H1.out.size))
 clear hA hb2 hX2 hlt hn hn2 hy
 go_wp2
 go_ret
 exact ⟨rfl, HF.out⟩
end sho
end Go.Proofs.YtidgnebbibkmhaaGreatDoor
namespace Go.Proofs.YtidgnebbibkmhaaGreatDoor
open Go.RowKit
open scanP scrP tpl ytb
theorem CRow.stay {W W' : World} {v : Value} {l : List Co} (h : CRow W v l) (hb : Below W.heap.size W W') : CRow W' v l := by
 obtain ⟨a, cp, e, h⟩ := h
 refine ⟨a, cp, e, fun k c hc => ?_⟩
 obtain ⟨g, o, pv, h1, h2, h3⟩ := h k c hc
 exact ⟨g, o, pv, h1, fun j u hu => (hb.cell (p := ⟨g, _, none⟩) (cell_lt (h2 j u hu))).trans (h2 j u hu), h3.stay hb (Nat.le_refl _)⟩
namespace sho
theorem back_any (s : ByteArray) (hs : s.size ≤ 140737488355000) (w : World) (hg : Gl w) (hG : Gs w) (hw : 2 < w.heap.size) : Calls Tryz.prog 5 #[.string s] w fun e w' => e = .returned (.bool true) ∧ Below w.heap.size w w' := by
 have HE := hideT (fun V (hV : Below w.heap.size w V) => And.intro (hg.stay (F := fun _ => False) (Tch.of hV) (fun k h => h.elim)) (And.intro (hG.below hV hw) (Nat.lt_of_lt_of_le hw hV.size)))
 have HAW := hideT (awake_any w hg hG hw)
 clear hg hG
 go_enter Tryz.func5, Tryz.ntmps5
 go_wp2_with fail
 refine HAW.out.mono ?_
 rintro e w1 ⟨rfl, hb1⟩
 have H1 := hideT hb1
 clear hb1 HAW
 go_wp2_with fail
 refine (parse_reads s hs w1 (HE.out w1 H1.out).1).mono ?_
 rintro e w2 ⟨v, rfl, hC, hb2⟩
 generalize hP : scrR gM s.data.toList = P at *
 obtain ⟨cs, q, e0, p0⟩ := P
 simp only at hC
 have HP := hideT hP
 have hA := (Below.refl w2.heap.size w2).alloc (Nat.le_refl _) (.cells #[.int .i64 (e0 : Nat), .int .i64 (p0 : Nat)] 29)
 have hn := heap_alloc_new w2 (.cells #[.int .i64 (e0 : Nat), .int .i64 (p0 : Nat)] 29)
 have H2 := hideT ((H1.out.trans (hb2.mono H1.out.size)).trans (hA.mono (H1.out.trans (hb2.mono H1.out.size)).size))
 have HC := hideT (And.intro hC hA)
 have HN := hideT hn
 clear hA hb2 hC hn hP H1
 have HS1 := hideT (show (e0 ≠ 0 → shR gM s.data.toList = ([], e0, p0)) ∧ (e0 = 0 → (shR gM s.data.toList).2.1 = 0 ∨ (shR gM s.data.toList).2.1 = 5) ∧ ((shR gM s.data.toList).2.1 = 0 → (shR gM s.data.toList).1.length ≤ 4096 → ∃ ds, ds.map nfC = cs.map nfC ∧ scrR gM (shR gM s.data.toList).1 = (ds, q, 0, 0) ∧ shR gM (shR gM s.data.toList).1 = ((shR gM s.data.toList).1, 0, 0)) from by
  refine ⟨fun h => ?_, fun h => ?_, fun h hl => ?_⟩
  ·unfold shR; rw [HP.out]; simp only; rw [if_pos h]
  ·unfold shR
   rw [HP.out]
   simp only
   rw [if_neg (by simp [h])]
   split
   ·exact .inr rfl
   ·exact .inl rfl
  ·obtain ⟨h1, ds, g1, g2⟩ := show_back h hl
   rw [HP.out] at g1 g2
   exact ⟨ds, g1, g2, h1⟩)
 have HSZ := hideT (show e0 = 0 → (∀ c ∈ cs, SzC c) ∧ cs.length ≤ 4097 from fun h => by
  have := scr_sz (G := gM) (l := s.data.toList) (by rw [HP.out]; exact h)
  rw [HP.out] at this
  exact this)
 clear HP
 go_upto_region 4 with fail
 generalize w2.alloc (.cells #[.int .i64 (e0 : Nat), .int .i64 (p0 : Nat)] 29) = X at *
 have hlt := (Array.getElem?_eq_some_iff.1 HN.out).1
 have HSH := hideT (show_any s hs X (HE.out X H2.out).1 (HE.out X H2.out).2.1 (HE.out X H2.out).2.2)
 go_wp2_with fail
 refine HSH.out.mono ?_
 clear HSH
 generalize shR gM s.data.toList = S at *
 obtain ⟨T, e1, p1⟩ := S
 simp only at HS1
 rintro e w3 ⟨rfl, hb3⟩
 have hA := (Below.refl w3.heap.size w3).alloc (Nat.le_refl _) (.cells #[.int .i64 (e1 : Nat), .int .i64 (p1 : Nat)] 29)
 have hn := heap_alloc_new w3 (.cells #[.int .i64 (e1 : Nat), .int .i64 (p1 : Nat)] 29)
 have hXY : Below X.heap.size X (w3.alloc (.cells #[.int .i64 (e1 : Nat), .int .i64 (p1 : Nat)] 29)) := hb3.trans (hA.mono hb3.size)
 go_upto_region 5 with fail
 generalize w3.alloc (.cells #[.int .i64 (e1 : Nat), .int .i64 (p1 : Nat)] 29) = Y at *
 have hx := (hXY.block w2.heap.size hlt).trans HN.out
 have x0 : Y.cell? ⟨w2.heap.size, 0, none⟩ = some (.int .i64 (e0 : Nat)) := by rw [Lib.cell_of_heap hx]; rfl
 have x1 : Y.cell? ⟨w2.heap.size, 1, none⟩ = some (.int .i64 (p0 : Nat)) := by rw [Lib.cell_of_heap hx]; rfl
 have y0 : Y.cell? ⟨w3.heap.size, 0, none⟩ = some (.int .i64 (e1 : Nat)) := by rw [Lib.cell_of_heap hn]; rfl
 have y1 : Y.cell? ⟨w3.heap.size, 1, none⟩ = some (.int .i64 (p1 : Nat)) := by rw [Lib.cell_of_heap hn]; rfl
 have H3 := hideT (H2.out.trans (hXY.mono H2.out.size))
 have HNY := hideT hn
 have HXY := hideT hXY
 clear hA hb3 hXY hx hn hlt
 by_cases he : e0 = 0
 ·have hS5 := HS1.out.2.1 he
  have x2 : (((e0 : Nat) : Int) != 0) = false := by simp; omega
  have x3 : (((e0 : Nat) : Int) == 0) = true := by simp; omega
  have HLT := hideT (show ((bst T).size : Int) = (T.length : Int) by rw [xbt])
  by_cases h1 : e1 = 0
  ·have n1 : (((e1 : Nat) : Int) != 0) = false := by simp; omega
   have n2 : (((e1 : Nat) : Int) == 0) = true := by simp; omega
   by_cases h2 : 4096 < T.length
   ·have n3 : ((4096 : Int) < ((bst T).size : Int)) = True := by rw [HLT.out, eq_iff_iff, iff_true]; omega
    have n4 : (4096 < (bst T).size) = True := by rw [xbt, eq_iff_iff, iff_true]; exact h2
    clear HS1 he hS5 HSZ
    go_wp2
    go_ret
    exact ⟨rfl, H3.out⟩
   ·have n3 : ((4096 : Int) < ((bst T).size : Int)) = False := by rw [HLT.out, eq_iff_iff, iff_false]; omega
    have n4 : (4096 < (bst T).size) = False := by rw [xbt, eq_iff_iff, iff_false]; exact h2
    obtain ⟨ds, g1, g2, g3⟩ := HS1.out.2.2 h1 (by omega)
    obtain ⟨z, hz⟩ : ∃ z : Nat, z = 0 := ⟨0, rfl⟩
    have g2 : scrR gM T = (ds, q, z, z) := by rw [hz]; exact g2
    have g3 : shR gM T = (T, z, z) := by rw [hz]; exact g3
    have z1 : (((z : Nat) : Int) == 0) = true := by simp; omega
    have HZ := hideT (HSZ.out he)
    have HTL : Hid (T.length ≤ 4096) := hideT (by omega)
    have HD := hideT g1
    have HPT := hideT (parse_reads (bst T) (by rw [xbt]; omega) Y (HE.out Y H3.out).1)
    rw [show (bst T).data.toList = T from xbu T, g2] at HPT
    have HTT := hideT (fun V (hV : Below w.heap.size w V) => show_any (bst T) (by rw [xbt]; omega) V (HE.out V hV).1 (HE.out V hV).2.1 (HE.out V hV).2.2)
    rw [show (bst T).data.toList = T from xbu T, g3] at HTT
    have HXY3 := hideT (HC.out.1.stay (HC.out.2.trans (HXY.out.mono HC.out.2.size)))
    clear HS1 he hS5 HSZ g1 g2 g3 h1 h2 hz HXY HC HN HNY H2
    go_wp2_with fail
    refine HPT.out.mono ?_
    rintro e w4 ⟨v4, rfl, hC4, hb4⟩
    have hA := (Below.refl w4.heap.size w4).alloc (Nat.le_refl _) (.cells #[.int .i64 (z : Nat), .int .i64 (z : Nat)] 29)
    have hn := heap_alloc_new w4 (.cells #[.int .i64 (z : Nat), .int .i64 (z : Nat)] 29)
    have hl := (Array.getElem?_eq_some_iff.1 hn).1
    have H5 := hideT (hb4.trans (hA.mono hb4.size))
    have HC4 := hideT (hC4.stay hA)
    have HN4 := hideT (And.intro hn hl)
    clear HPT hC4 hb4 hA hn hl
    go_upto_region 10 with fail
    generalize w4.alloc (.cells #[.int .i64 (z : Nat), .int .i64 (z : Nat)] 29) = U at *
    go_wp2_with fail
    refine (HTT.out U (H3.out.trans (H5.out.mono H3.out.size))).mono ?_
    clear HTT
    rintro e w5 ⟨rfl, hb5⟩
    have hA := (Below.refl w5.heap.size w5).alloc (Nat.le_refl _) (.cells #[.int .i64 (z : Nat), .int .i64 (z : Nat)] 29)
    have hn := heap_alloc_new w5 (.cells #[.int .i64 (z : Nat), .int .i64 (z : Nat)] 29)
    have hUV : Below U.heap.size U (w5.alloc (.cells #[.int .i64 (z : Nat), .int .i64 (z : Nat)] 29)) := hb5.trans (hA.mono hb5.size)
    clear hA hb5
    go_upto_region 11 with fail
    generalize w5.alloc (.cells #[.int .i64 (z : Nat), .int .i64 (z : Nat)] 29) = V at *
    have u0 : V.cell? ⟨w4.heap.size, 0, none⟩ = some (.int .i64 (z : Nat)) := by rw [Lib.cell_of_heap ((hUV.block _ HN4.out.2).trans HN4.out.1)]; rfl
    have v0 : V.cell? ⟨w5.heap.size, 0, none⟩ = some (.int .i64 (z : Nat)) := by rw [Lib.cell_of_heap hn]; rfl
    have HYV := hideT (H5.out.trans (hUV.mono H5.out.size))
    have HSL := hideT (sameList_any v v4 cs ds V (HXY3.out.stay HYV.out) (HC4.out.stay hUV) HD.out (fun c hc => by have := (HZ.out.1 c hc).ps; have := bulkP_len c.ps; omega) (by have := HZ.out.2; omega))
    have HF := hideT (H3.out.trans (HYV.out.mono H3.out.size))
    clear hUV hn HN4 HC4 HXY3 HYV H5
    have q1 : (q == q) = true := by simp
    have q2 : ((bst T).toList == (bst T).toList) = true := by simp
    go_wp2_with fail
    refine HSL.out.mono ?_
    rintro e w6 ⟨rfl, hb6⟩
    have HF := hideT (HF.out.trans (hb6.mono HF.out.size))
    clear hb6 HSL
    go_wp2
    go_ret
    exact ⟨rfl, HF.out⟩
  ·have h5 : e1 = 5 := hS5.resolve_left h1
   have n1 : (((e1 : Nat) : Int) != 0) = true := by simp; omega
   have n2 : (((e1 : Nat) : Int) == 0) = false := by simp; omega
   have n3 : (((e1 : Nat) : Int) == 5) = true := by simp; omega
   clear HS1 he hS5 HSZ h1 h5
   go_wp2
   go_ret
   exact ⟨rfl, H3.out⟩
 ·have hS := HS1.out.1 he
  obtain ⟨rfl, h2⟩ := Prod.mk.inj hS
  obtain ⟨rfl, rfl⟩ := Prod.mk.inj h2
  have n1 : (((e1 : Nat) : Int) != 0) = true := by simp; omega
  have n2 : (((e1 : Nat) : Int) == 0) = false := by simp; omega
  rw [show bst [] = ⟨#[]⟩ from rfl]
  clear HS1 he hS h2 HSZ
  go_wp2
  go_ret
  exact ⟨rfl, H3.out⟩
end sho
end Go.Proofs.YtidgnebbibkmhaaGreatDoor
