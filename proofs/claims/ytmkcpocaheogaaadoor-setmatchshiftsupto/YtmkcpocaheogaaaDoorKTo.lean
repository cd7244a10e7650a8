/- setmatch: SetmatchShifts, walked. -/
import Derived.Test.YtmkcpocaheogaaaDoorKA6
import Derived.Test.YtmkcpocaheogaaaDoorKAb
set_option maxRecDepth 100000
set_option maxHeartbeats 4000000
namespace Go.Proofs.YtmkcpocaheogaaaDoor.smt
open Go.RowKit Go.Proofs.YtmkcpocaheogaaaDoor.br
def hdR : Code → Nat
 | .region i _ _ => i
 | .seq a _ => hdR a
 | .scope c => hdR c
 | _ => 1000
def tlR (n : Nat) : Code → Option Code
 | .seq a b => if hdR a = n then some (.seq a b) else tlR n b
 | _ => none
noncomputable def tl6 : Code := (Tryd.f3.body.bind (tlR 6)).getD .skip
noncomputable def tl10 : Code := (Tryd.f3.body.bind (tlR 10)).getD .skip
theorem mvG_same {F i : Nat} {l : List (Int × Int)} {x : Int × Int} (h : shG F x = x) (hx : l[i]? = some x) : mvG F (i + 1) l = mvG F i l := by
 rw [← mvG_set hx, h]
 obtain ⟨h1, h2⟩ := List.getElem?_eq_some_iff.1 (mvG_get (F := F) hx)
 conv => lhs; rw [← h2]
 exact List.set_getElem_self ..
theorem shifts10 (u0 u2 u3 u4 u5 u7 u8 u10 u11 u12 u14 u15 u16 u17 u18 u19 u20 u21 u22 u23 u24 u25 u26 u27 u28 u29 u30 u31 u32 u33 u34 u35 u36 u37 u38 u39 u40 u41 u42 u43 u44 u45 u46 u47 u48 u49 u50 u51 u52 u53 u54 u55 u56 u57 u58 u59 u60 u61 u62 u63 u64 u65 u66 u67 u68 u69 u70 u71 u72 u73 u74 u75 u76 u77 u78 u79 u80 u81 u82 u83 u84 u85 u86 u87 u88 u89 u90 u91 u92 u93 u94 u95 u96 u97 u98 u99 u100 u101 u102 u103 u104 u105 u106 u107 u108 u109 u110 u111 u112 u113 u114 u115 u116 : Value) {l : List (Int × Int)} {s1 : ByteArray} {pa pb : Option Addr} {ca cb B M : Nat} (W W1 : World) (HI : Hid (InB B l ∧ B ≤ 1000 ∧ s1.size ≤ 1000 ∧ l.length ≤ 1000)) (HA : Hid (W1.ownsRow W.heap.size 34 2 (.slice pa l.length ca) l.length (spV l))) (HM : Hid (∀ g, (Value.slice pa l.length ca).ownBlock = some g → g < M)) (HC : Hid (W1.ownsRow M 34 2 (.slice pb l.length cb) l.length (spV (l.map (shG s1.size))))) (HB : Hid (Below W.heap.size W W1)) :
 Code.wp Tryd.prog tl10 (bodyPost Tryd.prog Tryd.f3 fun e w' => e = .returned (.bool true) ∧ Below W.heap.size W w') ⟨#[u0, .string s1, u2, u3, u4, u5, .bool false, u7, u8, .slice pa l.length ca, u10, u11, u12, .slice pb l.length cb, u14, u15, u16, u17, u18, u19, u20, u21, u22, u23, u24, u25, u26, u27, u28, u29, u30, u31, u32, u33, u34, u35, u36, u37, u38, u39, u40, u41, u42, u43, u44, u45, u46, u47, u48, u49, u50, u51, u52, u53, u54, u55, u56, u57, u58, u59, u60, u61, u62, u63, u64, u65, u66, u67, u68, u69, u70, u71, u72, u73, u74, u75, u76, u77, u78, u79, u80, u81, u82, u83, u84, u85, u86, u87, u88, u89, u90, u91, u92, u93, u94, u95, u96, u97, u98, u99, u100, u101, u102, u103, u104, u105, u106, u107, u108, u109, u110, u111, u112, u113, u114, u115, u116], []⟩ W1 := by
 conv => arg 2; whnf
 go_wp2_with fail
 go_loopw [17, 84] (fun _ iv wr => ∃ i : Nat, i ≤ l.length ∧ iv = .int .i64 (i : Nat) ∧ Hid (wr.ownsRow W.heap.size 34 2 (.slice pa l.length ca) l.length (spV (mvG s1.size i l))) ∧ Hid (wr.ownsRow M 34 2 (.slice pb l.length cb) l.length (spV (l.map (shG s1.size)))) ∧ Hid (Below W.heap.size W wr)) (fun _ iv _ => (l.length - intOf iv).toNat)
 case atStart => exact ⟨0, by omega, rfl, HA, HC, HB⟩
 case round =>
  obtain ⟨i, hi, rfl, HR, HS, HW⟩ := hrel
  clear HA HC HB
  by_cases hlt : i < l.length
  · have hx := List.getElem?_eq_getElem hlt
    have hxm := List.getElem_mem hlt
    generalize l[i] = x at hx hxm
    have hb := HI.out.1.2 x hxm
    obtain ⟨hb1, hb2, hb3, hb4⟩ := hb
    have hB : (B : Int) ≤ 1000 := by have := HI.out.2.1; omega
    have hF : (s1.size : Int) ≤ 1000 := by have := HI.out.2.2.1; omega
    have hgx := mvG_get (F := s1.size) hx
    obtain ⟨ga, cap, e1, q0, q1⟩ := sp_cells (owns_mono HR.out (Nat.zero_le _)) hgx
    cases e1
    obtain ⟨v0, v1⟩ := spV_get hgx
    have f0 := (owns_cell HR.out _ _ v0).2
    have f1 := (owns_cell HR.out _ _ v1).2
    have o2 := owns_sp HR.out (show i < (mvG s1.size i l).length by rw [mvG_len]; exact hlt) (shG s1.size x)
    rw [mvG_set hx] at o2
    have hM := HM.out ga rfl
    have hW := (owns_blk HR.out (g := ga) rfl).1
    have hset : ∀ (a b : Value), Below W.heap.size W ((wr.setCell ⟨ga, i * 2, none⟩ a).setCell ⟨ga, i * 2 + 1, none⟩ b) := fun a b => (HW.out.setCell (p := ⟨ga, i * 2, none⟩) hW a).setCell (p := ⟨ga, i * 2 + 1, none⟩) hW b
    have hkb : ∀ (a b : Value), ((wr.setCell ⟨ga, i * 2, none⟩ a).setCell ⟨ga, i * 2 + 1, none⟩ b).ownsRow M 34 2 (.slice pb l.length cb) l.length (spV (l.map (shG s1.size))) := fun a b => owns_keep HS.out fun g hg => by
     have hgM := (owns_blk HS.out hg).1
     exact (Below.heap_setCell (wr.setCell ⟨ga, i * 2, none⟩ a) ⟨ga, i * 2 + 1, none⟩ b g (by show g ≠ ga; omega)).trans (Below.heap_setCell wr ⟨ga, i * 2, none⟩ a g (by show g ≠ ga; omega))
    have i1 : (i : Int) < (l.length : Int) := by omega
    have i2 : (0 : Int) ≤ (i : Int) := by omega
    obtain ⟨x1, x2⟩ := x
    have HQ := hideT (And.intro o2 (And.intro hset hkb))
    have HX := hideT hx
    have HL := hideT hlt
    have h9 : i < 1000 := by have := HI.out.2.2.2; omega
    have hlL : l.length ≤ 1000 := HI.out.2.2.2
    dsimp only at hb1 hb2 hb3 hb4 q0 q1
    clear o2 hset hkb hlt hx hxm hgx v0 v1 hM hW hi
    by_cases hs : 0 ≤ x1
    · have HSH := hideT (show shG s1.size (x1, x2) = (x1 + s1.size, x2 + s1.size) from if_pos hs)
      have o2 := HQ.out.1
      rw [HSH.out] at o2
      have HO := hideT o2
      clear o2
      go_wp2
      exact ⟨⟨i + 1, HL.out, by go_num, HO, hideT (HQ.out.2.2 _ _), hideT (HQ.out.2.1 _ _)⟩, by simp [intOf]; have := HL.out; omega⟩
    · have hsame := mvG_same (show shG s1.size (x1, x2) = (x1, x2) from if_neg hs) HX.out
      have HR2 := hideT HR.out
      rw [← hsame] at HR2
      have n1 : ((0 : Int) ≤ x1) = False := by rw [eq_iff_iff, iff_false]; exact hs
      clear hsame hs HR HQ
      go_wp2
      exact ⟨⟨i + 1, HL.out, by go_num, HR2, HS, HW⟩, by simp [intOf]; have := HL.out; omega⟩
  · have i1 : ((i : Int) < (l.length : Int)) = False := by rw [eq_iff_iff, iff_false]; omega
    have i2 : (i < l.length) = False := by rw [eq_iff_iff, iff_false]; omega
    obtain rfl : i = l.length := by omega
    have hR := HR.out
    rw [mvG_all] at hR
    have hSm := same_any wr (owns_mono hR (Nat.zero_le _)) (owns_mono HS.out (Nat.zero_le _)) (by rw [List.length_map]; have := HI.out; omega) (by rw [List.length_map]; have := HI.out; omega)
    rw [decide_eq_true rfl] at hSm
    clear hlt hi hR HR HS
    go_wp2_with fail
    refine hSm.mono ?_
    rintro e W3 ⟨rfl, h3⟩
    have HB3 := hideT (HW.out.trans (h3.mono HW.out.size))
    clear h3 HW hSm
    go_wp2
    go_ret
    exact ⟨rfl, HB3.out⟩
theorem shifts6 (u3 u4 u5 u7 u8 u9 u10 u11 u12 u13 u14 u15 u16 u17 u18 u19 u20 u21 u22 u23 u24 u25 u26 u27 u28 u29 u30 u31 u32 u33 u34 u35 u36 u37 u38 u39 u40 u41 u42 u43 u44 u45 u46 u47 u48 u49 u50 u51 u52 u53 u54 u55 u56 u57 u58 u59 u60 u61 u62 u63 u64 u65 u66 u67 u68 u69 u70 u71 u72 u73 u74 u75 u76 u77 u78 u79 u80 u81 u82 u83 u84 u85 u86 u87 u88 u89 u90 u91 u92 u93 u94 u95 u96 u97 u98 u99 u100 u101 u102 u103 u104 u105 u106 u107 u108 u109 u110 u111 u112 u113 u114 u115 u116 : Value) {s0 s1 s2 : ByteArray} {ts : List Tr} {n : Nat} (W W1 : World) (HG : Hid (Glob W ∧ Tab W)) (HB : Hid (Below W.heap.size W W1)) (HP : Hid (parseT s0 = .ok ts)) (HN : Hid ((msF .zero ts).back = false ∧ (msF .zero ts).bol = false ∧ (msF .zero ts).groups = (n : Int) ∧ LyT (n + 1) (catT ts))) (HS : Hid (s1.size + s2.size ≤ 60)) :
 Code.wp Tryd.prog tl6 (bodyPost Tryd.prog Tryd.f3 fun e w' => e = .returned (.bool true) ∧ Below W.heap.size W w') ⟨#[.string s0, .string s1, .string s2, u3, u4, u5, .bool false, u7, u8, u9, u10, u11, u12, u13, u14, u15, u16, u17, u18, u19, u20, u21, u22, u23, u24, u25, u26, u27, u28, u29, u30, u31, u32, u33, u34, u35, u36, u37, u38, u39, u40, u41, u42, u43, u44, u45, u46, u47, u48, u49, u50, u51, u52, u53, u54, u55, u56, u57, u58, u59, u60, u61, u62, u63, u64, u65, u66, u67, u68, u69, u70, u71, u72, u73, u74, u75, u76, u77, u78, u79, u80, u81, u82, u83, u84, u85, u86, u87, u88, u89, u90, u91, u92, u93, u94, u95, u96, u97, u98, u99, u100, u101, u102, u103, u104, u105, u106, u107, u108, u109, u110, u111, u112, u113, u114, u115, u116], []⟩ W1 := by
 conv => arg 2; whnf
 have hg1 := HG.out.1.below HB.out (Nat.le_refl _)
 have hT1 := HG.out.2.below HB.out HG.out.2.pos
 obtain ⟨hb, hbol, hn, hLy⟩ := HN.out
 obtain ⟨d, hd⟩ := match_total (g := n) hLy
 obtain ⟨⟨o, c⟩, hm⟩ := hd (bl s2) 0 (Nat.zero_le _)
 have hz := HS.out
 have hM1 := match_any (s := s2) (frm := 0) W1 hg1 hT1 HP.out hb hn hLy (by omega) (Nat.zero_le _) hm
 have hsh := match_sh (f := d) (g := n) (nb_parse HP.out hbol) (lay_ok LayQ.no _ hLy).2.2.1 (bl s1) (bl s2)
 rw [hm, ← bl_app, bl_len] at hsh
 have hin := match_in (by have h9 := (parse_measure s0 ts HP.out).2.2.2; omega) (Nat.zero_le _) hm
 rw [bl_len] at hin
 have HM := hideT (And.intro hsh hin)
 clear hd hsh hin hm hb hbol hn hLy
 go_wp2_with fail
 refine hM1.mono ?_
 rintro e W2 ⟨hB2, v, rfl, ho⟩
 obtain ⟨pa, ca, rfl⟩ := owns_shape ho
 have HB2 := hideT (And.intro hB2 (HB.out.trans (hB2.mono HB.out.size)))
 have HO := hideT ho
 clear hB2 ho hM1 hg1 hT1
 have hg2 := HG.out.1.below HB2.out.2 (Nat.le_refl _)
 have hT2 := HG.out.2.below HB2.out.2 HG.out.2.pos
 have hsz : (s1 ++ s2).size = s1.size + s2.size := ByteArray.size_append ..
 have hM2 := match_any (s := s1 ++ s2) (frm := s1.size) W2 hg2 hT2 HP.out HN.out.1 HN.out.2.2.1 HN.out.2.2.2 (by omega) (by omega) HM.out.1
 have z1 : ¬ 9223372036854775807 < s1.size + s2.size := by omega
 clear hg2 hT2 hsz
 go_wp2_with fail
 refine hM2.mono ?_
 rintro e W3 ⟨hB3, v, rfl, hp⟩
 obtain ⟨pb, cb, rfl⟩ := owns_shape hp
 have e1 : (Option.map (fun l => List.map (shG s1.size) l) o).isSome = o.isSome := by cases o <;> rfl
 have e2 : (Option.map (fun l => List.map (shG s1.size) l) o).getD [] = (o.getD []).map (shG s1.size) := by cases o <;> rfl
 rw [e1]
 rw [e2] at hp ⊢
 rw [List.length_map] at hp ⊢
 have hin := HM.out.2
 have ho := HO.out
 clear e1 e2 HO HM hM2
 generalize o.isSome = bb at *
 generalize o.getD [] = l at *
 have hl60 : l.length ≤ 1000 := hin.1
 have t1 : (bb != bb) = false := by simp
 have t2 : ((l.length : Int) != (l.length : Int)) = false := by simp
 have HI : Hid (InB s2.size l ∧ s2.size ≤ 1000 ∧ s1.size ≤ 1000 ∧ l.length ≤ 1000) := hideT ⟨hin, by omega, by omega, hl60⟩
 have HA : Hid (W3.ownsRow W.heap.size 34 2 (.slice pa l.length ca) l.length (spV l)) := hideT (owns_mono (owns_keep ho fun g hg => hB3.block g (owns_blk ho hg).2.1) HB.out.size)
 have HMM : Hid (∀ g, (Value.slice pa l.length ca).ownBlock = some g → g < W2.heap.size) := hideT fun g hg => (owns_blk ho hg).2.1
 have HC := hideT hp
 have HB3 := hideT (HB2.out.2.trans (hB3.mono HB2.out.2.size))
 clear hin ho hp hB3 hl60 z1 hz
 go_upto_region 8 with fail
 rename_i K hK K2 hK2
 replace hK := fun (a : Act) (w : World) (h : Code.wp Tryd.prog tl10 _ a w) => hK a w h
 go_wp2_with fail
 exact shifts10 _ _ _ _ _ _ _ _ _ _ _ _ _ _ _ _ _ _ _ _ _ _ _ _ _ _ _ _ _ _ _ _ _ _ _ _ _ _ _ _ _ _ _ _ _ _ _ _ _ _ _ _ _ _ _ _ _ _ _ _ _ _ _ _ _ _ _ _ _ _ _ _ _ _ _ _ _ _ _ _ _ _ _ _ _ _ _ _ _ _ _ _ _ _ _ _ _ _ _ _ _ _ _ _ _ _ _ _ _ _ _ _ _ (B := s2.size) (M := W2.heap.size) W W3 HI HA HMM HC HB3
theorem bel2 {B : Nat} {a w : World} (h : Below B a w) (o p : Obj) (hB : B ≤ w.heap.size) : Below B a ((w.alloc o).alloc p) := (h.alloc hB o).alloc (by rw [World.size_alloc]; omega) p
theorem walk_setmatchShifts (s0 s1 s2 : ByteArray) (hz1 : s1.size ≤ 1048576) (hz2 : s2.size ≤ 1048576) (W : World) (hg : Glob W) (hT : Tab W) : Calls Tryd.prog 3 #[.string s0, .string s1, .string s2] W fun e w' => e = .returned (.bool true) ∧ Below W.heap.size W w' := by
 have HA := hideT (awake_any W hg hT)
 have HG := hideT (And.intro hg hT)
 clear hg hT
 go_enter Tryd.func3, Tryd.ntmps3
 go_wp2_with fail
 refine HA.out.mono ?_
 rintro e W1 ⟨rfl, hB1⟩
 have hM := mOf_any s0 W1 (HG.out.1.below hB1 (Nat.le_refl _))
 have HB := hideT hB1
 clear hB1 HA
 go_wp2_with fail
 refine hM.mono ?_
 rintro e W2 ⟨rfl, hB2⟩
 have HB2 := hideT (HB.out.trans (hB2.mono HB.out.size))
 clear hB2 HB hM
 cases hp : parseT s0 with
 | error er =>
  obtain ⟨er, p⟩ := er
  have he := (xk9 s0 er p hp).1
  rw [show ofM s0 = (.zero, er, p) by unfold ofM; rw [hp]]
  have z1 : (er != 0) = true := by simpa using he
  have HE := hideT he
  clear hp he
  go_wp2
  go_ret
  exact ⟨rfl, bel2 HB2.out _ _ HB2.out.size⟩
 | ok ts =>
  rw [show ofM s0 = (msF .zero ts, 0, 0) by unfold ofM; rw [hp]]
  have HP := hideT hp
  clear hp
  cases hb : (msF .zero ts).back with
  | true =>
   go_wp2
   go_ret
   exact ⟨rfl, bel2 HB2.out _ _ HB2.out.size⟩
  | false =>
   cases ho : (msF .zero ts).bol with
   | true =>
    go_wp2
    go_ret
    exact ⟨rfl, bel2 HB2.out _ _ HB2.out.size⟩
   | false =>
    by_cases h60 : 60 < s1.size + s2.size
    · have z2 : (60 : Int) < (s1.size : Int) + (s2.size : Int) := by omega
      have z3 : 60 < s1.size + s2.size := h60
      go_wp2
      go_ret
      exact ⟨rfl, bel2 HB2.out _ _ HB2.out.size⟩
    · have z2 : ((60 : Int) < (s1.size : Int) + (s2.size : Int)) = False := by rw [eq_iff_iff, iff_false]; omega
      have z3 : (60 < s1.size + s2.size) = False := by rw [eq_iff_iff, iff_false]; omega
      have HS := hideT (show s1.size + s2.size ≤ 60 by omega)
      obtain ⟨n, hn, hLy⟩ := ly_parse HP.out hb
      go_upto_region 4 with fail
      rename_i K hK K2 hK2
      replace hK := fun (a : Act) (w : World) (h : Code.wp Tryd.prog tl6 _ a w) => hK a w h
      go_wp2_with fail
      exact shifts6 _ _ _ _ _ _ _ _ _ _ _ _ _ _ _ _ _ _ _ _ _ _ _ _ _ _ _ _ _ _ _ _ _ _ _ _ _ _ _ _ _ _ _ _ _ _ _ _ _ _ _ _ _ _ _ _ _ _ _ _ _ _ _ _ _ _ _ _ _ _ _ _ _ _ _ _ _ _ _ _ _ _ _ _ _ _ _ _ _ _ _ _ _ _ _ _ _ _ _ _ _ _ _ _ _ _ _ _ _ _ _ _ _ (ts := ts) (n := n) W _ HG (hideT (bel2 HB2.out _ _ HB2.out.size)) HP (hideT ⟨hb, ho, hn, hLy⟩) HS
end Go.Proofs.YtmkcpocaheogaaaDoor.smt
