/- setmatch: SetmatchForms, walked. -/
import Derived.Test.YtmkcpocaheogaaaDoorKA6
import Derived.Test.YtmkcpocaheogaaaDoorKTk3
import Derived.ChangeShapes
set_option maxRecDepth 100000
set_option maxHeartbeats 4000000
namespace Go.Proofs.YtmkcpocaheogaaaDoor.smt
open Go.RowKit Go.Proofs.YtmkcpocaheogaaaDoor.br
theorem u8_of {a : Int} (h : (Lit.int .u8 a).wf = true) : 0 ≤ a ∧ a < 256 := by
 simp [Lit.wf] at h
 have h1 : IntKind.u8.min = 0 := rfl
 have h2 : IntKind.u8.max = 255 := rfl
 omega
theorem f1_n : (msF .zero fo1).back = false ∧ (msF .zero fo1).groups = ((2 : Nat) : Int) := by
 simp [fo1, msF, msT, repT, byteT, xbp, catT, Ms.zero, Ms.both, Ms.rep, Ms.grp, wrM, sumM, xdh]
theorem f2_n : (msF .zero fo2).back = false ∧ (msF .zero fo2).groups = ((1 : Nat) : Int) := by
 simp [fo2, msF, msT, repT, byteT, xbp, catT, Ms.zero, Ms.both, Ms.rep, Ms.grp, wrM, sumM, xdh]
theorem f3_n : (msF .zero fo3).back = false ∧ (msF .zero fo3).groups = ((3 : Nat) : Int) := by
 simp [fo3, msF, msT, repT, byteT, xbp, catT, Ms.zero, Ms.both, Ms.rep, Ms.grp, wrM, sumM, xdh]
def hdR : Code → Nat
 | .region i _ _ => i
 | .seq a _ => hdR a
 | .scope c => hdR c
 | _ => 1000
def tlR (n : Nat) : Code → Option Code
 | .seq a b => if hdR a = n then some (.seq a b) else tlR n b
 | _ => none
noncomputable def tl9 : Code := (Tryd.f4.body.bind (tlR 9)).getD .skip
noncomputable def tl19 : Code := (Tryd.f4.body.bind (tlR 19)).getD .skip
noncomputable def tl13 : Code := (Tryd.f4.body.bind (tlR 13)).getD .skip
theorem bel_new {B : Nat} (X : World) (o : Obj) (hB : B ≤ X.heap.size) : Below B X (X.alloc o) := (Below.refl _ _).alloc hB _
theorem forms19 (u0 u1 u2 u3 u9 u10 u11 u12 u14 u15 u16 u17 u18 u19 u20 u21 u22 u23 u24 u25 u26 u27 u28 u29 u30 u31 u32 u33 u34 u35 u36 u37 u38 u39 u40 u41 u42 u43 u44 u45 u46 u47 u48 u49 u50 u51 u52 u53 u54 u55 u56 u57 u58 u59 u60 u61 u62 u63 u64 u65 u66 u67 u68 u69 u70 u71 u72 u73 u74 u75 u76 u77 u78 u79 u80 u81 u82 u83 u84 u85 u86 u87 u88 u89 u90 u91 u92 u93 u94 u95 u96 u97 u98 u99 u100 u101 u102 u103 u104 u105 u106 u107 u108 u109 u110 u111 u112 u113 u114 u115 u116 u117 u118 u119 u120 u121 u122 u123 u124 u125 u126 : Value) {a b g : Nat} {p : Int × Int} (HN : Hid (a < 40 ∧ b < 10)) (W W1 : World) (HG : Hid (Glob W ∧ Tab W)) (HB : Hid (Below W.heap.size W W1)) (HP : Hid (W1.heap[g]? = some (.cells #[.int .i64 p.1, .int .i64 p.2] 34))) (HL : Hid ((bif Nat.beq a 0 then ((-1 : Int), (-1 : Int)) else ((a : Int) - 2 + ((a % 2 : Nat) : Int), (a : Int))) = p)) :
 Code.wp Tryd.prog tl19 (bodyPost Tryd.prog Tryd.f4 fun e w' => e = .returned (.bool true) ∧ Below W.heap.size W w') ⟨#[u0, u1, u2, u3, .bool false, .int .i64 (a : Nat), .int .i64 (b : Nat), .string (repB 97 a), .string (repB 98 b), u9, u10, u11, u12, .pointer (some ⟨g, 0, none⟩), u14, u15, u16, u17, u18, u19, u20, u21, u22, u23, u24, u25, u26, u27, u28, u29, u30, u31, u32, u33, u34, u35, u36, u37, u38, u39, u40, u41, u42, u43, u44, u45, u46, u47, u48, u49, u50, u51, u52, u53, u54, u55, u56, u57, u58, u59, u60, u61, u62, u63, u64, u65, u66, u67, u68, u69, u70, u71, u72, u73, u74, u75, u76, u77, u78, u79, u80, u81, u82, u83, u84, u85, u86, u87, u88, u89, u90, u91, u92, u93, u94, u95, u96, u97, u98, u99, u100, u101, u102, u103, u104, u105, u106, u107, u108, u109, u110, u111, u112, u113, u114, u115, u116, u117, u118, u119, u120, u121, u122, u123, u124, u125, u126], []⟩ W1 := by
 conv => arg 2; whnf
 have hg1 := HG.out.1.below HB.out (Nat.le_refl _)
 have hT1 := HG.out.2.below HB.out HG.out.2.pos
 obtain ⟨c1, hc1⟩ := fnd_of (f2_f HN.out.1)
 rw [HL.out] at hc1
 have hM1 := found_any (s := repB 97 a) W1 hg1 hT1 f2_p f2_n.1 f2_n.2 (by rw [repB_size]; have := HN.out; omega) (by rw [bl_rep]; exact hc1)
 clear hc1
 go_wp2_with fail
 refine hM1.mono ?_
 rintro e W2 ⟨hB, v, rfl, ho⟩
 have hS := same_lit [(0, (a : Int)), p] ho (by simp) (by simp)
 rw [decide_eq_true rfl] at hS
 have hp2 := (hB.block g (Array.getElem?_eq_some_iff.1 HP.out).1).trans HP.out
 have p0 : W2.cell? ⟨g, 0, none⟩ = some (.int .i64 p.1) := by simp [World.cell?, hp2]
 have p1 : W2.cell? ⟨g, 1, none⟩ = some (.int .i64 p.2) := by simp [World.cell?, hp2]
 have HB2 := hideT (HB.out.trans (hB.mono HB.out.size))
 clear hB ho hM1 hp2 hg1 hT1 HB HP HL
 go_wp2_with fail
 refine hS.mono ?_
 rintro e W3 ⟨rfl, h3⟩
 have HB3 := hideT (HB2.out.trans (h3.mono HB2.out.size))
 clear h3 HB2 hS p0 p1
 have hg3 := HG.out.1.below HB3.out (Nat.le_refl _)
 have hT3 := HG.out.2.below HB3.out HG.out.2.pos
 obtain ⟨c3, hc3⟩ := fnd_of (f3_f HN.out.1 HN.out.2)
 have hsz : (repB 97 a ++ repB 98 b).size = a + b := by rw [ByteArray.size_append, repB_size, repB_size]
 have hM3 := found_any (s := repB 97 a ++ repB 98 b) W3 hg3 hT3 f3_p f3_n.1 f3_n.2 (by rw [hsz]; have := HN.out; omega) (by rw [bl_app, bl_rep, bl_rep]; exact hc3)
 have z1 : ¬ 9223372036854775807 < (repB 97 a).size + (repB 98 b).size := by rw [repB_size, repB_size]; have := HN.out; omega
 have a9 : a < 40 := HN.out.1
 have b9 : b < 10 := HN.out.2
 clear hc3 hg3 hT3 hsz
 go_wp2_with fail
 refine hM3.mono ?_
 rintro e W4 ⟨hB, v4, rfl, ho⟩
 have hS := same_lit [((0 : Int), ((a + b : Nat) : Int)), (0, (a : Int)), (-1, -1), ((a : Int), ((a + b : Nat) : Int))] ho (by simp) (by simp)
 rw [decide_eq_true rfl] at hS
 have HB4 := hideT (HB3.out.trans (hB.mono HB3.out.size))
 clear hB ho hM3 z1
 go_wp2_with fail
 refine hS.mono ?_
 rintro e W5 ⟨rfl, h5⟩
 have HB5 := hideT (HB4.out.trans (h5.mono HB4.out.size))
 clear h5 HB4 hS HB3
 go_wp2
 go_ret
 exact ⟨rfl, HB5.out⟩
theorem forms13 (u0 u1 u2 u3 u9 u10 u11 u12 u13 u14 u15 u16 u17 u18 u19 u20 u21 u22 u23 u24 u25 u26 u27 u28 u29 u30 u31 u32 u33 u34 u35 u36 u37 u38 u39 u40 u41 u42 u43 u44 u45 u46 u47 u48 u49 u50 u51 u52 u53 u54 u55 u56 u57 u58 u59 u60 u61 u62 u63 u64 u65 u66 u67 u68 u69 u70 u71 u72 u73 u74 u75 u76 u77 u78 u79 u80 u81 u82 u83 u84 u85 u86 u87 u88 u89 u90 u91 u92 u93 u94 u95 u96 u97 u98 u99 u100 u101 u102 u103 u104 u105 u106 u107 u108 u109 u110 u111 u112 u113 u114 u115 u116 u117 u118 u119 u120 u121 u122 u123 u124 u125 u126 : Value) {a b : Nat} (HN : Hid (a < 40 ∧ b < 10)) (W W1 : World) (HG : Hid (Glob W ∧ Tab W)) (HB : Hid (Below W.heap.size W W1)) :
 Code.wp Tryd.prog tl13 (bodyPost Tryd.prog Tryd.f4 fun e w' => e = .returned (.bool true) ∧ Below W.heap.size W w') ⟨#[u0, u1, u2, u3, .bool false, .int .i64 (a : Nat), .int .i64 (b : Nat), .string (repB 97 a), .string (repB 98 b), u9, u10, u11, u12, u13, u14, u15, u16, u17, u18, u19, u20, u21, u22, u23, u24, u25, u26, u27, u28, u29, u30, u31, u32, u33, u34, u35, u36, u37, u38, u39, u40, u41, u42, u43, u44, u45, u46, u47, u48, u49, u50, u51, u52, u53, u54, u55, u56, u57, u58, u59, u60, u61, u62, u63, u64, u65, u66, u67, u68, u69, u70, u71, u72, u73, u74, u75, u76, u77, u78, u79, u80, u81, u82, u83, u84, u85, u86, u87, u88, u89, u90, u91, u92, u93, u94, u95, u96, u97, u98, u99, u100, u101, u102, u103, u104, u105, u106, u107, u108, u109, u110, u111, u112, u113, u114, u115, u116, u117, u118, u119, u120, u121, u122, u123, u124, u125, u126], []⟩ W1 := by
 conv => arg 2; whnf
 have hg1 := HG.out.1.below HB.out (Nat.le_refl _)
 have hT1 := HG.out.2.below HB.out HG.out.2.pos
 obtain ⟨c1, hc1⟩ := fnd_of (f1_f HN.out.1)
 have hM1 := found_any (s := repB 97 a) W1 hg1 hT1 f1_p f1_n.1 f1_n.2 (by rw [repB_size]; have := HN.out; omega) (by rw [bl_rep]; exact hc1)
 clear hc1
 go_wp2_with fail
 refine hM1.mono ?_
 rintro e W2 ⟨hB, v, rfl, ho⟩
 have hS := same_lit [(0, (a : Int)), (0, (a : Int)), ((a : Int), (a : Int))] ho (by simp) (by simp)
 rw [decide_eq_true rfl] at hS
 have HB2 := hideT (HB.out.trans (hB.mono HB.out.size))
 clear hB ho hM1
 go_wp2_with fail
 refine hS.mono ?_
 rintro e W3 ⟨rfl, h3⟩
 have HB3 := hideT (HB2.out.trans (h3.mono HB2.out.size))
 have a9 : a < 40 := HN.out.1
 clear h3 HB2 HB hS hg1 hT1
 go_upto_region 17 with fail
 rename_i K hK K2 hK2
 replace hK := fun (a : Act) (w : World) (h : Code.wp Tryd.prog tl19 _ a w) => hK a w h
 by_cases h0 : a = 0
 · have z0 : ((a : Int) == 0) = true := by simp [h0]
   have hl : (bif Nat.beq a 0 then ((-1 : Int), (-1 : Int)) else ((a : Int) - 2 + ((a % 2 : Nat) : Int), (a : Int))) = (-1, -1) := by rw [h0]; rfl
   have HL := hideT hl
   clear h0 hl
   go_wp2_with fail
   exact forms19 _ _ _ _ _ _ _ _ _ _ _ _ _ _ _ _ _ _ _ _ _ _ _ _ _ _ _ _ _ _ _ _ _ _ _ _ _ _ _ _ _ _ _ _ _ _ _ _ _ _ _ _ _ _ _ _ _ _ _ _ _ _ _ _ _ _ _ _ _ _ _ _ _ _ _ _ _ _ _ _ _ _ _ _ _ _ _ _ _ _ _ _ _ _ _ _ _ _ _ _ _ _ _ _ _ _ _ _ _ _ _ _ _ _ _ _ _ _ _ _ _ (g := W3.heap.size) (p := (-1, -1)) HN W _ HG (hideT (HB3.out.trans (bel_new W3 _ HB3.out.size))) (hideT (heap_alloc_new W3 _)) HL
 · have z0 : ((a : Int) == 0) = false := by simp; omega
   have hl : (bif Nat.beq a 0 then ((-1 : Int), (-1 : Int)) else ((a : Int) - 2 + ((a % 2 : Nat) : Int), (a : Int))) = ((a : Int) - 2 + (a : Int) % 2, (a : Int)) := by
    have : Nat.beq a 0 = false := by cases h : Nat.beq a 0 with
     | false => rfl
     | true => exact absurd (Nat.eq_of_beq_eq_true h) h0
    rw [this]; rfl
   have HL := hideT hl
   clear h0 hl
   go_wp2_with fail
   exact forms19 _ _ _ _ _ _ _ _ _ _ _ _ _ _ _ _ _ _ _ _ _ _ _ _ _ _ _ _ _ _ _ _ _ _ _ _ _ _ _ _ _ _ _ _ _ _ _ _ _ _ _ _ _ _ _ _ _ _ _ _ _ _ _ _ _ _ _ _ _ _ _ _ _ _ _ _ _ _ _ _ _ _ _ _ _ _ _ _ _ _ _ _ _ _ _ _ _ _ _ _ _ _ _ _ _ _ _ _ _ _ _ _ _ _ _ _ _ _ _ _ _ (g := W3.heap.size) (p := ((a : Int) - 2 + (a : Int) % 2, (a : Int))) HN W _ HG (hideT (HB3.out.trans (bel_new W3 _ HB3.out.size))) (hideT (heap_alloc_new W3 _)) HL
theorem forms9 (u0 u1 u2 u3 u9 u10 u11 u12 u13 u14 u15 u16 u17 u18 u19 u20 u21 u22 u23 u24 u25 u26 u27 u28 u29 u30 u31 u32 u33 u34 u35 u36 u37 u38 u39 u40 u41 u42 u43 u44 u45 u46 u47 u48 u49 u50 u51 u52 u53 u54 u55 u56 u57 u58 u59 u60 u61 u62 u63 u64 u65 u66 u67 u68 u69 u70 u71 u72 u73 u74 u75 u76 u77 u78 u79 u80 u81 u82 u83 u84 u85 u86 u87 u88 u89 u90 u91 u92 u93 u94 u95 u96 u97 u98 u99 u100 u101 u102 u103 u104 u105 u106 u107 u108 u109 u110 u111 u112 u113 u114 u115 u116 u117 u118 u119 u120 u121 u122 u123 u124 u125 u126 : Value) {a b : Nat} (HN : Hid (a < 40 ∧ b < 10)) (W W1 : World) (HG : Hid (Glob W ∧ Tab W)) (HB : Hid (Below W.heap.size W W1)) :
 Code.wp Tryd.prog tl9 (bodyPost Tryd.prog Tryd.f4 fun e w' => e = .returned (.bool true) ∧ Below W.heap.size W w') ⟨#[u0, u1, u2, u3, .bool false, .int .i64 (a : Nat), .int .i64 (b : Nat), .string (repB 97 a), .string ⟨#[]⟩, u9, u10, u11, u12, u13, u14, u15, u16, u17, u18, u19, u20, u21, u22, u23, u24, u25, u26, u27, u28, u29, u30, u31, u32, u33, u34, u35, u36, u37, u38, u39, u40, u41, u42, u43, u44, u45, u46, u47, u48, u49, u50, u51, u52, u53, u54, u55, u56, u57, u58, u59, u60, u61, u62, u63, u64, u65, u66, u67, u68, u69, u70, u71, u72, u73, u74, u75, u76, u77, u78, u79, u80, u81, u82, u83, u84, u85, u86, u87, u88, u89, u90, u91, u92, u93, u94, u95, u96, u97, u98, u99, u100, u101, u102, u103, u104, u105, u106, u107, u108, u109, u110, u111, u112, u113, u114, u115, u116, u117, u118, u119, u120, u121, u122, u123, u124, u125, u126], []⟩ W1 := by
 conv => arg 2; whnf
 have e1 : (⟨#[]⟩ : ByteArray) = repB 98 0 := rfl
 go_wp2_with fail
 rename_i K hK
 replace hK := fun (a : Act) (w : World) (h : Code.wp Tryd.prog tl13 _ a w) => hK a w h
 go_loopw [8, 33] (fun sv iv wr => ∃ k : Nat, k ≤ b ∧ sv = .string (repB 98 k) ∧ iv = .int .i64 (k : Nat) ∧ Hid (wr = W1)) (fun _ iv _ => (b - intOf iv).toNat)
 case atStart => exact ⟨0, by omega, rfl, rfl, hideT rfl⟩
 case round =>
  obtain ⟨k, hk, rfl, rfl, HW⟩ := hrel
  by_cases hlt : k < b
  · have i1 : (k : Int) < (b : Int) := by omega
    have k9 : k < 10 := by have := HN.out; omega
    have z1 : ¬ 9223372036854775807 < (repB 98 k).size + (⟨#[98]⟩ : ByteArray).size := by rw [repB_size]; show ¬ 9223372036854775807 < k + 1; omega
    have HL := hideT hlt
    clear hlt hk
    go_wp2
    exact ⟨⟨k + 1, HL.out, by rw [repB_next], by go_num, HW⟩, by simp [intOf]; have := HL.out; omega⟩
  · have i1 : ((k : Int) < (b : Int)) = False := by rw [eq_iff_iff, iff_false]; omega
    have i2 : (k < b) = False := by rw [eq_iff_iff, iff_false]; omega
    obtain rfl : k = b := by omega
    obtain rfl := HW.out
    clear hlt hk
    go_wp2_with fail
    exact forms13 _ _ _ _ _ _ _ _ _ _ _ _ _ _ _ _ _ _ _ _ _ _ _ _ _ _ _ _ _ _ _ _ _ _ _ _ _ _ _ _ _ _ _ _ _ _ _ _ _ _ _ _ _ _ _ _ _ _ _ _ _ _ _ _ _ _ _ _ _ _ _ _ _ _ _ _ _ _ _ _ _ _ _ _ _ _ _ _ _ _ _ _ _ _ _ _ _ _ _ _ _ _ _ _ _ _ _ _ _ _ _ _ _ _ _ _ _ _ _ _ _ _ HN W wr HG HB
theorem walk_setmatchForms (a0 a1 : Int) (w0 : (Lit.int .u8 a0).wf = true) (w1 : (Lit.int .u8 a1).wf = true) (W : World) (hg : Glob W) (hT : Tab W) : Calls Tryd.prog 4 #[.int .u8 a0, .int .u8 a1] W fun e w' => e = .returned (.bool true) ∧ Below W.heap.size W w' := by
 have b0 := u8_of w0
 have b1 := u8_of w1
 obtain ⟨n, rfl⟩ := Int.eq_ofNat_of_zero_le b0.1
 obtain ⟨m, rfl⟩ := Int.eq_ofNat_of_zero_le b1.1
 have HA := hideT (awake_any W hg hT)
 have HG := hideT (And.intro hg hT)
 clear hg hT w0 w1 b0 b1
 go_enter Tryd.func4, Tryd.ntmps4
 go_wp2_with fail
 refine HA.out.mono ?_
 rintro e W1 ⟨rfl, hB1⟩
 have HB := hideT hB1
 clear hB1 HA
 go_wp2_with fail
 obtain ⟨a, ha, ha4⟩ : ∃ a : Nat, (n : Int) % 40 = (a : Int) ∧ a < 40 := ⟨n % 40, rfl, Nat.mod_lt _ (by omega)⟩
 obtain ⟨b, hb, hb1⟩ : ∃ b : Nat, (m : Int) % 10 = (b : Int) ∧ b < 10 := ⟨m % 10, rfl, Nat.mod_lt _ (by omega)⟩
 rw [ha, hb]
 have HN := hideT (And.intro ha4 hb1)
 clear ha hb ha4 hb1
 have e0 : (⟨#[]⟩ : ByteArray) = repB 97 0 := rfl
 rename_i K hK
 replace hK := fun (a : Act) (w : World) (h : Code.wp Tryd.prog tl9 _ a w) => hK a w h
 go_loopw [7, 27] (fun sv iv wr => ∃ k : Nat, k ≤ a ∧ sv = .string (repB 97 k) ∧ iv = .int .i64 (k : Nat) ∧ Hid (wr = W1)) (fun _ iv _ => (a - intOf iv).toNat)
 case atStart => exact ⟨0, by omega, rfl, rfl, hideT rfl⟩
 case round =>
  obtain ⟨k, hk, rfl, rfl, HW⟩ := hrel
  by_cases hlt : k < a
  · have i1 : (k : Int) < (a : Int) := by omega
    have k9 : k < 40 := by have := HN.out; omega
    have z1 : ¬ 9223372036854775807 < (repB 97 k).size + (⟨#[97]⟩ : ByteArray).size := by rw [repB_size]; show ¬ 9223372036854775807 < k + 1; omega
    have HL := hideT hlt
    clear hlt hk
    go_wp2
    exact ⟨⟨k + 1, HL.out, by rw [repB_next], by go_num, HW⟩, by simp [intOf]; have := HL.out; omega⟩
  · have i1 : ((k : Int) < (a : Int)) = False := by rw [eq_iff_iff, iff_false]; omega
    have i2 : (k < a) = False := by rw [eq_iff_iff, iff_false]; omega
    obtain rfl : k = a := by omega
    obtain rfl := HW.out
    clear hlt hk
    go_wp2_with fail
    exact forms9 _ _ _ _ _ _ _ _ _ _ _ _ _ _ _ _ _ _ _ _ _ _ _ _ _ _ _ _ _ _ _ _ _ _ _ _ _ _ _ _ _ _ _ _ _ _ _ _ _ _ _ _ _ _ _ _ _ _ _ _ _ _ _ _ _ _ _ _ _ _ _ _ _ _ _ _ _ _ _ _ _ _ _ _ _ _ _ _ _ _ _ _ _ _ _ _ _ _ _ _ _ _ _ _ _ _ _ _ _ _ _ _ _ _ _ _ _ _ _ _ _ _ HN W wr HG HB
end Go.Proofs.YtmkcpocaheogaaaDoor.smt
