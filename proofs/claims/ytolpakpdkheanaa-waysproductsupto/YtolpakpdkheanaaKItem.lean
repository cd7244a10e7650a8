/- bracket: items: what they are; a byte that stands for itself, read by both. -/
import Derived.Test.YtolpakpdkheanaaKDet
import Derived.Test.YtolpakpdkheanaaKClose
import Derived.Lib.IndexMore
import Derived.Deep.RegionHeld3
set_option maxRecDepth 100000
set_option maxHeartbeats 2000000
namespace Go.Proofs.Ytolpakpdkheanaa.br
open Go.RowKit
structure It where
 e : Int
 q : Nat → Bool
 b : Int
 bound : Bool
 next : Nat
def It.err (e : Int) : It := ⟨e, xad, 0, false, 0⟩
def mkAt (s : ByteArray) (i : Nat) : UInt8 := (xag s (i + 1)).toNat.toUInt8
noncomputable def xa2 (s : ByteArray) (i : Nat) : It :=
 if xc7 s (i + 3) (mkAt s i) = -1 then .err 6
 else if xag s (i + 1) = 58 then ⟨xi9 (s.extract (i + 2) (xc7 s (i + 3) (mkAt s i)).toNat), xg3 (s.extract (i + 2) (xc7 s (i + 3) (mkAt s i)).toNat), 0, false, (xc7 s (i + 3) (mkAt s i)).toNat + 2⟩
 else if xc7 s (i + 3) (mkAt s i) = (i : Int) + 3 then ⟨0, ofP (s.extract (i + 2) (i + 3)), xag s (i + 2), xag s (i + 1) == 46, i + 5⟩
 else .err 8
def xd1 (s : ByteArray) (i : Nat) : Bool := xag s i == 91 && (xag s (i + 1) == 58 || xag s (i + 1) == 61 || xag s (i + 1) == 46)
noncomputable def xa4 (s : ByteArray) (i : Nat) : It :=
 if i < s.size then (if xd1 s i = true then xa2 s i else ⟨0, ofP (s.extract i (i + 1)), xag s i, true, i + 1⟩) else .err 6
theorem xbn (s : ByteArray) (a : Nat) (m : UInt8) : xc7 s a m = -1 ∨ ∃ c : Nat, xc7 s a m = c ∧ a ≤ c ∧ c + 1 < s.size := by
 rcases Lib.index_spec (s.data.toList.drop a) [m, 93] with ⟨h, -⟩ | ⟨i, h, h1, h2⟩
 ·left; simp [xc7, h]
 ·right
  have hr := Lib.index_room (s.data.toList.drop a) [m, 93] (by omega)
  rw [h] at hr
  simp at hr
  refine ⟨a + i, ?_, by omega, by omega⟩
  rw [xc7, h, if_neg (by omega)]
  omega
theorem xdl (s : ByteArray) (i : Nat) : (xa4 s i).next ≤ s.size ∧ ((xa4 s i).e = 0 → i < (xa4 s i).next) := by
 unfold xa4
 split
 ·split
  ·unfold xa2
   rcases xbn s (i + 3) (mkAt s i) with h | ⟨c, h, h1, h2⟩
   ·rw [if_pos h]; exact ⟨Nat.zero_le _, fun h => by simp [It.err] at h⟩
   ·rw [if_neg (by omega), h]
    split
    ·exact ⟨by simp; omega, fun _ => by simp; omega⟩
    ·split
     ·exact ⟨by simp; omega, fun _ => by simp⟩
     ·exact ⟨Nat.zero_le _, fun h => by simp [It.err] at h⟩
  ·exact ⟨by simp; omega, fun _ => by simp⟩
 ·exact ⟨Nat.zero_le _, fun h => by simp [It.err] at h⟩
def HoldsV (w : World) (b : Nat) (vs : List Value) : Prop := ∀ i v, vs[i]? = some v → w.cell? ⟨b, i, none⟩ = some v ∧ w.frozen? ⟨b, i, none⟩ = false
theorem HoldsV.below {w w' : World} {b B : Nat} {vs : List Value} (h : HoldsV w b vs) (hb : Below B w w') (hlt : b < B) : HoldsV w' b vs := fun i v hi => ⟨(hb.cell (p := ⟨b, i, none⟩) hlt).trans (h i v hi).1, (World.frozen?_of_block (hb.block b hlt)).trans (h i v hi).2⟩
theorem HoldsV.new (w : World) (cs : Array Value) (t : TypeId) : HoldsV (w.alloc (.cells cs t)) w.heap.size cs.toList := by
 intro i v hi
 have hb : (w.alloc (.cells cs t)).heap[w.heap.size]? = some (.cells cs t) := World.alloc_heap_new w _
 refine ⟨?_, ?_⟩
 ·rw [Lib.cell_of_heap hb, ← Array.getElem?_toList]; exact hi
 ·unfold World.frozen?
  rw [hb]
  simp
theorem xgc {B : Nat} {a w : World} (h : Below B a w) {b : Nat} (hb : B ≤ b) (v0 v1 v2 v3 v4 v5 v6 : Value) : Below B a (((((((w.setCell ⟨b, 0, none⟩ v0).setCell ⟨b, 1, none⟩ v1).setCell ⟨b, 2, none⟩ v2).setCell ⟨b, 3, none⟩ v3).setCell ⟨b, 4, none⟩ v4).setCell ⟨b, 5, none⟩ v5).setCell ⟨b, 6, none⟩ v6) :=
 ((((((h.setCell (p := ⟨b, 0, none⟩) hb _).setCell (p := ⟨b, 1, none⟩) hb _).setCell (p := ⟨b, 2, none⟩) hb _).setCell (p := ⟨b, 3, none⟩) hb _).setCell (p := ⟨b, 4, none⟩) hb _).setCell (p := ⟨b, 5, none⟩) hb _).setCell (p := ⟨b, 6, none⟩) hb _
theorem idx3 (c : UInt8) (h1 : c ≠ 58) (h2 : c ≠ 61) (h3 : c ≠ 46) : Lib.indexByte [58, 61, 46] c = -1 := by
 simp [Lib.indexByte, Ne.symm h1, Ne.symm h2, Ne.symm h3]
theorem idx3_yes (c : UInt8) (h : c = 58 ∨ c = 61 ∨ c = 46) : 0 ≤ Lib.indexByte [58, 61, 46] c := by
 rcases h with rfl | rfl | rfl <;> decide
theorem xja (s : ByteArray) (i : Nat) (h : s.size ≤ i) (w : World) :
  Calls Try.prog 92 #[.string s, .int .i64 i] w fun e w' => e = .returned (.tuple #[.agg #[.int .u64 0, .int .u64 0, .int .u64 0, .int .u64 0, .int .u8 0, .bool false, .int .i64 0], .int .i64 6]) ∧ Below w.heap.size w w' := by
 go_enter Try.func92, Try.ntmps92
 go_wp2
 exact bodyPost_ret (v := .tuple #[.agg #[.int .u64 0, .int .u64 0, .int .u64 0, .int .u64 0, .int .u8 0, .bool false, .int .i64 0], .int .i64 6]) (by simp [results, Try.results92, go_sem]) rfl ⟨rfl, (Below.refl _ _).alloc (Nat.le_refl _) _⟩
theorem xgs (s : ByteArray) (hs : s.size ≤ 1073741824) (i : Nat) (h : i < s.size) (hm : ¬ xag s i = 91) (w : World) :
  Calls Try.prog 92 #[.string s, .int .i64 i] w fun e w' => e = .returned (.tuple #[.agg #[.int .u64 (wd (ofP (s.extract i (i + 1))) 0), .int .u64 (wd (ofP (s.extract i (i + 1))) 1), .int .u64 (wd (ofP (s.extract i (i + 1))) 2), .int .u64 (wd (ofP (s.extract i (i + 1))) 3), .int .u8 (xag s i), .bool true, .int .i64 (i + 1 : Nat)], .int .i64 0]) ∧ Below w.heap.size w w' := by
 rw [xan h] at hm ⊢
 have hO := ofD (s.extract i (i + 1)) (by unfold maxLen; simp; omega)
 have HO := hide hO
 have hsz1 : (i : Int) + 1 ≤ (s.size : Int) := by omega
 have hw1 : IntKind.i64.wrap ((i : Int) + 1) = (i : Int) + 1 := by rw [IntKind.wrap_i64]; omega
 have hn1 : (0 : Int) ≤ (i : Int) := by omega
 have hn2 : (0 : Int) ≤ (i : Int) + 1 := by omega
 have hn3 : (i : Int) ≤ (i : Int) + 1 := by omega
 have hn4 : (i : Int) < (s.size : Int) := by omega
 clear hO
 have h91 := hm
 clear hm
 ·have hb91 : ((s[i].toNat : Int) == 91) = false := by simp [h91]
  go_enter Try.func92, Try.ntmps92
  go_wp2_with fail
  have hZ := HoldsV.new w #[.int .u64 0, .int .u64 0, .int .u64 0, .int .u64 0, .int .u8 0, .bool false, .int .i64 0] 170
  have hzB : Below w.heap.size w (w.alloc (.cells #[.int .u64 0, .int .u64 0, .int .u64 0, .int .u64 0, .int .u8 0, .bool false, .int .i64 0] 170)) := (Below.refl _ _).alloc (Nat.le_refl _) _
  have HZ := hide hZ
  have HZB := hide hzB
  clear hZ hzB
  go_region_with (go_at_call 79; go_must (refine (HO.out _).mono ?_; rintro e w1 ⟨rfl, hb1⟩; have hz1 := HoldsV.below (w := (w.alloc (.cells #[.int .u64 0, .int .u64 0, .int .u64 0, .int .u64 0, .int .u8 0, .bool false, .int .i64 0] 170)).drew) (b := w.heap.size) (vs := (#[.int .u64 0, .int .u64 0, .int .u64 0, .int .u64 0, .int .u8 0, .bool false, .int .i64 0] : Array Value).toList) HZ.out hb1 (by simp); obtain ⟨⟨c0, f0⟩, ⟨c1, f1⟩, ⟨c2, f2⟩, ⟨c3, f3⟩, ⟨c4, f4⟩, ⟨c5, f5⟩, ⟨c6, f6⟩⟩ := (⟨hz1 0 _ rfl, hz1 1 _ rfl, hz1 2 _ rfl, hz1 3 _ rfl, hz1 4 _ rfl, hz1 5 _ rfl, hz1 6 _ rfl⟩ : _ ∧ _ ∧ _ ∧ _ ∧ _ ∧ _ ∧ _); have HB1 := hide (HZB.out.drew.trans (hb1.mono HZB.out.drew.size)); clear hb1 hz1))
  all_goals
   go_wp2
   have hBf := xgc HB1.out (Nat.le_refl w.heap.size) (.int .u64 (wd (ofP (s.extract i (i + 1))) 0)) (.int .u64 (wd (ofP (s.extract i (i + 1))) 1)) (.int .u64 (wd (ofP (s.extract i (i + 1))) 2)) (.int .u64 (wd (ofP (s.extract i (i + 1))) 3)) (.int .u8 (s[i].toNat : Int)) (.bool true) (.int .i64 ((i : Int) + 1))
   refine bodyPost_ret (v := .tuple #[.agg #[.int .u64 (wd (ofP (s.extract i (i + 1))) 0), .int .u64 (wd (ofP (s.extract i (i + 1))) 1), .int .u64 (wd (ofP (s.extract i (i + 1))) 2), .int .u64 (wd (ofP (s.extract i (i + 1))) 3), .int .u8 (s[i].toNat : Int), .bool true, .int .i64 ((i : Int) + 1)], .int .i64 0]) ?_ rfl ⟨?_, hBf⟩
   ·clear hBf
    simp [results, Try.results92, go_sem, *]
   ·rfl
theorem xhs (s : ByteArray) (hs : s.size ≤ 1073741824) (i : Nat) (h : i < s.size) (hm : xag s i = 91) (h1 : i + 1 < s.size) (hm2 : ¬ (xag s (i + 1) = 58 ∨ xag s (i + 1) = 61 ∨ xag s (i + 1) = 46)) (w : World) :
  Calls Try.prog 92 #[.string s, .int .i64 i] w fun e w' => e = .returned (.tuple #[.agg #[.int .u64 (wd (ofP (s.extract i (i + 1))) 0), .int .u64 (wd (ofP (s.extract i (i + 1))) 1), .int .u64 (wd (ofP (s.extract i (i + 1))) 2), .int .u64 (wd (ofP (s.extract i (i + 1))) 3), .int .u8 (xag s i), .bool true, .int .i64 (i + 1 : Nat)], .int .i64 0]) ∧ Below w.heap.size w w' := by
 rw [xan h] at hm ⊢
 have hb91 : ((s[i].toNat : Int) == 91) = true := by simp [hm]
 clear hm
 have hO := ofD (s.extract i (i + 1)) (by unfold maxLen; simp; omega)
 have HO := hide hO
 have hsz1 : (i : Int) + 1 ≤ (s.size : Int) := by omega
 have hw1 : IntKind.i64.wrap ((i : Int) + 1) = (i : Int) + 1 := by rw [IntKind.wrap_i64]; omega
 have hn1 : (0 : Int) ≤ (i : Int) := by omega
 have hn2 : (0 : Int) ≤ (i : Int) + 1 := by omega
 have hn3 : (i : Int) ≤ (i : Int) + 1 := by omega
 have hn4 : (i : Int) < (s.size : Int) := by omega
 clear hO
 rw [xan h1] at hm2
 have hidx : Lib.indexByte (⟨#[58, 61, 46]⟩ : ByteArray).data.toList ((s[i + 1].toNat : Int).toNat.toUInt8) = -1 := by
  have e : ((s[i + 1].toNat : Int).toNat.toUInt8) = s[i + 1] := by simp
  rw [e]
  refine idx3 _ (fun e => hm2 (.inl ?_)) (fun e => hm2 (.inr (.inl ?_))) (fun e => hm2 (.inr (.inr ?_))) <;> (rw [e]; rfl)
 have hI := Try.strings_IndexByte ⟨#[58, 61, 46]⟩ (s[i + 1].toNat : Int)
 rw [hidx] at hI
 have HI := hide hI
 clear hI hidx hm2
 go_enter Try.func92, Try.ntmps92
 go_wp2_with fail
 refine (HI.out _).mono ?_
 rintro e w0 ⟨rfl, hw0⟩
 have hw0 := hw0.symm
 subst hw0
 go_wp2_with fail
 have hZ := HoldsV.new w #[.int .u64 0, .int .u64 0, .int .u64 0, .int .u64 0, .int .u8 0, .bool false, .int .i64 0] 170
 have hzB : Below w.heap.size w (w.alloc (.cells #[.int .u64 0, .int .u64 0, .int .u64 0, .int .u64 0, .int .u8 0, .bool false, .int .i64 0] 170)) := (Below.refl _ _).alloc (Nat.le_refl _) _
 have HZ := hide hZ
 have HZB := hide hzB
 clear hZ hzB
 go_region_with (go_at_call 79; go_must (refine (HO.out _).mono ?_; rintro e w1 ⟨rfl, hb1⟩; have hz1 := HoldsV.below (w := (w.alloc (.cells #[.int .u64 0, .int .u64 0, .int .u64 0, .int .u64 0, .int .u8 0, .bool false, .int .i64 0] 170)).drew) (b := w.heap.size) (vs := (#[.int .u64 0, .int .u64 0, .int .u64 0, .int .u64 0, .int .u8 0, .bool false, .int .i64 0] : Array Value).toList) HZ.out hb1 (by simp); obtain ⟨⟨c0, f0⟩, ⟨c1, f1⟩, ⟨c2, f2⟩, ⟨c3, f3⟩, ⟨c4, f4⟩, ⟨c5, f5⟩, ⟨c6, f6⟩⟩ := (⟨hz1 0 _ rfl, hz1 1 _ rfl, hz1 2 _ rfl, hz1 3 _ rfl, hz1 4 _ rfl, hz1 5 _ rfl, hz1 6 _ rfl⟩ : _ ∧ _ ∧ _ ∧ _ ∧ _ ∧ _ ∧ _); have HB1 := hide (HZB.out.drew.trans (hb1.mono HZB.out.drew.size)); clear hb1 hz1))
 all_goals
  go_wp2
  have hBf := xgc HB1.out (Nat.le_refl w.heap.size) (.int .u64 (wd (ofP (s.extract i (i + 1))) 0)) (.int .u64 (wd (ofP (s.extract i (i + 1))) 1)) (.int .u64 (wd (ofP (s.extract i (i + 1))) 2)) (.int .u64 (wd (ofP (s.extract i (i + 1))) 3)) (.int .u8 (s[i].toNat : Int)) (.bool true) (.int .i64 ((i : Int) + 1))
  refine bodyPost_ret (v := .tuple #[.agg #[.int .u64 (wd (ofP (s.extract i (i + 1))) 0), .int .u64 (wd (ofP (s.extract i (i + 1))) 1), .int .u64 (wd (ofP (s.extract i (i + 1))) 2), .int .u64 (wd (ofP (s.extract i (i + 1))) 3), .int .u8 (s[i].toNat : Int), .bool true, .int .i64 ((i : Int) + 1)], .int .i64 0]) ?_ rfl ⟨?_, hBf⟩
  ·clear hBf
   simp [results, Try.results92, go_sem, *]
  ·rfl
theorem xht (s : ByteArray) (hs : s.size ≤ 1073741824) (i : Nat) (h : i < s.size) (hm : xag s i = 91) (h1 : s.size ≤ i + 1) (w : World) :
  Calls Try.prog 92 #[.string s, .int .i64 i] w fun e w' => e = .returned (.tuple #[.agg #[.int .u64 (wd (ofP (s.extract i (i + 1))) 0), .int .u64 (wd (ofP (s.extract i (i + 1))) 1), .int .u64 (wd (ofP (s.extract i (i + 1))) 2), .int .u64 (wd (ofP (s.extract i (i + 1))) 3), .int .u8 (xag s i), .bool true, .int .i64 (i + 1 : Nat)], .int .i64 0]) ∧ Below w.heap.size w w' := by
 rw [xan h] at hm ⊢
 have hb91 : ((s[i].toNat : Int) == 91) = true := by simp [hm]
 clear hm
 have hO := ofD (s.extract i (i + 1)) (by unfold maxLen; simp; omega)
 have HO := hide hO
 have hsz1 : (i : Int) + 1 ≤ (s.size : Int) := by omega
 have hw1 : IntKind.i64.wrap ((i : Int) + 1) = (i : Int) + 1 := by rw [IntKind.wrap_i64]; omega
 have hn1 : (0 : Int) ≤ (i : Int) := by omega
 have hn2 : (0 : Int) ≤ (i : Int) + 1 := by omega
 have hn3 : (i : Int) ≤ (i : Int) + 1 := by omega
 have hn4 : (i : Int) < (s.size : Int) := by omega
 clear hO
 go_enter Try.func92, Try.ntmps92
 go_wp2_with fail
 have hZ := HoldsV.new w #[.int .u64 0, .int .u64 0, .int .u64 0, .int .u64 0, .int .u8 0, .bool false, .int .i64 0] 170
 have hzB : Below w.heap.size w (w.alloc (.cells #[.int .u64 0, .int .u64 0, .int .u64 0, .int .u64 0, .int .u8 0, .bool false, .int .i64 0] 170)) := (Below.refl _ _).alloc (Nat.le_refl _) _
 have HZ := hide hZ
 have HZB := hide hzB
 clear hZ hzB
 go_region_with (go_at_call 79; go_must (refine (HO.out _).mono ?_; rintro e w1 ⟨rfl, hb1⟩; have hz1 := HoldsV.below (w := (w.alloc (.cells #[.int .u64 0, .int .u64 0, .int .u64 0, .int .u64 0, .int .u8 0, .bool false, .int .i64 0] 170)).drew) (b := w.heap.size) (vs := (#[.int .u64 0, .int .u64 0, .int .u64 0, .int .u64 0, .int .u8 0, .bool false, .int .i64 0] : Array Value).toList) HZ.out hb1 (by simp); obtain ⟨⟨c0, f0⟩, ⟨c1, f1⟩, ⟨c2, f2⟩, ⟨c3, f3⟩, ⟨c4, f4⟩, ⟨c5, f5⟩, ⟨c6, f6⟩⟩ := (⟨hz1 0 _ rfl, hz1 1 _ rfl, hz1 2 _ rfl, hz1 3 _ rfl, hz1 4 _ rfl, hz1 5 _ rfl, hz1 6 _ rfl⟩ : _ ∧ _ ∧ _ ∧ _ ∧ _ ∧ _ ∧ _); have HB1 := hide (HZB.out.drew.trans (hb1.mono HZB.out.drew.size)); clear hb1 hz1))
 all_goals
  go_wp2
  have hBf := xgc HB1.out (Nat.le_refl w.heap.size) (.int .u64 (wd (ofP (s.extract i (i + 1))) 0)) (.int .u64 (wd (ofP (s.extract i (i + 1))) 1)) (.int .u64 (wd (ofP (s.extract i (i + 1))) 2)) (.int .u64 (wd (ofP (s.extract i (i + 1))) 3)) (.int .u8 (s[i].toNat : Int)) (.bool true) (.int .i64 ((i : Int) + 1))
  refine bodyPost_ret (v := .tuple #[.agg #[.int .u64 (wd (ofP (s.extract i (i + 1))) 0), .int .u64 (wd (ofP (s.extract i (i + 1))) 1), .int .u64 (wd (ofP (s.extract i (i + 1))) 2), .int .u64 (wd (ofP (s.extract i (i + 1))) 3), .int .u8 (s[i].toNat : Int), .bool true, .int .i64 ((i : Int) + 1)], .int .i64 0]) ?_ rfl ⟨?_, hBf⟩
  ·clear hBf
   simp [results, Try.results92, go_sem, *]
  ·rfl
end Go.Proofs.Ytolpakpdkheanaa.br
