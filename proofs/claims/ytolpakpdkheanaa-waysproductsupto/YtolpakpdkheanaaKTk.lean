/- bre: tokens: digits, letters, what can be repeated, numbers. -/
import Derived.Test.YtolpakpdkheanaaKDet
import Derived.WalkKit
import Derived.WalkSpells
import Derived.WalkLawsBesides
import Derived.Laws.OwnMore
import Derived.Lib.QuietBelow
import Derived.BigQuiet
set_option maxRecDepth 100000
set_option maxHeartbeats 1000000
namespace Go.Proofs.Ytolpakpdkheanaa.br
open Go.RowKit
def digB (b : Int) : Bool := decide (48 ≤ b) && decide (b ≤ 57)
def letB (b : Int) : Bool := (decide (97 ≤ b) && decide (b ≤ 122)) || (decide (65 ≤ b) && decide (b ≤ 90))
theorem isDigit_any (b : Int) (w : World) : Calls Try.prog 75 #[.int .u8 b] w fun e w' => e = .returned (.bool (digB b)) ∧ w' = w := by
 unfold digB
 by_cases h1 : 48 ≤ b
 ·go_enter Try.func75, Try.ntmps75
  go_wp2
  go_ret
  exact ⟨by simp_all, rfl⟩
 ·have h1' : decide (48 ≤ b) = false := decide_eq_false h1
  go_enter Try.func75, Try.ntmps75
  go_wp2
  go_ret
  exact ⟨by simp_all, rfl⟩
theorem isLetter_any (b : Int) (w : World) : Calls Try.prog 76 #[.int .u8 b] w fun e w' => e = .returned (.bool (letB b)) ∧ w' = w := by
 unfold letB
 by_cases h1 : 97 ≤ b
 ·by_cases h2 : b ≤ 122
  ·go_enter Try.func76, Try.ntmps76
   go_wp2
   go_ret
   exact ⟨by simp_all, rfl⟩
  ·have h2' : decide (b ≤ 122) = false := decide_eq_false h2
   have h4 : decide (b ≤ 90) = false := decide_eq_false (by omega)
   have h3 : decide (65 ≤ b) = true := decide_eq_true (by omega)
   go_enter Try.func76, Try.ntmps76
   go_wp2
   go_ret
   exact ⟨by simp_all, rfl⟩
 ·have h1' : decide (97 ≤ b) = false := decide_eq_false h1
  by_cases h3 : 65 ≤ b
  ·go_enter Try.func76, Try.ntmps76
   go_wp2
   go_ret
   exact ⟨by simp_all, rfl⟩
  ·have h3' : decide (65 ≤ b) = false := decide_eq_false h3
   go_enter Try.func76, Try.ntmps76
   go_wp2
   go_ret
   exact ⟨by simp_all, rfl⟩
def repB (k : Nat) : Bool := !(k == 4) && !(k == 2)
theorem xbv (k : Nat) (w : World) : Calls Try.prog 60 #[.int .i64 (k : Int)] w fun e w' => e = .returned (.bool (repB k)) ∧ w' = w := by
 unfold repB
 by_cases h1 : k = 4
 ·subst h1
  go_enter Try.func60, Try.ntmps60
  go_wp2
  go_ret
  exact ⟨by simp_all, rfl⟩
 ·have h1' : ((k : Int) == 4) = false := by rw [beq_eq_false_iff_ne]; omega
  have e1 : (k == 4) = false := by rw [beq_eq_false_iff_ne]; exact h1
  by_cases h2 : k = 2
  ·subst h2
   go_enter Try.func60, Try.ntmps60
   go_wp2
   go_ret
   exact ⟨by simp_all, rfl⟩
  ·have h2' : ((k : Int) == 2) = false := by rw [beq_eq_false_iff_ne]; omega
   have e2 : (k == 2) = false := by rw [beq_eq_false_iff_ne]; exact h2
   have h2n : ((k : Int) != 2) = true := by rw [bne_iff_ne]; omega
   have h1n : ((k : Int) != 4) = true := by rw [bne_iff_ne]; omega
   go_enter Try.func60, Try.ntmps60
   go_wp2
   go_ret
   exact ⟨by rw [e1, e2]; rfl, rfl⟩
def numF (n : Nat) (b : UInt8) : Nat := min (n * 10 + (b.toNat - 48)) 256
def numN (l : List UInt8) : Nat := l.foldl numF 0
def digs (l : List UInt8) : Bool := l.all fun b => digB b.toNat
def numS (l : List UInt8) : Nat × Bool := if digs l then (numN l, !l.isEmpty && decide (numN l ≤ 255)) else (0, false)
theorem xo5 (l : List UInt8) (b : UInt8) : numN (l ++ [b]) = numF (numN l) b := by simp [numN]
theorem numN_le (l : List UInt8) : numN l ≤ 256 := by
 suffices h : ∀ (l : List UInt8) (n : Nat), n ≤ 256 → l.foldl numF n ≤ 256 from h l 0 (by omega)
 intro l
 induction l with
 | nil => intro n h; exact h
 | cons b l ih => intro n h; exact ih _ (Nat.min_le_right _ _)
theorem hideT {p : Prop} (h : p) : Hid p := h
theorem take_snocB (s : ByteArray) (k : Nat) (h : k < s.size) : s.data.toList.take (k + 1) = s.data.toList.take k ++ [s[k]] := by
 rw [List.take_succ_eq_append_getElem (by simpa using h)]; rfl
theorem xo6 (l : List UInt8) (b : UInt8) : digs (l ++ [b]) = (digs l && digB b.toNat) := by simp [digs]
theorem xo7 (l : List UInt8) (k : Nat) (h : digs (l.take k) = false) : digs l = false := by
 unfold digs at h ⊢
 rw [List.all_eq_false] at h ⊢
 obtain ⟨x, hx, h2⟩ := h
 exact ⟨x, List.mem_of_mem_take hx, h2⟩
theorem xdt (s : ByteArray) (hs : s.size ≤ 1073741824) (w : World) :
  Calls Try.prog 84 #[.string s] w fun e w' => e = .returned (.tuple #[.int .i64 ((numS s.data.toList).1 : Nat), .bool (numS s.data.toList).2]) ∧ w' = w := by
 go_enter Try.func84, Try.ntmps84
 go_wp2_with fail
 go_loop [4, 8] (fun n i => ∃ k : Nat, k ≤ s.size ∧ i = .int .i64 k ∧ n = .int .i64 (numN (s.data.toList.take k)) ∧ digs (s.data.toList.take k) = true) (fun _ i => s.size - (intOf i).toNat)
 case atStart => exact ⟨0, Nat.zero_le _, rfl, rfl, rfl⟩
 case round =>
  obtain ⟨k, hk, rfl, rfl, hd⟩ := hrel
  have hle := numN_le (s.data.toList.take k)
  by_cases hlt : k < s.size
  ·have hsn := take_snocB s k hlt
   have hdn : digs (s.data.toList.take (k + 1)) = digB (s[k].toNat : Int) := by rw [hsn, xo6, hd]; rfl
   have hnn : numN (s.data.toList.take (k + 1)) = numF (numN (s.data.toList.take k)) s[k] := by rw [hsn, xo5]
   have hb := s[k].toNat_lt
   have HN := hideT (And.intro hdn hnn)
   have HD := hideT hd
   clear hsn hdn hnn hd
   generalize hnk : numN (s.data.toList.take k) = n at *
   have HK := hideT hnk
   clear hnk
   have k1 : (0 : Int) ≤ (k : Int) := by omega
   have k2 : (k : Int) < (s.size : Int) := by omega
   have hdig := isDigit_any (s[k].toNat : Int)
   cases hdb : digB (s[k].toNat : Int)
   ·rw [hdb] at hdig
    go_wp2_with (go_at_call 75; refine (hdig _).mono ?_; rintro e w' ⟨rfl, rfl⟩)
    go_ret2
    refine ⟨?_, rfl⟩
    have : digs s.data.toList = false := xo7 _ (k + 1) (by rw [HN.out.1, hdb])
    simp [numS, this]
   ·rw [hdb] at hdig
    have hge : (48 : Int) ≤ (s[k].toNat : Int) := by simp [digB] at hdb; omega
    have m1 : IntKind.u8.wrap ((s[k].toNat : Int) - 48) = (s[k].toNat : Int) - 48 := by rw [IntKind.wrap_u8]; omega
    go_wp2_with (go_at_call 75; refine (hdig _).mono ?_; rintro e w' ⟨rfl, rfl⟩)
    go_round
    case rel => exact ⟨k + 1, by omega, by go_num, congrArg (Value.int .i64) (by rw [HN.out.2]; unfold numF; omega), by rw [HN.out.1, hdb]⟩
    case measure => simp [intOf]; omega
  ·obtain rfl : k = s.size := by omega
   have hall : s.data.toList.take s.size = s.data.toList := List.take_of_length_le (by simp)
   rw [hall] at hd hle
   have HD := hideT hd
   have HA := hideT hall
   clear hd hall
   have hem : s.toList.isEmpty = s.data.toList.isEmpty := by rw [ByteArray.toList_eq]
   generalize hnn : numN (s.data.toList.take s.size) = n at *
   have HNN := hideT hnn
   clear hnn
   cases he : s.data.toList.isEmpty
   ·rw [he] at hem
    go_wp2
    go_ret2
    refine ⟨?_, rfl⟩
    have e1 : numN s.data.toList = n := by rw [← HNN.out, HA.out]
    have e2 : numS s.data.toList = (n, decide (n ≤ 255)) := by simp only [numS, HD.out, he, e1, if_true]; rfl
    rw [e2]
    have e3 : decide ((n : Int) ≤ 255) = decide (n ≤ 255) := by rw [decide_eq_decide]; omega
    show Ending.returned (.tuple #[.int .i64 (n : Int), .bool (decide ((n : Int) ≤ 255))]) = _
    rw [e3]
   ·rw [he] at hem
    go_wp2
    go_ret2
    refine ⟨?_, rfl⟩
    have e1 : numN s.data.toList = n := by rw [← HNN.out, HA.out]
    have e2 : numS s.data.toList = (n, false) := by simp only [numS, HD.out, he, e1, if_true]; rfl
    rw [e2]
    rfl
structure Tk where
 kind : Nat
 fr : Nat
 to : Nat
 e : Int
 q : Nat → Bool
 grp : Nat
 lo : Int
 hi : Int
abbrev Tk.v (t : Tk) : Value := .agg #[.int .i64 t.kind, .int .i64 t.fr, .int .i64 t.to, .int .i64 t.e, .int .u64 (wd t.q 0), .int .u64 (wd t.q 1), .int .u64 (wd t.q 2), .int .u64 (wd t.q 3), .int .i64 t.grp, .int .i64 t.lo, .int .i64 t.hi]
def xar (e : Int) (i : Nat) : Tk := ⟨0, i, 0, e, xad, 0, 0, 0⟩
def selfP (b : Nat) : Nat → Bool := ofP ⟨#[UInt8.ofNat b]⟩
def selfT (b i j : Nat) : Tk := ⟨1, i, j, 0, selfP b, 0, 0, 0⟩
theorem xas (e : Int) (i : Nat) (w : World) : Calls Try.prog 73 #[.int .i64 e, .int .i64 (i : Int)] w fun r w' => r = .returned (xar e i).v ∧ Below w.heap.size w w' := by
 have z0 : wd xad 0 = 0 := xaa 0
 have z1 : wd xad 1 = 0 := xaa 1
 have z2 : wd xad 2 = 0 := xaa 2
 have z3 : wd xad 3 = 0 := xaa 3
 simp only [xar, Tk.v, z0, z1, z2, z3, Int.ofNat_zero]
 go_enter Try.func73, Try.ntmps73
 go_wp2
 exact bodyPost_ret (v := .agg #[.int .i64 0, .int .i64 (i : Int), .int .i64 0, .int .i64 e, .int .u64 0, .int .u64 0, .int .u64 0, .int .u64 0, .int .i64 0, .int .i64 0, .int .i64 0]) (by simp [results, Try.results73, go_sem]) rfl ⟨rfl, (Below.refl _ _).alloc (Nat.le_refl _) _⟩
def bstr (l : List Nat) : ByteArray := ⟨(l.map fun n => UInt8.ofNat n).toArray⟩
theorem xna {W : World} {base : Nat} {v : Value} {l : List Nat} (h : W.ownsRow base 5 1 v l.length (xmd l)) : (convert 157 9 v).run Try.prog W = .ok (.string (bstr l)) W := by
 rcases h.2 with ⟨rfl, h0⟩ | ⟨g, cap, cur, rfl, hg, hh, hrest⟩
 ·obtain rfl := List.eq_nil_of_length_eq_zero h0
  exact run_convert_bytes_nil W 157 5 Try.underlying157 Try.underlying5 0 0 9 Try.underlying9
 ·have hc : ∀ i, i < l.length → W.cell? ⟨g, 0 + i, none⟩ = some (.int .u8 ((l.map fun (n : Nat) => (n : Int)).getD i 0)) := by
   intro i hi
   have h2 := h.cells (g := g) rfl i (.int .u8 ((l.map fun (n : Nat) => (n : Int)).getD i 0)) (by simp [xmd, List.getElem?_eq_getElem hi])
   have hplain : (⟨g, 0, none⟩ : Addr).add i = ⟨g, 0 + i, none⟩ := by unfold Addr.add; split <;> simp_all
   rwa [hplain] at h2
  have h3 := run_convert_bytes_arg (P := Try.prog) W 157 5 Try.underlying157 Try.underlying5 g 0 l.length cap (l.map fun (n : Nat) => (n : Int)) (by simp) hc 9 Try.underlying9
  rw [h3]
  simp [strOfNums, bstr]
theorem conv_one (W : World) (b : Nat) : (convert 157 9 (.slice (some ⟨W.heap.size, 0, none⟩) 1 1)).run Try.prog (W.alloc (.cells #[.int .u8 (b : Int)] 5)) = .ok (.string ⟨#[UInt8.ofNat b]⟩) (W.alloc (.cells #[.int .u8 (b : Int)] 5)) :=
 xna (base := W.heap.size) (l := [b]) ⟨rfl, .inr ⟨W.heap.size, 1, #[.int .u8 (b : Int)], rfl, Nat.le_refl _, heap_alloc_new W _, Nat.le_refl _, by unfold maxLen; omega, rfl, rfl⟩⟩
def Blk11 (W : World) (b : Nat) (vs : List Value) : Prop := vs.length = 11 ∧ W.heap[b]? = some (.cells vs.toArray 73)
def xme : List Value := [.int .i64 0, .int .i64 0, .int .i64 0, .int .i64 0, .int .u64 0, .int .u64 0, .int .u64 0, .int .u64 0, .int .i64 0, .int .i64 0, .int .i64 0]
theorem Blk11.cell {W : World} {b : Nat} {vs : List Value} (h : Blk11 W b vs) (k : Nat) (v : Value) (hk : vs[k]? = some v) : W.cell? ⟨b, k, none⟩ = some v ∧ W.frozen? ⟨b, k, none⟩ = false := by
 have h2 := h.2
 exact ⟨by simp [World.cell?, h2, hk], by simp [World.frozen?, h2]⟩
theorem Blk11.new (w : World) : Blk11 (w.alloc (.cells #[.int .i64 0, .int .i64 0, .int .i64 0, .int .i64 0, .int .u64 0, .int .u64 0, .int .u64 0, .int .u64 0, .int .i64 0, .int .i64 0, .int .i64 0] 73)) w.heap.size xme := ⟨rfl, heap_alloc_new w _⟩
theorem Blk11.below {W W' : World} {b : Nat} {vs : List Value} (h : Blk11 W b vs) {B : Nat} (hb : Below B W W') (hB : W.heap.size ≤ B) : Blk11 W' b vs := ⟨h.1, (hb.block b (Nat.lt_of_lt_of_le (Array.getElem?_eq_some_iff.1 h.2).1 hB)).trans h.2⟩
theorem xaq {B : Nat} {a w : World} (h : Below B a w) {b : Nat} (hb : B ≤ b) (v0 v1 v2 v3 v4 v5 v6 v7 v8 v9 v10 : Value) : Below B a (((((((((((w.setCell ⟨b, 0, none⟩ v0).setCell ⟨b, 1, none⟩ v1).setCell ⟨b, 2, none⟩ v2).setCell ⟨b, 3, none⟩ v3).setCell ⟨b, 4, none⟩ v4).setCell ⟨b, 5, none⟩ v5).setCell ⟨b, 6, none⟩ v6).setCell ⟨b, 7, none⟩ v7).setCell ⟨b, 8, none⟩ v8).setCell ⟨b, 9, none⟩ v9).setCell ⟨b, 10, none⟩ v10) :=
 (((((((((((h.setCell (p := ⟨b, 0, none⟩) hb _).setCell (p := ⟨b, 1, none⟩) hb _).setCell (p := ⟨b, 2, none⟩) hb _).setCell (p := ⟨b, 3, none⟩) hb _).setCell (p := ⟨b, 4, none⟩) hb _).setCell (p := ⟨b, 5, none⟩) hb _).setCell (p := ⟨b, 6, none⟩) hb _).setCell (p := ⟨b, 7, none⟩) hb _).setCell (p := ⟨b, 8, none⟩) hb _).setCell (p := ⟨b, 9, none⟩) hb _).setCell (p := ⟨b, 10, none⟩) hb _)
theorem xcb (b i j : Nat) (w : World) : Calls Try.prog 61 #[.int .u8 (b : Int), .int .i64 (i : Int), .int .i64 (j : Int)] w fun r w' => r = .returned (selfT b i j).v ∧ Below w.heap.size w w' := by
 simp only [selfT, Tk.v]
 have hconv := conv_one (w.alloc (.cells #[.int .i64 0, .int .i64 0, .int .i64 0, .int .i64 0, .int .u64 0, .int .u64 0, .int .u64 0, .int .u64 0, .int .i64 0, .int .i64 0, .int .i64 0] 73)) b
 rw [World.size_alloc] at hconv
 go_enter Try.func61, Try.ntmps61
 go_wp2_with fail
 have hB0 : Below w.heap.size w ((w.alloc (.cells #[.int .i64 0, .int .i64 0, .int .i64 0, .int .i64 0, .int .u64 0, .int .u64 0, .int .u64 0, .int .u64 0, .int .i64 0, .int .i64 0, .int .i64 0] 73)).alloc (.cells #[.int .u8 (b : Int)] 5)) := ((Below.refl _ _).alloc (Nat.le_refl _) _).alloc (by simp) _
 have hz0 : Blk11 ((w.alloc (.cells #[.int .i64 0, .int .i64 0, .int .i64 0, .int .i64 0, .int .u64 0, .int .u64 0, .int .u64 0, .int .u64 0, .int .i64 0, .int .i64 0, .int .i64 0] 73)).alloc (.cells #[.int .u8 (b : Int)] 5)) w.heap.size xme := (Blk11.new w).below ((Below.refl _ _).alloc (Nat.le_refl _) _) (Nat.le_refl _)
 refine (ofD _ (by unfold maxLen; show 1 ≤ _; omega) _).mono ?_
 rintro e' w1 ⟨rfl, hb1⟩
 have hz := hz0.below hb1 (Nat.le_refl _)
 have hB1 := hB0.trans (hb1.mono hB0.size)
 obtain ⟨c0, f0⟩ := hz.cell 0 _ rfl
 obtain ⟨c1, f1⟩ := hz.cell 1 _ rfl
 obtain ⟨c2, f2⟩ := hz.cell 2 _ rfl
 obtain ⟨c3, f3⟩ := hz.cell 3 _ rfl
 obtain ⟨c4, f4⟩ := hz.cell 4 _ rfl
 obtain ⟨c5, f5⟩ := hz.cell 5 _ rfl
 obtain ⟨c6, f6⟩ := hz.cell 6 _ rfl
 obtain ⟨c7, f7⟩ := hz.cell 7 _ rfl
 obtain ⟨c8, f8⟩ := hz.cell 8 _ rfl
 obtain ⟨c9, f9⟩ := hz.cell 9 _ rfl
 obtain ⟨c10, f10⟩ := hz.cell 10 _ rfl
 clear hz hz0 hconv
 go_wp2
 exact bodyPost_ret (v := (selfT b i j).v) (by simp [results, Try.results61, go_sem, selfT, selfP, c0, c1, c2, c3, c4, c5, c6, c7, c8, c9, c10]) rfl ⟨rfl, xaq hB1 (Nat.le_refl _) _ _ _ _ _ _ _ _ _ _ _⟩
structure Rd where
 pos : Nat
 e : Int
 place : Nat
 groups : Nat
 shut : Nat → Bool
 size : Int
def Rd.cells (s : ByteArray) (r : Rd) : List Value :=
 [.string s, .int .i64 r.pos, .int .i64 r.e, .int .i64 r.place, .int .i64 r.groups, .bool (r.shut 0), .bool (r.shut 1), .bool (r.shut 2), .bool (r.shut 3), .bool (r.shut 4), .bool (r.shut 5), .bool (r.shut 6), .bool (r.shut 7), .bool (r.shut 8), .bool (r.shut 9), .int .i64 r.size]
end Go.Proofs.Ytolpakpdkheanaa.br
