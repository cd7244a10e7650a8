/- bre: readBracket. -/
import Derived.Test.YtolpakpdkheanaaKTk
import Derived.Test.YtolpakpdkheanaaKTkd
import Derived.Test.YtolpakpdkheanaaKParseP
import Derived.Test.YtolpakpdkheanaaKToka
set_option maxRecDepth 100000
set_option maxHeartbeats 1000000
namespace Go.Proofs.Ytolpakpdkheanaa.br
open Go.RowKit
noncomputable def xcp (s : ByteArray) (i : Nat) : Tk := if (xay s i).e ≠ 0 then xar (xay s i).e i else ⟨1, i, (xay s i).next, 0, (xay s i).q, 0, 0, 0⟩
theorem xgg (s : ByteArray) (hs : s.size ≤ 1073741824) (i : Nat) (w : World) (hg : Glob w) :
  Calls Try.prog 58 #[.string s, .int .i64 (i : Int)] w fun e w' => e = .returned (xcp s i).v ∧ Below w.heap.size w w' := by
 have hp := fun w hg => parse_any s hs (i : Int) w hg
 have hv : xcp s i = if (xay s i).e ≠ 0 then xar (xay s i).e i else ⟨1, i, (xay s i).next, 0, (xay s i).q, 0, 0, 0⟩ := rfl
 generalize xcp s i = t at *
 generalize xay s i = it at *
 obtain ⟨ec, q, bi, eni, nx⟩ := it
 simp only [] at hp hv
 have HP := hideT hp
 have HV := hideT hv
 clear hp hv
 have hz0 := Blk11.new w
 have hB0 : Below w.heap.size w (w.alloc (.cells #[.int .i64 0, .int .i64 0, .int .i64 0, .int .i64 0, .int .u64 0, .int .u64 0, .int .u64 0, .int .u64 0, .int .i64 0, .int .i64 0, .int .i64 0] 73)) := (Below.refl _ _).alloc (Nat.le_refl _) _
 go_enter Try.func58, Try.ntmps58
 go_wp2_with fail
 generalize w.alloc (.cells #[.int .i64 0, .int .i64 0, .int .i64 0, .int .i64 0, .int .u64 0, .int .u64 0, .int .u64 0, .int .u64 0, .int .i64 0, .int .i64 0, .int .i64 0] 73) = W0 at *
 refine (HP.out _ (hg.below hB0 (Nat.le_refl _))).mono ?_
 rintro e' w1 ⟨rfl, hb1⟩
 have hC : Below w1.heap.size w1 (w1.alloc (.cells #[.int .u64 (wd q 0), .int .u64 (wd q 1), .int .u64 (wd q 2), .int .u64 (wd q 3)] 38)) := (Below.refl _ _).alloc (Nat.le_refl _) _
 have hz2 := (hz0.below hb1 (Nat.le_refl _)).below hC (Nat.le_refl _)
 have hB1 := hB0.trans (hb1.mono hB0.size)
 have hB2 := hB1.trans (hC.mono hB1.size)
 have hq := xac w1 q 38
 by_cases he : ec = 0
 ·subst he
  have HT := hideT (show t = ⟨1, i, nx, 0, q, 0, 0, 0⟩ by rw [HV.out]; simp)
  obtain ⟨c0, f0⟩ := hz2.cell 0 _ rfl
  obtain ⟨c1, f1⟩ := hz2.cell 1 _ rfl
  obtain ⟨c2, f2⟩ := hz2.cell 2 _ rfl
  obtain ⟨c3, f3⟩ := hz2.cell 3 _ rfl
  obtain ⟨c4, f4⟩ := hz2.cell 4 _ rfl
  obtain ⟨c5, f5⟩ := hz2.cell 5 _ rfl
  obtain ⟨c6, f6⟩ := hz2.cell 6 _ rfl
  obtain ⟨c7, f7⟩ := hz2.cell 7 _ rfl
  obtain ⟨c8, f8⟩ := hz2.cell 8 _ rfl
  obtain ⟨c9, f9⟩ := hz2.cell 9 _ rfl
  obtain ⟨c10, f10⟩ := hz2.cell 10 _ rfl
  obtain ⟨⟨d0, d1, d2, d3⟩, -⟩ := id hq
  go_wp2
  exact bodyPost_ret (v := (Tk.mk 1 i nx 0 q 0 0 0).v) (by simp [results, Try.results58, go_sem, c0, c1, c2, c3, c4, c5, c6, c7, c8, c9, c10]) rfl ⟨by rw [HT.out], xaq hB2 (Nat.le_refl _) _ _ _ _ _ _ _ _ _ _ _⟩
 ·have he' : (ec == 0) = false := by rw [beq_eq_false_iff_ne]; exact he
  have HT := hideT (show t = xar ec i by rw [HV.out]; simp [he])
  go_wp2_with fail
  refine (xas ec i _).mono ?_
  rintro e' w4 ⟨rfl, hb4⟩
  have hz4 := hz2.below hb4 (Nat.le_refl _)
  obtain ⟨c0, f0⟩ := hz4.cell 0 _ rfl
  obtain ⟨c1, f1⟩ := hz4.cell 1 _ rfl
  obtain ⟨c2, f2⟩ := hz4.cell 2 _ rfl
  obtain ⟨c3, f3⟩ := hz4.cell 3 _ rfl
  obtain ⟨c4, f4⟩ := hz4.cell 4 _ rfl
  obtain ⟨c5, f5⟩ := hz4.cell 5 _ rfl
  obtain ⟨c6, f6⟩ := hz4.cell 6 _ rfl
  obtain ⟨c7, f7⟩ := hz4.cell 7 _ rfl
  obtain ⟨c8, f8⟩ := hz4.cell 8 _ rfl
  obtain ⟨c9, f9⟩ := hz4.cell 9 _ rfl
  obtain ⟨c10, f10⟩ := hz4.cell 10 _ rfl
  go_wp2
  exact bodyPost_ret (v := (xar ec i).v) (by simp [results, Try.results58, go_sem, c0, c1, c2, c3, c4, c5, c6, c7, c8, c9, c10]) rfl ⟨by rw [HT.out], xaq (hB2.trans (hb4.mono hB2.size)) (Nat.le_refl _) _ _ _ _ _ _ _ _ _ _ _⟩
def escB (i k b : Nat) (iv : Tk) : Tk :=
 if b = 40 then ⟨4, i, i + 2, 0, xad, 0, 0, 0⟩ else if b = 41 then ⟨5, i, i + 2, 0, xad, 0, 0, 0⟩ else if b = 123 ∧ repB k = true then iv else if b = 123 ∨ b = 125 then xar 9 i else if b = 110 then selfT 10 i (i + 2)
 else if b ≠ 48 ∧ digB b = true then ⟨6, i, i + 2, 0, xad, b - 48, 0, 0⟩ else if digB b = true ∨ letB b = true then xar 12 i else selfT b i (i + 2)
def xc6 (s : ByteArray) (i k : Nat) : Tk := if i + 1 = s.size then xar 6 i else escB i k (xag s (i + 1)).toNat (xbm s i)
theorem xnn (s : ByteArray) (hs : s.size ≤ 1073741824) (i k : Nat) (hi : i + 1 = s.size) (w : World) :
  Calls Try.prog 57 #[.string s, .int .i64 (i : Int), .int .i64 (k : Int)] w fun e w' => e = .returned (xar 6 i).v ∧ Below w.heap.size w w' := by
 have hz0 := Blk11.new w
 have hB0 : Below w.heap.size w (w.alloc (.cells #[.int .i64 0, .int .i64 0, .int .i64 0, .int .i64 0, .int .u64 0, .int .u64 0, .int .u64 0, .int .u64 0, .int .i64 0, .int .i64 0, .int .i64 0] 73)) := (Below.refl _ _).alloc (Nat.le_refl _) _
 have k1 : IntKind.i64.wrap ((i : Int) + 1) = (s.size : Int) := by rw [IntKind.wrap_i64]; omega
 have k2 : (i : Int) + 1 = (s.size : Int) := by omega
 have HI := hideT hi
 clear hi
 go_enter Try.func57, Try.ntmps57
 go_wp2_with fail
 refine (xas 6 i _).mono ?_
 rintro e' w4 ⟨rfl, hb4⟩
 have hz4 := hz0.below hb4 (Nat.le_refl _)
 obtain ⟨c0, f0⟩ := hz4.cell 0 _ rfl
 obtain ⟨c1, f1⟩ := hz4.cell 1 _ rfl
 obtain ⟨c2, f2⟩ := hz4.cell 2 _ rfl
 obtain ⟨c3, f3⟩ := hz4.cell 3 _ rfl
 obtain ⟨c4, f4⟩ := hz4.cell 4 _ rfl
 obtain ⟨c5, f5⟩ := hz4.cell 5 _ rfl
 obtain ⟨c6, f6⟩ := hz4.cell 6 _ rfl
 obtain ⟨c7, f7⟩ := hz4.cell 7 _ rfl
 obtain ⟨c8, f8⟩ := hz4.cell 8 _ rfl
 obtain ⟨c9, f9⟩ := hz4.cell 9 _ rfl
 obtain ⟨c10, f10⟩ := hz4.cell 10 _ rfl
 go_wp2
 exact bodyPost_ret (v := (xar 6 i).v) (by simp [results, Try.results57, go_sem, c0, c1, c2, c3, c4, c5, c6, c7, c8, c9, c10]) rfl ⟨rfl, xaq (hB0.trans (hb4.mono hB0.size)) (Nat.le_refl _) _ _ _ _ _ _ _ _ _ _ _⟩
theorem xgv (s : ByteArray) (hs : s.size ≤ 1073741824) (i k : Nat) (hi : i < s.size) (w : World) (hg : Glob w) :
  Calls Try.prog 57 #[.string s, .int .i64 (i : Int), .int .i64 (k : Int)] w fun e w' => e = .returned (xc6 s i k).v ∧ Below w.heap.size w w' := by
 unfold xc6
 by_cases h1 : i + 1 = s.size
 ·rw [if_pos h1]
  exact xnn s hs i k h1 w
 ·have hlt : i + 1 < s.size := by omega
  rw [if_neg h1, xan hlt, Int.toNat_natCast]
  unfold escB
  by_cases b40 : s[i + 1].toNat = 40
  ·rw [if_pos b40]; exact xkx s hs i k hlt b40 w
  rw [if_neg b40]
  by_cases b41 : s[i + 1].toNat = 41
  ·rw [if_pos b41]; exact xjd s hs i k hlt b41 w
  rw [if_neg b41]
  by_cases b123 : s[i + 1].toNat = 123
  ·cases hk : repB k
   ·rw [if_neg (by simp), if_pos (.inl b123)]
    exact xje s hs i k hlt b123 hk w
   ·rw [if_pos ⟨b123, rfl⟩]
    exact xnk s hs i k hlt b123 hk w _ (fun w' hb => xfi s hs i (by omega) w' (hg.below hb (Nat.le_refl _)))
  rw [if_neg (fun h => b123 h.1)]
  by_cases b125 : s[i + 1].toNat = 125
  ·rw [if_pos (.inr b125)]; exact xky s hs i k hlt b125 w
  rw [if_neg (by rintro (h | h); exact b123 h; exact b125 h)]
  by_cases b110 : s[i + 1].toNat = 110
  ·rw [if_pos b110]; exact escape_n s hs i k hlt b110 w
  rw [if_neg b110]
  by_cases b48 : s[i + 1].toNat = 48
  ·rw [if_neg (fun h => h.1 b48), if_pos (.inl (by rw [b48]; decide))]
   exact xkz s hs i k hlt b48 w
  cases hd : digB (s[i + 1].toNat : Int)
  ·rw [if_neg (fun h => by cases h.2)]
   cases hl : letB (s[i + 1].toNat : Int)
   ·rw [if_neg (by simp)]
    exact xjg s hs i k hlt ⟨b40, b41, b123, b125⟩ hd hl w
   ·rw [if_pos (.inr rfl)]
    exact xhw s hs i k hlt b110 hl w
  ·rw [if_pos ⟨b48, rfl⟩]
   exact xjf s hs i k hlt b48 hd w
def shuts (s : ByteArray) (j : Nat) : Bool := decide (j = s.size) || Lib.hasPrefix (s.extract j s.size).data.toList [92, 41]
noncomputable def tokenT (s : ByteArray) (i k : Nat) : Tk :=
 if xag s i = 92 then xc6 s i k else if xag s i = 91 then xcp s i else if xag s i = 46 then ⟨1, i, i + 1, 0, notP xad, 0, 0, 0⟩
 else if xag s i = 94 ∧ k = 4 then ⟨2, i, i + 1, 0, xad, 0, 0, 0⟩ else if xag s i = 36 ∧ shuts s (i + 1) = true then ⟨3, i, i + 1, 0, xad, 0, 0, 0⟩
 else if xag s i = 42 ∧ repB k = true then ⟨7, i, i + 1, 0, xad, 0, 0, -1⟩ else selfT (xag s i).toNat i (i + 1)
theorem xhz (s : ByteArray) (hs : s.size ≤ 1073741824) (i k : Nat) (hi : i < s.size) (w : World) (hg : Glob w) :
  Calls Try.prog 35 #[.string s, .int .i64 (i : Int), .int .i64 (k : Int)] w fun e w' => e = .returned (tokenT s i k).v ∧ Below w.heap.size w w' := by
 unfold tokenT
 rw [xan hi, Int.toNat_natCast]
 have hc : ∀ n : Nat, ((s[i].toNat : Int) = (n : Int)) = (s[i].toNat = n) := fun n => by apply propext; omega
 have e92 := hc 92
 have e91 := hc 91
 have e46 := hc 46
 have e94 := hc 94
 have e36 := hc 36
 have e42 := hc 42
 simp only [Int.cast_ofNat_Int] at e92 e91 e46 e94 e36 e42
 by_cases b92 : s[i].toNat = 92
 ·rw [if_pos (e92 ▸ b92)]
  exact xjh s hs i k hi b92 _ w (fun w' hb => xgv s hs i k hi w' (hg.below hb (Nat.le_refl _)))
 rw [if_neg (e92 ▸ b92)]
 by_cases b91 : s[i].toNat = 91
 ·rw [if_pos (e91 ▸ b91)]
  exact xhx s hs i k hi b91 _ w (fun w' hb => xgg s hs i w' (hg.below hb (Nat.le_refl _)))
 rw [if_neg (e91 ▸ b91)]
 by_cases b46 : s[i].toNat = 46
 ·rw [if_pos (e46 ▸ b46)]; exact xpp s hs i k hi b46 w
 rw [if_neg (e46 ▸ b46)]
 by_cases b94 : s[i].toNat = 94
 ·by_cases hk : k = 4
  ·rw [if_pos ⟨e94 ▸ b94, hk⟩]; exact xpq s hs i k hi b94 hk w
  ·rw [if_neg (fun h => hk h.2), if_neg (fun h => by have := h.1; omega), if_neg (fun h => by have := h.1; omega), b94]
   exact xk0 s hs i k hi b94 hk w
 rw [if_neg (fun h => b94 (by have := h.1; omega))]
 by_cases b36 : s[i].toNat = 36
 ·by_cases hn : i + 1 = s.size
  ·rw [if_pos ⟨e36 ▸ b36, by simp [shuts, hn]⟩]
   exact xhy s hs i k hi b36 hn w
  ·cases hp : Lib.hasPrefix (s.extract (i + 1) s.size).data.toList [92, 41]
   ·rw [if_neg (fun h => by have := h.2; unfold shuts at this; rw [hp, decide_eq_false hn] at this; cases this), if_neg (fun h => by have := h.1; omega), b36]
    exact xji s hs i k hi b36 (by omega) hp w
   ·rw [if_pos ⟨e36 ▸ b36, by unfold shuts; rw [hp, Bool.or_true]⟩]
    exact xgf s hs i k hi b36 (by omega) hp w
 rw [if_neg (fun h => b36 (by have := h.1; omega))]
 by_cases b42 : s[i].toNat = 42
 ·cases hk : repB k
  ·rw [if_neg (fun h => by cases h.2), b42]
   exact xge s hs i k hi b42 hk w
  ·rw [if_pos ⟨e42 ▸ b42, rfl⟩]
   exact xnl s hs i k hi b42 hk w
 rw [if_neg (fun h => b42 (by have := h.1; omega))]
 exact xnm s hs i k hi ⟨b92, b91, b46, b94, b36, b42⟩ w
end Go.Proofs.Ytolpakpdkheanaa.br
