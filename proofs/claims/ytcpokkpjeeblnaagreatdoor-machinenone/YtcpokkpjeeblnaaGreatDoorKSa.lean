/- scan, pure: what the document's functions of a script's text answer, over lists of bytes; no function of the program. -/
import Derived.Test.YtcpokkpjeeblnaaGreatDoorKBa
import Derived.Test.YtcpokkpjeeblnaaGreatDoorKUk
import Derived.Test.YtcpokkpjeeblnaaGreatDoorProg
namespace Go.Proofs.YtcpokkpjeeblnaaGreatDoor
namespace scanP
def insN (n : Nat) (i : Int) : Nat := min i.toNat n
def blkN : List UInt8 -> Nat
 | [] => 0
 | b :: r => if b = 32 \/ b = 9 then blkN r + 1 else 0
def xab (l : List UInt8) (k : Nat) : Nat := k + blkN (l.drop k)
def isDg (b : UInt8) : Bool := decide (48 <= b.toNat) && decide (b.toNat <= 57)
def dgN : List UInt8 -> Nat
 | [] => 0
 | b :: r => if isDg b then dgN r + 1 else 0
def dgV (l : List UInt8) : Nat := l.foldl (fun n b => 10 * n + (b.toNat - 48)) 0
def numR (l : List UInt8) (k : Nat) : Nat × Nat × Nat :=
 let d := dgN (l.drop k)
 if d = 0 then (0, 0, 5) else if 9 < d then (0, 0, 1) else (dgV ((l.drop k).take d), k + d, 0)
def xgp (d c : UInt8) : Bool := decide (c ≠ d) || decide (c = 46) || decide (c = 91) || decide (c = 42) || decide (c = 94) || decide (c = 36) || decide (c = 38)
def unR (d : UInt8) (ln : Bool) : List UInt8 -> Nat -> List UInt8 -> List UInt8 × Nat × Nat
 | [], _, _ => ([], 0, 6)
 | [b], p, t => if b = d then (t, p + 1, 0) else ([], 0, 6)
 | b :: c :: r, p, t =>
  if b = d then (t, p + 1, 0)
  else if b = 10 then ([], 0, 6)
  else if b ≠ 92 then unR d ln (c :: r) (p + 1) (t ++ [b])
  else if c = 10 /\ ln = false then ([], 0, 6)
  else unR d ln r (p + 2) (t ++ ((if xgp d c then [92] else []) ++ [c]))
def xau (l : List UInt8) (i : Int) (d : UInt8) (ln : Bool) : List UInt8 × Nat × Nat :=
 if i < 0 \/ (l.length : Int) < i \/ d = 10 \/ d = 92 then ([], 0, 1) else unR d ln (l.drop i.toNat) i.toNat []
def txR : List UInt8 -> Nat -> List UInt8 -> List UInt8 × Nat × Nat
 | [], p, t => (t ++ [10], p, 0)
 | [b], p, t => if b = 10 then (t ++ [10], p + 1, 0) else if b = 92 then ([], 0, 6) else (t ++ [b] ++ [10], p + 1, 0)
 | b :: c :: r, p, t =>
  if b = 10 then (t ++ [10], p + 1, 0)
  else if b = 92 then txR r (p + 2) (t ++ [c])
  else txR (c :: r) (p + 1) (t ++ [b])
def textR (l : List UInt8) (k : Nat) : List UInt8 × Nat × Nat :=
 let i := xab l k
 match l.drop i with
 | b :: c :: r => if b = 92 /\ c = 10 then (if r = [] then ([], 0, 6) else txR r (i + 2) []) else ([], 0, 19)
 | _ => ([], 0, 19)
def lnN : List UInt8 -> Nat
 | [] => 0
 | b :: r => if b = 10 then 0 else lnN r + 1
def wdN : List UInt8 -> Nat
 | [] => 0
 | b :: r => if b = 10 \/ b = 59 then 0 else wdN r + 1
def rtN : Nat -> List UInt8 -> Nat
 | 0, _ => 0
 | n + 1, l => if l[n]? = some 32 \/ l[n]? = some 9 then rtN n l else n + 1
def xbi (l : List UInt8) (k : Nat) : List UInt8 × Nat :=
 let i := xab l k
 ((l.drop i).take (lnN (l.drop i)), i + lnN (l.drop i))
def xcw (l : List UInt8) (k : Nat) : List UInt8 × Nat :=
 let i := xab l k
 let w := wdN (l.drop i)
 ((l.drop i).take (rtN w (l.drop i)), i + w)
def xfy (l : List UInt8) : Bool := decide (1 <= l.length) && decide (l.length <= 64) && l.all fun b => decide (b ≠ 10) && decide (b ≠ 0)
theorem xlo (n : Nat) (i : Int) : insN n i <= n := Nat.min_le_right _ _
theorem blk_le : ∀ l : List UInt8, blkN l <= l.length
 | [] => Nat.le_refl _
 | b :: r => by
  have h := blk_le r;unfold blkN;split
  ·rw [List.length_cons]; omega
  ·omega
theorem xao (l : List UInt8) (k : Nat) (h : k <= l.length) : xab l k <= l.length := by
 have h1 := blk_le (l.drop k);rw [List.length_drop] at h1;unfold xab;omega
theorem dg_le : ∀ l : List UInt8, dgN l <= l.length
 | [] => Nat.le_refl _
 | b :: r => by
  have h := dg_le r;unfold dgN;split
  ·rw [List.length_cons]; omega
  ·omega
theorem xhg : ∀ l : List UInt8, lnN l <= l.length
 | [] => Nat.le_refl _
 | b :: r => by
  have h := xhg r;unfold lnN;split
  ·omega
  ·rw [List.length_cons]; omega
theorem wd_le : ∀ l : List UInt8, wdN l <= lnN l
 | [] => Nat.le_refl _
 | b :: r => by
  have h := wd_le r;unfold wdN lnN;by_cases h1 : b = 10
  ·rw [if_pos (.inl h1), if_pos h1]; omega
  ·rw [if_neg h1];split <;> omega
theorem rt_le : ∀ (n : Nat) (l : List UInt8), rtN n l <= n
 | 0, _ => Nat.le_refl _
 | n + 1, l => by
  have h := rt_le n l;unfold rtN;split <;> omega
variable {l : List UInt8} {k : Nat} {ln : Bool}
theorem xhh (h : k < l.length) : blkN (l.drop k) = if l[k] = 32 \/ l[k] = 9 then blkN (l.drop (k + 1)) + 1 else 0 := by
 rw [List.drop_eq_getElem_cons h]; rfl
theorem xn6 (h : k < l.length) : lnN (l.drop k) = if l[k] = 10 then 0 else lnN (l.drop (k + 1)) + 1 := by
 rw [List.drop_eq_getElem_cons h]; rfl
theorem blk_end (h : l.length <= k) : blkN (l.drop k) = 0 := by rw [List.drop_of_length_le h]; rfl
theorem un_end {d : UInt8} (h : l.length <= k) (p : Nat) (t : List UInt8) : unR d ln (l.drop k) p t = ([], 0, 6) := by
 rw [List.drop_of_length_le h]; rfl
theorem un_hit {d : UInt8} (h : k < l.length) (hb : l[k] = d) (p : Nat) (t : List UInt8) : unR d ln (l.drop k) p t = (t, p + 1, 0) := by
 rw [List.drop_eq_getElem_cons h, hb];cases l.drop (k + 1) <;> simp [unR]
theorem un_line {d : UInt8} (h : k < l.length) (hb : l[k] ≠ d) (h2 : l[k] = 10) (p : Nat) (t : List UInt8) : unR d ln (l.drop k) p t = ([], 0, 6) := by
 rw [List.drop_eq_getElem_cons h];cases l.drop (k + 1) <;> simp [unR, hb] <;> simp [h2]
theorem un_step {d : UInt8} (h : k < l.length) (hb : l[k] ≠ d) (h2 : l[k] ≠ 10) (h3 : l[k] ≠ 92) (p : Nat) (t : List UInt8) : unR d ln (l.drop k) p t = unR d ln (l.drop (k + 1)) (p + 1) (t ++ [l[k]]) := by
 rw [List.drop_eq_getElem_cons h];cases l.drop (k + 1) with
 | nil => simp [unR, hb]
 | cons c r => simp [unR, hb, h2, h3]
theorem un_last {d : UInt8} (h : k + 1 = l.length) (hb : l[k] ≠ d) (p : Nat) (t : List UInt8) : unR d ln (l.drop k) p t = ([], 0, 6) := by
 rw [List.drop_eq_getElem_cons (by omega), List.drop_of_length_le (by omega)];simp [unR, hb]
theorem un_stop {d : UInt8} (h : k + 1 < l.length) (hb : l[k] ≠ d) (h3 : l[k] = 92) (h4 : l[k + 1] = 10) (p : Nat) (t : List UInt8) : unR d false (l.drop k) p t = ([], 0, 6) := by
 rw [List.drop_eq_getElem_cons (by omega), List.drop_eq_getElem_cons h, h4];have e : (92 : UInt8) ≠ 10 := by decide
 simp [unR, h3, e] <;> (intro hd; exact absurd (h3.trans hd) hb)
theorem un_pair {d : UInt8} (h : k + 1 < l.length) (hb : l[k] ≠ d) (h3 : l[k] = 92) (h4 : l[k + 1] ≠ 10 \/ ln = true) (p : Nat) (t : List UInt8) : unR d ln (l.drop k) p t = unR d ln (l.drop (k + 2)) (p + 2) (t ++ ((if xgp d l[k + 1] then [92] else []) ++ [l[k + 1]])) := by
 rw [List.drop_eq_getElem_cons (by omega : k < l.length), List.drop_eq_getElem_cons h];have e : (92 : UInt8) ≠ 10 := by decide
 have e2 : ¬ (l[k + 1] = 10 /\ ln = false) := by
  rintro ⟨a, b⟩;rcases h4 with h4 | h4
  ·exact h4 a
  ·rw [b] at h4; cases h4
 rw [h3] at hb;rw [unR, if_neg (by rw [h3]; exact hb), if_neg (by rw [h3]; exact e), if_neg (by rw [h3]; simp), if_neg e2]
end scanP
end Go.Proofs.YtcpokkpjeeblnaaGreatDoor
namespace Go.Proofs.YtcpokkpjeeblnaaGreatDoor
open Go.RowKit
open scanP
theorem xe6 (s : ByteArray) (k : Nat) (h : k < s.size) : s.data.toList[k]'h = s[k]'h := rfl
theorem ext_bst (s : ByteArray) (i n : Nat) : s.extract i (i + n) = bst ((s.data.toList.drop i).take n) := by
 apply ByteArray.ext;apply Array.ext';simp only [ByteArray.data_extract, bst, Array.toList_extract, List.extract_eq_take_drop];rw [Nat.add_sub_cancel_left]
variable {c : UInt8} {z : Int}
theorem xlp {d : UInt8} (hd : (d.toNat : Int) = z) (h : c ≠ d) : ((c.toNat : Int) != z) = true := by
 rw [bne_iff_ne];intro e;exact h (UInt8.toNat_inj.1 (by omega))
theorem xlq {d : UInt8} (hd : (d.toNat : Int) = z) (h : c = d) : ((c.toNat : Int) != z) = false := by
 rw [bne_eq_false_iff_eq, h];omega
theorem xc3 {d : UInt8} (hd : (d.toNat : Int) = z) (h : c = d) : ((c.toNat : Int) == z) = true := by
 rw [beq_iff_eq, h];omega
theorem xam {d : UInt8} (hd : (d.toNat : Int) = z) (h : c ≠ d) : ((c.toNat : Int) == z) = false := by
 rw [beq_eq_false_iff_ne];intro e;exact h (UInt8.toNat_inj.1 (by omega))
theorem dg_at : ∀ (l : List UInt8) (j : Nat), j < dgN l -> ∃ c, l[j]? = some c /\ isDg c = true
 | [], j, h => by simp [dgN] at h
 | b :: r, j, h => by
  unfold dgN at h;by_cases hb : isDg b = true
  ·rw [if_pos hb] at h;cases j with
   | zero => exact ⟨b, rfl, hb⟩
   | succ j => exact dg_at r j (by omega)
  ·rw [if_neg hb] at h;omega
theorem xlr (l : List UInt8) (c : UInt8) : dgV (l ++ [c]) = 10 * dgV l + (c.toNat - 48) := by simp [dgV]
theorem dgV_lt (l : List UInt8) (D : Nat) (hD : D <= dgN l) : ∀ j, j <= D -> dgV (l.take j) < 10 ^ j
 | 0, _ => by simp [dgV]
 | j + 1, h => by
  have ih := dgV_lt l D hD j (by omega);obtain ⟨c, h1, h2⟩ := dg_at l j (by omega);have hl : j < l.length := (List.getElem?_eq_some_iff.1 h1).1;have e : l[j] = c := (List.getElem?_eq_some_iff.1 h1).2;rw [List.take_succ_eq_append_getElem hl, xlr, e, Nat.pow_succ];have h3 : c.toNat <= 57 := by
   unfold isDg at h2;rw [Bool.and_eq_true, decide_eq_true_iff, decide_eq_true_iff] at h2;exact h2.2
  omega
theorem pow_nine (j : Nat) (h : j <= 9) : 10 ^ j <= 1000000000 := Nat.pow_le_pow_right (by omega) h
end Go.Proofs.YtcpokkpjeeblnaaGreatDoor
namespace Go.Proofs.YtcpokkpjeeblnaaGreatDoor
open scanP
variable {l : List UInt8} {k : Nat}
theorem tx_end (h : l.length <= k) (p : Nat) (t : List UInt8) : txR (l.drop k) p t = (t ++ [10], p, 0) := by
 rw [List.drop_of_length_le h]; rfl
theorem tx_line (h : k < l.length) (hb : l[k] = 10) (p : Nat) (t : List UInt8) : txR (l.drop k) p t = (t ++ [10], p + 1, 0) := by
 rw [List.drop_eq_getElem_cons h, hb];cases l.drop (k + 1) <;> simp [txR]
theorem tx_step (h : k < l.length) (hb : l[k] ≠ 10) (h2 : l[k] ≠ 92) (p : Nat) (t : List UInt8) : txR (l.drop k) p t = txR (l.drop (k + 1)) (p + 1) (t ++ [l[k]]) := by
 rw [List.drop_eq_getElem_cons h];cases l.drop (k + 1) with
 | nil => simp [txR, hb, h2]
 | cons c r => simp [txR, hb, h2]
theorem tx_last (h : k + 1 = l.length) (hb : l[k] = 92) (p : Nat) (t : List UInt8) : txR (l.drop k) p t = ([], 0, 6) := by
 rw [List.drop_eq_getElem_cons (by omega), List.drop_of_length_le (by omega), hb];simp [txR]
theorem tx_pair (h : k + 1 < l.length) (hb : l[k] = 92) (p : Nat) (t : List UInt8) : txR (l.drop k) p t = txR (l.drop (k + 2)) (p + 2) (t ++ [l[k + 1]]) := by
 rw [List.drop_eq_getElem_cons (by omega : k < l.length), List.drop_eq_getElem_cons h, hb];simp [txR]
end Go.Proofs.YtcpokkpjeeblnaaGreatDoor
