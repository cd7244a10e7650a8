/- bre: a text in which each byte stands for itself, and its tree. -/
import Derived.Test.YtooanbbnjiogaaaKPt
namespace Go.Proofs.Ytooanbbnjiogaaa
open Go.RowKit

/-- Does a byte stand for itself without a backslash? -/
def plainB (b : Nat) : Bool := (decide (48 ≤ b) && decide (b ≤ 57)) || (decide (97 ≤ b) && decide (b ≤ 122)) || (decide (65 ≤ b) && decide (b ≤ 90)) || b == 40 || b == 41 || b == 123 || b == 125
def quoteB (b : Nat) : List Nat := if plainB b then [b] else [92, b]
def quoteL (l : List Nat) : List Nat := l.flatMap quoteB

theorem quoteB_len (b : Nat) : 1 ≤ (quoteB b).length ∧ (quoteB b).length ≤ 2 := by
  unfold quoteB
  split <;> simp
theorem quoteL_len : ∀ l : List Nat, (quoteL l).length ≤ 2 * l.length
  | [] => by simp [quoteL]
  | b :: l => by
    have := quoteL_len l
    have := (quoteB_len b).2
    simp only [quoteL, List.flatMap_cons, List.length_append, List.length_cons] at *
    omega

theorem bstr_size (l : List Nat) : (bstr l).size = l.length := by
  show (l.map fun n => UInt8.ofNat n).toArray.size = _
  simp

theorem byteAt_bstr (pre post : List Nat) (b : Nat) (hb : b < 256) : byteAt (bstr (pre ++ b :: post)) pre.length = (b : Int) := by
  have hlt : pre.length < (bstr (pre ++ b :: post)).size := by rw [bstr_size]; simp
  rw [byteAt_in hlt]
  have : (bstr (pre ++ b :: post))[pre.length] = UInt8.ofNat b := by
    show ((pre ++ b :: post).map fun n => UInt8.ofNat n).toArray[pre.length]'(by simp) = _
    simp
  rw [this]
  have : (UInt8.ofNat b).toNat = b := by simp; omega
  rw [this]

theorem token_quote (pre post : List Nat) (b k : Nat) (hb : b < 256) : tokenT (bstr (pre ++ quoteB b ++ post)) pre.length k = selfT b pre.length (pre.length + (quoteB b).length) := by
  unfold quoteB
  by_cases hp : plainB b = true
  · rw [if_pos hp]
    have h0 : byteAt (bstr (pre ++ [b] ++ post)) pre.length = (b : Int) := by
      rw [List.append_assoc]
      exact byteAt_bstr pre post b hb
    simp only [plainB, Bool.or_eq_true, Bool.and_eq_true, decide_eq_true_eq, beq_iff_eq] at hp
    unfold tokenT
    rw [h0, if_neg (by omega), if_neg (by omega), if_neg (by omega), if_neg (by omega), if_neg (by omega), if_neg (by omega)]
    simp
  · rw [if_neg hp]
    have h0 : byteAt (bstr (pre ++ [92, b] ++ post)) pre.length = ((92 : Nat) : Int) := by
      rw [List.append_assoc]
      exact byteAt_bstr pre (b :: post) 92 (by omega)
    have h1 : byteAt (bstr (pre ++ [92, b] ++ post)) (pre.length + 1) = (b : Int) := by
      have := byteAt_bstr (pre ++ [92]) post b hb
      simpa using this
    have hsz : (bstr (pre ++ [92, b] ++ post)).size = pre.length + 2 + post.length := by rw [bstr_size]; simp; omega
    simp only [plainB, Bool.or_eq_true, Bool.and_eq_true, decide_eq_true_eq, beq_iff_eq] at hp
    have hd : digB b = false := by simp [digB]; omega
    have hl : letB b = false := by simp [letB]; omega
    unfold tokenT
    rw [h0, if_pos (by omega)]
    unfold escapeT
    rw [if_neg (by omega), h1, Int.toNat_natCast]
    unfold escB
    rw [if_neg (by omega), if_neg (by omega), if_neg (by omega), if_neg (by omega), if_neg (by omega), if_neg (by simp [hd]), if_neg (by simp [hd, hl])]
    rfl

/-- Bytes added, one behind the other. -/
def Ps.adds (P : Ps) (l : List Nat) : Ps := l.foldl (fun P b => P.add (byteT (selfP b)) 1) P

theorem adds_top : ∀ (l : List Nat) (P : Ps), (P.adds l).outer = P.outer ∧ (P.adds l).top.parts = P.top.parts ++ l.map fun b => byteT (selfP b)
  | [], P => by simp [Ps.adds]
  | b :: l, P => by
    have h := adds_top l (P.add (byteT (selfP b)) 1)
    have e : P.adds (b :: l) = (P.add (byteT (selfP b)) 1).adds l := rfl
    rw [e, h.1, h.2]
    simp [Ps.add]

theorem run_quote : ∀ (rest pre : List Nat) (f k : Nat) (P : Ps), (∀ b ∈ rest, b < 256) → rest.length < f → P.size + rest.length ≤ 256 → runT (bstr (pre ++ quoteL rest)) f pre.length k P = .ok (P.adds rest)
  | [], pre, f, k, P, _, _, _ => by
    rw [runT_zero _ _ _ _ _ (by rw [bstr_size]; simp [quoteL])]
    rfl
  | b :: rest, pre, 0, k, P, _, hf, _ => by simp at hf
  | b :: rest, pre, f + 1, k, P, hb, hf, hP => by
    have hq : pre ++ quoteL (b :: rest) = pre ++ quoteB b ++ quoteL rest := by simp [quoteL]
    have ht := token_quote pre (quoteL rest) b k (hb b (by simp))
    have hl := (quoteB_len b).1
    simp only [List.length_cons] at hf hP
    rw [hq, runT, ht]
    have hlt : pre.length < (bstr (pre ++ quoteB b ++ quoteL rest)).size := by rw [bstr_size]; simp; omega
    rw [if_pos hlt]
    have htk : P.take (selfT b pre.length (pre.length + (quoteB b).length)) = (P.add (byteT (selfP b)) 1).grown := rfl
    have hbig : (P.add (byteT (selfP b)) 1).grown.1 = 0 := by
      show bigE (P.size + 1) = 0
      unfold bigE
      rw [if_neg (by omega)]
    rw [htk, if_pos hbig]
    have ih := run_quote rest (pre ++ quoteB b) f 1 (P.add (byteT (selfP b)) 1) (fun x hx => hb x (by simp [hx])) (by omega) (by show P.size + 1 + _ ≤ 256; omega)
    rw [List.length_append] at ih
    exact ih

theorem parse_quote (l : List Nat) (hl : ∀ b ∈ l, b < 256) (h256 : l.length ≤ 256) : parseT (bstr (quoteL l)) = .ok (l.map fun b => byteT (selfP b)) := by
  have hlen := quoteL_len l
  have hr := run_quote l [] ((bstr (quoteL l)).size + 1) 4 Ps.start hl (by
    rw [bstr_size]
    have : ∀ l : List Nat, l.length ≤ (quoteL l).length := by
      intro l
      induction l with
      | nil => simp
      | cons b l ih =>
        have := (quoteB_len b).1
        simp only [quoteL, List.flatMap_cons, List.length_append, List.length_cons] at *
        omega
    have := this l
    omega) (by show (0 : Int) + _ ≤ 256; omega)
  rw [List.nil_append, List.length_nil] at hr
  unfold parseT
  rw [if_neg (by rw [bstr_size]; omega), hr]
  have ht := adds_top l Ps.start
  show (if (Ps.start.adds l).outer.length = 0 then Except.ok (Ps.start.adds l).top.parts else _) = _
  rw [ht.1, ht.2]
  rfl
end Go.Proofs.Ytooanbbnjiogaaa
