/- bre: the parser: take, by the tokens' kinds. -/
import Derived.Test.YtolpakpdkheanaaKPk
set_option maxRecDepth 100000
set_option maxHeartbeats 1000000
namespace Go.Proofs.Ytolpakpdkheanaa.br
open Go.RowKit
theorem PsAt.stay {W W' : World} {B pb : Nat} {P : Ps} {o v : Value} {vs : List Value} {fz : Nat → Prop} (h : PsAt W B pb P o vs v fz) (hh : ∀ k, k < W.heap.size → W'.heap[k]? = W.heap[k]?) (hs : W.heap.size ≤ W'.heap.size) : PsAt W' B pb P o vs v fz := by
 have hl : ∀ g, g ∈ xbk (vs ++ [v]) → W'.heap[g]? = W.heap[g]? := fun g hg => hh g (h.liveAt hg).2.1
 have hf : ∀ g, fz g → W'.heap[g]? = W.heap[g]? := fun g hg => hh g (h.fzlt g hg).2.1
 refine ⟨h.base, (hh pb h.lt).trans h.blk, owns_keep h.own (fun g hg => hh g (owns_blk h.own hg).2.1), h.len, ?_, ?_, h.nodup, h.live, ?_⟩
 ·intro i l u hl' hu
  exact (h.rows i l u hl' hu).keep (fun g hg => hl g (xbh (List.mem_of_getElem? hu) hg)) hf (fun _ h => h)
 ·exact h.row.keep (fun g hg => hl g (xaj hg)) hf (fun _ h => h)
 ·intro g hg
  obtain ⟨f1, f2, cur, fr, f3⟩ := h.fzlt g hg
  exact ⟨f1, Nat.lt_of_lt_of_le f2 hs, cur, fr, (hf g hg).trans f3⟩
theorem IsPs.stay {W W' : World} {B pb : Nat} {P : Ps} (h : IsPs W B pb P) (hh : ∀ k, k < W.heap.size → W'.heap[k]? = W.heap[k]?) (hs : W.heap.size ≤ W'.heap.size) : IsPs W' B pb P := by
 obtain ⟨o, vs, v, fz, h⟩ := h
 exact ⟨o, vs, v, fz, h.stay hh hs⟩
theorem IsPs.alloc {W : World} {B pb : Nat} {P : Ps} (h : IsPs W B pb P) (ob : Obj) : IsPs (W.alloc ob) B pb P := h.stay (fun k hk => Below.heap_alloc W ob k hk) (by rw [World.size_alloc]; omega)
theorem IsPs.size {W : World} {B pb : Nat} {P : Ps} (h : IsPs W B pb P) : W.cell? ⟨pb, 12, none⟩ = some (.int .i64 P.size) := by
 obtain ⟨o, vs, v, fz, h⟩ := h
 exact (h.cell 12 _ rfl).1
def bigE (n : Int) : Int := if n > 256 then 13 else 0
theorem xng (pb : Nat) (fr to gp q0 q1 q2 q3 : Nat) (er lo hi : Int) (w : World) :
  Calls Try.prog 21 #[.pointer (some ⟨pb, 0, none⟩), .agg #[.int .i64 0, .int .i64 fr, .int .i64 to, .int .i64 er, .int .u64 q0, .int .u64 q1, .int .u64 q2, .int .u64 q3, .int .i64 gp, .int .i64 lo, .int .i64 hi]] w fun e w' => e = .returned (.int .i64 er) ∧ w' = w.alloc (.cells #[.int .i64 0, .int .i64 fr, .int .i64 to, .int .i64 er, .int .u64 q0, .int .u64 q1, .int .u64 q2, .int .u64 q3, .int .i64 gp, .int .i64 lo, .int .i64 hi] 73) := by
 go_enter Try.func21, Try.ntmps21
 go_wp2
 go_ret
 exact ⟨rfl, rfl⟩
theorem xpi (pb : Nat) (fr to gp q0 q1 q2 q3 : Nat) (er lo hi : Int) (w : World) (r : Int) (R : World → Prop)
  (hc : Calls Try.prog 36 #[.pointer (some ⟨pb, 0, none⟩), .int .i64 fr] (w.alloc (.cells #[.int .i64 4, .int .i64 fr, .int .i64 to, .int .i64 er, .int .u64 q0, .int .u64 q1, .int .u64 q2, .int .u64 q3, .int .i64 gp, .int .i64 lo, .int .i64 hi] 73)) fun e w' => e = .returned (.int .i64 r) ∧ R w') :
  Calls Try.prog 21 #[.pointer (some ⟨pb, 0, none⟩), .agg #[.int .i64 4, .int .i64 fr, .int .i64 to, .int .i64 er, .int .u64 q0, .int .u64 q1, .int .u64 q2, .int .u64 q3, .int .i64 gp, .int .i64 lo, .int .i64 hi]] w fun e w' => e = .returned (.int .i64 r) ∧ R w' := by
 have HC := hideT hc
 clear hc
 go_enter Try.func21, Try.ntmps21
 go_wp2_with fail
 refine HC.out.mono ?_
 rintro e w1 ⟨rfl, h⟩
 have HR := hideT h
 clear h HC
 go_wp2
 go_ret
 exact ⟨rfl, HR.out⟩
theorem xg1 (pb : Nat) (fr to gp q0 q1 q2 q3 : Nat) (er lo hi : Int) (w : World) (r : Int) (R : World → Prop)
  (hc : Calls Try.prog 37 #[.pointer (some ⟨pb, 0, none⟩)] (w.alloc (.cells #[.int .i64 5, .int .i64 fr, .int .i64 to, .int .i64 er, .int .u64 q0, .int .u64 q1, .int .u64 q2, .int .u64 q3, .int .i64 gp, .int .i64 lo, .int .i64 hi] 73)) fun e w' => e = .returned (.int .i64 r) ∧ R w') :
  Calls Try.prog 21 #[.pointer (some ⟨pb, 0, none⟩), .agg #[.int .i64 5, .int .i64 fr, .int .i64 to, .int .i64 er, .int .u64 q0, .int .u64 q1, .int .u64 q2, .int .u64 q3, .int .i64 gp, .int .i64 lo, .int .i64 hi]] w fun e w' => e = .returned (.int .i64 r) ∧ R w' := by
 have HC := hideT hc
 clear hc
 go_enter Try.func21, Try.ntmps21
 go_wp2_with fail
 refine HC.out.mono ?_
 rintro e w1 ⟨rfl, h⟩
 have HR := hideT h
 clear h HC
 go_wp2
 go_ret
 exact ⟨rfl, HR.out⟩
theorem xpj (pb : Nat) (fr to gp q0 q1 q2 q3 : Nat) (er lo hi : Int) (w : World) (s : Int) (R : World → Prop)
  (hc : Calls Try.prog 38 #[.pointer (some ⟨pb, 0, none⟩), .agg #[.int .i64 1, .int .u64 q0, .int .u64 q1, .int .u64 q2, .int .u64 q3, .int .i64 0, .int .i64 0, .int .i64 0, .slice none 0 0], .int .i64 1] (w.alloc (.cells #[.int .i64 1, .int .i64 fr, .int .i64 to, .int .i64 er, .int .u64 q0, .int .u64 q1, .int .u64 q2, .int .u64 q3, .int .i64 gp, .int .i64 lo, .int .i64 hi] 73)) fun e w' => (∃ x, e = .returned x) ∧ R w' ∧ w'.cell? ⟨pb, 12, none⟩ = some (.int .i64 s)) :
  Calls Try.prog 21 #[.pointer (some ⟨pb, 0, none⟩), .agg #[.int .i64 1, .int .i64 fr, .int .i64 to, .int .i64 er, .int .u64 q0, .int .u64 q1, .int .u64 q2, .int .u64 q3, .int .i64 gp, .int .i64 lo, .int .i64 hi]] w fun e w' => e = .returned (.int .i64 (bigE s)) ∧ R w' := by
 have HC := hideT hc
 clear hc
 go_enter Try.func21, Try.ntmps21
 go_wp2_with fail
 refine HC.out.mono ?_
 rintro e w1 ⟨⟨x, rfl⟩, h, c12⟩
 have HR := hideT h
 clear h HC
 by_cases hs : s > 256
 ·have h2 : (256 : Int) < s := hs
  have HB := hideT (show bigE s = 13 from if_pos hs)
  go_wp2
  go_ret
  exact ⟨by rw [HB.out]; rfl, HR.out⟩
 ·have h2 : (256 < s) = False := eq_false hs
  have HB := hideT (show bigE s = 0 from if_neg hs)
  go_wp2
  go_ret
  exact ⟨by rw [HB.out]; rfl, HR.out⟩
theorem take_bol (pb : Nat) (fr to gp q0 q1 q2 q3 : Nat) (er lo hi : Int) (w : World) (s : Int) (R : World → Prop)
  (hc : Calls Try.prog 38 #[.pointer (some ⟨pb, 0, none⟩), .agg #[.int .i64 2, .int .u64 0, .int .u64 0, .int .u64 0, .int .u64 0, .int .i64 0, .int .i64 0, .int .i64 0, .slice none 0 0], .int .i64 0] (w.alloc (.cells #[.int .i64 2, .int .i64 fr, .int .i64 to, .int .i64 er, .int .u64 q0, .int .u64 q1, .int .u64 q2, .int .u64 q3, .int .i64 gp, .int .i64 lo, .int .i64 hi] 73)) fun e w' => (∃ x, e = .returned x) ∧ R w' ∧ w'.cell? ⟨pb, 12, none⟩ = some (.int .i64 s)) :
  Calls Try.prog 21 #[.pointer (some ⟨pb, 0, none⟩), .agg #[.int .i64 2, .int .i64 fr, .int .i64 to, .int .i64 er, .int .u64 q0, .int .u64 q1, .int .u64 q2, .int .u64 q3, .int .i64 gp, .int .i64 lo, .int .i64 hi]] w fun e w' => e = .returned (.int .i64 (bigE s)) ∧ R w' := by
 have HC := hideT hc
 clear hc
 go_enter Try.func21, Try.ntmps21
 go_wp2_with fail
 refine HC.out.mono ?_
 rintro e w1 ⟨⟨x, rfl⟩, h, c12⟩
 have HR := hideT h
 clear h HC
 by_cases hs : s > 256
 ·have h2 : (256 : Int) < s := hs
  have HB := hideT (show bigE s = 13 from if_pos hs)
  go_wp2
  go_ret
  exact ⟨by rw [HB.out]; rfl, HR.out⟩
 ·have h2 : (256 < s) = False := eq_false hs
  have HB := hideT (show bigE s = 0 from if_neg hs)
  go_wp2
  go_ret
  exact ⟨by rw [HB.out]; rfl, HR.out⟩
theorem take_eol (pb : Nat) (fr to gp q0 q1 q2 q3 : Nat) (er lo hi : Int) (w : World) (s : Int) (R : World → Prop)
  (hc : Calls Try.prog 38 #[.pointer (some ⟨pb, 0, none⟩), .agg #[.int .i64 3, .int .u64 0, .int .u64 0, .int .u64 0, .int .u64 0, .int .i64 0, .int .i64 0, .int .i64 0, .slice none 0 0], .int .i64 0] (w.alloc (.cells #[.int .i64 3, .int .i64 fr, .int .i64 to, .int .i64 er, .int .u64 q0, .int .u64 q1, .int .u64 q2, .int .u64 q3, .int .i64 gp, .int .i64 lo, .int .i64 hi] 73)) fun e w' => (∃ x, e = .returned x) ∧ R w' ∧ w'.cell? ⟨pb, 12, none⟩ = some (.int .i64 s)) :
  Calls Try.prog 21 #[.pointer (some ⟨pb, 0, none⟩), .agg #[.int .i64 3, .int .i64 fr, .int .i64 to, .int .i64 er, .int .u64 q0, .int .u64 q1, .int .u64 q2, .int .u64 q3, .int .i64 gp, .int .i64 lo, .int .i64 hi]] w fun e w' => e = .returned (.int .i64 (bigE s)) ∧ R w' := by
 have HC := hideT hc
 clear hc
 go_enter Try.func21, Try.ntmps21
 go_wp2_with fail
 refine HC.out.mono ?_
 rintro e w1 ⟨⟨x, rfl⟩, h, c12⟩
 have HR := hideT h
 clear h HC
 by_cases hs : s > 256
 ·have h2 : (256 : Int) < s := hs
  have HB := hideT (show bigE s = 13 from if_pos hs)
  go_wp2
  go_ret
  exact ⟨by rw [HB.out]; rfl, HR.out⟩
 ·have h2 : (256 < s) = False := eq_false hs
  have HB := hideT (show bigE s = 0 from if_neg hs)
  go_wp2
  go_ret
  exact ⟨by rw [HB.out]; rfl, HR.out⟩
theorem xnh (pb : Nat) (fr to gp q0 q1 q2 q3 : Nat) (er lo hi : Int) (w : World) (hg : gp ≤ 9) (ck : (w.alloc (.cells #[.int .i64 6, .int .i64 fr, .int .i64 to, .int .i64 er, .int .u64 q0, .int .u64 q1, .int .u64 q2, .int .u64 q3, .int .i64 gp, .int .i64 lo, .int .i64 hi] 73)).cell? ⟨pb, 2 + gp, none⟩ = some (.bool false)) :
  Calls Try.prog 21 #[.pointer (some ⟨pb, 0, none⟩), .agg #[.int .i64 6, .int .i64 fr, .int .i64 to, .int .i64 er, .int .u64 q0, .int .u64 q1, .int .u64 q2, .int .u64 q3, .int .i64 gp, .int .i64 lo, .int .i64 hi]] w fun e w' => e = .returned (.int .i64 11) ∧ ∃ n, w' = (w.alloc (.cells #[.int .i64 6, .int .i64 fr, .int .i64 to, .int .i64 er, .int .u64 q0, .int .u64 q1, .int .u64 q2, .int .u64 q3, .int .i64 gp, .int .i64 lo, .int .i64 hi] 73)).drewN n := by
 have k1 : (0 : Int) ≤ (gp : Int) := by omega
 have k2 : (gp : Int) < 10 := by omega
 go_enter Try.func21, Try.ntmps21
 go_wp2_with fail
 go_quiet (fail)
 go_wp2
 go_ret
 exact ⟨rfl, _, rfl⟩
theorem xni (pb : Nat) (fr to gp q0 q1 q2 q3 : Nat) (er lo hi : Int) (w : World) (hg : gp ≤ 9) (ck : (w.alloc (.cells #[.int .i64 6, .int .i64 fr, .int .i64 to, .int .i64 er, .int .u64 q0, .int .u64 q1, .int .u64 q2, .int .u64 q3, .int .i64 gp, .int .i64 lo, .int .i64 hi] 73)).cell? ⟨pb, 2 + gp, none⟩ = some (.bool true)) (s : Int) (R : World → Prop)
  (hc : ∀ n, Calls Try.prog 38 #[.pointer (some ⟨pb, 0, none⟩), .agg #[.int .i64 6, .int .u64 0, .int .u64 0, .int .u64 0, .int .u64 0, .int .i64 0, .int .i64 0, .int .i64 gp, .slice none 0 0], .int .i64 1] ((w.alloc (.cells #[.int .i64 6, .int .i64 fr, .int .i64 to, .int .i64 er, .int .u64 q0, .int .u64 q1, .int .u64 q2, .int .u64 q3, .int .i64 gp, .int .i64 lo, .int .i64 hi] 73)).drewN n) fun e w' => (∃ x, e = .returned x) ∧ R w' ∧ w'.cell? ⟨pb, 12, none⟩ = some (.int .i64 s)) :
  Calls Try.prog 21 #[.pointer (some ⟨pb, 0, none⟩), .agg #[.int .i64 6, .int .i64 fr, .int .i64 to, .int .i64 er, .int .u64 q0, .int .u64 q1, .int .u64 q2, .int .u64 q3, .int .i64 gp, .int .i64 lo, .int .i64 hi]] w fun e w' => e = .returned (.int .i64 (bigE s)) ∧ R w' := by
 have k1 : (0 : Int) ≤ (gp : Int) := by omega
 have k2 : (gp : Int) < 10 := by omega
 have HC := hideT hc
 clear hc
 go_enter Try.func21, Try.ntmps21
 go_wp2_with fail
 go_quiet (fail)
 go_wp2_with fail
 refine (HC.out _).mono ?_
 rintro e w1 ⟨⟨x, rfl⟩, h, c12⟩
 have HR := hideT h
 clear h HC
 by_cases hs : s > 256
 ·have h2 : (256 : Int) < s := hs
  have HB := hideT (show bigE s = 13 from if_pos hs)
  go_wp2
  go_ret
  exact ⟨by rw [HB.out]; rfl, HR.out⟩
 ·have h2 : (256 < s) = False := eq_false hs
  have HB := hideT (show bigE s = 0 from if_neg hs)
  go_wp2
  go_ret
  exact ⟨by rw [HB.out]; rfl, HR.out⟩
theorem take_rep (pb : Nat) (fr to gp q0 q1 q2 q3 : Nat) (er lo hi : Int) (w : World) (s : Int) (R : World → Prop)
  (hc : Calls Try.prog 39 #[.pointer (some ⟨pb, 0, none⟩), .int .i64 lo, .int .i64 hi] (w.alloc (.cells #[.int .i64 7, .int .i64 fr, .int .i64 to, .int .i64 er, .int .u64 q0, .int .u64 q1, .int .u64 q2, .int .u64 q3, .int .i64 gp, .int .i64 lo, .int .i64 hi] 73)) fun e w' => (∃ x, e = .returned x) ∧ R w' ∧ w'.cell? ⟨pb, 12, none⟩ = some (.int .i64 s)) :
  Calls Try.prog 21 #[.pointer (some ⟨pb, 0, none⟩), .agg #[.int .i64 7, .int .i64 fr, .int .i64 to, .int .i64 er, .int .u64 q0, .int .u64 q1, .int .u64 q2, .int .u64 q3, .int .i64 gp, .int .i64 lo, .int .i64 hi]] w fun e w' => e = .returned (.int .i64 (bigE s)) ∧ R w' := by
 have HC := hideT hc
 clear hc
 go_enter Try.func21, Try.ntmps21
 go_wp2_with fail
 refine HC.out.mono ?_
 rintro e w1 ⟨⟨x, rfl⟩, h, c12⟩
 have HR := hideT h
 clear h HC
 by_cases hs : s > 256
 ·have h2 : (256 : Int) < s := hs
  have HB := hideT (show bigE s = 13 from if_pos hs)
  go_wp2
  go_ret
  exact ⟨by rw [HB.out]; rfl, HR.out⟩
 ·have h2 : (256 < s) = False := eq_false hs
  have HB := hideT (show bigE s = 0 from if_neg hs)
  go_wp2
  go_ret
  exact ⟨by rw [HB.out]; rfl, HR.out⟩
def byteT (q : Nat → Bool) : Tr := .mk 1 q 0 0 0 []
def bolT : Tr := .mk 2 xad 0 0 0 []
def eolT : Tr := .mk 3 xad 0 0 0 []
def xi6 (g : Nat) : Tr := .mk 6 xad 0 0 g []
def Ps.grown (P : Ps) : Int × Ps := (bigE P.size, P)
def Ps.take (P : Ps) (t : Tk) : Int × Ps :=
 match t.kind with
 | 0 => (t.e, P)
 | 1 => (P.add (byteT t.q) 1).grown
 | 2 => (P.add bolT 0).grown
 | 3 => (P.add eolT 0).grown
 | 4 => if P.groups = 9 then (4, P) else (0, P.opened t.fr)
 | 5 => match P.outer.getLast? with
  | none => (10, P)
  | some l => (0, P.close P.outer.dropLast l)
 | 6 => if P.shut t.grp then (P.add (xi6 t.grp) 1).grown else (11, P)
 | _ => match P.top.parts.getLast? with
  | none => (0, P)
  | some x => (P.rep P.top.parts.dropLast x t.lo t.hi).grown
structure Good (P : Ps) (n : Nat) : Prop where
 g9 : P.groups ≤ 9
 len : P.outer.length ≤ P.groups
 grp : ∀ l, l ∈ P.outer ++ [P.top] → l.grp ≤ P.groups ∧ l.parts.length ≤ n
 ord : ((P.outer ++ [P.top]).map Lv.before ++ [P.size]).Pairwise (· ≤ ·)
 low : ∀ l, l ∈ P.outer ++ [P.top] → 0 ≤ l.before
 big : P.size ≤ 256
 last : P.top.parts ≠ [] → 0 ≤ P.last ∧ P.last ≤ P.size - P.top.before
theorem Good.top {P : Ps} {n : Nat} (h : Good P n) : P.top.grp ≤ P.groups ∧ P.top.parts.length ≤ n := h.grp P.top (by simp)
theorem Good.bounds {P : Ps} {n : Nat} (h : Good P n) : 0 ≤ P.top.before ∧ P.top.before ≤ P.size := by
 refine ⟨h.low P.top (by simp), ?_⟩
 have h1 := h.ord
 rw [List.map_append] at h1
 exact (List.pairwise_append.1 h1).2.2 P.top.before (by simp) P.size (by simp)
structure TkOk (t : Tk) : Prop where
 kind : t.kind ≤ 7
 grp : t.kind = 6 → t.grp ≤ 9
 rep : t.kind = 7 → (0 ≤ t.lo ∧ t.lo ≤ 255) ∧ (-1 ≤ t.hi ∧ t.hi ≤ 255)
theorem xcu {α : Type} {xs : List α} {x : α} (h : xs.getLast? = some x) : xs = xs.dropLast ++ [x] := by
 have h1 := List.dropLast_concat_getLast (l := xs) (by intro e; rw [e] at h; cases h)
 rw [List.getLast?_eq_some_getLast (by intro e; rw [e] at h; cases h)] at h
 injection h with h
 rw [h] at h1
 exact h1.symm
section
variable {B pb : Nat} {P : Ps} {n : Nat}
theorem xfq (w : World) (h : IsPs w B pb P) (hB : B ≤ w.heap.size) (hG : Good P n) (hn : n ≤ 600) (t : Tr) (hk : t.kids = []) (p : Int) (hp : 0 ≤ p ∧ p ≤ 1) :
  Calls Try.prog 38 #[.pointer (some ⟨pb, 0, none⟩), .agg #[.int .i64 t.kind, .int .u64 (wd t.q 0), .int .u64 (wd t.q 1), .int .u64 (wd t.q 2), .int .u64 (wd t.q 3), .int .i64 t.lo, .int .i64 t.hi, .int .i64 t.grp, .slice none 0 0], .int .i64 p] w
   fun e w' => (∃ x, e = .returned x) ∧ (IsPs w' B pb (P.add t p) ∧ Fr B w w') ∧ w'.cell? ⟨pb, 12, none⟩ = some (.int .i64 (P.add t p).size) := by
 obtain ⟨o, vs, v, fz, h⟩ := h
 have hb := hG.bounds
 have hbig := hG.big
 refine (xpa w h hB (by have := hG.len; have := hG.g9; omega) (by have := hG.top.2; omega) (by omega) t none 0 0 (by rw [hk]; exact Kids.none _ _) p (by omega)).mono ?_
 rintro e w' ⟨hx, ⟨v', h', hf⟩, _⟩
 exact ⟨hx, ⟨⟨o, vs, v', fz, h'⟩, hf⟩, (h'.cell 12 _ rfl).1⟩
theorem xdu (w : World) (hB : B ≤ w.heap.size) (ob : Obj) : Fr B w (w.alloc ob) := (Fr.refl B w).alloc hB ob
theorem xgb {w : World} (hB : B ≤ w.heap.size) (ob : Obj) : B ≤ (w.alloc ob).heap.size := by rw [World.size_alloc]; omega
theorem take_any (t : Tk) (w : World) (h : IsPs w B pb P) (hB : B ≤ w.heap.size) (hG : Good P n) (hn : n ≤ 600) (ht : TkOk t) (h7 : t.kind = 7 → P.top.parts ≠ []) :
  Calls Try.prog 21 #[.pointer (some ⟨pb, 0, none⟩), t.v] w fun e w' => e = .returned (.int .i64 (P.take t).1) ∧ IsPs w' B pb (P.take t).2 ∧ Fr B w w' := by
 obtain ⟨kd, fr, to, er, q, gp, lo, hi⟩ := t
 have hkd : kd ≤ 7 := ht.kind
 have hb := hG.bounds
 have hbig := hG.big
 rcases (show kd = 0 ∨ kd = 1 ∨ kd = 2 ∨ kd = 3 ∨ kd = 4 ∨ kd = 5 ∨ kd = 6 ∨ kd = 7 by omega) with rfl | rfl | rfl | rfl | rfl | rfl | rfl | rfl
 ·refine (xng pb fr to gp (wd q 0) (wd q 1) (wd q 2) (wd q 3) er lo hi w).mono ?_
  rintro e w' ⟨rfl, rfl⟩
  exact ⟨rfl, h.alloc _, xdu w hB _⟩
 ·refine xpj pb fr to gp (wd q 0) (wd q 1) (wd q 2) (wd q 3) er lo hi w _ (fun w' => IsPs w' B pb (P.add (byteT q) 1) ∧ Fr B w w') ?_
  refine (xfq _ (h.alloc _) (xgb hB _) hG hn (byteT q) rfl 1 (by omega)).mono ?_
  rintro e w' ⟨hx, ⟨h1, h2⟩, h3⟩
  exact ⟨hx, ⟨h1, (xdu w hB _).trans h2⟩, h3⟩
 ·refine take_bol pb fr to gp (wd q 0) (wd q 1) (wd q 2) (wd q 3) er lo hi w _ (fun w' => IsPs w' B pb (P.add bolT 0) ∧ Fr B w w') ?_
  refine (xfq _ (h.alloc _) (xgb hB _) hG hn bolT rfl 0 (by omega)).mono ?_
  rintro e w' ⟨hx, ⟨h1, h2⟩, h3⟩
  exact ⟨hx, ⟨h1, (xdu w hB _).trans h2⟩, h3⟩
 ·refine take_eol pb fr to gp (wd q 0) (wd q 1) (wd q 2) (wd q 3) er lo hi w _ (fun w' => IsPs w' B pb (P.add eolT 0) ∧ Fr B w w') ?_
  refine (xfq _ (h.alloc _) (xgb hB _) hG hn eolT rfl 0 (by omega)).mono ?_
  rintro e w' ⟨hx, ⟨h1, h2⟩, h3⟩
  exact ⟨hx, ⟨h1, (xdu w hB _).trans h2⟩, h3⟩
 ·have ho := xpi pb fr to gp (wd q 0) (wd q 1) (wd q 2) (wd q 3) er lo hi w (if P.groups = 9 then 4 else 0) (fun w' => IsPs w' B pb (if P.groups = 9 then P else P.opened fr) ∧ Fr B w w') ?_
  ·refine Calls.mono ho ?_
   rintro e w' ⟨rfl, h1, h2⟩
   show _ = Ending.returned (.int .i64 (if P.groups = 9 then (4, P) else (0, P.opened fr)).1) ∧ IsPs w' B pb (if P.groups = 9 then (4, P) else (0, P.opened fr)).2 ∧ _
   by_cases h9 : P.groups = 9
   ·simp only [if_pos h9] at h1 ⊢
    exact ⟨trivial, h1, h2⟩
   ·simp only [if_neg h9] at h1 ⊢
    exact ⟨trivial, h1, h2⟩
  ·refine (open_any _ (h.alloc _) (xgb hB _) (by have := hG.len; have := hG.g9; omega) hG.g9 fr).mono ?_
   rintro e w' ⟨hx, h1, h2⟩
   exact ⟨hx, h1, (xdu w hB _).trans h2⟩
 ·cases hl : P.outer.getLast? with
  | none =>
   have h0 : P.outer = [] := List.getLast?_eq_none_iff.1 hl
   have e1 : P.take ⟨5, fr, to, er, q, gp, lo, hi⟩ = (10, P) := by simp only [Ps.take, hl]
   rw [e1]
   refine xg1 pb fr to gp (wd q 0) (wd q 1) (wd q 2) (wd q 3) er lo hi w 10 (fun w' => IsPs w' B pb P ∧ Fr B w w') ?_
   refine (xpg _ (h.alloc _) h0).mono ?_
   rintro e w' ⟨rfl, rfl⟩
   exact ⟨rfl, h.alloc _, xdu w hB _⟩
  | some l =>
   have hs := xcu hl
   have e1 : P.take ⟨5, fr, to, er, q, gp, lo, hi⟩ = (0, P.close P.outer.dropLast l) := by simp only [Ps.take, hl]
   rw [e1]
   refine xg1 pb fr to gp (wd q 0) (wd q 1) (wd q 2) (wd q 3) er lo hi w 0 (fun w' => IsPs w' B pb (P.close P.outer.dropLast l) ∧ Fr B w w') ?_
   have hlm : l ∈ P.outer ++ [P.top] := by rw [hs]; simp
   refine (xph _ (h.alloc _) (xgb hB _) hs (by have := hG.len; have := hG.g9; rw [List.length_dropLast]; omega) (by have := (hG.grp l hlm).2; omega) (by have := hG.top.1; have := hG.g9; omega) (by omega) (by omega)).mono ?_
   rintro e w' ⟨hx, h1, h2⟩
   exact ⟨hx, h1, (xdu w hB _).trans h2⟩
 ·have hg : gp ≤ 9 := ht.grp rfl
  have ck : ∀ ob, (w.alloc ob).cell? ⟨pb, 2 + gp, none⟩ = some (.bool (P.shut gp)) := fun ob => by
   obtain ⟨o, vs, v, fz, hp⟩ := h.alloc ob
   exact (hp.cell _ _ (xi5 P _ _ hg)).1
  cases hc : P.shut gp
  ·have e1 : P.take ⟨6, fr, to, er, q, gp, lo, hi⟩ = (11, P) := by simp only [Ps.take, hc]; rfl
   rw [e1]
   rw [hc] at ck
   refine (xnh pb fr to gp (wd q 0) (wd q 1) (wd q 2) (wd q 3) er lo hi w hg (ck _)).mono ?_
   rintro e w' ⟨rfl, k, rfl⟩
   have hA := h.alloc (.cells #[.int .i64 6, .int .i64 fr, .int .i64 to, .int .i64 er, .int .u64 (wd q 0), .int .u64 (wd q 1), .int .u64 (wd q 2), .int .u64 (wd q 3), .int .i64 gp, .int .i64 lo, .int .i64 hi] 73)
   have hF := xdu w hB (.cells #[.int .i64 6, .int .i64 fr, .int .i64 to, .int .i64 er, .int .u64 (wd q 0), .int .u64 (wd q 1), .int .u64 (wd q 2), .int .u64 (wd q 3), .int .i64 gp, .int .i64 lo, .int .i64 hi] 73)
   exact ⟨rfl, hA.stay (fun _ _ => rfl) (Nat.le_refl _), ⟨⟨hF.below.os, hF.below.tape, hF.below.output, hF.below.size, hF.below.block⟩, hF.same⟩⟩
  ·have e1 : P.take ⟨6, fr, to, er, q, gp, lo, hi⟩ = (P.add (xi6 gp) 1).grown := by simp only [Ps.take, hc]; rfl
   rw [e1]
   rw [hc] at ck
   refine xni pb fr to gp (wd q 0) (wd q 1) (wd q 2) (wd q 3) er lo hi w hg (ck _) _ (fun w' => IsPs w' B pb (P.add (xi6 gp) 1) ∧ Fr B w w') ?_
   intro k
   generalize hX : w.alloc _ = X
   have hA : IsPs X B pb P := hX ▸ h.alloc _
   have hF : Fr B w X := hX ▸ xdu w hB _
   have hL : B ≤ X.heap.size := hX ▸ xgb hB _
   have hD : IsPs (X.drewN k) B pb P := hA.stay (fun _ _ => rfl) (Nat.le_refl _)
   refine (xfq (X.drewN k) hD hL hG hn (xi6 gp) rfl 1 (by omega)).mono ?_
   rintro e w' ⟨hx, ⟨h1, h2⟩, h3⟩
   refine ⟨hx, ⟨h1, ?_⟩, h3⟩
   exact Fr.trans (Y := X.drewN k) ⟨⟨hF.below.os, hF.below.tape, hF.below.output, hF.below.size, hF.below.block⟩, hF.same⟩ h2
 ·have hr : (0 ≤ lo ∧ lo ≤ 255) ∧ (-1 ≤ hi ∧ hi ≤ 255) := ht.rep rfl
  have h7' := h7 rfl
  cases hl : P.top.parts.getLast? with
  | none => exact absurd (List.getLast?_eq_none_iff.1 hl) h7'
  | some x =>
   have hs := xcu hl
   have e1 : P.take ⟨7, fr, to, er, q, gp, lo, hi⟩ = (P.rep P.top.parts.dropLast x lo hi).grown := by simp only [Ps.take, hl]
   rw [e1]
   have hla := hG.last h7'
   refine take_rep pb fr to gp (wd q 0) (wd q 1) (wd q 2) (wd q 3) er lo hi w _ (fun w' => IsPs w' B pb (P.rep P.top.parts.dropLast x lo hi) ∧ Fr B w w') ?_
   refine (xnc _ (h.alloc _) (xgb hB _) (by have := hG.len; have := hG.g9; omega) hs (by have := hG.top.2; rw [List.length_dropLast]; omega) (by omega) (by omega) lo hi hr.1 hr.2).mono ?_
   rintro e w' ⟨hx, h1, h2⟩
   exact ⟨hx, ⟨h1, (xdu w hB _).trans h2⟩, h1.size⟩
end
end Go.Proofs.Ytolpakpdkheanaa.br
