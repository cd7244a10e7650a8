/- template: replacements in plain mathematics: what Parse, Refs, Text and Build answer. -/
import Derived.Test.YtcpokkpjeeblnaaGreatDoorKBa
import Derived.Test.YtcpokkpjeeblnaaGreatDoorKUk
import Derived.WalkKit
import Derived.Test.YtcpokkpjeeblnaaGreatDoorRows
import Derived.WalkSpells
import Derived.WalkLawsBesides
import Derived.BigQuiet
import Derived.Deep.Cut
import Derived.Laws.StructEq
import Derived.Lib.Strings
set_option maxRecDepth 100000
set_option maxHeartbeats 1000000
namespace Go.Proofs.YtcpokkpjeeblnaaGreatDoor
namespace tpl
structure Pt where
 g : Int
 t : ByteArray
def ptV : List Pt -> List Value
 | [] => []
 | p :: r => .int .i64 p.g :: .string p.t :: ptV r
theorem xj5 (l m : List Pt) : ptV (l ++ m) = ptV l ++ ptV m := by
 induction l with
 | nil => rfl
 | cons p r ih => simp only [List.cons_append, ptV, ih]
theorem ptV_at : ∀ (l : List Pt) (i : Nat) (p : Pt), l[i]? = some p -> (ptV l)[i * 2]? = some (.int .i64 p.g) /\ (ptV l)[i * 2 + 1]? = some (.string p.t)
 | [], i, p, h => by simp at h
 | q :: r, 0, p, h => by
  cases h;exact ⟨rfl, rfl⟩
 | q :: r, i + 1, p, h => by
  have h2 := ptV_at r i p (by simpa using h);rw [show (i + 1) * 2 = i * 2 + 1 + 1 by omega];exact ⟨by simpa [ptV] using h2.1, by simpa [ptV] using h2.2⟩
structure Ga where
 ps : List Pt
 bs : List UInt8
def Ga.plain (x : Ga) (b : UInt8) : Ga := ⟨x.ps, x.bs ++ [b]⟩
def Ga.out (x : Ga) : Ga := if x.bs = [] then x else ⟨x.ps ++ [⟨-1, bst x.bs⟩], []⟩
def Ga.group (x : Ga) (n : Int) : Ga := ⟨x.out.ps ++ [⟨n, bst []⟩], []⟩
def Ga.esc (x : Ga) (b : UInt8) : Ga := if 48 <= b.toNat /\ b.toNat <= 57 then x.group ((b.toNat - 48 : Nat) : Int) else if b.toNat = 110 then x.plain 10 else x.plain b
theorem out_bs (x : Ga) : x.out.bs = [] := by
 unfold Ga.out;split <;> simp_all
def runP : List UInt8 -> Nat -> Ga -> Ga × Nat × Nat
 | [], _, x => (x.out, 0, 0)
 | b :: r, k, x =>
  if b.toNat = 38 then runP r (k + 1) (x.group 0)
  else if b.toNat = 10 then (⟨[], []⟩, 19, k)
  else if b.toNat ≠ 92 then runP r (k + 1) (x.plain b)
  else match r with
   | [] => (⟨[], []⟩, 6, k)
   | c :: q => runP q (k + 2) (x.esc c)
 termination_by l => l.length
def xap (s : List UInt8) : Ga × Nat × Nat := if 4096 < s.length then (⟨[], []⟩, 2, 0) else runP s 0 ⟨[], []⟩
def Ga.wt (x : Ga) : Nat := x.ps.length + (if x.bs = [] then 0 else 1)
theorem xhi (x : Ga) (b : UInt8) : (x.plain b).wt <= x.wt + 1 := by
 unfold Ga.wt Ga.plain;simp only;split <;> split <;> omega
theorem out_len (x : Ga) : x.out.ps.length <= x.ps.length + 1 := by
 unfold Ga.out;split <;> simp
theorem out_wt (x : Ga) : x.out.ps.length = x.wt := by
 unfold Ga.out Ga.wt;split <;> simp
theorem xhj (x : Ga) (n : Int) : (x.group n).wt <= x.wt + 1 := by
 have := out_wt x;simp only [Ga.group, Ga.wt, List.length_append, List.length_singleton] at *;simp only [if_true];omega
def xfz : List Pt -> Int -> Int
 | [], n => n
 | p :: r, n => xfz r (max n p.g)
def escL : List UInt8 -> List UInt8
 | [] => []
 | b :: r => (if b.toNat = 10 then [92, 110] else if b.toNat = 92 \/ b.toNat = 38 then [92, b] else [b]) ++ escL r
def oneT (p : Pt) : List UInt8 := if p.g = -1 then escL p.t.data.toList else if p.g = 0 then [38] else [92, UInt8.ofNat (48 + p.g.toNat)]
def badT (p : Pt) : Bool := decide (p.g < -1 \/ 9 < p.g)
def textR : List Pt -> List UInt8 -> Option (List UInt8)
 | [], l => some l
 | p :: r, l => if badT p then none else textR r (l ++ oneT p)
end tpl
end Go.Proofs.YtcpokkpjeeblnaaGreatDoor
namespace Go.Proofs.YtcpokkpjeeblnaaGreatDoor
namespace tpl
open Go.RowKit
theorem below_drewN (B : Nat) (W : World) (n : Nat) : Below B W (W.drewN n) := { os := rfl, tape := rfl, output := rfl, size := Nat.le_refl _, block := fun _ _ => rfl }
variable {W : World}
theorem cell_lt {g o : Nat} {v : Value} (h : W.cell? ⟨g, o, none⟩ = some v) : g < W.heap.size := by
 rcases Nat.lt_or_ge g W.heap.size with h' | h'
 ·exact h'
 ·simp [World.cell?, Array.getElem?_eq_none h'] at h
def PRow (W : World) (v : Value) (l : List Pt) : Prop :=
 (l = [] /\ ∃ p c, v = .slice p 0 c) \/ (∃ g off c, v = .slice (some ⟨g, off, none⟩) l.length c /\ ∀ i (h : i < l.length), W.cell? ⟨g, off + i * 2, none⟩ = some (.int .i64 l[i].g) /\ W.cell? ⟨g, off + i * 2 + 1, none⟩ = some (.string l[i].t))
variable {l : List Pt}
theorem PRow.shape {v : Value} (h : PRow W v l) : ∃ p c, v = .slice p l.length c := by
 rcases h with ⟨rfl, p, c, rfl⟩ | ⟨g, off, c, rfl, -⟩
 ·exact ⟨p, c, rfl⟩
 ·exact ⟨_, c, rfl⟩
theorem PRow.stay {W' : World} {v : Value} (h : PRow W v l) {B : Nat} (hb : Below B W W') (hB : W.heap.size <= B) : PRow W' v l := by
 rcases h with ⟨rfl, p, c, rfl⟩ | ⟨g, off, c, rfl, hc⟩
 ·exact .inl ⟨rfl, p, c, rfl⟩
 ·refine .inr ⟨g, off, c, rfl, fun i hi => ?_⟩;obtain ⟨h1, h2⟩ := hc i hi;exact ⟨(hb.cell (p := ⟨g, off + i * 2, none⟩) (Nat.lt_of_lt_of_le (cell_lt h1) hB)).trans h1, (hb.cell (p := ⟨g, off + i * 2 + 1, none⟩) (Nat.lt_of_lt_of_le (cell_lt h2) hB)).trans h2⟩
theorem PRow.of_owns {base : Nat} {v : Value} (h : W.ownsRow base 266 2 v l.length (ptV l)) : PRow W v l := by
 rcases h.2 with ⟨rfl, h0⟩ | ⟨g, cap, cur, rfl, hg, hh, hrest⟩
 ·exact .inl ⟨List.eq_nil_of_length_eq_zero h0, none, 0, rfl⟩
 ·refine .inr ⟨g, 0, cap, rfl, fun i hi => ?_⟩;have h0 := ptV_at l i l[i] (List.getElem?_eq_getElem hi);have h1 := h.cells (g := g) rfl (i * 2) _ h0.1;have h2 := h.cells (g := g) rfl (i * 2 + 1) _ h0.2;have hplain : ∀ k, (⟨g, 0, none⟩ : Addr).add k = ⟨g, 0 + k, none⟩ := fun k => by unfold Addr.add; split <;> simp_all
  rw [hplain] at h1 h2;exact ⟨h1, by rw [Nat.add_assoc]; exact h2⟩
theorem xm2 (l : List Pt) (k : Nat) (h : k < l.length) (n : Int) : xfz (l.take (k + 1)) n = max (xfz (l.take k) n) l[k].g := by
 induction l generalizing k n with
 | nil => simp at h
 | cons p r ih =>
  cases k with
  | zero => simp [xfz]
  | succ k =>
   simp only [List.take_succ_cons, xfz, List.getElem_cons_succ];exact ih k (by simpa using h) _
theorem refs_any (a : Value) (l : List Pt) (w : World) (ha : PRow w a l) (hl : l.length <= 4611686018427387904) :
  Calls Tryz.prog 124 #[a] w fun e w' => e = .returned (.int .i64 (xfz l 0)) /\ Below w.heap.size w w' := by
 obtain ⟨pa, ca, rfl⟩ := ha.shape;go_enter Tryz.func124, Tryz.ntmps124
 go_wp2_with fail
 go_loopw [3, 8] (fun n i wr => ∃ k : Nat, k <= l.length /\ i = .int .i64 k /\ n = .int .i64 (xfz (l.take k) 0) /\ Below w.heap.size w wr) (fun _ i _ => l.length - (intOf i).toNat)
 case atStart => exact ⟨0, by omega, rfl, rfl, Below.refl _ _⟩
 case round =>
  obtain ⟨k, hk, rfl, rfl, hB⟩ := hrel;by_cases hlt : k < l.length
  ·rcases ha with ⟨rfl, -⟩ | ⟨g, off, c, e1, ha⟩
   ·simp at hlt
   cases e1;obtain ⟨a1, a2⟩ := ha k hlt;have c1 := (hB.cell (p := ⟨g, off + k * 2, none⟩) (cell_lt a1)).trans a1;have c2 := (hB.cell (p := ⟨g, off + k * 2 + 1, none⟩) (cell_lt a2)).trans a2;have i1 : (k : Int) < (l.length : Int) := by omega
   have i2 : (0 : Int) <= (k : Int) := by omega
   have HR := hideT (xm2 l k hlt 0);have HB := hideT ((hB.alloc hB.size (.cells #[.int .i64 l[k].g, .string l[k].t] 266)));go_wp2;exact ⟨⟨k + 1, by omega, by go_num, by rw [HR.out, Int.max_def] <;> (split <;> split <;> first | rfl | (congr 1; omega)), HB.out⟩, by simp [intOf]; omega⟩
  ·obtain rfl : k = l.length := by omega
   rw [List.take_length];go_wp2;go_ret;exact ⟨rfl, hB⟩
end tpl
end Go.Proofs.YtcpokkpjeeblnaaGreatDoor
