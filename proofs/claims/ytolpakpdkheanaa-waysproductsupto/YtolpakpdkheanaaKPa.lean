/- bre: trees, and how they lie in memory. -/
import Derived.Test.YtolpakpdkheanaaKTk
import Derived.Deep.AppendLies
import Derived.Deep.RegionHeld3
import Derived.Deep.QuietTactic
import Derived.BigQuiet
import Derived.Lib.QuietBelow
set_option maxRecDepth 100000
set_option maxHeartbeats 400000
namespace Go.Proofs.Ytolpakpdkheanaa.br
open Go.RowKit
inductive Tr where
 | mk (kind : Nat) (q : Nat → Bool) (lo hi : Int) (grp : Nat) (kids : List Tr)
def Tr.kind : Tr → Nat | .mk k _ _ _ _ _ => k
def Tr.q : Tr → Nat → Bool | .mk _ q _ _ _ _ => q
def Tr.lo : Tr → Int | .mk _ _ l _ _ _ => l
def Tr.hi : Tr → Int | .mk _ _ _ h _ _ => h
def Tr.grp : Tr → Nat | .mk _ _ _ _ g _ => g
def Tr.kids : Tr → List Tr | .mk _ _ _ _ _ ks => ks
def xex (t : Tr) (v : Value) : List Value :=
 [.int .i64 t.kind, .int .u64 (wd t.q 0), .int .u64 (wd t.q 1), .int .u64 (wd t.q 2), .int .u64 (wd t.q 3), .int .i64 t.lo, .int .i64 t.hi, .int .i64 t.grp, v]
theorem xed (t : Tr) (v : Value) : (xex t v).length = 9 := rfl
def rowV : List Tr → List Value → List Value
 | t :: ts, v :: vs => xex t v ++ rowV ts vs
 | _, _ => []
theorem xmf : ∀ (ts : List Tr) (vs : List Value), vs.length = ts.length → (rowV ts vs).length = ts.length * 9
 | [], [], _ => rfl
 | t :: ts, v :: vs, h => by
  have := xmf ts vs (by simpa using h)
  simp only [rowV, List.length_append, xed, this, List.length_cons]
  omega
 | [], _ :: _, h => by simp at h
 | _ :: _, [], h => by simp at h
theorem xfp (t : Tr) (v : Value) : ∀ (ts : List Tr) (vs : List Value), vs.length = ts.length → rowV (ts ++ [t]) (vs ++ [v]) = rowV ts vs ++ xex t v
 | [], [], _ => by simp [rowV]
 | u :: ts, x :: vs, h => by
  have := xfp t v ts vs (by simpa using h)
  simp only [List.cons_append, rowV, this, List.append_assoc]
 | [], _ :: _, h => by simp at h
 | _ :: _, [], h => by simp at h
theorem xmg (t : Tr) (v : Value) (k : Nat) (hk : k < 9) : ∀ (ts : List Tr) (vs : List Value) (i : Nat), ts[i]? = some t → vs[i]? = some v → (rowV ts vs)[i * 9 + k]? = (xex t v)[k]?
 | [], _, _, h, _ => by simp at h
 | _ :: _, [], _, _, h => by simp at h
 | u :: ts, x :: vs, 0, h1, h2 => by
  simp only [List.getElem?_cons_zero, Option.some.injEq] at h1 h2
  subst h1 h2
  simp only [rowV, Nat.zero_mul, Nat.zero_add]
  rw [List.getElem?_append_left (by rw [xed]; exact hk)]
 | u :: ts, x :: vs, i + 1, h1, h2 => by
  have := xmg t v k hk ts vs i (by simpa using h1) (by simpa using h2)
  simp only [rowV]
  rw [List.getElem?_append_right (by rw [xed]; omega), xed, show (i + 1) * 9 + k - 9 = i * 9 + k by omega]
  exact this
theorem owns_keep {W W' : World} {B e size n : Nat} {v : Value} {xs : List Value} (h : W.ownsRow B e size v n xs) (hk : ∀ g, v.ownBlock = some g → W'.heap[g]? = W.heap[g]?) : W'.ownsRow B e size v n xs := by
 obtain ⟨hl, h2⟩ := h
 refine ⟨hl, ?_⟩
 rcases h2 with h2 | ⟨g, cap, cur, rfl, hb, hh, r⟩
 ·exact .inl h2
 ·exact .inr ⟨g, cap, cur, rfl, hb, (hk g rfl).trans hh, r⟩
theorem xo8 {W : World} {B B' e size n : Nat} {v : Value} {xs : List Value} (h : W.ownsRow B e size v n xs) (hB : B' ≤ B) : W.ownsRow B' e size v n xs := by
 obtain ⟨hl, h2⟩ := h
 refine ⟨hl, ?_⟩
 rcases h2 with h2 | ⟨g, cap, cur, rfl, hb, hh, r⟩
 ·exact .inl h2
 ·exact .inr ⟨g, cap, cur, rfl, Nat.le_trans hB hb, hh, r⟩
theorem owns_set {W : World} {B e size n g cap : Nat} {xs : List Value} (h : W.ownsRow B e size (.slice (some ⟨g, 0, none⟩) n cap) n xs) (k : Nat) (u : Value) : (W.setCell ⟨g, k, none⟩ u).ownsRow B e size (.slice (some ⟨g, 0, none⟩) n cap) n (xs.set k u) := by
 obtain ⟨hl, h2⟩ := h
 refine ⟨by rw [List.length_set, hl], ?_⟩
 rcases h2 with ⟨h2, _⟩ | ⟨g', cap', cur, he, hb, hh, hn, hc, hs, ht⟩
 ·cases h2
 ·cases he
  obtain ⟨hlt, hk2⟩ := Array.getElem?_eq_some_iff.1 hh
  refine .inr ⟨g, cap, cur.setIfInBounds k u, rfl, hb, ?_, hn, hc, by rw [Array.size_setIfInBounds, hs], ?_⟩
  ·show (W.heap.modify g _)[g]? = _
   rw [Array.getElem?_eq_getElem (by rw [Array.size_modify]; exact hlt), Array.getElem_modify_self, hk2]
   simp only [Option.isSome_none, Bool.false_eq_true, if_false]
  ·rw [Array.toList_setIfInBounds, List.take_set, ht]
theorem xbx {W : World} {B e size n g cap : Nat} {xs : List Value} (h : W.ownsRow B e size (.slice (some ⟨g, 0, none⟩) n cap) n xs) (k : Nat) (u : Value) (hu : xs[k]? = some u) : W.cell? ⟨g, k, none⟩ = some u ∧ W.frozen? ⟨g, k, none⟩ = false := by
 obtain ⟨hl, h2⟩ := h
 rcases h2 with ⟨h2, _⟩ | ⟨g', cap', cur, he, hb, hh, hn, hc, hs, ht⟩
 ·cases h2
 ·cases he
  have hk : k < n * size := by rw [← hl]; exact (List.getElem?_eq_some_iff.1 hu).1
  rw [← ht, List.getElem?_take_of_lt hk] at hu
  exact ⟨by simp only [World.cell?, hh]; simpa using hu, by simp [World.frozen?, hh]⟩
theorem owns_blk {W : World} {B e size n : Nat} {v : Value} {xs : List Value} (h : W.ownsRow B e size v n xs) {g : Nat} (hg : v.ownBlock = some g) : B ≤ g ∧ g < W.heap.size ∧ ∃ cur, W.heap[g]? = some (.cells cur e (0, 0)) := by
 rcases h.2 with ⟨rfl, _⟩ | ⟨g', cap', cur, rfl, hb, hh, _⟩
 ·cases hg
 ·cases hg
  exact ⟨hb, (Array.getElem?_eq_some_iff.1 hh).1, cur, hh⟩
inductive Kids (W : World) (ok : Nat → Prop) : Value → List Tr → Prop where
 | mk (v : Value) (ts : List Tr) (vs : List Value) (hl : vs.length = ts.length) (own : W.ownsRow 0 41 9 v ts.length (rowV ts vs)) (hok : ∀ g, v.ownBlock = some g → ok g)
   (hk : ∀ (i : Nat) (t : Tr) (u : Value), ts[i]? = some t → vs[i]? = some u → Kids W ok u t.kids) : Kids W ok v ts
theorem Kids.keep {W W' : World} {ok ok' : Nat → Prop} {v : Value} {ts : List Tr} (h : Kids W ok v ts) (hk : ∀ g, ok g → W'.heap[g]? = W.heap[g]?) (hm : ∀ g, ok g → ok' g) : Kids W' ok' v ts := by
 induction h with
 | mk v ts vs hl own hok _ ih => exact .mk v ts vs hl (owns_keep own fun g hg => hk g (hok g hg)) (fun g hg => hm g (hok g hg)) ih
theorem Kids.none (W : World) (ok : Nat → Prop) : Kids W ok (.slice none 0 0) [] := .mk _ _ [] rfl (World.ownsRow_nil _ _ _ _) (fun g h => by cases h) (fun i t u h => by simp at h)
def RowAt (W : World) (B : Nat) (ok : Nat → Prop) (v : Value) (ts : List Tr) : Prop :=
 ∃ vs : List Value, vs.length = ts.length ∧ W.ownsRow B 41 9 v ts.length (rowV ts vs) ∧ ∀ (i : Nat) (t : Tr) (u : Value), ts[i]? = some t → vs[i]? = some u → Kids W ok u t.kids
theorem RowAt.keep {W W' : World} {B : Nat} {ok ok' : Nat → Prop} {v : Value} {ts : List Tr} (h : RowAt W B ok v ts) (hv : ∀ g, v.ownBlock = some g → W'.heap[g]? = W.heap[g]?) (hk : ∀ g, ok g → W'.heap[g]? = W.heap[g]?) (hm : ∀ g, ok g → ok' g) : RowAt W' B ok' v ts := by
 obtain ⟨vs, hl, own, kids⟩ := h
 exact ⟨vs, hl, owns_keep own hv, fun i t u ht hu => (kids i t u ht hu).keep hk hm⟩
theorem RowAt.shut {W : World} {B : Nat} {ok ok' : Nat → Prop} {v : Value} {ts : List Tr} (h : RowAt W B ok v ts) (hm : ∀ g, ok g → ok' g) (hv : ∀ g, v.ownBlock = some g → ok' g) : Kids W ok' v ts := by
 obtain ⟨vs, hl, own, kids⟩ := h
 exact .mk v ts vs hl (xo8 own (Nat.zero_le _)) hv (fun i t u ht hu => (kids i t u ht hu).keep (fun _ _ => rfl) hm)
structure Lv where
 pos : Nat
 grp : Nat
 before : Int
 parts : List Tr
def lvV (l : Lv) (v : Value) : List Value := [.int .i64 l.pos, .int .i64 l.grp, .int .i64 l.before, v]
def lvsV : List Lv → List Value → List Value
 | t :: ts, v :: vs => lvV t v ++ lvsV ts vs
 | _, _ => []
theorem xb7 : ∀ (ts : List Lv) (vs : List Value), vs.length = ts.length → (lvsV ts vs).length = ts.length * 4
 | [], [], _ => rfl
 | t :: ts, v :: vs, h => by
  have := xb7 ts vs (by simpa using h)
  simp only [lvsV, List.length_append, this, List.length_cons, lvV, List.length_nil]
  omega
 | [], _ :: _, h => by simp at h
 | _ :: _, [], h => by simp at h
theorem xhp (t : Lv) (v : Value) : ∀ (ts : List Lv) (vs : List Value), vs.length = ts.length → lvsV (ts ++ [t]) (vs ++ [v]) = lvsV ts vs ++ lvV t v
 | [], [], _ => by simp [lvsV]
 | u :: ts, x :: vs, h => by
  have := xhp t v ts vs (by simpa using h)
  simp only [List.cons_append, lvsV, this, List.append_assoc]
 | [], _ :: _, h => by simp at h
 | _ :: _, [], h => by simp at h
structure Ps where
 outer : List Lv
 top : Lv
 groups : Nat
 shut : Nat → Bool
 size : Int
 last : Int
def Ps.cells (P : Ps) (v : Value) : List Value :=
 [v, .int .i64 P.groups, .bool (P.shut 0), .bool (P.shut 1), .bool (P.shut 2), .bool (P.shut 3), .bool (P.shut 4), .bool (P.shut 5), .bool (P.shut 6), .bool (P.shut 7), .bool (P.shut 8), .bool (P.shut 9), .int .i64 P.size, .int .i64 P.last]
def xbk (vs : List Value) : List Nat := vs.filterMap Value.ownBlock
structure PsAt (W : World) (B pb : Nat) (P : Ps) (o : Value) (vs : List Value) (v : Value) (fz : Nat → Prop) : Prop where
 base : B ≤ pb
 blk : W.heap[pb]? = some (.cells (P.cells o).toArray 67)
 own : W.ownsRow B 63 4 o (P.outer.length + 1) (lvsV P.outer vs ++ lvV P.top v)
 len : vs.length = P.outer.length
 rows : ∀ (i : Nat) (l : Lv) (u : Value), P.outer[i]? = some l → vs[i]? = some u → RowAt W B fz u l.parts
 row : RowAt W B fz v P.top.parts
 nodup : (xbk (vs ++ [v])).Nodup
 live : ∀ g, g ∈ xbk (vs ++ [v]) → ¬ fz g
 fzlt : ∀ g, fz g → B ≤ g ∧ g < W.heap.size ∧ ∃ cur fr, W.heap[g]? = some (.cells cur 41 fr)
def mine : Obj → Bool
 | .cells _ e _ => e == 41 || e == 63 || e == 67
 | _ => false
structure Fr (B : Nat) (W W' : World) : Prop where
 below : Below B W W'
 same : ∀ (k : Nat) (o : Obj), W.heap[k]? = some o → mine o = false → W'.heap[k]? = some o
theorem Fr.refl (B : Nat) (W : World) : Fr B W W := ⟨Below.refl _ _, fun _ _ h _ => h⟩
theorem Fr.trans {B : Nat} {X Y Z : World} (h : Fr B X Y) (k : Fr B Y Z) : Fr B X Z := ⟨h.below.trans k.below, fun i o hi ho => k.same i o (h.same i o hi ho) ho⟩
theorem Fr.alloc {B : Nat} {X Y : World} (h : Fr B X Y) (hB : B ≤ Y.heap.size) (o : Obj) : Fr B X (Y.alloc o) :=
 ⟨h.below.alloc hB o, fun i o' hi ho => (Below.heap_alloc _ _ _ (Array.getElem?_eq_some_iff.1 (h.same i o' hi ho)).1).trans (h.same i o' hi ho)⟩
theorem Fr.put {B : Nat} {X Y : World} (h : Fr B X Y) {b : Nat} (hb : B ≤ b) {o : Obj} (ho : Y.heap[b]? = some o) (hm : mine o = true) (k : Nat) (u : Value) : Fr B X (Y.setCell ⟨b, k, none⟩ u) :=
 ⟨h.below.setCell (p := ⟨b, k, none⟩) hb u, fun i o' hi ho' => by
  have h1 := h.same i o' hi ho'
  refine (Below.heap_setCell Y ⟨b, k, none⟩ u i (fun e => ?_)).trans h1
  have e' : i = b := e
  rw [e', ho] at h1
  cases h1
  rw [hm] at ho'
  cases ho'⟩
theorem Fr.grown {B : Nat} {X Y Z : World} {row : Option Nat} (h : Fr B X Y) (g : Y.grownBy Z row) (hB : B ≤ Y.heap.size) (hr : ∀ r, row = some r → B ≤ r ∧ ∃ o, Y.heap[r]? = some o ∧ mine o = true) : Fr B X Z :=
 ⟨h.below.grown g hB (fun r e => (hr r e).1), fun i o' hi ho' => by
  have h1 := h.same i o' hi ho'
  refine (g.block i (Array.getElem?_eq_some_iff.1 h1).1 (fun e => ?_)).trans h1
  obtain ⟨_, o, ho, hm⟩ := hr i e.symm
  rw [ho] at h1
  cases h1
  rw [hm] at ho'
  cases ho'⟩
theorem PsAt.cell {W : World} {B pb : Nat} {P : Ps} {o v : Value} {vs : List Value} {fz : Nat → Prop} (h : PsAt W B pb P o vs v fz) (k : Nat) (u : Value) (hk : (P.cells o)[k]? = some u) : W.cell? ⟨pb, k, none⟩ = some u ∧ W.frozen? ⟨pb, k, none⟩ = false := by
 have h2 := h.blk
 exact ⟨by simp [World.cell?, h2, hk], by simp [World.frozen?, h2]⟩
theorem xcf (pb go m cap : Nat) (hm : m ≤ 1000) (w : World) (c0 : w.cell? ⟨pb, 0, none⟩ = some (.slice (some ⟨go, 0, none⟩) (m + 1) cap)) :
  Calls Try.prog 22 #[.pointer (some ⟨pb, 0, none⟩)] w fun e w' => e = .returned (.pointer (some ⟨go, m * 4, none⟩)) ∧ ∃ n, w' = w.drewN n := by
 have k1 : IntKind.i64.wrap ((m : Int) + 1 - 1) = (m : Int) := by rw [IntKind.wrap_i64]; omega
 have k2 : (m : Int) < (m : Int) + 1 := by omega
 have k3 : (0 : Int) ≤ (m : Int) := by omega
 go_enter Try.func22, Try.ntmps22
 go_wp2_with fail
 go_quiet (fail)
 go_wp2
 go_ret
 exact ⟨rfl, _, rfl⟩
theorem info27 : (Try.prog.info? 41).map (fun i => (i.zero, i.size, i.bytes)) = some (some (.agg #[.int .i64 0, .int .u64 0, .int .u64 0, .int .u64 0, .int .u64 0, .int .i64 0, .int .i64 0, .int .i64 0, .slice none 0 0]), 9, 88) := by kernel_rfl
theorem info49 : (Try.prog.info? 63).map (fun i => (i.zero, i.size, i.bytes)) = some (some (.agg #[.int .i64 0, .int .i64 0, .int .i64 0, .slice none 0 0]), 4, 48) := by kernel_rfl
theorem und25 : Try.prog.underlying 39 = some (.slice 41) := by kernel_rfl
theorem und50 : Try.prog.underlying 64 = some (.slice 63) := by kernel_rfl
def zeroV : List Value := [.int .i64 0, .int .u64 0, .int .u64 0, .int .u64 0, .int .u64 0, .int .i64 0, .int .i64 0, .int .i64 0, .slice none 0 0]
theorem xi2 : zeroV.length = 9 := rfl
theorem xa1 (xs ys : List Value) (n k : Nat) (h : xs.length = n) : (xs ++ ys)[n + k]? = ys[k]? := by
 rw [List.getElem?_append_right (by omega), h, Nat.add_sub_cancel_left]
abbrev N9 (W : World) (b : Nat) (v0 v1 v2 v3 v4 v5 v6 v7 v8 : Value) : Prop :=
 W.cell? ⟨b, 0, none⟩ = some v0 ∧ W.cell? ⟨b, 1, none⟩ = some v1 ∧ W.cell? ⟨b, 2, none⟩ = some v2 ∧ W.cell? ⟨b, 3, none⟩ = some v3 ∧ W.cell? ⟨b, 4, none⟩ = some v4 ∧ W.cell? ⟨b, 5, none⟩ = some v5 ∧ W.cell? ⟨b, 6, none⟩ = some v6 ∧ W.cell? ⟨b, 7, none⟩ = some v7 ∧ W.cell? ⟨b, 8, none⟩ = some v8
theorem N9.far {W W' : World} {b : Nat} {v0 v1 v2 v3 v4 v5 v6 v7 v8 : Value} (h : N9 W b v0 v1 v2 v3 v4 v5 v6 v7 v8) (hh : W'.heap[b]? = W.heap[b]?) : N9 W' b v0 v1 v2 v3 v4 v5 v6 v7 v8 := by
 obtain ⟨e0, e1, e2, e3, e4, e5, e6, e7, e8⟩ := h
 exact ⟨(World.cell?_of_block (a := ⟨b, 0, none⟩) hh).trans e0, (World.cell?_of_block (a := ⟨b, 1, none⟩) hh).trans e1, (World.cell?_of_block (a := ⟨b, 2, none⟩) hh).trans e2, (World.cell?_of_block (a := ⟨b, 3, none⟩) hh).trans e3, (World.cell?_of_block (a := ⟨b, 4, none⟩) hh).trans e4, (World.cell?_of_block (a := ⟨b, 5, none⟩) hh).trans e5, (World.cell?_of_block (a := ⟨b, 6, none⟩) hh).trans e6, (World.cell?_of_block (a := ⟨b, 7, none⟩) hh).trans e7, (World.cell?_of_block (a := ⟨b, 8, none⟩) hh).trans e8⟩
abbrev set9 (W : World) (g o : Nat) (v0 v1 v2 v3 v4 v5 v6 v7 v8 : Value) : World :=
 ((((((((W.setCell ⟨g, o, none⟩ v0).setCell ⟨g, o + 1, none⟩ v1).setCell ⟨g, o + 2, none⟩ v2).setCell ⟨g, o + 3, none⟩ v3).setCell ⟨g, o + 4, none⟩ v4).setCell ⟨g, o + 5, none⟩ v5).setCell ⟨g, o + 6, none⟩ v6).setCell ⟨g, o + 7, none⟩ v7).setCell ⟨g, o + 8, none⟩ v8
theorem put_far (W : World) (b k : Nat) (u : Value) {j : Nat} (h : j ≠ b) : (W.setCell ⟨b, k, none⟩ u).heap[j]? = W.heap[j]? := Below.heap_setCell W ⟨b, k, none⟩ u j h
theorem xbl {W : World} {B e size n : Nat} {v : Value} {xs : List Value} (h : W.ownsRow B e size v n xs) {b : Nat} (hb : v.ownBlock ≠ some b) (k : Nat) (u : Value) : (W.setCell ⟨b, k, none⟩ u).ownsRow B e size v n xs :=
 owns_keep h fun g hg => put_far W b k u (fun e => hb (by rw [hg, e]))
theorem xdb {g b n c : Nat} (h : b ≠ g) : (Value.slice (some ⟨g, 0, none⟩) n c).ownBlock ≠ some b := fun e => h (by cases e; rfl)
theorem xi3 (W : World) (b k : Nat) (u : Value) : (W.setCell ⟨b, k, none⟩ u).os = W.os := rfl
theorem xee (W : World) (b k : Nat) (u : Value) : (W.setCell ⟨b, k, none⟩ u).tape = W.tape := rfl
theorem xcy (W : World) (b k : Nat) (u : Value) : (W.setCell ⟨b, k, none⟩ u).output = W.output := rfl
theorem put_size (W : World) (b k : Nat) (u : Value) : (W.setCell ⟨b, k, none⟩ u).heap.size = W.heap.size := by simp [World.setCell]
theorem xb8 (W : World) (g o : Nat) (v0 v1 v2 v3 v4 v5 v6 v7 v8 : Value) {j : Nat} (h : j ≠ g) : (set9 W g o v0 v1 v2 v3 v4 v5 v6 v7 v8).heap[j]? = W.heap[j]? := by
 simp only [set9, put_far _ _ _ _ h]
theorem xga {W : World} {B g gc n : Nat} {xs zs : List Value} (v0 v1 v2 v3 v4 v5 v6 v7 v8 : Value) (hl : xs.length = n * 9) (hz : zs.length = 9) (h : W.ownsRow B 41 9 (.slice (some ⟨g, 0, none⟩) (n + 1) gc) (n + 1) (xs ++ zs)) :
  (set9 W g (n * 9) v0 v1 v2 v3 v4 v5 v6 v7 v8).ownsRow B 41 9 (.slice (some ⟨g, 0, none⟩) (n + 1) gc) (n + 1) (xs ++ [v0, v1, v2, v3, v4, v5, v6, v7, v8]) := by
 have h9 := owns_set (owns_set (owns_set (owns_set (owns_set (owns_set (owns_set (owns_set (owns_set h (n * 9) v0) (n * 9 + 1) v1) (n * 9 + 2) v2) (n * 9 + 3) v3) (n * 9 + 4) v4) (n * 9 + 5) v5) (n * 9 + 6) v6) (n * 9 + 7) v7) (n * 9 + 8) v8
 have e : ((((((((((xs ++ zs).set (n * 9) v0).set (n * 9 + 1) v1).set (n * 9 + 2) v2).set (n * 9 + 3) v3).set (n * 9 + 4) v4).set (n * 9 + 5) v5).set (n * 9 + 6) v6).set (n * 9 + 7) v7).set (n * 9 + 8) v8) = xs ++ [v0, v1, v2, v3, v4, v5, v6, v7, v8] := by
  rw [← hl]
  obtain ⟨z0, z1, z2, z3, z4, z5, z6, z7, z8, rfl⟩ : ∃ z0 z1 z2 z3 z4 z5 z6 z7 z8, zs = [z0, z1, z2, z3, z4, z5, z6, z7, z8] := by
   match zs, hz with
   | [z0, z1, z2, z3, z4, z5, z6, z7, z8], _ => exact ⟨_, _, _, _, _, _, _, _, _, rfl⟩
  simp [List.set_append_right]
 rw [e] at h9
 exact h9
theorem xai (W : World) (b k : Nat) (u : Value) {cs : Array Value} {e : TypeId} {fr : Nat × Nat} (h : W.heap[b]? = some (.cells cs e fr)) : (W.setCell ⟨b, k, none⟩ u).heap[b]? = some (.cells (cs.setIfInBounds k u) e fr) := by
 obtain ⟨hlt, hk2⟩ := Array.getElem?_eq_some_iff.1 h
 show (W.heap.modify b _)[b]? = _
 rw [Array.getElem?_eq_getElem (by rw [Array.size_modify]; exact hlt), Array.getElem_modify_self, hk2]
 simp only [Option.isSome_none, Bool.false_eq_true, if_false]
def AddPost (B pb go m n : Nat) (pv : Value) (ys : List Value) (sz p : Int) (co cp : Array Value) (w w' : World) : Prop :=
 ∃ g gc, w'.ownsRow B 41 9 (.slice (some ⟨g, 0, none⟩) (n + 1) gc) (n + 1) ys ∧ (pv.ownBlock = some g ∨ w.heap.size ≤ g) ∧
 w'.heap[go]? = some (.cells (co.setIfInBounds (m * 4 + 3) (.slice (some ⟨g, 0, none⟩) (n + 1) gc)) 63 (0, 0)) ∧
 w'.heap[pb]? = some (.cells ((cp.setIfInBounds 12 (.int .i64 (sz + p))).setIfInBounds 13 (.int .i64 p)) 67 (0, 0)) ∧
 (∀ k, k < w.heap.size → k ≠ go → k ≠ pb → some k ≠ pv.ownBlock → w'.heap[k]? = w.heap[k]?) ∧ w.heap.size ≤ w'.heap.size ∧ w'.os = w.os ∧ w'.tape = w.tape ∧ w'.output = w.output
theorem AddPost.drew {B pb go m n : Nat} {pv : Value} {ys : List Value} {sz p : Int} {co cp : Array Value} {w w' : World} (h : AddPost B pb go m n pv ys sz p co cp w w') : AddPost B pb go m n pv ys sz p co cp w w'.drew := h
theorem add_fin {B pb go m n g gc : Nat} {pv : Value} {xs : List Value} {sz p : Int} {co cp : Array Value} {w V w2 : World} {ob : Obj} (v0 v1 v2 v3 v4 v5 v6 v7 v8 : Value) (hl : xs.length = n * 9)
  (hV : ∀ g, g < w.heap.size → V.heap[g]? = w.heap[g]?) (hVs : V.heap.size = w.heap.size + 1) (hVo : V.os = w.os ∧ V.tape = w.tape ∧ V.output = w.output)
  (hgo : w.heap[go]? = some (.cells co 63 (0, 0))) (hpb : w.heap[pb]? = some (.cells cp 67 (0, 0)))
  (own : w2.ownsRow B 41 9 (.slice (some ⟨g, 0, none⟩) (n + 1) gc) (n + 1) (xs ++ zeroV)) (hgr : (V.alloc ob).drew.grownBy w2 pv.ownBlock) (hat : pv.ownBlock = some g ∨ g = V.heap.size + 1) (q4 : w2.heap[go]? = V.heap[go]?) (q5 : w2.heap[pb]? = V.heap[pb]?) (hne : go ≠ g ∧ pb ≠ g ∧ pb ≠ go) :
  AddPost B pb go m n pv (xs ++ [v0, v1, v2, v3, v4, v5, v6, v7, v8]) sz p co cp w ((((set9 w2 g (n * 9) v0 v1 v2 v3 v4 v5 v6 v7 v8).setCell ⟨go, m * 4 + 3, none⟩ (.slice (some ⟨g, 0, none⟩) (n + 1) gc)).setCell ⟨pb, 12, none⟩ (.int .i64 (sz + p))).setCell ⟨pb, 13, none⟩ (.int .i64 p))
  ∧ AddPost B pb go m n pv (xs ++ [v0, v1, v2, v3, v4, v5, v6, v7, v8]) sz p co cp w (((set9 (w2.setCell ⟨go, m * 4 + 3, none⟩ (.slice (some ⟨g, 0, none⟩) (n + 1) gc)) g (n * 9) v0 v1 v2 v3 v4 v5 v6 v7 v8).setCell ⟨pb, 12, none⟩ (.int .i64 (sz + p))).setCell ⟨pb, 13, none⟩ (.int .i64 p)) := by
 obtain ⟨n1, n2, n3⟩ := hne
 have hglt := (Array.getElem?_eq_some_iff.1 hgo).1
 have hplt := (Array.getElem?_eq_some_iff.1 hpb).1
 have e4 : w2.heap[go]? = some (.cells co 63 (0, 0)) := q4.trans ((hV go hglt).trans hgo)
 have e5 : w2.heap[pb]? = some (.cells cp 67 (0, 0)) := q5.trans ((hV pb hplt).trans hpb)
 have hat2 : pv.ownBlock = some g ∨ w.heap.size ≤ g := hat.imp id (fun e => by omega)
 have hsz : w.heap.size ≤ w2.heap.size := by
  have h1 := hgr.size
  have h2 : (V.alloc ob).drew.heap.size = V.heap.size + 1 := World.size_alloc V ob
  omega
 have hot : ∀ k, k < w.heap.size → some k ≠ pv.ownBlock → w2.heap[k]? = w.heap[k]? := fun k hk hne => by
  have h1 : (V.alloc ob).heap[k]? = V.heap[k]? := Below.heap_alloc V ob k (by omega)
  exact (hgr.block k (by show k < (V.alloc ob).heap.size; rw [World.size_alloc]; omega) hne).trans (h1.trans (hV k hk))
 have hgk : ∀ k, k < w.heap.size → some k ≠ pv.ownBlock → k ≠ g := fun k hk hne e => by
  rcases hat with h | h
  ·exact hne (by rw [h, e])
  ·omega
 have ho : w2.os = w.os ∧ w2.tape = w.tape ∧ w2.output = w.output := ⟨hgr.os.trans hVo.1, hgr.tape.trans hVo.2.1, hgr.output.trans hVo.2.2⟩
 constructor
 ·refine ⟨g, gc, ?_, hat2, ?_, ?_, ?_, ?_, ?_⟩
  ·exact xbl (xbl (xbl (xga v0 v1 v2 v3 v4 v5 v6 v7 v8 hl xi2 own) (xdb n1) _ _) (xdb n2) _ _) (xdb n2) _ _
  ·rw [put_far _ _ _ _ n3.symm, put_far _ _ _ _ n3.symm]
   exact xai _ _ _ _ ((xb8 _ _ _ _ _ _ _ _ _ _ _ _ n1).trans e4)
  ·exact xai _ _ _ _ (xai _ _ _ _ ((put_far _ _ _ _ n3).trans ((xb8 _ _ _ _ _ _ _ _ _ _ _ _ n2).trans e5)))
  ·intro k hk k1 k2 k3
   rw [put_far _ _ _ _ k2, put_far _ _ _ _ k2, put_far _ _ _ _ k1, xb8 _ _ _ _ _ _ _ _ _ _ _ _ (hgk k hk k3)]
   exact hot k hk k3
  ·simp only [put_size]; exact hsz
  ·simp only [xi3, xee, xcy]; exact ho
 ·refine ⟨g, gc, ?_, hat2, ?_, ?_, ?_, ?_, ?_⟩
  ·exact xbl (xbl (xga v0 v1 v2 v3 v4 v5 v6 v7 v8 hl xi2 (xbl own (xdb n1) _ _)) (xdb n2) _ _) (xdb n2) _ _
  ·rw [put_far _ _ _ _ n3.symm, put_far _ _ _ _ n3.symm, xb8 _ _ _ _ _ _ _ _ _ _ _ _ n1]
   exact xai _ _ _ _ e4
  ·exact xai _ _ _ _ (xai _ _ _ _ ((xb8 _ _ _ _ _ _ _ _ _ _ _ _ n2).trans ((put_far _ _ _ _ n3).trans e5)))
  ·intro k hk k1 k2 k3
   rw [put_far _ _ _ _ k2, put_far _ _ _ _ k2, xb8 _ _ _ _ _ _ _ _ _ _ _ _ (hgk k hk k3), put_far _ _ _ _ k1]
   exact hot k hk k3
  ·simp only [put_size]; exact hsz
  ·simp only [xi3, xee, xcy]; exact ho
end Go.Proofs.Ytolpakpdkheanaa.br
