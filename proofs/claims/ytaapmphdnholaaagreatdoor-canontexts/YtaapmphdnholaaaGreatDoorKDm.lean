/- bre: the document's reader: part, whole; what Row's memory looks like. -/
import Derived.Test.YtaapmphdnholaaaGreatDoorKDf
import Derived.Deep.QuietTactic
set_option maxRecDepth 100000
set_option maxHeartbeats 16000000
namespace Go.Proofs.YtaapmphdnholaaaGreatDoor
open Go.RowKit
theorem part_any (s : ByteArray) (hs : s.size ≤ 512) (b : Nat) (r : Rd) (P : Ps) (k : Nat) (ts : List Tr) (h : Sim s r P k) (hts : P.top.parts = ts) (hi : r.pos < s.size) (w : World) (hI : IsRd w b s r) (ff bb : Bool) (n : Nat) (hrow : xgj s b n) (hn : s.size - r.pos ≤ n) (hg : Glob w)
  (c4 : seeB s ⟨#[92, 41]⟩ r.pos = false) (hq : xs3 s k r.pos) (hff : ff = decide (k = 4)) :
  Calls Tryz.prog 25 #[.pointer (some ⟨b, 0, none⟩), .bool ff, .bool bb] w fun x w' => ∃ r' t u, x = .returned (xcm t u) ∧ RO s b w (fun _ => False) w' r' t u ∧ PL s r.pos k P ts r' t := by
 have hk : xaf s r.pos k = xaf s r.pos (if k = 4 then 4 else 2) := by
  by_cases h4 : k = 4
  ·rw [if_pos h4, h4]
  ·rw [if_neg h4]; exact tok_same s r.pos k h4 hq hi
 cases c1 : seeB s ⟨#[92, 40]⟩ r.pos with
 | true => exact xqr s hs b r P k ts h hts hi w hI ff bb n hrow hn hg c1
 | false =>
  cases c2 : seeB s ⟨#[92, 123]⟩ r.pos with
  | true => exact xjj s hs b r P k ts h hi w hI ff bb hk c1 (.inl c2)
  | false =>
   cases c3 : seeB s ⟨#[92, 125]⟩ r.pos with
   | true => exact xjj s hs b r P k ts h hi w hI ff bb hk c1 (.inr c3)
   | false =>
    by_cases b92 : xac s r.pos = 92
    ·exact part_esc s hs b r P k ts h hts hi w hI ff bb hk c1 c2 c3 c4 b92
    by_cases b91 : xac s r.pos = 91
    ·exact part_brk s hs b r P k ts h hts hi w hI ff bb c1 c2 c3 b91
    have hrb : repB (if k = 4 then 4 else 2) = false := by split <;> rfl
    have h44 : (if k = 4 then 4 else 2 : Nat) = 4 ↔ k = 4 := by split <;> simp_all
    have ht : xaf s r.pos k = if xac s r.pos = 46 then ⟨1, r.pos, r.pos + 1, 0, notP xad, 0, 0, 0⟩ else if xac s r.pos = 94 ∧ k = 4 then ⟨2, r.pos, r.pos + 1, 0, xad, 0, 0, 0⟩ else if xac s r.pos = 36 ∧ shuts s (r.pos + 1) = true then ⟨3, r.pos, r.pos + 1, 0, xad, 0, 0, 0⟩ else xcn (xac s r.pos).toNat r.pos (r.pos + 1) := by
     rw [hk]
     unfold xaf
     rw [if_neg b92, if_neg b91, hrb]
     simp only [h44, Bool.false_eq_true, and_false, if_false]
    by_cases b46 : xac s r.pos = 46
    ·rw [if_pos b46] at ht
     exact xkq s hs b r P k ts h hts hi w hI ff bb ht c1 c2 c3 b46
    rw [if_neg b46] at ht
    by_cases b94 : xac s r.pos = 94 ∧ k = 4
    ·rw [if_pos b94] at ht
     rw [hff, decide_eq_true b94.2]
     exact part_bol s hs b r P k ts h hts hi w hI bb ht c1 c2 c3 b94.1
    rw [if_neg b94] at ht
    by_cases b36 : xac s r.pos = 36 ∧ shuts s (r.pos + 1) = true
    ·rw [if_pos b36] at ht
     exact part_eol s hs b r P k ts h hts hi w hI ff bb ht c1 c2 c3 b36.1 b36.2
    rw [if_neg b36] at ht
    refine xtc s hs b r P k ts h hts hi w hI ff bb ht c1 c2 c3 (fun h9 => ?_) b92 b91 b46 (fun h9 => ?_)
    ·rw [hff]; exact decide_eq_false (fun h4 => b94 ⟨h9, h4⟩)
    ·cases hsh : shuts s (r.pos + 1) with
     | false => rfl
     | true => exact absurd ⟨h9, hsh⟩ b36
structure QI (s : ByteArray) (b : Nat) (w : World) (W : World) (r : Rd) (ts : List Tr) (v : Value) (fz : Nat → Prop) : Prop where
 rd : IsRd W b s r
 zb : Blk9 W w.heap.size xek
 tb : Blk9 W (w.heap.size + 1) [.int .i64 0, .int .u64 0, .int .u64 0, .int .u64 0, .int .u64 0, .int .i64 0, .int .i64 0, .int .i64 0, v]
 row : RowAt W (w.heap.size + 2) fz v ts
 sep : ∀ g, fz g → w.heap.size + 2 ≤ g ∧ g < W.heap.size ∧ v.ownBlock ≠ some g
 gr : w.grownBy W (some b)
 old : b < w.heap.size
theorem RowAt.own {W : World} {B : Nat} {ok : Nat → Prop} {v : Value} {ts : List Tr} (h : RowAt W B ok v ts) {g : Nat} (hg : v.ownBlock = some g) : B ≤ g ∧ g < W.heap.size := by
 obtain ⟨vs, _, own, _⟩ := h
 exact ⟨(xbs own hg).1, (xbs own hg).2.1⟩
theorem RowAt.shape {W : World} {B : Nat} {ok : Nat → Prop} {v : Value} {ts : List Tr} (h : RowAt W B ok v ts) : ∃ a c, v = .slice a ts.length c := by
 obtain ⟨vs, _, own, _⟩ := h
 exact xea own
theorem QI.keep {s : ByteArray} {b : Nat} {w W W' : World} {r r' : Rd} {ts : List Tr} {v : Value} {fz : Nat → Prop} (h : QI s b w W r ts v fz) (hr : IsRd W' b s r') (hb : ∀ j, w.heap.size ≤ j → j < W.heap.size → (j = w.heap.size ∨ j = w.heap.size + 1 ∨ fz j ∨ v.ownBlock = some j) → W'.heap[j]? = W.heap[j]?) (hsz : W.heap.size ≤ W'.heap.size) (hgr : w.grownBy W' (some b)) : QI s b w W' r' ts v fz := by
 refine ⟨hr, h.zb.far (hb _ (by omega) h.zb.lt (.inl rfl)), h.tb.far (hb _ (by omega) h.tb.lt (.inr (.inl rfl))), ?_, fun g hg => ?_, hgr, h.old⟩
 ·refine h.row.keep (fun g hg => ?_) (fun g hg => ?_) (fun _ hg => hg)
  ·have := h.row.own hg
   exact hb g (by omega) this.2 (.inr (.inr (.inr hg)))
  ·have := h.sep g hg
   exact hb g (by omega) this.2.1 (.inr (.inr (.inl hg)))
 ·obtain ⟨h1, h2, h3⟩ := h.sep g hg
  exact ⟨h1, by omega, h3⟩
theorem QI.step {s : ByteArray} {b : Nat} {w W W' : World} {r r' : Rd} {ts : List Tr} {v : Value} {fz : Nat → Prop} (h : QI s b w W r ts v fz) (g : W.grownBy W' (some b)) (hr : IsRd W' b s r') : QI s b w W' r' ts v fz :=
 h.keep hr (fun j h1 h2 _ => g.block j h2 (fun e => by have := h.old; cases e; omega)) g.size (xag h.gr g)
theorem QI.below {s : ByteArray} {b : Nat} {w W W' : World} {r : Rd} {ts : List Tr} {v : Value} {fz : Nat → Prop} (h : QI s b w W r ts v fz) (g : Below W.heap.size W W') : QI s b w W' r ts v fz := h.step (xar g _) (h.rd.below g h.rd.lt)
theorem QI.drew {s : ByteArray} {b : Nat} {w W : World} {r : Rd} {ts : List Tr} {v : Value} {fz : Nat → Prop} (h : QI s b w W r ts v fz) (n : Nat) : QI s b w (W.drewN n) r ts v fz := h.step (xbz _ _ _) (h.rd.drew n)
theorem QI.place {s : ByteArray} {b : Nat} {w W : World} {r : Rd} {ts : List Tr} {v : Value} {fz : Nat → Prop} (h : QI s b w W r ts v fz) (p : Nat) : QI s b w (W.setCell ⟨b, 1, none⟩ (.int .i64 p)) { r with pos := p } ts v fz := h.step (xal _ _ _ _) (IsRd.put h.rd 1 _ rfl)
theorem QI.answer {s : ByteArray} {b : Nat} {w W : World} {r : Rd} {ts : List Tr} {v : Value} {fz : Nat → Prop} (h : QI s b w W r ts v fz) :
  RO s b w (fun _ => False) (nine W w.heap.size (.int .i64 0) (.int .u64 0) (.int .u64 0) (.int .u64 0) (.int .u64 0) (.int .i64 0) (.int .i64 0) (.int .i64 0) v) r (catT ts) v ∧ Blk9 (nine W w.heap.size (.int .i64 0) (.int .u64 0) (.int .u64 0) (.int .u64 0) (.int .u64 0) (.int .i64 0) (.int .i64 0) (.int .i64 0) v) w.heap.size [.int .i64 0, .int .u64 0, .int .u64 0, .int .u64 0, .int .u64 0, .int .i64 0, .int .i64 0, .int .i64 0, v] := by
 have ho := h.old
 refine ⟨⟨?_, ?_, ?_⟩, xfm h.zb _ _ _ _ _ _ _ _ _⟩
 ·have h2 : _ = _ := h.rd
  exact (xcc _ _ _ _ _ _ _ _ _ _ (by omega)).trans h2
 ·have hk : Kids W (fun g => w.heap.size + 2 ≤ g) v ts := h.row.shut (fun g hg => (h.sep g hg).1) (fun g hg => (h.row.own hg).1)
  exact hk.keep (fun g hg => xcc _ _ _ _ _ _ _ _ _ _ (by omega)) (fun g hg => .inr (by omega))
 ·exact xee h.gr (xdr _ _ _ _ _ _ _ _ _ _ _) (Nat.le_refl _)
theorem QI.start {s : ByteArray} {b : Nat} {w : World} {r : Rd} (h : IsRd w b s r) : QI s b w ((w.alloc (.cells #[.int .i64 0, .int .u64 0, .int .u64 0, .int .u64 0, .int .u64 0, .int .i64 0, .int .i64 0, .int .i64 0, .slice none 0 0] 36)).alloc (.cells #[.int .i64 0, .int .u64 0, .int .u64 0, .int .u64 0, .int .u64 0, .int .i64 0, .int .i64 0, .int .i64 0, .slice none 0 0] 36)) r [] (.slice none 0 0) (fun _ => False) := by
 have hB : Below w.heap.size w ((w.alloc (.cells #[.int .i64 0, .int .u64 0, .int .u64 0, .int .u64 0, .int .u64 0, .int .i64 0, .int .i64 0, .int .i64 0, .slice none 0 0] 36)).alloc (.cells #[.int .i64 0, .int .u64 0, .int .u64 0, .int .u64 0, .int .u64 0, .int .i64 0, .int .i64 0, .int .i64 0, .slice none 0 0] 36)) := ((Below.refl _ _).alloc (Nat.le_refl _) _).alloc (by rw [World.size_alloc]; omega) _
 refine ⟨h.below hB h.lt, ⟨rfl, ?_⟩, ⟨rfl, ?_⟩, ⟨[], rfl, World.ownsRow_nil _ _ _ _, fun i t u ht => by simp at ht⟩, fun g hg => absurd hg id, xar hB _, h.lt⟩
 ·rw [Below.heap_alloc _ _ _ (by rw [World.size_alloc]; omega)]
  exact heap_alloc_new w _
 ·rw [← World.size_alloc w (.cells #[.int .i64 0, .int .u64 0, .int .u64 0, .int .u64 0, .int .u64 0, .int .i64 0, .int .i64 0, .int .i64 0, .slice none 0 0] 36)]
  exact heap_alloc_new _ _
structure QP (s : ByteArray) (b : Nat) (w : World) (W : World) (r : Rd) (ts : List Tr) (v : Value) (fz : Nat → Prop) (pb : Nat) (t : Tr) (u : Value) : Prop where
 q : QI s b w W r ts v fz
 blk : Blk9 W pb (xbf t u)
 kids : Kids W (fun g => w.heap.size + 2 ≤ g ∧ g < W.heap.size ∧ g ≠ pb ∧ v.ownBlock ≠ some g) u t.kids
 hpb : w.heap.size + 2 ≤ pb
 own : v.ownBlock ≠ some pb
 sep : ∀ g, fz g → g ≠ pb
theorem QI.part {s : ByteArray} {b : Nat} {w W W2 : World} {r r2 : Rd} {ts : List Tr} {v : Value} {fz : Nat → Prop} {t : Tr} {u : Value} (h : QI s b w W r ts v fz) (ho : RO s b W (fun _ => False) W2 r2 t u) :
  QP s b w (W2.alloc (.cells (xbf t u).toArray 36)) r2 ts v fz W2.heap.size t u := by
 have hq := h.step ho.gr ho.rd
 have hs := ho.gr.size
 have hB : Below W2.heap.size W2 (W2.alloc (.cells (xbf t u).toArray 36)) := (Below.refl _ _).alloc (Nat.le_refl _) _
 have ht := h.tb.lt
 refine ⟨hq.below hB, ⟨rfl, heap_alloc_new W2 _⟩, ?_, by omega, fun e => ?_, fun g hg e => ?_⟩
 ·refine (xd4 ho.kids).keep (fun g hg => hB.block g hg.2) (fun g hg => ?_)
  have hg1 : W.heap.size ≤ g := by rcases hg.1 with h1 | h1; exact absurd h1 id; exact h1
  refine ⟨by omega, by rw [World.size_alloc]; omega, by omega, fun e => ?_⟩
  have := (h.row.own e).2
  omega
 ·have := (hq.row.own e).2
  omega
 ·have := (hq.sep g hg).2.1
  omega
theorem QP.repeats {s : ByteArray} {b : Nat} {w W W3 : World} {r r3 : Rd} {ts : List Tr} {v : Value} {fz ok : Nat → Prop} {pb : Nat} {t t3 : Tr} {u u3 : Value} (h : QP s b w W r ts v fz pb t u) (hok : ∀ g, ok g → w.heap.size + 2 ≤ g ∧ g < W.heap.size ∧ g ≠ pb ∧ v.ownBlock ≠ some g) (ho : RO s b W ok W3 r3 t3 u3) :
  QP s b w (nine W3 pb (.int .i64 t3.kind) (.int .u64 (wd t3.q 0)) (.int .u64 (wd t3.q 1)) (.int .u64 (wd t3.q 2)) (.int .u64 (wd t3.q 3)) (.int .i64 t3.lo) (.int .i64 t3.hi) (.int .i64 t3.grp) u3) r3 ts v fz pb t3 u3 := by
 have hq := h.q.step ho.gr ho.rd
 have hs := ho.gr.size
 have hp := h.hpb
 have hpl := h.blk.lt
 have hold := h.q.old
 have hb3 : Blk9 W3 pb (xbf t u) := h.blk.far (ho.gr.block _ hpl (fun e => by cases e; omega))
 refine ⟨?_, xfm hb3 _ _ _ _ _ _ _ _ _, ?_, hp, h.own, h.sep⟩
 ·have hrd : IsRd (nine W3 pb (.int .i64 t3.kind) (.int .u64 (wd t3.q 0)) (.int .u64 (wd t3.q 1)) (.int .u64 (wd t3.q 2)) (.int .u64 (wd t3.q 3)) (.int .i64 t3.lo) (.int .i64 t3.hi) (.int .i64 t3.grp) u3) b s r3 := by
   have h2 : _ = _ := hq.rd
   exact (xcc _ _ _ _ _ _ _ _ _ _ (by omega)).trans h2
  refine hq.keep hrd (fun j h1 h2 h3 => xcc _ _ _ _ _ _ _ _ _ _ (fun e => ?_)) (xdr _ _ _ _ _ _ _ _ _ _ _).size (xee hq.gr (xdr _ _ _ _ _ _ _ _ _ _ _) (by omega))
  rcases h3 with h3 | h3 | h3 | h3
  ·omega
  ·omega
  ·exact h.sep j h3 e
  ·rw [e] at h3; exact h.own h3
 ·refine (xd4 ho.kids).keep (fun g hg => xcc _ _ _ _ _ _ _ _ _ _ ?_) (fun g hg => ?_)
  ·rcases hg.1 with h1 | h1
   ·exact (hok g h1).2.2.1
   ·omega
  ·rw [xl2]
   rcases hg.1 with h1 | h1
   ·obtain ⟨a1, a2, a3, a4⟩ := hok g h1
    exact ⟨a1, hg.2, a3, a4⟩
   ·refine ⟨by omega, hg.2, by omega, fun e => ?_⟩
    have := (h.q.row.own e).2
    omega
theorem QP.app {s : ByteArray} {b : Nat} {w W W' : World} {r : Rd} {ts : List Tr} {v : Value} {fz : Nat → Prop} {pb : Nat} {t : Tr} {u : Value} (h : QP s b w W r ts v fz pb t u) {vs : List Value} (hl : vs.length = ts.length) (hkv : ∀ (i : Nat) (t : Tr) (u : Value), ts[i]? = some t → vs[i]? = some u → Kids W fz u t.kids)
  {g gc : Nat} {o : Obj} (hown : W'.ownsRow (w.heap.size + 2) 36 9 (.slice (some ⟨g, 0, none⟩) (ts.length + 1) gc) (ts.length + 1) (rowV ts vs ++ xbf t u)) (hgr : (W.alloc o).grownBy W' v.ownBlock) (hat : v.ownBlock = some g ∨ g = W.heap.size + 1) (hlt : g < W'.heap.size) :
  QI s b w (W'.setCell ⟨w.heap.size + 1, 8, none⟩ (.slice (some ⟨g, 0, none⟩) (ts.length + 1) gc)) r (ts ++ [t]) (.slice (some ⟨g, 0, none⟩) (ts.length + 1) gc) (fun x => fz x ∨ (w.heap.size + 2 ≤ x ∧ x < W.heap.size ∧ x ≠ pb ∧ v.ownBlock ≠ some x)) := by
 have hold := h.q.old
 have htb := h.q.tb.lt
 have hsz := hgr.size
 rw [World.size_alloc] at hsz
 have hfar : ∀ j, j < W.heap.size → v.ownBlock ≠ some j → W'.heap[j]? = W.heap[j]? := fun j h1 h2 => (hgr.block j (by rw [World.size_alloc]; omega) (fun e => h2 e.symm)).trans (Below.heap_alloc _ _ _ h1)
 have hvo : ∀ j, v.ownBlock = some j → w.heap.size + 2 ≤ j := fun j hj => (h.q.row.own hj).1
 have hg2 : w.heap.size + 2 ≤ g := by rcases hat with h1 | h1; exact hvo g h1; omega
 have hput : ∀ j, j ≠ w.heap.size + 1 → (W'.setCell ⟨w.heap.size + 1, 8, none⟩ (.slice (some ⟨g, 0, none⟩) (ts.length + 1) gc)).heap[j]? = W'.heap[j]? := fun j hj => xas _ _ _ _ hj
 have hne : ∀ j, j < w.heap.size + 2 → v.ownBlock ≠ some j := fun j hj e => by have := hvo j e; omega
 have hfz : ∀ x, (fz x ∨ (w.heap.size + 2 ≤ x ∧ x < W.heap.size ∧ x ≠ pb ∧ v.ownBlock ≠ some x)) → w.heap.size + 2 ≤ x ∧ x < W.heap.size ∧ v.ownBlock ≠ some x := fun x hx => by
  rcases hx with hx | hx
  ·exact h.q.sep x hx
  ·exact ⟨hx.1, hx.2.1, hx.2.2.2⟩
 refine ⟨?_, ?_, ?_, ?_, fun x hx => ?_, ?_, hold⟩
 ·have h2 : _ = _ := h.q.rd
  show (W'.setCell _ _).heap[b]? = _
  rw [hput b (by omega), hfar b (by omega) (hne b (by omega))]
  exact h2
 ·exact h.q.zb.far ((hput _ (by omega)).trans (hfar _ (by omega) (hne _ (by omega))))
 ·have h2 := h.q.tb.far (hfar _ htb (hne _ (by omega)))
  exact ⟨rfl, (xaq _ _ 8 _ h2.2).trans (by simp)⟩
 ·refine ⟨vs ++ [u], by simp [hl], ?_, fun i t' u' ht hu => ?_⟩
  ·rw [xft t u ts vs hl, List.length_append]
   exact xca hown (fun x hx => hput x (by have hx2 : g = x := by { cases hx; rfl }; omega))
  ·have key : ∀ (x : Nat → Prop) (a : Value) (l : List Tr), Kids W x a l → (∀ y, x y → w.heap.size + 2 ≤ y ∧ y < W.heap.size ∧ v.ownBlock ≠ some y) → (∀ y, x y → (fz y ∨ (w.heap.size + 2 ≤ y ∧ y < W.heap.size ∧ y ≠ pb ∧ v.ownBlock ≠ some y))) → Kids (W'.setCell ⟨w.heap.size + 1, 8, none⟩ (.slice (some ⟨g, 0, none⟩) (ts.length + 1) gc)) (fun y => fz y ∨ (w.heap.size + 2 ≤ y ∧ y < W.heap.size ∧ y ≠ pb ∧ v.ownBlock ≠ some y)) a l := fun x a l hk h1 h2 =>
    hk.keep (fun y hy => by obtain ⟨a1, a2, a3⟩ := h1 y hy; exact (hput y (by omega)).trans (hfar y a2 a3)) h2
   by_cases hi : i < ts.length
   ·rw [List.getElem?_append_left hi] at ht
    rw [List.getElem?_append_left (by omega)] at hu
    exact key fz u' t'.kids (hkv i t' u' ht hu) (fun y hy => hfz y (.inl hy)) (fun y hy => .inl hy)
   ·have hi2 : i = ts.length := by
     have := (List.getElem?_eq_some_iff.1 ht).1
     rw [List.length_append] at this
     simp at this
     omega
    subst hi2
    rw [List.getElem?_append_right (by omega)] at ht
    rw [List.getElem?_append_right (by omega)] at hu
    rw [hl] at hu
    simp at ht hu
    subst ht hu
    exact key _ u t.kids h.kids (fun y hy => hfz y (.inr hy)) (fun y hy => .inr hy)
 ·obtain ⟨a1, a2, a3⟩ := hfz x hx
  refine ⟨a1, by rw [xox]; omega, fun e => ?_⟩
  have e2 : g = x := by cases e; rfl
  rcases hat with h1 | h1
  ·rw [e2] at h1; exact a3 h1
  ·omega
 ·refine xee (c := w.heap.size + 1) ?_ (xal _ _ _ _) (by omega)
  refine ⟨hgr.os.trans h.q.gr.os, hgr.tape.trans h.q.gr.tape, hgr.output.trans h.q.gr.output, by have := h.q.gr.size; omega, fun j hj hr => ?_⟩
  have := h.q.gr.size
  exact (hfar j (by omega) (hne j (by omega))).trans (h.q.gr.block j hj hr)
def LL (s : ByteArray) (r : Rd) (P : Ps) (r' : Rd) (ts : List Tr) : Prop := Fails s r.pos 4 P r' ∨ ∃ P' k', Goes s r.pos 4 P r' P' k' ts ∧ xs3 s k' r'.pos
def lenAt : Option Value → Nat
 | some (.slice _ n _) => n
 | _ => 0
theorem QI.len {s : ByteArray} {b : Nat} {w W : World} {r : Rd} {ts : List Tr} {v : Value} {fz : Nat → Prop} (h : QI s b w W r ts v fz) : lenAt (W.cell? ⟨w.heap.size + 1, 8, none⟩) = ts.length := by
 obtain ⟨a, c, rfl⟩ := h.row.shape
 rw [(h.tb.cell 8 _ rfl).1]
 rfl
theorem xqs {w W : World} {b : Nat} {s : ByteArray} {r : Rd} (h : Glob w) (hr : IsRd w b s r) (g : w.grownBy W (some b)) : Glob W := by
 obtain ⟨m, hm⟩ := h
 have hb : b ≠ 1 := fun e => by
  have h0 := (hr.cell 0 _ rfl).1
  rw [e, hm] at h0
  cases h0
 refine ⟨m, ?_⟩
 rw [World.cell?_of_block (a := ⟨1, 0, none⟩) (g.block 1 (World.block_lt_of_cell? w _ hm) (fun e => by cases e; exact hb rfl))]
 exact hm
theorem xtd {s : ByteArray} {r r1 r2 : Rd} {P P1 : Ps} {k1 op : Nat} {ts : List Tr} (h : Goes s r.pos 4 P r1 P1 k1 ts) (hend : r1.pos = s.size) (hin : P.outer ≠ [] ∧ P.top.pos = op) (h1 : r2.e = 10) (h2 : r2.place = op) : Fails s r.pos 4 P r2 := by
 refine ⟨by rw [h1]; decide, ?_⟩
 rw [h.run, xb7 _ _ _ _ (by omega)]
 show (if P1.outer.length = 0 then _ else _) = _
 rw [h.outer, if_neg (fun e => hin.1 (List.length_eq_zero_iff.1 e)), h.top, h1, h2, ← hin.2]
theorem xl8 {s : ByteArray} {r r1 r2 : Rd} {P P1 : Ps} {k1 : Nat} {ts : List Tr} (h : Goes s r.pos 4 P r1 P1 k1 ts) (hsee : seeB s ⟨#[92, 41]⟩ r1.pos = true) (hout : P.outer = []) (h1 : r2.e = 10) (h2 : r2.place = r1.pos) : Fails s r.pos 4 P r2 := by
 have hl : r1.pos + 2 ≤ s.size := xdf hsee
 refine h.fails (xc2 (e := 10) (by omega) (by decide) ?_ h1 h2)
 rw [xl7 (k := k1) hsee]
 have ho : P1.outer = [] := h.outer.trans hout
 simp [Ps.take, ho]
theorem xl9 {s : ByteArray} {r r1 r2 : Rd} {P P1 : Ps} {k1 : Nat} {ts : List Tr} {t : Tr} (h : Goes s r.pos 4 P r1 P1 k1 ts) (hp : PL s r1.pos k1 P1 ts r2 t) (h23 : t.kind = 2 ∨ t.kind = 3) : LL s r P r2 (ts ++ [t]) := by
 rcases hp with hf | ⟨P2, k2, hg, hq, _⟩
 ·exact .inl (h.fails hf)
 ·exact .inr ⟨P2, k2, h.trans hg, (hq h23).2⟩
theorem ll_rl {s : ByteArray} {r1 r2 : Rd} {P1 : Ps} {k1 : Nat} {ts : List Tr} {t : Tr} (hp : PL s r1.pos k1 P1 ts r2 t) (h23 : ¬ (t.kind = 2 ∨ t.kind = 3)) : RL s r1.pos k1 P1 ts r2 t := by
 rcases hp with hf | ⟨P2, k2, hg, _, hr⟩
 ·exact .inl hf
 ·exact .inr ⟨P2, k2, hg, hr h23⟩
theorem ll_rq {s : ByteArray} {r r1 r3 : Rd} {P P1 : Ps} {k1 : Nat} {ts : List Tr} {t : Tr} (h : Goes s r.pos 4 P r1 P1 k1 ts) (hp : RQ s r1.pos k1 P1 ts r3 t) : LL s r P r3 (ts ++ [t]) := by
 rcases hp with hf | ⟨P2, k2, hg, _, hq⟩
 ·exact .inl (h.fails hf)
 ·exact .inr ⟨P2, k2, h.trans hg, hq⟩
theorem row_step (s : ByteArray) (hs : s.size ≤ 512) (b n : Nat) (hrow : xgj s b n) : xgj s b (n + 1) := by
 intro r P inn op w hlt hsim hpt hout hin hI hg
 have hs30 : s.size ≤ 1073741824 := by omega
 obtain ⟨i0, hi0, hz0, hz1, hz2⟩ := info_parts info27
 have hl0 : LL s r P r [] := .inr ⟨P, 4, by have := Goes.start hsim; rw [hpt] at this; exact this, fun h9 => by cases h9⟩
 have hH0 := QI.start hI
 have HG := xab (And.intro hrow (And.intro hsim (And.intro hout (And.intro hin (And.intro hI hg)))))
 clear hrow hsim hout hin hg hpt
 go_enter Tryz.func13, Tryz.ntmps13
 go_upto_region 3 with fail
 obtain ⟨X, hX⟩ : ∃ X, X = (w.alloc (.cells #[.int .i64 0, .int .u64 0, .int .u64 0, .int .u64 0, .int .u64 0, .int .i64 0, .int .i64 0, .int .i64 0, .slice none 0 0] 36)).alloc (.cells #[.int .i64 0, .int .u64 0, .int .u64 0, .int .u64 0, .int .u64 0, .int .i64 0, .int .i64 0, .int .i64 0, .slice none 0 0] 36) := ⟨_, rfl⟩
 rw [← hX] at hH0 ⊢
 clear hX
 go_loopw [8] (fun bg wr => ∃ r' ts v fz bgb, bg = .bool bgb ∧ Hid (QI s b w wr r' ts v fz) ∧ Hid (LL s r P r' ts)) (fun _ wr => 1000 - lenAt (wr.cell? ⟨w.heap.size + 1, 8, none⟩))
 case atStart => exact ⟨r, [], _, _, true, rfl, hH0, hl0⟩
 case round =>
  clear hH0 hl0
  obtain ⟨r1, ts, v, fz, bgb, rfl, HI, HL⟩ := hrel
  obtain ⟨va, vc, rfl⟩ := HI.out.row.shape
  obtain ⟨rc0, rf0⟩ := HI.out.rd.cell 0 _ rfl
  obtain ⟨rc1, rf1⟩ := HI.out.rd.cell 1 _ rfl
  obtain ⟨rc2, rf2⟩ := HI.out.rd.cell 2 _ rfl
  obtain ⟨tc0, tf0⟩ := HI.out.tb.cell 0 _ rfl
  obtain ⟨tc1, tf1⟩ := HI.out.tb.cell 1 _ rfl
  obtain ⟨tc2, tf2⟩ := HI.out.tb.cell 2 _ rfl
  obtain ⟨tc3, tf3⟩ := HI.out.tb.cell 3 _ rfl
  obtain ⟨tc4, tf4⟩ := HI.out.tb.cell 4 _ rfl
  obtain ⟨tc5, tf5⟩ := HI.out.tb.cell 5 _ rfl
  obtain ⟨tc6, tf6⟩ := HI.out.tb.cell 6 _ rfl
  obtain ⟨tc7, tf7⟩ := HI.out.tb.cell 7 _ rfl
  obtain ⟨tc8, tf8⟩ := HI.out.tb.cell 8 _ rfl
  obtain ⟨zc0, zf0⟩ := HI.out.zb.cell 0 _ rfl
  obtain ⟨zc1, zf1⟩ := HI.out.zb.cell 1 _ rfl
  obtain ⟨zc2, zf2⟩ := HI.out.zb.cell 2 _ rfl
  obtain ⟨zc3, zf3⟩ := HI.out.zb.cell 3 _ rfl
  obtain ⟨zc4, zf4⟩ := HI.out.zb.cell 4 _ rfl
  obtain ⟨zc5, zf5⟩ := HI.out.zb.cell 5 _ rfl
  obtain ⟨zc6, zf6⟩ := HI.out.zb.cell 6 _ rfl
  obtain ⟨zc7, zf7⟩ := HI.out.zb.cell 7 _ rfl
  obtain ⟨zc8, zf8⟩ := HI.out.zb.cell 8 _ rfl
  rcases HL.out with hf | ⟨P1, k1, hgo, hq⟩
  ·have he : (r1.e == 0) = false := by rw [beq_eq_false_iff_ne]; exact hf.e
   have HF := xab hf
   clear hf
   go_wp2
   obtain ⟨Y, hY⟩ : ∃ Y, Y = ((((((((wr.setCell ⟨w.heap.size, 0, none⟩ (.int .i64 0)).setCell ⟨w.heap.size, 1, none⟩ (.int .u64 0)).setCell ⟨w.heap.size, 2, none⟩ (.int .u64 0)).setCell ⟨w.heap.size, 3, none⟩ (.int .u64 0)).setCell ⟨w.heap.size, 4, none⟩ (.int .u64 0)).setCell ⟨w.heap.size, 5, none⟩ (.int .i64 0)).setCell ⟨w.heap.size, 6, none⟩ (.int .i64 0)).setCell ⟨w.heap.size, 7, none⟩ (.int .i64 0)).setCell ⟨w.heap.size, 8, none⟩ (.slice va ts.length vc) := ⟨_, rfl⟩
   have hYo : RO s b w (fun _ => False) Y r1 (catT ts) (.slice va ts.length vc) ∧ Blk9 Y w.heap.size [.int .i64 0, .int .u64 0, .int .u64 0, .int .u64 0, .int .u64 0, .int .i64 0, .int .i64 0, .int .i64 0, (.slice va ts.length vc)] := by rw [hY]; exact HI.out.answer
   rw [← hY]
   clear hY
   have o0 := (hYo.2.cell 0 _ rfl).1
   have o1 := (hYo.2.cell 1 _ rfl).1
   have o2 := (hYo.2.cell 2 _ rfl).1
   have o3 := (hYo.2.cell 3 _ rfl).1
   have o4 := (hYo.2.cell 4 _ rfl).1
   have o5 := (hYo.2.cell 5 _ rfl).1
   have o6 := (hYo.2.cell 6 _ rfl).1
   have o7 := (hYo.2.cell 7 _ rfl).1
   have o8 := (hYo.2.cell 8 _ rfl).1
   refine bodyPost_ret (v := .agg #[.int .i64 0, .int .u64 0, .int .u64 0, .int .u64 0, .int .u64 0, .int .i64 0, .int .i64 0, .int .i64 0, (.slice va ts.length vc)]) (by simp [results, Tryz.results13, go_sem, o0, o1, o2, o3, o4, o5, o6, o7, o8]; try rfl) rfl ?_
   exact ⟨r1, ts, (.slice va ts.length vc), rfl, hYo.1, .inl HF.out⟩
  ·rw [hgo.sim.e] at rc2
   have hle := hgo.sim.le
   have hts : ts.length ≤ 512 := by
    have h1 := hgo.sim.well.good.top.2
    rw [hgo.top] at h1
    have h2 : ts.length ≤ r1.pos := h1
    omega
   have HQ := xab (And.intro hgo hq)
   clear hgo hq
   by_cases hend : r1.pos = s.size
   ·have k7 : ((r1.pos : Int) == (s.size : Int)) = true := by rw [beq_iff_eq]; omega
    cases inn with
    | false =>
     have HL2 : Hid (RowL s r P false r1 ts) := xab (.inr (.inl ⟨rfl, hend, P1, k1, HQ.out.1⟩))
     clear hend
     go_wp2_with fail
     go_quiet (fail)
     have HI2 := xab (HI.out.drew nq)
     clear rc0 rf0 rc1 rf1 rc2 rf2 tc0 tf0 tc1 tf1 tc2 tf2 tc3 tf3 tc4 tf4 tc5 tf5 tc6 tf6 tc7 tf7 tc8 tf8 zc0 zf0 zc1 zf1 zc2 zf2 zc3 zf3 zc4 zf4 zc5 zf5 zc6 zf6 zc7 zf7 zc8 zf8
     generalize wr.drewN nq = V5 at *
     obtain ⟨tc0, tf0⟩ := HI2.out.tb.cell 0 _ rfl
     obtain ⟨tc1, tf1⟩ := HI2.out.tb.cell 1 _ rfl
     obtain ⟨tc2, tf2⟩ := HI2.out.tb.cell 2 _ rfl
     obtain ⟨tc3, tf3⟩ := HI2.out.tb.cell 3 _ rfl
     obtain ⟨tc4, tf4⟩ := HI2.out.tb.cell 4 _ rfl
     obtain ⟨tc5, tf5⟩ := HI2.out.tb.cell 5 _ rfl
     obtain ⟨tc6, tf6⟩ := HI2.out.tb.cell 6 _ rfl
     obtain ⟨tc7, tf7⟩ := HI2.out.tb.cell 7 _ rfl
     obtain ⟨tc8, tf8⟩ := HI2.out.tb.cell 8 _ rfl
     obtain ⟨zc0, zf0⟩ := HI2.out.zb.cell 0 _ rfl
     obtain ⟨zc1, zf1⟩ := HI2.out.zb.cell 1 _ rfl
     obtain ⟨zc2, zf2⟩ := HI2.out.zb.cell 2 _ rfl
     obtain ⟨zc3, zf3⟩ := HI2.out.zb.cell 3 _ rfl
     obtain ⟨zc4, zf4⟩ := HI2.out.zb.cell 4 _ rfl
     obtain ⟨zc5, zf5⟩ := HI2.out.zb.cell 5 _ rfl
     obtain ⟨zc6, zf6⟩ := HI2.out.zb.cell 6 _ rfl
     obtain ⟨zc7, zf7⟩ := HI2.out.zb.cell 7 _ rfl
     obtain ⟨zc8, zf8⟩ := HI2.out.zb.cell 8 _ rfl
     go_wp2
     obtain ⟨Y, hY⟩ : ∃ Y, Y = ((((((((V5.setCell ⟨w.heap.size, 0, none⟩ (.int .i64 0)).setCell ⟨w.heap.size, 1, none⟩ (.int .u64 0)).setCell ⟨w.heap.size, 2, none⟩ (.int .u64 0)).setCell ⟨w.heap.size, 3, none⟩ (.int .u64 0)).setCell ⟨w.heap.size, 4, none⟩ (.int .u64 0)).setCell ⟨w.heap.size, 5, none⟩ (.int .i64 0)).setCell ⟨w.heap.size, 6, none⟩ (.int .i64 0)).setCell ⟨w.heap.size, 7, none⟩ (.int .i64 0)).setCell ⟨w.heap.size, 8, none⟩ (.slice va ts.length vc) := ⟨_, rfl⟩
     have hYo : RO s b w (fun _ => False) Y r1 (catT ts) (.slice va ts.length vc) ∧ Blk9 Y w.heap.size [.int .i64 0, .int .u64 0, .int .u64 0, .int .u64 0, .int .u64 0, .int .i64 0, .int .i64 0, .int .i64 0, (.slice va ts.length vc)] := by rw [hY]; exact HI2.out.answer
     rw [← hY]
     clear hY
     have o0 := (hYo.2.cell 0 _ rfl).1
     have o1 := (hYo.2.cell 1 _ rfl).1
     have o2 := (hYo.2.cell 2 _ rfl).1
     have o3 := (hYo.2.cell 3 _ rfl).1
     have o4 := (hYo.2.cell 4 _ rfl).1
     have o5 := (hYo.2.cell 5 _ rfl).1
     have o6 := (hYo.2.cell 6 _ rfl).1
     have o7 := (hYo.2.cell 7 _ rfl).1
     have o8 := (hYo.2.cell 8 _ rfl).1
     refine bodyPost_ret (v := .agg #[.int .i64 0, .int .u64 0, .int .u64 0, .int .u64 0, .int .u64 0, .int .i64 0, .int .i64 0, .int .i64 0, (.slice va ts.length vc)]) (by simp [results, Tryz.results13, go_sem, o0, o1, o2, o3, o4, o5, o6, o7, o8]; try rfl) rfl ?_
     exact ⟨r1, ts, (.slice va ts.length vc), rfl, hYo.1, HL2.out⟩
    | true =>
     have hfe := xc5 HQ.out.1.sim.e 10 op
     have HL2 : Hid (RowL s r P true (if r1.e = 0 then { r1 with e := 10, place := op } else r1) ts) := xab (.inl (xtd HQ.out.1 hend (HG.out.2.2.2.1 rfl) hfe.1 hfe.2))
     clear hend hfe
     go_wp2_with fail
     go_quiet (fail)
     have HI2 := xab (HI.out.drew nq)
     clear rc0 rf0 rc1 rf1 rc2 rf2 tc0 tf0 tc1 tf1 tc2 tf2 tc3 tf3 tc4 tf4 tc5 tf5 tc6 tf6 tc7 tf7 tc8 tf8 zc0 zf0 zc1 zf1 zc2 zf2 zc3 zf3 zc4 zf4 zc5 zf5 zc6 zf6 zc7 zf7 zc8 zf8
     generalize wr.drewN nq = V5 at *
     have hfl := xb6 s r1 b 10 op V5 HI2.out.rd
     generalize (if r1.e = 0 then { r1 with e := 10, place := op } else r1) = rr at *
     go_wp2_with fail
     refine hfl.mono ?_
     rintro e6 w6 ⟨⟨v6, rfl⟩, hI6, hG6⟩
     have HI6 := xab (HI2.out.step hG6 hI6)
     clear hfl hI6 hG6
     obtain ⟨tc0, tf0⟩ := HI6.out.tb.cell 0 _ rfl
     obtain ⟨tc1, tf1⟩ := HI6.out.tb.cell 1 _ rfl
     obtain ⟨tc2, tf2⟩ := HI6.out.tb.cell 2 _ rfl
     obtain ⟨tc3, tf3⟩ := HI6.out.tb.cell 3 _ rfl
     obtain ⟨tc4, tf4⟩ := HI6.out.tb.cell 4 _ rfl
     obtain ⟨tc5, tf5⟩ := HI6.out.tb.cell 5 _ rfl
     obtain ⟨tc6, tf6⟩ := HI6.out.tb.cell 6 _ rfl
     obtain ⟨tc7, tf7⟩ := HI6.out.tb.cell 7 _ rfl
     obtain ⟨tc8, tf8⟩ := HI6.out.tb.cell 8 _ rfl
     obtain ⟨zc0, zf0⟩ := HI6.out.zb.cell 0 _ rfl
     obtain ⟨zc1, zf1⟩ := HI6.out.zb.cell 1 _ rfl
     obtain ⟨zc2, zf2⟩ := HI6.out.zb.cell 2 _ rfl
     obtain ⟨zc3, zf3⟩ := HI6.out.zb.cell 3 _ rfl
     obtain ⟨zc4, zf4⟩ := HI6.out.zb.cell 4 _ rfl
     obtain ⟨zc5, zf5⟩ := HI6.out.zb.cell 5 _ rfl
     obtain ⟨zc6, zf6⟩ := HI6.out.zb.cell 6 _ rfl
     obtain ⟨zc7, zf7⟩ := HI6.out.zb.cell 7 _ rfl
     obtain ⟨zc8, zf8⟩ := HI6.out.zb.cell 8 _ rfl
     go_wp2
     obtain ⟨Y, hY⟩ : ∃ Y, Y = ((((((((w6.setCell ⟨w.heap.size, 0, none⟩ (.int .i64 0)).setCell ⟨w.heap.size, 1, none⟩ (.int .u64 0)).setCell ⟨w.heap.size, 2, none⟩ (.int .u64 0)).setCell ⟨w.heap.size, 3, none⟩ (.int .u64 0)).setCell ⟨w.heap.size, 4, none⟩ (.int .u64 0)).setCell ⟨w.heap.size, 5, none⟩ (.int .i64 0)).setCell ⟨w.heap.size, 6, none⟩ (.int .i64 0)).setCell ⟨w.heap.size, 7, none⟩ (.int .i64 0)).setCell ⟨w.heap.size, 8, none⟩ (.slice va ts.length vc) := ⟨_, rfl⟩
     have hYo : RO s b w (fun _ => False) Y rr (catT ts) (.slice va ts.length vc) ∧ Blk9 Y w.heap.size [.int .i64 0, .int .u64 0, .int .u64 0, .int .u64 0, .int .u64 0, .int .i64 0, .int .i64 0, .int .i64 0, (.slice va ts.length vc)] := by rw [hY]; exact HI6.out.answer
     rw [← hY]
     clear hY
     have o0 := (hYo.2.cell 0 _ rfl).1
     have o1 := (hYo.2.cell 1 _ rfl).1
     have o2 := (hYo.2.cell 2 _ rfl).1
     have o3 := (hYo.2.cell 3 _ rfl).1
     have o4 := (hYo.2.cell 4 _ rfl).1
     have o5 := (hYo.2.cell 5 _ rfl).1
     have o6 := (hYo.2.cell 6 _ rfl).1
     have o7 := (hYo.2.cell 7 _ rfl).1
     have o8 := (hYo.2.cell 8 _ rfl).1
     refine bodyPost_ret (v := .agg #[.int .i64 0, .int .u64 0, .int .u64 0, .int .u64 0, .int .u64 0, .int .i64 0, .int .i64 0, .int .i64 0, (.slice va ts.length vc)]) (by simp [results, Tryz.results13, go_sem, o0, o1, o2, o3, o4, o5, o6, o7, o8]; try rfl) rfl ?_
     exact ⟨rr, ts, (.slice va ts.length vc), rfl, hYo.1, HL2.out⟩
   ·have k7 : ((r1.pos : Int) == (s.size : Int)) = false := by rw [beq_eq_false_iff_ne]; omega
    have hlt1 : r1.pos < s.size := by omega
    clear hend
    go_wp2_with fail
    go_quiet (fail)
    have HI2 := xab (HI.out.drew nq)
    clear rc0 rf0 rc1 rf1 rc2 rf2 tc0 tf0 tc1 tf1 tc2 tf2 tc3 tf3 tc4 tf4 tc5 tf5 tc6 tf6 tc7 tf7 tc8 tf8 zc0 zf0 zc1 zf1 zc2 zf2 zc3 zf3 zc4 zf4 zc5 zf5 zc6 zf6 zc7 zf7 zc8 zf8
    generalize wr.drewN nq = V5 at *
    have hS := xa0 s ⟨#[92, 41]⟩ hs30 (by decide) r1 hle b V5 HI2.out.rd
    go_wp2_with fail
    refine hS.mono ?_
    rintro e6 w6 ⟨rfl, n6, rfl⟩
    have HI6 := xab (HI2.out.drew n6)
    clear hS
    generalize V5.drewN n6 = W6 at *
    obtain ⟨rc0, rf0⟩ := HI6.out.rd.cell 0 _ rfl
    obtain ⟨rc1, rf1⟩ := HI6.out.rd.cell 1 _ rfl
    obtain ⟨rc2, rf2⟩ := HI6.out.rd.cell 2 _ rfl
    obtain ⟨tc0, tf0⟩ := HI6.out.tb.cell 0 _ rfl
    obtain ⟨tc1, tf1⟩ := HI6.out.tb.cell 1 _ rfl
    obtain ⟨tc2, tf2⟩ := HI6.out.tb.cell 2 _ rfl
    obtain ⟨tc3, tf3⟩ := HI6.out.tb.cell 3 _ rfl
    obtain ⟨tc4, tf4⟩ := HI6.out.tb.cell 4 _ rfl
    obtain ⟨tc5, tf5⟩ := HI6.out.tb.cell 5 _ rfl
    obtain ⟨tc6, tf6⟩ := HI6.out.tb.cell 6 _ rfl
    obtain ⟨tc7, tf7⟩ := HI6.out.tb.cell 7 _ rfl
    obtain ⟨tc8, tf8⟩ := HI6.out.tb.cell 8 _ rfl
    obtain ⟨zc0, zf0⟩ := HI6.out.zb.cell 0 _ rfl
    obtain ⟨zc1, zf1⟩ := HI6.out.zb.cell 1 _ rfl
    obtain ⟨zc2, zf2⟩ := HI6.out.zb.cell 2 _ rfl
    obtain ⟨zc3, zf3⟩ := HI6.out.zb.cell 3 _ rfl
    obtain ⟨zc4, zf4⟩ := HI6.out.zb.cell 4 _ rfl
    obtain ⟨zc5, zf5⟩ := HI6.out.zb.cell 5 _ rfl
    obtain ⟨zc6, zf6⟩ := HI6.out.zb.cell 6 _ rfl
    obtain ⟨zc7, zf7⟩ := HI6.out.zb.cell 7 _ rfl
    obtain ⟨zc8, zf8⟩ := HI6.out.zb.cell 8 _ rfl
    cases hsee : seeB s ⟨#[92, 41]⟩ r1.pos with
    | true =>
     have k8 : IntKind.i64.wrap ((r1.pos : Int) + 2) = (r1.pos : Int) + 2 := by rw [IntKind.wrap_i64]; omega
     cases inn with
     | true =>
      have HL2 : Hid (RowL s r P true { r1 with pos := r1.pos + 2 } ts) := xab (.inr (.inr ⟨rfl, r1.pos, P1, k1, rfl, HQ.out.1, hsee⟩))
      clear hsee
      go_upto_region 12 with fail
      obtain ⟨V7, hV7⟩ : ∃ V7, V7 = W6.setCell ⟨b, 1, none⟩ (.int .i64 ((r1.pos : Int) + 2)) := ⟨_, rfl⟩
      have HI7 : Hid (QI s b w V7 { r1 with pos := r1.pos + 2 } ts (.slice va ts.length vc) fz) := by rw [hV7]; exact HI6.out.place (r1.pos + 2)
      rw [← hV7]
      clear hV7 rc0 rf0 rc1 rf1 rc2 rf2 tc0 tf0 tc1 tf1 tc2 tf2 tc3 tf3 tc4 tf4 tc5 tf5 tc6 tf6 tc7 tf7 tc8 tf8 zc0 zf0 zc1 zf1 zc2 zf2 zc3 zf3 zc4 zf4 zc5 zf5 zc6 zf6 zc7 zf7 zc8 zf8
      obtain ⟨tc0, tf0⟩ := HI7.out.tb.cell 0 _ rfl
      obtain ⟨tc1, tf1⟩ := HI7.out.tb.cell 1 _ rfl
      obtain ⟨tc2, tf2⟩ := HI7.out.tb.cell 2 _ rfl
      obtain ⟨tc3, tf3⟩ := HI7.out.tb.cell 3 _ rfl
      obtain ⟨tc4, tf4⟩ := HI7.out.tb.cell 4 _ rfl
      obtain ⟨tc5, tf5⟩ := HI7.out.tb.cell 5 _ rfl
      obtain ⟨tc6, tf6⟩ := HI7.out.tb.cell 6 _ rfl
      obtain ⟨tc7, tf7⟩ := HI7.out.tb.cell 7 _ rfl
      obtain ⟨tc8, tf8⟩ := HI7.out.tb.cell 8 _ rfl
      obtain ⟨zc0, zf0⟩ := HI7.out.zb.cell 0 _ rfl
      obtain ⟨zc1, zf1⟩ := HI7.out.zb.cell 1 _ rfl
      obtain ⟨zc2, zf2⟩ := HI7.out.zb.cell 2 _ rfl
      obtain ⟨zc3, zf3⟩ := HI7.out.zb.cell 3 _ rfl
      obtain ⟨zc4, zf4⟩ := HI7.out.zb.cell 4 _ rfl
      obtain ⟨zc5, zf5⟩ := HI7.out.zb.cell 5 _ rfl
      obtain ⟨zc6, zf6⟩ := HI7.out.zb.cell 6 _ rfl
      obtain ⟨zc7, zf7⟩ := HI7.out.zb.cell 7 _ rfl
      obtain ⟨zc8, zf8⟩ := HI7.out.zb.cell 8 _ rfl
      go_wp2
      obtain ⟨Y, hY⟩ : ∃ Y, Y = ((((((((V7.setCell ⟨w.heap.size, 0, none⟩ (.int .i64 0)).setCell ⟨w.heap.size, 1, none⟩ (.int .u64 0)).setCell ⟨w.heap.size, 2, none⟩ (.int .u64 0)).setCell ⟨w.heap.size, 3, none⟩ (.int .u64 0)).setCell ⟨w.heap.size, 4, none⟩ (.int .u64 0)).setCell ⟨w.heap.size, 5, none⟩ (.int .i64 0)).setCell ⟨w.heap.size, 6, none⟩ (.int .i64 0)).setCell ⟨w.heap.size, 7, none⟩ (.int .i64 0)).setCell ⟨w.heap.size, 8, none⟩ (.slice va ts.length vc) := ⟨_, rfl⟩
      have hYo : RO s b w (fun _ => False) Y { r1 with pos := r1.pos + 2 } (catT ts) (.slice va ts.length vc) ∧ Blk9 Y w.heap.size [.int .i64 0, .int .u64 0, .int .u64 0, .int .u64 0, .int .u64 0, .int .i64 0, .int .i64 0, .int .i64 0, (.slice va ts.length vc)] := by rw [hY]; exact HI7.out.answer
      rw [← hY]
      clear hY
      have o0 := (hYo.2.cell 0 _ rfl).1
      have o1 := (hYo.2.cell 1 _ rfl).1
      have o2 := (hYo.2.cell 2 _ rfl).1
      have o3 := (hYo.2.cell 3 _ rfl).1
      have o4 := (hYo.2.cell 4 _ rfl).1
      have o5 := (hYo.2.cell 5 _ rfl).1
      have o6 := (hYo.2.cell 6 _ rfl).1
      have o7 := (hYo.2.cell 7 _ rfl).1
      have o8 := (hYo.2.cell 8 _ rfl).1
      refine bodyPost_ret (v := .agg #[.int .i64 0, .int .u64 0, .int .u64 0, .int .u64 0, .int .u64 0, .int .i64 0, .int .i64 0, .int .i64 0, (.slice va ts.length vc)]) (by simp [results, Tryz.results13, go_sem, o0, o1, o2, o3, o4, o5, o6, o7, o8]; try rfl) rfl ?_
      exact ⟨{ r1 with pos := r1.pos + 2 }, ts, (.slice va ts.length vc), rfl, hYo.1, HL2.out⟩
     | false =>
      have hfe := xc5 HQ.out.1.sim.e 10 r1.pos
      have HL2 : Hid (Fails s r.pos 4 P (if r1.e = 0 then { r1 with e := 10, place := r1.pos } else r1)) := xab (xl8 HQ.out.1 hsee (HG.out.2.2.1 rfl) hfe.1 hfe.2)
      have hrp : (if r1.e = 0 then { r1 with e := 10, place := r1.pos } else r1 : Rd).pos = r1.pos := by split <;> rfl
      clear hsee hfe
      have hfl := xb6 s r1 b 10 r1.pos W6 HI6.out.rd
      generalize (if r1.e = 0 then { r1 with e := 10, place := r1.pos } else r1) = rr at *
      go_wp2_with fail
      refine hfl.mono ?_
      rintro e8 w8 ⟨⟨v8, rfl⟩, hI8, hG8⟩
      have HI8 := xab (HI6.out.step hG8 hI8)
      clear hfl hI8 hG8 rc0 rf0 rc1 rf1 rc2 rf2 tc0 tf0 tc1 tf1 tc2 tf2 tc3 tf3 tc4 tf4 tc5 tf5 tc6 tf6 tc7 tf7 tc8 tf8 zc0 zf0 zc1 zf1 zc2 zf2 zc3 zf3 zc4 zf4 zc5 zf5 zc6 zf6 zc7 zf7 zc8 zf8
      obtain ⟨rc1, rf1⟩ := HI8.out.rd.cell 1 _ rfl
      rw [hrp] at rc1
      go_upto_region 12 with fail
      obtain ⟨V7, hV7⟩ : ∃ V7, V7 = w8.setCell ⟨b, 1, none⟩ (.int .i64 ((r1.pos : Int) + 2)) := ⟨_, rfl⟩
      have HI7 : Hid (QI s b w V7 { rr with pos := r1.pos + 2 } ts (.slice va ts.length vc) fz) := by rw [hV7]; exact HI8.out.place (r1.pos + 2)
      rw [← hV7]
      clear hV7 rc1 rf1
      obtain ⟨tc0, tf0⟩ := HI7.out.tb.cell 0 _ rfl
      obtain ⟨tc1, tf1⟩ := HI7.out.tb.cell 1 _ rfl
      obtain ⟨tc2, tf2⟩ := HI7.out.tb.cell 2 _ rfl
      obtain ⟨tc3, tf3⟩ := HI7.out.tb.cell 3 _ rfl
      obtain ⟨tc4, tf4⟩ := HI7.out.tb.cell 4 _ rfl
      obtain ⟨tc5, tf5⟩ := HI7.out.tb.cell 5 _ rfl
      obtain ⟨tc6, tf6⟩ := HI7.out.tb.cell 6 _ rfl
      obtain ⟨tc7, tf7⟩ := HI7.out.tb.cell 7 _ rfl
      obtain ⟨tc8, tf8⟩ := HI7.out.tb.cell 8 _ rfl
      obtain ⟨zc0, zf0⟩ := HI7.out.zb.cell 0 _ rfl
      obtain ⟨zc1, zf1⟩ := HI7.out.zb.cell 1 _ rfl
      obtain ⟨zc2, zf2⟩ := HI7.out.zb.cell 2 _ rfl
      obtain ⟨zc3, zf3⟩ := HI7.out.zb.cell 3 _ rfl
      obtain ⟨zc4, zf4⟩ := HI7.out.zb.cell 4 _ rfl
      obtain ⟨zc5, zf5⟩ := HI7.out.zb.cell 5 _ rfl
      obtain ⟨zc6, zf6⟩ := HI7.out.zb.cell 6 _ rfl
      obtain ⟨zc7, zf7⟩ := HI7.out.zb.cell 7 _ rfl
      obtain ⟨zc8, zf8⟩ := HI7.out.zb.cell 8 _ rfl
      go_wp2
      obtain ⟨Y, hY⟩ : ∃ Y, Y = ((((((((V7.setCell ⟨w.heap.size, 0, none⟩ (.int .i64 0)).setCell ⟨w.heap.size, 1, none⟩ (.int .u64 0)).setCell ⟨w.heap.size, 2, none⟩ (.int .u64 0)).setCell ⟨w.heap.size, 3, none⟩ (.int .u64 0)).setCell ⟨w.heap.size, 4, none⟩ (.int .u64 0)).setCell ⟨w.heap.size, 5, none⟩ (.int .i64 0)).setCell ⟨w.heap.size, 6, none⟩ (.int .i64 0)).setCell ⟨w.heap.size, 7, none⟩ (.int .i64 0)).setCell ⟨w.heap.size, 8, none⟩ (.slice va ts.length vc) := ⟨_, rfl⟩
      have hYo : RO s b w (fun _ => False) Y { rr with pos := r1.pos + 2 } (catT ts) (.slice va ts.length vc) ∧ Blk9 Y w.heap.size [.int .i64 0, .int .u64 0, .int .u64 0, .int .u64 0, .int .u64 0, .int .i64 0, .int .i64 0, .int .i64 0, (.slice va ts.length vc)] := by rw [hY]; exact HI7.out.answer
      rw [← hY]
      clear hY
      have o0 := (hYo.2.cell 0 _ rfl).1
      have o1 := (hYo.2.cell 1 _ rfl).1
      have o2 := (hYo.2.cell 2 _ rfl).1
      have o3 := (hYo.2.cell 3 _ rfl).1
      have o4 := (hYo.2.cell 4 _ rfl).1
      have o5 := (hYo.2.cell 5 _ rfl).1
      have o6 := (hYo.2.cell 6 _ rfl).1
      have o7 := (hYo.2.cell 7 _ rfl).1
      have o8 := (hYo.2.cell 8 _ rfl).1
      refine bodyPost_ret (v := .agg #[.int .i64 0, .int .u64 0, .int .u64 0, .int .u64 0, .int .u64 0, .int .i64 0, .int .i64 0, .int .i64 0, (.slice va ts.length vc)]) (by simp [results, Tryz.results13, go_sem, o0, o1, o2, o3, o4, o5, o6, o7, o8]; try rfl) rfl ?_
      exact ⟨{ rr with pos := r1.pos + 2 }, ts, (.slice va ts.length vc), rfl, hYo.1, .inl (HL2.out.keep rfl rfl)⟩
    | false =>
     have hff : ((ts.length : Int) == 0) = decide (k1 = 4) := by
      by_cases h4 : k1 = 4
      ·have h5 := HQ.out.1.sim.one h4
       rw [HQ.out.1.top] at h5
       have h6 : ts = [] := h5
       rw [h6, decide_eq_true h4]; rfl
      ·have h5 := HQ.out.1.sim.well.parts h4
       rw [HQ.out.1.top] at h5
       have h6 : ts ≠ [] := h5
       rw [decide_eq_false h4, beq_eq_false_iff_ne]
       have : ts.length ≠ 0 := fun e => h6 (List.length_eq_zero_iff.1 e)
       omega
     have hpa := part_any s hs b r1 P1 k1 ts HQ.out.1.sim (by rw [HQ.out.1.top]) hlt1 W6 HI6.out.rd ((ts.length : Int) == 0) bgb n HG.out.1 (by have h1 := HQ.out.1.on; omega) (xqs HG.out.2.2.2.2.2 HG.out.2.2.2.2.1 HI6.out.gr) hsee HQ.out.2 hff
     clear hff hsee
     go_wp2_with fail
     refine hpa.mono ?_
     rintro e7 w7 ⟨r2, t, u, rfl, hO, hPL⟩
     obtain ⟨ua, uc, rfl⟩ := xba hO.kids
     obtain ⟨V7, hV7⟩ : ∃ V7, V7 = w7.alloc (.cells #[.int .i64 t.kind, .int .u64 (wd t.q 0), .int .u64 (wd t.q 1), .int .u64 (wd t.q 2), .int .u64 (wd t.q 3), .int .i64 t.lo, .int .i64 t.hi, .int .i64 t.grp, .slice ua t.kids.length uc] 36) := ⟨_, rfl⟩
     have HP : Hid (QP s b w V7 r2 ts (.slice va ts.length vc) fz w7.heap.size t (.slice ua t.kids.length uc)) := by rw [hV7]; exact HI6.out.part hO
     have HPL := xab hPL
     clear hpa hO hPL rc0 rf0 rc1 rf1 rc2 rf2 tc0 tf0 tc1 tf1 tc2 tf2 tc3 tf3 tc4 tf4 tc5 tf5 tc6 tf6 tc7 tf7 tc8 tf8 zc0 zf0 zc1 zf1 zc2 zf2 zc3 zf3 zc4 zf4 zc5 zf5 zc6 zf6 zc7 zf7 zc8 zf8
     go_upto_region 14 with fail
     rw [← hV7]
     clear hV7
     obtain ⟨pc0, pf0⟩ := HP.out.blk.cell 0 _ rfl
     obtain ⟨pc1, pf1⟩ := HP.out.blk.cell 1 _ rfl
     obtain ⟨pc2, pf2⟩ := HP.out.blk.cell 2 _ rfl
     obtain ⟨pc3, pf3⟩ := HP.out.blk.cell 3 _ rfl
     obtain ⟨pc4, pf4⟩ := HP.out.blk.cell 4 _ rfl
     obtain ⟨pc5, pf5⟩ := HP.out.blk.cell 5 _ rfl
     obtain ⟨pc6, pf6⟩ := HP.out.blk.cell 6 _ rfl
     obtain ⟨pc7, pf7⟩ := HP.out.blk.cell 7 _ rfl
     obtain ⟨pc8, pf8⟩ := HP.out.blk.cell 8 _ rfl
     by_cases a2 : t.kind = 2
     ·have e2 : ((t.kind : Int) != 2) = false := by rw [bne_eq_false_iff_eq]; omega
      have HL3 : Hid (LL s r P r2 (ts ++ [t])) := xab (xl9 HQ.out.1 HPL.out (.inl a2))
      clear a2
      obtain ⟨vs, hvl, hvo, hvk⟩ := HP.out.q.row
      have HVV := xab (And.intro hvl (And.intro hvo hvk))
      have htl := HP.out.q.tb.lt
      have hne5 : ∀ x, (Value.slice va ts.length vc).ownBlock = some x → w.heap.size + 2 ≤ x := fun x hx => (HP.out.q.row.own hx).1
      obtain ⟨tc8, tf8⟩ := HP.out.q.tb.cell 8 _ rfl
      have HTL := xab (And.intro htl hne5)
      clear hvl hvo hvk htl hne5
      go_wp2_with (first | (at_builtin; refine wpList_append_lies _ rfl _ _ 34 rfl (w.heap.size + 2) 36 i0 (.agg #[.int .i64 0, .int .u64 0, .int .u64 0, .int .u64 0, .int .u64 0, .int .i64 0, .int .i64 0, .int .i64 0, .slice none 0 0]) 9 88 und25 hi0 hz0 hz1 hz2 rfl (by omega) _ _ _ rfl (HVV.out.2.1.alloc _) ⟨V7.heap.size, 0, none⟩ 1 1 (xbf t (.slice ua t.kids.length uc)) rfl rfl (World.news_of_block (heap_alloc_new V7 _)) (by intro x hx; simp [xbf] at hx; rcases hx with hx | hx | hx | hx | hx | hx | hx | hx | hx <;> subst hx <;> rfl) (by omega) (by unfold maxLen; omega) (by omega) (by have := HTL.out.1; simp; omega) (V7.heap.size + 1) (by simp) ?_; intro g gc w5 hown5 hgr5 hat5 hlt5; obtain ⟨tc8, tf8⟩ := (HP.out.q.tb.far ((hgr5.block (w.heap.size + 1) (by have := HTL.out.1; rw [World.size_alloc]; omega) (fun e => by have := HTL.out.2 _ e.symm; omega)).trans (Below.heap_alloc _ _ _ HTL.out.1))).cell 8 _ rfl))
      have HQ := xab (HP.out.app HVV.out.1 HVV.out.2.2 hown5 hgr5 hat5 hlt5)
      clear hown5 hgr5 hat5 hlt5 tc8 tf8 pc0 pf0 pc1 pf1 pc2 pf2 pc3 pf3 pc4 pf4 pc5 pf5 pc6 pf6 pc7 pf7 pc8 pf8
      exact ⟨⟨_, _, _, _, bgb, rfl, HQ, HL3⟩, by rw [HQ.out.len, HI.out.len, List.length_append]; simp; omega⟩
     by_cases a3 : t.kind = 3
     ·have e2 : ((t.kind : Int) != 2) = true := by rw [bne_iff_ne]; omega
      have e3 : ((t.kind : Int) != 3) = false := by rw [bne_eq_false_iff_eq]; omega
      have HL3 : Hid (LL s r P r2 (ts ++ [t])) := xab (xl9 HQ.out.1 HPL.out (.inr a3))
      clear a2 a3
      obtain ⟨vs, hvl, hvo, hvk⟩ := HP.out.q.row
      have HVV := xab (And.intro hvl (And.intro hvo hvk))
      have htl := HP.out.q.tb.lt
      have hne5 : ∀ x, (Value.slice va ts.length vc).ownBlock = some x → w.heap.size + 2 ≤ x := fun x hx => (HP.out.q.row.own hx).1
      obtain ⟨tc8, tf8⟩ := HP.out.q.tb.cell 8 _ rfl
      have HTL := xab (And.intro htl hne5)
      clear hvl hvo hvk htl hne5
      go_wp2_with (first | (at_builtin; refine wpList_append_lies _ rfl _ _ 34 rfl (w.heap.size + 2) 36 i0 (.agg #[.int .i64 0, .int .u64 0, .int .u64 0, .int .u64 0, .int .u64 0, .int .i64 0, .int .i64 0, .int .i64 0, .slice none 0 0]) 9 88 und25 hi0 hz0 hz1 hz2 rfl (by omega) _ _ _ rfl (HVV.out.2.1.alloc _) ⟨V7.heap.size, 0, none⟩ 1 1 (xbf t (.slice ua t.kids.length uc)) rfl rfl (World.news_of_block (heap_alloc_new V7 _)) (by intro x hx; simp [xbf] at hx; rcases hx with hx | hx | hx | hx | hx | hx | hx | hx | hx <;> subst hx <;> rfl) (by omega) (by unfold maxLen; omega) (by omega) (by have := HTL.out.1; simp; omega) (V7.heap.size + 1) (by simp) ?_; intro g gc w5 hown5 hgr5 hat5 hlt5; obtain ⟨tc8, tf8⟩ := (HP.out.q.tb.far ((hgr5.block (w.heap.size + 1) (by have := HTL.out.1; rw [World.size_alloc]; omega) (fun e => by have := HTL.out.2 _ e.symm; omega)).trans (Below.heap_alloc _ _ _ HTL.out.1))).cell 8 _ rfl))
      have HQ := xab (HP.out.app HVV.out.1 HVV.out.2.2 hown5 hgr5 hat5 hlt5)
      clear hown5 hgr5 hat5 hlt5 tc8 tf8 pc0 pf0 pc1 pf1 pc2 pf2 pc3 pf3 pc4 pf4 pc5 pf5 pc6 pf6 pc7 pf7 pc8 pf8
      exact ⟨⟨_, _, _, _, bgb, rfl, HQ, HL3⟩, by rw [HQ.out.len, HI.out.len, List.length_append]; simp; omega⟩
     have e2 : ((t.kind : Int) != 2) = true := by rw [bne_iff_ne]; omega
     have e3 : ((t.kind : Int) != 3) = true := by rw [bne_iff_ne]; omega
     have hrep := xn3 s hs b r1.pos k1 P1 ts V7 _ (fun g hg => by have := HI.out.old; omega) r2 t _ HP.out.q.rd HP.out.kids (ll_rl HPL.out (by omega))
     clear a2 a3
     go_wp2_with fail
     refine hrep.mono ?_
     rintro e9 w9 ⟨r3, t3, u3, rfl, hO3, hQ3⟩
     obtain ⟨u3a, u3c, rfl⟩ := xba hO3.kids
     obtain ⟨V9, hV9⟩ : ∃ V9, V9 = ((((((((w9.setCell ⟨w7.heap.size, 0, none⟩ (.int .i64 t3.kind)).setCell ⟨w7.heap.size, 1, none⟩ (.int .u64 (wd t3.q 0))).setCell ⟨w7.heap.size, 2, none⟩ (.int .u64 (wd t3.q 1))).setCell ⟨w7.heap.size, 3, none⟩ (.int .u64 (wd t3.q 2))).setCell ⟨w7.heap.size, 4, none⟩ (.int .u64 (wd t3.q 3))).setCell ⟨w7.heap.size, 5, none⟩ (.int .i64 t3.lo)).setCell ⟨w7.heap.size, 6, none⟩ (.int .i64 t3.hi)).setCell ⟨w7.heap.size, 7, none⟩ (.int .i64 t3.grp)).setCell ⟨w7.heap.size, 8, none⟩ (.slice u3a t3.kids.length u3c) := ⟨_, rfl⟩
     have HP9 : Hid (QP s b w V9 r3 ts (.slice va ts.length vc) fz w7.heap.size t3 (.slice u3a t3.kids.length u3c)) := by rw [hV9]; exact HP.out.repeats (fun _ hg => hg) hO3
     have hb9 : Blk9 w9 w7.heap.size (xbf t (.slice ua t.kids.length uc)) := HP.out.blk.far (hO3.gr.block _ HP.out.blk.lt (fun e => by have h1 := HI.out.old; have h2 := HP.out.hpb; cases e; omega))
     have HL9 : Hid (LL s r P r3 (ts ++ [t3])) := xab (ll_rq HQ.out.1 hQ3)
     clear hrep hO3 hQ3 pc0 pf0 pc1 pf1 pc2 pf2 pc3 pf3 pc4 pf4 pc5 pf5 pc6 pf6 pc7 pf7 pc8 pf8
     obtain ⟨pc0, pf0⟩ := hb9.cell 0 _ rfl
     obtain ⟨pc1, pf1⟩ := hb9.cell 1 _ rfl
     obtain ⟨pc2, pf2⟩ := hb9.cell 2 _ rfl
     obtain ⟨pc3, pf3⟩ := hb9.cell 3 _ rfl
     obtain ⟨pc4, pf4⟩ := hb9.cell 4 _ rfl
     obtain ⟨pc5, pf5⟩ := hb9.cell 5 _ rfl
     obtain ⟨pc6, pf6⟩ := hb9.cell 6 _ rfl
     obtain ⟨pc7, pf7⟩ := hb9.cell 7 _ rfl
     obtain ⟨pc8, pf8⟩ := hb9.cell 8 _ rfl
     go_upto_region 16 with fail
     rw [← hV9]
     clear hV9 hb9 pc0 pf0 pc1 pf1 pc2 pf2 pc3 pf3 pc4 pf4 pc5 pf5 pc6 pf6 pc7 pf7 pc8 pf8
     obtain ⟨pc0, pf0⟩ := HP9.out.blk.cell 0 _ rfl
     obtain ⟨pc1, pf1⟩ := HP9.out.blk.cell 1 _ rfl
     obtain ⟨pc2, pf2⟩ := HP9.out.blk.cell 2 _ rfl
     obtain ⟨pc3, pf3⟩ := HP9.out.blk.cell 3 _ rfl
     obtain ⟨pc4, pf4⟩ := HP9.out.blk.cell 4 _ rfl
     obtain ⟨pc5, pf5⟩ := HP9.out.blk.cell 5 _ rfl
     obtain ⟨pc6, pf6⟩ := HP9.out.blk.cell 6 _ rfl
     obtain ⟨pc7, pf7⟩ := HP9.out.blk.cell 7 _ rfl
     obtain ⟨pc8, pf8⟩ := HP9.out.blk.cell 8 _ rfl
     obtain ⟨vs, hvl, hvo, hvk⟩ := HP9.out.q.row
     have HVV := xab (And.intro hvl (And.intro hvo hvk))
     have htl := HP9.out.q.tb.lt
     have hne5 : ∀ x, (Value.slice va ts.length vc).ownBlock = some x → w.heap.size + 2 ≤ x := fun x hx => (HP9.out.q.row.own hx).1
     obtain ⟨tc8, tf8⟩ := HP9.out.q.tb.cell 8 _ rfl
     have HTL := xab (And.intro htl hne5)
     clear hvl hvo hvk htl hne5
     go_wp2_with (first | (at_builtin; refine wpList_append_lies _ rfl _ _ 34 rfl (w.heap.size + 2) 36 i0 (.agg #[.int .i64 0, .int .u64 0, .int .u64 0, .int .u64 0, .int .u64 0, .int .i64 0, .int .i64 0, .int .i64 0, .slice none 0 0]) 9 88 und25 hi0 hz0 hz1 hz2 rfl (by omega) _ _ _ rfl (HVV.out.2.1.alloc _) ⟨V9.heap.size, 0, none⟩ 1 1 (xbf t3 (.slice u3a t3.kids.length u3c)) rfl rfl (World.news_of_block (heap_alloc_new V9 _)) (by intro x hx; simp [xbf] at hx; rcases hx with hx | hx | hx | hx | hx | hx | hx | hx | hx <;> subst hx <;> rfl) (by omega) (by unfold maxLen; omega) (by omega) (by have := HTL.out.1; simp; omega) (V9.heap.size + 1) (by simp) ?_; intro g gc w5 hown5 hgr5 hat5 hlt5; obtain ⟨tc8, tf8⟩ := (HP9.out.q.tb.far ((hgr5.block (w.heap.size + 1) (by have := HTL.out.1; rw [World.size_alloc]; omega) (fun e => by have := HTL.out.2 _ e.symm; omega)).trans (Below.heap_alloc _ _ _ HTL.out.1))).cell 8 _ rfl))
     have HQ := xab (HP9.out.app HVV.out.1 HVV.out.2.2 hown5 hgr5 hat5 hlt5)
     clear hown5 hgr5 hat5 hlt5 tc8 tf8 pc0 pf0 pc1 pf1 pc2 pf2 pc3 pf3 pc4 pf4 pc5 pf5 pc6 pf6 pc7 pf7 pc8 pf8
     exact ⟨⟨_, _, _, _, false, rfl, HQ, HL9⟩, by rw [HQ.out.len, HI.out.len, List.length_append]; simp; omega⟩
theorem xte (s : ByteArray) (hs : s.size ≤ 512) (b : Nat) : ∀ n, xgj s b n
 | 0 => fun _ _ _ _ _ h => absurd h (Nat.not_lt_zero _)
 | n + 1 => row_step s hs b n (xte s hs b n)
def Rd.start : Rd := ⟨0, 0, 0, 0, fun _ => false, 0⟩
theorem xtf (s : ByteArray) : Sim s Rd.start Ps.start 4 := ⟨rfl, rfl, rfl, rfl, Nat.zero_le _, xed, fun _ => rfl⟩
def xn8 (s : ByteArray) (w : World) (e : Ending) (w' : World) : Prop :=
 Below w.heap.size w w' ∧ ((∃ er p, xav s = .error (er, p) ∧ e = .returned (.tuple #[.agg #[.int .i64 0, .int .u64 0, .int .u64 0, .int .u64 0, .int .u64 0, .int .i64 0, .int .i64 0, .int .i64 0, .slice none 0 0], .int .i64 er, .int .i64 (p : Nat)])) ∨
  ∃ ts a n c, xav s = .ok ts ∧ e = .returned (.tuple #[.agg #[.int .i64 0, .int .u64 0, .int .u64 0, .int .u64 0, .int .u64 0, .int .i64 0, .int .i64 0, .int .i64 0, .slice a n c], .int .i64 0, .int .i64 0]) ∧ Kids w' (fun g => w.heap.size ≤ g) (.slice a n c) ts)
theorem xtg {s : ByteArray} (hs : s.size ≤ 512) {r' : Rd} {ts : List Tr} (h : RowL s Rd.start Ps.start false r' ts) : (r'.e ≠ 0 ∧ xav s = .error (r'.e, r'.place)) ∨ (r'.e = 0 ∧ xav s = .ok ts) := by
 rcases h with hf | ⟨_, hp, P', k', hg⟩ | ⟨h1, _⟩
 ·exact .inl ⟨hf.e, (xe5 s hs).trans hf.run⟩
 ·refine .inr ⟨hg.sim.e, ?_⟩
  have hr : runA s 0 4 Ps.start = runA s r'.pos k' P' := hg.run
  rw [xe5 s hs, hr, xb7 _ _ _ _ (by omega)]
  show (if P'.outer.length = 0 then _ else _) = _
  rw [hg.outer, hg.top]
  rfl
 ·cases h1
theorem xkr (s : ByteArray) (hl : 512 < s.size) (w : World) : Calls Tryz.prog 8 #[.string s] w (xn8 s w) := by
 have k1 : (512 : Int) < (s.size : Int) := by omega
 have hp : xav s = .error (2, 0) := by unfold xav; rw [if_pos (by omega)]
 go_enter Tryz.func8, Tryz.ntmps8
 go_wp2
 refine bodyPost_ret (v := .tuple #[.agg #[.int .i64 0, .int .u64 0, .int .u64 0, .int .u64 0, .int .u64 0, .int .i64 0, .int .i64 0, .int .i64 0, .slice none 0 0], .int .i64 2, .int .i64 0]) (by simp [results, Tryz.results8, go_sem]; try rfl) rfl ?_
 exact ⟨(Below.refl _ _).alloc (Nat.le_refl _) _, .inl ⟨2, 0, hp, rfl⟩⟩
theorem xma (s : ByteArray) (hs : s.size ≤ 512) (w : World) (hg : Glob w) : Calls Tryz.prog 8 #[.string s] w (xn8 s w) := by
 have k1 : ((512 : Int) < (s.size : Int)) = False := eq_false (by omega)
 go_enter Tryz.func8, Tryz.ntmps8
 obtain ⟨X, hX⟩ : ∃ X, X = (w.alloc (.cells #[.int .i64 0, .int .u64 0, .int .u64 0, .int .u64 0, .int .u64 0, .int .i64 0, .int .i64 0, .int .i64 0, .slice none 0 0] 36)).alloc (.cells #[.string s, .int .i64 0, .int .i64 0, .int .i64 0, .int .i64 0, .bool false, .bool false, .bool false, .bool false, .bool false, .bool false, .bool false, .bool false, .bool false, .bool false, .int .i64 0] 49) := ⟨_, rfl⟩
 have hXs : X.heap.size = w.heap.size + 1 + 1 := by rw [hX, World.size_alloc, World.size_alloc]
 have hBX : Below w.heap.size w X := by rw [hX]; exact ((Below.refl _ _).alloc (Nat.le_refl _) _).alloc (by rw [World.size_alloc]; omega) _
 have hz : Blk9 X w.heap.size xek := by
  refine ⟨rfl, ?_⟩
  rw [hX, Below.heap_alloc _ _ _ (by rw [World.size_alloc]; omega)]
  exact heap_alloc_new w _
 have hr : IsRd X (w.heap.size + 1) s Rd.start := by
  show X.heap[w.heap.size + 1]? = _
  rw [hX, ← World.size_alloc w (.cells #[.int .i64 0, .int .u64 0, .int .u64 0, .int .u64 0, .int .u64 0, .int .i64 0, .int .i64 0, .int .i64 0, .slice none 0 0] 36)]
  exact heap_alloc_new _ _
 have hrc := xte s hs (w.heap.size + 1) (s.size + 1) Rd.start Ps.start false 0 X (by show s.size - 0 < s.size + 1; omega) (xtf s) rfl (fun _ => rfl) (fun h9 => by cases h9) hr (hg.below hBX (Nat.le_refl _))
 go_wp2_with fail
 rw [← hX]
 clear hX
 refine hrc.mono ?_
 rintro e2 w2 ⟨r', ts, u, rfl, hO, hL⟩
 obtain ⟨ua, uc, rfl⟩ := xba hO.kids
 have hpr := xtg hs hL
 obtain ⟨V, hV⟩ : ∃ V, V = w2.alloc (.cells #[.int .i64 0, .int .u64 0, .int .u64 0, .int .u64 0, .int .u64 0, .int .i64 0, .int .i64 0, .int .i64 0, .slice ua (catT ts).kids.length uc] 36) := ⟨_, rfl⟩
 have hBV : Below w2.heap.size w2 V := by rw [hV]; exact (Below.refl _ _).alloc (Nat.le_refl _) _
 have hsz := hO.gr.size
 have v1 : IsRd V (w.heap.size + 1) s r' := hO.rd.below hBV hO.rd.lt
 have v2 : Blk9 V w.heap.size xek := (hz.far (hO.gr.block _ (by omega) (fun e => by injection e; omega))).below hBV (Nat.le_refl _)
 have v3 : Blk9 V w2.heap.size [.int .i64 0, .int .u64 0, .int .u64 0, .int .u64 0, .int .u64 0, .int .i64 0, .int .i64 0, .int .i64 0, .slice ua (catT ts).kids.length uc] := by rw [hV]; exact ⟨rfl, heap_alloc_new w2 _⟩
 have v4 : Below w.heap.size w V := (hBX.trans ⟨hO.gr.os, hO.gr.tape, hO.gr.output, hO.gr.size, fun j hj => hO.gr.block j (by omega) (fun e => by injection e; omega)⟩).trans (hBV.mono (by omega))
 have v5 : Kids V (fun g => w.heap.size < g) (.slice ua (catT ts).kids.length uc) (catT ts).kids := (xd4 hO.kids).keep (fun g hg => hBV.block g hg.2) (fun g hg => by rcases hg.1 with h1 | h1; exact absurd h1 id; omega)
 have hw27 : xcm (catT ts) (.slice ua (catT ts).kids.length uc) = .agg #[.int .i64 0, .int .u64 0, .int .u64 0, .int .u64 0, .int .u64 0, .int .i64 0, .int .i64 0, .int .i64 0, .slice ua (catT ts).kids.length uc] := rfl
 rw [hw27]
 clear hw27
 have HV := xab (And.intro v2 (And.intro v3 (And.intro v4 (And.intro v5 hpr))))
 obtain ⟨rc2, rf2⟩ := v1.cell 2 _ rfl
 obtain ⟨rc3, rf3⟩ := v1.cell 3 _ rfl
 have ne7 : (w.heap.size = w2.heap.size) = False := eq_false (by omega)
 have ne8 : (w2.heap.size = w.heap.size) = False := eq_false (by omega)
 have ne9 : (w.heap.size + 1 = w.heap.size) = False := eq_false (by omega)
 obtain ⟨zc0, zf0⟩ := v2.cell 0 _ rfl
 obtain ⟨zc1, zf1⟩ := v2.cell 1 _ rfl
 obtain ⟨zc2, zf2⟩ := v2.cell 2 _ rfl
 obtain ⟨zc3, zf3⟩ := v2.cell 3 _ rfl
 obtain ⟨zc4, zf4⟩ := v2.cell 4 _ rfl
 obtain ⟨zc5, zf5⟩ := v2.cell 5 _ rfl
 obtain ⟨zc6, zf6⟩ := v2.cell 6 _ rfl
 obtain ⟨zc7, zf7⟩ := v2.cell 7 _ rfl
 obtain ⟨zc8, zf8⟩ := v2.cell 8 _ rfl
 obtain ⟨tc0, _⟩ := v3.cell 0 _ rfl
 obtain ⟨tc1, _⟩ := v3.cell 1 _ rfl
 obtain ⟨tc2, _⟩ := v3.cell 2 _ rfl
 obtain ⟨tc3, _⟩ := v3.cell 3 _ rfl
 obtain ⟨tc4, _⟩ := v3.cell 4 _ rfl
 obtain ⟨tc5, _⟩ := v3.cell 5 _ rfl
 obtain ⟨tc6, _⟩ := v3.cell 6 _ rfl
 obtain ⟨tc7, _⟩ := v3.cell 7 _ rfl
 obtain ⟨tc8, _⟩ := v3.cell 8 _ rfl
 clear hrc hO hL hpr hBV hsz v1 v2 v3 v4 v5 hz hr hBX hXs hg
 go_upto_region 5 with fail
 rw [← hV]
 clear hV
 by_cases he : r'.e = 0
 ·rw [he] at rc2
  go_wp2
  obtain ⟨Y, hY⟩ : ∃ Y, Y = ((((((((V.setCell ⟨w.heap.size, 0, none⟩ (.int .i64 0)).setCell ⟨w.heap.size, 1, none⟩ (.int .u64 0)).setCell ⟨w.heap.size, 2, none⟩ (.int .u64 0)).setCell ⟨w.heap.size, 3, none⟩ (.int .u64 0)).setCell ⟨w.heap.size, 4, none⟩ (.int .u64 0)).setCell ⟨w.heap.size, 5, none⟩ (.int .i64 0)).setCell ⟨w.heap.size, 6, none⟩ (.int .i64 0)).setCell ⟨w.heap.size, 7, none⟩ (.int .i64 0)).setCell ⟨w.heap.size, 8, none⟩ (.slice ua (catT ts).kids.length uc) := ⟨_, rfl⟩
  have hYb : Blk9 Y w.heap.size [.int .i64 0, .int .u64 0, .int .u64 0, .int .u64 0, .int .u64 0, .int .i64 0, .int .i64 0, .int .i64 0, (.slice ua (catT ts).kids.length uc)] := by rw [hY]; exact xfm HV.out.1 _ _ _ _ _ _ _ _ _
  have hYf : ∀ j, j ≠ w.heap.size → Y.heap[j]? = V.heap[j]? := fun j hj => by rw [hY]; exact xcc _ _ _ _ _ _ _ _ _ _ hj
  have hYB : Below w.heap.size w Y := by rw [hY]; exact xbx HV.out.2.2.1 (Nat.le_refl _) _ _ _ _ _ _ _ _ _
  rw [← hY]
  clear hY zc0 zf0 tc0 zc1 zf1 tc1 zc2 zf2 tc2 zc3 zf3 tc3 zc4 zf4 tc4 zc5 zf5 tc5 zc6 zf6 tc6 zc7 zf7 tc7 zc8 zf8 tc8
  have o0 := (hYb.cell 0 _ rfl).1
  have o1 := (hYb.cell 1 _ rfl).1
  have o2 := (hYb.cell 2 _ rfl).1
  have o3 := (hYb.cell 3 _ rfl).1
  have o4 := (hYb.cell 4 _ rfl).1
  have o5 := (hYb.cell 5 _ rfl).1
  have o6 := (hYb.cell 6 _ rfl).1
  have o7 := (hYb.cell 7 _ rfl).1
  have o8 := (hYb.cell 8 _ rfl).1
  refine bodyPost_ret (v := .tuple #[.agg #[.int .i64 0, .int .u64 0, .int .u64 0, .int .u64 0, .int .u64 0, .int .i64 0, .int .i64 0, .int .i64 0, (.slice ua (catT ts).kids.length uc)], .int .i64 0, .int .i64 0]) (by simp [results, Tryz.results8, go_sem, o0, o1, o2, o3, o4, o5, o6, o7, o8]; try rfl) rfl ?_
  refine ⟨hYB, .inr ⟨ts, ua, _, uc, ?_, rfl, ?_⟩⟩
  ·rcases HV.out.2.2.2.2 with h1 | h1
   ·exact absurd he h1.1
   ·exact h1.2
  ·exact HV.out.2.2.2.1.keep (fun g hg => hYf g (by omega)) (fun g hg => by omega)
 ·have hne : (r'.e != 0) = true := by simpa using he
  go_wp2_with fail
  go_region
  obtain ⟨Y, hY⟩ : ∃ Y, Y = ((((((((V.setCell ⟨w.heap.size, 0, none⟩ (.int .i64 0)).setCell ⟨w.heap.size, 1, none⟩ (.int .u64 0)).setCell ⟨w.heap.size, 2, none⟩ (.int .u64 0)).setCell ⟨w.heap.size, 3, none⟩ (.int .u64 0)).setCell ⟨w.heap.size, 4, none⟩ (.int .u64 0)).setCell ⟨w.heap.size, 5, none⟩ (.int .i64 0)).setCell ⟨w.heap.size, 6, none⟩ (.int .i64 0)).setCell ⟨w.heap.size, 7, none⟩ (.int .i64 0)).setCell ⟨w.heap.size, 8, none⟩ (.slice none 0 0) := ⟨_, rfl⟩
  have hYb : Blk9 Y w.heap.size [.int .i64 0, .int .u64 0, .int .u64 0, .int .u64 0, .int .u64 0, .int .i64 0, .int .i64 0, .int .i64 0, (.slice none 0 0)] := by rw [hY]; exact xfm HV.out.1 _ _ _ _ _ _ _ _ _
  have hYf : ∀ j, j ≠ w.heap.size → Y.heap[j]? = V.heap[j]? := fun j hj => by rw [hY]; exact xcc _ _ _ _ _ _ _ _ _ _ hj
  have hYB : Below w.heap.size w Y := by rw [hY]; exact xbx HV.out.2.2.1 (Nat.le_refl _) _ _ _ _ _ _ _ _ _
  rw [← hY]
  clear hY zc0 zf0 tc0 zc1 zf1 tc1 zc2 zf2 tc2 zc3 zf3 tc3 zc4 zf4 tc4 zc5 zf5 tc5 zc6 zf6 tc6 zc7 zf7 tc7 zc8 zf8 tc8
  go_wp2
  have o0 := (hYb.cell 0 _ rfl).1
  have o1 := (hYb.cell 1 _ rfl).1
  have o2 := (hYb.cell 2 _ rfl).1
  have o3 := (hYb.cell 3 _ rfl).1
  have o4 := (hYb.cell 4 _ rfl).1
  have o5 := (hYb.cell 5 _ rfl).1
  have o6 := (hYb.cell 6 _ rfl).1
  have o7 := (hYb.cell 7 _ rfl).1
  have o8 := (hYb.cell 8 _ rfl).1
  refine bodyPost_ret (v := .tuple #[.agg #[.int .i64 0, .int .u64 0, .int .u64 0, .int .u64 0, .int .u64 0, .int .i64 0, .int .i64 0, .int .i64 0, (.slice none 0 0)], .int .i64 r'.e, .int .i64 r'.place]) (by simp [results, Tryz.results8, go_sem, o0, o1, o2, o3, o4, o5, o6, o7, o8]; try rfl) rfl ?_
  refine ⟨hYB.drew, .inl ⟨r'.e, r'.place, ?_, rfl⟩⟩
  rcases HV.out.2.2.2.2 with h1 | h1
  ·exact h1.2
  ·exact absurd h1.1 he
end Go.Proofs.YtaapmphdnholaaaGreatDoor
