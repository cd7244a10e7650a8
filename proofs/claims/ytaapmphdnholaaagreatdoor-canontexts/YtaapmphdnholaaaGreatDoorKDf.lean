/- bre: the document's reader: group, by what Row does. -/
import Derived.Test.YtaapmphdnholaaaGreatDoorKDc
import Derived.Deep.QuietTactic
set_option maxRecDepth 100000
set_option maxHeartbeats 4000000
namespace Go.Proofs.YtaapmphdnholaaaGreatDoor
open Go.RowKit
def RowL (s : ByteArray) (r : Rd) (P : Ps) (inn : Bool) (r' : Rd) (ts : List Tr) : Prop :=
 Fails s r.pos 4 P r' ∨ (inn = false ∧ r'.pos = s.size ∧ ∃ P' k', Goes s r.pos 4 P r' P' k' ts) ∨ (inn = true ∧ ∃ q P' k', r'.pos = q + 2 ∧ Goes s r.pos 4 P { r' with pos := q } P' k' ts ∧ seeB s ⟨#[92, 41]⟩ q = true)
def xgj (s : ByteArray) (b n : Nat) : Prop := ∀ (r : Rd) (P : Ps) (inn : Bool) (op : Nat) (w : World), s.size - r.pos < n → Sim s r P 4 → P.top.parts = [] → (inn = false → P.outer = []) → (inn = true → P.outer ≠ [] ∧ P.top.pos = op) → IsRd w b s r → Glob w →
 Calls Tryz.prog 13 #[.pointer (some ⟨b, 0, none⟩), .bool inn, .int .i64 op] w fun x w' => ∃ r' ts u, x = .returned (xcm (catT ts) u) ∧ RO s b w (fun _ => False) w' r' (catT ts) u ∧ RowL s r P inn r' ts
theorem xo3 {s : ByteArray} {i k : Nat} (h : seeB s ⟨#[92, 40]⟩ i = true) : xaf s i k = ⟨4, i, i + 2, 0, xad, 0, 0, 0⟩ := by
 rw [see2] at h
 have h1 := of_decide_eq_true h
 have e1 : xac s i = 92 := h1.2.1
 have e2 : xac s (i + 1) = 40 := h1.2.2
 unfold xaf
 rw [if_pos e1]
 unfold xbr
 rw [if_neg (by omega), e2]
 rfl
theorem xl7 {s : ByteArray} {i k : Nat} (h : seeB s ⟨#[92, 41]⟩ i = true) : xaf s i k = ⟨5, i, i + 2, 0, xad, 0, 0, 0⟩ := by
 rw [see2] at h
 have h1 := of_decide_eq_true h
 have e1 : xac s i = 92 := h1.2.1
 have e2 : xac s (i + 1) = 41 := h1.2.2
 unfold xaf
 rw [if_pos e1]
 unfold xbr
 rw [if_neg (by omega), e2]
 rfl
theorem xji {s : ByteArray} (hs : s.size ≤ 512) {r : Rd} {P : Ps} {k : Nat} (h : Sim s r P k) (hsee : seeB s ⟨#[92, 40]⟩ r.pos = true) (h9 : r.groups ≠ 9) :
  Sim s { r with groups := r.groups + 1, pos := r.pos + 2 } (P.opened r.pos) 4 ∧ runA s r.pos k P = runA s (r.pos + 2) 4 (P.opened r.pos) := by
 have hl : r.pos + 2 ≤ s.size := xdf hsee
 have hi : r.pos < s.size := by omega
 have ht := xo3 (k := k) hsee
 have e : P.take (xaf s r.pos k) = (0, P.opened r.pos) := by
  rw [ht]
  have h9' : ¬ P.groups = 9 := by rw [← h.g]; exact h9
  simp [Ps.take, h9']
 have h0 : (P.take (xaf s r.pos k)).1 = 0 := by rw [e]
 obtain ⟨w1, w2, w3⟩ := xct hi hs h.well h0
 have hr := xcv hi h0
 rw [e, ht] at hr w1
 exact ⟨⟨h.e, by show r.groups + 1 = P.groups + 1; rw [h.g], h.c, h.z, hl, w1, fun _ => rfl⟩, hr⟩
theorem xqq {s : ByteArray} {r r' : Rd} {P : Ps} {k : Nat} (h : Sim s r P k) (hsee : seeB s ⟨#[92, 40]⟩ r.pos = true) (h9 : r.groups = 9) (h1 : r'.e = 4) (h2 : r'.place = r.pos) : Fails s r.pos k P r' := by
 have hl : r.pos + 2 ≤ s.size := xdf hsee
 refine xc2 (e := 4) (by omega) (by decide) ?_ h1 h2
 rw [xo3 (k := k) hsee]
 have h9' : P.groups = 9 := by rw [← h.g]; exact h9
 simp [Ps.take, h9']
theorem xn6 {s : ByteArray} (hs : s.size ≤ 512) {r r2 : Rd} {P P2 : Ps} {k k2 q : Nat} {ts us : List Tr} (h : Sim s r P k) (hts : P.top.parts = ts) (hsee : seeB s ⟨#[92, 40]⟩ r.pos = true) (h9 : r.groups ≠ 9)
  (hg : Goes s (r.pos + 2) 4 (P.opened r.pos) { r2 with pos := q } P2 k2 us) (hq : seeB s ⟨#[92, 41]⟩ q = true) (hp : r2.pos = q + 2) :
  PL s r.pos k P ts { r2 with shut := fun x => if x = r.groups + 1 then true else r2.shut x } (xbj (r.groups + 1) us) := by
 have ho := xji hs h hsee h9
 have hl : q + 2 ≤ s.size := xdf hq
 have ht := xl7 (k := k2) hq
 have hou : P2.outer = P.outer ++ [P.top] := hg.outer
 have htop : P2.top = ⟨r.pos, P.groups + 1, P.size, us⟩ := hg.top
 have e : P2.take (xaf s q k2) = (0, P2.close P.outer P.top) := by
  rw [ht]
  simp only [Ps.take, hou]
  simp
 have h0 : (P2.take (xaf s q k2)).1 = 0 := by rw [e]
 have hi : q < s.size := by omega
 obtain ⟨w1, w2, w3⟩ := xct (i := q) hi hs hg.sim.well h0
 have hr := xcv (i := q) hi h0
 rw [e, ht] at hr w1
 refine .inr ⟨P2.close P.outer P.top, 5, ⟨⟨hg.sim.e, ?_, ?_, ?_, by show r2.pos ≤ s.size; omega, ?_, fun h4 => by cases h4⟩, ?_, rfl, ?_, ?_⟩, (fun h23 => by rcases h23 with h23 | h23 <;> cases h23), fun _ => rfl⟩
 ·exact hg.sim.g
 ·show (fun x => if x = r.groups + 1 then true else r2.shut x) = fun x => if x = P2.top.grp then true else P2.shut x
  have hc : r2.shut = P2.shut := hg.sim.c
  rw [htop, hc, h.g]
 ·have hz : r2.size = P2.size := hg.sim.z
  show r2.size = P2.size + 0
  omega
 ·show Well _ 5 r2.pos
  rw [hp]; exact w1
 ·show runA s r.pos k P = runA s r2.pos 5 _
  rw [ho.2, hg.run, hp]
  exact hr
 ·show ({ P.top with parts := P.top.parts ++ [xbj P2.top.grp P2.top.parts] } : Lv) = { P.top with parts := ts ++ [xbj (r.groups + 1) us] }
  rw [htop, hts, h.g]
 ·show r.pos ≤ r2.pos
  have h1 : r.pos + 2 ≤ q := hg.on
  omega
theorem xta (s : ByteArray) (r : Rd) (x : Nat) (hx : x ≤ 9) : (r.cells s)[5 + x]? = some (.bool (r.shut x)) := by
 rcases (show x = 0 ∨ x = 1 ∨ x = 2 ∨ x = 3 ∨ x = 4 ∨ x = 5 ∨ x = 6 ∨ x = 7 ∨ x = 8 ∨ x = 9 by omega) with e | e | e | e | e | e | e | e | e | e <;> subst e <;> rfl
theorem rd_shut (s : ByteArray) (r : Rd) (x : Nat) (hx : x ≤ 9) : (({ r with shut := fun y => if y = x then true else r.shut y } : Rd).cells s) = (r.cells s).set (5 + x) (.bool true) := by
 rcases (show x = 0 ∨ x = 1 ∨ x = 2 ∨ x = 3 ∨ x = 4 ∨ x = 5 ∨ x = 6 ∨ x = 7 ∨ x = 8 ∨ x = 9 by omega) with e | e | e | e | e | e | e | e | e | e <;> subst e <;> simp [Rd.cells]
structure ZI (s : ByteArray) (b : Nat) (w : World) (W : World) (r : Rd) : Prop where
 rd : IsRd W b s r
 zb : Blk9 W w.heap.size xek
 gr : w.grownBy W (some b)
 old : b < w.heap.size
theorem ZI.start {s : ByteArray} {b : Nat} {w : World} {r : Rd} (h : IsRd w b s r) : ZI s b w (w.alloc (.cells #[.int .i64 0, .int .u64 0, .int .u64 0, .int .u64 0, .int .u64 0, .int .i64 0, .int .i64 0, .int .i64 0, .slice none 0 0] 36)) r :=
 have hB : Below w.heap.size w (w.alloc (.cells #[.int .i64 0, .int .u64 0, .int .u64 0, .int .u64 0, .int .u64 0, .int .i64 0, .int .i64 0, .int .i64 0, .slice none 0 0] 36)) := (Below.refl _ _).alloc (Nat.le_refl _) _
 ⟨h.below hB h.lt, Blk9.new w, xar hB _, h.lt⟩
theorem ZI.step {s : ByteArray} {b : Nat} {w W W' : World} {r r' : Rd} (h : ZI s b w W r) (g : W.grownBy W' (some b)) (hr : IsRd W' b s r') : ZI s b w W' r' :=
 ⟨hr, h.zb.far (g.block _ h.zb.lt (fun e => by have := h.old; cases e; omega)), xag h.gr g, h.old⟩
theorem ZI.below {s : ByteArray} {b : Nat} {w W W' : World} {r : Rd} (h : ZI s b w W r) (g : Below W.heap.size W W') : ZI s b w W' r := h.step (xar g _) (h.rd.below g h.rd.lt)
theorem ZI.drew {s : ByteArray} {b : Nat} {w W : World} {r : Rd} (h : ZI s b w W r) (n : Nat) : ZI s b w (W.drewN n) r := h.step (xbz _ _ _) (h.rd.drew n)
theorem ZI.put {s : ByteArray} {b : Nat} {w W : World} {r r' : Rd} (h : ZI s b w W r) (k : Nat) (v : Value) (hr : r'.cells s = (r.cells s).set k v) : ZI s b w (W.setCell ⟨b, k, none⟩ v) r' := h.step (xal _ _ _ _) (IsRd.put h.rd k v hr)
theorem ZI.answer {s : ByteArray} {b : Nat} {w W : World} {r : Rd} (h : ZI s b w W r) (t : Tr) {u : Value} (hk : Kids W (fun g => w.heap.size < g) u t.kids) :
  RO s b w (fun _ => False) (nine W w.heap.size (.int .i64 t.kind) (.int .u64 (wd t.q 0)) (.int .u64 (wd t.q 1)) (.int .u64 (wd t.q 2)) (.int .u64 (wd t.q 3)) (.int .i64 t.lo) (.int .i64 t.hi) (.int .i64 t.grp) u) r t u ∧ Blk9 (nine W w.heap.size (.int .i64 t.kind) (.int .u64 (wd t.q 0)) (.int .u64 (wd t.q 1)) (.int .u64 (wd t.q 2)) (.int .u64 (wd t.q 3)) (.int .i64 t.lo) (.int .i64 t.hi) (.int .i64 t.grp) u) w.heap.size (xbf t u) := by
 have ho := h.old
 refine ⟨⟨?_, ?_, ?_⟩, xfm h.zb _ _ _ _ _ _ _ _ _⟩
 ·have h2 : _ = _ := h.rd
  exact (xcc _ _ _ _ _ _ _ _ _ _ (by omega)).trans h2
 ·exact hk.keep (fun g hg => xcc _ _ _ _ _ _ _ _ _ _ (by omega)) (fun g hg => .inr (by omega))
 ·exact xee h.gr (xdr _ _ _ _ _ _ _ _ _ _ _) (Nat.le_refl _)
theorem xo4 {W : World} {b : Nat} {s : ByteArray} {r : Rd} (h : Glob W) (hr : IsRd W b s r) (k : Nat) (v : Value) : Glob (W.setCell ⟨b, k, none⟩ v) := by
 obtain ⟨m, hm⟩ := h
 refine ⟨m, ?_⟩
 have hb : b ≠ 1 := fun e => by
  have h0 := (hr.cell 0 _ rfl).1
  rw [e, hm] at h0
  cases h0
 rw [World.cell?_of_block (a := ⟨1, 0, none⟩) (xas W b k v (fun e => hb e.symm))]
 exact hm
theorem xtb (s : ByteArray) (hs : s.size ≤ 512) (b n : Nat) (hrow : xgj s b n) (r : Rd) (P : Ps) (k : Nat) (ts : List Tr) (h : Sim s r P k) (hts : P.top.parts = ts) (hsee : seeB s ⟨#[92, 40]⟩ r.pos = true) (hn : s.size - r.pos ≤ n) (w : World) (hI : IsRd w b s r) (hg : Glob w) :
  Calls Tryz.prog 40 #[.pointer (some ⟨b, 0, none⟩)] w fun x w' => ∃ r' t u, x = .returned (xcm t u) ∧ RO s b w (fun _ => False) w' r' t u ∧ PL s r.pos k P ts r' t := by
 have hl : r.pos + 2 ≤ s.size := xdf hsee
 have hg9 : r.groups ≤ 9 := by rw [h.g]; exact h.well.good.g9
 obtain ⟨X, hX⟩ : ∃ X, X = w.alloc (.cells #[.int .i64 0, .int .u64 0, .int .u64 0, .int .u64 0, .int .u64 0, .int .i64 0, .int .i64 0, .int .i64 0, .slice none 0 0] 36) := ⟨_, rfl⟩
 have HX : Hid (ZI s b w X r) := by rw [hX]; exact ZI.start hI
 have hgX : Glob X := by rw [hX]; exact hg.below ((Below.refl _ _).alloc (Nat.le_refl _) _) (Nat.le_refl _)
 obtain ⟨rc1, rf1⟩ := HX.out.rd.cell 1 _ rfl
 obtain ⟨rc4, rf4⟩ := HX.out.rd.cell 4 _ rfl
 by_cases h9 : r.groups = 9
 ·rw [h9] at rc4
  have hfl := xb6 s r b 4 r.pos X HX.out.rd
  have hfe := xc5 h.e 4 r.pos
  have HP : Hid (PL s r.pos k P ts (if r.e = 0 then { r with e := 4, place := r.pos } else r) (.mk 0 xad 0 0 0 [])) := xab (.inl (xqq h hsee h9 hfe.1 hfe.2))
  generalize (if r.e = 0 then { r with e := 4, place := r.pos } else r) = rr at *
  go_enter Tryz.func40, Tryz.ntmps40
  go_upto_region 1 with fail
  rw [← hX]
  clear hX hfe
  go_wp2_with fail
  refine hfl.mono ?_
  rintro e1 w1 ⟨⟨v1, rfl⟩, hI1, hG1⟩
  have H1 := xab (HX.out.step hG1 hI1)
  clear hfl hI1 hG1 rc1 rf1 rc4 rf4
  obtain ⟨zc0, zf0⟩ := H1.out.zb.cell 0 _ rfl
  obtain ⟨zc1, zf1⟩ := H1.out.zb.cell 1 _ rfl
  obtain ⟨zc2, zf2⟩ := H1.out.zb.cell 2 _ rfl
  obtain ⟨zc3, zf3⟩ := H1.out.zb.cell 3 _ rfl
  obtain ⟨zc4, zf4⟩ := H1.out.zb.cell 4 _ rfl
  obtain ⟨zc5, zf5⟩ := H1.out.zb.cell 5 _ rfl
  obtain ⟨zc6, zf6⟩ := H1.out.zb.cell 6 _ rfl
  obtain ⟨zc7, zf7⟩ := H1.out.zb.cell 7 _ rfl
  obtain ⟨zc8, zf8⟩ := H1.out.zb.cell 8 _ rfl
  go_wp2
  obtain ⟨Y, hY⟩ : ∃ Y, Y = (((((((((w1).setCell ⟨w.heap.size, 0, none⟩ (.int .i64 0)).setCell ⟨w.heap.size, 1, none⟩ (.int .u64 0)).setCell ⟨w.heap.size, 2, none⟩ (.int .u64 0)).setCell ⟨w.heap.size, 3, none⟩ (.int .u64 0)).setCell ⟨w.heap.size, 4, none⟩ (.int .u64 0)).setCell ⟨w.heap.size, 5, none⟩ (.int .i64 0)).setCell ⟨w.heap.size, 6, none⟩ (.int .i64 0)).setCell ⟨w.heap.size, 7, none⟩ (.int .i64 0)).setCell ⟨w.heap.size, 8, none⟩ (.slice none 0 0) := ⟨_, rfl⟩
  have hYo : RO s b w (fun _ => False) Y rr (.mk 0 xad 0 0 0 []) (.slice none 0 0) ∧ Blk9 Y w.heap.size (xbf (.mk 0 xad 0 0 0 []) (.slice none 0 0)) := by rw [hY]; exact H1.out.answer (.mk 0 xad 0 0 0 []) (Kids.none _ _)
  rw [← hY]
  clear hY
  have o0 : Y.cell? ⟨w.heap.size, 0, none⟩ = some (.int .i64 0) := (hYo.2.cell 0 _ rfl).1
  have o1 : Y.cell? ⟨w.heap.size, 1, none⟩ = some (.int .u64 0) := (hYo.2.cell 1 _ rfl).1
  have o2 : Y.cell? ⟨w.heap.size, 2, none⟩ = some (.int .u64 0) := (hYo.2.cell 2 _ rfl).1
  have o3 : Y.cell? ⟨w.heap.size, 3, none⟩ = some (.int .u64 0) := (hYo.2.cell 3 _ rfl).1
  have o4 : Y.cell? ⟨w.heap.size, 4, none⟩ = some (.int .u64 0) := (hYo.2.cell 4 _ rfl).1
  have o5 : Y.cell? ⟨w.heap.size, 5, none⟩ = some (.int .i64 0) := (hYo.2.cell 5 _ rfl).1
  have o6 : Y.cell? ⟨w.heap.size, 6, none⟩ = some (.int .i64 0) := (hYo.2.cell 6 _ rfl).1
  have o7 : Y.cell? ⟨w.heap.size, 7, none⟩ = some (.int .i64 0) := (hYo.2.cell 7 _ rfl).1
  have o8 : Y.cell? ⟨w.heap.size, 8, none⟩ = some (.slice none 0 0) := (hYo.2.cell 8 _ rfl).1
  refine bodyPost_ret (v := .agg #[.int .i64 0, .int .u64 0, .int .u64 0, .int .u64 0, .int .u64 0, .int .i64 0, .int .i64 0, .int .i64 0, .slice none 0 0]) (by simp [results, Tryz.results40, go_sem, o0, o1, o2, o3, o4, o5, o6, o7, o8]; try rfl) rfl ?_
  exact ⟨rr, (.mk 0 xad 0 0 0 []), _, rfl, hYo.1, HP.out⟩
 ·have e9 : ((r.groups : Int) == 9) = false := by rw [beq_eq_false_iff_ne]; omega
  have k1 : IntKind.i64.wrap ((r.groups : Int) + 1) = (r.groups : Int) + 1 := by rw [IntKind.wrap_i64]; omega
  have k2 : IntKind.i64.wrap ((r.pos : Int) + 2) = (r.pos : Int) + 2 := by rw [IntKind.wrap_i64]; omega
  have hop := xji hs h hsee h9
  obtain ⟨X1, hX1⟩ : ∃ X1, X1 = (X.setCell ⟨b, 4, none⟩ (.int .i64 ((r.groups : Int) + 1))).setCell ⟨b, 1, none⟩ (.int .i64 ((r.pos : Int) + 2)) := ⟨_, rfl⟩
  have H1 : Hid (ZI s b w X1 { r with groups := r.groups + 1, pos := r.pos + 2 }) := by
   rw [hX1]
   exact ZI.put (r := { r with groups := r.groups + 1 }) (HX.out.put 4 _ rfl) 1 _ rfl
  have hgX1 : Glob X1 := by
   rw [hX1]
   exact xo4 (xo4 hgX HX.out.rd _ _) (HX.out.put (r' := { r with groups := r.groups + 1 }) 4 _ rfl).rd _ _
  have hrc := hrow { r with groups := r.groups + 1, pos := r.pos + 2 } (P.opened r.pos) true r.pos X1 (by show s.size - (r.pos + 2) < n; omega) hop.1 rfl (fun h9 => by cases h9) (fun _ => ⟨by show P.outer ++ [P.top] ≠ []; simp, rfl⟩) H1.out.rd hgX1
  go_enter Tryz.func40, Tryz.ntmps40
  go_upto_region 1 with fail
  rw [← hX]
  clear hX
  go_wp2_with fail
  rw [← hX1]
  clear hX1 rc1 rf1 rc4 rf4
  refine hrc.mono ?_
  rintro e2 w2 ⟨r2, us, u2, rfl, hO2, hL2⟩
  obtain ⟨C, hC⟩ : ∃ C, C = catT us := ⟨_, rfl⟩
  rw [← hC] at hO2 ⊢
  obtain ⟨hb5, hf5⟩ := hO2.rd.cell (5 + (r.groups + 1)) _ (xta s r2 (r.groups + 1) (by omega))
  obtain ⟨ua, uc, rfl⟩ := xba hO2.kids
  have hz2 : Hid (ZI s b w w2 r2) := xab (H1.out.step hO2.gr hO2.rd)
  have q1 : ((r.groups : Int) + 1) < 10 := by omega
  have q2 : (0 : Int) ≤ ((r.groups : Int) + 1) := by omega
  have q3 : ((r.groups : Int) + 1).toNat = r.groups + 1 := by omega
  have HO2 := xab (And.intro hO2 (And.intro hL2 hC))
  clear hC
  clear hO2 hL2 hrc hb5 hf5
  obtain ⟨V, hV⟩ : ∃ V, V = w2.alloc (.cells #[.int .i64 C.kind, .int .u64 (wd C.q 0), .int .u64 (wd C.q 1), .int .u64 (wd C.q 2), .int .u64 (wd C.q 3), .int .i64 C.lo, .int .i64 C.hi, .int .i64 C.grp, .slice ua C.kids.length uc] 36) := ⟨_, rfl⟩
  have hBV : Below w2.heap.size w2 V := by rw [hV]; exact (Below.refl _ _).alloc (Nat.le_refl _) _
  have hzV := hz2.out.below hBV
  have hinV : Blk9 V w2.heap.size (xbf C (.slice ua C.kids.length uc)) := by rw [hV]; exact ⟨rfl, heap_alloc_new w2 _⟩
  have hkV : Kids V (fun g => (False ∨ X1.heap.size ≤ g) ∧ g < w2.heap.size) (.slice ua C.kids.length uc) C.kids := (xd4 HO2.out.1.kids).keep (fun g hg => hBV.block g hg.2) (fun _ hg => hg)
  obtain ⟨hb5, hf5⟩ := hzV.rd.cell (5 + (r.groups + 1)) _ (xta s r2 (r.groups + 1) (by omega))
  have HV := xab (And.intro hzV (And.intro hinV hkV))
  clear hBV hzV hinV hkV
  go_upto_region 9 with fail
  rw [← hV]
  clear hV
  go_upto_region 10 with fail
  obtain ⟨V1, hV1⟩ : ∃ V1, V1 = V.setCell ⟨b, 5 + (r.groups + 1), none⟩ (.bool true) := ⟨_, rfl⟩
  have hz3 : ZI s b w V1 { r2 with shut := fun y => if y = r.groups + 1 then true else r2.shut y } := by rw [hV1]; exact HV.out.1.put _ _ (rd_shut s r2 (r.groups + 1) (by omega))
  have hlw := HX.out.old
  have hx1 := H1.out.zb.lt
  have hx2 := HO2.out.1.gr.size
  have hfarb : ∀ j, j ≠ b → V1.heap[j]? = V.heap[j]? := fun j hj => by rw [hV1]; exact xas _ _ _ _ hj
  have hin : Blk9 V1 w2.heap.size (xbf C (.slice ua C.kids.length uc)) := HV.out.2.1.far (hfarb _ (by omega))
  have hk1 : Kids V1 (fun g => w.heap.size < g ∧ g < w2.heap.size) (.slice ua C.kids.length uc) C.kids := HV.out.2.2.keep (fun g hg => hfarb g (by rcases hg.1 with h1 | h1; exact absurd h1 id; omega)) (fun g hg => by rcases hg.1 with h1 | h1; exact absurd h1 id; omega)
  rw [← hV1]
  clear hV1 hb5 hf5
  have c0 : V1.cell? ⟨w2.heap.size, 0, none⟩ = some (.int .i64 C.kind) := (hin.cell 0 _ rfl).1
  have c1 : V1.cell? ⟨w2.heap.size, 1, none⟩ = some (.int .u64 (wd C.q 0)) := (hin.cell 1 _ rfl).1
  have c2 : V1.cell? ⟨w2.heap.size, 2, none⟩ = some (.int .u64 (wd C.q 1)) := (hin.cell 2 _ rfl).1
  have c3 : V1.cell? ⟨w2.heap.size, 3, none⟩ = some (.int .u64 (wd C.q 2)) := (hin.cell 3 _ rfl).1
  have c4 : V1.cell? ⟨w2.heap.size, 4, none⟩ = some (.int .u64 (wd C.q 3)) := (hin.cell 4 _ rfl).1
  have c5 : V1.cell? ⟨w2.heap.size, 5, none⟩ = some (.int .i64 C.lo) := (hin.cell 5 _ rfl).1
  have c6 : V1.cell? ⟨w2.heap.size, 6, none⟩ = some (.int .i64 C.hi) := (hin.cell 6 _ rfl).1
  have c7 : V1.cell? ⟨w2.heap.size, 7, none⟩ = some (.int .i64 C.grp) := (hin.cell 7 _ rfl).1
  have c8 : V1.cell? ⟨w2.heap.size, 8, none⟩ = some (.slice ua C.kids.length uc) := (hin.cell 8 _ rfl).1
  have hzo : ∀ o, Blk9 (V1.alloc o) w.heap.size xek := fun o => hz3.zb.far (Below.heap_alloc _ _ _ hz3.zb.lt)
  have zc0 : ∀ o, (V1.alloc o).cell? ⟨w.heap.size, 0, none⟩ = some (.int .i64 0) := fun o => ((hzo o).cell 0 _ rfl).1
  have zf0 : ∀ o, (V1.alloc o).frozen? ⟨w.heap.size, 0, none⟩ = false := fun o => ((hzo o).cell 0 _ rfl).2
  have zc1 : ∀ o, (V1.alloc o).cell? ⟨w.heap.size, 1, none⟩ = some (.int .u64 0) := fun o => ((hzo o).cell 1 _ rfl).1
  have zf1 : ∀ o, (V1.alloc o).frozen? ⟨w.heap.size, 1, none⟩ = false := fun o => ((hzo o).cell 1 _ rfl).2
  have zc2 : ∀ o, (V1.alloc o).cell? ⟨w.heap.size, 2, none⟩ = some (.int .u64 0) := fun o => ((hzo o).cell 2 _ rfl).1
  have zf2 : ∀ o, (V1.alloc o).frozen? ⟨w.heap.size, 2, none⟩ = false := fun o => ((hzo o).cell 2 _ rfl).2
  have zc3 : ∀ o, (V1.alloc o).cell? ⟨w.heap.size, 3, none⟩ = some (.int .u64 0) := fun o => ((hzo o).cell 3 _ rfl).1
  have zf3 : ∀ o, (V1.alloc o).frozen? ⟨w.heap.size, 3, none⟩ = false := fun o => ((hzo o).cell 3 _ rfl).2
  have zc4 : ∀ o, (V1.alloc o).cell? ⟨w.heap.size, 4, none⟩ = some (.int .u64 0) := fun o => ((hzo o).cell 4 _ rfl).1
  have zf4 : ∀ o, (V1.alloc o).frozen? ⟨w.heap.size, 4, none⟩ = false := fun o => ((hzo o).cell 4 _ rfl).2
  have zc5 : ∀ o, (V1.alloc o).cell? ⟨w.heap.size, 5, none⟩ = some (.int .i64 0) := fun o => ((hzo o).cell 5 _ rfl).1
  have zf5 : ∀ o, (V1.alloc o).frozen? ⟨w.heap.size, 5, none⟩ = false := fun o => ((hzo o).cell 5 _ rfl).2
  have zc6 : ∀ o, (V1.alloc o).cell? ⟨w.heap.size, 6, none⟩ = some (.int .i64 0) := fun o => ((hzo o).cell 6 _ rfl).1
  have zf6 : ∀ o, (V1.alloc o).frozen? ⟨w.heap.size, 6, none⟩ = false := fun o => ((hzo o).cell 6 _ rfl).2
  have zc7 : ∀ o, (V1.alloc o).cell? ⟨w.heap.size, 7, none⟩ = some (.int .i64 0) := fun o => ((hzo o).cell 7 _ rfl).1
  have zf7 : ∀ o, (V1.alloc o).frozen? ⟨w.heap.size, 7, none⟩ = false := fun o => ((hzo o).cell 7 _ rfl).2
  have zc8 : ∀ o, (V1.alloc o).cell? ⟨w.heap.size, 8, none⟩ = some (.slice none 0 0) := fun o => ((hzo o).cell 8 _ rfl).1
  have zf8 : ∀ o, (V1.alloc o).frozen? ⟨w.heap.size, 8, none⟩ = false := fun o => ((hzo o).cell 8 _ rfl).2
  have HE := xab (And.intro hz3 (And.intro hin hk1))
  have HH := xab (And.intro h (And.intro hts (And.intro hsee hop)))
  clear hz3 hin hk1 hfarb hlw hx1 hx2 h hts hsee hop hrow hI hg hgX hgX1 k1 k2 q1 q2 q3 e9 hl hg9 hn hzo
  have hkk : ∀ o, o = Obj.cells (xbf C (.slice ua C.kids.length uc)).toArray 36 → Kids (V1.alloc o) (fun g => w.heap.size < g) (.slice (some ⟨V1.heap.size, 0, none⟩) 1 1) (xbj (r.groups + 1) us).kids := by
   rintro o rfl
   have hC := HO2.out.2.2
   show Kids _ _ _ [catT us]
   rw [← hC]
   have hlt := HE.out.2.1.lt
   exact xgz (heap_alloc_new V1 _) HE.out.1.zb.lt (HE.out.2.2.keep (fun g hg => Below.heap_alloc _ _ _ (by omega)) (fun g hg => hg.1))
  have HK := xab hkk
  have HP : Hid (PL s r.pos k P ts { r2 with shut := fun y => if y = r.groups + 1 then true else r2.shut y } (xbj (r.groups + 1) us)) := by
   rcases HO2.out.2.1 with hf | ⟨h1, _⟩ | ⟨_, q, P2, k2, hp, hgo, hq⟩
   ·exact .inl ⟨hf.e, by rw [HH.out.2.2.2.2]; exact hf.run⟩
   ·cases h1
   ·exact xn6 hs HH.out.1 HH.out.2.1 HH.out.2.2.1 h9 hgo hq hp
  clear hkk
  go_wp2
  obtain ⟨Y, hY⟩ : ∃ Y, Y = (((((((((V1.alloc (.cells #[.int .i64 C.kind, .int .u64 (wd C.q 0), .int .u64 (wd C.q 1), .int .u64 (wd C.q 2), .int .u64 (wd C.q 3), .int .i64 C.lo, .int .i64 C.hi, .int .i64 C.grp, .slice ua C.kids.length uc] 36)).setCell ⟨w.heap.size, 0, none⟩ (.int .i64 4)).setCell ⟨w.heap.size, 1, none⟩ (.int .u64 0)).setCell ⟨w.heap.size, 2, none⟩ (.int .u64 0)).setCell ⟨w.heap.size, 3, none⟩ (.int .u64 0)).setCell ⟨w.heap.size, 4, none⟩ (.int .u64 0)).setCell ⟨w.heap.size, 5, none⟩ (.int .i64 0)).setCell ⟨w.heap.size, 6, none⟩ (.int .i64 0)).setCell ⟨w.heap.size, 7, none⟩ (.int .i64 ((r.groups : Int) + 1))).setCell ⟨w.heap.size, 8, none⟩ (.slice (some ⟨V1.heap.size, 0, none⟩) 1 1) := ⟨_, rfl⟩
  have hYo : RO s b w (fun _ => False) Y { r2 with shut := fun y => if y = r.groups + 1 then true else r2.shut y } (xbj (r.groups + 1) us) (.slice (some ⟨V1.heap.size, 0, none⟩) 1 1) ∧ Blk9 Y w.heap.size (xbf (xbj (r.groups + 1) us) (.slice (some ⟨V1.heap.size, 0, none⟩) 1 1)) := by rw [hY]; exact (HE.out.1.below ((Below.refl _ _).alloc (Nat.le_refl _) _)).answer (xbj (r.groups + 1) us) (HK.out _ rfl)
  rw [← hY]
  clear hY
  have o0 : Y.cell? ⟨w.heap.size, 0, none⟩ = some (.int .i64 4) := (hYo.2.cell 0 _ rfl).1
  have o1 : Y.cell? ⟨w.heap.size, 1, none⟩ = some (.int .u64 0) := (hYo.2.cell 1 _ rfl).1
  have o2 : Y.cell? ⟨w.heap.size, 2, none⟩ = some (.int .u64 0) := (hYo.2.cell 2 _ rfl).1
  have o3 : Y.cell? ⟨w.heap.size, 3, none⟩ = some (.int .u64 0) := (hYo.2.cell 3 _ rfl).1
  have o4 : Y.cell? ⟨w.heap.size, 4, none⟩ = some (.int .u64 0) := (hYo.2.cell 4 _ rfl).1
  have o5 : Y.cell? ⟨w.heap.size, 5, none⟩ = some (.int .i64 0) := (hYo.2.cell 5 _ rfl).1
  have o6 : Y.cell? ⟨w.heap.size, 6, none⟩ = some (.int .i64 0) := (hYo.2.cell 6 _ rfl).1
  have o7 : Y.cell? ⟨w.heap.size, 7, none⟩ = some (.int .i64 ((r.groups : Int) + 1)) := (hYo.2.cell 7 _ rfl).1
  have o8 : Y.cell? ⟨w.heap.size, 8, none⟩ = some (.slice (some ⟨V1.heap.size, 0, none⟩) 1 1) := (hYo.2.cell 8 _ rfl).1
  refine bodyPost_ret (v := .agg #[.int .i64 4, .int .u64 0, .int .u64 0, .int .u64 0, .int .u64 0, .int .i64 0, .int .i64 0, .int .i64 ((r.groups : Int) + 1), .slice (some ⟨V1.heap.size, 0, none⟩) 1 1]) (by simp [results, Tryz.results40, go_sem, o0, o1, o2, o3, o4, o5, o6, o7, o8]; try rfl) rfl ?_
  exact ⟨{ r2 with shut := fun y => if y = r.groups + 1 then true else r2.shut y }, (xbj (r.groups + 1) us), _, rfl, hYo.1, HP.out⟩
theorem xap (B : Nat) (W : World) (n : Nat) : Below B W (W.drewN n) := { os := rfl, tape := rfl, output := rfl, size := Nat.le_refl _, block := fun _ _ => rfl }
theorem xqr (s : ByteArray) (hs : s.size ≤ 512) (b : Nat) (r : Rd) (P : Ps) (k : Nat) (ts : List Tr) (h : Sim s r P k) (hts : P.top.parts = ts) (hi : r.pos < s.size) (w : World) (hI : IsRd w b s r) (ff bb : Bool) (n : Nat) (hrow : xgj s b n) (hn : s.size - r.pos ≤ n) (hg : Glob w) (c1 : seeB s ⟨#[92, 40]⟩ r.pos = true) :
  Calls Tryz.prog 25 #[.pointer (some ⟨b, 0, none⟩), .bool ff, .bool bb] w fun x w' => ∃ r' t u, x = .returned (xcm t u) ∧ RO s b w (fun _ => False) w' r' t u ∧ PL s r.pos k P ts r' t := by
 have hs30 : s.size ≤ 1073741824 := by omega
 have p0 : (0 : Int) ≤ (r.pos : Int) := by omega
 have p1 : (r.pos : Int) < (s.size : Int) := by omega
 obtain ⟨X, hX⟩ : ∃ X, X = w.alloc (.cells #[.int .i64 0, .int .u64 0, .int .u64 0, .int .u64 0, .int .u64 0, .int .i64 0, .int .i64 0, .int .i64 0, .slice none 0 0] 36) := ⟨_, rfl⟩
 have HX : Hid (ZI s b w X r) := by rw [hX]; exact ZI.start hI
 have hXs : X.heap.size = w.heap.size + 1 := by rw [hX, World.size_alloc]
 have hBX : Below w.heap.size w X := by rw [hX]; exact (Below.refl _ _).alloc (Nat.le_refl _) _
 obtain ⟨rc0, rf0⟩ := HX.out.rd.cell 0 _ rfl
 obtain ⟨rc1, rf1⟩ := HX.out.rd.cell 1 _ rfl
 go_enter Tryz.func25, Tryz.ntmps25
 go_upto_region 1 with fail
 rw [← hX]
 clear hX
 go_wp2_with fail
 have hS1 := xa0 s ⟨#[92, 40]⟩ hs30 (by decide) r (by omega) b X HX.out.rd
 rw [c1] at hS1
 refine hS1.mono ?_
 rintro e1 w1 ⟨rfl, n1, rfl⟩
 have H1 := xab (HX.out.drew n1)
 have hs1 : (X.drewN n1).heap.size = X.heap.size := rfl
 have hB1 : Below w.heap.size w (X.drewN n1) := hBX.trans (xap _ _ _)
 clear hS1 rc0 rf0 rc1 rf1
 generalize X.drewN n1 = w1 at *
 obtain ⟨rc0, rf0⟩ := H1.out.rd.cell 0 _ rfl
 obtain ⟨rc1, rf1⟩ := H1.out.rd.cell 1 _ rfl
 have hgr := xtb s hs b n hrow r P k ts h hts c1 hn w1 H1.out.rd (hg.below hB1 (Nat.le_refl _))
 have HC := xab c1
 clear c1
 go_wp2_with fail
 refine hgr.mono ?_
 rintro e2 w2 ⟨r2, t, u, rfl, hO, hL⟩
 obtain ⟨ua, uc, rfl⟩ := xba hO.kids
 have H2 := xab (H1.out.step hO.gr hO.rd)
 have HK : Hid (Kids w2 (fun g => w.heap.size < g) (.slice ua t.kids.length uc) t.kids) := xab (hO.kids.keep (fun _ _ => rfl) (fun g hg => by rcases hg with hg | hg; exact absurd hg id; omega))
 have HL := xab hL
 clear hgr hO hL rc0 rf0 rc1 rf1
 obtain ⟨zc0, zf0⟩ := H2.out.zb.cell 0 _ rfl
 obtain ⟨zc1, zf1⟩ := H2.out.zb.cell 1 _ rfl
 obtain ⟨zc2, zf2⟩ := H2.out.zb.cell 2 _ rfl
 obtain ⟨zc3, zf3⟩ := H2.out.zb.cell 3 _ rfl
 obtain ⟨zc4, zf4⟩ := H2.out.zb.cell 4 _ rfl
 obtain ⟨zc5, zf5⟩ := H2.out.zb.cell 5 _ rfl
 obtain ⟨zc6, zf6⟩ := H2.out.zb.cell 6 _ rfl
 obtain ⟨zc7, zf7⟩ := H2.out.zb.cell 7 _ rfl
 obtain ⟨zc8, zf8⟩ := H2.out.zb.cell 8 _ rfl
 go_wp2
 obtain ⟨Y, hY⟩ : ∃ Y, Y = (((((((((w2).setCell ⟨w.heap.size, 0, none⟩ (.int .i64 t.kind)).setCell ⟨w.heap.size, 1, none⟩ (.int .u64 (wd t.q 0))).setCell ⟨w.heap.size, 2, none⟩ (.int .u64 (wd t.q 1))).setCell ⟨w.heap.size, 3, none⟩ (.int .u64 (wd t.q 2))).setCell ⟨w.heap.size, 4, none⟩ (.int .u64 (wd t.q 3))).setCell ⟨w.heap.size, 5, none⟩ (.int .i64 t.lo)).setCell ⟨w.heap.size, 6, none⟩ (.int .i64 t.hi)).setCell ⟨w.heap.size, 7, none⟩ (.int .i64 t.grp)).setCell ⟨w.heap.size, 8, none⟩ (.slice ua t.kids.length uc) := ⟨_, rfl⟩
 have hYo : RO s b w (fun _ => False) Y r2 t (.slice ua t.kids.length uc) ∧ Blk9 Y w.heap.size (xbf t (.slice ua t.kids.length uc)) := by rw [hY]; exact H2.out.answer t (HK.out)
 rw [← hY]
 clear hY
 have o0 : Y.cell? ⟨w.heap.size, 0, none⟩ = some (.int .i64 t.kind) := (hYo.2.cell 0 _ rfl).1
 have o1 : Y.cell? ⟨w.heap.size, 1, none⟩ = some (.int .u64 (wd t.q 0)) := (hYo.2.cell 1 _ rfl).1
 have o2 : Y.cell? ⟨w.heap.size, 2, none⟩ = some (.int .u64 (wd t.q 1)) := (hYo.2.cell 2 _ rfl).1
 have o3 : Y.cell? ⟨w.heap.size, 3, none⟩ = some (.int .u64 (wd t.q 2)) := (hYo.2.cell 3 _ rfl).1
 have o4 : Y.cell? ⟨w.heap.size, 4, none⟩ = some (.int .u64 (wd t.q 3)) := (hYo.2.cell 4 _ rfl).1
 have o5 : Y.cell? ⟨w.heap.size, 5, none⟩ = some (.int .i64 t.lo) := (hYo.2.cell 5 _ rfl).1
 have o6 : Y.cell? ⟨w.heap.size, 6, none⟩ = some (.int .i64 t.hi) := (hYo.2.cell 6 _ rfl).1
 have o7 : Y.cell? ⟨w.heap.size, 7, none⟩ = some (.int .i64 t.grp) := (hYo.2.cell 7 _ rfl).1
 have o8 : Y.cell? ⟨w.heap.size, 8, none⟩ = some (.slice ua t.kids.length uc) := (hYo.2.cell 8 _ rfl).1
 refine bodyPost_ret (v := .agg #[.int .i64 t.kind, .int .u64 (wd t.q 0), .int .u64 (wd t.q 1), .int .u64 (wd t.q 2), .int .u64 (wd t.q 3), .int .i64 t.lo, .int .i64 t.hi, .int .i64 t.grp, .slice ua t.kids.length uc]) (by simp [results, Tryz.results25, go_sem, o0, o1, o2, o3, o4, o5, o6, o7, o8]; try rfl) rfl ?_
 exact ⟨r2, t, _, rfl, hYo.1, HL.out⟩
theorem brk_tok {s : ByteArray} {i k : Nat} (h : xac s i = 91) : xaf s i k = xcr s i := by
 unfold xaf
 rw [if_neg (by omega), if_pos h]
theorem part_brk (s : ByteArray) (hs : s.size ≤ 512) (b : Nat) (r : Rd) (P : Ps) (k : Nat) (ts : List Tr) (h : Sim s r P k) (hts : P.top.parts = ts) (hi : r.pos < s.size) (w : World) (hI : IsRd w b s r) (ff bb : Bool) (c1 : seeB s ⟨#[92, 40]⟩ r.pos = false) (c2 : seeB s ⟨#[92, 123]⟩ r.pos = false) (c3 : seeB s ⟨#[92, 125]⟩ r.pos = false) (hb : xac s r.pos = 91) :
  Calls Tryz.prog 25 #[.pointer (some ⟨b, 0, none⟩), .bool ff, .bool bb] w fun x w' => ∃ r' t u, x = .returned (xcm t u) ∧ RO s b w (fun _ => False) w' r' t u ∧ PL s r.pos k P ts r' t := by
 have htk : xaf s r.pos k = xcr s r.pos := brk_tok hb
 have hb2 : (s[r.pos].toNat : Int) = 91 := by rw [← xah hi]; exact hb
 have hpx := fun w => xld s (by omega) (r.pos : Int) w
 obtain ⟨pr, hpr⟩ : ∃ pr, pr = xaz s (r.pos : Int) := ⟨_, rfl⟩
 rw [← hpr] at hpx
 unfold xcr at htk
 rw [← hpr] at htk
 have hzz : 0 ≤ r.size ∧ r.size ≤ 1000000000 := by have h8 := h.z; have h7 := h.well.good.big; have h6 := h.well.good.bounds; omega
 clear hb
 by_cases he : pr.e = 0
 ·rw [if_neg (by rw [he]; decide)] at htk
  have hl := xew hs h hts hi htk
  rw [he] at hpx
  have HP := xab (And.intro hpx hl)
  clear htk hl hpr he hpx
  have hs30 : s.size ≤ 1073741824 := by omega
  have p0 : (0 : Int) ≤ (r.pos : Int) := by omega
  have p1 : (r.pos : Int) < (s.size : Int) := by omega
  obtain ⟨X, hX⟩ : ∃ X, X = w.alloc (.cells #[.int .i64 0, .int .u64 0, .int .u64 0, .int .u64 0, .int .u64 0, .int .i64 0, .int .i64 0, .int .i64 0, .slice none 0 0] 36) := ⟨_, rfl⟩
  have HX : Hid (ZI s b w X r) := by rw [hX]; exact ZI.start hI
  have hXs : X.heap.size = w.heap.size + 1 := by rw [hX, World.size_alloc]
  have hBX : Below w.heap.size w X := by rw [hX]; exact (Below.refl _ _).alloc (Nat.le_refl _) _
  obtain ⟨rc0, rf0⟩ := HX.out.rd.cell 0 _ rfl
  obtain ⟨rc1, rf1⟩ := HX.out.rd.cell 1 _ rfl
  go_enter Tryz.func25, Tryz.ntmps25
  go_upto_region 1 with fail
  rw [← hX]
  clear hX
  go_wp2_with fail
  have hS1 := xa0 s ⟨#[92, 40]⟩ hs30 (by decide) r (by omega) b X HX.out.rd
  rw [c1] at hS1
  refine hS1.mono ?_
  rintro e1 w1 ⟨rfl, n1, rfl⟩
  have H1 := xab (HX.out.drew n1)
  have hs1 : (X.drewN n1).heap.size = X.heap.size := rfl
  have hB1 : Below w.heap.size w (X.drewN n1) := hBX.trans (xap _ _ _)
  clear hS1 rc0 rf0 rc1 rf1
  generalize X.drewN n1 = w1 at *
  obtain ⟨rc0, rf0⟩ := H1.out.rd.cell 0 _ rfl
  obtain ⟨rc1, rf1⟩ := H1.out.rd.cell 1 _ rfl
  go_wp2_with fail
  have hS2 := xa0 s ⟨#[92, 123]⟩ hs30 (by decide) r (by omega) b w1 H1.out.rd
  rw [c2] at hS2
  refine hS2.mono ?_
  rintro e2 w2 ⟨rfl, n2, rfl⟩
  have H2 := xab (H1.out.drew n2)
  have hs2 : (w1.drewN n2).heap.size = w1.heap.size := rfl
  have hB2 : Below w.heap.size w (w1.drewN n2) := hB1.trans (xap _ _ _)
  clear hS2 rc0 rf0 rc1 rf1
  generalize w1.drewN n2 = w2 at *
  obtain ⟨rc0, rf0⟩ := H2.out.rd.cell 0 _ rfl
  obtain ⟨rc1, rf1⟩ := H2.out.rd.cell 1 _ rfl
  go_wp2_with fail
  have hS3 := xa0 s ⟨#[92, 125]⟩ hs30 (by decide) r (by omega) b w2 H2.out.rd
  rw [c3] at hS3
  refine hS3.mono ?_
  rintro e3 w3 ⟨rfl, n3, rfl⟩
  have H3 := xab (H2.out.drew n3)
  have hs3 : (w2.drewN n3).heap.size = w2.heap.size := rfl
  have hB3 : Below w.heap.size w (w2.drewN n3) := hB2.trans (xap _ _ _)
  clear hS3 rc0 rf0 rc1 rf1
  generalize w2.drewN n3 = w3 at *
  obtain ⟨rc0, rf0⟩ := H3.out.rd.cell 0 _ rfl
  obtain ⟨rc1, rf1⟩ := H3.out.rd.cell 1 _ rfl
  clear c1 c2 c3
  go_wp2_with fail
  refine (HP.out.1 w3).mono ?_
  rintro e4 w4 ⟨rfl, hb4⟩
  have H4 := xab (H3.out.below hb4)
  clear hb4 rc0 rf0 rc1 rf1
  obtain ⟨V, hV⟩ : ∃ V, V = w4.alloc (.cells #[.int .u64 (wd pr.q 0), .int .u64 (wd pr.q 1), .int .u64 (wd pr.q 2), .int .u64 (wd pr.q 3)] 33) := ⟨_, rfl⟩
  have hBV : Below w4.heap.size w4 V := by rw [hV]; exact (Below.refl _ _).alloc (Nat.le_refl _) _
  have hvb : V.heap[w4.heap.size]? = some (.cells #[.int .u64 (wd pr.q 0), .int .u64 (wd pr.q 1), .int .u64 (wd pr.q 2), .int .u64 (wd pr.q 3)] 33) := by rw [hV]; exact heap_alloc_new w4 _
  have H5 := xab (H4.out.below hBV)
  go_upto_region 12 with fail
  rw [← hV]
  clear hV hBV
  obtain ⟨rc0, rf0⟩ := H5.out.rd.cell 0 _ rfl
  obtain ⟨rc1, rf1⟩ := H5.out.rd.cell 1 _ rfl
  obtain ⟨V1, hV1⟩ : ∃ V1, V1 = V.setCell ⟨b, 1, none⟩ (.int .i64 pr.next) := ⟨_, rfl⟩
  have H6 : Hid (ZI s b w V1 { r with pos := pr.next }) := by rw [hV1]; exact H5.out.put 1 _ rfl
  have hnb : w4.heap.size ≠ b := by have := H4.out.rd.lt; omega
  have hvb1 : V1.heap[w4.heap.size]? = some (.cells #[.int .u64 (wd pr.q 0), .int .u64 (wd pr.q 1), .int .u64 (wd pr.q 2), .int .u64 (wd pr.q 3)] 33) := by rw [hV1]; exact (xas _ _ _ _ hnb).trans hvb
  go_upto_region 16 with fail
  rw [← hV1]
  clear hV1 hvb
  have hgw := xbe s { r with pos := pr.next } b 1 r.pos (by omega) hzz V1 H6.out.rd
  clear rc0 rf0 rc1 rf1
  go_wp2_with fail
  refine hgw.mono ?_
  rintro e7 w7 ⟨⟨v7, rfl⟩, hI7, hG7⟩
  have H7 := xab (H6.out.step hG7 hI7)
  have hvb7 := (hG7.block w4.heap.size (Array.getElem?_eq_some_iff.1 hvb1).1 (fun e => by cases e; exact hnb rfl)).trans hvb1
  have g0 : w7.cell? ⟨w4.heap.size, 0, none⟩ = some (.int .u64 (wd pr.q 0)) := by simp [World.cell?, hvb7]
  have g1 : w7.cell? ⟨w4.heap.size, 1, none⟩ = some (.int .u64 (wd pr.q 1)) := by simp [World.cell?, hvb7]
  have g2 : w7.cell? ⟨w4.heap.size, 2, none⟩ = some (.int .u64 (wd pr.q 2)) := by simp [World.cell?, hvb7]
  have g3 : w7.cell? ⟨w4.heap.size, 3, none⟩ = some (.int .u64 (wd pr.q 3)) := by simp [World.cell?, hvb7]
  clear hgw hI7 hG7 hvb1 hvb7 hnb
  obtain ⟨zc0, zf0⟩ := H7.out.zb.cell 0 _ rfl
  obtain ⟨zc1, zf1⟩ := H7.out.zb.cell 1 _ rfl
  obtain ⟨zc2, zf2⟩ := H7.out.zb.cell 2 _ rfl
  obtain ⟨zc3, zf3⟩ := H7.out.zb.cell 3 _ rfl
  obtain ⟨zc4, zf4⟩ := H7.out.zb.cell 4 _ rfl
  obtain ⟨zc5, zf5⟩ := H7.out.zb.cell 5 _ rfl
  obtain ⟨zc6, zf6⟩ := H7.out.zb.cell 6 _ rfl
  obtain ⟨zc7, zf7⟩ := H7.out.zb.cell 7 _ rfl
  obtain ⟨zc8, zf8⟩ := H7.out.zb.cell 8 _ rfl
  go_wp2
  obtain ⟨Y, hY⟩ : ∃ Y, Y = (((((((((w7).setCell ⟨w.heap.size, 0, none⟩ (.int .i64 1)).setCell ⟨w.heap.size, 1, none⟩ (.int .u64 (wd pr.q 0))).setCell ⟨w.heap.size, 2, none⟩ (.int .u64 (wd pr.q 1))).setCell ⟨w.heap.size, 3, none⟩ (.int .u64 (wd pr.q 2))).setCell ⟨w.heap.size, 4, none⟩ (.int .u64 (wd pr.q 3))).setCell ⟨w.heap.size, 5, none⟩ (.int .i64 0)).setCell ⟨w.heap.size, 6, none⟩ (.int .i64 0)).setCell ⟨w.heap.size, 7, none⟩ (.int .i64 0)).setCell ⟨w.heap.size, 8, none⟩ (.slice none 0 0) := ⟨_, rfl⟩
  have hYo : RO s b w (fun _ => False) Y (({ r with pos := pr.next } : Rd).grow 1 r.pos) (xbw pr.q) (.slice none 0 0) ∧ Blk9 Y w.heap.size (xbf (xbw pr.q) (.slice none 0 0)) := by rw [hY]; exact H7.out.answer (xbw pr.q) (Kids.none _ _)
  rw [← hY]
  clear hY
  have o0 : Y.cell? ⟨w.heap.size, 0, none⟩ = some (.int .i64 1) := (hYo.2.cell 0 _ rfl).1
  have o1 : Y.cell? ⟨w.heap.size, 1, none⟩ = some (.int .u64 (wd pr.q 0)) := (hYo.2.cell 1 _ rfl).1
  have o2 : Y.cell? ⟨w.heap.size, 2, none⟩ = some (.int .u64 (wd pr.q 1)) := (hYo.2.cell 2 _ rfl).1
  have o3 : Y.cell? ⟨w.heap.size, 3, none⟩ = some (.int .u64 (wd pr.q 2)) := (hYo.2.cell 3 _ rfl).1
  have o4 : Y.cell? ⟨w.heap.size, 4, none⟩ = some (.int .u64 (wd pr.q 3)) := (hYo.2.cell 4 _ rfl).1
  have o5 : Y.cell? ⟨w.heap.size, 5, none⟩ = some (.int .i64 0) := (hYo.2.cell 5 _ rfl).1
  have o6 : Y.cell? ⟨w.heap.size, 6, none⟩ = some (.int .i64 0) := (hYo.2.cell 6 _ rfl).1
  have o7 : Y.cell? ⟨w.heap.size, 7, none⟩ = some (.int .i64 0) := (hYo.2.cell 7 _ rfl).1
  have o8 : Y.cell? ⟨w.heap.size, 8, none⟩ = some (.slice none 0 0) := (hYo.2.cell 8 _ rfl).1
  refine bodyPost_ret (v := .agg #[.int .i64 1, .int .u64 (wd pr.q 0), .int .u64 (wd pr.q 1), .int .u64 (wd pr.q 2), .int .u64 (wd pr.q 3), .int .i64 0, .int .i64 0, .int .i64 0, .slice none 0 0]) (by simp [results, Tryz.results25, go_sem, o0, o1, o2, o3, o4, o5, o6, o7, o8]; try rfl) rfl ?_
  exact ⟨(({ r with pos := pr.next } : Rd).grow 1 r.pos), (xbw pr.q), _, rfl, hYo.1, HP.out.2⟩
 ·rw [if_pos he] at htk
  have hne : (pr.e != 0) = true := by simpa using he
  have hfe := xc5 h.e pr.e r.pos
  have hfa : Fails s r.pos k P (if r.e = 0 then { r with e := pr.e, place := r.pos } else r) := xc2 hi he (by rw [htk]; rfl) hfe.1 hfe.2
  have HFA := xab hfa
  have HP := xab hpx
  clear htk hfe hfa hpr he hpx
  have hs30 : s.size ≤ 1073741824 := by omega
  have p0 : (0 : Int) ≤ (r.pos : Int) := by omega
  have p1 : (r.pos : Int) < (s.size : Int) := by omega
  obtain ⟨X, hX⟩ : ∃ X, X = w.alloc (.cells #[.int .i64 0, .int .u64 0, .int .u64 0, .int .u64 0, .int .u64 0, .int .i64 0, .int .i64 0, .int .i64 0, .slice none 0 0] 36) := ⟨_, rfl⟩
  have HX : Hid (ZI s b w X r) := by rw [hX]; exact ZI.start hI
  have hXs : X.heap.size = w.heap.size + 1 := by rw [hX, World.size_alloc]
  have hBX : Below w.heap.size w X := by rw [hX]; exact (Below.refl _ _).alloc (Nat.le_refl _) _
  obtain ⟨rc0, rf0⟩ := HX.out.rd.cell 0 _ rfl
  obtain ⟨rc1, rf1⟩ := HX.out.rd.cell 1 _ rfl
  go_enter Tryz.func25, Tryz.ntmps25
  go_upto_region 1 with fail
  rw [← hX]
  clear hX
  go_wp2_with fail
  have hS1 := xa0 s ⟨#[92, 40]⟩ hs30 (by decide) r (by omega) b X HX.out.rd
  rw [c1] at hS1
  refine hS1.mono ?_
  rintro e1 w1 ⟨rfl, n1, rfl⟩
  have H1 := xab (HX.out.drew n1)
  have hs1 : (X.drewN n1).heap.size = X.heap.size := rfl
  have hB1 : Below w.heap.size w (X.drewN n1) := hBX.trans (xap _ _ _)
  clear hS1 rc0 rf0 rc1 rf1
  generalize X.drewN n1 = w1 at *
  obtain ⟨rc0, rf0⟩ := H1.out.rd.cell 0 _ rfl
  obtain ⟨rc1, rf1⟩ := H1.out.rd.cell 1 _ rfl
  go_wp2_with fail
  have hS2 := xa0 s ⟨#[92, 123]⟩ hs30 (by decide) r (by omega) b w1 H1.out.rd
  rw [c2] at hS2
  refine hS2.mono ?_
  rintro e2 w2 ⟨rfl, n2, rfl⟩
  have H2 := xab (H1.out.drew n2)
  have hs2 : (w1.drewN n2).heap.size = w1.heap.size := rfl
  have hB2 : Below w.heap.size w (w1.drewN n2) := hB1.trans (xap _ _ _)
  clear hS2 rc0 rf0 rc1 rf1
  generalize w1.drewN n2 = w2 at *
  obtain ⟨rc0, rf0⟩ := H2.out.rd.cell 0 _ rfl
  obtain ⟨rc1, rf1⟩ := H2.out.rd.cell 1 _ rfl
  go_wp2_with fail
  have hS3 := xa0 s ⟨#[92, 125]⟩ hs30 (by decide) r (by omega) b w2 H2.out.rd
  rw [c3] at hS3
  refine hS3.mono ?_
  rintro e3 w3 ⟨rfl, n3, rfl⟩
  have H3 := xab (H2.out.drew n3)
  have hs3 : (w2.drewN n3).heap.size = w2.heap.size := rfl
  have hB3 : Below w.heap.size w (w2.drewN n3) := hB2.trans (xap _ _ _)
  clear hS3 rc0 rf0 rc1 rf1
  generalize w2.drewN n3 = w3 at *
  obtain ⟨rc0, rf0⟩ := H3.out.rd.cell 0 _ rfl
  obtain ⟨rc1, rf1⟩ := H3.out.rd.cell 1 _ rfl
  clear c1 c2 c3
  go_wp2_with fail
  refine (HP.out w3).mono ?_
  rintro e4 w4 ⟨rfl, hb4⟩
  have H4 := xab (H3.out.below hb4)
  clear hb4 rc0 rf0 rc1 rf1
  obtain ⟨V, hV⟩ : ∃ V, V = w4.alloc (.cells #[.int .u64 (wd pr.q 0), .int .u64 (wd pr.q 1), .int .u64 (wd pr.q 2), .int .u64 (wd pr.q 3)] 33) := ⟨_, rfl⟩
  have hBV : Below w4.heap.size w4 V := by rw [hV]; exact (Below.refl _ _).alloc (Nat.le_refl _) _
  have H5 := xab (H4.out.below hBV)
  go_upto_region 12 with fail
  rw [← hV]
  clear hV hBV
  obtain ⟨rc0, rf0⟩ := H5.out.rd.cell 0 _ rfl
  obtain ⟨rc1, rf1⟩ := H5.out.rd.cell 1 _ rfl
  have hfl := xb6 s r b pr.e r.pos V H5.out.rd
  have HP : Hid (PL s r.pos k P ts (if r.e = 0 then { r with e := pr.e, place := r.pos } else r) (.mk 0 xad 0 0 0 [])) := xab (.inl HFA.out)
  generalize (if r.e = 0 then { r with e := pr.e, place := r.pos } else r) = rr at *
  go_wp2_with fail
  refine hfl.mono ?_
  rintro e9 w9 ⟨⟨v9, rfl⟩, hI9, hG9⟩
  have H9 := xab (H5.out.step hG9 hI9)
  clear hfl hI9 hG9 rc0 rf0 rc1 rf1
  obtain ⟨zc0, zf0⟩ := H9.out.zb.cell 0 _ rfl
  obtain ⟨zc1, zf1⟩ := H9.out.zb.cell 1 _ rfl
  obtain ⟨zc2, zf2⟩ := H9.out.zb.cell 2 _ rfl
  obtain ⟨zc3, zf3⟩ := H9.out.zb.cell 3 _ rfl
  obtain ⟨zc4, zf4⟩ := H9.out.zb.cell 4 _ rfl
  obtain ⟨zc5, zf5⟩ := H9.out.zb.cell 5 _ rfl
  obtain ⟨zc6, zf6⟩ := H9.out.zb.cell 6 _ rfl
  obtain ⟨zc7, zf7⟩ := H9.out.zb.cell 7 _ rfl
  obtain ⟨zc8, zf8⟩ := H9.out.zb.cell 8 _ rfl
  go_wp2
  obtain ⟨Y, hY⟩ : ∃ Y, Y = (((((((((w9).setCell ⟨w.heap.size, 0, none⟩ (.int .i64 0)).setCell ⟨w.heap.size, 1, none⟩ (.int .u64 0)).setCell ⟨w.heap.size, 2, none⟩ (.int .u64 0)).setCell ⟨w.heap.size, 3, none⟩ (.int .u64 0)).setCell ⟨w.heap.size, 4, none⟩ (.int .u64 0)).setCell ⟨w.heap.size, 5, none⟩ (.int .i64 0)).setCell ⟨w.heap.size, 6, none⟩ (.int .i64 0)).setCell ⟨w.heap.size, 7, none⟩ (.int .i64 0)).setCell ⟨w.heap.size, 8, none⟩ (.slice none 0 0) := ⟨_, rfl⟩
  have hYo : RO s b w (fun _ => False) Y rr (.mk 0 xad 0 0 0 []) (.slice none 0 0) ∧ Blk9 Y w.heap.size (xbf (.mk 0 xad 0 0 0 []) (.slice none 0 0)) := by rw [hY]; exact H9.out.answer (.mk 0 xad 0 0 0 []) (Kids.none _ _)
  rw [← hY]
  clear hY
  have o0 : Y.cell? ⟨w.heap.size, 0, none⟩ = some (.int .i64 0) := (hYo.2.cell 0 _ rfl).1
  have o1 : Y.cell? ⟨w.heap.size, 1, none⟩ = some (.int .u64 0) := (hYo.2.cell 1 _ rfl).1
  have o2 : Y.cell? ⟨w.heap.size, 2, none⟩ = some (.int .u64 0) := (hYo.2.cell 2 _ rfl).1
  have o3 : Y.cell? ⟨w.heap.size, 3, none⟩ = some (.int .u64 0) := (hYo.2.cell 3 _ rfl).1
  have o4 : Y.cell? ⟨w.heap.size, 4, none⟩ = some (.int .u64 0) := (hYo.2.cell 4 _ rfl).1
  have o5 : Y.cell? ⟨w.heap.size, 5, none⟩ = some (.int .i64 0) := (hYo.2.cell 5 _ rfl).1
  have o6 : Y.cell? ⟨w.heap.size, 6, none⟩ = some (.int .i64 0) := (hYo.2.cell 6 _ rfl).1
  have o7 : Y.cell? ⟨w.heap.size, 7, none⟩ = some (.int .i64 0) := (hYo.2.cell 7 _ rfl).1
  have o8 : Y.cell? ⟨w.heap.size, 8, none⟩ = some (.slice none 0 0) := (hYo.2.cell 8 _ rfl).1
  refine bodyPost_ret (v := .agg #[.int .i64 0, .int .u64 0, .int .u64 0, .int .u64 0, .int .u64 0, .int .i64 0, .int .i64 0, .int .i64 0, .slice none 0 0]) (by simp [results, Tryz.results25, go_sem, o0, o1, o2, o3, o4, o5, o6, o7, o8]; try rfl) rfl ?_
  exact ⟨rr, (.mk 0 xad 0 0 0 []), _, rfl, hYo.1, HP.out⟩
theorem xn7 {s : ByteArray} {r : Rd} {P : Ps} {k : Nat} (hk : xaf s r.pos k = xaf s r.pos (if k = 4 then 4 else 2)) (hb : seeB s ⟨#[92, 123]⟩ r.pos = true ∨ seeB s ⟨#[92, 125]⟩ r.pos = true) {r' : Rd} (h1 : r'.e = 9) (h2 : r'.place = r.pos) : Fails s r.pos k P r' := by
 have hrb : repB (if k = 4 then 4 else 2) = false := by split <;> rfl
 have hx : r.pos + 1 < s.size ∧ xac s r.pos = 92 ∧ (xac s (r.pos + 1) = 123 ∨ xac s (r.pos + 1) = 125) := by
  rcases hb with hb | hb
  ·rw [see2] at hb
   have h1 := of_decide_eq_true hb
   exact ⟨h1.1, h1.2.1, .inl h1.2.2⟩
  ·rw [see2] at hb
   have h1 := of_decide_eq_true hb
   exact ⟨h1.1, h1.2.1, .inr h1.2.2⟩
 refine xc2 (e := 9) (by omega) (by decide) ?_ h1 h2
 rw [hk]
 unfold xaf
 rw [if_pos hx.2.1]
 unfold xbr
 rw [if_neg (by omega)]
 unfold escB
 rw [hrb]
 rcases hx.2.2 with e | e
 ·rw [e]; rfl
 ·rw [e]; rfl
theorem xjj (s : ByteArray) (hs : s.size ≤ 512) (b : Nat) (r : Rd) (P : Ps) (k : Nat) (ts : List Tr) (h : Sim s r P k) (hi : r.pos < s.size) (w : World) (hI : IsRd w b s r) (ff bb : Bool) (hk : xaf s r.pos k = xaf s r.pos (if k = 4 then 4 else 2)) (c1 : seeB s ⟨#[92, 40]⟩ r.pos = false) (hb : seeB s ⟨#[92, 123]⟩ r.pos = true ∨ seeB s ⟨#[92, 125]⟩ r.pos = true) :
  Calls Tryz.prog 25 #[.pointer (some ⟨b, 0, none⟩), .bool ff, .bool bb] w fun x w' => ∃ r' t u, x = .returned (xcm t u) ∧ RO s b w (fun _ => False) w' r' t u ∧ PL s r.pos k P ts r' t := by
 have hfe := xc5 h.e 9 r.pos
 have hfa : Fails s r.pos k P (if r.e = 0 then { r with e := 9, place := r.pos } else r) := xn7 hk hb hfe.1 hfe.2
 have HFA := xab hfa
 clear hfa hfe hk
 have hs30 : s.size ≤ 1073741824 := by omega
 have p0 : (0 : Int) ≤ (r.pos : Int) := by omega
 have p1 : (r.pos : Int) < (s.size : Int) := by omega
 obtain ⟨X, hX⟩ : ∃ X, X = w.alloc (.cells #[.int .i64 0, .int .u64 0, .int .u64 0, .int .u64 0, .int .u64 0, .int .i64 0, .int .i64 0, .int .i64 0, .slice none 0 0] 36) := ⟨_, rfl⟩
 have HX : Hid (ZI s b w X r) := by rw [hX]; exact ZI.start hI
 have hXs : X.heap.size = w.heap.size + 1 := by rw [hX, World.size_alloc]
 have hBX : Below w.heap.size w X := by rw [hX]; exact (Below.refl _ _).alloc (Nat.le_refl _) _
 obtain ⟨rc0, rf0⟩ := HX.out.rd.cell 0 _ rfl
 obtain ⟨rc1, rf1⟩ := HX.out.rd.cell 1 _ rfl
 go_enter Tryz.func25, Tryz.ntmps25
 go_upto_region 1 with fail
 rw [← hX]
 clear hX
 go_wp2_with fail
 have hS1 := xa0 s ⟨#[92, 40]⟩ hs30 (by decide) r (by omega) b X HX.out.rd
 rw [c1] at hS1
 refine hS1.mono ?_
 rintro e1 w1 ⟨rfl, n1, rfl⟩
 have H1 := xab (HX.out.drew n1)
 have hs1 : (X.drewN n1).heap.size = X.heap.size := rfl
 have hB1 : Below w.heap.size w (X.drewN n1) := hBX.trans (xap _ _ _)
 clear hS1 rc0 rf0 rc1 rf1
 generalize X.drewN n1 = w1 at *
 obtain ⟨rc0, rf0⟩ := H1.out.rd.cell 0 _ rfl
 obtain ⟨rc1, rf1⟩ := H1.out.rd.cell 1 _ rfl
 clear c1
 go_wp2_with fail
 cases c2 : seeB s ⟨#[92, 123]⟩ r.pos with
 | true =>
  have hS2 := xa0 s ⟨#[92, 123]⟩ hs30 (by decide) r (by omega) b w1 H1.out.rd
  rw [c2] at hS2
  refine hS2.mono ?_
  rintro e2 w2 ⟨rfl, n2, rfl⟩
  have H2 := xab (H1.out.drew n2)
  have hs2 : (w1.drewN n2).heap.size = w1.heap.size := rfl
  have hB2 : Below w.heap.size w (w1.drewN n2) := hB1.trans (xap _ _ _)
  clear hS2 rc0 rf0 rc1 rf1
  generalize w1.drewN n2 = w2 at *
  obtain ⟨rc0, rf0⟩ := H2.out.rd.cell 0 _ rfl
  obtain ⟨rc1, rf1⟩ := H2.out.rd.cell 1 _ rfl
  clear c2 hb
  have hfl := xb6 s r b 9 r.pos w2 H2.out.rd
  have HP : Hid (PL s r.pos k P ts (if r.e = 0 then { r with e := 9, place := r.pos } else r) (.mk 0 xad 0 0 0 [])) := xab (.inl HFA.out)
  generalize (if r.e = 0 then { r with e := 9, place := r.pos } else r) = rr at *
  go_wp2_with fail
  refine hfl.mono ?_
  rintro e9 w9 ⟨⟨v9, rfl⟩, hI9, hG9⟩
  have H9 := xab (H2.out.step hG9 hI9)
  clear hfl hI9 hG9 rc0 rf0 rc1 rf1
  obtain ⟨zc0, zf0⟩ := H9.out.zb.cell 0 _ rfl
  obtain ⟨zc1, zf1⟩ := H9.out.zb.cell 1 _ rfl
  obtain ⟨zc2, zf2⟩ := H9.out.zb.cell 2 _ rfl
  obtain ⟨zc3, zf3⟩ := H9.out.zb.cell 3 _ rfl
  obtain ⟨zc4, zf4⟩ := H9.out.zb.cell 4 _ rfl
  obtain ⟨zc5, zf5⟩ := H9.out.zb.cell 5 _ rfl
  obtain ⟨zc6, zf6⟩ := H9.out.zb.cell 6 _ rfl
  obtain ⟨zc7, zf7⟩ := H9.out.zb.cell 7 _ rfl
  obtain ⟨zc8, zf8⟩ := H9.out.zb.cell 8 _ rfl
  go_wp2
  obtain ⟨Y, hY⟩ : ∃ Y, Y = (((((((((w9).setCell ⟨w.heap.size, 0, none⟩ (.int .i64 0)).setCell ⟨w.heap.size, 1, none⟩ (.int .u64 0)).setCell ⟨w.heap.size, 2, none⟩ (.int .u64 0)).setCell ⟨w.heap.size, 3, none⟩ (.int .u64 0)).setCell ⟨w.heap.size, 4, none⟩ (.int .u64 0)).setCell ⟨w.heap.size, 5, none⟩ (.int .i64 0)).setCell ⟨w.heap.size, 6, none⟩ (.int .i64 0)).setCell ⟨w.heap.size, 7, none⟩ (.int .i64 0)).setCell ⟨w.heap.size, 8, none⟩ (.slice none 0 0) := ⟨_, rfl⟩
  have hYo : RO s b w (fun _ => False) Y rr (.mk 0 xad 0 0 0 []) (.slice none 0 0) ∧ Blk9 Y w.heap.size (xbf (.mk 0 xad 0 0 0 []) (.slice none 0 0)) := by rw [hY]; exact H9.out.answer (.mk 0 xad 0 0 0 []) (Kids.none _ _)
  rw [← hY]
  clear hY
  have o0 : Y.cell? ⟨w.heap.size, 0, none⟩ = some (.int .i64 0) := (hYo.2.cell 0 _ rfl).1
  have o1 : Y.cell? ⟨w.heap.size, 1, none⟩ = some (.int .u64 0) := (hYo.2.cell 1 _ rfl).1
  have o2 : Y.cell? ⟨w.heap.size, 2, none⟩ = some (.int .u64 0) := (hYo.2.cell 2 _ rfl).1
  have o3 : Y.cell? ⟨w.heap.size, 3, none⟩ = some (.int .u64 0) := (hYo.2.cell 3 _ rfl).1
  have o4 : Y.cell? ⟨w.heap.size, 4, none⟩ = some (.int .u64 0) := (hYo.2.cell 4 _ rfl).1
  have o5 : Y.cell? ⟨w.heap.size, 5, none⟩ = some (.int .i64 0) := (hYo.2.cell 5 _ rfl).1
  have o6 : Y.cell? ⟨w.heap.size, 6, none⟩ = some (.int .i64 0) := (hYo.2.cell 6 _ rfl).1
  have o7 : Y.cell? ⟨w.heap.size, 7, none⟩ = some (.int .i64 0) := (hYo.2.cell 7 _ rfl).1
  have o8 : Y.cell? ⟨w.heap.size, 8, none⟩ = some (.slice none 0 0) := (hYo.2.cell 8 _ rfl).1
  refine bodyPost_ret (v := .agg #[.int .i64 0, .int .u64 0, .int .u64 0, .int .u64 0, .int .u64 0, .int .i64 0, .int .i64 0, .int .i64 0, .slice none 0 0]) (by simp [results, Tryz.results25, go_sem, o0, o1, o2, o3, o4, o5, o6, o7, o8]; try rfl) rfl ?_
  exact ⟨rr, (.mk 0 xad 0 0 0 []), _, rfl, hYo.1, HP.out⟩
 | false =>
  have hS2 := xa0 s ⟨#[92, 123]⟩ hs30 (by decide) r (by omega) b w1 H1.out.rd
  rw [c2] at hS2
  refine hS2.mono ?_
  rintro e2 w2 ⟨rfl, n2, rfl⟩
  have H2 := xab (H1.out.drew n2)
  have hs2 : (w1.drewN n2).heap.size = w1.heap.size := rfl
  have hB2 : Below w.heap.size w (w1.drewN n2) := hB1.trans (xap _ _ _)
  clear hS2 rc0 rf0 rc1 rf1
  generalize w1.drewN n2 = w2 at *
  obtain ⟨rc0, rf0⟩ := H2.out.rd.cell 0 _ rfl
  obtain ⟨rc1, rf1⟩ := H2.out.rd.cell 1 _ rfl
  have c3 : seeB s ⟨#[92, 125]⟩ r.pos = true := by rcases hb with hb | hb; rw [c2] at hb; cases hb; exact hb
  clear hb c2
  go_wp2_with fail
  have hS3 := xa0 s ⟨#[92, 125]⟩ hs30 (by decide) r (by omega) b w2 H2.out.rd
  rw [c3] at hS3
  refine hS3.mono ?_
  rintro e3 w3 ⟨rfl, n3, rfl⟩
  have H3 := xab (H2.out.drew n3)
  have hs3 : (w2.drewN n3).heap.size = w2.heap.size := rfl
  have hB3 : Below w.heap.size w (w2.drewN n3) := hB2.trans (xap _ _ _)
  clear hS3 rc0 rf0 rc1 rf1
  generalize w2.drewN n3 = w3 at *
  obtain ⟨rc0, rf0⟩ := H3.out.rd.cell 0 _ rfl
  obtain ⟨rc1, rf1⟩ := H3.out.rd.cell 1 _ rfl
  clear c3
  have hfl := xb6 s r b 9 r.pos w3 H3.out.rd
  have HP : Hid (PL s r.pos k P ts (if r.e = 0 then { r with e := 9, place := r.pos } else r) (.mk 0 xad 0 0 0 [])) := xab (.inl HFA.out)
  generalize (if r.e = 0 then { r with e := 9, place := r.pos } else r) = rr at *
  go_wp2_with fail
  refine hfl.mono ?_
  rintro e9 w9 ⟨⟨v9, rfl⟩, hI9, hG9⟩
  have H9 := xab (H3.out.step hG9 hI9)
  clear hfl hI9 hG9 rc0 rf0 rc1 rf1
  obtain ⟨zc0, zf0⟩ := H9.out.zb.cell 0 _ rfl
  obtain ⟨zc1, zf1⟩ := H9.out.zb.cell 1 _ rfl
  obtain ⟨zc2, zf2⟩ := H9.out.zb.cell 2 _ rfl
  obtain ⟨zc3, zf3⟩ := H9.out.zb.cell 3 _ rfl
  obtain ⟨zc4, zf4⟩ := H9.out.zb.cell 4 _ rfl
  obtain ⟨zc5, zf5⟩ := H9.out.zb.cell 5 _ rfl
  obtain ⟨zc6, zf6⟩ := H9.out.zb.cell 6 _ rfl
  obtain ⟨zc7, zf7⟩ := H9.out.zb.cell 7 _ rfl
  obtain ⟨zc8, zf8⟩ := H9.out.zb.cell 8 _ rfl
  go_wp2
  obtain ⟨Y, hY⟩ : ∃ Y, Y = (((((((((w9).setCell ⟨w.heap.size, 0, none⟩ (.int .i64 0)).setCell ⟨w.heap.size, 1, none⟩ (.int .u64 0)).setCell ⟨w.heap.size, 2, none⟩ (.int .u64 0)).setCell ⟨w.heap.size, 3, none⟩ (.int .u64 0)).setCell ⟨w.heap.size, 4, none⟩ (.int .u64 0)).setCell ⟨w.heap.size, 5, none⟩ (.int .i64 0)).setCell ⟨w.heap.size, 6, none⟩ (.int .i64 0)).setCell ⟨w.heap.size, 7, none⟩ (.int .i64 0)).setCell ⟨w.heap.size, 8, none⟩ (.slice none 0 0) := ⟨_, rfl⟩
  have hYo : RO s b w (fun _ => False) Y rr (.mk 0 xad 0 0 0 []) (.slice none 0 0) ∧ Blk9 Y w.heap.size (xbf (.mk 0 xad 0 0 0 []) (.slice none 0 0)) := by rw [hY]; exact H9.out.answer (.mk 0 xad 0 0 0 []) (Kids.none _ _)
  rw [← hY]
  clear hY
  have o0 : Y.cell? ⟨w.heap.size, 0, none⟩ = some (.int .i64 0) := (hYo.2.cell 0 _ rfl).1
  have o1 : Y.cell? ⟨w.heap.size, 1, none⟩ = some (.int .u64 0) := (hYo.2.cell 1 _ rfl).1
  have o2 : Y.cell? ⟨w.heap.size, 2, none⟩ = some (.int .u64 0) := (hYo.2.cell 2 _ rfl).1
  have o3 : Y.cell? ⟨w.heap.size, 3, none⟩ = some (.int .u64 0) := (hYo.2.cell 3 _ rfl).1
  have o4 : Y.cell? ⟨w.heap.size, 4, none⟩ = some (.int .u64 0) := (hYo.2.cell 4 _ rfl).1
  have o5 : Y.cell? ⟨w.heap.size, 5, none⟩ = some (.int .i64 0) := (hYo.2.cell 5 _ rfl).1
  have o6 : Y.cell? ⟨w.heap.size, 6, none⟩ = some (.int .i64 0) := (hYo.2.cell 6 _ rfl).1
  have o7 : Y.cell? ⟨w.heap.size, 7, none⟩ = some (.int .i64 0) := (hYo.2.cell 7 _ rfl).1
  have o8 : Y.cell? ⟨w.heap.size, 8, none⟩ = some (.slice none 0 0) := (hYo.2.cell 8 _ rfl).1
  refine bodyPost_ret (v := .agg #[.int .i64 0, .int .u64 0, .int .u64 0, .int .u64 0, .int .u64 0, .int .i64 0, .int .i64 0, .int .i64 0, .slice none 0 0]) (by simp [results, Tryz.results25, go_sem, o0, o1, o2, o3, o4, o5, o6, o7, o8]; try rfl) rfl ?_
  exact ⟨rr, (.mk 0 xad 0 0 0 []), _, rfl, hYo.1, HP.out⟩
theorem part_esc (s : ByteArray) (hs : s.size ≤ 512) (b : Nat) (r : Rd) (P : Ps) (k : Nat) (ts : List Tr) (h : Sim s r P k) (hts : P.top.parts = ts) (hi : r.pos < s.size) (w : World) (hI : IsRd w b s r) (ff bb : Bool) (hk : xaf s r.pos k = xaf s r.pos (if k = 4 then 4 else 2)) (c1 : seeB s ⟨#[92, 40]⟩ r.pos = false) (c2 : seeB s ⟨#[92, 123]⟩ r.pos = false) (c3 : seeB s ⟨#[92, 125]⟩ r.pos = false) (c4 : seeB s ⟨#[92, 41]⟩ r.pos = false) (hb : xac s r.pos = 92) :
  Calls Tryz.prog 25 #[.pointer (some ⟨b, 0, none⟩), .bool ff, .bool bb] w fun x w' => ∃ r' t u, x = .returned (xcm t u) ∧ RO s b w (fun _ => False) w' r' t u ∧ PL s r.pos k P ts r' t := by
 obtain ⟨t, ht1, ht2, ht3⟩ := esc_join hs h hts hi hk hb c1 c4 c2 c3
 have hb2 : (s[r.pos].toNat : Int) = 92 := by rw [← xah hi]; exact hb
 have HT := xab (And.intro ht1 (And.intro ht2 ht3))
 have hzz : 0 ≤ r.size ∧ r.size ≤ 1000000000 := by have h8 := h.z; have h7 := h.well.good.big; have h6 := h.well.good.bounds; omega
 clear ht1 ht2 ht3 hk c4 hb
 have hs30 : s.size ≤ 1073741824 := by omega
 have p0 : (0 : Int) ≤ (r.pos : Int) := by omega
 have p1 : (r.pos : Int) < (s.size : Int) := by omega
 obtain ⟨X, hX⟩ : ∃ X, X = w.alloc (.cells #[.int .i64 0, .int .u64 0, .int .u64 0, .int .u64 0, .int .u64 0, .int .i64 0, .int .i64 0, .int .i64 0, .slice none 0 0] 36) := ⟨_, rfl⟩
 have HX : Hid (ZI s b w X r) := by rw [hX]; exact ZI.start hI
 have hXs : X.heap.size = w.heap.size + 1 := by rw [hX, World.size_alloc]
 have hBX : Below w.heap.size w X := by rw [hX]; exact (Below.refl _ _).alloc (Nat.le_refl _) _
 obtain ⟨rc0, rf0⟩ := HX.out.rd.cell 0 _ rfl
 obtain ⟨rc1, rf1⟩ := HX.out.rd.cell 1 _ rfl
 go_enter Tryz.func25, Tryz.ntmps25
 go_upto_region 1 with fail
 rw [← hX]
 clear hX
 go_wp2_with fail
 have hS1 := xa0 s ⟨#[92, 40]⟩ hs30 (by decide) r (by omega) b X HX.out.rd
 rw [c1] at hS1
 refine hS1.mono ?_
 rintro e1 w1 ⟨rfl, n1, rfl⟩
 have H1 := xab (HX.out.drew n1)
 have hs1 : (X.drewN n1).heap.size = X.heap.size := rfl
 have hB1 : Below w.heap.size w (X.drewN n1) := hBX.trans (xap _ _ _)
 clear hS1 rc0 rf0 rc1 rf1
 generalize X.drewN n1 = w1 at *
 obtain ⟨rc0, rf0⟩ := H1.out.rd.cell 0 _ rfl
 obtain ⟨rc1, rf1⟩ := H1.out.rd.cell 1 _ rfl
 go_wp2_with fail
 have hS2 := xa0 s ⟨#[92, 123]⟩ hs30 (by decide) r (by omega) b w1 H1.out.rd
 rw [c2] at hS2
 refine hS2.mono ?_
 rintro e2 w2 ⟨rfl, n2, rfl⟩
 have H2 := xab (H1.out.drew n2)
 have hs2 : (w1.drewN n2).heap.size = w1.heap.size := rfl
 have hB2 : Below w.heap.size w (w1.drewN n2) := hB1.trans (xap _ _ _)
 clear hS2 rc0 rf0 rc1 rf1
 generalize w1.drewN n2 = w2 at *
 obtain ⟨rc0, rf0⟩ := H2.out.rd.cell 0 _ rfl
 obtain ⟨rc1, rf1⟩ := H2.out.rd.cell 1 _ rfl
 go_wp2_with fail
 have hS3 := xa0 s ⟨#[92, 125]⟩ hs30 (by decide) r (by omega) b w2 H2.out.rd
 rw [c3] at hS3
 refine hS3.mono ?_
 rintro e3 w3 ⟨rfl, n3, rfl⟩
 have H3 := xab (H2.out.drew n3)
 have hs3 : (w2.drewN n3).heap.size = w2.heap.size := rfl
 have hB3 : Below w.heap.size w (w2.drewN n3) := hB2.trans (xap _ _ _)
 clear hS3 rc0 rf0 rc1 rf1
 generalize w2.drewN n3 = w3 at *
 obtain ⟨rc0, rf0⟩ := H3.out.rd.cell 0 _ rfl
 obtain ⟨rc1, rf1⟩ := H3.out.rd.cell 1 _ rfl
 have hes := xqb s hs30 r hi hzz b w3 H3.out.rd
 rw [HT.out.1] at hes
 clear c1 c2 c3
 go_wp2_with fail
 refine hes.mono ?_
 rintro e4 w4 ⟨rfl, hI4, hG4⟩
 have H4 := xab (H3.out.step hG4 hI4)
 clear hes hI4 hG4 rc0 rf0 rc1 rf1
 obtain ⟨zc0, zf0⟩ := H4.out.zb.cell 0 _ rfl
 obtain ⟨zc1, zf1⟩ := H4.out.zb.cell 1 _ rfl
 obtain ⟨zc2, zf2⟩ := H4.out.zb.cell 2 _ rfl
 obtain ⟨zc3, zf3⟩ := H4.out.zb.cell 3 _ rfl
 obtain ⟨zc4, zf4⟩ := H4.out.zb.cell 4 _ rfl
 obtain ⟨zc5, zf5⟩ := H4.out.zb.cell 5 _ rfl
 obtain ⟨zc6, zf6⟩ := H4.out.zb.cell 6 _ rfl
 obtain ⟨zc7, zf7⟩ := H4.out.zb.cell 7 _ rfl
 obtain ⟨zc8, zf8⟩ := H4.out.zb.cell 8 _ rfl
 have HK : Hid (Kids w4 (fun g => w.heap.size < g) (.slice none 0 0) t.kids) := xab (by rw [HT.out.2.1]; exact Kids.none _ _)
 go_wp2
 obtain ⟨Y, hY⟩ : ∃ Y, Y = (((((((((w4).setCell ⟨w.heap.size, 0, none⟩ (.int .i64 t.kind)).setCell ⟨w.heap.size, 1, none⟩ (.int .u64 (wd t.q 0))).setCell ⟨w.heap.size, 2, none⟩ (.int .u64 (wd t.q 1))).setCell ⟨w.heap.size, 3, none⟩ (.int .u64 (wd t.q 2))).setCell ⟨w.heap.size, 4, none⟩ (.int .u64 (wd t.q 3))).setCell ⟨w.heap.size, 5, none⟩ (.int .i64 t.lo)).setCell ⟨w.heap.size, 6, none⟩ (.int .i64 t.hi)).setCell ⟨w.heap.size, 7, none⟩ (.int .i64 t.grp)).setCell ⟨w.heap.size, 8, none⟩ (.slice none 0 0) := ⟨_, rfl⟩
 have hYo : RO s b w (fun _ => False) Y (escR s r).1 t (.slice none 0 0) ∧ Blk9 Y w.heap.size (xbf t (.slice none 0 0)) := by rw [hY]; exact H4.out.answer t (HK.out)
 rw [← hY]
 clear hY
 have o0 : Y.cell? ⟨w.heap.size, 0, none⟩ = some (.int .i64 t.kind) := (hYo.2.cell 0 _ rfl).1
 have o1 : Y.cell? ⟨w.heap.size, 1, none⟩ = some (.int .u64 (wd t.q 0)) := (hYo.2.cell 1 _ rfl).1
 have o2 : Y.cell? ⟨w.heap.size, 2, none⟩ = some (.int .u64 (wd t.q 1)) := (hYo.2.cell 2 _ rfl).1
 have o3 : Y.cell? ⟨w.heap.size, 3, none⟩ = some (.int .u64 (wd t.q 2)) := (hYo.2.cell 3 _ rfl).1
 have o4 : Y.cell? ⟨w.heap.size, 4, none⟩ = some (.int .u64 (wd t.q 3)) := (hYo.2.cell 4 _ rfl).1
 have o5 : Y.cell? ⟨w.heap.size, 5, none⟩ = some (.int .i64 t.lo) := (hYo.2.cell 5 _ rfl).1
 have o6 : Y.cell? ⟨w.heap.size, 6, none⟩ = some (.int .i64 t.hi) := (hYo.2.cell 6 _ rfl).1
 have o7 : Y.cell? ⟨w.heap.size, 7, none⟩ = some (.int .i64 t.grp) := (hYo.2.cell 7 _ rfl).1
 have o8 : Y.cell? ⟨w.heap.size, 8, none⟩ = some (.slice none 0 0) := (hYo.2.cell 8 _ rfl).1
 refine bodyPost_ret (v := .agg #[.int .i64 t.kind, .int .u64 (wd t.q 0), .int .u64 (wd t.q 1), .int .u64 (wd t.q 2), .int .u64 (wd t.q 3), .int .i64 t.lo, .int .i64 t.hi, .int .i64 t.grp, .slice none 0 0]) (by simp [results, Tryz.results25, go_sem, o0, o1, o2, o3, o4, o5, o6, o7, o8]; try rfl) rfl ?_
 exact ⟨(escR s r).1, t, _, rfl, hYo.1, HT.out.2.2⟩
theorem part_bol (s : ByteArray) (hs : s.size ≤ 512) (b : Nat) (r : Rd) (P : Ps) (k : Nat) (ts : List Tr) (h : Sim s r P k) (hts : P.top.parts = ts) (hi : r.pos < s.size) (w : World) (hI : IsRd w b s r) (bb : Bool) (hk : xaf s r.pos k = ⟨2, r.pos, r.pos + 1, 0, xad, 0, 0, 0⟩) (c1 : seeB s ⟨#[92, 40]⟩ r.pos = false) (c2 : seeB s ⟨#[92, 123]⟩ r.pos = false) (c3 : seeB s ⟨#[92, 125]⟩ r.pos = false) (hb : xac s r.pos = 94) :
  Calls Tryz.prog 25 #[.pointer (some ⟨b, 0, none⟩), .bool true, .bool bb] w fun x w' => ∃ r' t u, x = .returned (xcm t u) ∧ RO s b w (fun _ => False) w' r' t u ∧ PL s r.pos k P ts r' t := by
 have hl := leaf_bol hs h hts hi hk
 have hb2 : (s[r.pos].toNat : Int) = 94 := by rw [← xah hi]; exact hb
 have HL := xab hl
 clear hl hk hb
 have hs30 : s.size ≤ 1073741824 := by omega
 have p0 : (0 : Int) ≤ (r.pos : Int) := by omega
 have p1 : (r.pos : Int) < (s.size : Int) := by omega
 obtain ⟨X, hX⟩ : ∃ X, X = w.alloc (.cells #[.int .i64 0, .int .u64 0, .int .u64 0, .int .u64 0, .int .u64 0, .int .i64 0, .int .i64 0, .int .i64 0, .slice none 0 0] 36) := ⟨_, rfl⟩
 have HX : Hid (ZI s b w X r) := by rw [hX]; exact ZI.start hI
 have hXs : X.heap.size = w.heap.size + 1 := by rw [hX, World.size_alloc]
 have hBX : Below w.heap.size w X := by rw [hX]; exact (Below.refl _ _).alloc (Nat.le_refl _) _
 obtain ⟨rc0, rf0⟩ := HX.out.rd.cell 0 _ rfl
 obtain ⟨rc1, rf1⟩ := HX.out.rd.cell 1 _ rfl
 go_enter Tryz.func25, Tryz.ntmps25
 go_upto_region 1 with fail
 rw [← hX]
 clear hX
 go_wp2_with fail
 have hS1 := xa0 s ⟨#[92, 40]⟩ hs30 (by decide) r (by omega) b X HX.out.rd
 rw [c1] at hS1
 refine hS1.mono ?_
 rintro e1 w1 ⟨rfl, n1, rfl⟩
 have H1 := xab (HX.out.drew n1)
 have hs1 : (X.drewN n1).heap.size = X.heap.size := rfl
 have hB1 : Below w.heap.size w (X.drewN n1) := hBX.trans (xap _ _ _)
 clear hS1 rc0 rf0 rc1 rf1
 generalize X.drewN n1 = w1 at *
 obtain ⟨rc0, rf0⟩ := H1.out.rd.cell 0 _ rfl
 obtain ⟨rc1, rf1⟩ := H1.out.rd.cell 1 _ rfl
 go_wp2_with fail
 have hS2 := xa0 s ⟨#[92, 123]⟩ hs30 (by decide) r (by omega) b w1 H1.out.rd
 rw [c2] at hS2
 refine hS2.mono ?_
 rintro e2 w2 ⟨rfl, n2, rfl⟩
 have H2 := xab (H1.out.drew n2)
 have hs2 : (w1.drewN n2).heap.size = w1.heap.size := rfl
 have hB2 : Below w.heap.size w (w1.drewN n2) := hB1.trans (xap _ _ _)
 clear hS2 rc0 rf0 rc1 rf1
 generalize w1.drewN n2 = w2 at *
 obtain ⟨rc0, rf0⟩ := H2.out.rd.cell 0 _ rfl
 obtain ⟨rc1, rf1⟩ := H2.out.rd.cell 1 _ rfl
 go_wp2_with fail
 have hS3 := xa0 s ⟨#[92, 125]⟩ hs30 (by decide) r (by omega) b w2 H2.out.rd
 rw [c3] at hS3
 refine hS3.mono ?_
 rintro e3 w3 ⟨rfl, n3, rfl⟩
 have H3 := xab (H2.out.drew n3)
 have hs3 : (w2.drewN n3).heap.size = w2.heap.size := rfl
 have hB3 : Below w.heap.size w (w2.drewN n3) := hB2.trans (xap _ _ _)
 clear hS3 rc0 rf0 rc1 rf1
 generalize w2.drewN n3 = w3 at *
 obtain ⟨rc0, rf0⟩ := H3.out.rd.cell 0 _ rfl
 obtain ⟨rc1, rf1⟩ := H3.out.rd.cell 1 _ rfl
 have k5 : IntKind.i64.wrap ((r.pos : Int) + 1) = (r.pos : Int) + 1 := by rw [IntKind.wrap_i64]; omega
 go_upto_region 19 with fail
 obtain ⟨V, hV⟩ : ∃ V, V = w3.setCell ⟨b, 1, none⟩ (.int .i64 ((r.pos : Int) + 1)) := ⟨_, rfl⟩
 have H4 : Hid (ZI s b w V { r with pos := r.pos + 1 }) := by rw [hV]; exact H3.out.put 1 _ rfl
 rw [← hV]
 clear hV c1 c2 c3 rc0 rf0 rc1 rf1
 obtain ⟨rc0, rf0⟩ := H4.out.rd.cell 0 _ rfl
 obtain ⟨rc1, rf1⟩ := H4.out.rd.cell 1 _ rfl
 clear rc0 rf0 rc1 rf1
 obtain ⟨zc0, zf0⟩ := H4.out.zb.cell 0 _ rfl
 obtain ⟨zc1, zf1⟩ := H4.out.zb.cell 1 _ rfl
 obtain ⟨zc2, zf2⟩ := H4.out.zb.cell 2 _ rfl
 obtain ⟨zc3, zf3⟩ := H4.out.zb.cell 3 _ rfl
 obtain ⟨zc4, zf4⟩ := H4.out.zb.cell 4 _ rfl
 obtain ⟨zc5, zf5⟩ := H4.out.zb.cell 5 _ rfl
 obtain ⟨zc6, zf6⟩ := H4.out.zb.cell 6 _ rfl
 obtain ⟨zc7, zf7⟩ := H4.out.zb.cell 7 _ rfl
 obtain ⟨zc8, zf8⟩ := H4.out.zb.cell 8 _ rfl
 go_wp2
 obtain ⟨Y, hY⟩ : ∃ Y, Y = (((((((((V).setCell ⟨w.heap.size, 0, none⟩ (.int .i64 2)).setCell ⟨w.heap.size, 1, none⟩ (.int .u64 0)).setCell ⟨w.heap.size, 2, none⟩ (.int .u64 0)).setCell ⟨w.heap.size, 3, none⟩ (.int .u64 0)).setCell ⟨w.heap.size, 4, none⟩ (.int .u64 0)).setCell ⟨w.heap.size, 5, none⟩ (.int .i64 0)).setCell ⟨w.heap.size, 6, none⟩ (.int .i64 0)).setCell ⟨w.heap.size, 7, none⟩ (.int .i64 0)).setCell ⟨w.heap.size, 8, none⟩ (.slice none 0 0) := ⟨_, rfl⟩
 have hYo : RO s b w (fun _ => False) Y { r with pos := r.pos + 1 } bolT (.slice none 0 0) ∧ Blk9 Y w.heap.size (xbf bolT (.slice none 0 0)) := by rw [hY]; exact H4.out.answer bolT (Kids.none _ _)
 rw [← hY]
 clear hY
 have o0 : Y.cell? ⟨w.heap.size, 0, none⟩ = some (.int .i64 2) := (hYo.2.cell 0 _ rfl).1
 have o1 : Y.cell? ⟨w.heap.size, 1, none⟩ = some (.int .u64 0) := (hYo.2.cell 1 _ rfl).1
 have o2 : Y.cell? ⟨w.heap.size, 2, none⟩ = some (.int .u64 0) := (hYo.2.cell 2 _ rfl).1
 have o3 : Y.cell? ⟨w.heap.size, 3, none⟩ = some (.int .u64 0) := (hYo.2.cell 3 _ rfl).1
 have o4 : Y.cell? ⟨w.heap.size, 4, none⟩ = some (.int .u64 0) := (hYo.2.cell 4 _ rfl).1
 have o5 : Y.cell? ⟨w.heap.size, 5, none⟩ = some (.int .i64 0) := (hYo.2.cell 5 _ rfl).1
 have o6 : Y.cell? ⟨w.heap.size, 6, none⟩ = some (.int .i64 0) := (hYo.2.cell 6 _ rfl).1
 have o7 : Y.cell? ⟨w.heap.size, 7, none⟩ = some (.int .i64 0) := (hYo.2.cell 7 _ rfl).1
 have o8 : Y.cell? ⟨w.heap.size, 8, none⟩ = some (.slice none 0 0) := (hYo.2.cell 8 _ rfl).1
 refine bodyPost_ret (v := .agg #[.int .i64 2, .int .u64 0, .int .u64 0, .int .u64 0, .int .u64 0, .int .i64 0, .int .i64 0, .int .i64 0, .slice none 0 0]) (by simp [results, Tryz.results25, go_sem, o0, o1, o2, o3, o4, o5, o6, o7, o8]; try rfl) rfl ?_
 exact ⟨{ r with pos := r.pos + 1 }, bolT, _, rfl, hYo.1, HL.out⟩
theorem part_eol (s : ByteArray) (hs : s.size ≤ 512) (b : Nat) (r : Rd) (P : Ps) (k : Nat) (ts : List Tr) (h : Sim s r P k) (hts : P.top.parts = ts) (hi : r.pos < s.size) (w : World) (hI : IsRd w b s r) (ff bb : Bool) (hk : xaf s r.pos k = ⟨3, r.pos, r.pos + 1, 0, xad, 0, 0, 0⟩) (c1 : seeB s ⟨#[92, 40]⟩ r.pos = false) (c2 : seeB s ⟨#[92, 123]⟩ r.pos = false) (c3 : seeB s ⟨#[92, 125]⟩ r.pos = false) (hb : xac s r.pos = 36) (hsh : shuts s (r.pos + 1) = true) :
  Calls Tryz.prog 25 #[.pointer (some ⟨b, 0, none⟩), .bool ff, .bool bb] w fun x w' => ∃ r' t u, x = .returned (xcm t u) ∧ RO s b w (fun _ => False) w' r' t u ∧ PL s r.pos k P ts r' t := by
 have hl := leaf_eol hs h hts hi hsh hk
 have hb2 : (s[r.pos].toNat : Int) = 36 := by rw [← xah hi]; exact hb
 have HL := xab hl
 rw [xl3 (by omega)] at hsh
 clear hl hk hb
 have hs30 : s.size ≤ 1073741824 := by omega
 have p0 : (0 : Int) ≤ (r.pos : Int) := by omega
 have p1 : (r.pos : Int) < (s.size : Int) := by omega
 obtain ⟨X, hX⟩ : ∃ X, X = w.alloc (.cells #[.int .i64 0, .int .u64 0, .int .u64 0, .int .u64 0, .int .u64 0, .int .i64 0, .int .i64 0, .int .i64 0, .slice none 0 0] 36) := ⟨_, rfl⟩
 have HX : Hid (ZI s b w X r) := by rw [hX]; exact ZI.start hI
 have hXs : X.heap.size = w.heap.size + 1 := by rw [hX, World.size_alloc]
 have hBX : Below w.heap.size w X := by rw [hX]; exact (Below.refl _ _).alloc (Nat.le_refl _) _
 obtain ⟨rc0, rf0⟩ := HX.out.rd.cell 0 _ rfl
 obtain ⟨rc1, rf1⟩ := HX.out.rd.cell 1 _ rfl
 go_enter Tryz.func25, Tryz.ntmps25
 go_upto_region 1 with fail
 rw [← hX]
 clear hX
 go_wp2_with fail
 have hS1 := xa0 s ⟨#[92, 40]⟩ hs30 (by decide) r (by omega) b X HX.out.rd
 rw [c1] at hS1
 refine hS1.mono ?_
 rintro e1 w1 ⟨rfl, n1, rfl⟩
 have H1 := xab (HX.out.drew n1)
 have hs1 : (X.drewN n1).heap.size = X.heap.size := rfl
 have hB1 : Below w.heap.size w (X.drewN n1) := hBX.trans (xap _ _ _)
 clear hS1 rc0 rf0 rc1 rf1
 generalize X.drewN n1 = w1 at *
 obtain ⟨rc0, rf0⟩ := H1.out.rd.cell 0 _ rfl
 obtain ⟨rc1, rf1⟩ := H1.out.rd.cell 1 _ rfl
 go_wp2_with fail
 have hS2 := xa0 s ⟨#[92, 123]⟩ hs30 (by decide) r (by omega) b w1 H1.out.rd
 rw [c2] at hS2
 refine hS2.mono ?_
 rintro e2 w2 ⟨rfl, n2, rfl⟩
 have H2 := xab (H1.out.drew n2)
 have hs2 : (w1.drewN n2).heap.size = w1.heap.size := rfl
 have hB2 : Below w.heap.size w (w1.drewN n2) := hB1.trans (xap _ _ _)
 clear hS2 rc0 rf0 rc1 rf1
 generalize w1.drewN n2 = w2 at *
 obtain ⟨rc0, rf0⟩ := H2.out.rd.cell 0 _ rfl
 obtain ⟨rc1, rf1⟩ := H2.out.rd.cell 1 _ rfl
 go_wp2_with fail
 have hS3 := xa0 s ⟨#[92, 125]⟩ hs30 (by decide) r (by omega) b w2 H2.out.rd
 rw [c3] at hS3
 refine hS3.mono ?_
 rintro e3 w3 ⟨rfl, n3, rfl⟩
 have H3 := xab (H2.out.drew n3)
 have hs3 : (w2.drewN n3).heap.size = w2.heap.size := rfl
 have hB3 : Below w.heap.size w (w2.drewN n3) := hB2.trans (xap _ _ _)
 clear hS3 rc0 rf0 rc1 rf1
 generalize w2.drewN n3 = w3 at *
 obtain ⟨rc0, rf0⟩ := H3.out.rd.cell 0 _ rfl
 obtain ⟨rc1, rf1⟩ := H3.out.rd.cell 1 _ rfl
 have k5 : IntKind.i64.wrap ((r.pos : Int) + 1) = (r.pos : Int) + 1 := by rw [IntKind.wrap_i64]; omega
 go_upto_region 19 with fail
 obtain ⟨V, hV⟩ : ∃ V, V = w3.setCell ⟨b, 1, none⟩ (.int .i64 ((r.pos : Int) + 1)) := ⟨_, rfl⟩
 have H4 : Hid (ZI s b w V { r with pos := r.pos + 1 }) := by rw [hV]; exact H3.out.put 1 _ rfl
 rw [← hV]
 clear hV c1 c2 c3 rc0 rf0 rc1 rf1
 obtain ⟨rc0, rf0⟩ := H4.out.rd.cell 0 _ rfl
 obtain ⟨rc1, rf1⟩ := H4.out.rd.cell 1 _ rfl
 by_cases hend : r.pos + 1 = s.size
 ·have k6 : (r.pos : Int) + 1 = (s.size : Int) := by omega
  have k7 : ((r.pos : Int) + 1 == (s.size : Int)) = true := by rw [beq_iff_eq]; exact k6
  clear hsh
  go_wp2_with fail
  go_quiet (fail)
  have H5 := xab (H4.out.drew nq)
  clear rc0 rf0 rc1 rf1
  generalize V.drewN nq = V5 at *
  obtain ⟨zc0, zf0⟩ := H5.out.zb.cell 0 _ rfl
  obtain ⟨zc1, zf1⟩ := H5.out.zb.cell 1 _ rfl
  obtain ⟨zc2, zf2⟩ := H5.out.zb.cell 2 _ rfl
  obtain ⟨zc3, zf3⟩ := H5.out.zb.cell 3 _ rfl
  obtain ⟨zc4, zf4⟩ := H5.out.zb.cell 4 _ rfl
  obtain ⟨zc5, zf5⟩ := H5.out.zb.cell 5 _ rfl
  obtain ⟨zc6, zf6⟩ := H5.out.zb.cell 6 _ rfl
  obtain ⟨zc7, zf7⟩ := H5.out.zb.cell 7 _ rfl
  obtain ⟨zc8, zf8⟩ := H5.out.zb.cell 8 _ rfl
  go_wp2
  obtain ⟨Y, hY⟩ : ∃ Y, Y = (((((((((V5).setCell ⟨w.heap.size, 0, none⟩ (.int .i64 3)).setCell ⟨w.heap.size, 1, none⟩ (.int .u64 0)).setCell ⟨w.heap.size, 2, none⟩ (.int .u64 0)).setCell ⟨w.heap.size, 3, none⟩ (.int .u64 0)).setCell ⟨w.heap.size, 4, none⟩ (.int .u64 0)).setCell ⟨w.heap.size, 5, none⟩ (.int .i64 0)).setCell ⟨w.heap.size, 6, none⟩ (.int .i64 0)).setCell ⟨w.heap.size, 7, none⟩ (.int .i64 0)).setCell ⟨w.heap.size, 8, none⟩ (.slice none 0 0) := ⟨_, rfl⟩
  have hYo : RO s b w (fun _ => False) Y { r with pos := r.pos + 1 } eolT (.slice none 0 0) ∧ Blk9 Y w.heap.size (xbf eolT (.slice none 0 0)) := by rw [hY]; exact H5.out.answer eolT (Kids.none _ _)
  rw [← hY]
  clear hY
  have o0 : Y.cell? ⟨w.heap.size, 0, none⟩ = some (.int .i64 3) := (hYo.2.cell 0 _ rfl).1
  have o1 : Y.cell? ⟨w.heap.size, 1, none⟩ = some (.int .u64 0) := (hYo.2.cell 1 _ rfl).1
  have o2 : Y.cell? ⟨w.heap.size, 2, none⟩ = some (.int .u64 0) := (hYo.2.cell 2 _ rfl).1
  have o3 : Y.cell? ⟨w.heap.size, 3, none⟩ = some (.int .u64 0) := (hYo.2.cell 3 _ rfl).1
  have o4 : Y.cell? ⟨w.heap.size, 4, none⟩ = some (.int .u64 0) := (hYo.2.cell 4 _ rfl).1
  have o5 : Y.cell? ⟨w.heap.size, 5, none⟩ = some (.int .i64 0) := (hYo.2.cell 5 _ rfl).1
  have o6 : Y.cell? ⟨w.heap.size, 6, none⟩ = some (.int .i64 0) := (hYo.2.cell 6 _ rfl).1
  have o7 : Y.cell? ⟨w.heap.size, 7, none⟩ = some (.int .i64 0) := (hYo.2.cell 7 _ rfl).1
  have o8 : Y.cell? ⟨w.heap.size, 8, none⟩ = some (.slice none 0 0) := (hYo.2.cell 8 _ rfl).1
  refine bodyPost_ret (v := .agg #[.int .i64 3, .int .u64 0, .int .u64 0, .int .u64 0, .int .u64 0, .int .i64 0, .int .i64 0, .int .i64 0, .slice none 0 0]) (by simp [results, Tryz.results25, go_sem, o0, o1, o2, o3, o4, o5, o6, o7, o8]; try rfl) rfl ?_
  exact ⟨{ r with pos := r.pos + 1 }, eolT, _, rfl, hYo.1, HL.out⟩
 ·have k7 : ((r.pos : Int) + 1 == (s.size : Int)) = false := by rw [beq_eq_false_iff_ne]; omega
  have hsee : seeB s ⟨#[92, 41]⟩ (r.pos + 1) = true := by rw [decide_eq_false hend, Bool.false_or] at hsh; exact hsh
  have cS : Hid (∀ m, Calls Tryz.prog 24 #[.pointer (some ⟨b, 0, none⟩), .string ⟨#[92, 41]⟩] (V.drewN m) fun e w'' => e = .returned (.bool true) ∧ ∃ m', w'' = (V.drewN m).drewN m') := xab (fun m => by
   have h5 := xa0 s ⟨#[92, 41]⟩ hs30 (by decide) { r with pos := r.pos + 1 } (by show r.pos + 1 ≤ s.size; omega) b (V.drewN m) (H4.out.drew m).rd
   rw [show seeB s ⟨#[92, 41]⟩ ({ r with pos := r.pos + 1 } : Rd).pos = true from hsee] at h5
   exact h5)
  clear hsh hsee
  go_wp2_with fail
  go_quiet (exact Calls.quiet_of (cS.out _))
  have H5 := xab (H4.out.drew nq)
  clear cS rc0 rf0 rc1 rf1
  generalize V.drewN nq = V5 at *
  obtain ⟨zc0, zf0⟩ := H5.out.zb.cell 0 _ rfl
  obtain ⟨zc1, zf1⟩ := H5.out.zb.cell 1 _ rfl
  obtain ⟨zc2, zf2⟩ := H5.out.zb.cell 2 _ rfl
  obtain ⟨zc3, zf3⟩ := H5.out.zb.cell 3 _ rfl
  obtain ⟨zc4, zf4⟩ := H5.out.zb.cell 4 _ rfl
  obtain ⟨zc5, zf5⟩ := H5.out.zb.cell 5 _ rfl
  obtain ⟨zc6, zf6⟩ := H5.out.zb.cell 6 _ rfl
  obtain ⟨zc7, zf7⟩ := H5.out.zb.cell 7 _ rfl
  obtain ⟨zc8, zf8⟩ := H5.out.zb.cell 8 _ rfl
  go_wp2
  obtain ⟨Y, hY⟩ : ∃ Y, Y = (((((((((V5).setCell ⟨w.heap.size, 0, none⟩ (.int .i64 3)).setCell ⟨w.heap.size, 1, none⟩ (.int .u64 0)).setCell ⟨w.heap.size, 2, none⟩ (.int .u64 0)).setCell ⟨w.heap.size, 3, none⟩ (.int .u64 0)).setCell ⟨w.heap.size, 4, none⟩ (.int .u64 0)).setCell ⟨w.heap.size, 5, none⟩ (.int .i64 0)).setCell ⟨w.heap.size, 6, none⟩ (.int .i64 0)).setCell ⟨w.heap.size, 7, none⟩ (.int .i64 0)).setCell ⟨w.heap.size, 8, none⟩ (.slice none 0 0) := ⟨_, rfl⟩
  have hYo : RO s b w (fun _ => False) Y { r with pos := r.pos + 1 } eolT (.slice none 0 0) ∧ Blk9 Y w.heap.size (xbf eolT (.slice none 0 0)) := by rw [hY]; exact H5.out.answer eolT (Kids.none _ _)
  rw [← hY]
  clear hY
  have o0 : Y.cell? ⟨w.heap.size, 0, none⟩ = some (.int .i64 3) := (hYo.2.cell 0 _ rfl).1
  have o1 : Y.cell? ⟨w.heap.size, 1, none⟩ = some (.int .u64 0) := (hYo.2.cell 1 _ rfl).1
  have o2 : Y.cell? ⟨w.heap.size, 2, none⟩ = some (.int .u64 0) := (hYo.2.cell 2 _ rfl).1
  have o3 : Y.cell? ⟨w.heap.size, 3, none⟩ = some (.int .u64 0) := (hYo.2.cell 3 _ rfl).1
  have o4 : Y.cell? ⟨w.heap.size, 4, none⟩ = some (.int .u64 0) := (hYo.2.cell 4 _ rfl).1
  have o5 : Y.cell? ⟨w.heap.size, 5, none⟩ = some (.int .i64 0) := (hYo.2.cell 5 _ rfl).1
  have o6 : Y.cell? ⟨w.heap.size, 6, none⟩ = some (.int .i64 0) := (hYo.2.cell 6 _ rfl).1
  have o7 : Y.cell? ⟨w.heap.size, 7, none⟩ = some (.int .i64 0) := (hYo.2.cell 7 _ rfl).1
  have o8 : Y.cell? ⟨w.heap.size, 8, none⟩ = some (.slice none 0 0) := (hYo.2.cell 8 _ rfl).1
  refine bodyPost_ret (v := .agg #[.int .i64 3, .int .u64 0, .int .u64 0, .int .u64 0, .int .u64 0, .int .i64 0, .int .i64 0, .int .i64 0, .slice none 0 0]) (by simp [results, Tryz.results25, go_sem, o0, o1, o2, o3, o4, o5, o6, o7, o8]; try rfl) rfl ?_
  exact ⟨{ r with pos := r.pos + 1 }, eolT, _, rfl, hYo.1, HL.out⟩
theorem xtc (s : ByteArray) (hs : s.size ≤ 512) (b : Nat) (r : Rd) (P : Ps) (k : Nat) (ts : List Tr) (h : Sim s r P k) (hts : P.top.parts = ts) (hi : r.pos < s.size) (w : World) (hI : IsRd w b s r) (ff bb : Bool) (hk : xaf s r.pos k = xcn (xac s r.pos).toNat r.pos (r.pos + 1)) (c1 : seeB s ⟨#[92, 40]⟩ r.pos = false) (c2 : seeB s ⟨#[92, 123]⟩ r.pos = false) (c3 : seeB s ⟨#[92, 125]⟩ r.pos = false) (hff : xac s r.pos = 94 → ff = false) (hb1 : ¬ xac s r.pos = 92) (hb2 : ¬ xac s r.pos = 91) (hb3 : ¬ xac s r.pos = 46) (hsh : xac s r.pos = 36 → shuts s (r.pos + 1) = false) :
  Calls Tryz.prog 25 #[.pointer (some ⟨b, 0, none⟩), .bool ff, .bool bb] w fun x w' => ∃ r' t u, x = .returned (xcm t u) ∧ RO s b w (fun _ => False) w' r' t u ∧ PL s r.pos k P ts r' t := by
 have hl := xew hs h hts hi hk
 rw [xah hi] at hl hb1 hb2 hb3 hff hsh
 rw [Int.toNat_natCast] at hl
 have e92 : ((s[r.pos].toNat : Int) == 92) = false := by rw [beq_eq_false_iff_ne]; exact hb1
 have e91 : ((s[r.pos].toNat : Int) == 91) = false := by rw [beq_eq_false_iff_ne]; exact hb2
 have e46 : ((s[r.pos].toNat : Int) == 46) = false := by rw [beq_eq_false_iff_ne]; exact hb3
 have hzz : 0 ≤ r.size ∧ r.size ≤ 1000000000 := by have h8 := h.z; have h7 := h.well.good.big; have h6 := h.well.good.bounds; omega
 have HL := xab hl
 clear hl hk hb1 hb2 hb3
 have hs30 : s.size ≤ 1073741824 := by omega
 have p0 : (0 : Int) ≤ (r.pos : Int) := by omega
 have p1 : (r.pos : Int) < (s.size : Int) := by omega
 obtain ⟨X, hX⟩ : ∃ X, X = w.alloc (.cells #[.int .i64 0, .int .u64 0, .int .u64 0, .int .u64 0, .int .u64 0, .int .i64 0, .int .i64 0, .int .i64 0, .slice none 0 0] 36) := ⟨_, rfl⟩
 have HX : Hid (ZI s b w X r) := by rw [hX]; exact ZI.start hI
 have hXs : X.heap.size = w.heap.size + 1 := by rw [hX, World.size_alloc]
 have hBX : Below w.heap.size w X := by rw [hX]; exact (Below.refl _ _).alloc (Nat.le_refl _) _
 obtain ⟨rc0, rf0⟩ := HX.out.rd.cell 0 _ rfl
 obtain ⟨rc1, rf1⟩ := HX.out.rd.cell 1 _ rfl
 go_enter Tryz.func25, Tryz.ntmps25
 go_upto_region 1 with fail
 rw [← hX]
 clear hX
 go_wp2_with fail
 have hS1 := xa0 s ⟨#[92, 40]⟩ hs30 (by decide) r (by omega) b X HX.out.rd
 rw [c1] at hS1
 refine hS1.mono ?_
 rintro e1 w1 ⟨rfl, n1, rfl⟩
 have H1 := xab (HX.out.drew n1)
 have hs1 : (X.drewN n1).heap.size = X.heap.size := rfl
 have hB1 : Below w.heap.size w (X.drewN n1) := hBX.trans (xap _ _ _)
 clear hS1 rc0 rf0 rc1 rf1
 generalize X.drewN n1 = w1 at *
 obtain ⟨rc0, rf0⟩ := H1.out.rd.cell 0 _ rfl
 obtain ⟨rc1, rf1⟩ := H1.out.rd.cell 1 _ rfl
 go_wp2_with fail
 have hS2 := xa0 s ⟨#[92, 123]⟩ hs30 (by decide) r (by omega) b w1 H1.out.rd
 rw [c2] at hS2
 refine hS2.mono ?_
 rintro e2 w2 ⟨rfl, n2, rfl⟩
 have H2 := xab (H1.out.drew n2)
 have hs2 : (w1.drewN n2).heap.size = w1.heap.size := rfl
 have hB2 : Below w.heap.size w (w1.drewN n2) := hB1.trans (xap _ _ _)
 clear hS2 rc0 rf0 rc1 rf1
 generalize w1.drewN n2 = w2 at *
 obtain ⟨rc0, rf0⟩ := H2.out.rd.cell 0 _ rfl
 obtain ⟨rc1, rf1⟩ := H2.out.rd.cell 1 _ rfl
 go_wp2_with fail
 have hS3 := xa0 s ⟨#[92, 125]⟩ hs30 (by decide) r (by omega) b w2 H2.out.rd
 rw [c3] at hS3
 refine hS3.mono ?_
 rintro e3 w3 ⟨rfl, n3, rfl⟩
 have H3 := xab (H2.out.drew n3)
 have hs3 : (w2.drewN n3).heap.size = w2.heap.size := rfl
 have hB3 : Below w.heap.size w (w2.drewN n3) := hB2.trans (xap _ _ _)
 clear hS3 rc0 rf0 rc1 rf1
 generalize w2.drewN n3 = w3 at *
 obtain ⟨rc0, rf0⟩ := H3.out.rd.cell 0 _ rfl
 obtain ⟨rc1, rf1⟩ := H3.out.rd.cell 1 _ rfl
 have k5 : IntKind.i64.wrap ((r.pos : Int) + 1) = (r.pos : Int) + 1 := by rw [IntKind.wrap_i64]; omega
 go_upto_region 19 with fail
 obtain ⟨V, hV⟩ : ∃ V, V = w3.setCell ⟨b, 1, none⟩ (.int .i64 ((r.pos : Int) + 1)) := ⟨_, rfl⟩
 have H4 : Hid (ZI s b w V { r with pos := r.pos + 1 }) := by rw [hV]; exact H3.out.put 1 _ rfl
 rw [← hV]
 clear hV c1 c2 c3 rc0 rf0 rc1 rf1
 obtain ⟨rc0, rf0⟩ := H4.out.rd.cell 0 _ rfl
 obtain ⟨rc1, rf1⟩ := H4.out.rd.cell 1 _ rfl
 by_cases c94 : (s[r.pos].toNat : Int) = 94
 ·have hf := hff c94
  subst hf
  have e94 : ((s[r.pos].toNat : Int) == 94) = true := by rw [beq_iff_eq]; exact c94
  have e36 : ((s[r.pos].toNat : Int) == 36) = false := by rw [beq_eq_false_iff_ne]; omega
  clear hff hsh c94
  go_wp2_with fail
  go_quiet (fail)
  have H5 := xab (H4.out.drew nq)
  clear rc0 rf0 rc1 rf1
  generalize V.drewN nq = V5 at *
  have hgw := xbe s { r with pos := r.pos + 1 } b 1 r.pos (by omega) hzz V5 H5.out.rd
  go_wp2_with fail
  refine hgw.mono ?_
  rintro e7 w7 ⟨⟨v7, rfl⟩, hI7, hG7⟩
  have H7 := xab (H5.out.step hG7 hI7)
  clear hgw hI7 hG7
  have hby := xb5 s[r.pos].toNat w7
  go_wp2_with fail
  refine hby.mono ?_
  rintro e8 w8 ⟨rfl, hb8⟩
  have H8 := xab (H7.out.below hb8)
  clear hby hb8
  obtain ⟨zc0, zf0⟩ := H8.out.zb.cell 0 _ rfl
  obtain ⟨zc1, zf1⟩ := H8.out.zb.cell 1 _ rfl
  obtain ⟨zc2, zf2⟩ := H8.out.zb.cell 2 _ rfl
  obtain ⟨zc3, zf3⟩ := H8.out.zb.cell 3 _ rfl
  obtain ⟨zc4, zf4⟩ := H8.out.zb.cell 4 _ rfl
  obtain ⟨zc5, zf5⟩ := H8.out.zb.cell 5 _ rfl
  obtain ⟨zc6, zf6⟩ := H8.out.zb.cell 6 _ rfl
  obtain ⟨zc7, zf7⟩ := H8.out.zb.cell 7 _ rfl
  obtain ⟨zc8, zf8⟩ := H8.out.zb.cell 8 _ rfl
  go_wp2
  obtain ⟨Y, hY⟩ : ∃ Y, Y = (((((((((w8).setCell ⟨w.heap.size, 0, none⟩ (.int .i64 1)).setCell ⟨w.heap.size, 1, none⟩ (.int .u64 (wd (xaw s[r.pos].toNat) 0))).setCell ⟨w.heap.size, 2, none⟩ (.int .u64 (wd (xaw s[r.pos].toNat) 1))).setCell ⟨w.heap.size, 3, none⟩ (.int .u64 (wd (xaw s[r.pos].toNat) 2))).setCell ⟨w.heap.size, 4, none⟩ (.int .u64 (wd (xaw s[r.pos].toNat) 3))).setCell ⟨w.heap.size, 5, none⟩ (.int .i64 0)).setCell ⟨w.heap.size, 6, none⟩ (.int .i64 0)).setCell ⟨w.heap.size, 7, none⟩ (.int .i64 0)).setCell ⟨w.heap.size, 8, none⟩ (.slice none 0 0) := ⟨_, rfl⟩
  have hYo : RO s b w (fun _ => False) Y (({ r with pos := r.pos + 1 } : Rd).grow 1 r.pos) (xbw (xaw s[r.pos].toNat)) (.slice none 0 0) ∧ Blk9 Y w.heap.size (xbf (xbw (xaw s[r.pos].toNat)) (.slice none 0 0)) := by rw [hY]; exact H8.out.answer (xbw (xaw s[r.pos].toNat)) (Kids.none _ _)
  rw [← hY]
  clear hY
  have o0 : Y.cell? ⟨w.heap.size, 0, none⟩ = some (.int .i64 1) := (hYo.2.cell 0 _ rfl).1
  have o1 : Y.cell? ⟨w.heap.size, 1, none⟩ = some (.int .u64 (wd (xaw s[r.pos].toNat) 0)) := (hYo.2.cell 1 _ rfl).1
  have o2 : Y.cell? ⟨w.heap.size, 2, none⟩ = some (.int .u64 (wd (xaw s[r.pos].toNat) 1)) := (hYo.2.cell 2 _ rfl).1
  have o3 : Y.cell? ⟨w.heap.size, 3, none⟩ = some (.int .u64 (wd (xaw s[r.pos].toNat) 2)) := (hYo.2.cell 3 _ rfl).1
  have o4 : Y.cell? ⟨w.heap.size, 4, none⟩ = some (.int .u64 (wd (xaw s[r.pos].toNat) 3)) := (hYo.2.cell 4 _ rfl).1
  have o5 : Y.cell? ⟨w.heap.size, 5, none⟩ = some (.int .i64 0) := (hYo.2.cell 5 _ rfl).1
  have o6 : Y.cell? ⟨w.heap.size, 6, none⟩ = some (.int .i64 0) := (hYo.2.cell 6 _ rfl).1
  have o7 : Y.cell? ⟨w.heap.size, 7, none⟩ = some (.int .i64 0) := (hYo.2.cell 7 _ rfl).1
  have o8 : Y.cell? ⟨w.heap.size, 8, none⟩ = some (.slice none 0 0) := (hYo.2.cell 8 _ rfl).1
  refine bodyPost_ret (v := .agg #[.int .i64 1, .int .u64 (wd (xaw s[r.pos].toNat) 0), .int .u64 (wd (xaw s[r.pos].toNat) 1), .int .u64 (wd (xaw s[r.pos].toNat) 2), .int .u64 (wd (xaw s[r.pos].toNat) 3), .int .i64 0, .int .i64 0, .int .i64 0, .slice none 0 0]) (by simp [results, Tryz.results25, go_sem, o0, o1, o2, o3, o4, o5, o6, o7, o8]; try rfl) rfl ?_
  exact ⟨(({ r with pos := r.pos + 1 } : Rd).grow 1 r.pos), (xbw (xaw s[r.pos].toNat)), _, rfl, hYo.1, HL.out⟩
 ·have e94 : ((s[r.pos].toNat : Int) == 94) = false := by rw [beq_eq_false_iff_ne]; exact c94
  clear hff c94
  by_cases c36 : (s[r.pos].toNat : Int) = 36
  ·have e36 : ((s[r.pos].toNat : Int) == 36) = true := by rw [beq_iff_eq]; exact c36
   have hs2 := hsh c36
   rw [xl3 (by omega), Bool.or_eq_false_iff] at hs2
   have hend : ¬ r.pos + 1 = s.size := of_decide_eq_false hs2.1
   have k7 : ((r.pos : Int) + 1 == (s.size : Int)) = false := by rw [beq_eq_false_iff_ne]; omega
   have hsee := hs2.2
   have cS : Hid (∀ m, Calls Tryz.prog 24 #[.pointer (some ⟨b, 0, none⟩), .string ⟨#[92, 41]⟩] (V.drewN m) fun e w'' => e = .returned (.bool false) ∧ ∃ m', w'' = (V.drewN m).drewN m') := xab (fun m => by
    have h5 := xa0 s ⟨#[92, 41]⟩ hs30 (by decide) { r with pos := r.pos + 1 } (by show r.pos + 1 ≤ s.size; omega) b (V.drewN m) (H4.out.drew m).rd
    rw [show seeB s ⟨#[92, 41]⟩ ({ r with pos := r.pos + 1 } : Rd).pos = false from hsee] at h5
    exact h5)
   clear hsh hsee hs2 c36
   go_wp2_with fail
   go_quiet (exact Calls.quiet_of (cS.out _))
   clear cS
   have H5 := xab (H4.out.drew nq)
   clear rc0 rf0 rc1 rf1
   generalize V.drewN nq = V5 at *
   have hgw := xbe s { r with pos := r.pos + 1 } b 1 r.pos (by omega) hzz V5 H5.out.rd
   go_wp2_with fail
   refine hgw.mono ?_
   rintro e7 w7 ⟨⟨v7, rfl⟩, hI7, hG7⟩
   have H7 := xab (H5.out.step hG7 hI7)
   clear hgw hI7 hG7
   have hby := xb5 s[r.pos].toNat w7
   go_wp2_with fail
   refine hby.mono ?_
   rintro e8 w8 ⟨rfl, hb8⟩
   have H8 := xab (H7.out.below hb8)
   clear hby hb8
   obtain ⟨zc0, zf0⟩ := H8.out.zb.cell 0 _ rfl
   obtain ⟨zc1, zf1⟩ := H8.out.zb.cell 1 _ rfl
   obtain ⟨zc2, zf2⟩ := H8.out.zb.cell 2 _ rfl
   obtain ⟨zc3, zf3⟩ := H8.out.zb.cell 3 _ rfl
   obtain ⟨zc4, zf4⟩ := H8.out.zb.cell 4 _ rfl
   obtain ⟨zc5, zf5⟩ := H8.out.zb.cell 5 _ rfl
   obtain ⟨zc6, zf6⟩ := H8.out.zb.cell 6 _ rfl
   obtain ⟨zc7, zf7⟩ := H8.out.zb.cell 7 _ rfl
   obtain ⟨zc8, zf8⟩ := H8.out.zb.cell 8 _ rfl
   go_wp2
   obtain ⟨Y, hY⟩ : ∃ Y, Y = (((((((((w8).setCell ⟨w.heap.size, 0, none⟩ (.int .i64 1)).setCell ⟨w.heap.size, 1, none⟩ (.int .u64 (wd (xaw s[r.pos].toNat) 0))).setCell ⟨w.heap.size, 2, none⟩ (.int .u64 (wd (xaw s[r.pos].toNat) 1))).setCell ⟨w.heap.size, 3, none⟩ (.int .u64 (wd (xaw s[r.pos].toNat) 2))).setCell ⟨w.heap.size, 4, none⟩ (.int .u64 (wd (xaw s[r.pos].toNat) 3))).setCell ⟨w.heap.size, 5, none⟩ (.int .i64 0)).setCell ⟨w.heap.size, 6, none⟩ (.int .i64 0)).setCell ⟨w.heap.size, 7, none⟩ (.int .i64 0)).setCell ⟨w.heap.size, 8, none⟩ (.slice none 0 0) := ⟨_, rfl⟩
   have hYo : RO s b w (fun _ => False) Y (({ r with pos := r.pos + 1 } : Rd).grow 1 r.pos) (xbw (xaw s[r.pos].toNat)) (.slice none 0 0) ∧ Blk9 Y w.heap.size (xbf (xbw (xaw s[r.pos].toNat)) (.slice none 0 0)) := by rw [hY]; exact H8.out.answer (xbw (xaw s[r.pos].toNat)) (Kids.none _ _)
   rw [← hY]
   clear hY
   have o0 : Y.cell? ⟨w.heap.size, 0, none⟩ = some (.int .i64 1) := (hYo.2.cell 0 _ rfl).1
   have o1 : Y.cell? ⟨w.heap.size, 1, none⟩ = some (.int .u64 (wd (xaw s[r.pos].toNat) 0)) := (hYo.2.cell 1 _ rfl).1
   have o2 : Y.cell? ⟨w.heap.size, 2, none⟩ = some (.int .u64 (wd (xaw s[r.pos].toNat) 1)) := (hYo.2.cell 2 _ rfl).1
   have o3 : Y.cell? ⟨w.heap.size, 3, none⟩ = some (.int .u64 (wd (xaw s[r.pos].toNat) 2)) := (hYo.2.cell 3 _ rfl).1
   have o4 : Y.cell? ⟨w.heap.size, 4, none⟩ = some (.int .u64 (wd (xaw s[r.pos].toNat) 3)) := (hYo.2.cell 4 _ rfl).1
   have o5 : Y.cell? ⟨w.heap.size, 5, none⟩ = some (.int .i64 0) := (hYo.2.cell 5 _ rfl).1
   have o6 : Y.cell? ⟨w.heap.size, 6, none⟩ = some (.int .i64 0) := (hYo.2.cell 6 _ rfl).1
   have o7 : Y.cell? ⟨w.heap.size, 7, none⟩ = some (.int .i64 0) := (hYo.2.cell 7 _ rfl).1
   have o8 : Y.cell? ⟨w.heap.size, 8, none⟩ = some (.slice none 0 0) := (hYo.2.cell 8 _ rfl).1
   refine bodyPost_ret (v := .agg #[.int .i64 1, .int .u64 (wd (xaw s[r.pos].toNat) 0), .int .u64 (wd (xaw s[r.pos].toNat) 1), .int .u64 (wd (xaw s[r.pos].toNat) 2), .int .u64 (wd (xaw s[r.pos].toNat) 3), .int .i64 0, .int .i64 0, .int .i64 0, .slice none 0 0]) (by simp [results, Tryz.results25, go_sem, o0, o1, o2, o3, o4, o5, o6, o7, o8]; try rfl) rfl ?_
   exact ⟨(({ r with pos := r.pos + 1 } : Rd).grow 1 r.pos), (xbw (xaw s[r.pos].toNat)), _, rfl, hYo.1, HL.out⟩
  ·have e36 : ((s[r.pos].toNat : Int) == 36) = false := by rw [beq_eq_false_iff_ne]; exact c36
   clear hsh c36
   go_wp2_with fail
   go_quiet (fail)
   have H5 := xab (H4.out.drew nq)
   clear rc0 rf0 rc1 rf1
   generalize V.drewN nq = V5 at *
   have hgw := xbe s { r with pos := r.pos + 1 } b 1 r.pos (by omega) hzz V5 H5.out.rd
   go_wp2_with fail
   refine hgw.mono ?_
   rintro e7 w7 ⟨⟨v7, rfl⟩, hI7, hG7⟩
   have H7 := xab (H5.out.step hG7 hI7)
   clear hgw hI7 hG7
   have hby := xb5 s[r.pos].toNat w7
   go_wp2_with fail
   refine hby.mono ?_
   rintro e8 w8 ⟨rfl, hb8⟩
   have H8 := xab (H7.out.below hb8)
   clear hby hb8
   obtain ⟨zc0, zf0⟩ := H8.out.zb.cell 0 _ rfl
   obtain ⟨zc1, zf1⟩ := H8.out.zb.cell 1 _ rfl
   obtain ⟨zc2, zf2⟩ := H8.out.zb.cell 2 _ rfl
   obtain ⟨zc3, zf3⟩ := H8.out.zb.cell 3 _ rfl
   obtain ⟨zc4, zf4⟩ := H8.out.zb.cell 4 _ rfl
   obtain ⟨zc5, zf5⟩ := H8.out.zb.cell 5 _ rfl
   obtain ⟨zc6, zf6⟩ := H8.out.zb.cell 6 _ rfl
   obtain ⟨zc7, zf7⟩ := H8.out.zb.cell 7 _ rfl
   obtain ⟨zc8, zf8⟩ := H8.out.zb.cell 8 _ rfl
   go_wp2
   obtain ⟨Y, hY⟩ : ∃ Y, Y = (((((((((w8).setCell ⟨w.heap.size, 0, none⟩ (.int .i64 1)).setCell ⟨w.heap.size, 1, none⟩ (.int .u64 (wd (xaw s[r.pos].toNat) 0))).setCell ⟨w.heap.size, 2, none⟩ (.int .u64 (wd (xaw s[r.pos].toNat) 1))).setCell ⟨w.heap.size, 3, none⟩ (.int .u64 (wd (xaw s[r.pos].toNat) 2))).setCell ⟨w.heap.size, 4, none⟩ (.int .u64 (wd (xaw s[r.pos].toNat) 3))).setCell ⟨w.heap.size, 5, none⟩ (.int .i64 0)).setCell ⟨w.heap.size, 6, none⟩ (.int .i64 0)).setCell ⟨w.heap.size, 7, none⟩ (.int .i64 0)).setCell ⟨w.heap.size, 8, none⟩ (.slice none 0 0) := ⟨_, rfl⟩
   have hYo : RO s b w (fun _ => False) Y (({ r with pos := r.pos + 1 } : Rd).grow 1 r.pos) (xbw (xaw s[r.pos].toNat)) (.slice none 0 0) ∧ Blk9 Y w.heap.size (xbf (xbw (xaw s[r.pos].toNat)) (.slice none 0 0)) := by rw [hY]; exact H8.out.answer (xbw (xaw s[r.pos].toNat)) (Kids.none _ _)
   rw [← hY]
   clear hY
   have o0 : Y.cell? ⟨w.heap.size, 0, none⟩ = some (.int .i64 1) := (hYo.2.cell 0 _ rfl).1
   have o1 : Y.cell? ⟨w.heap.size, 1, none⟩ = some (.int .u64 (wd (xaw s[r.pos].toNat) 0)) := (hYo.2.cell 1 _ rfl).1
   have o2 : Y.cell? ⟨w.heap.size, 2, none⟩ = some (.int .u64 (wd (xaw s[r.pos].toNat) 1)) := (hYo.2.cell 2 _ rfl).1
   have o3 : Y.cell? ⟨w.heap.size, 3, none⟩ = some (.int .u64 (wd (xaw s[r.pos].toNat) 2)) := (hYo.2.cell 3 _ rfl).1
   have o4 : Y.cell? ⟨w.heap.size, 4, none⟩ = some (.int .u64 (wd (xaw s[r.pos].toNat) 3)) := (hYo.2.cell 4 _ rfl).1
   have o5 : Y.cell? ⟨w.heap.size, 5, none⟩ = some (.int .i64 0) := (hYo.2.cell 5 _ rfl).1
   have o6 : Y.cell? ⟨w.heap.size, 6, none⟩ = some (.int .i64 0) := (hYo.2.cell 6 _ rfl).1
   have o7 : Y.cell? ⟨w.heap.size, 7, none⟩ = some (.int .i64 0) := (hYo.2.cell 7 _ rfl).1
   have o8 : Y.cell? ⟨w.heap.size, 8, none⟩ = some (.slice none 0 0) := (hYo.2.cell 8 _ rfl).1
   refine bodyPost_ret (v := .agg #[.int .i64 1, .int .u64 (wd (xaw s[r.pos].toNat) 0), .int .u64 (wd (xaw s[r.pos].toNat) 1), .int .u64 (wd (xaw s[r.pos].toNat) 2), .int .u64 (wd (xaw s[r.pos].toNat) 3), .int .i64 0, .int .i64 0, .int .i64 0, .slice none 0 0]) (by simp [results, Tryz.results25, go_sem, o0, o1, o2, o3, o4, o5, o6, o7, o8]; try rfl) rfl ?_
   exact ⟨(({ r with pos := r.pos + 1 } : Rd).grow 1 r.pos), (xbw (xaw s[r.pos].toNat)), _, rfl, hYo.1, HL.out⟩
theorem xkq (s : ByteArray) (hs : s.size ≤ 512) (b : Nat) (r : Rd) (P : Ps) (k : Nat) (ts : List Tr) (h : Sim s r P k) (hts : P.top.parts = ts) (hi : r.pos < s.size) (w : World) (hI : IsRd w b s r) (ff bb : Bool) (hk : xaf s r.pos k = ⟨1, r.pos, r.pos + 1, 0, notP xad, 0, 0, 0⟩) (c1 : seeB s ⟨#[92, 40]⟩ r.pos = false) (c2 : seeB s ⟨#[92, 123]⟩ r.pos = false) (c3 : seeB s ⟨#[92, 125]⟩ r.pos = false) (hb : xac s r.pos = 46) :
  Calls Tryz.prog 25 #[.pointer (some ⟨b, 0, none⟩), .bool ff, .bool bb] w fun x w' => ∃ r' t u, x = .returned (xcm t u) ∧ RO s b w (fun _ => False) w' r' t u ∧ PL s r.pos k P ts r' t := by
 have hl := xew hs h hts hi hk
 have hb2 : (s[r.pos].toNat : Int) = 46 := by rw [← xah hi]; exact hb
 have hzz : 0 ≤ r.size ∧ r.size ≤ 1000000000 := by have h8 := h.z; have h7 := h.well.good.big; have h6 := h.well.good.bounds; omega
 have HL := xab hl
 clear hl hk hb
 have hs30 : s.size ≤ 1073741824 := by omega
 have p0 : (0 : Int) ≤ (r.pos : Int) := by omega
 have p1 : (r.pos : Int) < (s.size : Int) := by omega
 obtain ⟨X, hX⟩ : ∃ X, X = w.alloc (.cells #[.int .i64 0, .int .u64 0, .int .u64 0, .int .u64 0, .int .u64 0, .int .i64 0, .int .i64 0, .int .i64 0, .slice none 0 0] 36) := ⟨_, rfl⟩
 have HX : Hid (ZI s b w X r) := by rw [hX]; exact ZI.start hI
 have hXs : X.heap.size = w.heap.size + 1 := by rw [hX, World.size_alloc]
 have hBX : Below w.heap.size w X := by rw [hX]; exact (Below.refl _ _).alloc (Nat.le_refl _) _
 obtain ⟨rc0, rf0⟩ := HX.out.rd.cell 0 _ rfl
 obtain ⟨rc1, rf1⟩ := HX.out.rd.cell 1 _ rfl
 go_enter Tryz.func25, Tryz.ntmps25
 go_upto_region 1 with fail
 rw [← hX]
 clear hX
 go_wp2_with fail
 have hS1 := xa0 s ⟨#[92, 40]⟩ hs30 (by decide) r (by omega) b X HX.out.rd
 rw [c1] at hS1
 refine hS1.mono ?_
 rintro e1 w1 ⟨rfl, n1, rfl⟩
 have H1 := xab (HX.out.drew n1)
 have hs1 : (X.drewN n1).heap.size = X.heap.size := rfl
 have hB1 : Below w.heap.size w (X.drewN n1) := hBX.trans (xap _ _ _)
 clear hS1 rc0 rf0 rc1 rf1
 generalize X.drewN n1 = w1 at *
 obtain ⟨rc0, rf0⟩ := H1.out.rd.cell 0 _ rfl
 obtain ⟨rc1, rf1⟩ := H1.out.rd.cell 1 _ rfl
 go_wp2_with fail
 have hS2 := xa0 s ⟨#[92, 123]⟩ hs30 (by decide) r (by omega) b w1 H1.out.rd
 rw [c2] at hS2
 refine hS2.mono ?_
 rintro e2 w2 ⟨rfl, n2, rfl⟩
 have H2 := xab (H1.out.drew n2)
 have hs2 : (w1.drewN n2).heap.size = w1.heap.size := rfl
 have hB2 : Below w.heap.size w (w1.drewN n2) := hB1.trans (xap _ _ _)
 clear hS2 rc0 rf0 rc1 rf1
 generalize w1.drewN n2 = w2 at *
 obtain ⟨rc0, rf0⟩ := H2.out.rd.cell 0 _ rfl
 obtain ⟨rc1, rf1⟩ := H2.out.rd.cell 1 _ rfl
 go_wp2_with fail
 have hS3 := xa0 s ⟨#[92, 125]⟩ hs30 (by decide) r (by omega) b w2 H2.out.rd
 rw [c3] at hS3
 refine hS3.mono ?_
 rintro e3 w3 ⟨rfl, n3, rfl⟩
 have H3 := xab (H2.out.drew n3)
 have hs3 : (w2.drewN n3).heap.size = w2.heap.size := rfl
 have hB3 : Below w.heap.size w (w2.drewN n3) := hB2.trans (xap _ _ _)
 clear hS3 rc0 rf0 rc1 rf1
 generalize w2.drewN n3 = w3 at *
 obtain ⟨rc0, rf0⟩ := H3.out.rd.cell 0 _ rfl
 obtain ⟨rc1, rf1⟩ := H3.out.rd.cell 1 _ rfl
 have k5 : IntKind.i64.wrap ((r.pos : Int) + 1) = (r.pos : Int) + 1 := by rw [IntKind.wrap_i64]; omega
 go_upto_region 19 with fail
 obtain ⟨V, hV⟩ : ∃ V, V = w3.setCell ⟨b, 1, none⟩ (.int .i64 ((r.pos : Int) + 1)) := ⟨_, rfl⟩
 have H4 : Hid (ZI s b w V { r with pos := r.pos + 1 }) := by rw [hV]; exact H3.out.put 1 _ rfl
 rw [← hV]
 clear hV c1 c2 c3 rc0 rf0 rc1 rf1
 obtain ⟨rc0, rf0⟩ := H4.out.rd.cell 0 _ rfl
 obtain ⟨rc1, rf1⟩ := H4.out.rd.cell 1 _ rfl
 go_wp2_with fail
 go_quiet (fail)
 have H5 := xab (H4.out.drew nq)
 clear rc0 rf0 rc1 rf1
 generalize V.drewN nq = V5 at *
 have hgw := xbe s { r with pos := r.pos + 1 } b 1 r.pos (by omega) hzz V5 H5.out.rd
 go_wp2_with fail
 refine hgw.mono ?_
 rintro e7 w7 ⟨⟨v7, rfl⟩, hI7, hG7⟩
 have H7 := xab (H5.out.step hG7 hI7)
 clear hgw hI7 hG7
 have hno := xq0 xad w7
 have z0 : wd xad 0 = 0 := xaa 0
 have z1 : wd xad 1 = 0 := xaa 1
 have z2 : wd xad 2 = 0 := xaa 2
 have z3 : wd xad 3 = 0 := xaa 3
 rw [z0, z1, z2, z3] at hno
 clear z0 z1 z2 z3
 go_wp2_with fail
 refine hno.mono ?_
 rintro e8 w8 ⟨rfl, hb8⟩
 have H8 := xab (H7.out.below hb8)
 clear hno hb8
 obtain ⟨zc0, zf0⟩ := H8.out.zb.cell 0 _ rfl
 obtain ⟨zc1, zf1⟩ := H8.out.zb.cell 1 _ rfl
 obtain ⟨zc2, zf2⟩ := H8.out.zb.cell 2 _ rfl
 obtain ⟨zc3, zf3⟩ := H8.out.zb.cell 3 _ rfl
 obtain ⟨zc4, zf4⟩ := H8.out.zb.cell 4 _ rfl
 obtain ⟨zc5, zf5⟩ := H8.out.zb.cell 5 _ rfl
 obtain ⟨zc6, zf6⟩ := H8.out.zb.cell 6 _ rfl
 obtain ⟨zc7, zf7⟩ := H8.out.zb.cell 7 _ rfl
 obtain ⟨zc8, zf8⟩ := H8.out.zb.cell 8 _ rfl
 go_wp2
 obtain ⟨Y, hY⟩ : ∃ Y, Y = (((((((((w8).setCell ⟨w.heap.size, 0, none⟩ (.int .i64 1)).setCell ⟨w.heap.size, 1, none⟩ (.int .u64 (wd (notP xad) 0))).setCell ⟨w.heap.size, 2, none⟩ (.int .u64 (wd (notP xad) 1))).setCell ⟨w.heap.size, 3, none⟩ (.int .u64 (wd (notP xad) 2))).setCell ⟨w.heap.size, 4, none⟩ (.int .u64 (wd (notP xad) 3))).setCell ⟨w.heap.size, 5, none⟩ (.int .i64 0)).setCell ⟨w.heap.size, 6, none⟩ (.int .i64 0)).setCell ⟨w.heap.size, 7, none⟩ (.int .i64 0)).setCell ⟨w.heap.size, 8, none⟩ (.slice none 0 0) := ⟨_, rfl⟩
 have hYo : RO s b w (fun _ => False) Y (({ r with pos := r.pos + 1 } : Rd).grow 1 r.pos) (xbw (notP xad)) (.slice none 0 0) ∧ Blk9 Y w.heap.size (xbf (xbw (notP xad)) (.slice none 0 0)) := by rw [hY]; exact H8.out.answer (xbw (notP xad)) (Kids.none _ _)
 rw [← hY]
 clear hY
 have o0 : Y.cell? ⟨w.heap.size, 0, none⟩ = some (.int .i64 1) := (hYo.2.cell 0 _ rfl).1
 have o1 : Y.cell? ⟨w.heap.size, 1, none⟩ = some (.int .u64 (wd (notP xad) 0)) := (hYo.2.cell 1 _ rfl).1
 have o2 : Y.cell? ⟨w.heap.size, 2, none⟩ = some (.int .u64 (wd (notP xad) 1)) := (hYo.2.cell 2 _ rfl).1
 have o3 : Y.cell? ⟨w.heap.size, 3, none⟩ = some (.int .u64 (wd (notP xad) 2)) := (hYo.2.cell 3 _ rfl).1
 have o4 : Y.cell? ⟨w.heap.size, 4, none⟩ = some (.int .u64 (wd (notP xad) 3)) := (hYo.2.cell 4 _ rfl).1
 have o5 : Y.cell? ⟨w.heap.size, 5, none⟩ = some (.int .i64 0) := (hYo.2.cell 5 _ rfl).1
 have o6 : Y.cell? ⟨w.heap.size, 6, none⟩ = some (.int .i64 0) := (hYo.2.cell 6 _ rfl).1
 have o7 : Y.cell? ⟨w.heap.size, 7, none⟩ = some (.int .i64 0) := (hYo.2.cell 7 _ rfl).1
 have o8 : Y.cell? ⟨w.heap.size, 8, none⟩ = some (.slice none 0 0) := (hYo.2.cell 8 _ rfl).1
 refine bodyPost_ret (v := .agg #[.int .i64 1, .int .u64 (wd (notP xad) 0), .int .u64 (wd (notP xad) 1), .int .u64 (wd (notP xad) 2), .int .u64 (wd (notP xad) 3), .int .i64 0, .int .i64 0, .int .i64 0, .slice none 0 0]) (by simp [results, Tryz.results25, go_sem, o0, o1, o2, o3, o4, o5, o6, o7, o8]; try rfl) rfl ?_
 exact ⟨(({ r with pos := r.pos + 1 } : Rd).grow 1 r.pos), (xbw (notP xad)), _, rfl, hYo.1, HL.out⟩
end Go.Proofs.YtaapmphdnholaaaGreatDoor
