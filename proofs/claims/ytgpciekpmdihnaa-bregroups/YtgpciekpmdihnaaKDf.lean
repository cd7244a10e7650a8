/- bre: the document's reader: group, by what Row does. -/
import Derived.Test.YtgpciekpmdihnaaKDc
import Derived.Deep.QuietTactic
namespace Go.Proofs.Ytgpciekpmdihnaa
open Go.RowKit
def RowL (s : ByteArray) (r : Rd) (P : Ps) (inn : Bool) (r' : Rd) (ts : List Tr) : Prop :=
  Fails s r.pos 4 P r' ∨ (inn = false ∧ r'.pos = s.size ∧ ∃ P' k', Goes s r.pos 4 P r' P' k' ts) ∨ (inn = true ∧ ∃ q P' k', r'.pos = q + 2 ∧ Goes s r.pos 4 P { r' with pos := q } P' k' ts ∧ seeB s ⟨#[92, 41]⟩ q = true)
def RowSpec (s : ByteArray) (b n : Nat) : Prop := ∀ (r : Rd) (P : Ps) (inn : Bool) (op : Nat) (w : World), s.size - r.pos < n → Sim s r P 4 → P.top.parts = [] → (inn = false → P.outer = []) → (inn = true → P.outer ≠ [] ∧ P.top.pos = op) → IsRd w b s r → Glob w →
  Calls Try.prog 22 #[.pointer (some ⟨b, 0, none⟩), .bool inn, .int .i64 (op : Nat)] w fun x w' => ∃ r' ts u, x = .returned (nodeA (catT ts) u) ∧ RO s b w (fun _ => False) w' r' (catT ts) u ∧ RowL s r P inn r' ts
theorem open_tok {s : ByteArray} {i k : Nat} (h : seeB s ⟨#[92, 40]⟩ i = true) : tokenT s i k = ⟨4, i, i + 2, 0, noneP, 0, 0, 0⟩ := by
  rw [see2] at h
  have h1 := of_decide_eq_true h
  have e1 : byteAt s i = 92 := h1.2.1
  have e2 : byteAt s (i + 1) = 40 := h1.2.2
  unfold tokenT
  rw [if_pos e1]
  unfold escapeT
  rw [if_neg (by omega), e2]
  rfl
theorem close_tok {s : ByteArray} {i k : Nat} (h : seeB s ⟨#[92, 41]⟩ i = true) : tokenT s i k = ⟨5, i, i + 2, 0, noneP, 0, 0, 0⟩ := by
  rw [see2] at h
  have h1 := of_decide_eq_true h
  have e1 : byteAt s i = 92 := h1.2.1
  have e2 : byteAt s (i + 1) = 41 := h1.2.2
  unfold tokenT
  rw [if_pos e1]
  unfold escapeT
  rw [if_neg (by omega), e2]
  rfl
theorem group_open {s : ByteArray} (hs : s.size ≤ 512) {r : Rd} {P : Ps} {k : Nat} (h : Sim s r P k) (hsee : seeB s ⟨#[92, 40]⟩ r.pos = true) (h9 : r.groups ≠ 9) :
    Sim s { r with groups := r.groups + 1, pos := r.pos + 2 } (P.opened r.pos) 4 ∧ runA s r.pos k P = runA s (r.pos + 2) 4 (P.opened r.pos) := by
  have hl : r.pos + 2 ≤ s.size := see_lt hsee
  have hi : r.pos < s.size := by omega
  have ht := open_tok (k := k) hsee
  have e : P.take (tokenT s r.pos k) = (0, P.opened r.pos) := by
    rw [ht]
    have h9' : ¬ P.groups = 9 := by rw [← h.g]; exact h9
    simp [Ps.take, h9']
  have h0 : (P.take (tokenT s r.pos k)).1 = 0 := by rw [e]
  obtain ⟨w1, w2, w3⟩ := well_take hi hs h.well h0
  have hr := runA_step hi h0
  rw [e, ht] at hr w1
  exact ⟨⟨h.e, by show r.groups + 1 = P.groups + 1; rw [h.g], h.c, h.z, hl, w1, fun _ => rfl⟩, hr⟩
theorem group_full {s : ByteArray} {r r' : Rd} {P : Ps} {k : Nat} (h : Sim s r P k) (hsee : seeB s ⟨#[92, 40]⟩ r.pos = true) (h9 : r.groups = 9) (h1 : r'.e = 4) (h2 : r'.place = r.pos) : Fails s r.pos k P r' := by
  have hl : r.pos + 2 ≤ s.size := see_lt hsee
  refine leaf_fault (e := 4) (by omega) (by decide) ?_ h1 h2
  rw [open_tok (k := k) hsee]
  have h9' : P.groups = 9 := by rw [← h.g]; exact h9
  simp [Ps.take, h9']
theorem group_close {s : ByteArray} (hs : s.size ≤ 512) {r r2 : Rd} {P P2 : Ps} {k k2 q : Nat} {ts us : List Tr} (h : Sim s r P k) (hts : P.top.parts = ts) (hsee : seeB s ⟨#[92, 40]⟩ r.pos = true) (h9 : r.groups ≠ 9)
    (hg : Goes s (r.pos + 2) 4 (P.opened r.pos) { r2 with pos := q } P2 k2 us) (hq : seeB s ⟨#[92, 41]⟩ q = true) (hp : r2.pos = q + 2) :
    PL s r.pos k P ts { r2 with shut := fun x => if x = r.groups + 1 then true else r2.shut x } (groupT (r.groups + 1) us) := by
  have ho := group_open hs h hsee h9
  have hl : q + 2 ≤ s.size := see_lt hq
  have ht := close_tok (k := k2) hq
  have hou : P2.outer = P.outer ++ [P.top] := hg.outer
  have htop : P2.top = ⟨r.pos, P.groups + 1, P.size, us⟩ := hg.top
  have e : P2.take (tokenT s q k2) = (0, P2.close P.outer P.top) := by
    rw [ht]
    simp only [Ps.take, hou]
    simp
  have h0 : (P2.take (tokenT s q k2)).1 = 0 := by rw [e]
  have hi : q < s.size := by omega
  obtain ⟨w1, w2, w3⟩ := well_take (i := q) hi hs hg.sim.well h0
  have hr := runA_step (i := q) hi h0
  rw [e, ht] at hr w1
  refine .inr ⟨P2.close P.outer P.top, 5, ⟨⟨hg.sim.e, ?_, ?_, ?_, by show r2.pos ≤ s.size; omega, ?_, fun h4 => by cases h4⟩, ?_, rfl, ?_, ?_⟩, (fun h23 => by rcases h23 with h23 | h23 <;> cases h23), fun _ => rfl⟩
  · exact hg.sim.g
  · show (fun x => if x = r.groups + 1 then true else r2.shut x) = fun x => if x = P2.top.grp then true else P2.shut x
    have hc : r2.shut = P2.shut := hg.sim.c
    rw [htop, hc, h.g]
  · have hz : r2.size = P2.size := hg.sim.z
    show r2.size = P2.size + 0
    omega
  · show Well _ 5 r2.pos
    rw [hp]; exact w1
  · show runA s r.pos k P = runA s r2.pos 5 _
    rw [ho.2, hg.run, hp]
    exact hr
  · show ({ P.top with parts := P.top.parts ++ [groupT P2.top.grp P2.top.parts] } : Lv) = { P.top with parts := ts ++ [groupT (r.groups + 1) us] }
    rw [htop, hts, h.g]
  · show r.pos ≤ r2.pos
    have h1 : r.pos + 2 ≤ q := hg.on
    omega
theorem rd_bool (s : ByteArray) (r : Rd) (x : Nat) (hx : x ≤ 9) : (r.cells s)[5 + x]? = some (.bool (r.shut x)) := by
  rcases (show x = 0 ∨ x = 1 ∨ x = 2 ∨ x = 3 ∨ x = 4 ∨ x = 5 ∨ x = 6 ∨ x = 7 ∨ x = 8 ∨ x = 9 by omega) with e | e | e | e | e | e | e | e | e | e <;> subst e <;> rfl
theorem rd_shut (s : ByteArray) (r : Rd) (x : Nat) (hx : x ≤ 9) : (({ r with shut := fun y => if y = x then true else r.shut y } : Rd).cells s) = (r.cells s).set (5 + x) (.bool true) := by
  rcases (show x = 0 ∨ x = 1 ∨ x = 2 ∨ x = 3 ∨ x = 4 ∨ x = 5 ∨ x = 6 ∨ x = 7 ∨ x = 8 ∨ x = 9 by omega) with e | e | e | e | e | e | e | e | e | e <;> subst e <;> simp [Rd.cells]
structure ZI (s : ByteArray) (b : Nat) (w : World) (W : World) (r : Rd) : Prop where
  rd : IsRd W b s r
  zb : Blk9 W w.heap.size zero9
  gr : w.grownBy W (some b)
  old : b < w.heap.size
theorem ZI.start {s : ByteArray} {b : Nat} {w : World} {r : Rd} (h : IsRd w b s r) : ZI s b w (w.alloc (.cells #[.int .i64 0, .int .u64 0, .int .u64 0, .int .u64 0, .int .u64 0, .int .i64 0, .int .i64 0, .int .i64 0, .slice none 0 0] 27)) r :=
  have hB : Below w.heap.size w (w.alloc (.cells #[.int .i64 0, .int .u64 0, .int .u64 0, .int .u64 0, .int .u64 0, .int .i64 0, .int .i64 0, .int .i64 0, .slice none 0 0] 27)) := (Below.refl _ _).alloc (Nat.le_refl _) _
  ⟨h.below hB h.lt, Blk9.new w, grown_below hB _, h.lt⟩
theorem ZI.step {s : ByteArray} {b : Nat} {w W W' : World} {r r' : Rd} (h : ZI s b w W r) (g : W.grownBy W' (some b)) (hr : IsRd W' b s r') : ZI s b w W' r' :=
  ⟨hr, h.zb.far (g.block _ h.zb.lt (fun e => by have := h.old; cases e; omega)), grown_trans h.gr g, h.old⟩
theorem ZI.below {s : ByteArray} {b : Nat} {w W W' : World} {r : Rd} (h : ZI s b w W r) (g : Below W.heap.size W W') : ZI s b w W' r := h.step (grown_below g _) (h.rd.below g h.rd.lt)
theorem ZI.drew {s : ByteArray} {b : Nat} {w W : World} {r : Rd} (h : ZI s b w W r) (n : Nat) : ZI s b w (W.drewN n) r := h.step (grown_drew _ _ _) (h.rd.drew n)
theorem ZI.put {s : ByteArray} {b : Nat} {w W : World} {r r' : Rd} (h : ZI s b w W r) (k : Nat) (v : Value) (hr : r'.cells s = (r.cells s).set k v) : ZI s b w (W.setCell ⟨b, k, none⟩ v) r' := h.step (grown_put _ _ _ _) (IsRd.put h.rd k v hr)
theorem ZI.answer {s : ByteArray} {b : Nat} {w W : World} {r : Rd} (h : ZI s b w W r) (t : Tr) {u : Value} (hk : Kids W (fun g => w.heap.size < g) u t.kids) :
    RO s b w (fun _ => False) (nine W w.heap.size (.int .i64 (t.kind : Nat)) (.int .u64 (wd t.q 0 : Nat)) (.int .u64 (wd t.q 1 : Nat)) (.int .u64 (wd t.q 2 : Nat)) (.int .u64 (wd t.q 3 : Nat)) (.int .i64 t.lo) (.int .i64 t.hi) (.int .i64 (t.grp : Nat)) u) r t u ∧ Blk9 (nine W w.heap.size (.int .i64 (t.kind : Nat)) (.int .u64 (wd t.q 0 : Nat)) (.int .u64 (wd t.q 1 : Nat)) (.int .u64 (wd t.q 2 : Nat)) (.int .u64 (wd t.q 3 : Nat)) (.int .i64 t.lo) (.int .i64 t.hi) (.int .i64 (t.grp : Nat)) u) w.heap.size (nodeV t u) := by
  have ho := h.old
  refine ⟨⟨?_, ?_, ?_⟩, nine_at h.zb _ _ _ _ _ _ _ _ _⟩
  · have h2 : _ = _ := h.rd
    exact (nine_far _ _ _ _ _ _ _ _ _ _ (by omega)).trans h2
  · exact hk.keep (fun g hg => nine_far _ _ _ _ _ _ _ _ _ _ (by omega)) (fun g hg => .inr (by omega))
  · exact grown_new h.gr (nine_grown _ _ _ _ _ _ _ _ _ _ _) (Nat.le_refl _)
theorem glob_put {W : World} {b : Nat} {s : ByteArray} {r : Rd} (h : Glob W) (hr : IsRd W b s r) (k : Nat) (v : Value) : Glob (W.setCell ⟨b, k, none⟩ v) := by
  obtain ⟨m, hm⟩ := h
  refine ⟨m, ?_⟩
  have hb : b ≠ 0 := fun e => by
    have h0 := (hr.cell 0 _ rfl).1
    rw [e, hm] at h0
    cases h0
  rw [World.cell?_of_block (a := ⟨0, 0, none⟩) (put_far W b k v (fun e => hb e.symm))]
  exact hm
set_option maxRecDepth 100000 in
set_option maxHeartbeats 1000000 in
theorem group_any (s : ByteArray) (hs : s.size ≤ 512) (b n : Nat) (hrow : RowSpec s b n) (r : Rd) (P : Ps) (k : Nat) (ts : List Tr) (h : Sim s r P k) (hts : P.top.parts = ts) (hsee : seeB s ⟨#[92, 40]⟩ r.pos = true) (hn : s.size - r.pos ≤ n) (w : World) (hI : IsRd w b s r) (hg : Glob w) :
    Calls Try.prog 47 #[.pointer (some ⟨b, 0, none⟩)] w fun x w' => ∃ r' t u, x = .returned (nodeA t u) ∧ RO s b w (fun _ => False) w' r' t u ∧ PL s r.pos k P ts r' t := by
  have hl : r.pos + 2 ≤ s.size := see_lt hsee
  have hg9 : r.groups ≤ 9 := by rw [h.g]; exact h.well.good.g9
  obtain ⟨X, hX⟩ : ∃ X, X = w.alloc (.cells #[.int .i64 0, .int .u64 0, .int .u64 0, .int .u64 0, .int .u64 0, .int .i64 0, .int .i64 0, .int .i64 0, .slice none 0 0] 27) := ⟨_, rfl⟩
  have HX : Hid (ZI s b w X r) := by rw [hX]; exact ZI.start hI
  have hgX : Glob X := by rw [hX]; exact hg.below ((Below.refl _ _).alloc (Nat.le_refl _) _) (Nat.le_refl _)
  obtain ⟨rc1, rf1⟩ := HX.out.rd.cell 1 _ rfl
  obtain ⟨rc4, rf4⟩ := HX.out.rd.cell 4 _ rfl
  by_cases h9 : r.groups = 9
  · rw [h9] at rc4
    have hfl := fail_any s r b 4 r.pos X HX.out.rd
    have hfe := failed_e h.e 4 r.pos
    have HP : Hid (PL s r.pos k P ts (if r.e = 0 then { r with e := 4, place := r.pos } else r) (.mk 0 noneP 0 0 0 [])) := hideT (.inl (group_full h hsee h9 hfe.1 hfe.2))
    generalize (if r.e = 0 then { r with e := 4, place := r.pos } else r) = rr at *
    go_enter Try.func47, Try.ntmps47
    go_upto_region 1 with fail
    rw [← hX]
    clear hX hfe
    go_wp2_with fail
    refine hfl.mono ?_
    rintro e1 w1 ⟨⟨v1, rfl⟩, hI1, hG1⟩
    have H1 := hideT (HX.out.step hG1 hI1)
    clear hfl hI1 hG1 rc1 rf1 rc4 rf4
    obtain ⟨zc0, zf0⟩ := H1.out.zb.cell 0 _ rfl
    obtain ⟨zc1, zf1⟩ := H1.out.zb.cell 1 _ rfl
    obtain ⟨zc2, zf2⟩ := H1.out.zb.cell 2 _ rfl
    obtain ⟨zc3, zf3⟩ := H1.out.zb.cell 3 _ rfl
    obtain ⟨zc4, zf4⟩ := H1.out.zb.cell 4 _ rfl
    obtain ⟨zc5, zf5⟩ := H1.out.zb.cell 5 _ rfl
    obtain ⟨zc6, zf6⟩ := H1.out.zb.cell 6 _ rfl
    obtain ⟨zc7, zf7⟩ := H1.out.zb.cell 7 _ rfl
    obtain ⟨zc8, zf8⟩ := H1.out.zb.cell 8 _ rfl
    go_wp2
    obtain ⟨Y, hY⟩ : ∃ Y, Y = (((((((((w1).setCell ⟨w.heap.size, 0, none⟩ (.int .i64 0)).setCell ⟨w.heap.size, 1, none⟩ (.int .u64 0)).setCell ⟨w.heap.size, 2, none⟩ (.int .u64 0)).setCell ⟨w.heap.size, 3, none⟩ (.int .u64 0)).setCell ⟨w.heap.size, 4, none⟩ (.int .u64 0)).setCell ⟨w.heap.size, 5, none⟩ (.int .i64 0)).setCell ⟨w.heap.size, 6, none⟩ (.int .i64 0)).setCell ⟨w.heap.size, 7, none⟩ (.int .i64 0)).setCell ⟨w.heap.size, 8, none⟩ (.slice none 0 0) := ⟨_, rfl⟩
    have hYo : RO s b w (fun _ => False) Y rr (.mk 0 noneP 0 0 0 []) (.slice none 0 0) ∧ Blk9 Y w.heap.size (nodeV (.mk 0 noneP 0 0 0 []) (.slice none 0 0)) := by rw [hY]; exact H1.out.answer (.mk 0 noneP 0 0 0 []) (Kids.none _ _)
    rw [← hY]
    clear hY
    have o0 : Y.cell? ⟨w.heap.size, 0, none⟩ = some (.int .i64 0) := (hYo.2.cell 0 _ rfl).1
    have o1 : Y.cell? ⟨w.heap.size, 1, none⟩ = some (.int .u64 0) := (hYo.2.cell 1 _ rfl).1
    have o2 : Y.cell? ⟨w.heap.size, 2, none⟩ = some (.int .u64 0) := (hYo.2.cell 2 _ rfl).1
    have o3 : Y.cell? ⟨w.heap.size, 3, none⟩ = some (.int .u64 0) := (hYo.2.cell 3 _ rfl).1
    have o4 : Y.cell? ⟨w.heap.size, 4, none⟩ = some (.int .u64 0) := (hYo.2.cell 4 _ rfl).1
    have o5 : Y.cell? ⟨w.heap.size, 5, none⟩ = some (.int .i64 0) := (hYo.2.cell 5 _ rfl).1
    have o6 : Y.cell? ⟨w.heap.size, 6, none⟩ = some (.int .i64 0) := (hYo.2.cell 6 _ rfl).1
    have o7 : Y.cell? ⟨w.heap.size, 7, none⟩ = some (.int .i64 0) := (hYo.2.cell 7 _ rfl).1
    have o8 : Y.cell? ⟨w.heap.size, 8, none⟩ = some (.slice none 0 0) := (hYo.2.cell 8 _ rfl).1
    refine bodyPost_ret (v := .agg #[.int .i64 0, .int .u64 0, .int .u64 0, .int .u64 0, .int .u64 0, .int .i64 0, .int .i64 0, .int .i64 0, .slice none 0 0]) (by simp [results, Try.results47, go_sem, o0, o1, o2, o3, o4, o5, o6, o7, o8]; try rfl) rfl ?_
    exact ⟨rr, (.mk 0 noneP 0 0 0 []), _, rfl, hYo.1, HP.out⟩
  · have e9 : ((r.groups : Int) == 9) = false := by rw [beq_eq_false_iff_ne]; omega
    have k1 : IntKind.i64.wrap ((r.groups : Int) + 1) = (r.groups : Int) + 1 := by rw [IntKind.wrap_i64]; omega
    have k2 : IntKind.i64.wrap ((r.pos : Int) + 2) = (r.pos : Int) + 2 := by rw [IntKind.wrap_i64]; omega
    have hop := group_open hs h hsee h9
    obtain ⟨X1, hX1⟩ : ∃ X1, X1 = (X.setCell ⟨b, 4, none⟩ (.int .i64 ((r.groups : Int) + 1))).setCell ⟨b, 1, none⟩ (.int .i64 ((r.pos : Int) + 2)) := ⟨_, rfl⟩
    have H1 : Hid (ZI s b w X1 { r with groups := r.groups + 1, pos := r.pos + 2 }) := by
      rw [hX1]
      exact ZI.put (r := { r with groups := r.groups + 1 }) (HX.out.put 4 _ rfl) 1 _ rfl
    have hgX1 : Glob X1 := by
      rw [hX1]
      exact glob_put (glob_put hgX HX.out.rd _ _) (HX.out.put (r' := { r with groups := r.groups + 1 }) 4 _ rfl).rd _ _
    have hrc := hrow { r with groups := r.groups + 1, pos := r.pos + 2 } (P.opened r.pos) true r.pos X1 (by show s.size - (r.pos + 2) < n; omega) hop.1 rfl (fun h9 => by cases h9) (fun _ => ⟨by show P.outer ++ [P.top] ≠ []; simp, rfl⟩) H1.out.rd hgX1
    go_enter Try.func47, Try.ntmps47
    go_upto_region 1 with fail
    rw [← hX]
    clear hX
    go_wp2_with fail
    rw [← hX1]
    clear hX1 rc1 rf1 rc4 rf4
    refine hrc.mono ?_
    rintro e2 w2 ⟨r2, us, u2, rfl, hO2, hL2⟩
    obtain ⟨C, hC⟩ : ∃ C, C = catT us := ⟨_, rfl⟩
    rw [← hC] at hO2 ⊢
    obtain ⟨hb5, hf5⟩ := hO2.rd.cell (5 + (r.groups + 1)) _ (rd_bool s r2 (r.groups + 1) (by omega))
    obtain ⟨ua, uc, rfl⟩ := kids_shape hO2.kids
    have hz2 : Hid (ZI s b w w2 r2) := hideT (H1.out.step hO2.gr hO2.rd)
    have q1 : ((r.groups : Int) + 1) < 10 := by omega
    have q2 : (0 : Int) ≤ ((r.groups : Int) + 1) := by omega
    have q3 : ((r.groups : Int) + 1).toNat = r.groups + 1 := by omega
    have HO2 := hideT (And.intro hO2 (And.intro hL2 hC))
    clear hC
    clear hO2 hL2 hrc hb5 hf5
    obtain ⟨V, hV⟩ : ∃ V, V = w2.alloc (.cells #[.int .i64 (C.kind : Nat), .int .u64 (wd C.q 0 : Nat), .int .u64 (wd C.q 1 : Nat), .int .u64 (wd C.q 2 : Nat), .int .u64 (wd C.q 3 : Nat), .int .i64 C.lo, .int .i64 C.hi, .int .i64 (C.grp : Nat), .slice ua C.kids.length uc] 27) := ⟨_, rfl⟩
    have hBV : Below w2.heap.size w2 V := by rw [hV]; exact (Below.refl _ _).alloc (Nat.le_refl _) _
    have hzV := hz2.out.below hBV
    have hinV : Blk9 V w2.heap.size (nodeV C (.slice ua C.kids.length uc)) := by rw [hV]; exact ⟨rfl, heap_alloc_new w2 _⟩
    have hkV : Kids V (fun g => (False ∨ X1.heap.size ≤ g) ∧ g < w2.heap.size) (.slice ua C.kids.length uc) C.kids := (kids_blk HO2.out.1.kids).keep (fun g hg => hBV.block g hg.2) (fun _ hg => hg)
    obtain ⟨hb5, hf5⟩ := hzV.rd.cell (5 + (r.groups + 1)) _ (rd_bool s r2 (r.groups + 1) (by omega))
    have HV := hideT (And.intro hzV (And.intro hinV hkV))
    clear hBV hzV hinV hkV
    go_upto_region 9 with fail
    rw [← hV]
    clear hV
    go_upto_region 10 with fail
    obtain ⟨V1, hV1⟩ : ∃ V1, V1 = V.setCell ⟨b, 5 + (r.groups + 1), none⟩ (.bool true) := ⟨_, rfl⟩
    have hz3 : ZI s b w V1 { r2 with shut := fun y => if y = r.groups + 1 then true else r2.shut y } := by rw [hV1]; exact HV.out.1.put _ _ (rd_shut s r2 (r.groups + 1) (by omega))
    have hlw := HX.out.old
    have hx1 := H1.out.zb.lt
    have hx2 := HO2.out.1.gr.size
    have hfarb : ∀ j, j ≠ b → V1.heap[j]? = V.heap[j]? := fun j hj => by rw [hV1]; exact put_far _ _ _ _ hj
    have hin : Blk9 V1 w2.heap.size (nodeV C (.slice ua C.kids.length uc)) := HV.out.2.1.far (hfarb _ (by omega))
    have hk1 : Kids V1 (fun g => w.heap.size < g ∧ g < w2.heap.size) (.slice ua C.kids.length uc) C.kids := HV.out.2.2.keep (fun g hg => hfarb g (by rcases hg.1 with h1 | h1; exact absurd h1 id; omega)) (fun g hg => by rcases hg.1 with h1 | h1; exact absurd h1 id; omega)
    rw [← hV1]
    clear hV1 hb5 hf5
    have c0 : V1.cell? ⟨w2.heap.size, 0, none⟩ = some (.int .i64 (C.kind : Nat)) := (hin.cell 0 _ rfl).1
    have c1 : V1.cell? ⟨w2.heap.size, 1, none⟩ = some (.int .u64 (wd C.q 0 : Nat)) := (hin.cell 1 _ rfl).1
    have c2 : V1.cell? ⟨w2.heap.size, 2, none⟩ = some (.int .u64 (wd C.q 1 : Nat)) := (hin.cell 2 _ rfl).1
    have c3 : V1.cell? ⟨w2.heap.size, 3, none⟩ = some (.int .u64 (wd C.q 2 : Nat)) := (hin.cell 3 _ rfl).1
    have c4 : V1.cell? ⟨w2.heap.size, 4, none⟩ = some (.int .u64 (wd C.q 3 : Nat)) := (hin.cell 4 _ rfl).1
    have c5 : V1.cell? ⟨w2.heap.size, 5, none⟩ = some (.int .i64 C.lo) := (hin.cell 5 _ rfl).1
    have c6 : V1.cell? ⟨w2.heap.size, 6, none⟩ = some (.int .i64 C.hi) := (hin.cell 6 _ rfl).1
    have c7 : V1.cell? ⟨w2.heap.size, 7, none⟩ = some (.int .i64 (C.grp : Nat)) := (hin.cell 7 _ rfl).1
    have c8 : V1.cell? ⟨w2.heap.size, 8, none⟩ = some (.slice ua C.kids.length uc) := (hin.cell 8 _ rfl).1
    have hzo : ∀ o, Blk9 (V1.alloc o) w.heap.size zero9 := fun o => hz3.zb.far (Below.heap_alloc _ _ _ hz3.zb.lt)
    have zc0 : ∀ o, (V1.alloc o).cell? ⟨w.heap.size, 0, none⟩ = some (.int .i64 0) := fun o => ((hzo o).cell 0 _ rfl).1
    have zf0 : ∀ o, (V1.alloc o).frozen? ⟨w.heap.size, 0, none⟩ = false := fun o => ((hzo o).cell 0 _ rfl).2
    have zc1 : ∀ o, (V1.alloc o).cell? ⟨w.heap.size, 1, none⟩ = some (.int .u64 0) := fun o => ((hzo o).cell 1 _ rfl).1
    have zf1 : ∀ o, (V1.alloc o).frozen? ⟨w.heap.size, 1, none⟩ = false := fun o => ((hzo o).cell 1 _ rfl).2
    have zc2 : ∀ o, (V1.alloc o).cell? ⟨w.heap.size, 2, none⟩ = some (.int .u64 0) := fun o => ((hzo o).cell 2 _ rfl).1
    have zf2 : ∀ o, (V1.alloc o).frozen? ⟨w.heap.size, 2, none⟩ = false := fun o => ((hzo o).cell 2 _ rfl).2
    have zc3 : ∀ o, (V1.alloc o).cell? ⟨w.heap.size, 3, none⟩ = some (.int .u64 0) := fun o => ((hzo o).cell 3 _ rfl).1
    have zf3 : ∀ o, (V1.alloc o).frozen? ⟨w.heap.size, 3, none⟩ = false := fun o => ((hzo o).cell 3 _ rfl).2
    have zc4 : ∀ o, (V1.alloc o).cell? ⟨w.heap.size, 4, none⟩ = some (.int .u64 0) := fun o => ((hzo o).cell 4 _ rfl).1
    have zf4 : ∀ o, (V1.alloc o).frozen? ⟨w.heap.size, 4, none⟩ = false := fun o => ((hzo o).cell 4 _ rfl).2
    have zc5 : ∀ o, (V1.alloc o).cell? ⟨w.heap.size, 5, none⟩ = some (.int .i64 0) := fun o => ((hzo o).cell 5 _ rfl).1
    have zf5 : ∀ o, (V1.alloc o).frozen? ⟨w.heap.size, 5, none⟩ = false := fun o => ((hzo o).cell 5 _ rfl).2
    have zc6 : ∀ o, (V1.alloc o).cell? ⟨w.heap.size, 6, none⟩ = some (.int .i64 0) := fun o => ((hzo o).cell 6 _ rfl).1
    have zf6 : ∀ o, (V1.alloc o).frozen? ⟨w.heap.size, 6, none⟩ = false := fun o => ((hzo o).cell 6 _ rfl).2
    have zc7 : ∀ o, (V1.alloc o).cell? ⟨w.heap.size, 7, none⟩ = some (.int .i64 0) := fun o => ((hzo o).cell 7 _ rfl).1
    have zf7 : ∀ o, (V1.alloc o).frozen? ⟨w.heap.size, 7, none⟩ = false := fun o => ((hzo o).cell 7 _ rfl).2
    have zc8 : ∀ o, (V1.alloc o).cell? ⟨w.heap.size, 8, none⟩ = some (.slice none 0 0) := fun o => ((hzo o).cell 8 _ rfl).1
    have zf8 : ∀ o, (V1.alloc o).frozen? ⟨w.heap.size, 8, none⟩ = false := fun o => ((hzo o).cell 8 _ rfl).2
    have HE := hideT (And.intro hz3 (And.intro hin hk1))
    have HH := hideT (And.intro h (And.intro hts (And.intro hsee hop)))
    clear hz3 hin hk1 hfarb hlw hx1 hx2 h hts hsee hop hrow hI hg hgX hgX1 k1 k2 q1 q2 q3 e9 hl hg9 hn hzo
    have hkk : ∀ o, o = Obj.cells (nodeV C (.slice ua C.kids.length uc)).toArray 27 (0, 0) → Kids (V1.alloc o) (fun g => w.heap.size < g) (.slice (some ⟨V1.heap.size, 0, none⟩) 1 1) (groupT (r.groups + 1) us).kids := by
      rintro o rfl
      have hC := HO2.out.2.2
      show Kids _ _ _ [catT us]
      rw [← hC]
      have hlt := HE.out.2.1.lt
      exact kids_one (heap_alloc_new V1 _) HE.out.1.zb.lt (HE.out.2.2.keep (fun g hg => Below.heap_alloc _ _ _ (by omega)) (fun g hg => hg.1))
    have HK := hideT hkk
    have HP : Hid (PL s r.pos k P ts { r2 with shut := fun y => if y = r.groups + 1 then true else r2.shut y } (groupT (r.groups + 1) us)) := by
      rcases HO2.out.2.1 with hf | ⟨h1, _⟩ | ⟨_, q, P2, k2, hp, hgo, hq⟩
      · exact .inl ⟨hf.e, by rw [HH.out.2.2.2.2]; exact hf.run⟩
      · cases h1
      · exact group_close hs HH.out.1 HH.out.2.1 HH.out.2.2.1 h9 hgo hq hp
    clear hkk
    go_wp2
    obtain ⟨Y, hY⟩ : ∃ Y, Y = (((((((((V1.alloc (.cells #[.int .i64 (C.kind : Nat), .int .u64 (wd C.q 0 : Nat), .int .u64 (wd C.q 1 : Nat), .int .u64 (wd C.q 2 : Nat), .int .u64 (wd C.q 3 : Nat), .int .i64 C.lo, .int .i64 C.hi, .int .i64 (C.grp : Nat), .slice ua C.kids.length uc] 27)).setCell ⟨w.heap.size, 0, none⟩ (.int .i64 4)).setCell ⟨w.heap.size, 1, none⟩ (.int .u64 0)).setCell ⟨w.heap.size, 2, none⟩ (.int .u64 0)).setCell ⟨w.heap.size, 3, none⟩ (.int .u64 0)).setCell ⟨w.heap.size, 4, none⟩ (.int .u64 0)).setCell ⟨w.heap.size, 5, none⟩ (.int .i64 0)).setCell ⟨w.heap.size, 6, none⟩ (.int .i64 0)).setCell ⟨w.heap.size, 7, none⟩ (.int .i64 ((r.groups : Int) + 1))).setCell ⟨w.heap.size, 8, none⟩ (.slice (some ⟨V1.heap.size, 0, none⟩) 1 1) := ⟨_, rfl⟩
    have hYo : RO s b w (fun _ => False) Y { r2 with shut := fun y => if y = r.groups + 1 then true else r2.shut y } (groupT (r.groups + 1) us) (.slice (some ⟨V1.heap.size, 0, none⟩) 1 1) ∧ Blk9 Y w.heap.size (nodeV (groupT (r.groups + 1) us) (.slice (some ⟨V1.heap.size, 0, none⟩) 1 1)) := by rw [hY]; exact (HE.out.1.below ((Below.refl _ _).alloc (Nat.le_refl _) _)).answer (groupT (r.groups + 1) us) (HK.out _ rfl)
    rw [← hY]
    clear hY
    have o0 : Y.cell? ⟨w.heap.size, 0, none⟩ = some (.int .i64 4) := (hYo.2.cell 0 _ rfl).1
    have o1 : Y.cell? ⟨w.heap.size, 1, none⟩ = some (.int .u64 0) := (hYo.2.cell 1 _ rfl).1
    have o2 : Y.cell? ⟨w.heap.size, 2, none⟩ = some (.int .u64 0) := (hYo.2.cell 2 _ rfl).1
    have o3 : Y.cell? ⟨w.heap.size, 3, none⟩ = some (.int .u64 0) := (hYo.2.cell 3 _ rfl).1
    have o4 : Y.cell? ⟨w.heap.size, 4, none⟩ = some (.int .u64 0) := (hYo.2.cell 4 _ rfl).1
    have o5 : Y.cell? ⟨w.heap.size, 5, none⟩ = some (.int .i64 0) := (hYo.2.cell 5 _ rfl).1
    have o6 : Y.cell? ⟨w.heap.size, 6, none⟩ = some (.int .i64 0) := (hYo.2.cell 6 _ rfl).1
    have o7 : Y.cell? ⟨w.heap.size, 7, none⟩ = some (.int .i64 ((r.groups : Int) + 1)) := (hYo.2.cell 7 _ rfl).1
    have o8 : Y.cell? ⟨w.heap.size, 8, none⟩ = some (.slice (some ⟨V1.heap.size, 0, none⟩) 1 1) := (hYo.2.cell 8 _ rfl).1
    refine bodyPost_ret (v := .agg #[.int .i64 4, .int .u64 0, .int .u64 0, .int .u64 0, .int .u64 0, .int .i64 0, .int .i64 0, .int .i64 ((r.groups : Int) + 1), .slice (some ⟨V1.heap.size, 0, none⟩) 1 1]) (by simp [results, Try.results47, go_sem, o0, o1, o2, o3, o4, o5, o6, o7, o8]; try rfl) rfl ?_
    exact ⟨{ r2 with shut := fun y => if y = r.groups + 1 then true else r2.shut y }, (groupT (r.groups + 1) us), _, rfl, hYo.1, HP.out⟩
end Go.Proofs.Ytgpciekpmdihnaa
/- bre: the document's reader: part, a group. -/
namespace Go.Proofs.Ytgpciekpmdihnaa
open Go.RowKit
theorem below_drewN (B : Nat) (W : World) (n : Nat) : Below B W (W.drewN n) := { os := rfl, tape := rfl, output := rfl, size := Nat.le_refl _, block := fun _ _ => rfl }
set_option maxRecDepth 100000 in
set_option maxHeartbeats 4000000 in
theorem part_group (s : ByteArray) (hs : s.size ≤ 512) (b : Nat) (r : Rd) (P : Ps) (k : Nat) (ts : List Tr) (h : Sim s r P k) (hts : P.top.parts = ts) (hi : r.pos < s.size) (w : World) (hI : IsRd w b s r) (ff bb : Bool) (n : Nat) (hrow : RowSpec s b n) (hn : s.size - r.pos ≤ n) (hg : Glob w) (c1 : seeB s ⟨#[92, 40]⟩ r.pos = true) :
    Calls Try.prog 33 #[.pointer (some ⟨b, 0, none⟩), .bool ff, .bool bb] w fun x w' => ∃ r' t u, x = .returned (nodeA t u) ∧ RO s b w (fun _ => False) w' r' t u ∧ PL s r.pos k P ts r' t := by
  have hs30 : s.size ≤ 1073741824 := by omega
  have p0 : (0 : Int) ≤ (r.pos : Int) := by omega
  have p1 : (r.pos : Int) < (s.size : Int) := by omega
  obtain ⟨X, hX⟩ : ∃ X, X = w.alloc (.cells #[.int .i64 0, .int .u64 0, .int .u64 0, .int .u64 0, .int .u64 0, .int .i64 0, .int .i64 0, .int .i64 0, .slice none 0 0] 27) := ⟨_, rfl⟩
  have HX : Hid (ZI s b w X r) := by rw [hX]; exact ZI.start hI
  have hXs : X.heap.size = w.heap.size + 1 := by rw [hX, World.size_alloc]
  have hBX : Below w.heap.size w X := by rw [hX]; exact (Below.refl _ _).alloc (Nat.le_refl _) _
  obtain ⟨rc0, rf0⟩ := HX.out.rd.cell 0 _ rfl
  obtain ⟨rc1, rf1⟩ := HX.out.rd.cell 1 _ rfl
  go_enter Try.func33, Try.ntmps33
  go_upto_region 1 with fail
  rw [← hX]
  clear hX
  go_wp2_with fail
  have hS1 := see_any s ⟨#[92, 40]⟩ hs30 (by decide) r (by omega) b X HX.out.rd
  rw [c1] at hS1
  refine hS1.mono ?_
  rintro e1 w1 ⟨rfl, n1, rfl⟩
  have H1 := hideT (HX.out.drew n1)
  have hs1 : (X.drewN n1).heap.size = X.heap.size := rfl
  have hB1 : Below w.heap.size w (X.drewN n1) := hBX.trans (below_drewN _ _ _)
  clear hS1 rc0 rf0 rc1 rf1
  generalize X.drewN n1 = w1 at *
  obtain ⟨rc0, rf0⟩ := H1.out.rd.cell 0 _ rfl
  obtain ⟨rc1, rf1⟩ := H1.out.rd.cell 1 _ rfl
  have hgr := group_any s hs b n hrow r P k ts h hts c1 hn w1 H1.out.rd (hg.below hB1 (Nat.le_refl _))
  have HC := hideT c1
  clear c1
  go_wp2_with fail
  refine hgr.mono ?_
  rintro e2 w2 ⟨r2, t, u, rfl, hO, hL⟩
  obtain ⟨ua, uc, rfl⟩ := kids_shape hO.kids
  have H2 := hideT (H1.out.step hO.gr hO.rd)
  have HK : Hid (Kids w2 (fun g => w.heap.size < g) (.slice ua t.kids.length uc) t.kids) := hideT (hO.kids.keep (fun _ _ => rfl) (fun g hg => by rcases hg with hg | hg; exact absurd hg id; omega))
  have HL := hideT hL
  clear hgr hO hL rc0 rf0 rc1 rf1
  obtain ⟨zc0, zf0⟩ := H2.out.zb.cell 0 _ rfl
  obtain ⟨zc1, zf1⟩ := H2.out.zb.cell 1 _ rfl
  obtain ⟨zc2, zf2⟩ := H2.out.zb.cell 2 _ rfl
  obtain ⟨zc3, zf3⟩ := H2.out.zb.cell 3 _ rfl
  obtain ⟨zc4, zf4⟩ := H2.out.zb.cell 4 _ rfl
  obtain ⟨zc5, zf5⟩ := H2.out.zb.cell 5 _ rfl
  obtain ⟨zc6, zf6⟩ := H2.out.zb.cell 6 _ rfl
  obtain ⟨zc7, zf7⟩ := H2.out.zb.cell 7 _ rfl
  obtain ⟨zc8, zf8⟩ := H2.out.zb.cell 8 _ rfl
  go_wp2
  obtain ⟨Y, hY⟩ : ∃ Y, Y = (((((((((w2).setCell ⟨w.heap.size, 0, none⟩ (.int .i64 (t.kind : Nat))).setCell ⟨w.heap.size, 1, none⟩ (.int .u64 (wd t.q 0 : Nat))).setCell ⟨w.heap.size, 2, none⟩ (.int .u64 (wd t.q 1 : Nat))).setCell ⟨w.heap.size, 3, none⟩ (.int .u64 (wd t.q 2 : Nat))).setCell ⟨w.heap.size, 4, none⟩ (.int .u64 (wd t.q 3 : Nat))).setCell ⟨w.heap.size, 5, none⟩ (.int .i64 t.lo)).setCell ⟨w.heap.size, 6, none⟩ (.int .i64 t.hi)).setCell ⟨w.heap.size, 7, none⟩ (.int .i64 (t.grp : Nat))).setCell ⟨w.heap.size, 8, none⟩ (.slice ua t.kids.length uc) := ⟨_, rfl⟩
  have hYo : RO s b w (fun _ => False) Y r2 t (.slice ua t.kids.length uc) ∧ Blk9 Y w.heap.size (nodeV t (.slice ua t.kids.length uc)) := by rw [hY]; exact H2.out.answer t (HK.out)
  rw [← hY]
  clear hY
  have o0 : Y.cell? ⟨w.heap.size, 0, none⟩ = some (.int .i64 (t.kind : Nat)) := (hYo.2.cell 0 _ rfl).1
  have o1 : Y.cell? ⟨w.heap.size, 1, none⟩ = some (.int .u64 (wd t.q 0 : Nat)) := (hYo.2.cell 1 _ rfl).1
  have o2 : Y.cell? ⟨w.heap.size, 2, none⟩ = some (.int .u64 (wd t.q 1 : Nat)) := (hYo.2.cell 2 _ rfl).1
  have o3 : Y.cell? ⟨w.heap.size, 3, none⟩ = some (.int .u64 (wd t.q 2 : Nat)) := (hYo.2.cell 3 _ rfl).1
  have o4 : Y.cell? ⟨w.heap.size, 4, none⟩ = some (.int .u64 (wd t.q 3 : Nat)) := (hYo.2.cell 4 _ rfl).1
  have o5 : Y.cell? ⟨w.heap.size, 5, none⟩ = some (.int .i64 t.lo) := (hYo.2.cell 5 _ rfl).1
  have o6 : Y.cell? ⟨w.heap.size, 6, none⟩ = some (.int .i64 t.hi) := (hYo.2.cell 6 _ rfl).1
  have o7 : Y.cell? ⟨w.heap.size, 7, none⟩ = some (.int .i64 (t.grp : Nat)) := (hYo.2.cell 7 _ rfl).1
  have o8 : Y.cell? ⟨w.heap.size, 8, none⟩ = some (.slice ua t.kids.length uc) := (hYo.2.cell 8 _ rfl).1
  refine bodyPost_ret (v := .agg #[.int .i64 (t.kind : Nat), .int .u64 (wd t.q 0 : Nat), .int .u64 (wd t.q 1 : Nat), .int .u64 (wd t.q 2 : Nat), .int .u64 (wd t.q 3 : Nat), .int .i64 t.lo, .int .i64 t.hi, .int .i64 (t.grp : Nat), .slice ua t.kids.length uc]) (by simp [results, Try.results33, go_sem, o0, o1, o2, o3, o4, o5, o6, o7, o8]; try rfl) rfl ?_
  exact ⟨r2, t, _, rfl, hYo.1, HL.out⟩
end Go.Proofs.Ytgpciekpmdihnaa
/- bre: the document's reader: part, a brace. -/
namespace Go.Proofs.Ytgpciekpmdihnaa
open Go.RowKit
theorem brace_fault {s : ByteArray} {r : Rd} {P : Ps} {k : Nat} (hk : tokenT s r.pos k = tokenT s r.pos (if k = 4 then 4 else 2)) (hb : seeB s ⟨#[92, 123]⟩ r.pos = true ∨ seeB s ⟨#[92, 125]⟩ r.pos = true) {r' : Rd} (h1 : r'.e = 9) (h2 : r'.place = r.pos) : Fails s r.pos k P r' := by
  have hrb : repB (if k = 4 then 4 else 2) = false := by split <;> rfl
  have hx : r.pos + 1 < s.size ∧ byteAt s r.pos = 92 ∧ (byteAt s (r.pos + 1) = 123 ∨ byteAt s (r.pos + 1) = 125) := by
    rcases hb with hb | hb
    · rw [see2] at hb
      have h1 := of_decide_eq_true hb
      exact ⟨h1.1, h1.2.1, .inl h1.2.2⟩
    · rw [see2] at hb
      have h1 := of_decide_eq_true hb
      exact ⟨h1.1, h1.2.1, .inr h1.2.2⟩
  refine leaf_fault (e := 9) (by omega) (by decide) ?_ h1 h2
  rw [hk]
  unfold tokenT
  rw [if_pos hx.2.1]
  unfold escapeT
  rw [if_neg (by omega)]
  unfold escB
  rw [hrb]
  rcases hx.2.2 with e | e
  · rw [e]; rfl
  · rw [e]; rfl
set_option maxRecDepth 100000 in
set_option maxHeartbeats 4000000 in
theorem part_brace (s : ByteArray) (hs : s.size ≤ 512) (b : Nat) (r : Rd) (P : Ps) (k : Nat) (ts : List Tr) (h : Sim s r P k) (hi : r.pos < s.size) (w : World) (hI : IsRd w b s r) (ff bb : Bool) (hk : tokenT s r.pos k = tokenT s r.pos (if k = 4 then 4 else 2)) (c1 : seeB s ⟨#[92, 40]⟩ r.pos = false) (hb : seeB s ⟨#[92, 123]⟩ r.pos = true ∨ seeB s ⟨#[92, 125]⟩ r.pos = true) :
    Calls Try.prog 33 #[.pointer (some ⟨b, 0, none⟩), .bool ff, .bool bb] w fun x w' => ∃ r' t u, x = .returned (nodeA t u) ∧ RO s b w (fun _ => False) w' r' t u ∧ PL s r.pos k P ts r' t := by
  have hfe := failed_e h.e 9 r.pos
  have hfa : Fails s r.pos k P (if r.e = 0 then { r with e := 9, place := r.pos } else r) := brace_fault hk hb hfe.1 hfe.2
  have HFA := hideT hfa
  clear hfa hfe hk
  have hs30 : s.size ≤ 1073741824 := by omega
  have p0 : (0 : Int) ≤ (r.pos : Int) := by omega
  have p1 : (r.pos : Int) < (s.size : Int) := by omega
  obtain ⟨X, hX⟩ : ∃ X, X = w.alloc (.cells #[.int .i64 0, .int .u64 0, .int .u64 0, .int .u64 0, .int .u64 0, .int .i64 0, .int .i64 0, .int .i64 0, .slice none 0 0] 27) := ⟨_, rfl⟩
  have HX : Hid (ZI s b w X r) := by rw [hX]; exact ZI.start hI
  have hXs : X.heap.size = w.heap.size + 1 := by rw [hX, World.size_alloc]
  have hBX : Below w.heap.size w X := by rw [hX]; exact (Below.refl _ _).alloc (Nat.le_refl _) _
  obtain ⟨rc0, rf0⟩ := HX.out.rd.cell 0 _ rfl
  obtain ⟨rc1, rf1⟩ := HX.out.rd.cell 1 _ rfl
  go_enter Try.func33, Try.ntmps33
  go_upto_region 1 with fail
  rw [← hX]
  clear hX
  go_wp2_with fail
  have hS1 := see_any s ⟨#[92, 40]⟩ hs30 (by decide) r (by omega) b X HX.out.rd
  rw [c1] at hS1
  refine hS1.mono ?_
  rintro e1 w1 ⟨rfl, n1, rfl⟩
  have H1 := hideT (HX.out.drew n1)
  have hs1 : (X.drewN n1).heap.size = X.heap.size := rfl
  have hB1 : Below w.heap.size w (X.drewN n1) := hBX.trans (below_drewN _ _ _)
  clear hS1 rc0 rf0 rc1 rf1
  generalize X.drewN n1 = w1 at *
  obtain ⟨rc0, rf0⟩ := H1.out.rd.cell 0 _ rfl
  obtain ⟨rc1, rf1⟩ := H1.out.rd.cell 1 _ rfl
  clear c1
  go_wp2_with fail
  cases c2 : seeB s ⟨#[92, 123]⟩ r.pos with
  | true =>
    have hS2 := see_any s ⟨#[92, 123]⟩ hs30 (by decide) r (by omega) b w1 H1.out.rd
    rw [c2] at hS2
    refine hS2.mono ?_
    rintro e2 w2 ⟨rfl, n2, rfl⟩
    have H2 := hideT (H1.out.drew n2)
    have hs2 : (w1.drewN n2).heap.size = w1.heap.size := rfl
    have hB2 : Below w.heap.size w (w1.drewN n2) := hB1.trans (below_drewN _ _ _)
    clear hS2 rc0 rf0 rc1 rf1
    generalize w1.drewN n2 = w2 at *
    obtain ⟨rc0, rf0⟩ := H2.out.rd.cell 0 _ rfl
    obtain ⟨rc1, rf1⟩ := H2.out.rd.cell 1 _ rfl
    clear c2 hb
    have hfl := fail_any s r b 9 r.pos w2 H2.out.rd
    have HP : Hid (PL s r.pos k P ts (if r.e = 0 then { r with e := 9, place := r.pos } else r) (.mk 0 noneP 0 0 0 [])) := hideT (.inl HFA.out)
    generalize (if r.e = 0 then { r with e := 9, place := r.pos } else r) = rr at *
    go_wp2_with fail
    refine hfl.mono ?_
    rintro e9 w9 ⟨⟨v9, rfl⟩, hI9, hG9⟩
    have H9 := hideT (H2.out.step hG9 hI9)
    clear hfl hI9 hG9 rc0 rf0 rc1 rf1
    obtain ⟨zc0, zf0⟩ := H9.out.zb.cell 0 _ rfl
    obtain ⟨zc1, zf1⟩ := H9.out.zb.cell 1 _ rfl
    obtain ⟨zc2, zf2⟩ := H9.out.zb.cell 2 _ rfl
    obtain ⟨zc3, zf3⟩ := H9.out.zb.cell 3 _ rfl
    obtain ⟨zc4, zf4⟩ := H9.out.zb.cell 4 _ rfl
    obtain ⟨zc5, zf5⟩ := H9.out.zb.cell 5 _ rfl
    obtain ⟨zc6, zf6⟩ := H9.out.zb.cell 6 _ rfl
    obtain ⟨zc7, zf7⟩ := H9.out.zb.cell 7 _ rfl
    obtain ⟨zc8, zf8⟩ := H9.out.zb.cell 8 _ rfl
    go_wp2
    obtain ⟨Y, hY⟩ : ∃ Y, Y = (((((((((w9).setCell ⟨w.heap.size, 0, none⟩ (.int .i64 0)).setCell ⟨w.heap.size, 1, none⟩ (.int .u64 0)).setCell ⟨w.heap.size, 2, none⟩ (.int .u64 0)).setCell ⟨w.heap.size, 3, none⟩ (.int .u64 0)).setCell ⟨w.heap.size, 4, none⟩ (.int .u64 0)).setCell ⟨w.heap.size, 5, none⟩ (.int .i64 0)).setCell ⟨w.heap.size, 6, none⟩ (.int .i64 0)).setCell ⟨w.heap.size, 7, none⟩ (.int .i64 0)).setCell ⟨w.heap.size, 8, none⟩ (.slice none 0 0) := ⟨_, rfl⟩
    have hYo : RO s b w (fun _ => False) Y rr (.mk 0 noneP 0 0 0 []) (.slice none 0 0) ∧ Blk9 Y w.heap.size (nodeV (.mk 0 noneP 0 0 0 []) (.slice none 0 0)) := by rw [hY]; exact H9.out.answer (.mk 0 noneP 0 0 0 []) (Kids.none _ _)
    rw [← hY]
    clear hY
    have o0 : Y.cell? ⟨w.heap.size, 0, none⟩ = some (.int .i64 0) := (hYo.2.cell 0 _ rfl).1
    have o1 : Y.cell? ⟨w.heap.size, 1, none⟩ = some (.int .u64 0) := (hYo.2.cell 1 _ rfl).1
    have o2 : Y.cell? ⟨w.heap.size, 2, none⟩ = some (.int .u64 0) := (hYo.2.cell 2 _ rfl).1
    have o3 : Y.cell? ⟨w.heap.size, 3, none⟩ = some (.int .u64 0) := (hYo.2.cell 3 _ rfl).1
    have o4 : Y.cell? ⟨w.heap.size, 4, none⟩ = some (.int .u64 0) := (hYo.2.cell 4 _ rfl).1
    have o5 : Y.cell? ⟨w.heap.size, 5, none⟩ = some (.int .i64 0) := (hYo.2.cell 5 _ rfl).1
    have o6 : Y.cell? ⟨w.heap.size, 6, none⟩ = some (.int .i64 0) := (hYo.2.cell 6 _ rfl).1
    have o7 : Y.cell? ⟨w.heap.size, 7, none⟩ = some (.int .i64 0) := (hYo.2.cell 7 _ rfl).1
    have o8 : Y.cell? ⟨w.heap.size, 8, none⟩ = some (.slice none 0 0) := (hYo.2.cell 8 _ rfl).1
    refine bodyPost_ret (v := .agg #[.int .i64 0, .int .u64 0, .int .u64 0, .int .u64 0, .int .u64 0, .int .i64 0, .int .i64 0, .int .i64 0, .slice none 0 0]) (by simp [results, Try.results33, go_sem, o0, o1, o2, o3, o4, o5, o6, o7, o8]; try rfl) rfl ?_
    exact ⟨rr, (.mk 0 noneP 0 0 0 []), _, rfl, hYo.1, HP.out⟩
  | false =>
    have hS2 := see_any s ⟨#[92, 123]⟩ hs30 (by decide) r (by omega) b w1 H1.out.rd
    rw [c2] at hS2
    refine hS2.mono ?_
    rintro e2 w2 ⟨rfl, n2, rfl⟩
    have H2 := hideT (H1.out.drew n2)
    have hs2 : (w1.drewN n2).heap.size = w1.heap.size := rfl
    have hB2 : Below w.heap.size w (w1.drewN n2) := hB1.trans (below_drewN _ _ _)
    clear hS2 rc0 rf0 rc1 rf1
    generalize w1.drewN n2 = w2 at *
    obtain ⟨rc0, rf0⟩ := H2.out.rd.cell 0 _ rfl
    obtain ⟨rc1, rf1⟩ := H2.out.rd.cell 1 _ rfl
    have c3 : seeB s ⟨#[92, 125]⟩ r.pos = true := by rcases hb with hb | hb; rw [c2] at hb; cases hb; exact hb
    clear hb c2
    go_wp2_with fail
    have hS3 := see_any s ⟨#[92, 125]⟩ hs30 (by decide) r (by omega) b w2 H2.out.rd
    rw [c3] at hS3
    refine hS3.mono ?_
    rintro e3 w3 ⟨rfl, n3, rfl⟩
    have H3 := hideT (H2.out.drew n3)
    have hs3 : (w2.drewN n3).heap.size = w2.heap.size := rfl
    have hB3 : Below w.heap.size w (w2.drewN n3) := hB2.trans (below_drewN _ _ _)
    clear hS3 rc0 rf0 rc1 rf1
    generalize w2.drewN n3 = w3 at *
    obtain ⟨rc0, rf0⟩ := H3.out.rd.cell 0 _ rfl
    obtain ⟨rc1, rf1⟩ := H3.out.rd.cell 1 _ rfl
    clear c3
    have hfl := fail_any s r b 9 r.pos w3 H3.out.rd
    have HP : Hid (PL s r.pos k P ts (if r.e = 0 then { r with e := 9, place := r.pos } else r) (.mk 0 noneP 0 0 0 [])) := hideT (.inl HFA.out)
    generalize (if r.e = 0 then { r with e := 9, place := r.pos } else r) = rr at *
    go_wp2_with fail
    refine hfl.mono ?_
    rintro e9 w9 ⟨⟨v9, rfl⟩, hI9, hG9⟩
    have H9 := hideT (H3.out.step hG9 hI9)
    clear hfl hI9 hG9 rc0 rf0 rc1 rf1
    obtain ⟨zc0, zf0⟩ := H9.out.zb.cell 0 _ rfl
    obtain ⟨zc1, zf1⟩ := H9.out.zb.cell 1 _ rfl
    obtain ⟨zc2, zf2⟩ := H9.out.zb.cell 2 _ rfl
    obtain ⟨zc3, zf3⟩ := H9.out.zb.cell 3 _ rfl
    obtain ⟨zc4, zf4⟩ := H9.out.zb.cell 4 _ rfl
    obtain ⟨zc5, zf5⟩ := H9.out.zb.cell 5 _ rfl
    obtain ⟨zc6, zf6⟩ := H9.out.zb.cell 6 _ rfl
    obtain ⟨zc7, zf7⟩ := H9.out.zb.cell 7 _ rfl
    obtain ⟨zc8, zf8⟩ := H9.out.zb.cell 8 _ rfl
    go_wp2
    obtain ⟨Y, hY⟩ : ∃ Y, Y = (((((((((w9).setCell ⟨w.heap.size, 0, none⟩ (.int .i64 0)).setCell ⟨w.heap.size, 1, none⟩ (.int .u64 0)).setCell ⟨w.heap.size, 2, none⟩ (.int .u64 0)).setCell ⟨w.heap.size, 3, none⟩ (.int .u64 0)).setCell ⟨w.heap.size, 4, none⟩ (.int .u64 0)).setCell ⟨w.heap.size, 5, none⟩ (.int .i64 0)).setCell ⟨w.heap.size, 6, none⟩ (.int .i64 0)).setCell ⟨w.heap.size, 7, none⟩ (.int .i64 0)).setCell ⟨w.heap.size, 8, none⟩ (.slice none 0 0) := ⟨_, rfl⟩
    have hYo : RO s b w (fun _ => False) Y rr (.mk 0 noneP 0 0 0 []) (.slice none 0 0) ∧ Blk9 Y w.heap.size (nodeV (.mk 0 noneP 0 0 0 []) (.slice none 0 0)) := by rw [hY]; exact H9.out.answer (.mk 0 noneP 0 0 0 []) (Kids.none _ _)
    rw [← hY]
    clear hY
    have o0 : Y.cell? ⟨w.heap.size, 0, none⟩ = some (.int .i64 0) := (hYo.2.cell 0 _ rfl).1
    have o1 : Y.cell? ⟨w.heap.size, 1, none⟩ = some (.int .u64 0) := (hYo.2.cell 1 _ rfl).1
    have o2 : Y.cell? ⟨w.heap.size, 2, none⟩ = some (.int .u64 0) := (hYo.2.cell 2 _ rfl).1
    have o3 : Y.cell? ⟨w.heap.size, 3, none⟩ = some (.int .u64 0) := (hYo.2.cell 3 _ rfl).1
    have o4 : Y.cell? ⟨w.heap.size, 4, none⟩ = some (.int .u64 0) := (hYo.2.cell 4 _ rfl).1
    have o5 : Y.cell? ⟨w.heap.size, 5, none⟩ = some (.int .i64 0) := (hYo.2.cell 5 _ rfl).1
    have o6 : Y.cell? ⟨w.heap.size, 6, none⟩ = some (.int .i64 0) := (hYo.2.cell 6 _ rfl).1
    have o7 : Y.cell? ⟨w.heap.size, 7, none⟩ = some (.int .i64 0) := (hYo.2.cell 7 _ rfl).1
    have o8 : Y.cell? ⟨w.heap.size, 8, none⟩ = some (.slice none 0 0) := (hYo.2.cell 8 _ rfl).1
    refine bodyPost_ret (v := .agg #[.int .i64 0, .int .u64 0, .int .u64 0, .int .u64 0, .int .u64 0, .int .i64 0, .int .i64 0, .int .i64 0, .slice none 0 0]) (by simp [results, Try.results33, go_sem, o0, o1, o2, o3, o4, o5, o6, o7, o8]; try rfl) rfl ?_
    exact ⟨rr, (.mk 0 noneP 0 0 0 []), _, rfl, hYo.1, HP.out⟩
end Go.Proofs.Ytgpciekpmdihnaa
/- bre: the document's reader: part, a backslash. -/
namespace Go.Proofs.Ytgpciekpmdihnaa
open Go.RowKit
set_option maxRecDepth 100000 in
set_option maxHeartbeats 4000000 in
theorem part_esc (s : ByteArray) (hs : s.size ≤ 512) (b : Nat) (r : Rd) (P : Ps) (k : Nat) (ts : List Tr) (h : Sim s r P k) (hts : P.top.parts = ts) (hi : r.pos < s.size) (w : World) (hI : IsRd w b s r) (ff bb : Bool) (hk : tokenT s r.pos k = tokenT s r.pos (if k = 4 then 4 else 2)) (c1 : seeB s ⟨#[92, 40]⟩ r.pos = false) (c2 : seeB s ⟨#[92, 123]⟩ r.pos = false) (c3 : seeB s ⟨#[92, 125]⟩ r.pos = false) (c4 : seeB s ⟨#[92, 41]⟩ r.pos = false) (hb : byteAt s r.pos = 92) :
    Calls Try.prog 33 #[.pointer (some ⟨b, 0, none⟩), .bool ff, .bool bb] w fun x w' => ∃ r' t u, x = .returned (nodeA t u) ∧ RO s b w (fun _ => False) w' r' t u ∧ PL s r.pos k P ts r' t := by
  obtain ⟨t, ht1, ht2, ht3⟩ := esc_join hs h hts hi hk hb c1 c4 c2 c3
  have hb2 : (s[r.pos].toNat : Int) = 92 := by rw [← byteAt_in hi]; exact hb
  have HT := hideT (And.intro ht1 (And.intro ht2 ht3))
  have hzz : 0 ≤ r.size ∧ r.size ≤ 1000000000 := by have h8 := h.z; have h7 := h.well.good.big; have h6 := h.well.good.bounds; omega
  clear ht1 ht2 ht3 hk c4 hb
  have hs30 : s.size ≤ 1073741824 := by omega
  have p0 : (0 : Int) ≤ (r.pos : Int) := by omega
  have p1 : (r.pos : Int) < (s.size : Int) := by omega
  obtain ⟨X, hX⟩ : ∃ X, X = w.alloc (.cells #[.int .i64 0, .int .u64 0, .int .u64 0, .int .u64 0, .int .u64 0, .int .i64 0, .int .i64 0, .int .i64 0, .slice none 0 0] 27) := ⟨_, rfl⟩
  have HX : Hid (ZI s b w X r) := by rw [hX]; exact ZI.start hI
  have hXs : X.heap.size = w.heap.size + 1 := by rw [hX, World.size_alloc]
  have hBX : Below w.heap.size w X := by rw [hX]; exact (Below.refl _ _).alloc (Nat.le_refl _) _
  obtain ⟨rc0, rf0⟩ := HX.out.rd.cell 0 _ rfl
  obtain ⟨rc1, rf1⟩ := HX.out.rd.cell 1 _ rfl
  go_enter Try.func33, Try.ntmps33
  go_upto_region 1 with fail
  rw [← hX]
  clear hX
  go_wp2_with fail
  have hS1 := see_any s ⟨#[92, 40]⟩ hs30 (by decide) r (by omega) b X HX.out.rd
  rw [c1] at hS1
  refine hS1.mono ?_
  rintro e1 w1 ⟨rfl, n1, rfl⟩
  have H1 := hideT (HX.out.drew n1)
  have hs1 : (X.drewN n1).heap.size = X.heap.size := rfl
  have hB1 : Below w.heap.size w (X.drewN n1) := hBX.trans (below_drewN _ _ _)
  clear hS1 rc0 rf0 rc1 rf1
  generalize X.drewN n1 = w1 at *
  obtain ⟨rc0, rf0⟩ := H1.out.rd.cell 0 _ rfl
  obtain ⟨rc1, rf1⟩ := H1.out.rd.cell 1 _ rfl
  go_wp2_with fail
  have hS2 := see_any s ⟨#[92, 123]⟩ hs30 (by decide) r (by omega) b w1 H1.out.rd
  rw [c2] at hS2
  refine hS2.mono ?_
  rintro e2 w2 ⟨rfl, n2, rfl⟩
  have H2 := hideT (H1.out.drew n2)
  have hs2 : (w1.drewN n2).heap.size = w1.heap.size := rfl
  have hB2 : Below w.heap.size w (w1.drewN n2) := hB1.trans (below_drewN _ _ _)
  clear hS2 rc0 rf0 rc1 rf1
  generalize w1.drewN n2 = w2 at *
  obtain ⟨rc0, rf0⟩ := H2.out.rd.cell 0 _ rfl
  obtain ⟨rc1, rf1⟩ := H2.out.rd.cell 1 _ rfl
  go_wp2_with fail
  have hS3 := see_any s ⟨#[92, 125]⟩ hs30 (by decide) r (by omega) b w2 H2.out.rd
  rw [c3] at hS3
  refine hS3.mono ?_
  rintro e3 w3 ⟨rfl, n3, rfl⟩
  have H3 := hideT (H2.out.drew n3)
  have hs3 : (w2.drewN n3).heap.size = w2.heap.size := rfl
  have hB3 : Below w.heap.size w (w2.drewN n3) := hB2.trans (below_drewN _ _ _)
  clear hS3 rc0 rf0 rc1 rf1
  generalize w2.drewN n3 = w3 at *
  obtain ⟨rc0, rf0⟩ := H3.out.rd.cell 0 _ rfl
  obtain ⟨rc1, rf1⟩ := H3.out.rd.cell 1 _ rfl
  have hes := docEsc_any s hs30 r hi hzz b w3 H3.out.rd
  rw [HT.out.1] at hes
  clear c1 c2 c3
  go_wp2_with fail
  refine hes.mono ?_
  rintro e4 w4 ⟨rfl, hI4, hG4⟩
  have H4 := hideT (H3.out.step hG4 hI4)
  clear hes hI4 hG4 rc0 rf0 rc1 rf1
  obtain ⟨zc0, zf0⟩ := H4.out.zb.cell 0 _ rfl
  obtain ⟨zc1, zf1⟩ := H4.out.zb.cell 1 _ rfl
  obtain ⟨zc2, zf2⟩ := H4.out.zb.cell 2 _ rfl
  obtain ⟨zc3, zf3⟩ := H4.out.zb.cell 3 _ rfl
  obtain ⟨zc4, zf4⟩ := H4.out.zb.cell 4 _ rfl
  obtain ⟨zc5, zf5⟩ := H4.out.zb.cell 5 _ rfl
  obtain ⟨zc6, zf6⟩ := H4.out.zb.cell 6 _ rfl
  obtain ⟨zc7, zf7⟩ := H4.out.zb.cell 7 _ rfl
  obtain ⟨zc8, zf8⟩ := H4.out.zb.cell 8 _ rfl
  have HK : Hid (Kids w4 (fun g => w.heap.size < g) (.slice none 0 0) t.kids) := hideT (by rw [HT.out.2.1]; exact Kids.none _ _)
  go_wp2
  obtain ⟨Y, hY⟩ : ∃ Y, Y = (((((((((w4).setCell ⟨w.heap.size, 0, none⟩ (.int .i64 (t.kind : Nat))).setCell ⟨w.heap.size, 1, none⟩ (.int .u64 (wd t.q 0 : Nat))).setCell ⟨w.heap.size, 2, none⟩ (.int .u64 (wd t.q 1 : Nat))).setCell ⟨w.heap.size, 3, none⟩ (.int .u64 (wd t.q 2 : Nat))).setCell ⟨w.heap.size, 4, none⟩ (.int .u64 (wd t.q 3 : Nat))).setCell ⟨w.heap.size, 5, none⟩ (.int .i64 t.lo)).setCell ⟨w.heap.size, 6, none⟩ (.int .i64 t.hi)).setCell ⟨w.heap.size, 7, none⟩ (.int .i64 (t.grp : Nat))).setCell ⟨w.heap.size, 8, none⟩ (.slice none 0 0) := ⟨_, rfl⟩
  have hYo : RO s b w (fun _ => False) Y (escR s r).1 t (.slice none 0 0) ∧ Blk9 Y w.heap.size (nodeV t (.slice none 0 0)) := by rw [hY]; exact H4.out.answer t (HK.out)
  rw [← hY]
  clear hY
  have o0 : Y.cell? ⟨w.heap.size, 0, none⟩ = some (.int .i64 (t.kind : Nat)) := (hYo.2.cell 0 _ rfl).1
  have o1 : Y.cell? ⟨w.heap.size, 1, none⟩ = some (.int .u64 (wd t.q 0 : Nat)) := (hYo.2.cell 1 _ rfl).1
  have o2 : Y.cell? ⟨w.heap.size, 2, none⟩ = some (.int .u64 (wd t.q 1 : Nat)) := (hYo.2.cell 2 _ rfl).1
  have o3 : Y.cell? ⟨w.heap.size, 3, none⟩ = some (.int .u64 (wd t.q 2 : Nat)) := (hYo.2.cell 3 _ rfl).1
  have o4 : Y.cell? ⟨w.heap.size, 4, none⟩ = some (.int .u64 (wd t.q 3 : Nat)) := (hYo.2.cell 4 _ rfl).1
  have o5 : Y.cell? ⟨w.heap.size, 5, none⟩ = some (.int .i64 t.lo) := (hYo.2.cell 5 _ rfl).1
  have o6 : Y.cell? ⟨w.heap.size, 6, none⟩ = some (.int .i64 t.hi) := (hYo.2.cell 6 _ rfl).1
  have o7 : Y.cell? ⟨w.heap.size, 7, none⟩ = some (.int .i64 (t.grp : Nat)) := (hYo.2.cell 7 _ rfl).1
  have o8 : Y.cell? ⟨w.heap.size, 8, none⟩ = some (.slice none 0 0) := (hYo.2.cell 8 _ rfl).1
  refine bodyPost_ret (v := .agg #[.int .i64 (t.kind : Nat), .int .u64 (wd t.q 0 : Nat), .int .u64 (wd t.q 1 : Nat), .int .u64 (wd t.q 2 : Nat), .int .u64 (wd t.q 3 : Nat), .int .i64 t.lo, .int .i64 t.hi, .int .i64 (t.grp : Nat), .slice none 0 0]) (by simp [results, Try.results33, go_sem, o0, o1, o2, o3, o4, o5, o6, o7, o8]; try rfl) rfl ?_
  exact ⟨(escR s r).1, t, _, rfl, hYo.1, HT.out.2.2⟩
end Go.Proofs.Ytgpciekpmdihnaa
