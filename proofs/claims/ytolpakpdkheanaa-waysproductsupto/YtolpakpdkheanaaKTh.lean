/- tally: points as keys. tally: the map of what was counted so far. -/
import Derived.Test.YtolpakpdkheanaaKLy
import Derived.DeepKeys4
import Derived.Maps.Keyed
import Derived.Maps.OwnSet
import Derived.Maps.Views
set_option maxRecDepth 100000
set_option maxHeartbeats 4000000
namespace Go.Proofs.Ytolpakpdkheanaa.tly
open Go.RowKit Go.Maps Go.WideMaps Go.Proofs.Ytolpakpdkheanaa.br
theorem pn_laid : laidOutB Try.prog = true := by kernel_rfl
theorem pn_row : (132 : TypeId) < Try.prog.types.size := of_decide_eq_true (by kernel_rfl)
theorem pn_und : (match Try.prog.underlying 132 with | some (.array _ _) | some (.struct _) => true | _ => false) = true := by rw [Try.underlying132]
theorem pn_law : KeyLaw Try.prog 132 := deep_law_laid pn_laid (m := 2) (by omega) pn_row (by kernel_rfl) pn_und
theorem pn_keyed : Keyed Try.prog 132 := Keyed.of_law pn_law
theorem i64_wf {p : Nat} (hp : p ≤ 1000000) : (Lit.int .i64 (p : Nat)).wf = true := by
 have h1 : IntKind.i64.min ≤ 0 := by decide
 have h2 : (1000000 : Int) ≤ IntKind.i64.max := by decide
 simp [Lit.wf]; omega
theorem pn_c : Try.prog.cellsOf 132 = 2 := by kernel_rfl
theorem pn_i : Try.prog.cellsOf 3 = 1 := by kernel_rfl
theorem pn_lits (d p q : Nat) (hp : p ≤ 1000000) (hq : q ≤ 1000000) : Try.prog.keyLits (d + 2) 132 [.int .i64 (p : Nat), .int .i64 (q : Nat)] = some [.int .i64 (p : Nat), .int .i64 (q : Nat)] := by
 have w1 := i64_wf hp
 have w2 := i64_wf hq
 unfold Program.keyLits
 rw [Try.underlying132]
 unfold Program.keyLits
 simp [w1, w2, pn_c, pn_i]
theorem pn_key {p q : Nat} (hp : p ≤ 1000000) (hq : q ≤ 1000000) : keyOf Try.prog 132 (.agg #[.int .i64 (p : Nat), .int .i64 (q : Nat)]) = some (.string (keyBytes [.int .i64 (p : Nat), .int .i64 (q : Nat)])) := by
 have h1 : Try.prog.keyType 132 = true := by kernel_rfl
 have h2 : Value.formed Try.prog 132 (.agg #[.int .i64 (p : Nat), .int .i64 (q : Nat)]) = true := by
  unfold Value.formed
  rw [Try.underlying132]
  simp [pn_c]
 obtain ⟨d, hd⟩ : ∃ d, Try.prog.types.size + 1 = d + 2 := ⟨Try.prog.types.size - 1, by have h0 : 0 < Try.prog.types.size := Nat.lt_of_le_of_lt (Nat.zero_le _) pn_row; omega⟩
 unfold keyOf
 rw [Try.underlying132]
 dsimp only
 rw [h1, h2, hd]
 have h3 := pn_lits d p q hp hq
 simp only [Value.cells, Bool.and_self, if_true]
 rw [h3]; rfl
theorem pn_inj {p q p' q' : Nat} (hp : p ≤ 1000000) (hq : q ≤ 1000000) (hp' : p' ≤ 1000000) (hq' : q' ≤ 1000000) (h : keyBytes [.int .i64 (p : Nat), .int .i64 (q : Nat)] = keyBytes [.int .i64 (p' : Nat), .int .i64 (q' : Nat)]) : p = p' ∧ q = q' := by
 have h1 := pn_key hp hq
 rw [h] at h1
 have h2 := pn_law.inj h1 (pn_key hp' hq')
 simp only [Value.agg.injEq, Array.mk.injEq, List.cons.injEq, Value.int.injEq, true_and, and_true, Int.natCast_inj] at h2
 exact h2
end Go.Proofs.Ytolpakpdkheanaa.tly
namespace Go.Proofs.Ytolpakpdkheanaa.tly
open Go.RowKit Go.Maps Go.WideMaps Go.Proofs.Ytolpakpdkheanaa.br
abbrev pkey (p q : Nat) : Lit := .string (keyBytes [.int .i64 (p : Nat), .int .i64 (q : Nat)])
def ptsL : List (Nat × Nat) := (List.range 256).flatMap fun p => (List.range 1025).map fun q => (p, q)
theorem pts_mem {p q : Nat} (hp : p < 256) (hq : q ≤ 1024) : (p, q) ∈ ptsL := by
 unfold ptsL
 exact List.mem_flatMap.2 ⟨p, List.mem_range.2 hp, List.mem_map.2 ⟨q, List.mem_range.2 (by omega), rfl⟩⟩
theorem pts_len : ptsL.length = 262400 := by
 unfold ptsL
 rw [List.length_flatMap]
 simp only [List.length_map, List.length_range]
 rw [List.map_const', List.sum_replicate_nat, List.length_range]
theorem countP_lt {α : Type} {f g : α → Bool} : ∀ {l : List α}, (∀ x ∈ l, f x = true → g x = true) → ∀ {x : α}, x ∈ l → f x = false → g x = true → l.countP f + 1 ≤ l.countP g
 | [], _, _, h, _, _ => nomatch h
 | y :: l, h, x, hx, h1, h2 => by
  have h0 : l.countP f ≤ l.countP g := List.countP_mono_left fun z hz => h z (List.mem_cons_of_mem _ hz)
  rw [List.countP_cons, List.countP_cons]
  rcases List.mem_cons.1 hx with rfl | hx
  · rw [h1, h2]; simp; exact h0
  · have := countP_lt (fun z hz => h z (List.mem_cons_of_mem _ hz)) hx h1 h2
    cases e : f y with
    | false => simp; omega
    | true => rw [h y List.mem_cons_self e]; simp; exact this
theorem klit (p q : Nat) : WideAt.IsKeyLit (pkey p q) := True.intro
def freeN (D : DataW Unit) : Nat := ptsL.countP fun x => !has D (pkey x.1 x.2)
theorem free_le (D : DataW Unit) : freeN D ≤ 262400 := by
 unfold freeN
 exact Nat.le_trans List.countP_le_length (Nat.le_of_eq pts_len)
theorem free_put {D : DataW Unit} (hD : IsMap D) {p q : Nat} (hp : p < 256) (hq : q ≤ 1024) (h : has D (pkey p q) = false) (d : DataW Unit) : freeN (D.put (pkey p q) d) + 1 ≤ freeN D := by
 unfold freeN
 refine countP_lt (fun x _ hx => ?_) (pts_mem hp hq) ?_ ?_
 · by_cases e : pkey x.1 x.2 = pkey p q
   · rw [e, has_put_same hD (klit _ _)] at hx; cases hx
   · rwa [has_put_other e] at hx
 · show (!has (D.put (pkey p q) d) (pkey p q)) = false
   rw [has_put_same hD (klit _ _)]; rfl
 · show (!has D (pkey p q)) = true
   rw [h]; rfl
structure CoV (W : World) (B : Tb) (s : ByteArray) (lo M : Nat) : Prop where
 ex : ∃ (n : Nat) (D : DataW Unit), W.ownsMap Try.prog 132 (plainElem Try.prog 3) M n D ∧ IsMap D ∧ Maps.size D + freeN D ≤ 262400 ∧ ∀ p q, p < B.takes.length → lo < q → q ≤ s.size → has D (pkey p q) = true → D.atKey (pkey p q) (.lit (.int .i64 0)) = .lit (.int .i64 (behF B (bnS s) (s.size - q) p : Nat))
structure TcV (W : World) (X T : Nat) (s : ByteArray) (B : Tb) (gt gn gl : Nat) (ge : Nat → Nat) (lo M : Nat) : Prop where
 ta : TaV W X T s B gt gn gl ge lo
 c9 : W.cell? ⟨T, 9, none⟩ = some (.map (some M))
 co : CoV W B s lo M
theorem CoV.blk {W : World} {B : Tb} {s : ByteArray} {lo M : Nat} (h : CoV W B s lo M) : ∃ es c, W.heap[M]? = some (.map es c) := by
 obtain ⟨n, D, ⟨es, c, h1, _⟩, _⟩ := h.ex
 exact ⟨es, c, h1⟩
theorem ne_map {W : World} {M : Nat} {es : Array MapEntry} {c : Nat} (hM : W.heap[M]? = some (.map es c)) {a : Addr} {v : Value} (h : W.cell? a = some v) : a.block ≠ M := by
 intro e
 unfold World.cell? at h
 rw [e, hM] at h
 cases h
theorem turn_cell {W W' : World} {M : Nat} {es : Array MapEntry} {c : Nat} (hM : W.heap[M]? = some (.map es c)) (hf : TiF M M W W') {a : Addr} {v : Value} (h : W.cell? a = some v) : W'.cell? a = some v :=
 (World.cell?_of_block (hf.block _ (World.block_lt_of_cell? W a h) (ne_map hM h) (ne_map hM h))).trans h
theorem turn_blk {W W' : World} {M : Nat} {es : Array MapEntry} {c : Nat} (hM : W.heap[M]? = some (.map es c)) (hf : TiF M M W W') {k : Nat} {cs : Array Value} {t : TypeId} {fr : Nat × Nat} (h : W.heap[k]? = some (.cells cs t fr)) : W'.heap[k]? = some (.cells cs t fr) := by
 have hk := (Array.getElem?_eq_some_iff.1 h).1
 have hne : k ≠ M := fun e => by rw [e, hM] at h; cases h
 exact (hf.block k hk hne hne).trans h
theorem StR.turn {W W' : World} {M : Nat} {es : Array MapEntry} {c : Nat} (hM : W.heap[M]? = some (.map es c)) (hf : TiF M M W W') {S S' : Nat → Prop} {v : Value} {l : Stp} (h : StR W S v l) (hS : ∀ g, S g → S' g) : StR W' S' v l := by
 rcases h with h | ⟨g, o, c, h1, h2, h3, ⟨cur, h5⟩, h4⟩
 · exact .inl h
 · exact .inr ⟨g, o, c, h1, h2, hS g h3, ⟨cur, turn_blk hM hf h5⟩, fun i x hi => ⟨turn_cell hM hf (h4 i x hi).1, turn_cell hM hf (h4 i x hi).2⟩⟩
theorem TiV.turn {W W' : World} {M : Nat} {es : Array MapEntry} {c : Nat} (hM : W.heap[M]? = some (.map es c)) (hf : TiF M M W W') {X T gt gn N : Nat} {a : TN} (h : TiV W X T gt gn N a) : TiV W' X T gt gn N a := by
 obtain ⟨c2, h2⟩ := h.c2
 obtain ⟨c3, h3⟩ := h.c3
 obtain ⟨vs, v1, v2, v3, v4⟩ := h.nx
 exact ⟨⟨c2, turn_cell hM hf h2⟩, ⟨c3, turn_cell hM hf h3⟩, ⟨turn_blk hM hf h.tk.1, h.tk.2⟩, ⟨vs, turn_blk hM hf v1, v2, v3, fun i l hl => ⟨(v4 i l hl).1, by
  obtain ⟨v, e, r⟩ := (v4 i l hl).2
  exact ⟨v, e, r.turn hM hf fun g hg => ⟨hg.1, Nat.lt_of_lt_of_le hg.2 hf.size⟩⟩⟩⟩, h.ne⟩
theorem TaV.turn {W W' : World} {M : Nat} {es : Array MapEntry} {c : Nat} (hM : W.heap[M]? = some (.map es c)) (hf : TiF M M W W') {X T : Nat} {s : ByteArray} {B : Tb} {gt gn gl : Nat} {ge : Nat → Nat} {lo : Nat} (h : TaV W X T s B gt gn gl ge lo) : TaV W' X T s B gt gn gl ge lo :=
 ⟨h.ti.turn hM hf, turn_cell hM hf h.c1, (by obtain ⟨c, hc⟩ := h.c8; exact ⟨c, turn_cell hM hf hc⟩), fun k hk => ⟨(by obtain ⟨c, hc⟩ := (h.la k hk).1; exact ⟨c, turn_cell hM hf hc⟩), fun i hi => turn_cell hM hf ((h.la k hk).2 i hi)⟩, fun q h1 h2 => by
  obtain ⟨gr, rc, e1, e2⟩ := h.li q h1 h2
  exact ⟨gr, rc, turn_cell hM hf e1, fun i b hb' => turn_cell hM hf (e2 i b hb')⟩⟩
theorem own_below {W W' : World} {P : Program} {k : TypeId} {R : Value → Option (DataW Unit × List MemPlace)} {b n : Nat} {D : DataW Unit} (h : W.ownsMap P k R b n D) (hb : W'.heap[b]? = W.heap[b]?) : W'.ownsMap P k R b n D := by
 obtain ⟨es, c, h1, h2⟩ := h
 exact ⟨es, c, hb.trans h1, h2⟩
theorem CoV.below {W W' : World} {B : Tb} {s : ByteArray} {lo M : Nat} (h : CoV W B s lo M) (hb : Below W.heap.size W W') : CoV W' B s lo M := by
 obtain ⟨n, D, h1, h2⟩ := h.ex
 exact ⟨n, D, own_below h1 (hb.block _ h1.lt), h2⟩
theorem TcV.below {W W' : World} {X T : Nat} {s : ByteArray} {B : Tb} {gt gn gl : Nat} {ge : Nat → Nat} {lo M : Nat} (h : TcV W X T s B gt gn gl ge lo M) (hb : Below W.heap.size W W') : TcV W' X T s B gt gn gl ge lo M := ⟨h.ta.below hb, keep_cell hb h.c9, h.co.below hb⟩
theorem int_und : Try.prog.underlying 3 = some (.int .i64) := by kernel_rfl
theorem map_und : Try.prog.underlying 90 = some (.map 132 3) := by kernel_rfl
theorem zeroInt (w : World) : (zeroValue 3).run Try.prog w = .ok (.int .i64 0) w := Try.zeroValue3 w
theorem CoV.look {W : World} {B : Tb} {s : ByteArray} {lo M : Nat} (h : CoV W B s lo M) {p q : Nat} (hp : p < B.takes.length) (hN : B.takes.length ≤ 256) (h1 : lo < q) (h2 : q ≤ s.size) (hs : s.size ≤ 1024) :
 (∀ V : World, V.heap[M]? = W.heap[M]? → (Instr.lookup 90 (.map (some M)) (.agg #[.int .i64 (p : Nat), .int .i64 (q : Nat)]) true).run Try.prog V = .ok (.tuple #[.int .i64 (behF B (bnS s) (s.size - q) p : Nat), .bool true]) V) ∨
 ((∃ c : Int, ∀ V : World, V.heap[M]? = W.heap[M]? → (Instr.lookup 90 (.map (some M)) (.agg #[.int .i64 (p : Nat), .int .i64 (q : Nat)]) true).run Try.prog V = .ok (.tuple #[.int .i64 c, .bool false]) V) ∧
  ∀ D n, W.ownsMap Try.prog 132 (plainElem (H := Unit) Try.prog 3) M n D → has D (pkey p q) = false) := by
 obtain ⟨n, D, o1, o2, o3, o4⟩ := h.ex
 have hk := pn_key (p := p) (q := q) (by omega) (by omega)
 have hw0 : (Lit.int .i64 0).wf = true := by decide
 cases hh : has D (pkey p q) with
 | true =>
  left
  intro V hV
  obtain ⟨v, ps, e1, e2⟩ := (own_below o1 hV).look_ok pn_keyed map_und (zeroInt V) (plainElem_int int_und hw0) hk
  rw [hh] at e1
  rw [o4 p q hp h1 h2 hh] at e2
  obtain ⟨c, rfl, hc, _⟩ := plainElem_int_inv int_und e2
  simp only [Prod.mk.injEq, DataW.lit.injEq, Lit.int.injEq, true_and] at hc
  rw [← hc.1] at e1
  exact e1
 | false =>
  right
  refine ⟨⟨0, fun V hV => ?_⟩, fun D' n' o' => ?_⟩
  · obtain ⟨es, c0, hb, F, _, rfl⟩ := own_below o1 hV
    rcases Maps.fit_look true pn_keyed map_und (zeroInt V) hb F hk with ⟨hrun, _, _⟩ | ⟨e0, y, _, _, hrun, hRv, hat, _⟩
    · exact hrun
    · rw [Maps.has_true_of_atKey hat] at hh; cases hh
  · obtain ⟨es, c, b1, _, _, rfl⟩ := o1
    obtain ⟨es', c', b1', _, _, rfl⟩ := o'
    rw [b1] at b1'
    cases b1'
    exact hh
theorem own_size {W : World} {P : Program} {k : TypeId} {R : Value → Option (DataW Unit × List MemPlace)} {b n : Nat} {D : DataW Unit} (h : W.ownsMap P k R b n D) : W.ownsMap P k R b (Maps.size D) D := by
 obtain ⟨es, c, h1, h2, h3, rfl⟩ := h
 exact ⟨es, c, h1, h2, by simp [Maps.size, length_sorted], rfl⟩
theorem free_mono {D : DataW Unit} (hD : IsMap D) (p q : Nat) (d : DataW Unit) : freeN (D.put (pkey p q) d) ≤ freeN D := by
 unfold freeN
 refine List.countP_mono_left fun x _ hx => ?_
 by_cases e : pkey x.1 x.2 = pkey p q
 · rw [e, has_put_same hD (klit _ _)] at hx; cases hx
 · rwa [has_put_other e] at hx
theorem CoV.put {W : World} {B : Tb} {s : ByteArray} {lo M : Nat} (h : CoV W B s lo M) {p q : Nat} (hp : p < B.takes.length) (hN : B.takes.length ≤ 256) (h1 : lo < q) (h2 : q ≤ s.size) (hs : s.size ≤ 1024) (hv : behF B (bnS s) (s.size - q) p ≤ 4097) :
 ∃ W', (Instr.mapUpdate 90 (.map (some M)) (.agg #[.int .i64 (p : Nat), .int .i64 (q : Nat)]) (.int .i64 (behF B (bnS s) (s.size - q) p : Nat))).run Try.prog W = .ok () W' ∧ TiF M M W W' ∧ CoV W' B s lo M := by
 obtain ⟨n, D, o1, o2, o3, o4⟩ := h.ex
 have hk := pn_key (p := p) (q := q) (by omega) (by omega)
 have hw := i64_wf (p := behF B (bnS s) (s.size - q) p) (by omega)
 obtain ⟨W', r1, r2, r3⟩ := (own_size o1).update pn_keyed map_und (by unfold maxLen; omega) hk (plainElem_int int_und hw)
 refine ⟨W', r1, ⟨r3.os, r3.tape, r3.output, r3.size, fun k hk hne _ => r3.block k hk fun e => hne (by cases e; rfl)⟩, ?_⟩
 refine ⟨_, _, r2, o2.put _ _, ?_, fun p' q' a1 a2 a3 a4 => ?_⟩
 · show Maps.size (D.put (pkey p q) (.lit (.int .i64 (behF B (bnS s) (s.size - q) p : Nat)))) + freeN (D.put (pkey p q) (.lit (.int .i64 (behF B (bnS s) (s.size - q) p : Nat)))) ≤ 262400
   have hsp := Maps.size_put (o1.tidy pn_keyed) (k := pkey p q) (.lit (.int .i64 (behF B (bnS s) (s.size - q) p : Nat)))
   have hf0 := free_mono o2 p q (.lit (.int .i64 (behF B (bnS s) (s.size - q) p : Nat)))
   cases hh : has D (pkey p q) with
   | false =>
    have hf := free_put o2 (p := p) (q := q) (by omega) (by omega) hh (.lit (.int .i64 (behF B (bnS s) (s.size - q) p : Nat)))
    rw [hh, if_neg (by decide)] at hsp
    omega
   | true =>
    rw [hh, if_pos rfl] at hsp
    omega
 · by_cases e : pkey p' q' = pkey p q
   · have e' : keyBytes [.int .i64 (p' : Nat), .int .i64 (q' : Nat)] = keyBytes [.int .i64 (p : Nat), .int .i64 (q : Nat)] := Lit.string.inj e
     obtain ⟨rfl, rfl⟩ := pn_inj (by omega) (by omega) (by omega) (by omega) e'
     exact atKey_put_same o2 (klit _ _) _ _
   · rw [atKey_put_other e]
     rw [has_put_other e] at a4
     exact o4 p' q' a1 a2 a3 a4
end Go.Proofs.Ytolpakpdkheanaa.tly
