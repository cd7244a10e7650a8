/- KTc -/
import Derived.Test.YtbekghinikjjeaaGreatDoorKTb
import Derived.Test.YtbekghinikjjeaaGreatDoorKSo
set_option maxRecDepth 100000
set_option maxHeartbeats 4000000
namespace Go.Proofs.YtbekghinikjjeaaGreatDoor.smt
open Go.RowKit Go.Proofs.YtbekghinikjjeaaGreatDoor.br
structure TiI (W0 W : World) (B b : Nat) (S : Nat → Prop) (g : Nat) (ag : Bool) (a : Ac) (vl vt vn : Value) (cs : List Nat) (bx n2 : Nat) (N : List Nat) (Bh : List Bd) : Prop where
 ac : AcV W B b S g ag ⟨a.deep, a.links, a.takes, N⟩ vl vt vn cs
 f : AcF B S W0 W
 box : Bx W bx 125 (.pointer (some ⟨b, 0, none⟩))
 bh : W.heap[n2]? = some (.cells (bsV Bh).toArray 161 (0, 0))
theorem TiI.keep {W0 W W' : World} {B b : Nat} {S : Nat → Prop} {g : Nat} {ag : Bool} {a : Ac} {vl vt vn : Value} {cs : List Nat} {bx n2 : Nat} {N : List Nat} {Bh : List Bd} (h : TiI W0 W B b S g ag a vl vt vn cs bx n2 N Bh) (hb : Below W.heap.size W W') : TiI W0 W' B b S g ag a vl vt vn cs bx n2 N Bh :=
 ⟨h.ac.keep hb, h.f.trans (AcF.of hb (Nat.le_trans h.ac.hb (Nat.le_of_lt h.ac.lt)) (fun k hk => (h.ac.nS k hk).1)), (hb.block bx (Array.getElem?_eq_some_iff.1 h.box).1).trans h.box, (hb.block n2 (Array.getElem?_eq_some_iff.1 h.bh).1).trans h.bh⟩
theorem bs_zero : bsV zeroB = zr 4 := by
 have e : ∀ i, wd (Nat.testBit 0) i = 0 := wd_zero
 simp [bsV, bdV, zeroB, bat, e, zr, z9, List.replicate]
theorem lk_cells {W : World} {B b : Nat} {S : Nat → Prop} {g : Nat} {ag : Bool} {a : Ac} {vl vt vn : Value} {cs : List Nat} (h : AcV W B b S g ag a vl vt vn cs) {i : Nat} {l : Pt × Nat × Bool} (hl : a.links[i]? = some l) : ∃ gl cap c, vl = .slice (some ⟨gl, 0, none⟩) a.links.length cap ∧ cs[i]? = some c ∧ W.cell? ⟨gl, i * 3, none⟩ = some (.pointer (some ⟨c, 0, none⟩)) ∧ W.cell? ⟨gl, i * 3 + 1, none⟩ = some (.int .i64 (l.2.1 : Nat)) ∧ W.cell? ⟨gl, i * 3 + 2, none⟩ = some (.bool l.2.2) ∧ PtAt W S c l.1 := by
 have hi := (List.getElem?_eq_some_iff.1 hl).1
 obtain ⟨gl, cap, rfl, _, _⟩ := h.ol.form (by omega)
 obtain ⟨c, hc⟩ : ∃ c, cs[i]? = some c := ⟨_, List.getElem?_eq_getElem (by rw [h.hl]; exact hi)⟩
 obtain ⟨k0, k1, k2⟩ := lkV_get hl hc
 exact ⟨gl, cap, c, rfl, hc, (owns_cell h.ol _ _ k0).1, (owns_cell h.ol _ _ k1).1, (owns_cell h.ol _ _ k2).1, h.kids i l c hl hc⟩
def tiS (ag : Bool) (a : Ac) (n : Nat) : List Nat × List Bd := (a.links.drop n).foldr tieStep (a.next, bhd ag a.links)
theorem ln_four {l : Pt × Nat × Bool} (h : l.1.bds.length = 4) : (lnB l).length = 4 := by
 unfold lnB
 cases l.2.2
 · dsimp only; rw [cond_false, List.length_map]; exact h
 · dsimp only; rw [cond_true, optB, List.length_map, List.length_map]; exact h
theorem bhd_last {ls : List (Pt × Nat × Bool)} {l : Pt × Nat × Bool} (h : ls[ls.length - 1]? = some l) : bhd true ls = optB (lnB l) := by
 unfold bhd
 rw [List.getLast?_eq_getElem?, h]; rfl
theorem AcV.move {W W' : World} {B b : Nat} {S : Nat → Prop} {g : Nat} {ag : Bool} {a : Ac} {vl vt vn : Value} {cs : List Nat} (h : AcV W B b S g ag a vl vt vn cs) (hsz : W.heap.size ≤ W'.heap.size) (hb : W'.heap[b]? = W.heap[b]?) (hr : ∀ k, vl.ownBlock = some k ∨ vt.ownBlock = some k ∨ vn.ownBlock = some k → W'.heap[k]? = W.heap[k]?) (hS : ∀ k, S k → W'.heap[k]? = W.heap[k]?) : AcV W' B b S g ag a vl vt vn cs :=
 ⟨h.hb, hb.trans h.blk, h.hl, owns_keep h.ol fun k hk => hr k (.inl hk), owns_keep h.ot fun k hk => hr k (.inr (.inl hk)), owns_keep h.on fun k hk => hr k (.inr (.inr hk)), fun k hk => ⟨Nat.lt_of_lt_of_le (h.nS k hk).1 hsz, (h.nS k hk).2⟩, fun i l c hi hc => (h.kids i l c hi hc).keep hS (fun _ h => h)⟩
theorem TiI.beh {W0 W : World} {B b : Nat} {S : Nat → Prop} {g : Nat} {ag : Bool} {a : Ac} {vl vt vn : Value} {cs : List Nat} {n2 : Nat} {N : List Nat} {Bh : List Bd} (h : TiI W0 W B b S g ag a vl vt vn cs W0.heap.size n2 N Bh) (Bh' : List Bd) (h2 : W0.heap.size < n2) (hbC : b ≠ n2) (hS : ∀ k, S k → k < W0.heap.size) (hB : B ≤ W0.heap.size) : TiI W0 (W.setCells n2 0 (bsV Bh')) B b S g ag a vl vt vn cs W0.heap.size n2 N Bh' := by
 have far : ∀ k, k ≠ n2 → (W.setCells n2 0 (bsV Bh')).heap[k]? = W.heap[k]? := fun k hk => setCells_far W n2 hk _ 0
 have hsz : (W.setCells n2 0 (bsV Bh')).heap.size = W.heap.size := setCells_size n2 _ W 0
 have hbs := below_setCells (B := 0) n2 (Nat.zero_le _) (bsV Bh') W 0 (Below.refl _ _)
 refine ⟨h.ac.move (by omega) (far b hbC) (fun k hk => far k (fun e => ?_)) (fun k hk => far k (by have := hS k hk; omega)), ⟨hbs.os.trans h.f.os, hbs.tape.trans h.f.tape, hbs.output.trans h.f.output, by rw [hsz]; exact h.f.size, fun k hk => (far k (by omega)).trans (h.f.low k hk), fun k hk => (far k (by have := hS k hk; omega)).trans (h.f.s k hk)⟩, (far _ (by omega)).trans h.box, setCells_whole (bsV Bh') h.bh rfl⟩
 subst e
 rcases hk with hk | hk | hk
 · exact own_nb h.ac.ol h.bh (by decide) hk
 · exact own_nb h.ac.ot h.bh (by decide) hk
 · exact own_nb h.ac.on h.bh (by decide) hk
def mkD (D : Nat) : Deferred := { target := .collected D, args := #[] }
def Marks (W0 W : World) (Ds : List Nat) : Prop := (∀ D, D ∈ Ds → W0.heap.size ≤ D ∧ W.heap[D]? = some (.deferred (some []))) ∧ Ds.Pairwise (· ≠ ·)
theorem Marks.keep {W0 W W' : World} {Ds : List Nat} (h : Marks W0 W Ds) (hb : Below W.heap.size W W') : Marks W0 W' Ds := ⟨fun D hD => ⟨(h.1 D hD).1, (hb.block D (Array.getElem?_eq_some_iff.1 (h.1 D hD).2).1).trans (h.1 D hD).2⟩, h.2⟩
theorem fr_ex {P : (Nat → Value) → Prop} (L : List Value) (h : P (fun i => L.getD i undef)) : ∃ u, P u := ⟨_, h⟩
structure Lo (n B b : Nat) (S : Nat → Prop) (vl vt vn : Value) (bx C : Nat) : Prop where
 b : b < n
 bx : bx < n
 c : C < n
 r : ∀ k, vl.ownBlock = some k ∨ vt.ownBlock = some k ∨ vn.ownBlock = some k → k < n
 s : ∀ k, S k → k < n
 B : B ≤ n
theorem Lo.mono {n m B b : Nat} {S : Nat → Prop} {vl vt vn : Value} {bx C : Nat} (h : Lo n B b S vl vt vn bx C) (hm : n ≤ m) : Lo m B b S vl vt vn bx C := ⟨Nat.lt_of_lt_of_le h.b hm, Nat.lt_of_lt_of_le h.bx hm, Nat.lt_of_lt_of_le h.c hm, fun k hk => Nat.lt_of_lt_of_le (h.r k hk) hm, fun k hk => Nat.lt_of_lt_of_le (h.s k hk) hm, Nat.le_trans h.B hm⟩
theorem TiI.lo {W0 W : World} {B b : Nat} {S : Nat → Prop} {g : Nat} {ag : Bool} {a : Ac} {vl vt vn : Value} {cs : List Nat} {bx n2 : Nat} {N : List Nat} {Bh : List Bd} (h : TiI W0 W B b S g ag a vl vt vn cs bx n2 N Bh) : Lo W.heap.size B b S vl vt vn bx n2 :=
 ⟨h.ac.lt, (Array.getElem?_eq_some_iff.1 h.box).1, (Array.getElem?_eq_some_iff.1 h.bh).1, fun k hk => by
   rcases hk with hk | hk | hk
   · exact (owns_blk h.ac.ol hk).2.1
   · exact (owns_blk h.ac.ot hk).2.1
   · exact (owns_blk h.ac.on hk).2.1, fun k hk => (h.ac.nS k hk).1, Nat.le_trans h.ac.hb (Nat.le_of_lt h.ac.lt)⟩
theorem TiI.low {W0 W W' : World} {B b : Nat} {S : Nat → Prop} {g : Nat} {ag : Bool} {a : Ac} {vl vt vn : Value} {cs : List Nat} {bx n2 n : Nat} {N : List Nat} {Bh : List Bd} (h : TiI W0 W B b S g ag a vl vt vn cs bx n2 N Bh) (hl : Lo n B b S vl vt vn bx n2) (hb : Below n W W') : TiI W0 W' B b S g ag a vl vt vn cs bx n2 N Bh :=
 ⟨h.ac.move hb.size (hb.block b hl.b) (fun k hk => hb.block k (hl.r k hk)) (fun k hk => hb.block k (hl.s k hk)), ⟨hb.os.trans h.f.os, hb.tape.trans h.f.tape, hb.output.trans h.f.output, Nat.le_trans h.f.size hb.size, fun k hk => (hb.block k (Nat.lt_of_lt_of_le hk hl.B)).trans (h.f.low k hk), fun k hk => (hb.block k (hl.s k hk)).trans (h.f.s k hk)⟩, (hb.block bx hl.bx).trans h.box, (hb.block n2 hl.c).trans h.bh⟩
def TgI (W0 Y3 : World) (B b : Nat) (S : Nat → Prop) (g : Nat) (ag : Bool) (a : Ac) (vl vt vn : Value) (cs : List Nat) (C C2 : Nat) (ov : List Value) (Ds : List Nat) (Bh : List Bd) (tot : List Nat) (l : List Nat) (W : World) : Prop :=
 ∃ N : List Nat, l.foldl (fun n i => orAt n i (bat Bh 0).fi) N = tot ∧ (∀ x, x ∈ l → x < N.length) ∧ TiI W0 W B b S g ag a vl vt vn cs W0.heap.size C N Bh ∧ W.heap[C2]? = some (.cells ov.toArray 161 (0, 0)) ∧ Marks W0 W Ds ∧ Y3.heap.size ≤ W.heap.size
theorem tgI_own {W0 Y3 : World} {B b : Nat} {S : Nat → Prop} {g : Nat} {ag : Bool} {a : Ac} {vl vt vn : Value} {cs : List Nat} {C C2 : Nat} {ov : List Value} {Ds : List Nat} {Bh : List Bd} {tot : List Nat} (hl : Lo Y3.heap.size B b S vl vt vn W0.heap.size C) (hC2 : C2 < Y3.heap.size) (hD : ∀ D, D ∈ Ds → D < Y3.heap.size) : OwnFrom Y3.heap.size (TgI W0 Y3 B b S g ag a vl vt vn cs C C2 ov Ds Bh tot) := by
 rintro l W W' row ⟨N, h1, h2, h3, h4, h5, h6⟩ hg hr
 have hb : Below Y3.heap.size W W' := { os := hg.os, tape := hg.tape, output := hg.output, size := hg.size, block := fun k hk => hg.block k (by omega) (fun e => by have := (hr k e.symm).1; omega) }
 exact ⟨N, h1, h2, h3.low hl hb, (hb.block C2 hC2).trans h4, ⟨fun D hd => ⟨(h5.1 D hd).1, (hb.block D (hD D hd)).trans (h5.1 D hd).2⟩, h5.2⟩, Nat.le_trans h6 hg.size⟩
theorem orAt_set {N : List Nat} {x y : Nat} (q : Nat) (h : N[x]? = some y) : orAt N x q = N.set x (y ||| q) := by
 apply List.ext_getElem?
 intro i
 rw [orAt, List.getElem?_modify, List.getElem?_set]
 by_cases hi : x = i
 · subst hi
   obtain ⟨hx, hv⟩ := List.getElem?_eq_some_iff.1 h
   simp [hx, hv]
 · simp only [hi, if_false]; cases N[i]? <;> rfl
theorem tgI_next {W0 Y3 W w1 : World} {B b : Nat} {S : Nat → Prop} {g : Nat} {ag : Bool} {a : Ac} {vl vt vn : Value} {cs : List Nat} {C C2 x y gn cn : Nat} {ov : List Value} {Ds : List Nat} {Bh : List Bd} {tot N l : List Nat} (hl : Lo Y3.heap.size B b S vl vt vn W0.heap.size C) (hC2 : C2 < Y3.heap.size) (hD : ∀ D, D ∈ Ds → D < Y3.heap.size) (hB0 : 0 < B)
  (hf : (x :: l).foldl (fun n i => orAt n i (bat Bh 0).fi) N = tot) (hin : ∀ z, z ∈ x :: l → z < N.length) (hTi : TiI W0 W B b S g ag a vl vt vn cs W0.heap.size C N Bh) (hov : W.heap[C2]? = some (.cells ov.toArray 161 (0, 0))) (hmk : Marks W0 W Ds) (hsz : Y3.heap.size ≤ W.heap.size)
  (hy : N[x]? = some y) (hvn : vn = .slice (some ⟨gn, 0, none⟩) N.length cn) (hb1 : Below W.heap.size W w1) :
  KeepsFrom Y3.heap.size W (put4at w1 gn (x * 4) (y ||| (bat Bh 0).fi)) ∧ Kp0 W (put4at w1 gn (x * 4) (y ||| (bat Bh 0).fi)) ∧ TgI W0 Y3 B b S g ag a vl vt vn cs C C2 ov Ds Bh tot l (put4at w1 gn (x * 4) (y ||| (bat Bh 0).fi)) := by
 have hon := hTi.ac.on
 rw [hvn] at hon
 have hgr : vn.ownBlock = some gn := by rw [hvn]; rfl
 have hgY : gn < Y3.heap.size := hl.r gn (.inr (.inr hgr))
 have hgB : B ≤ gn := (owns_blk hTi.ac.on hgr).1
 have far : ∀ k, k < W.heap.size → k ≠ gn → (put4at w1 gn (x * 4) (y ||| (bat Bh 0).fi)).heap[k]? = W.heap[k]? := fun k hk hkg => (put4at_far w1 gn (x * 4) _ hkg).trans (hb1.block k hk)
 have hsz2 : W.heap.size ≤ (put4at w1 gn (x * 4) (y ||| (bat Bh 0).fi)).heap.size := by rw [put4at_size]; exact hb1.size
 have hlW := hTi.lo
 have hSg : ∀ k, S k → k ≠ gn := fun k hk e => (hTi.ac.nS k hk).2.2.2.2 (by rw [e]; exact hgr)
 have e := orAt_set (bat Bh 0).fi hy
 rw [List.foldl_cons, e] at hf
 have hl2 : (N.set x (y ||| (bat Bh 0).fi)).length = N.length := List.length_set
 refine ⟨⟨hsz2, fun k o hk1 hk hoo => (far k (Array.getElem?_eq_some_iff.1 hk).1 (by omega)).trans hk⟩, ⟨hsz2, far 0 (by have := hlW.b; omega) (by omega)⟩, N.set x (y ||| (bat Bh 0).fi), hf, fun z hz => by rw [hl2]; exact hin z (List.mem_cons_of_mem _ hz), ⟨⟨hTi.ac.hb, (far b hlW.b (fun e => own_nb hon hTi.ac.blk (by decide) (by rw [e]; rfl))).trans hTi.ac.blk, hTi.ac.hl, owns_keep hTi.ac.ol fun k hk => far k (owns_blk hTi.ac.ol hk).2.1 (fun e => own_ne hTi.ac.ol hTi.ac.on (by decide) hk (by rw [e]; exact hgr)), owns_keep hTi.ac.ot fun k hk => far k (owns_blk hTi.ac.ot hk).2.1 (fun e => own_ne hTi.ac.ot hTi.ac.on (by decide) hk (by rw [e]; exact hgr)), ?_, fun k hk => ⟨Nat.lt_of_lt_of_le (hTi.ac.nS k hk).1 hsz2, (hTi.ac.nS k hk).2⟩, fun i l c hi hc => (hTi.ac.kids i l c hi hc).keep (fun k hk => far k (hTi.ac.nS k hk).1 (hSg k hk)) (fun _ h => h)⟩, ⟨hb1.os.trans hTi.f.os, hb1.tape.trans hTi.f.tape, hb1.output.trans hTi.f.output, Nat.le_trans hTi.f.size hsz2, fun k hk => (far k (Nat.lt_of_lt_of_le hk hlW.B) (by omega)).trans (hTi.f.low k hk), fun k hk => (far k (hTi.ac.nS k hk).1 (hSg k hk)).trans (hTi.f.s k hk)⟩, (far _ hlW.bx (fun e => own_nb hon hTi.box (by decide) (by rw [e]; rfl))).trans hTi.box, (far _ hlW.c (fun e => own_nb hon hTi.bh (by decide) (by rw [e]; rfl))).trans hTi.bh⟩, (far _ (by omega) (fun e => own_nb hon hov (by decide) (by rw [e]; rfl))).trans hov, ⟨fun D hd => ⟨(hmk.1 D hd).1, (far D (by have := hD D hd; omega) (fun e => by have := (hmk.1 D hd).2; obtain ⟨_, _, cur, h3⟩ := owns_blk hTi.ac.on hgr; rw [e, h3] at this; cases this)).trans (hmk.1 D hd).2⟩, hmk.2⟩, Nat.le_trans hsz hsz2⟩
 show World.ownsRow _ B 157 4 vn (N.set x (y ||| (bat Bh 0).fi)).length (nxV (N.set x (y ||| (bat Bh 0).fi)))
 rw [hl2, hvn]
 exact owns_nx (owns_keep hon (W' := w1) fun k hk => hb1.block k (owns_blk hon hk).2.1) (List.getElem?_eq_some_iff.1 hy).1 _
theorem bit_lt2 {n L x : Nat} (h : n < 2 ^ L) (hx : n.testBit x = true) : x < L := by
 apply Classical.byContradiction; intro hc
 rw [Nat.testBit_lt_two_pow (Nat.lt_of_lt_of_le h (Nat.pow_le_pow_right (by omega) (by omega)))] at hx
 cases hx
theorem leaves_marks {F : Fence} {n : Nat} {fn : Func} {tmps : Array Value} {R : Ending → World → Prop} {v : Value} (hres : ∀ w, (results fn tmps).run Tryz.prog w = .ok v w) (W0 : World) : ∀ (Ds : List Nat) (W : World), Marks W0 W Ds → (∀ W' : World, W'.os = W.os → W'.tape = W.tape → W'.output = W.output → W'.heap.size = W.heap.size → (∀ k, k < W0.heap.size → W'.heap[k]? = W.heap[k]?) → R (.returned v) W') → LeavesInM F n Tryz.prog fn tmps R (Ds.map mkD) .returning W
 | [], W, _, h => ⟨v, hres W, h W rfl rfl rfl rfl (fun _ _ => rfl)⟩
 | D :: Ds, W, hm, h => by
  obtain ⟨h1, h2⟩ := hm.1 D List.mem_cons_self
  have hp := List.pairwise_cons.1 hm.2
  refine ⟨by simp, .inl ⟨D, W.putObj D (.deferred none), rfl, run_takeDeferred h2, ?_⟩⟩
  refine leaves_marks hres W0 Ds _ ⟨fun D' hD' => ?_, hp.2⟩ (fun W' e1 e2 e3 e4 e5 => h W' e1 e2 e3 (by rw [e4]; simp) (fun k hk => (e5 k hk).trans (World.putObj_heap_other (by omega))))
  exact ⟨(hm.1 D' (List.mem_cons_of_mem _ hD')).1, (World.putObj_heap_other (fun e => hp.1 D' hD' e.symm)).trans (hm.1 D' (List.mem_cons_of_mem _ hD')).2⟩
theorem tz {P : Program} {ops : Array Oper} {Q : Exit → Act → World → Prop} {S : World → Prop} {md : Region.Mode} (i : Nat) (d : Tmp) {w : World} (hS : S w) {oi : Oper} {fuel : Nat} {listed : Array Bool} {a : Act} (h : wpAnyH P md ops Q S fuel (listed.setIfInBounds i true) (a.put (some d) undef) w) (hi : ops[i]? = some oi := by rfl) (hd : oi.dst = some d := by rfl)
  (hs : Region.noSelect ops = true := by kernel_rfl) (hf : Region.free md ops listed i = true := by kernel_rfl) (hr : (Region.ready md ops listed).contains i = true := by kernel_rfl)
  (hQ : ∀ c a w, Q (.panic c) (a.put (some d) undef) w → Q (.panic c) a w := by exact fun _ _ _ h => h) (hw : Region.wanted oi (yielded ops a.tmps) = false := by rfl) : wpAnyH P md ops Q S (fuel + 1) listed a w := by
 have e : wpAnyH P md ops Q S fuel (listed.setIfInBounds i true) (a.put oi.dst undef) w := by rw [hd]; exact h
 exact wpAnyH_take hi hs hf hr (by rw [hd]; exact hQ) (Or.inr ⟨hw, rfl⟩) hS e
theorem kid_closed {W : World} {S : Nat → Prop} {c : Nat} {q : Pt} (h : PtAt W S c q) : S c ∧ W.cell? ⟨c, 4, none⟩ = some (.bool q.closed) := by
 cases h with
 | mk _ _ vl vt vn cs hS blk => exact ⟨hS, by simp only [World.cell?, blk]; rfl⟩
theorem there_mid {W : World} {b : Nat} {cs : List Value} {t : TypeId} (h : W.heap[b]? = some (.cells cs.toArray t (0, 0))) (o n : Nat) (hn : o + n ≤ cs.length) : W.there b o n := fun j hj => by
 have e : cs[o + j]? = some cs[o + j] := List.getElem?_eq_getElem (by omega)
 refine ⟨?_, ?_⟩
 · simp [World.cell?, h, e]
 · simp [World.frozen?, h]
theorem tie_end {W W1 Z : World} {B b : Nat} {S : Nat → Prop} {g : Nat} {ag : Bool} {a : Ac} {vl vt vn : Value} {cs : List Nat} {C : Nat} {Ds : List Nat} {cb : Bool} {tmps : Array Value} (h0 : AcV W B b S g ag a vl vt vn cs) (h : TiI W W1 B b S g ag a vl vt vn cs W.heap.size C (tiS ag a 0).1 (tiS ag a 0).2) (hm : Marks W W1 Ds) (hZ : ∀ k, k ≠ b → Z.heap[k]? = W1.heap[k]?) (hZs : Z.heap.size = W1.heap.size) (hbz : Below 0 W1 Z)
  (hZb : Z.heap[b]? = some (.cells ((([.int .i64 (g : Nat), .bool a.deep, vl, .bool ag, .bool cb] : List Value) ++ (bsV (tiS ag a 0).2 ++ [vt, vn]))).toArray 164 (0, 0))) (hcb : cb = (match a.links with | [l] => ag || l.1.closed | _ => false)) :
  LeavesInM Fence.wide 5 Tryz.prog Tryz.f65 tmps (fun e W' => (∃ v, e = .returned v) ∧ PtAt W' (fun k => S k ∨ k = b ∨ vl.ownBlock = some k ∨ vt.ownBlock = some k ∨ vn.ownBlock = some k) b (tie g ag a) ∧ AcF B S W W') (Ds.map mkD) .returning Z := by
 have hbW := h0.lt
 refine leaves_marks (fun w => results_none rfl _ _ _) W Ds Z ⟨fun D hD => ⟨(hm.1 D hD).1, (hZ D (by have := (hm.1 D hD).1; omega)).trans (hm.1 D hD).2⟩, hm.2⟩ ?_
 intro W' e1 e2 e3 e4 e5
 have far : ∀ k, k < W.heap.size → k ≠ b → W'.heap[k]? = W1.heap[k]? := fun k hk hkb => (e5 k hk).trans (hZ k hkb)
 have rl : ∀ k, vl.ownBlock = some k → W'.heap[k]? = W1.heap[k]? := fun k hk => far k (owns_blk h0.ol hk).2.1 (fun e => own_nb h0.ol h0.blk (by decide) (by rw [← e]; exact hk))
 have rt : ∀ k, vt.ownBlock = some k → W'.heap[k]? = W1.heap[k]? := fun k hk => far k (owns_blk h0.ot hk).2.1 (fun e => own_nb h0.ot h0.blk (by decide) (by rw [← e]; exact hk))
 have rn : ∀ k, vn.ownBlock = some k → W'.heap[k]? = W1.heap[k]? := fun k hk => far k (owns_blk h0.on hk).2.1 (fun e => own_nb h0.on h0.blk (by decide) (by rw [← e]; exact hk))
 have rS : ∀ k, S k → W'.heap[k]? = W1.heap[k]? := fun k hk => far k (h0.nS k hk).1 (h0.nS k hk).2.1
 refine ⟨⟨_, rfl⟩, .mk b (tie g ag a) vl vt vn cs (.inr (.inl rfl)) ?_ h0.hl (owns_mono (owns_keep h.ac.ol rl) (Nat.zero_le _)) (owns_mono (owns_keep h.ac.ot rt) (Nat.zero_le _)) (owns_mono (owns_keep h.ac.on rn) (Nat.zero_le _)) (fun k hk => .inr (.inr (.inl hk))) (fun k hk => .inr (.inr (.inr (.inl hk)))) (fun k hk => .inr (.inr (.inr (.inr hk)))) (fun i l c hi hc => (h.ac.kids i l c hi hc).keep rS (fun _ hk => .inl hk)), ⟨e1.trans (hbz.os.trans h.f.os), e2.trans (hbz.tape.trans h.f.tape), e3.trans (hbz.output.trans h.f.output), by rw [e4, hZs]; exact h.f.size, fun k hk => (far k (by have := h0.hb; omega) (by have := h0.hb; omega)).trans (h.f.low k hk), fun k hk => (rS k hk).trans (h.f.s k hk)⟩⟩
 rw [e5 b hbW, hZb, hcb]
 rfl
theorem tie_any {W : World} {B b : Nat} {S : Nat → Prop} {g : Nat} {ag : Bool} {a : Ac} {vl vt vn : Value} {cs : List Nat} (h : AcV W B b S g ag a vl vt vn cs) (hT : Tab W) (hB0 : 0 < B) (hA : OkA a) (hL : a.takes.length ≤ 256) (hll : a.links.length ≤ 1000000) (hag : ag = true → a.links ≠ []) :
 Calls Tryz.prog 65 #[.pointer (some ⟨b, 0, none⟩)] W fun e W' => (∃ v, e = .returned v) ∧ PtAt W' (fun k => S k ∨ k = b ∨ vl.ownBlock = some k ∨ vt.ownBlock = some k ∨ vn.ownBlock = some k) b (tie g ag a) ∧ AcF B S W W' := by
 have HH := hideT (And.intro h (And.intro hT (And.intro hA hL)))
 have c3 := h.cells.2.2.1
 have c2 := h.cells.2.1
 have hBW : B ≤ W.heap.size := Nat.le_trans h.hb (Nat.le_of_lt h.lt)
 have hblt := h.lt
 clear h hT hA hL
 refine (callsIn_wide (n := 5)).1 ?_
 refine callsIn_of_wp_marks Tryz.func65 rfl trivial ?_ rfl
 simp only [Tryz.ntmps65, List.size_toArray, List.length_cons, List.length_nil, Nat.reduceAdd, Nat.reduceSub, Array.replicate_succ, Array.replicate_zero, List.push_toArray, List.append_toArray, List.nil_append, List.cons_append]
 refine wpIn_wide.2 ?_
 obtain ⟨QQ, hQQ⟩ : ∃ QQ, QQ = bodyPostM Fence.wide 5 Tryz.prog Tryz.f65 (fun e W' => (∃ v, e = .returned v) ∧ PtAt W' (fun k => S k ∨ k = b ∨ vl.ownBlock = some k ∨ vt.ownBlock = some k ∨ vn.ownBlock = some k) b (tie g ag a) ∧ AcF B S W W') := ⟨_, rfl⟩
 rw [← hQQ]
 have HQQ := hideT hQQ
 clear hQQ
 go_upto_region 1 with fail
 rename_i K1 hK1
 have hb1 := (Below.refl W.heap.size W).alloc (Nat.le_refl _) (.cells #[.pointer (some ⟨b, 0, none⟩)] 125)
 have hx1s : (W.alloc (.cells #[.pointer (some ⟨b, 0, none⟩)] 125)).heap.size = W.heap.size + 1 := World.size_alloc _ _
 have hx1 : Bx (W.alloc (.cells #[.pointer (some ⟨b, 0, none⟩)] 125)) W.heap.size 125 (.pointer (some ⟨b, 0, none⟩)) := World.alloc_heap_new W _
 have HX1 := hideT (And.intro hb1 hx1)
 have HX1S := hideT hx1s
 clear hb1 hx1 hx1s
 generalize W.alloc (.cells #[.pointer (some ⟨b, 0, none⟩)] 125) = X at *
 refine wp_region_lit (l := [_, _, _, _]) ?_
 refine wl_value (v := .agg (zr 4).toArray) (w' := X) rfl (by go_simp; rfl) ?_
 refine wl_call (f := 90) (args := #[.agg (zr 4).toArray]) (R := fun v w1 => v = .agg (bsV (optB zeroB)).toArray ∧ Below X.heap.size X w1) rfl (by go_simp; (try with_reducible rfl)) ((by have h := optional_any (b := zeroB) rfl X; rw [bs_zero] at h; exact h : Calls Tryz.prog 90 #[.agg (zr 4).toArray] X fun e w' => e = .returned (.agg (bsV (optB zeroB)).toArray) ∧ Below X.heap.size X w').mono ?_) ?_
 · rintro e w1 ⟨rfl, h1⟩; exact ⟨_, rfl, rfl, h1⟩
 rintro v w1 ⟨rfl, hb2⟩
 obtain ⟨C, hC⟩ : ∃ C, w1.heap.size = C := ⟨_, rfl⟩
 refine wl_value (v := .pointer (some ⟨C, 0, none⟩)) (w' := w1.alloc (.cells (zr 4).toArray 161)) rfl (by rw [← hC]; go_simp; rfl) ?_
 have z0 : (w1.alloc (.cells (zr 4).toArray 161)).heap[C]? = some (.cells (zr 4).toArray 161 (0, 0)) := by rw [← hC]; exact World.alloc_heap_new w1 _
 refine wpList_store_mid rfl 161 _ _ rfl C 0 (bsV (optB zeroB)).toArray rfl rfl (there_block z0 _ rfl) (by rw [info_part]; rfl) (bsV_one _) ?_
 refine wpList_nil (hK1 _ _ ?_)
 have y := setCells_whole (bsV (optB zeroB)) z0 rfl
 have hX1 := HX1.out.1.size
 have hb2s := hb2.size
 have hx1s := HX1S.out
 have hBY : Below X.heap.size X ((w1.alloc (.cells (zr 4).toArray 161)).setCells C 0 (bsV (optB zeroB))) := below_setCells _ (by omega) _ _ _ (hb2.alloc (by omega) _)
 have hBW2 := HX1.out.1.trans (hBY.mono HX1.out.1.size)
 have hTI : TiI W ((w1.alloc (.cells (zr 4).toArray 161)).setCells C 0 (bsV (optB zeroB))) B b S g ag a vl vt vn cs W.heap.size C a.next (optB zeroB) := ⟨HH.out.1.keep hBW2, AcF.of hBW2 hBW (fun k hk => (HH.out.1.nS k hk).1), (hBY.block _ (Array.getElem?_eq_some_iff.1 HX1.out.2).1).trans HX1.out.2, y⟩
 have HTI := hideT hTI
 have hCW : W.heap.size < C := by omega
 simp only [Act.put, List.setIfInBounds_toArray, List.set_cons_zero, List.set_cons_succ]
 show Code.wp _ _ _ _ ((w1.alloc (.cells (zr 4).toArray 161)).setCells C 0 (bsV (optB zeroB)))
 generalize (w1.alloc (.cells (zr 4).toArray 161)).setCells C 0 (bsV (optB zeroB)) = Y at *
 clear hTI hBW2 hBY hb2s hX1 y z0 hC hb2 HX1 hK1 hx1s c2 c3
 have d0 := HTI.out.box.cell
 have d3 := HTI.out.ac.cells.2.2.1
 go_upto_if 11 with fail
 rename_i K2 hK2
 go_cut [] from 12 to 25 (fun wx => Hid (TiI W wx B b S g ag a vl vt vn cs W.heap.size C a.next (bhd ag a.links)))
 case first =>
  rename_i J hJ
  cases ag with
  | false =>
   go_wp2_with fail
   go_meet
   exact HTI
  | true =>
   obtain ⟨l, hl⟩ : ∃ l, a.links[a.links.length - 1]? = some l := ⟨_, List.getElem?_eq_getElem (by have := List.length_pos_iff.2 (hag rfl); omega)⟩
   have hlp : 0 < a.links.length := List.length_pos_iff.2 (hag rfl)
   obtain ⟨gl, cap, c, rfl, -, k0, k1, k2, hpk⟩ := lk_cells HTI.out.ac hl
   have hd2 := HTI.out.ac.cells.2.1
   have i1 : IntKind.i64.wrap ((a.links.length : Int) - 1) = ((a.links.length - 1 : Nat) : Int) := by rw [IntKind.wrap_i64]; omega
   have i2 : ((a.links.length - 1 : Nat) : Int) < (a.links.length : Int) := by omega
   have i3 : (0 : Int) ≤ ((a.links.length - 1 : Nat) : Int) := by omega
   go_upto_region 3 with fail
   have hbq := (HH.out.2.2.1.kid l (List.mem_of_getElem? hl)).bd.1
   have hbl := HH.out.2.2.1.lk l (List.mem_of_getElem? hl)
   have hL256 := HH.out.2.2.2
   have hok1 := HTI.out.ac.ol
   have hglC : gl ≠ C := fun e => own_nb HTI.out.ac.ol HTI.out.bh (by decide) (by rw [← e]; rfl)
   have hbC : b ≠ C := by omega
   have hglY : gl < Y.heap.size := (owns_blk HTI.out.ac.ol (g := gl) rfl).2.1
   have hCY : C < Y.heap.size := (Array.getElem?_eq_some_iff.1 HTI.out.bh).1
   have hbY : b < Y.heap.size := HTI.out.ac.lt
   have HLB := hideT (fun V (hV : Below Y.heap.size Y V) => lkB_any (hpk.keep (W' := V) (S' := S) (fun k hk => hV.block k (HTI.out.ac.nS k hk).1) (fun _ h => h)) hbq l.2.2 (show l.2.1 < 1000000 by omega))
   have hSof : ∀ V : World, (∀ k, k < Y.heap.size → k ≠ C → V.heap[k]? = Y.heap[k]?) → (fun V : World => V.cell? ⟨W.heap.size, 0, none⟩ = some (.pointer (some ⟨b, 0, none⟩)) ∧ V.cell? ⟨b, 2, none⟩ = some (.slice (some ⟨gl, 0, none⟩) a.links.length cap) ∧ V.cell? ⟨gl, (a.links.length - 1) * 3, none⟩ = some (.pointer (some ⟨c, 0, none⟩)) ∧ V.cell? ⟨gl, (a.links.length - 1) * 3 + 1, none⟩ = some (.int .i64 (l.2.1 : Nat)) ∧ V.cell? ⟨gl, (a.links.length - 1) * 3 + 2, none⟩ = some (.bool l.2.2)) V := fun V hV => ⟨(World.cell?_of_block (a := ⟨W.heap.size, 0, none⟩) (hV _ (by show W.heap.size < _; omega) (by show W.heap.size ≠ _; omega))).trans d0, (World.cell?_of_block (a := ⟨b, 2, none⟩) (hV b hbY hbC)).trans hd2, (World.cell?_of_block (a := ⟨gl, (a.links.length - 1) * 3, none⟩) (hV gl hglY hglC)).trans k0, (World.cell?_of_block (a := ⟨gl, (a.links.length - 1) * 3 + 1, none⟩) (hV gl hglY hglC)).trans k1, (World.cell?_of_block (a := ⟨gl, (a.links.length - 1) * 3 + 2, none⟩) (hV gl hglY hglC)).trans k2⟩
   have hS0 := hSof Y.drew (fun _ _ _ => rfl)
   have HSZ := hideT (And.intro hglY (And.intro hCY hbY))
   have HPK := hideT hpk
   clear hok1 hglY hCY hbY hpk d0 hd2 k0 k1 k2 d3
   refine wp_region_noPanic ?_
   refine wp_region_held (S := fun V : World => V.cell? ⟨W.heap.size, 0, none⟩ = some (.pointer (some ⟨b, 0, none⟩)) ∧ V.cell? ⟨b, 2, none⟩ = some (.slice (some ⟨gl, 0, none⟩) a.links.length cap) ∧ V.cell? ⟨gl, (a.links.length - 1) * 3, none⟩ = some (.pointer (some ⟨c, 0, none⟩)) ∧ V.cell? ⟨gl, (a.links.length - 1) * 3 + 1, none⟩ = some (.int .i64 (l.2.1 : Nat)) ∧ V.cell? ⟨gl, (a.links.length - 1) * 3 + 2, none⟩ = some (.bool l.2.2)) (by kernel_rfl) ?_
   refine tq 0 12 hS0 ?_
   refine tq 1 13 hS0 ?_
   refine tq 2 14 hS0 ?_
   refine tq 3 15 hS0 ?_
   refine tq 4 16 hS0 ?_
   refine tq 5 17 hS0 ?_
   refine tq 6 18 hS0 ?_
   refine tq 7 19 hS0 ?_
   refine tq 8 20 hS0 ?_
   refine tq 9 21 hS0 ?_
   refine tq 10 22 hS0 ?_
   refine tq 11 23 hS0 ?_
   simp only [Act.put, List.setIfInBounds_toArray, List.set_cons_zero, List.set_cons_succ]
   refine wpAnyH_all (rs := [12]) (by kernel_rfl) (by simp) (fun i hi => ?_)
   obtain rfl : i = 12 := List.mem_singleton.1 hi
   refine op_call (R := fun v w1 => v = .agg (bsV (lnB l)).toArray ∧ Below Y.heap.size Y w1) (f := 91) (some 24) rfl rfl (by rfl) (by go_simp; (try with_reducible rfl)) ((HLB.out _ ((Below.refl Y.heap.size Y).drew)).mono ?_) ?_
   · rintro e w3 ⟨rfl, h3⟩
     exact ⟨_, rfl, rfl, ((Below.refl Y.heap.size Y).drew).trans h3⟩
   rintro v w3 ⟨rfl, b3⟩
   refine ⟨hSof _ (fun k hk _ => b3.block k hk), ?_⟩
   simp only [Act.put, List.setIfInBounds_toArray, List.set_cons_zero, List.set_cons_succ]
   refine wpAnyH_all (rs := [13]) (by kernel_rfl) (by simp) (fun i hi => ?_)
   obtain rfl : i = 13 := List.mem_singleton.1 hi
   refine op_call (R := fun v w1 => v = .agg (bsV (optB (lnB l))).toArray ∧ Below w3.heap.size w3 w1) (f := 90) (some 25) rfl rfl (by rfl) (by go_simp; (try with_reducible rfl)) ((optional_any (ln_four hbq) w3).mono ?_) ?_
   · rintro e w4 ⟨rfl, h4⟩
     exact ⟨_, rfl, rfl, h4⟩
   rintro v w4 ⟨rfl, h4⟩
   have b4 := b3.trans (h4.mono b3.size)
   refine ⟨hSof _ (fun k hk _ => b4.block k hk), ?_⟩
   simp only [Act.put, List.setIfInBounds_toArray, List.set_cons_zero, List.set_cons_succ]
   refine wpAnyH_all (rs := [14]) (by kernel_rfl) (by simp) (fun i hi => ?_)
   obtain rfl : i = 14 := List.mem_singleton.1 hi
   have hC4 := (b4.block C HSZ.out.2.1).trans HTI.out.bh
   refine op_store 161 2 25 C (bsV (optB (lnB l))) rfl rfl rfl rfl rfl rfl (by rw [bsV_len]; exact there_block hC4 _ (bsV_len _)) (by rw [info_part]; rfl) (bsV_one _) ⟨hSof _ (fun k hk hkC => (setCells_far _ _ hkC _ _).trans (b4.block k hk)), ?_⟩
   have hT4 := (HTI.out.keep b4).beh (optB (lnB l)) hCW hbC (fun k hk => (HH.out.1.nS k hk).1) hBW
   refine wpAnyH_done (by kernel_rfl) (hJ _ _ ?_) _
   simp only [Act.put]
   go_meet
   rw [bhd_last hl]
   exact hideT hT4
 case rest =>
 have HT2 := hideT hcut.out
 clear hcut HTI d0 d3
 refine hK2 _ _ ?_
 obtain ⟨al, cl, rfl⟩ := owns_shape HT2.out.ac.ol
 have d0 := HT2.out.box.cell
 have d2 := HT2.out.ac.cells.2.1
 have i1 : IntKind.i64.wrap ((a.links.length : Int) - 1) = (a.links.length : Int) - 1 := by rw [IntKind.wrap_i64]; omega
 go_upto_block 0 with fail
 rename_i KB hKB
 refine wp_block ?_
 refine wp_loop_ghost_k (fun n a' W' => ∃ (u : Nat → Value) (Ds : List Nat), a' = { tmps := #[.pointer (some ⟨b, 0, none⟩), .pointer (some ⟨W.heap.size, 0, none⟩), .pointer (some ⟨C, 0, none⟩), .int .i64 ((n : Int) - 1), u 0, u 1, u 2, u 3, u 4, u 5, u 6, u 7, u 8, u 9, u 10, u 11, u 12, u 13, u 14, u 15, u 16, u 17, u 18, u 19, u 20, u 21, u 22, u 23, u 24, u 25, u 26, u 27, u 28, u 29, u 30, u 31, u 32, u 33, u 34, u 35, u 36, u 37, u 38, u 39, u 40, u 41, u 42, u 43, u 44, u 45, u 46, u 47, u 48, u 49, u 50, u 51, u 52, u 53, u 54, u 55, u 56, u 57, u 58, u 59, u 60, u 61, u 62, u 63, u 64, u 65, u 66, u 67, u 68, u 69, u 70, u 71, u 72, u 73, u 74, u 75, u 76, u 77, u 78, u 79, u 80, u 81, u 82, u 83, u 84, u 85, u 86, u 87, u 88, u 89, u 90, u 91, u 92, u 93], defers := Ds.map mkD } ∧ Hid (n ≤ a.links.length ∧ TiI W W' B b S g ag a (.slice al a.links.length cl) vt vn cs W.heap.size C (tiS ag a n).1 (tiS ag a n).2 ∧ Marks W W' Ds)) a.links.length ?_ ?_
 · exact ⟨fun i => List.getD [_, _, _, _, _, _, _, _, _, _, _, _, _, _, _, _, _, _, _, _, _, _, _, _, _, _, _, _, _, _, _, _, _, _, _, _, _, _, _, _, _, _, _, _, _, _, _, _, _, _, _, _, _, _, _, _, _, _, _, _, _, _, _, _, _, _, _, _, _, _, _, _, _, _, _, _, _, _, _, _, _, _, _, _, _, _, _, _, _, _, _, _, _, _] i undef, [], rfl, hideT ⟨Nat.le_refl _, by rw [tiS, List.drop_length]; exact HT2.out, ⟨(fun _ h => nomatch h), List.Pairwise.nil⟩⟩⟩
 clear HT2 d0 d2 i1
 rintro n a' W1 ⟨u, Ds, rfl, HI⟩ J KR hJ hKR
 cases n with
 | zero =>
  have i1 : ((0 : Nat) : Int) - 1 = -1 := by omega
  rw [i1]
  go_upto_region 12 with fail
  rename_i K12 hK12
  obtain ⟨bv, hbv⟩ : ∃ bv, bsV (tiS ag a 0).2 = bv := ⟨_, rfl⟩
  have hbvl : bv.length = 36 := by rw [← hbv]; exact bsV_len _
  have hbv1 : bv.toArray.all (·.oneCell') = true := by rw [← hbv]; exact bsV_one _
  have hbh := HI.out.2.1.bh
  rw [hbv] at hbh
  have d0 := HI.out.2.1.box.cell
  refine wp_region_lit (l := [_, _, _, _, _]) ?_
  refine wl_value (v := .pointer (some ⟨b, 0, none⟩)) (w' := W1) rfl (by clear hbh; go_simp; (try with_reducible rfl)) ?_
  refine wpList_load_mid rfl 161 _ rfl C 0 rfl bv _ (range_block hbh) und_part rfl (by rw [info_part, hbvl]) ?_
  simp only [Act.put, List.setIfInBounds_toArray, List.set_cons_zero, List.set_cons_succ]
  refine wl_value (v := .pointer (some ⟨b, 0, none⟩)) (w' := W1) rfl (by clear hbh; go_simp; (try with_reducible rfl)) ?_
  refine wl_value (v := .pointer (some ⟨b, 5, none⟩)) (w' := W1) rfl (by clear hbh; go_simp; (try with_reducible rfl)) ?_
  simp only [Act.put, List.setIfInBounds_toArray, List.set_cons_zero, List.set_cons_succ]
  refine wpList_store_mid rfl 161 _ _ rfl b 5 bv.toArray rfl rfl (by rw [List.size_toArray, hbvl]; exact there_mid HI.out.2.1.ac.blk 5 36 (by rw [ptV_len]; omega)) (by rw [info_part, List.size_toArray, hbvl]) hbv1 ?_
  refine wpList_nil (hK12 _ _ ?_)
  simp only [Act.put]
  show Code.wp _ _ _ _ (W1.setCells b 5 bv)
  have hvb : (W1.setCells b 5 bv).heap[b]? = some (.cells ((([.int .i64 (g : Nat), .bool a.deep, .slice al a.links.length cl, .bool ag, .bool false] : List Value) ++ (bv ++ [vt, vn]))).toArray 164 (0, 0)) := setCells_at b 164 (0, 0) bv [.int .i64 (g : Nat), .bool a.deep, .slice al a.links.length cl, .bool ag, .bool false] (bsV zeroB) [vt, vn] W1 5 HI.out.2.1.ac.blk rfl (by rw [bsV_len, hbvl])
  have hfar : ∀ k, k ≠ b → (W1.setCells b 5 bv).heap[k]? = W1.heap[k]? := fun k hk => setCells_far W1 b hk bv 5
  have hbb := below_setCells (B := 0) b (Nat.zero_le _) bv W1 5 (Below.refl _ _)
  have hsz1 : (W1.setCells b 5 bv).heap.size = W1.heap.size := setCells_size b bv W1 5
  have HV := hideT (And.intro hvb (And.intro hfar (And.intro hbb (And.intro hsz1 hbv))))
  clear hvb hfar hbb hsz1 hbv hbh d0 hbvl hbv1 hK12
  generalize W1.setCells b 5 bv = V at *
  have d0 : V.cell? ⟨W.heap.size, 0, none⟩ = some (.pointer (some ⟨b, 0, none⟩)) := (World.cell?_of_block (a := ⟨W.heap.size, 0, none⟩) (HV.out.2.1 _ (by show W.heap.size ≠ b; omega))).trans HI.out.2.1.box.cell
  have d2 : V.cell? ⟨b, 2, none⟩ = some (.slice al a.links.length cl) := by simp only [World.cell?, HV.out.1]; rfl
  have d3 : V.cell? ⟨b, 3, none⟩ = some (.bool ag) := by simp only [World.cell?, HV.out.1]; rfl
  have d4 : V.cell? ⟨b, 4, none⟩ = some (.bool false) := by simp only [World.cell?, HV.out.1]; rfl
  have f4 : V.frozen? ⟨b, 4, none⟩ = false := by simp [World.frozen?, HV.out.1]
  have HEND := hideT (fun (Z : World) (cb : Bool) (hZb : Z.heap[b]? = some (.cells ((([.int .i64 (g : Nat), .bool a.deep, .slice al a.links.length cl, .bool ag, .bool cb] : List Value) ++ (bv ++ [vt, vn]))).toArray 164 (0, 0))) (hZ : ∀ k, k ≠ b → Z.heap[k]? = W1.heap[k]?) (hZs : Z.heap.size = W1.heap.size) (hbz : Below 0 W1 Z) (hcb : cb = (match a.links with | [l] => ag || l.1.closed | _ => false)) (tmps : Array Value) => tie_end (tmps := tmps) HH.out.1 HI.out.2.1 HI.out.2.2 hZ hZs hbz (by rw [HV.out.2.2.2.2]; exact hZb) hcb)
  have HQ2 := HQQ
  go_upto_if 78 with fail
  by_cases hone : a.links.length = 1
  · obtain ⟨l, hl⟩ : ∃ l, a.links = [l] := List.length_eq_one_iff.1 hone
    have hl0 : a.links[0]? = some l := by rw [hl]; rfl
    obtain ⟨gl, cap, c, hge, -, k0, -, -, hpk⟩ := lk_cells HI.out.2.1.ac hl0
    obtain ⟨rfl, rfl⟩ : al = some ⟨gl, 0, none⟩ ∧ cl = cap := by injection hge with h1 _ h2; exact ⟨h1, h2⟩
    have hglb : gl ≠ b := fun e => own_nb HI.out.2.1.ac.ol HI.out.2.1.ac.blk (by decide) (by rw [← e]; rfl)
    rw [Nat.zero_mul] at k0
    have e0 : V.cell? ⟨gl, 0, none⟩ = some (.pointer (some ⟨c, 0, none⟩)) := (World.cell?_of_block (a := ⟨gl, 0, none⟩) (HV.out.2.1 gl hglb)).trans k0
    have hc4 := kid_closed hpk
    have hcb : c ≠ b := (HI.out.2.1.ac.nS c hc4.1).2.1
    have e4 : V.cell? ⟨c, 4, none⟩ = some (.bool l.1.closed) := (World.cell?_of_block (a := ⟨c, 4, none⟩) (HV.out.2.1 c hcb)).trans hc4.2
    have i9 : ((a.links.length : Int) == 1) = true := by rw [beq_iff_eq]; omega
    have i2 : (0 : Int) < (a.links.length : Int) := by omega
    have HCB := hideT (And.intro hcb (And.intro hglb hl))
    have hput : ∀ cb : Bool, (V.setCell ⟨b, 4, none⟩ (.bool cb)).heap[b]? = some (.cells ((([.int .i64 (g : Nat), .bool a.deep, .slice (some ⟨gl, 0, none⟩) a.links.length cl, .bool ag, .bool cb] : List Value) ++ (bv ++ [vt, vn]))).toArray 164 (0, 0)) := fun cb => setCells_at b 164 (0, 0) [.bool cb] [.int .i64 (g : Nat), .bool a.deep, .slice (some ⟨gl, 0, none⟩) a.links.length cl, .bool ag] [.bool false] (bv ++ [vt, vn]) V 4 HV.out.1 rfl rfl
    have HFIN := hideT (fun (cb : Bool) (hcb : cb = (ag || l.1.closed)) (tmps : Array Value) => HEND.out (V.setCell ⟨b, 4, none⟩ (.bool cb)).drew cb (hput cb) (fun k hk => (Below.heap_setCell V ⟨b, 4, none⟩ _ k hk).trans (HV.out.2.1 k hk)) (by simpa using HV.out.2.2.2.1) ((HV.out.2.2.1.setCell (p := ⟨b, 4, none⟩) (Nat.zero_le _) _).drew) (by rw [HCB.out.2.2]; exact hcb) tmps)
    have hSof : ∀ Z : World, (∀ k, k ≠ b → Z.heap[k]? = V.heap[k]?) → Z.cell? ⟨b, 2, none⟩ = some (.slice (some ⟨gl, 0, none⟩) a.links.length cl) → Z.cell? ⟨b, 3, none⟩ = some (.bool ag) → (fun V : World => V.cell? ⟨W.heap.size, 0, none⟩ = some (.pointer (some ⟨b, 0, none⟩)) ∧ V.cell? ⟨b, 2, none⟩ = some (.slice (some ⟨gl, 0, none⟩) a.links.length cl) ∧ V.cell? ⟨b, 3, none⟩ = some (.bool ag) ∧ V.cell? ⟨gl, 0, none⟩ = some (.pointer (some ⟨c, 0, none⟩)) ∧ V.cell? ⟨c, 4, none⟩ = some (.bool l.1.closed)) Z := fun Z hZ z2 z3 => ⟨(World.cell?_of_block (a := ⟨W.heap.size, 0, none⟩) (hZ _ (by show W.heap.size ≠ b; omega))).trans d0, z2, z3, (World.cell?_of_block (a := ⟨gl, 0, none⟩) (hZ gl hglb)).trans e0, (World.cell?_of_block (a := ⟨c, 4, none⟩) (hZ c hcb)).trans e4⟩
    have hS0 := hSof V.drew (fun _ _ => rfl) d2 d3
    have HS2 := hideT (fun cb : Bool => hSof (V.setCell ⟨b, 4, none⟩ (.bool cb)) (fun k hk => Below.heap_setCell V ⟨b, 4, none⟩ _ k hk) (by simp only [World.cell?, hput cb]; rfl) (by simp only [World.cell?, hput cb]; rfl))
    clear hl hl0 k0 hpk hc4 hge hcb hglb hput e0 e4 d0 hSof HV HEND HI
    go_upto_region 14 with fail
    have f4' : V.drew.frozen? ⟨b, 4, none⟩ = false := f4
    have d4' : V.drew.cell? ⟨b, 4, none⟩ = some (.bool false) := d4
    cases ag with
    | true =>
     refine wp_region_noPanic ?_
     refine wp_region_held (S := fun V : World => V.cell? ⟨W.heap.size, 0, none⟩ = some (.pointer (some ⟨b, 0, none⟩)) ∧ V.cell? ⟨b, 2, none⟩ = some (.slice (some ⟨gl, 0, none⟩) a.links.length cl) ∧ V.cell? ⟨b, 3, none⟩ = some (.bool true) ∧ V.cell? ⟨gl, 0, none⟩ = some (.pointer (some ⟨c, 0, none⟩)) ∧ V.cell? ⟨c, 4, none⟩ = some (.bool l.1.closed)) (by kernel_rfl) ?_
     refine tq 0 79 hS0 ?_
     refine tq 1 80 hS0 ?_
     refine tq 2 81 hS0 ?_
     refine tq 3 82 hS0 ?_
     refine tq 4 83 hS0 ?_
     refine tq 5 84 hS0 ?_
     simp only [Act.put, List.setIfInBounds_toArray, List.set_cons_zero, List.set_cons_succ]
     refine tz 6 85 hS0 ?_
     simp only [Act.put, List.setIfInBounds_toArray, List.set_cons_zero, List.set_cons_succ]
     refine tz 7 86 hS0 ?_
     simp only [Act.put, List.setIfInBounds_toArray, List.set_cons_zero, List.set_cons_succ]
     refine tz 8 87 hS0 ?_
     simp only [Act.put, List.setIfInBounds_toArray, List.set_cons_zero, List.set_cons_succ]
     refine tz 9 88 hS0 ?_
     simp only [Act.put, List.setIfInBounds_toArray, List.set_cons_zero, List.set_cons_succ]
     refine tz 10 89 hS0 ?_
     simp only [Act.put, List.setIfInBounds_toArray, List.set_cons_zero, List.set_cons_succ]
     refine tz 11 90 hS0 ?_
     simp only [Act.put, List.setIfInBounds_toArray, List.set_cons_zero, List.set_cons_succ]
     refine tz 12 91 hS0 ?_
     simp only [Act.put, List.setIfInBounds_toArray, List.set_cons_zero, List.set_cons_succ]
     refine tz 13 92 hS0 ?_
     simp only [Act.put, List.setIfInBounds_toArray, List.set_cons_zero, List.set_cons_succ]
     refine tz 14 93 hS0 ?_
     simp only [Act.put, List.setIfInBounds_toArray, List.set_cons_zero, List.set_cons_succ]
     refine tz 15 94 hS0 ?_
     simp only [Act.put, List.setIfInBounds_toArray, List.set_cons_zero, List.set_cons_succ]
     refine tq 16 95 hS0 ?_
     refine tq 17 96 hS0 ?_
     refine tq 18 97 hS0 ?_
     simp only [Act.put, List.setIfInBounds_toArray, List.set_cons_zero, List.set_cons_succ]
     refine wpAnyH_all (rs := [19]) (by kernel_rfl) (by simp) (fun i hi => ?_)
     obtain rfl : i = 19 := List.mem_singleton.1 hi
     refine op_skip rfl rfl (by rfl) (w' := (V.setCell ⟨b, 4, none⟩ (.bool true)).drew) (by go_simp; (try with_reducible rfl)) ⟨HS2.out true, ?_⟩
     refine wpAnyH_done (by kernel_rfl) ?_ _
     show QQ _ _ _
     rw [HQ2.out]
     exact HFIN.out true rfl _
    | false =>
     refine wp_region_noPanic ?_
     refine wp_region_held (S := fun V : World => V.cell? ⟨W.heap.size, 0, none⟩ = some (.pointer (some ⟨b, 0, none⟩)) ∧ V.cell? ⟨b, 2, none⟩ = some (.slice (some ⟨gl, 0, none⟩) a.links.length cl) ∧ V.cell? ⟨b, 3, none⟩ = some (.bool false) ∧ V.cell? ⟨gl, 0, none⟩ = some (.pointer (some ⟨c, 0, none⟩)) ∧ V.cell? ⟨c, 4, none⟩ = some (.bool l.1.closed)) (by kernel_rfl) ?_
     refine tq 0 79 hS0 ?_
     refine tq 1 80 hS0 ?_
     refine tq 2 81 hS0 ?_
     refine tq 3 82 hS0 ?_
     refine tq 4 83 hS0 ?_
     refine tq 5 84 hS0 ?_
     simp only [Act.put, List.setIfInBounds_toArray, List.set_cons_zero, List.set_cons_succ]
     refine tq 6 85 hS0 ?_
     simp only [Act.put, List.setIfInBounds_toArray, List.set_cons_zero, List.set_cons_succ]
     refine tq 7 86 hS0 ?_
     simp only [Act.put, List.setIfInBounds_toArray, List.set_cons_zero, List.set_cons_succ]
     refine tq 8 87 hS0 ?_
     simp only [Act.put, List.setIfInBounds_toArray, List.set_cons_zero, List.set_cons_succ]
     refine tq 9 88 hS0 ?_
     simp only [Act.put, List.setIfInBounds_toArray, List.set_cons_zero, List.set_cons_succ]
     refine tq 10 89 hS0 ?_
     simp only [Act.put, List.setIfInBounds_toArray, List.set_cons_zero, List.set_cons_succ]
     refine tq 11 90 hS0 ?_
     simp only [Act.put, List.setIfInBounds_toArray, List.set_cons_zero, List.set_cons_succ]
     refine tq 12 91 hS0 ?_
     simp only [Act.put, List.setIfInBounds_toArray, List.set_cons_zero, List.set_cons_succ]
     refine tq 13 92 hS0 ?_
     simp only [Act.put, List.setIfInBounds_toArray, List.set_cons_zero, List.set_cons_succ]
     refine tq 14 93 hS0 ?_
     simp only [Act.put, List.setIfInBounds_toArray, List.set_cons_zero, List.set_cons_succ]
     refine tq 15 94 hS0 ?_
     simp only [Act.put, List.setIfInBounds_toArray, List.set_cons_zero, List.set_cons_succ]
     refine tq 16 95 hS0 ?_
     refine tq 17 96 hS0 ?_
     refine tq 18 97 hS0 ?_
     simp only [Act.put, List.setIfInBounds_toArray, List.set_cons_zero, List.set_cons_succ]
     refine wpAnyH_all (rs := [19]) (by kernel_rfl) (by simp) (fun i hi => ?_)
     obtain rfl : i = 19 := List.mem_singleton.1 hi
     refine op_skip rfl rfl (by rfl) (w' := (V.setCell ⟨b, 4, none⟩ (.bool l.1.closed)).drew) (by go_simp; (try with_reducible rfl)) ⟨HS2.out l.1.closed, ?_⟩
     refine wpAnyH_done (by kernel_rfl) ?_ _
     show QQ _ _ _
     rw [HQ2.out]
     exact HFIN.out l.1.closed (by rw [Bool.false_or]) _
  · have i9 : ((a.links.length : Int) == 1) = false := by rw [beq_eq_false_iff_ne]; omega
    go_wp2
    rw [HQ2.out]
    refine HEND.out V false HV.out.1 HV.out.2.1 HV.out.2.2.2.1 HV.out.2.2.1 ?_ _
    match a.links, hone with
    | [], _ => rfl
    | [_], h => exact absurd rfl h
    | _ :: _ :: _, _ => rfl
 | succ n =>
  have i0 : (((n + 1 : Nat) : Int) - 1) = (n : Int) := by omega
  rw [i0]
  have i1 : (0 : Int) ≤ (n : Int) := by omega
  have d0 := HI.out.2.1.box.cell
  have d2 := HI.out.2.1.ac.cells.2.1
  go_upto_region 7 with fail
  rename_i K7 hK7
  obtain ⟨l, hl⟩ : ∃ l, a.links[n]? = some l := ⟨_, List.getElem?_eq_getElem (by have := HI.out.1; omega)⟩
  have hnl : n < a.links.length := (List.getElem?_eq_some_iff.1 hl).1
  obtain ⟨gl, cap, c, hge, -, k0, k1, k2, hpk⟩ := lk_cells HI.out.2.1.ac hl
  obtain ⟨rfl, rfl⟩ : al = some ⟨gl, 0, none⟩ ∧ cl = cap := by injection hge with h1 _ h2; exact ⟨h1, h2⟩
  have hbq := (HH.out.2.2.1.kid l (List.mem_of_getElem? hl)).bd.1
  have hbl := HH.out.2.2.1.lk l (List.mem_of_getElem? hl)
  have hL256 := HH.out.2.2.2
  have HLB := hideT (lkB_any hpk hbq l.2.2 (show l.2.1 < 1000000 by omega))
  have i2 : (n : Int) < (a.links.length : Int) := by omega
  have HST := hideT (show tiS ag a n = tieStep l (tiS ag a (n + 1)) by rw [tiS, List.drop_eq_getElem_cons hnl, List.foldr_cons, (List.getElem?_eq_some_iff.1 hl).2]; rfl)
  clear hge hpk hbl hL256
  refine wp_region_lit (l := [_, _, _, _, _, _, _, _, _, _]) ?_
  refine wl_value (v := .pointer (some ⟨b, 0, none⟩)) (w' := W1) rfl (by go_simp; (try with_reducible rfl)) ?_
  refine wl_value (v := .pointer (some ⟨b, 0, none⟩)) (w' := W1) rfl (by go_simp; (try with_reducible rfl)) ?_
  refine wl_value (v := .pointer (some ⟨b, 2, none⟩)) (w' := W1) rfl (by go_simp; (try with_reducible rfl)) ?_
  refine wl_value (v := .slice (some ⟨gl, 0, none⟩) a.links.length cl) (w' := W1) rfl (by go_simp; (try with_reducible rfl)) ?_
  refine wl_value (v := .int .i64 (n : Nat)) (w' := W1) rfl (by go_simp; (try with_reducible rfl)) ?_
  refine wl_value (v := .pointer (some ⟨gl, n * 3, none⟩)) (w' := W1) rfl (by go_simp; (try with_reducible rfl)) ?_
  refine wl_value (v := .agg #[.pointer (some ⟨c, 0, none⟩), .int .i64 (l.2.1 : Nat), .bool l.2.2]) (w' := W1) rfl (by go_simp; (try with_reducible rfl)) ?_
  refine wl_call (f := 91) (args := #[.agg #[.pointer (some ⟨c, 0, none⟩), .int .i64 (l.2.1 : Nat), .bool l.2.2]]) (R := fun v w1 => v = .agg (bsV (lnB l)).toArray ∧ Below W1.heap.size W1 w1) rfl (by go_simp; (try with_reducible rfl)) (HLB.out.mono ?_) ?_
  · rintro e w3 ⟨rfl, h3⟩; exact ⟨_, rfl, rfl, h3⟩
  rintro v w3 ⟨rfl, hb3⟩
  obtain ⟨C2, hC2⟩ : ∃ C2, w3.heap.size = C2 := ⟨_, rfl⟩
  refine wl_value (v := .pointer (some ⟨C2, 0, none⟩)) (w' := w3.alloc (.cells (zr 4).toArray 161)) rfl (by rw [← hC2]; clear k0 k1 k2; go_simp; rfl) ?_
  have z0 : (w3.alloc (.cells (zr 4).toArray 161)).heap[C2]? = some (.cells (zr 4).toArray 161 (0, 0)) := by rw [← hC2]; exact World.alloc_heap_new w3 _
  obtain ⟨ov, hov⟩ : ∃ ov, bsV (lnB l) = ov := ⟨_, rfl⟩
  have hovl : ov.length = 36 := by rw [← hov]; exact bsV_len _
  have hov1 : ov.toArray.all (·.oneCell') = true := by rw [← hov]; exact bsV_one _
  rw [hov]
  simp only [Act.put, List.setIfInBounds_toArray, List.set_cons_zero, List.set_cons_succ]
  refine wpList_store_mid rfl 161 _ _ rfl C2 0 ov.toArray rfl rfl (by rw [List.size_toArray, hovl]; exact there_block z0 36 rfl) (by rw [info_part, List.size_toArray, hovl]) hov1 ?_
  refine wpList_nil (hK7 _ _ ?_)
  have y := setCells_whole ov z0 hovl.symm
  have hb3s := hb3.size
  have hBY : Below W1.heap.size W1 ((w3.alloc (.cells (zr 4).toArray 161)).setCells C2 0 ov) := below_setCells _ (by omega) _ _ _ (hb3.alloc (by omega) _)
  have HT5 := hideT (And.intro HI.out.1 (And.intro (HI.out.2.1.keep hBY) (And.intro (HI.out.2.2.keep hBY) (And.intro y (show W1.heap.size ≤ C2 by omega)))))
  simp only [Act.put]
  show Code.wp _ _ _ _ ((w3.alloc (.cells (zr 4).toArray 161)).setCells C2 0 ov)
  generalize (w3.alloc (.cells (zr 4).toArray 161)).setCells C2 0 ov = Y2 at *
  have HOV := hideT hov
  clear hov hovl hov1 hBY hb3s y z0 hC2 hb3 hK7 k0 k1 k2 d0 d2 HLB
  obtain ⟨c5, -⟩ := bs_cL (show Y2.heap[C2]? = some (.cells (bsV (lnB l)).toArray 161 (0, 0)) by rw [HOV.out]; exact HT5.out.2.2.2.1) (k := 0) (by omega)
  rw [Nat.zero_mul, Nat.zero_add] at c5
  obtain ⟨c5, c6, c7, c8⟩ := c5
  have HAL := hideT (fun W => (callsIn_wide (n := 5)).1 (all_in 5 (bat (lnB l) 0).la W))
  go_upto_region 8 with fail
  rename_i K6 hK6 K11 hK11 K8 hK8
  refine wp_region_lit (l := [_, _, _, _]) ?_
  refine wl_value (v := .pointer (some ⟨C2, 0, none⟩)) (w' := Y2) rfl (by go_simp; (try with_reducible rfl)) ?_
  refine wl_value (v := .pointer (some ⟨C2, 5, none⟩)) (w' := Y2) rfl (by go_simp; (try with_reducible rfl)) ?_
  refine wl_value (v := .agg #[.int .u64 (wd (Nat.testBit ((bat (lnB l) 0).la)) 0 : Nat), .int .u64 (wd (Nat.testBit ((bat (lnB l) 0).la)) 1 : Nat), .int .u64 (wd (Nat.testBit ((bat (lnB l) 0).la)) 2 : Nat), .int .u64 (wd (Nat.testBit ((bat (lnB l) 0).la)) 3 : Nat)]) (w' := Y2) rfl (by go_simp; (try with_reducible rfl)) ?_
  refine wl_call (f := 92) (args := #[.agg #[.int .u64 (wd (Nat.testBit ((bat (lnB l) 0).la)) 0 : Nat), .int .u64 (wd (Nat.testBit ((bat (lnB l) 0).la)) 1 : Nat), .int .u64 (wd (Nat.testBit ((bat (lnB l) 0).la)) 2 : Nat), .int .u64 (wd (Nat.testBit ((bat (lnB l) 0).la)) 3 : Nat)]]) (R := fun v w1 => v = .func (.func 121) #[] #[.pointer (some ⟨Y2.heap.size, 0, none⟩)] ∧ w1 = Y2.alloc (.cells #[.int .u64 (wd (Nat.testBit ((bat (lnB l) 0).la)) 0 : Nat), .int .u64 (wd (Nat.testBit ((bat (lnB l) 0).la)) 1 : Nat), .int .u64 (wd (Nat.testBit ((bat (lnB l) 0).la)) 2 : Nat), .int .u64 (wd (Nat.testBit ((bat (lnB l) 0).la)) 3 : Nat)] 157)) rfl (by go_simp; (try with_reducible rfl)) ((HAL.out Y2).mono ?_) ?_
  · rintro e w4 ⟨rfl, rfl⟩; exact ⟨_, rfl, rfl, rfl⟩
  rintro v w4 ⟨rfl, rfl⟩
  refine wpList_nil (hK8 _ _ ?_)
  simp only [Act.put, List.setIfInBounds_toArray, List.set_cons_zero, List.set_cons_succ]
  clear c5 c6 c7 c8 HAL hK8
  have hb4 := (Below.refl Y2.heap.size Y2).alloc (Nat.le_refl _) (.cells #[.int .u64 (wd (Nat.testBit ((bat (lnB l) 0).la)) 0 : Nat), .int .u64 (wd (Nat.testBit ((bat (lnB l) 0).la)) 1 : Nat), .int .u64 (wd (Nat.testBit ((bat (lnB l) 0).la)) 2 : Nat), .int .u64 (wd (Nat.testBit ((bat (lnB l) 0).la)) 3 : Nat)] 157)
  have x6 : Ps4 (Y2.alloc (.cells #[.int .u64 (wd (Nat.testBit ((bat (lnB l) 0).la)) 0 : Nat), .int .u64 (wd (Nat.testBit ((bat (lnB l) 0).la)) 1 : Nat), .int .u64 (wd (Nat.testBit ((bat (lnB l) 0).la)) 2 : Nat), .int .u64 (wd (Nat.testBit ((bat (lnB l) 0).la)) 3 : Nat)] 157)) Y2.heap.size (bat (lnB l) 0).la := Ps4.new Y2 _
  obtain ⟨N0, hN0⟩ : ∃ N0, (tiS ag a (n + 1)).1 = N0 := ⟨_, rfl⟩
  obtain ⟨Bh, hBh⟩ : ∃ Bh, (tiS ag a (n + 1)).2 = Bh := ⟨_, rfl⟩
  have hlo : Lo Y2.heap.size B b S (.slice (some ⟨gl, 0, none⟩) a.links.length cl) vt vn W.heap.size C := HT5.out.2.1.lo
  have hC2lt : C2 < Y2.heap.size := (Array.getElem?_eq_some_iff.1 HT5.out.2.2.2.1).1
  have hDlt : ∀ D, D ∈ Ds → D < Y2.heap.size := fun D hD => (Array.getElem?_eq_some_iff.1 (HT5.out.2.2.1.1 D hD).2).1
  have hNl : N0.length = a.takes.length := by rw [← hN0]; exact (tie_ok (a.links.drop (n + 1)) a.next (bhd ag a.links) (fun m hm => HH.out.2.2.1.lk m (List.mem_of_mem_drop hm)) (fun m hm => HH.out.2.2.1.kid m (List.mem_of_mem_drop hm)) HH.out.2.2.1.nx (bhd_ok HH.out.2.2.1.lk HH.out.2.2.1.kid ag)).1.trans HH.out.2.2.1.nl
  have hBl : Bh.length = 4 := by rw [← hBh]; exact (tie_ok (a.links.drop (n + 1)) a.next (bhd ag a.links) (fun m hm => HH.out.2.2.1.lk m (List.mem_of_mem_drop hm)) (fun m hm => HH.out.2.2.1.kid m (List.mem_of_mem_drop hm)) HH.out.2.2.1.nx (bhd_ok HH.out.2.2.1.lk HH.out.2.2.1.kid ag)).2.2.1
  have hin : ∀ x, x ∈ mem 256 (bat (lnB l) 0).la → x < N0.length := fun x hx => by
   rw [hNl]
   exact bit_lt2 (((lnB_ok (HH.out.2.2.1.kid l (List.mem_of_getElem? hl)) (HH.out.2.2.1.lk l (List.mem_of_getElem? hl))).at 0).2) (mem_lt hx).2
  obtain ⟨tot, htot⟩ : ∃ tot, (mem 256 (bat (lnB l) 0).la).foldl (fun n i => orAt n i (bat Bh 0).fi) N0 = tot := ⟨_, rfl⟩
  have hI0 : TgI W (Y2.alloc (.cells #[.int .u64 (wd (Nat.testBit ((bat (lnB l) 0).la)) 0 : Nat), .int .u64 (wd (Nat.testBit ((bat (lnB l) 0).la)) 1 : Nat), .int .u64 (wd (Nat.testBit ((bat (lnB l) 0).la)) 2 : Nat), .int .u64 (wd (Nat.testBit ((bat (lnB l) 0).la)) 3 : Nat)] 157)) B b S g ag a (.slice (some ⟨gl, 0, none⟩) a.links.length cl) vt vn cs C C2 ov Ds Bh tot (mr (Nat.testBit (bat (lnB l) 0).la) 0) (Y2.alloc (.cells #[.int .u64 (wd (Nat.testBit ((bat (lnB l) 0).la)) 0 : Nat), .int .u64 (wd (Nat.testBit ((bat (lnB l) 0).la)) 1 : Nat), .int .u64 (wd (Nat.testBit ((bat (lnB l) 0).la)) 2 : Nat), .int .u64 (wd (Nat.testBit ((bat (lnB l) 0).la)) 3 : Nat)] 157)) := by
   rw [← mem_mr]
   refine ⟨N0, htot, hin, ?_, (hb4.block C2 hC2lt).trans HT5.out.2.2.2.1, HT5.out.2.2.1.keep hb4, Nat.le_refl _⟩
   have h9 := HT5.out.2.1.keep hb4
   rw [hN0, hBh] at h9
   exact h9
  have hT3 : Tab (Y2.alloc (.cells #[.int .u64 (wd (Nat.testBit ((bat (lnB l) 0).la)) 0 : Nat), .int .u64 (wd (Nat.testBit ((bat (lnB l) 0).la)) 1 : Nat), .int .u64 (wd (Nat.testBit ((bat (lnB l) 0).la)) 2 : Nat), .int .u64 (wd (Nat.testBit ((bat (lnB l) 0).la)) 3 : Nat)] 157)) := HH.out.2.1.keep ((hb4.block 0 (by have := hlo.b; omega)).trans (HT5.out.2.1.f.low 0 hB0))
  have hlo3 : Lo (Y2.alloc (.cells #[.int .u64 (wd (Nat.testBit ((bat (lnB l) 0).la)) 0 : Nat), .int .u64 (wd (Nat.testBit ((bat (lnB l) 0).la)) 1 : Nat), .int .u64 (wd (Nat.testBit ((bat (lnB l) 0).la)) 2 : Nat), .int .u64 (wd (Nat.testBit ((bat (lnB l) 0).la)) 3 : Nat)] 157)).heap.size B b S (.slice (some ⟨gl, 0, none⟩) a.links.length cl) vt vn W.heap.size C := hlo.mono hb4.size
  have HL3 := hideT (And.intro hlo3 (And.intro (Nat.lt_of_lt_of_le hC2lt hb4.size) (And.intro (fun D hD => Nat.lt_of_lt_of_le (hDlt D hD) hb4.size) (And.intro hNl hBl))))
  have HTOT := hideT (And.intro htot (And.intro hN0 (And.intro hBh HST.out)))
  have hpos3 : 0 < (Y2.alloc (.cells #[.int .u64 (wd (Nat.testBit ((bat (lnB l) 0).la)) 0 : Nat), .int .u64 (wd (Nat.testBit ((bat (lnB l) 0).la)) 1 : Nat), .int .u64 (wd (Nat.testBit ((bat (lnB l) 0).la)) 2 : Nat), .int .u64 (wd (Nat.testBit ((bat (lnB l) 0).la)) 3 : Nat)] 157)).heap.size := by have := hlo3.b; omega
  clear hlo hC2lt hDlt hin htot hlo3 hb4 hN0 hBh HST hNl hBl
  generalize Y2.alloc (.cells #[.int .u64 (wd (Nat.testBit ((bat (lnB l) 0).la)) 0 : Nat), .int .u64 (wd (Nat.testBit ((bat (lnB l) 0).la)) 1 : Nat), .int .u64 (wd (Nat.testBit ((bat (lnB l) 0).la)) 2 : Nat), .int .u64 (wd (Nat.testBit ((bat (lnB l) 0).la)) 3 : Nat)] 157) = Y3 at *
  refine wp_block ?_
  refine (wpIn_wide (n := 5)).1 ?_
  refine range_feed (by omega) (gf := 121) (lb := #[.pointer (some ⟨Y2.heap.size, 0, none⟩)]) rfl (enters_of Tryz.func121 (by kernel_rfl) rfl)
   (all_feed 4 (by omega) (bat (lnB l) 0).la _ Y3 hT3 x6) (fun _ => rfl) kp0_t (kp0_put hpos3) (TgI W Y3 B b S g ag a (.slice (some ⟨gl, 0, none⟩) a.links.length cl) vt vn cs C C2 ov Ds Bh tot) (fun _ _ => False) (tgI_own HL3.out.1 HL3.out.2.1 HL3.out.2.2.1) (fun s W W' row h hg hr => h) hI0 (fun m a' _ => ∃ u : Nat → Value, a' = { tmps := #[.pointer (some ⟨b, 0, none⟩), .pointer (some ⟨W.heap.size, 0, none⟩), .pointer (some ⟨C, 0, none⟩), .int .i64 (n : Nat), .pointer (some ⟨C2, 0, none⟩), .int .i64 (m.headD 0 : Nat), u 6, u 7, u 8, u 9, u 10, u 11, u 12, u 13, u 14, u 15, u 16, u 17, u 18, u 19, u 20, u 21, u 22, u 23, u 24, u 25, u 26, u 27, u 28, u 29, u 30, u 31, u 32, u 33, u 34, u 35, u 36, u 37, u 38, u 39, u 40, u 41, u 42, u 43, u 44, u 45, u 46, u 47, .int .i64 (m.headD 0 : Nat), u 49, u 50, u 51, u 52, u 53, u 54, u 55, u 56, u 57, u 58, u 59, u 60, u 61, u 62, u 63, u 64, u 65, u 66, u 67, u 68, u 69, u 70, u 71, u 72, u 73, u 74, u 75, u 76, u 77, u 78, u 79, u 80, u 81, u 82, u 83, u 84, u 85, u 86, u 87, u 88, u 89, u 90, u 91, u 92, u 93, u 94, u 95, u 96, u 97], defers := [] }) (fun s a' x W W' row h hg hr => h) ?assign ?body ?done ?stop
  case assign =>
   intro lo m W5 K hgo hI hK
   obtain ⟨x, m', rfl⟩ : ∃ x m', m = x :: m' := List.exists_cons_of_ne_nil hgo
   simp only [List.headD_cons] at hK ⊢
   gi_wp2
   show Oper.uponIn _ _ _ _ _ _ _ (Result.ok (Next.value (.int .i64 (x : Nat))) W5)
   rw [Oper.uponIn_value]
   gi_wp2
   refine hK _ _ (KeepsFrom.refl _ _) (Kp0.refl _) hI ?_
   refine fr_ex (undef :: undef :: undef :: undef :: undef :: undef :: u 2 :: u 3 :: u 4 :: u 5 :: u 6 :: u 7 :: u 8 :: u 9 :: u 10 :: u 11 :: u 12 :: u 13 :: u 14 :: u 15 :: u 16 :: u 17 :: u 18 :: u 19 :: u 20 :: u 21 :: u 22 :: u 23 :: u 24 :: u 25 :: u 26 :: u 27 :: .int .i64 (n : Nat) :: .bool true :: u 30 :: u 31 :: .pointer (some ⟨b, 0, none⟩) :: .pointer (some ⟨b, 0, none⟩) :: .pointer (some ⟨b, 2, none⟩) :: .slice (some ⟨gl, 0, none⟩) a.links.length cl :: .int .i64 (n : Nat) :: .pointer (some ⟨gl, n * 3, none⟩) :: .agg #[.pointer (some ⟨c, 0, none⟩), .int .i64 (l.2.1 : Nat), .bool l.2.2] :: .agg ov.toArray :: .pointer (some ⟨C2, 0, none⟩) :: .pointer (some ⟨C2, 5, none⟩) :: .agg #[.int .u64 (wd (Nat.testBit ((bat (lnB l) 0).la)) 0 : Nat), .int .u64 (wd (Nat.testBit ((bat (lnB l) 0).la)) 1 : Nat), .int .u64 (wd (Nat.testBit ((bat (lnB l) 0).la)) 2 : Nat), .int .u64 (wd (Nat.testBit ((bat (lnB l) 0).la)) 3 : Nat)] :: .func (.func 121) #[] #[.pointer (some ⟨Y2.heap.size, 0, none⟩)] :: undef :: u 45 :: u 46 :: u 47 :: u 48 :: u 49 :: u 50 :: u 51 :: u 52 :: u 53 :: u 54 :: u 55 :: u 56 :: u 57 :: u 58 :: u 59 :: u 60 :: u 61 :: u 62 :: u 63 :: u 64 :: u 65 :: u 66 :: u 67 :: u 68 :: u 69 :: u 70 :: u 71 :: u 72 :: u 73 :: u 74 :: u 75 :: u 76 :: u 77 :: u 78 :: u 79 :: u 80 :: u 81 :: u 82 :: u 83 :: u 84 :: u 85 :: u 86 :: u 87 :: u 88 :: u 89 :: u 90 :: u 91 :: u 92 :: u 93 :: []) ?_
   rfl
  case body =>
   rintro lo m a' W5 hgo hI ⟨u, rfl⟩
   obtain ⟨x, m', rfl⟩ : ∃ x m', m = x :: m' := List.exists_cons_of_ne_nil hgo
   simp only [List.headD_cons, List.tail_cons]
   obtain ⟨N, hf, hin, hTi, hov, hmk, hsz⟩ := hI
   have hxN : x < N.length := hin x List.mem_cons_self
   obtain ⟨y, hy⟩ : ∃ y, N[x]? = some y := ⟨_, List.getElem?_eq_getElem hxN⟩
   obtain ⟨gn, cn, hvn, hBg, hgn⟩ := hTi.ac.on.form (show 0 < N.length by omega)
   have hvn : vn = .slice (some ⟨gn, 0, none⟩) N.length cn := hvn
   have cb := hTi.box.cell
   have cv := hTi.ac.cells.2.2.2.2.1
   have hon := hTi.ac.on
   rw [hvn] at cv hon
   obtain ⟨⟨r0, r1, r2, r3⟩, -⟩ := row_cells hon hy
   obtain ⟨cf, -⟩ := bs_cF hTi.bh (k := 0) (by omega)
   rw [Nat.zero_mul, Nat.zero_add] at cf
   obtain ⟨e1, e2, e3, e4⟩ := cf
   have ng1 : W.heap.size ≠ gn := fun e => own_nb hon hTi.box (by decide) (by rw [e]; rfl)
   have ng2 : b ≠ gn := fun e => own_nb hon hTi.ac.blk (by decide) (by rw [e]; rfl)
   have ng3 : C ≠ gn := fun e => own_nb hon hTi.bh (by decide) (by rw [e]; rfl)
   have hlo5 := hTi.lo
   have hSof : ∀ V : World, (∀ k, k < W5.heap.size → k ≠ gn → V.heap[k]? = W5.heap[k]?) → (fun V : World => V.cell? ⟨W.heap.size, 0, none⟩ = some (.pointer (some ⟨b, 0, none⟩)) ∧ V.cell? ⟨b, 42, none⟩ = some (.slice (some ⟨gn, 0, none⟩) N.length cn) ∧ V.cell? ⟨C, 1, none⟩ = some (.int .u64 (wd (Nat.testBit (bat Bh 0).fi) 0 : Nat)) ∧ V.cell? ⟨C, 2, none⟩ = some (.int .u64 (wd (Nat.testBit (bat Bh 0).fi) 1 : Nat)) ∧ V.cell? ⟨C, 3, none⟩ = some (.int .u64 (wd (Nat.testBit (bat Bh 0).fi) 2 : Nat)) ∧ V.cell? ⟨C, 4, none⟩ = some (.int .u64 (wd (Nat.testBit (bat Bh 0).fi) 3 : Nat))) V := fun V hV => ⟨(World.cell?_of_block (a := ⟨W.heap.size, 0, none⟩) (hV _ hlo5.bx ng1)).trans cb, (World.cell?_of_block (a := ⟨b, 42, none⟩) (hV b hlo5.b ng2)).trans cv, (World.cell?_of_block (a := ⟨C, 1, none⟩) (hV C hlo5.c ng3)).trans e1, (World.cell?_of_block (a := ⟨C, 2, none⟩) (hV C hlo5.c ng3)).trans e2, (World.cell?_of_block (a := ⟨C, 3, none⟩) (hV C hlo5.c ng3)).trans e3, (World.cell?_of_block (a := ⟨C, 4, none⟩) (hV C hlo5.c ng3)).trans e4⟩
   have hS0 := hSof W5.drew (fun _ _ _ => rfl)
   have HFIN := hideT (fun (w1 : World) (hb1 : Below W5.heap.size W5 w1) => tgI_next (HL3.out.1) HL3.out.2.1 HL3.out.2.2.1 hB0 hf hin hTi hov hmk hsz hy hvn hb1)
   have i3 : (x : Int) < (N.length : Int) := by omega
   have i4 : (0 : Int) ≤ (x : Int) := by omega
   have HRW := hideT (fun (w1 : World) (hb1 : Below W5.heap.size W5 w1) => row_cells (owns_keep hon (W' := w1) fun k hk => hb1.block k (owns_blk hon hk).2.1) hy)
   have HOr := hideT (fun V => or_any y (bat Bh 0).fi V)
   clear hf hin hTi hov hmk hsz hvn hon hlo5 cb cv e1 e2 e3 e4 hxN hy hI0 x6 hT3
   refine wpIn_block ?_
   refine heldIn (fun V : World => V.cell? ⟨W.heap.size, 0, none⟩ = some (.pointer (some ⟨b, 0, none⟩)) ∧ V.cell? ⟨b, 42, none⟩ = some (.slice (some ⟨gn, 0, none⟩) N.length cn) ∧ V.cell? ⟨C, 1, none⟩ = some (.int .u64 (wd (Nat.testBit (bat Bh 0).fi) 0 : Nat)) ∧ V.cell? ⟨C, 2, none⟩ = some (.int .u64 (wd (Nat.testBit (bat Bh 0).fi) 1 : Nat)) ∧ V.cell? ⟨C, 3, none⟩ = some (.int .u64 (wd (Nat.testBit (bat Bh 0).fi) 2 : Nat)) ∧ V.cell? ⟨C, 4, none⟩ = some (.int .u64 (wd (Nat.testBit (bat Bh 0).fi) 3 : Nat))) (by kernel_rfl) (by kernel_rfl) (fun ⟨_, _, h⟩ => h) ?_
   refine tq 0 49 hS0 ?_
   refine tq 1 50 hS0 ?_
   refine tq 2 51 hS0 ?_
   refine tq 3 52 hS0 ?_
   refine tq 4 53 hS0 ?_
   refine tq 5 54 hS0 ?_
   refine tq 6 55 hS0 ?_
   refine tq 7 56 hS0 ?_
   refine tq 8 57 hS0 ?_
   refine tq 9 58 hS0 ?_
   refine tq 10 59 hS0 ?_
   refine tq 12 61 hS0 ?_
   refine tq 13 62 hS0 ?_
   refine tq 14 63 hS0 ?_
   simp only [Act.put, List.setIfInBounds_toArray, List.set_cons_zero, List.set_cons_succ]
   have r0' : W5.drew.cell? ⟨gn, x * 4, none⟩ = some (.int .u64 (wd (Nat.testBit y) 0 : Nat)) := r0
   have r1' : W5.drew.cell? ⟨gn, x * 4 + 1, none⟩ = some (.int .u64 (wd (Nat.testBit y) 1 : Nat)) := r1
   have r2' : W5.drew.cell? ⟨gn, x * 4 + 2, none⟩ = some (.int .u64 (wd (Nat.testBit y) 2 : Nat)) := r2
   have r3' : W5.drew.cell? ⟨gn, x * 4 + 3, none⟩ = some (.int .u64 (wd (Nat.testBit y) 3 : Nat)) := r3
   refine wpAnyH_all (rs := [11]) (by kernel_rfl) (by simp) (fun i hi => ?_)
   obtain rfl : i = 11 := List.mem_singleton.1 hi
   refine op_value (some 60) rfl rfl (by rfl) (v := .agg #[.int .u64 (wd (Nat.testBit y) 0 : Nat), .int .u64 (wd (Nat.testBit y) 1 : Nat), .int .u64 (wd (Nat.testBit y) 2 : Nat), .int .u64 (wd (Nat.testBit y) 3 : Nat)]) (w' := W5.drew) (by go_simp; (try with_reducible rfl)) ⟨hS0, ?_⟩
   simp only [Act.put, List.setIfInBounds_toArray, List.set_cons_zero, List.set_cons_succ]
   refine wpAnyH_all (rs := [15]) (by kernel_rfl) (by simp) (fun i hi => ?_)
   obtain rfl : i = 15 := List.mem_singleton.1 hi
   refine op_call (R := fun v w1 => v = .agg #[.int .u64 (wd (Nat.testBit (y ||| (bat Bh 0).fi)) 0 : Nat), .int .u64 (wd (Nat.testBit (y ||| (bat Bh 0).fi)) 1 : Nat), .int .u64 (wd (Nat.testBit (y ||| (bat Bh 0).fi)) 2 : Nat), .int .u64 (wd (Nat.testBit (y ||| (bat Bh 0).fi)) 3 : Nat)] ∧ Below W5.heap.size W5 w1) (f := 93) (some 64) rfl rfl (by rfl) (by go_simp; (try with_reducible rfl)) ((HOr.out _).mono ?_) ?_
   · rintro e w1 ⟨rfl, hb0⟩
     exact ⟨_, rfl, rfl, ((Below.refl W5.heap.size W5).drew).trans hb0⟩
   rintro v w1 ⟨rfl, hb1⟩
   have hS1 := hSof w1 (fun k hk _ => hb1.block k hk)
   obtain ⟨⟨d0, d1, d2, d3⟩, g0, g1, g2, g3⟩ := HRW.out w1 hb1
   refine ⟨hS1, ?_⟩
   simp only [Act.put, List.setIfInBounds_toArray, List.set_cons_zero, List.set_cons_succ]
   refine tq 16 65 hS1 ?_
   simp only [Act.put, List.setIfInBounds_toArray, List.set_cons_zero, List.set_cons_succ]
   refine wpAnyH_all (rs := [17]) (by kernel_rfl) (by simp) (fun i hi => ?_)
   obtain rfl : i = 17 := List.mem_singleton.1 hi
   refine op_skip rfl rfl (by rfl) (w' := put4at w1 gn (x * 4) (y ||| (bat Bh 0).fi)) (by go_simp; (try with_reducible rfl)) ⟨hSof _ (fun k hk hkg => (put4at_far w1 gn (x * 4) _ hkg).trans (hb1.block k hk)), ?_⟩
   exact wpAnyH_done (by kernel_rfl) (HFIN.out w1 hb1) _
  case done =>
   rintro D m W5 hD hng hI hK
   obtain rfl : m = [] := Classical.byContradiction hng
   refine hK11 _ _ ?_
   obtain ⟨N, hf, -, hTi, hov, hmk, hsz⟩ := hI
   obtain rfl : N = tot := hf
   have hln := HL3.out.2.2.2.2
   have hOV := HOV.out
   have hDC : C ≠ D := by have := HL3.out.1.c; omega
   have hovl : ov.length = 36 := by rw [← hOV]; exact bsV_len _
   have HJ := hideT (fun V => join_any (ln_four hbq) hln V)
   refine wp_region_lit (l := [_, _, _, _]) ?_
   refine wpList_load_mid rfl 161 _ rfl C2 0 rfl ov _ (range_block hov) und_part rfl (by rw [info_part, hovl]) ?_
   refine wpList_load_mid rfl 161 _ rfl C 0 rfl (bsV Bh) _ (range_block hTi.bh) und_part rfl (by rw [info_part, bsV_len]) ?_
   simp only [Act.put, List.setIfInBounds_toArray, List.set_cons_zero, List.set_cons_succ]
   refine wl_call (f := 94) (args := #[.agg ov.toArray, .agg (bsV Bh).toArray]) (R := fun v w1 => v = .agg (bsV (joinB (lnB l) Bh)).toArray ∧ Below W5.heap.size W5 w1) rfl (by go_simp; (try with_reducible rfl)) ((by rw [← hOV]; exact HJ.out W5 : Calls Tryz.prog 94 #[.agg ov.toArray, .agg (bsV Bh).toArray] W5 fun e w' => e = .returned (.agg (bsV (joinB (lnB l) Bh)).toArray) ∧ Below W5.heap.size W5 w').mono ?_) ?_
   · rintro e w3 ⟨rfl, h3⟩; exact ⟨_, rfl, rfl, h3⟩
   rintro v w3 ⟨rfl, hb3⟩
   have hT6 := (hTi.keep hb3).beh (joinB (lnB l) Bh) hCW (by omega) (fun k hk => (HH.out.1.nS k hk).1) hBW
   have hz0 := (hb3.block C (Array.getElem?_eq_some_iff.1 hTi.bh).1).trans hTi.bh
   obtain ⟨jv, hjv⟩ : ∃ jv, bsV (joinB (lnB l) Bh) = jv := ⟨_, rfl⟩
   have hjl : jv.length = 36 := by rw [← hjv]; exact bsV_len _
   have hj1 : jv.toArray.all (·.oneCell') = true := by rw [← hjv]; exact bsV_one _
   rw [hjv] at hT6 ⊢
   simp only [Act.put, List.setIfInBounds_toArray, List.set_cons_zero, List.set_cons_succ]
   refine wpList_store_mid rfl 161 _ _ rfl C 0 jv.toArray rfl rfl (by rw [List.size_toArray, hjl]; exact there_block hz0 36 (bsV_len _)) (by rw [info_part, List.size_toArray, hjl]) hj1 ?_
   have hm6 := hmk.keep hb3
   have hD6 := (hb3.block D (Array.getElem?_eq_some_iff.1 hK).1).trans hK
   have HRD := hideT (show n ≤ a.links.length ∧ TiI W (w3.setCells C 0 jv) B b S g ag a (.slice (some ⟨gl, 0, none⟩) a.links.length cl) vt vn cs W.heap.size C (tiS ag a n).1 (tiS ag a n).2 ∧ Marks W (w3.setCells C 0 jv) (D :: Ds) by
    refine ⟨by omega, ?_, fun D' hD' => ?_, List.pairwise_cons.2 ⟨fun D' hD' e => ?_, hmk.2⟩⟩
    · rw [HTOT.out.2.2.2]
      show TiI W _ B b S g ag a _ vt vn cs W.heap.size C ((mem 256 (bat (lnB l) 0).la).foldl (fun z i => orAt z i (bat (tiS ag a (n + 1)).2 0).fi) (tiS ag a (n + 1)).1) (joinB (lnB l) (tiS ag a (n + 1)).2)
      rw [HTOT.out.2.1, HTOT.out.2.2.1, HTOT.out.1]
      exact hT6
    · rcases List.mem_cons.1 hD' with rfl | hD'
      · exact ⟨by have := HL3.out.1.bx; omega, (setCells_far _ _ (fun e => hDC e.symm) _ _).trans hD6⟩
      · exact ⟨(hm6.1 D' hD').1, (setCells_far _ _ (fun e => by have := (hm6.1 D' hD').2; rw [e, hz0] at this; cases this) _ _).trans (hm6.1 D' hD').2⟩
    · have := HL3.out.2.2.1 D' hD'; omega)
   clear hT6 hm6 hD6 hz0 hjv hjl hj1 hTi hov hmk hsz hovl hOV HJ
   refine wpList_nil (hK6 _ _ ?_)
   simp only [Act.put]
   show Code.wp _ _ _ _ (w3.setCells C 0 jv)
   generalize w3.setCells C 0 jv = Z at *
   have i6 : IntKind.i64.wrap ((n : Int) - 1) = (n : Int) - 1 := by rw [IntKind.wrap_i64]; omega
   go_wp2
   refine Handed.intro n (by omega) (hJ _ _ _ ?_)
   exact ⟨fun i => List.getD (.pointer (some ⟨C2, 0, none⟩) :: u 1 :: u 2 :: u 3 :: u 4 :: u 5 :: u 6 :: u 7 :: u 8 :: u 9 :: u 10 :: u 11 :: u 12 :: u 13 :: u 14 :: u 15 :: u 16 :: u 17 :: u 18 :: u 19 :: u 20 :: u 21 :: u 22 :: u 23 :: u 24 :: u 25 :: u 26 :: u 27 :: .int .i64 (n : Nat) :: .bool true :: .int .i64 (n : Nat) :: .int .i64 ((n : Int) - 1) :: .pointer (some ⟨b, 0, none⟩) :: .pointer (some ⟨b, 0, none⟩) :: .pointer (some ⟨b, 2, none⟩) :: .slice (some ⟨gl, 0, none⟩) a.links.length cl :: .int .i64 (n : Nat) :: .pointer (some ⟨gl, n * 3, none⟩) :: .agg #[.pointer (some ⟨c, 0, none⟩), .int .i64 (l.2.1 : Nat), .bool l.2.2] :: .agg ov.toArray :: .pointer (some ⟨C2, 0, none⟩) :: .pointer (some ⟨C2, 5, none⟩) :: .agg #[.int .u64 (wd (Nat.testBit ((bat (lnB l) 0).la)) 0 : Nat), .int .u64 (wd (Nat.testBit ((bat (lnB l) 0).la)) 1 : Nat), .int .u64 (wd (Nat.testBit ((bat (lnB l) 0).la)) 2 : Nat), .int .u64 (wd (Nat.testBit ((bat (lnB l) 0).la)) 3 : Nat)] :: .func (.func 121) #[] #[.pointer (some ⟨Y2.heap.size, 0, none⟩)] :: u 44 :: u 45 :: u 46 :: u 47 :: u 48 :: u 49 :: u 50 :: u 51 :: u 52 :: u 53 :: u 54 :: u 55 :: u 56 :: u 57 :: u 58 :: u 59 :: u 60 :: u 61 :: .agg ov.toArray :: .agg (bsV Bh).toArray :: .agg jv.toArray :: u 65 :: u 66 :: u 67 :: u 68 :: u 69 :: u 70 :: u 71 :: u 72 :: u 73 :: u 74 :: u 75 :: u 76 :: u 77 :: u 78 :: u 79 :: u 80 :: u 81 :: u 82 :: u 83 :: u 84 :: u 85 :: u 86 :: u 87 :: u 88 :: u 89 :: u 90 :: u 91 :: u 92 :: u 93 :: []) i undef, D :: Ds, rfl, HRD⟩
  case stop => rintro D l W hD h; exact h.elim
end Go.Proofs.YtbekghinikjjeaaGreatDoor.smt
