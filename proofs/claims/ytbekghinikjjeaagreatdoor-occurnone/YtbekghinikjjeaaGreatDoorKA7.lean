/- KA7 -/
import Derived.Test.YtbekghinikjjeaaGreatDoorKAa
import Derived.Test.YtbekghinikjjeaaGreatDoorKSu
import Derived.Test.YtbekghinikjjeaaGreatDoorKSw
import Derived.Deep.CutBlock
set_option maxRecDepth 100000
set_option maxHeartbeats 4000000
namespace Go.Proofs.YtbekghinikjjeaaGreatDoor.smt
open Go.RowKit Go.Proofs.YtbekghinikjjeaaGreatDoor.br
structure F2 (sb gs : Nat) (W W' : World) : Prop where
 os : W'.os = W.os
 tape : W'.tape = W.tape
 output : W'.output = W.output
 size : W.heap.size ≤ W'.heap.size
 same : ∀ k, k < W.heap.size → k ≠ sb → k ≠ gs → W'.heap[k]? = W.heap[k]?
theorem F2.refl (sb gs : Nat) (W : World) : F2 sb gs W W := ⟨rfl, rfl, rfl, Nat.le_refl _, fun _ _ _ _ => rfl⟩
theorem F2.trans {sb gs : Nat} {X Y Z : World} (h : F2 sb gs X Y) (k : F2 sb gs Y Z) : F2 sb gs X Z := ⟨k.os.trans h.os, k.tape.trans h.tape, k.output.trans h.output, Nat.le_trans h.size k.size, fun i h1 h2 h3 => (k.same i (Nat.lt_of_lt_of_le h1 h.size) h2 h3).trans (h.same i h1 h2 h3)⟩
theorem F2.of {sb gs : Nat} {X Y : World} (h : Below X.heap.size X Y) : F2 sb gs X Y := ⟨h.os, h.tape, h.output, h.size, fun k hk _ _ => h.block k hk⟩
theorem F2.ofS {sb gs : Nat} {X Y : World} (h : Fs sb X Y) : F2 sb gs X Y := ⟨h.os, h.tape, h.output, h.size, fun k hk h2 _ => h.same k hk h2⟩
structure StA (sb gs ng cp : Nat) (s : ByteArray) (tv : Value) (W : World) (x : Sp) : Prop where
 sr : SrAt W sb s x.2 tv (.slice (some ⟨gs, 0, none⟩) ng cp)
 row : W.ownsRow 0 30 2 (.slice (some ⟨gs, 0, none⟩) ng cp) ng (spV x.1)
 ne : gs ≠ sb
theorem StA.len {sb gs ng cp : Nat} {s : ByteArray} {tv : Value} {W : World} {x : Sp} (h : StA sb gs ng cp s tv W x) : x.1.length = ng := by
 have := h.row.1; rw [spV_len] at this; omega
theorem StA.below {sb gs ng cp : Nat} {s : ByteArray} {tv : Value} {W W' : World} {x : Sp} (h : StA sb gs ng cp s tv W x) (hb : Below W.heap.size W W') : StA sb gs ng cp s tv W' x :=
 ⟨(hb.block sb h.sr.lt).trans h.sr, owns_keep h.row fun k hk => hb.block k (owns_blk h.row hk).2.1, h.ne⟩
inductive GrP (ng : Nat) : Pt → Prop where
 | mk (p : Pt) (g : p.grp < ng) (d : p.deep = true → p.links ≠ []) (kid : ∀ l ∈ p.links, GrP ng l.1) : GrP ng p
theorem GrP.g {ng : Nat} {p : Pt} : GrP ng p → p.grp < ng | .mk _ h _ _ => h
theorem GrP.d {ng : Nat} {p : Pt} : GrP ng p → (p.deep = true → p.links ≠ []) | .mk _ _ h _ => h
theorem GrP.kid {ng : Nat} {p : Pt} : GrP ng p → ∀ l ∈ p.links, GrP ng l.1 | .mk _ _ _ h => h
theorem long_in (q : Pt) (base : Nat) (us : List Nat) (fr te : Nat) : ∀ (f wt a : Nat), a ≤ te → a ≤ longF q base us fr te f wt a ∧ longF q base us fr te f wt a ≤ te
 | 0, wt, a, h => ⟨Nat.le_refl _, h⟩
 | f + 1, wt, a, h => by
  rw [longF]
  cases h1 : Nat.ble te a with
  | true => exact ⟨Nat.le_refl _, h⟩
  | false =>
   rw [cond_false]
   dsimp only
   generalize wt &&& (us.getD (a - fr) 0 >>> base) = tk
   cases Nat.beq tk 0 with
   | true => exact ⟨Nat.le_refl _, h⟩
   | false =>
    have ha : a < te := by
     have : ¬ te ≤ a := fun h2 => by rw [← Nat.ble_eq, h1] at h2; cases h2
     omega
    have := long_in q base us fr te f (onward q tk) (a + 1) ha
    rw [cond_false]
    exact ⟨by omega, this.2⟩
def shareP (s : List Nat) (f : Nat) (p : Pt) (fr te : Nat) (x : Sp) : Option (Nat × Sp) :=
 bif Nat.beq fr te then some (0, x) else
 bif aloneP p then (match p.links with | l :: _ => (settle s f l.1 fr te x).map fun y => (1, y) | [] => none) else
 shareW (settle s f) p s (traceF p s fr (te - fr) (bat p.bds (kindAt s.length te)).la ([], x.2)).1 fr te (te - fr + p.links.length) 0 fr (x.1, (traceF p s fr (te - fr) (bat p.bds (kindAt s.length te)).la ([], x.2)).2)
theorem settle_eq (s : List Nat) (f : Nat) (p : Pt) (fr te : Nat) (x : Sp) : settle s (f + 1) p fr te x = bif !p.deep then some x else
 match shareP s f p fr te (bif Nat.beq p.grp 0 then x else (x.1.set p.grp ((fr : Int), (te : Int)), x.2)) with
 | some (c, y) => restW (settle s f) te (p.links.drop c) y
 | none => none := rfl
def SetOk (S : Nat → Prop) (sb gs ng cp : Nat) (s : ByteArray) (tv : Value) (f : Nat) : Prop :=
 ∀ (W : World) (p : Pt) (b fr te : Nat) (x y : Sp), settle (bl s) f p fr te x = some y → OkP p → GrP ng p → PtAt W S b p → (∀ g, S g → g < W.heap.size ∧ g ≠ sb ∧ g ≠ gs) → Tab W → 0 ≠ gs → fr ≤ te → te ≤ s.size → s.size ≤ 100000 → StA sb gs ng cp s tv W x →
  Calls Tryz.prog 48 #[.pointer (some ⟨sb, 0, none⟩), .pointer (some ⟨b, 0, none⟩), .agg #[.int .i64 (fr : Nat), .int .i64 (te : Nat)]] W fun e w' => (∃ v, e = .returned v) ∧ StA sb gs ng cp s tv w' y ∧ F2 sb gs W w'
end Go.Proofs.YtbekghinikjjeaaGreatDoor.smt
namespace Go.Proofs.YtbekghinikjjeaaGreatDoor.smt
open Go.RowKit Go.Proofs.YtbekghinikjjeaaGreatDoor.br
theorem trace_bits (p : Pt) (s : List Nat) (fr : Nat) : ∀ (n wt : Nat) (us : List Nat) (h : Nat), (∀ u ∈ us, u < 2 ^ 256) → ∀ u ∈ (traceF p s fr n wt (us, h)).1, u < 2 ^ 256
 | 0, _, _, _, hu => hu
 | n + 1, wt, us, h, hu => by
  rw [traceF]
  exact trace_bits p s fr n _ _ _ fun u hm => by
   rcases List.mem_cons.1 hm with rfl | hm
   · exact takers_lt _ _ _ _
   · exact hu u hm
theorem share_any {S : Nat → Prop} {sb gs ng cp f : Nat} {s : ByteArray} {tv : Value} (IH : SetOk S sb gs ng cp s tv f) (W : World) (p : Pt) (b fr te c : Nat) (x y : Sp) (hr : shareP (bl s) f p fr te x = some (c, y)) (hok : OkP p) (hgr : GrP ng p) (hd : p.links ≠ []) (hp : PtAt W S b p) (hSw : ∀ g, S g → g < W.heap.size ∧ g ≠ sb ∧ g ≠ gs) (hT : Tab W) (h0 : 0 ≠ gs) (hfr : fr ≤ te) (hte : te ≤ s.size) (hsz : s.size ≤ 100000) (hst : StA sb gs ng cp s tv W x) :
  Calls Tryz.prog 72 #[.pointer (some ⟨sb, 0, none⟩), .pointer (some ⟨b, 0, none⟩), .agg #[.int .i64 (fr : Nat), .int .i64 (te : Nat)]] W fun e w' => e = .returned (.int .i64 (c : Nat)) ∧ StA sb gs ng cp s tv w' y ∧ F2 sb gs W w' := by
 have hslt := hst.sr.lt
 obtain ⟨X, hX⟩ : ∃ X, X = W.alloc (.cells #[.int .i64 (fr : Nat), .int .i64 (te : Nat)] 30) := ⟨_, rfl⟩
 have hBX : Below W.heap.size W X := by rw [hX]; exact (Below.refl _ W).alloc (Nat.le_refl _) _
 have x0 : X.heap[W.heap.size]? = some (.cells #[.int .i64 (fr : Nat), .int .i64 (te : Nat)] 30) := by rw [hX]; exact World.alloc_heap_new W _
 have c0 : X.cell? ⟨W.heap.size, 0, none⟩ = some (.int .i64 (fr : Nat)) := by simp [World.cell?, x0]
 have c1 : X.cell? ⟨W.heap.size, 1, none⟩ = some (.int .i64 (te : Nat)) := by simp [World.cell?, x0]
 have HX := hideT (And.intro hX (And.intro hBX x0))
 clear hX hBX x0
 unfold shareP at hr
 by_cases he : fr = te
 · subst he
   rw [show Nat.beq fr fr = true from Nat.beq_refl fr, cond_true] at hr
   cases hr
   have e1 : ((fr : Int) == (fr : Int)) = true := by simp
   have HQ := hideT (And.intro (hst.below HX.out.2.1) (F2.of (sb := sb) (gs := gs) HX.out.2.1))
   clear hst hp hSw hT
   go_enter Tryz.func72, Tryz.ntmps72
   go_upto_region 1 with fail
   rw [← HX.out.1]
   go_wp2
   go_ret
   exact ⟨rfl, HQ.out.1, HQ.out.2⟩
 · have hbq : Nat.beq fr te = false := by rw [← Bool.not_eq_true]; exact fun h => he (Nat.eq_of_beq_eq_true h)
   rw [hbq, cond_false] at hr
   have e1 : ((fr : Int) == (te : Int)) = false := by rw [beq_eq_false_iff_ne]; omega
   have hpX : PtAt X S b p := hp.keep (fun g hg => HX.out.2.1.block g (hSw g hg).1) (fun _ h => h)
   have hstX := hst.below HX.out.2.1
   have hTX := hT.below HX.out.2.1 hT.pos
   have hXs := HX.out.2.1.size
   have hSwX : ∀ g, S g → g < X.heap.size ∧ g ≠ sb ∧ g ≠ gs := fun g hg => ⟨Nat.lt_of_lt_of_le (hSw g hg).1 hXs, (hSw g hg).2⟩
   have hal := alone_any X hpX
   cases ha : aloneP p with
   | true =>
    rw [ha, cond_true] at hr
    obtain ⟨l, ls, hls⟩ : ∃ l ls, p.links = l :: ls := List.exists_cons_of_ne_nil hd
    rw [hls] at hr
    obtain ⟨y', hy1, hy2⟩ := Option.map_eq_some_iff.1 hr
    cases hy2
    have hpX0 := hpX
    obtain ⟨b, p, vl, vt, vn, cs, hSb, blk, hcl, ol, -, -, sl, -, -, kids⟩ := hpX0
    have hl0 : p.links[0]? = some l := by rw [hls]; rfl
    obtain ⟨c0', hc0⟩ : ∃ c, cs[0]? = some c := ⟨cs[0]'(by rw [hcl, hls]; simp), List.getElem?_eq_getElem _⟩
    obtain ⟨gl, capl, rfl, hgl, k0, -, -⟩ := row_links ol hl0 hc0
    rw [Nat.zero_mul] at k0
    have kb := (pt_c5 blk).2.2.1
    have i2 : 0 < p.links.length := by rw [hls]; simp
    have i1 : (0 : Int) < (p.links.length : Int) := by omega
    have hlm : l ∈ p.links := List.mem_of_getElem? hl0
    have hca := IH X.drew l.1 c0' fr te x y hy1 (hok.kid l hlm) (hgr.kid l hlm) ((kids 0 l c0' hl0 hc0).keep (W' := X.drew) (fun _ _ => rfl) (fun _ h => h)) hSwX hTX h0 hfr hte hsz ⟨hstX.sr, hstX.row, hstX.ne⟩
    have hSb2 := hSwX b hSb
    have hSg2 := hSwX gl (sl gl rfl)
    have hNl : W.heap.size < X.heap.size := (Array.getElem?_eq_some_iff.1 HX.out.2.2).1
    have hNn : W.heap.size ≠ sb ∧ W.heap.size ≠ gs := ⟨by omega, by have := (owns_blk hst.row (g := gs) rfl).2.1; omega⟩
    have hS4 : (fun V : World => V.cell? ⟨b, 2, none⟩ = some (.slice (some ⟨gl, 0, none⟩) p.links.length capl) ∧ V.cell? ⟨gl, 0, none⟩ = some (.pointer (some ⟨c0', 0, none⟩)) ∧ V.cell? ⟨W.heap.size, 0, none⟩ = some (.int .i64 (fr : Nat)) ∧ V.cell? ⟨W.heap.size, 1, none⟩ = some (.int .i64 (te : Nat))) X.drew := ⟨kb, k0, c0, c1⟩
    have hal2 := hal
    rw [ha] at hal2
    generalize p.links.length = nl at *
    clear hr hy1 hls hl0 hc0 ol kids blk hcl sl hp hpX hst hstX hT hTX hSw hSwX IH hal kb k0
    go_enter Tryz.func72, Tryz.ntmps72
    go_upto_region 1 with fail
    rw [← HX.out.1]
    go_wp2_with fail
    refine hal2.mono ?_
    rintro e w1 ⟨rfl, rfl⟩
    go_upto_region 4 with fail
    rename_i K4 hK4
    refine wp_region_held (S := fun V : World => V.cell? ⟨b, 2, none⟩ = some (.slice (some ⟨gl, 0, none⟩) nl capl) ∧ V.cell? ⟨gl, 0, none⟩ = some (.pointer (some ⟨c0', 0, none⟩)) ∧ V.cell? ⟨W.heap.size, 0, none⟩ = some (.int .i64 (fr : Nat)) ∧ V.cell? ⟨W.heap.size, 1, none⟩ = some (.int .i64 (te : Nat))) (by kernel_rfl) ?_
    refine tq 0 19 hS4 ?_
    refine tq 1 20 hS4 ?_
    refine tq 2 21 hS4 ?_
    refine tq 3 22 hS4 ?_
    refine tq 4 23 hS4 ?_
    refine tq 5 24 hS4 ?_
    refine tq 6 25 hS4 ?_
    refine tq 7 26 hS4 ?_
    refine tq 8 27 hS4 ?_
    simp only [Act.put, List.setIfInBounds_toArray, List.set_cons_zero, List.set_cons_succ]
    refine wpAnyH_all (rs := [9]) (by kernel_rfl) (by simp) (fun i hi => ?_)
    obtain rfl : i = 9 := List.mem_singleton.1 hi
    refine op_call (R := fun v w2 => StA sb gs ng cp s tv w2 y ∧ F2 sb gs w1 w2) (f := 48) (some 28) rfl rfl (by rfl) (by go_simp; (try with_reducible rfl)) (hca.mono ?_) ?_
    · rintro e w2 ⟨⟨v, rfl⟩, h1, h2⟩
      exact ⟨v, rfl, h1, ⟨h2.os, h2.tape, h2.output, h2.size, h2.same⟩⟩
    rintro v w2 ⟨hs2, hf2⟩
    obtain ⟨s0, s1, s2, s3⟩ := hS4
    have kp : ∀ (a : Addr) (u : Value), w1.cell? a = some u → a.block ≠ sb → a.block ≠ gs → w2.cell? a = some u := fun a u h a1 a2 => (World.cell?_of_block (hf2.same a.block (World.block_lt_of_cell? w1 a h) a1 a2)).trans h
    refine ⟨⟨kp _ _ s0 hSb2.2.1 hSb2.2.2, kp _ _ s1 hSg2.2.1 hSg2.2.2, kp _ _ s2 hNn.1 hNn.2, kp _ _ s3 hNn.1 hNn.2⟩, ?_⟩
    refine wpAnyH_done (by kernel_rfl) (hK4 _ _ ?_) _
    simp only [Act.put, List.setIfInBounds_toArray, List.set_cons_zero, List.set_cons_succ]
    have HQ := hideT (And.intro hs2 ((F2.of (sb := sb) (gs := gs) HX.out.2.1).trans hf2))
    clear s0 s1 s2 s3 kp hs2 hf2 hK4
    go_wp2
    go_ret
    exact ⟨rfl, HQ.out.1, HQ.out.2⟩
   | false =>
    rw [ha, cond_false] at hr
    obtain ⟨us, hh, hut⟩ : ∃ us hh, traceF p (bl s) fr (te - fr) (bat p.bds (kindAt (bl s).length te)).la ([], x.2) = (us, hh) := ⟨_, _, rfl⟩
    rw [hut] at hr
    rw [bl_len] at hut
    dsimp only at hr
    have hub : ∀ u ∈ us, u < 2 ^ 256 := by
     have h := trace_bits p (bl s) fr (te - fr) (bat p.bds (kindAt s.size te)).la [] x.2 (fun _ h => nomatch h)
     rw [hut] at h; exact h
    have hsltX := hstX.sr.lt
    have hgsl := (owns_blk hstX.row (g := gs) rfl).2.1
    have hNl : W.heap.size < X.heap.size := (Array.getElem?_eq_some_iff.1 HX.out.2.2).1
    have hNn : W.heap.size ≠ sb ∧ W.heap.size ≠ gs := ⟨by omega, by have := (owns_blk hst.row (g := gs) rfl).2.1; omega⟩
    have hSof : ∀ V : World, Fs sb X V → (fun V : World => Fs sb X V ∧ V.cell? ⟨W.heap.size, 0, none⟩ = some (.int .i64 (fr : Nat)) ∧ V.cell? ⟨W.heap.size, 1, none⟩ = some (.int .i64 (te : Nat))) V := fun V hV => ⟨hV, (World.cell?_of_block (a := ⟨W.heap.size, 0, none⟩) (hV.same _ hNl hNn.1)).trans c0, (World.cell?_of_block (a := ⟨W.heap.size, 1, none⟩) (hV.same _ hNl hNn.1)).trans c1⟩
    have HTR := hideT (fun (V : World) (hV : Fs sb X V) (hV2 : V.heap[sb]? = X.heap[sb]?) => trace_any (fr := fr) (te := te) V (show SrAt V sb s x.2 tv _ from hV2.trans hstX.sr) (hpX.keep (fun g hg => hV.same g (hSwX g hg).1 (hSwX g hg).2.1) (fun _ h => h)) (fun g hg => ⟨Nat.lt_of_lt_of_le (hSwX g hg).1 hV.size, (hSwX g hg).2.1⟩) hok (hTX.keep (hV.same 0 hTX.pos (fun e => (hTX.ne hstX.sr) e.symm))) hfr hte hsz)
    rw [hut] at HTR
    have hal2 := hal
    rw [ha] at hal2
    have HQ := hideT (And.intro hr (And.intro hpX (And.intro hstX (And.intro hTX (And.intro hSwX hst)))))
    clear hr hpX hstX hTX hSwX hst hp hSw hT hal hut
    go_enter Tryz.func72, Tryz.ntmps72
    go_upto_region 1 with fail
    rw [← HX.out.1]
    go_wp2_with fail
    refine hal2.mono ?_
    rintro e w1 ⟨rfl, hw1⟩
    rw [hw1]
    clear hw1
    go_upto_region 6 with fail
    rename_i K6 hK6
    go_cut [7] from 29 to 34 (fun s7 w' => ∃ n7 g, s7 = .pointer (some ⟨n7, 0, none⟩) ∧ Hid (X.heap.size ≤ n7 ∧ w'.heap[n7]? = some (.cells [.int .i64 (fr : Nat), .int .i64 (te : Nat), .slice (some ⟨g, 0, none⟩) (te - fr) (te - fr)].toArray 228 (0, 0)) ∧ w'.ownsRow X.heap.size 157 4 (.slice (some ⟨g, 0, none⟩) (te - fr) (te - fr)) (te - fr) (nxV us) ∧ SrAt w' sb s hh tv (.slice (some ⟨gs, 0, none⟩) ng cp) ∧ Fs sb X w'))
    case first =>
     rename_i J hJ
     have hS0 := hSof X.drew (Fs.refl sb X).drew
     refine wp_region_held (S := fun V : World => Fs sb X V ∧ V.cell? ⟨W.heap.size, 0, none⟩ = some (.int .i64 (fr : Nat)) ∧ V.cell? ⟨W.heap.size, 1, none⟩ = some (.int .i64 (te : Nat))) (by kernel_rfl) ?_
     refine tq 0 29 hS0 ?_
     refine tq 1 30 hS0 ?_
     refine tq 2 31 hS0 ?_
     refine tq 3 32 hS0 ?_
     refine tq 4 33 hS0 ?_
     simp only [Act.put, List.setIfInBounds_toArray, List.set_cons_zero, List.set_cons_succ]
     refine wpAnyH_all (rs := [5, 6]) (by kernel_rfl) (by simp) (fun i hi => ?_)
     have hc2 : i = 5 ∨ i = 6 := by simpa using hi
     rcases hc2 with rfl | rfl
     · refine op_call (R := fun v w2 => ∃ g, v = .agg #[.int .i64 (fr : Nat), .int .i64 (te : Nat), .slice (some ⟨g, 0, none⟩) (te - fr) (te - fr)] ∧ w2.ownsRow X.heap.size 157 4 (.slice (some ⟨g, 0, none⟩) (te - fr) (te - fr)) (te - fr) (nxV us) ∧ SrAt w2 sb s hh tv (.slice (some ⟨gs, 0, none⟩) ng cp) ∧ Fs sb X w2) (f := 98) (some 34) rfl rfl (by rfl) (by go_simp; (try with_reducible rfl)) ((HTR.out X.drew (Fs.refl sb X).drew rfl).mono ?_) ?_
       · rintro e w2 ⟨g, rfl, h1, h2, h3⟩
         exact ⟨_, rfl, g, rfl, h1, h2, (Fs.refl sb X).drew.trans h3⟩
       rintro v w2 ⟨g, rfl, r1, r2, r3⟩
       refine ⟨hSof _ r3, ?_⟩
       simp only [Act.put, List.setIfInBounds_toArray, List.set_cons_zero, List.set_cons_succ]
       refine wpAnyH_all (rs := [6]) (by kernel_rfl) (by simp) (fun i hi => ?_)
       obtain rfl : i = 6 := List.mem_singleton.1 hi
       obtain ⟨U, hU⟩ : ∃ U, U = w2.alloc (.cells #[.int .i64 0, .int .i64 0, .slice none 0 0] 228) := ⟨_, rfl⟩
       obtain ⟨n, hn⟩ : ∃ n, n = w2.heap.size := ⟨_, rfl⟩
       have bU : Below w2.heap.size w2 U := by rw [hU]; exact (Below.refl _ _).alloc (Nat.le_refl _) _
       have zU : U.heap[n]? = some (.cells [.int .i64 0, .int .i64 0, .slice none 0 0].toArray 228 (0, 0)) := by rw [hU, hn]; exact World.alloc_heap_new _ _
       have lU : X.heap.size ≤ n := by rw [hn]; exact r3.size
       have FU := r3.trans (Fs.of (sb := sb) bU)
       have SU : SrAt U sb s hh tv (.slice (some ⟨gs, 0, none⟩) ng cp) := (bU.block sb r2.lt).trans r2
       have RU := owns_keep r1 (W' := U) fun k hk => bU.block k (owns_blk r1 hk).2.1
       have gn : g ≠ n := by have := (owns_blk r1 (g := g) rfl).2.1; omega
       refine op_value (some 7) rfl rfl (by rfl) (v := .pointer (some ⟨n, 0, none⟩)) (w' := U) (by rw [hU, hn]; clear zU; go_simp; (try with_reducible rfl)) ⟨hSof _ FU, ?_⟩
       clear hU hn bU
       simp only [Act.put, List.setIfInBounds_toArray, List.set_cons_zero, List.set_cons_succ]
       refine wpAnyH_all (rs := [7]) (by kernel_rfl) (by simp) (fun i hi => ?_)
       obtain rfl : i = 7 := List.mem_singleton.1 hi
       have gl2 : g < U.heap.size := (owns_blk RU (g := g) rfl).2.1
       have zc := setCells_whole [.int .i64 (fr : Nat), .int .i64 (te : Nat), .slice (some ⟨g, 0, none⟩) (te - fr) (te - fr)] zU rfl
       have fz : ∀ k, k ≠ n → (U.setCells n 0 [.int .i64 (fr : Nat), .int .i64 (te : Nat), .slice (some ⟨g, 0, none⟩) (te - fr) (te - fr)]).heap[k]? = U.heap[k]? := fun k hk => setCells_far _ _ hk _ _
       have zF : Fs sb X (U.setCells n 0 [.int .i64 (fr : Nat), .int .i64 (te : Nat), .slice (some ⟨g, 0, none⟩) (te - fr) (te - fr)]) := ⟨FU.os, FU.tape, FU.output, by rw [setCells_size]; exact FU.size, fun k a1 a2 => (fz k (by omega)).trans (FU.same k a1 a2)⟩
       refine op_store 228 7 34 n [.int .i64 (fr : Nat), .int .i64 (te : Nat), .slice (some ⟨g, 0, none⟩) (te - fr) (te - fr)] rfl rfl rfl rfl rfl rfl (there_block zU _ rfl) info_tr (by simp [Value.oneCell']) ⟨hSof _ zF, ?_⟩
       refine wpAnyH_done (by kernel_rfl) (hJ _ _ ?_) _
       simp only [Act.put]
       go_meet
       exact ⟨n, g, rfl, hideT ⟨lU, zc, owns_keep RU fun k hk => fz k (by obtain rfl : g = k := Option.some.inj hk; omega), (fz sb (by omega)).trans SU, zF⟩⟩
     · obtain ⟨U, hU⟩ : ∃ U, U = X.drew.alloc (.cells #[.int .i64 0, .int .i64 0, .slice none 0 0] 228) := ⟨_, rfl⟩
       obtain ⟨n, hn⟩ : ∃ n, n = X.drew.heap.size := ⟨_, rfl⟩
       have bU : Below X.heap.size X U := by rw [hU]; exact (Below.refl _ _).drew.alloc (Nat.le_refl _) _
       have zU : U.heap[n]? = some (.cells [.int .i64 0, .int .i64 0, .slice none 0 0].toArray 228 (0, 0)) := by rw [hU, hn]; exact World.alloc_heap_new _ _
       have lU : X.heap.size ≤ n := by rw [hn]; exact Nat.le_refl _
       have nU := (Array.getElem?_eq_some_iff.1 zU).1
       have FU := Fs.of (sb := sb) bU
       refine op_value (some 7) rfl rfl (by rfl) (v := .pointer (some ⟨n, 0, none⟩)) (w' := U) (by rw [hU, hn]; clear zU; go_simp; (try with_reducible rfl)) ⟨hSof _ FU, ?_⟩
       have hn2 : n = X.heap.size := hn
       clear hU hn
       simp only [Act.put, List.setIfInBounds_toArray, List.set_cons_zero, List.set_cons_succ]
       refine wpAnyH_all (rs := [5]) (by kernel_rfl) (by simp) (fun i hi => ?_)
       obtain rfl : i = 5 := List.mem_singleton.1 hi
       have HN2 := hideT hn2
       clear hn2
       refine op_call (R := fun v w2 => ∃ g, v = .agg #[.int .i64 (fr : Nat), .int .i64 (te : Nat), .slice (some ⟨g, 0, none⟩) (te - fr) (te - fr)] ∧ w2.ownsRow U.heap.size 157 4 (.slice (some ⟨g, 0, none⟩) (te - fr) (te - fr)) (te - fr) (nxV us) ∧ SrAt w2 sb s hh tv (.slice (some ⟨gs, 0, none⟩) ng cp) ∧ Fs sb U w2) (f := 98) (some 34) rfl rfl (by rfl) (by go_simp; (try with_reducible rfl)) ((HTR.out U FU (bU.block sb hsltX)).mono ?_) ?_
       · rintro e w2 ⟨g, rfl, h1, h2, h3⟩
         exact ⟨_, rfl, g, rfl, h1, h2, h3⟩
       rintro v w2 ⟨g, rfl, r1, r2, r3⟩
       have F2' := FU.trans r3
       have z2 := (r3.same n nU (by omega)).trans zU
       have gn : g ≠ n := by have := (owns_blk r1 (g := g) rfl).1; omega
       have r1' := owns_mono r1 bU.size
       refine ⟨hSof _ F2', ?_⟩
       simp only [Act.put, List.setIfInBounds_toArray, List.set_cons_zero, List.set_cons_succ]
       refine wpAnyH_all (rs := [7]) (by kernel_rfl) (by simp) (fun i hi => ?_)
       obtain rfl : i = 7 := List.mem_singleton.1 hi
       have gl2 : g < w2.heap.size := (owns_blk r1' (g := g) rfl).2.1
       have zc := setCells_whole [.int .i64 (fr : Nat), .int .i64 (te : Nat), .slice (some ⟨g, 0, none⟩) (te - fr) (te - fr)] z2 rfl
       have fz : ∀ k, k ≠ n → (w2.setCells n 0 [.int .i64 (fr : Nat), .int .i64 (te : Nat), .slice (some ⟨g, 0, none⟩) (te - fr) (te - fr)]).heap[k]? = w2.heap[k]? := fun k hk => setCells_far _ _ hk _ _
       have zF : Fs sb X (w2.setCells n 0 [.int .i64 (fr : Nat), .int .i64 (te : Nat), .slice (some ⟨g, 0, none⟩) (te - fr) (te - fr)]) := ⟨F2'.os, F2'.tape, F2'.output, by rw [setCells_size]; exact F2'.size, fun k a1 a2 => (fz k (by omega)).trans (F2'.same k a1 a2)⟩
       refine op_store 228 7 34 n [.int .i64 (fr : Nat), .int .i64 (te : Nat), .slice (some ⟨g, 0, none⟩) (te - fr) (te - fr)] rfl rfl rfl rfl rfl rfl (there_block z2 _ rfl) info_tr (by simp [Value.oneCell']) ⟨hSof _ zF, ?_⟩
       refine wpAnyH_done (by kernel_rfl) (hJ _ _ ?_) _
       simp only [Act.put]
       go_meet
       exact ⟨n, g, rfl, hideT ⟨lU, zc, owns_keep r1' fun k hk => fz k (by obtain rfl : g = k := Option.some.inj hk; omega), (fz sb (by omega)).trans r2, zF⟩⟩
    case rest =>
    obtain ⟨n7, g, rfl, HC⟩ := hcut
    refine hK6 _ _ ?_
    obtain ⟨hn7, h7, ro, sr, hF⟩ := HC.out
    have hul : us.length = te - fr := by have h := ro.1; rw [nxV_len] at h; omega
    have hFx := hF.size
    obtain ⟨hr, hpX, hstX, hTX, hSwX, hst⟩ := HQ.out
    have hgl7 := (owns_blk ro (g := g) rfl)
    have st0 : StA sb gs ng cp s tv wc (x.1, hh) := ⟨sr, owns_keep hstX.row fun k hk => hF.same k (owns_blk hstX.row hk).2.1 (by obtain rfl : gs = k := Option.some.inj hk; exact hstX.ne), hstX.ne⟩
    have hNc := (hF.same W.heap.size hNl hNn.1).trans HX.out.2.2
    have HL := hideT (And.intro hr (And.intro st0 (And.intro h7 (And.intro hNc (And.intro ro (F2.ofS (gs := gs) hF))))))
    have hst0 := hideT hstX.sr
    have HE := hideT (And.intro hpX (And.intro hTX (And.intro hSwX hul)))
    have c0w : wc.cell? ⟨W.heap.size, 0, none⟩ = some (.int .i64 (fr : Nat)) := by simp [World.cell?, hNc]
    have hne7 : n7 ≠ sb ∧ n7 ≠ gs ∧ W.heap.size < n7 := by omega
    have hneg : g ≠ sb ∧ g ≠ gs := by have := hgl7.1; omega
    have hcl : p.links.length ≤ 1000000 := hok.ll
    have hn0 : 0 < p.links.length := List.length_pos_iff.2 hd
    clear hr hpX hstX hTX hSwX hst st0 h7 hNc ro sr hF HC HQ hSof HTR hal2 c0 c1 hul hgl7 hK6
    go_wp2_with fail
    go_loopg [8, 9] (te - fr + p.links.length) (fun fu v8 v9 wr => ∃ (c1 a1 : Nat) (x1 : Sp), v8 = .int .i64 (c1 : Nat) ∧ v9 = .int .i64 (a1 : Nat) ∧ (fr ≤ a1 ∧ a1 ≤ te) ∧ c1 + fu = te - fr + p.links.length ∧ Hid (shareW (settle (bl s) f) p (bl s) us fr te fu c1 a1 x1 = some (c, y) ∧ StA sb gs ng cp s tv wr x1 ∧ wr.heap[n7]? = some (.cells [.int .i64 (fr : Nat), .int .i64 (te : Nat), .slice (some ⟨g, 0, none⟩) (te - fr) (te - fr)].toArray 228 (0, 0)) ∧ wr.heap[W.heap.size]? = some (.cells #[.int .i64 (fr : Nat), .int .i64 (te : Nat)] 30) ∧ wr.ownsRow X.heap.size 157 4 (.slice (some ⟨g, 0, none⟩) (te - fr) (te - fr)) (te - fr) (nxV us) ∧ F2 sb gs X wr))
    case atStart => exact ⟨0, fr, (x.1, hh), rfl, rfl, ⟨Nat.le_refl _, hfr⟩, by omega, HL⟩
    case round =>
     obtain ⟨c1, a1, x1, rfl, rfl, ha1, hcf, HR⟩ := hrel
     obtain ⟨hrun, hst, h7, hN, ro, hF⟩ := HR.out
     clear HR HL c0w
     have d1 : wr.cell? ⟨W.heap.size, 1, none⟩ = some (.int .i64 (te : Nat)) := by simp [World.cell?, hN]
     have hcf1 : c1 + gk ≤ 1100000 := by omega
     have HCF := hideT hcf
     clear hcf
     by_cases hlt : a1 < te
     · have hble : Nat.ble te a1 = false := by rw [← Bool.not_eq_true, Nat.ble_eq]; omega
       cases gk with
       | zero => rw [shareW, hble, cond_false] at hrun; cases hrun
       | succ fu =>
        obtain ⟨i, hi⟩ : ∃ i, min c1 (p.links.length - 1) = i := ⟨_, rfl⟩
        have hil : i < p.links.length := by omega
        rw [shareW, hble, cond_false, hi] at hrun
        obtain ⟨hpX, hTX, hSwX, hul⟩ := HE.out
        have hpr : PtAt wr S b p := hpX.keep (fun k hk => hF.same k (hSwX k hk).1 (hSwX k hk).2.1 (hSwX k hk).2.2) (fun _ h => h)
        have hpr0 := hpr
        obtain ⟨b, p, vl, vt, vn, cs, hSb, blk, hcsl, ol, -, -, sl, -, -, kids⟩ := hpr0
        obtain ⟨l, hl⟩ : ∃ l, p.links[i]? = some l := ⟨p.links[i], List.getElem?_eq_getElem hil⟩
        obtain ⟨cl, hcl2⟩ : ∃ cl, cs[i]? = some cl := ⟨cs[i]'(by rw [hcsl]; exact hil), List.getElem?_eq_getElem _⟩
        obtain ⟨gl, capl, rfl, hgl, k0, k1, -⟩ := row_links ol hl hcl2
        have kb := (pt_c5 blk).2.2.1
        have hlm : l ∈ p.links := List.mem_of_getElem? hl
        obtain ⟨q, base, fre⟩ := l
        rw [List.getD_eq_getElem?_getD, hl, Option.getD_some] at hrun
        dsimp only at hrun hlm k1 hl
        have hbase : base < 1000000 := by have h1 := hok.lk _ hlm; have h2 := hok.len; dsimp only at h1; omega
        have hSwr : ∀ g, S g → g < wr.heap.size ∧ g ≠ sb ∧ g ≠ gs := fun k hk => ⟨Nat.lt_of_lt_of_le (hSwX k hk).1 hF.size, (hSwX k hk).2⟩
        have hTr : Tab wr := hTX.keep (hF.same 0 hTX.pos (fun e => (hTX.ne hst0.out) e.symm) h0)
        have hkq : PtAt wr S cl q := kids i _ cl hl hcl2
        have hokq := hok.kid _ hlm
        have hlong := longest_any (sb := sb) (h := x1.2) (lg := gl) (lo := i * 3) (at_ := a1) (fr := fr) (te := te) (B := X.heap.size) (us := us) wr hst.sr hkq (fun g hg => (hSwr g hg).1) hokq hTr k0 k1 hbase (by rw [hul]; exact ro) hul hub ha1 (by omega)
        rw [bl_len] at hrun
        have hlin := long_in q base us fr te (te - a1 + 1) (bat q.bds (kindAt s.size a1)).fi a1 ha1.2
        have hlong2 := longest_any (sb := sb) (h := x1.2) (lg := gl) (lo := i * 3) (at_ := a1) (fr := fr) (te := te) (B := X.heap.size) (us := us) wr.drew hst.sr (hkq.keep (W' := wr.drew) (fun _ _ => rfl) (fun _ h => h)) (fun g hg => (hSwr g hg).1) hokq hTr k0 k1 hbase (by rw [hul]; exact ro) hul hub ha1 (by omega)
        generalize longF q base us fr te (te - a1 + 1) (bat q.bds (kindAt s.size a1)).fi a1 = ee at *
        obtain ⟨y1, hy1, hrun2⟩ : ∃ y1, settle (bl s) f q a1 ee x1 = some y1 ∧ shareW (settle (bl s) f) p (bl s) us fr te fu (c1 + 1) ee y1 = some (c, y) := by
         cases hy : settle (bl s) f q a1 ee x1 with
         | none => rw [hy] at hrun; cases hrun
         | some y1 => rw [hy] at hrun; exact ⟨y1, rfl, hrun⟩
        have HIH := hideT (fun (V : World) (hV : Below wr.heap.size wr V) => IH V q cl a1 ee x1 y1 hy1 hokq (hgr.kid _ hlm) (hkq.keep (fun g hg => hV.block g (hSwr g hg).1) (fun _ h => h)) (fun g hg => ⟨Nat.lt_of_lt_of_le (hSwr g hg).1 hV.size, (hSwr g hg).2⟩) (hTr.below hV hTr.pos) h0 hlin.1 (Nat.le_trans hlin.2 hte) hsz (hst.below hV))
        have hgb := hSwr gl (sl gl rfl)
        have hm1 : IntKind.i64.wrap ((p.links.length : Int) - 1) = ((p.links.length - 1 : Nat) : Int) := by rw [IntKind.wrap_i64]; omega
        have hm2 : (if p.links.length - 1 < c1 then ((p.links.length - 1 : Nat) : Int) else (c1 : Int)) = (i : Int) := by split <;> omega
        have i1 : (i : Int) < (p.links.length : Int) := by omega
        have i2 : (0 : Int) ≤ (i : Int) := by omega
        have i3 : (a1 : Int) < (te : Int) := by omega
        have d0 : wr.cell? ⟨n7, 0, none⟩ = some (.int .i64 (fr : Nat)) := by simp only [World.cell?, h7]; rfl
        have d3 : wr.cell? ⟨n7, 1, none⟩ = some (.int .i64 (te : Nat)) := by simp only [World.cell?, h7]; rfl
        have d2 : wr.cell? ⟨n7, 2, none⟩ = some (.slice (some ⟨g, 0, none⟩) (te - fr) (te - fr)) := by simp only [World.cell?, h7]; rfl
        have HLD := hideT (show Calls Tryz.prog 99 #[.pointer (some ⟨sb, 0, none⟩), .pointer (some ⟨gl, i * 3, none⟩), .int .i64 (a1 : Nat), .agg #[.int .i64 (fr : Nat), .int .i64 (te : Nat), .slice (some ⟨g, 0, none⟩) (te - fr) (te - fr)]] wr.drew fun e w' => e = .returned (.int .i64 (ee : Nat)) ∧ Below wr.heap.size wr w' from hlong2.mono (fun e w' h => ⟨h.1, ((Below.refl wr.heap.size wr).drew).trans h.2⟩))
        have HP := hideT (And.intro hrun2 (And.intro h7 (And.intro hN (And.intro ro (And.intro hF k0)))))
        have hn7l := (Array.getElem?_eq_some_iff.1 h7).1
        have hNl2 := (Array.getElem?_eq_some_iff.1 hN).1
        generalize p.links.length - 1 = nm at *
        obtain ⟨nl, hnl⟩ : ∃ nl, p.links.length = nl := ⟨_, rfl⟩
        rw [hnl] at kb hm1 i1
        clear hrun hrun2 hpr kids ol blk hcsl hl hcl2 hi hy1 hst h7 hN ro hF hpX hTX hSwX hul hTr hkq sl k1 hnl
        have hS11 : (fun V : World => V.cell? ⟨b, 2, none⟩ = some (.slice (some ⟨gl, 0, none⟩) nl capl)) wr.drew := kb
        go_upto_region 11 with fail
        rename_i KB hKB K11 hK11
        refine wp_region_held (S := fun V : World => V.cell? ⟨b, 2, none⟩ = some (.slice (some ⟨gl, 0, none⟩) nl capl)) (by kernel_rfl) ?_
        refine tq 0 43 hS11 ?_
        refine tq 1 44 hS11 ?_
        refine tq 2 45 hS11 ?_
        refine tq 3 46 hS11 ?_
        refine tq 4 47 hS11 ?_
        refine tq 5 48 hS11 ?_
        refine tq 6 49 hS11 ?_
        refine tq 7 50 hS11 ?_
        refine tq 8 51 hS11 ?_
        refine tq 9 52 hS11 ?_
        refine tq 10 53 hS11 ?_
        refine tq 11 54 hS11 ?_
        refine tq 12 55 hS11 ?_
        refine tq 13 10 hS11 ?_
        refine wpAnyH_done (by kernel_rfl) (hK11 _ _ ?_) _
        simp only [Act.put, List.setIfInBounds_toArray, List.set_cons_zero, List.set_cons_succ]
        clear hK11 hS11 kb hm1 hm2
        have hld : Calls Tryz.prog 99 #[.pointer (some ⟨sb, 0, none⟩), .pointer (some ⟨gl, i * 3, none⟩), .int .i64 (a1 : Nat), .agg #[.int .i64 (fr : Nat), .int .i64 (te : Nat), .slice (some ⟨g, 0, none⟩) (te - fr) (te - fr)]] wr.drew fun e w' => e = .returned (.int .i64 (ee : Nat)) ∧ Below wr.heap.size wr w' := HLD.out
        go_wp2_with fail
        refine hld.mono ?_
        rintro e w2 ⟨rfl, hb2⟩
        have hsc := HIH.out w2 hb2
        have k0' := keep_cell hb2 k0
        clear hld d0 d1 d2 d3 k0 hlong
        go_wp2_with fail
        refine hsc.mono ?_
        rintro e w3 ⟨⟨v, rfl⟩, hs3, hf3⟩
        obtain ⟨hrun2, h7, hN, ro, hF, k0⟩ := HP.out
        have hb2s := hb2.size
        have e7 := (hf3.same n7 (by omega) hne7.1 hne7.2.1).trans ((hb2.block n7 hn7l).trans h7)
        have eN := (hf3.same W.heap.size (by omega) hNn.1 hNn.2).trans ((hb2.block _ hNl2).trans hN)
        have er := owns_keep ro (W' := w3) fun k hk => (hf3.same k (by have := (owns_blk ro hk).2.1; omega) (by obtain rfl : g = k := Option.some.inj hk; exact hneg.1) (by obtain rfl : g = k := Option.some.inj hk; exact hneg.2)).trans (hb2.block k (owns_blk ro hk).2.1)
        have eF := hF.trans ((F2.of (sb := sb) (gs := gs) hb2).trans hf3)
        have HZ := hideT (And.intro hrun2 (And.intro hs3 (And.intro e7 (And.intro eN (And.intro er eF)))))
        clear hrun2 h7 hN ro hF k0 hs3 hf3 hb2 e7 eN er eF hsc k0' HP HIH
        go_wp2
        go_roundg fu
        case measure => omega
        case rel => exact ⟨c1 + 1, ee, y1, by go_num, rfl, by omega, by have := HCF.out; omega, HZ⟩
     · obtain rfl : a1 = te := by omega
       have hrn : (c1, x1) = (c, y) := by
        have hbt : Nat.ble a1 a1 = true := by rw [Nat.ble_eq]; exact Nat.le_refl _
        cases gk with
        | zero => rw [shareW, hbt, cond_true] at hrun; exact Option.some.inj hrun
        | succ fu => rw [shareW, hbt, cond_true] at hrun; exact Option.some.inj hrun
       cases hrn
       have HZ := hideT (And.intro hst ((F2.of (sb := sb) (gs := gs) HX.out.2.1).trans hF))
       clear hrun hst h7 hN ro hF
       go_wp2
       go_ret
       exact ⟨rfl, HZ.out.1, HZ.out.2⟩
end Go.Proofs.YtbekghinikjjeaaGreatDoor.smt
namespace Go.Proofs.YtbekghinikjjeaaGreatDoor.smt
open Go.RowKit Go.Proofs.YtbekghinikjjeaaGreatDoor.br
theorem settle_ok (S : Nat → Prop) (sb gs ng cp : Nat) (s : ByteArray) (tv : Value) : ∀ f, SetOk S sb gs ng cp s tv f
 | 0 => fun W p b fr te x y h => by cases h
 | f + 1 => fun W p b fr te x y hset hok hgr hp hSw hT h0 hfr hte hsz hst => by
  have IH := settle_ok S sb gs ng cp s tv f
  have hslt := hst.sr.lt
  rw [settle_eq] at hset
  obtain ⟨X, hX⟩ : ∃ X, X = W.alloc (.cells #[.int .i64 (fr : Nat), .int .i64 (te : Nat)] 30) := ⟨_, rfl⟩
  have hBX : Below W.heap.size W X := by rw [hX]; exact (Below.refl _ W).alloc (Nat.le_refl _) _
  have x0 : X.heap[W.heap.size]? = some (.cells #[.int .i64 (fr : Nat), .int .i64 (te : Nat)] 30) := by rw [hX]; exact World.alloc_heap_new W _
  have c0 : X.cell? ⟨W.heap.size, 0, none⟩ = some (.int .i64 (fr : Nat)) := by simp [World.cell?, x0]
  have c1 : X.cell? ⟨W.heap.size, 1, none⟩ = some (.int .i64 (te : Nat)) := by simp [World.cell?, x0]
  have hpX : PtAt X S b p := hp.keep (fun g hg => hBX.block g (hSw g hg).1) (fun _ h => h)
  have hstX := hst.below hBX
  have hTX := hT.below hBX hT.pos
  have hSwX : ∀ g, S g → g < X.heap.size ∧ g ≠ sb ∧ g ≠ gs := fun g hg => ⟨Nat.lt_of_lt_of_le (hSw g hg).1 hBX.size, (hSw g hg).2⟩
  have hNl : W.heap.size < X.heap.size := (Array.getElem?_eq_some_iff.1 x0).1
  have hNn : W.heap.size ≠ sb ∧ W.heap.size ≠ gs := ⟨by omega, by have := (owns_blk hst.row (g := gs) rfl).2.1; omega⟩
  have hpX0 := hpX
  obtain ⟨b, p, vl, vt, vn, cs, hSb, blk, hcsl, ol, -, -, sl, -, -, kids⟩ := hpX0
  obtain ⟨k0, k1, k2, -, -⟩ := pt_c5 blk
  have HX := hideT (And.intro hX (And.intro hBX x0))
  clear hX x0 hp hSw hT
  cases hdp : p.deep with
  | false =>
   rw [hdp, show (!false) = true from rfl, cond_true] at hset
   cases hset
   rw [hdp] at k1
   have HQ := hideT (And.intro hstX (F2.of (sb := sb) (gs := gs) hBX))
   clear hst hstX hBX hTX hpX hSwX ol kids blk
   go_enter Tryz.func48, Tryz.ntmps48
   go_upto_region 1 with fail
   rw [← HX.out.1]
   go_wp2
   refine bodyPost_ret (results_none rfl _ _ _) rfl ?_
   exact ⟨⟨_, rfl⟩, HQ.out.1, HQ.out.2⟩
  | true =>
   rw [hdp, show (!true) = false from rfl, cond_false] at hset
   rw [hdp] at k1
   obtain ⟨x1, hx1⟩ : ∃ x1 : Sp, (bif Nat.beq p.grp 0 then x else (x.1.set p.grp ((fr : Int), (te : Int)), x.2)) = x1 := ⟨_, rfl⟩
   rw [hx1] at hset
   obtain ⟨c, y0, hsh, hrest⟩ : ∃ c y0, shareP (bl s) f p fr te x1 = some (c, y0) ∧ restW (settle (bl s) f) te (p.links.drop c) y0 = some y := by
    cases hs : shareP (bl s) f p fr te x1 with
    | none => rw [hs] at hset; cases hset
    | some r => obtain ⟨c, y0⟩ := r; rw [hs] at hset; exact ⟨c, y0, rfl, hset⟩
   clear hset ol kids sl
   by_cases hg : p.grp = 0
   · have hxx : x = x1 := by rw [← hx1, hg]; rfl
     subst hxx
     have i1 : ((0 : Int) < (p.grp : Int)) = False := by rw [eq_iff_iff, iff_false]; omega
     have i2 : (0 < p.grp) = False := by rw [eq_iff_iff, iff_false]; omega
     clear hx1
     go_enter Tryz.func48, Tryz.ntmps48
     go_upto_region 1 with fail
     rw [← HX.out.1]
     go_wp2_with fail
     obtain ⟨Z, hZ⟩ : ∃ Z, Z = X := ⟨_, rfl⟩
     have hstZ := hstX
     have hpZ := hpX
     have hTZ := hTX
     have hSwZ := hSwX
     have hFZ := F2.refl sb gs X
     have hNZ := HX.out.2.2
     clear hZ hg i1 i2
     refine (share_any IH X p b fr te c x y0 hsh hok hgr (hgr.d hdp) hpZ hSwZ hTZ h0 hfr hte hsz hstZ).mono ?_
     rintro e w1 ⟨rfl, hs1, hf1⟩
     have hZs := hf1.size
     have hXZ := hFZ.size
     have hN1 := (hf1.same W.heap.size (by omega) hNn.1 hNn.2).trans hNZ
     have hF1 := hFZ.trans hf1
     have e1 : w1.cell? ⟨W.heap.size, 1, none⟩ = some (.int .i64 (te : Nat)) := by simp [World.cell?, hN1]
     obtain ⟨n7, hn7⟩ : ∃ n7, w1.heap.size = n7 := ⟨_, rfl⟩
     obtain ⟨Y, hY⟩ : ∃ Y, w1.alloc (.cells #[.int .i64 (te : Nat), .int .i64 (te : Nat)] 30) = Y := ⟨_, rfl⟩
     have hbY : Below w1.heap.size w1 Y := by rw [← hY]; exact (Below.refl _ _).alloc (Nat.le_refl _) _
     have y7 : Y.heap[n7]? = some (.cells #[.int .i64 (te : Nat), .int .i64 (te : Nat)] 30) := by rw [← hY, ← hn7]; exact World.alloc_heap_new w1 _
     have hn7n : n7 ≠ sb ∧ n7 ≠ gs ∧ X.heap.size ≤ n7 := by
      have h1 := hs1.sr.lt
      have h2 := (owns_blk hs1.row (g := gs) rfl).2.1
      omega
     have HA := hideT (And.intro (hs1.below hbY) (And.intro (hF1.trans (F2.of hbY)) (And.intro hrest (And.intro y7 hY))))
     have HE := hideT (And.intro hpX (And.intro hTX hSwX))
     have hst0 := hideT hstX.sr
     have hll : p.links.length ≤ 1000000 := hok.ll
     clear hs1 hf1 hF1 hrest hpZ hTZ hSwZ hstZ hFZ hNZ hN1 hsh hpX hTX hSwX hbY y7 hY hstX k0 k1 k2 blk c0 c1 hst hBX
     go_upto_block 0 with fail
     rw [HA.out.2.2.2.2]
     clear hn7 e1
     go_wp2_with fail
     go_loopw [6] (fun v wq => ∃ (c1 : Nat) (z : Sp), v = .int .i64 (c1 : Nat) ∧ Hid (restW (settle (bl s) f) te (p.links.drop c1) z = some y ∧ StA sb gs ng cp s tv wq z ∧ wq.heap[n7]? = some (.cells #[.int .i64 (te : Nat), .int .i64 (te : Nat)] 30) ∧ F2 sb gs X wq)) (fun v _ => (p.links.length - intOf v).toNat)
     case atStart => exact ⟨c, y0, rfl, hideT ⟨HA.out.2.2.1, HA.out.1, HA.out.2.2.2.1, HA.out.2.1⟩⟩
     case round =>
      obtain ⟨c1, z, rfl, HR⟩ := hrel
      obtain ⟨hrun, hst, h7, hF⟩ := HR.out
      clear HR HA
      obtain ⟨hpX, hTX, hSwX⟩ := HE.out
      have hpr : PtAt wr S b p := hpX.keep (fun k hk => hF.same k (hSwX k hk).1 (hSwX k hk).2.1 (hSwX k hk).2.2) (fun _ h => h)
      obtain ⟨b, p, vl, vt, vn, cs, hSb, blk, hcsl, ol, -, -, sl, -, -, kids⟩ := hpr
      have kb := (pt_c5 blk).2.2.1
      by_cases hlt : c1 < p.links.length
      · obtain ⟨l, hl⟩ : ∃ l, p.links[c1]? = some l := ⟨p.links[c1], List.getElem?_eq_getElem hlt⟩
        obtain ⟨cl, hcl2⟩ : ∃ cl, cs[c1]? = some cl := ⟨cs[c1]'(by rw [hcsl]; exact hlt), List.getElem?_eq_getElem _⟩
        obtain ⟨gl, capl, rfl, hgl, r0, -, r2⟩ := row_links ol hl hcl2
        have hlm : l ∈ p.links := List.mem_of_getElem? hl
        rw [List.drop_eq_getElem_cons hlt, (List.getElem?_eq_some_iff.1 hl).2, restW] at hrun
        have hgb := hSwX gl (sl gl rfl)
        have i1 : (c1 : Int) < (p.links.length : Int) := by omega
        have i2 : (0 : Int) ≤ (c1 : Int) := by omega
        have d0 : wr.cell? ⟨n7, 0, none⟩ = some (.int .i64 (te : Nat)) := by simp [World.cell?, h7]
        have d1 : wr.cell? ⟨n7, 1, none⟩ = some (.int .i64 (te : Nat)) := by simp [World.cell?, h7]
        have hkq := kids c1 l cl hl hcl2
        cases hfr2 : l.2.2 with
        | true =>
         rw [hfr2, cond_true] at hrun
         rw [hfr2] at r2
         have HZ := hideT (And.intro hrun (And.intro hst (And.intro h7 hF)))
         clear hrun hst h7 hF hpX hTX hSwX kids ol blk hcsl hl hcl2 hkq sl
         go_wp2
         go_roundw
         case rel => exact ⟨c1 + 1, z, by go_num, HZ⟩
         case measure => simp [intOf]; omega
        | false =>
         rw [hfr2, cond_false] at hrun
         rw [hfr2] at r2
         obtain ⟨y1, hy1, hrun2⟩ : ∃ y1, settle (bl s) f l.1 te te z = some y1 ∧ restW (settle (bl s) f) te (p.links.drop (c1 + 1)) y1 = some y := by
          cases hy : settle (bl s) f l.1 te te z with
          | none => rw [hy] at hrun; cases hrun
          | some y1 => rw [hy] at hrun; exact ⟨y1, rfl, hrun⟩
         have hTr : Tab wr := hTX.keep (hF.same 0 hTX.pos (fun e => (hTX.ne hst0.out) e.symm) h0)
         have hca := IH wr.drew l.1 cl te te z y1 hy1 (hok.kid l hlm) (hgr.kid l hlm) (hkq.keep (W' := wr.drew) (fun _ _ => rfl) (fun _ h => h)) (fun g hg => ⟨Nat.lt_of_lt_of_le (hSwX g hg).1 hF.size, (hSwX g hg).2⟩) hTr h0 (Nat.le_refl _) hte hsz ⟨hst.sr, hst.row, hst.ne⟩
         have HP := hideT (And.intro hrun2 (And.intro h7 hF))
         have hn7l := (Array.getElem?_eq_some_iff.1 h7).1
         have hS10 : (fun V : World => V.cell? ⟨gl, c1 * 3, none⟩ = some (.pointer (some ⟨cl, 0, none⟩)) ∧ V.cell? ⟨n7, 0, none⟩ = some (.int .i64 (te : Nat)) ∧ V.cell? ⟨n7, 1, none⟩ = some (.int .i64 (te : Nat))) wr.drew := ⟨r0, d0, d1⟩
         have hgl2 : gl < wr.heap.size := hgl
         clear hrun hrun2 hst h7 hF hpX hTX hSwX kids ol blk hcsl hl hcl2 hkq sl hy1 hTr
         go_upto_region 10 with fail
         rename_i KA hKA KB hKB
         refine wp_region_noPanic ?_
         refine wp_region_held (S := fun V : World => V.cell? ⟨gl, c1 * 3, none⟩ = some (.pointer (some ⟨cl, 0, none⟩)) ∧ V.cell? ⟨n7, 0, none⟩ = some (.int .i64 (te : Nat)) ∧ V.cell? ⟨n7, 1, none⟩ = some (.int .i64 (te : Nat))) (by kernel_rfl) ?_
         refine tq 0 58 hS10 ?_
         refine tq 1 59 hS10 ?_
         refine tq 2 60 hS10 ?_
         refine tq 3 61 hS10 ?_
         refine tq 4 62 hS10 ?_
         refine tq 5 63 hS10 ?_
         simp only [Act.put, List.setIfInBounds_toArray, List.set_cons_zero, List.set_cons_succ]
         refine wpAnyH_all (rs := [6]) (by kernel_rfl) (by simp) (fun i hi => ?_)
         obtain rfl : i = 6 := List.mem_singleton.1 hi
         refine op_call (R := fun v w2 => StA sb gs ng cp s tv w2 y1 ∧ F2 sb gs wr w2) (f := 48) (some 64) rfl rfl (by rfl) (by go_simp; (try with_reducible rfl)) (hca.mono ?_) ?_
         · rintro e w2 ⟨⟨v, rfl⟩, h1, h2⟩
           exact ⟨v, rfl, h1, ⟨h2.os, h2.tape, h2.output, h2.size, h2.same⟩⟩
         rintro v w2 ⟨hs2, hf2⟩
         obtain ⟨s0, s1, s2⟩ := hS10
         have kp : ∀ (a : Addr) (u : Value), wr.cell? a = some u → a.block ≠ sb → a.block ≠ gs → w2.cell? a = some u := fun a u h a1 a2 => (World.cell?_of_block (hf2.same a.block (World.block_lt_of_cell? wr a h) a1 a2)).trans h
         refine ⟨⟨kp _ _ s0 hgb.2.1 hgb.2.2, kp _ _ s1 hn7n.1 hn7n.2.1, kp _ _ s2 hn7n.1 hn7n.2.1⟩, ?_⟩
         have e7 := (hf2.same n7 hn7l hn7n.1 hn7n.2.1).trans HP.out.2.1
         have HZ := hideT (And.intro HP.out.1 (And.intro hs2 (And.intro e7 (HP.out.2.2.trans hf2))))
         clear e7 hs2 hf2 kp s0 s1 s2 hca HP
         refine wpAnyH_done (by kernel_rfl) ?_ _
         first | refine hKA _ _ ?_ | refine hKB _ _ ?_
         simp only [Act.put, List.setIfInBounds_toArray, List.set_cons_zero, List.set_cons_succ]
         go_wp2
         go_roundw
         case rel => exact ⟨c1 + 1, y1, by go_num, HZ⟩
         case measure => simp [intOf]; omega
      · rw [List.drop_eq_nil_of_le (by omega), restW] at hrun
        cases hrun
        obtain ⟨va, vc, rfl⟩ := owns_shape ol
        have i1 : ((c1 : Int) < (p.links.length : Int)) = False := by rw [eq_iff_iff, iff_false]; omega
        have HZ := hideT (And.intro hst ((F2.of (sb := sb) (gs := gs) HX.out.2.1).trans hF))
        clear hst h7 hF hpX hTX hSwX kids ol blk hcsl sl
        go_wp2
        go_end0
        exact ⟨⟨_, rfl⟩, HZ.out.1, HZ.out.2⟩
   · have hgp : 0 < p.grp := by omega
     have hx1e : (x.1.set p.grp ((fr : Int), (te : Int)), x.2) = x1 := by
      rw [← hx1]
      have : Nat.beq p.grp 0 = false := by rw [← Bool.not_eq_true]; exact fun h => hg (Nat.eq_of_beq_eq_true h)
      rw [this]; rfl
     have i1 : (0 : Int) < (p.grp : Int) := by omega
     have hgl : p.grp < ng := hgr.g
     have i3 : (p.grp : Int) < (ng : Int) := by omega
     have i4 : (0 : Int) ≤ (p.grp : Int) := by omega
     have hxl : p.grp < x.1.length := by rw [hstX.len]; exact hgl
     have q3 := hstX.sr.cells.2.2.2.1
     obtain ⟨v0, v1⟩ := spV_get (List.getElem?_eq_getElem hxl)
     obtain ⟨u0, f0⟩ := owns_cell hstX.row _ _ v0
     obtain ⟨u1, f1⟩ := owns_cell hstX.row _ _ v1
     have o2 := owns_sp hstX.row hxl ((fr : Int), (te : Int))
     have fz : ∀ k, k ≠ gs → ((X.setCell ⟨gs, p.grp * 2, none⟩ (.int .i64 (fr : Nat))).setCell ⟨gs, p.grp * 2 + 1, none⟩ (.int .i64 (te : Nat))).heap[k]? = X.heap[k]? := fun k hk => setCells_far X gs hk [.int .i64 (fr : Nat), .int .i64 (te : Nat)] (p.grp * 2)
     have hS3 : (fun V : World => V.cell? ⟨sb, 3, none⟩ = some (.slice (some ⟨gs, 0, none⟩) ng cp) ∧ V.cell? ⟨b, 0, none⟩ = some (.int .i64 (p.grp : Nat)) ∧ V.cell? ⟨W.heap.size, 0, none⟩ = some (.int .i64 (fr : Nat)) ∧ V.cell? ⟨W.heap.size, 1, none⟩ = some (.int .i64 (te : Nat))) X.drew := ⟨q3, k0, c0, c1⟩
     have hSb2 := hSwX b hSb
     obtain ⟨Z, hZ⟩ : ∃ Z, (X.setCell ⟨gs, p.grp * 2, none⟩ (.int .i64 (fr : Nat))).setCell ⟨gs, p.grp * 2 + 1, none⟩ (.int .i64 (te : Nat)) = Z := ⟨_, rfl⟩
     have fz' : ∀ k, k ≠ gs → Z.heap[k]? = X.heap[k]? := by rw [← hZ]; exact fz
     have hsZ : Z.heap.size = X.heap.size := by rw [← hZ]; simp
     have hstZ : StA sb gs ng cp s tv Z x1 := by
      rw [← hx1e]
      exact ⟨(fz' sb (fun e => hstX.ne e.symm)).trans hstX.sr, by rw [← hZ]; exact o2, hstX.ne⟩
     have hpZ : PtAt Z S b p := hpX.keep (fun g hg => fz' g (hSwX g hg).2.2) (fun _ h => h)
     have hTZ : Tab Z := hTX.keep (fz' 0 h0)
     have hSwZ : ∀ g, S g → g < Z.heap.size ∧ g ≠ sb ∧ g ≠ gs := fun g hg => ⟨by rw [hsZ]; exact (hSwX g hg).1, (hSwX g hg).2⟩
     have hFZ : F2 sb gs X Z := ⟨by rw [← hZ]; rfl, by rw [← hZ]; rfl, by rw [← hZ]; rfl, by rw [hsZ]; exact Nat.le_refl _, fun k _ _ a3 => fz' k a3⟩
     have hNZ := (fz' W.heap.size hNn.2).trans HX.out.2.2
     have HZZ := hideT (And.intro hZ hsZ)
     have HSR := hideT hstX
     clear hZ hsZ o2 fz v0 v1 hx1 hx1e hg
     go_enter Tryz.func48, Tryz.ntmps48
     go_upto_region 1 with fail
     rw [← HX.out.1]
     go_upto_region 3 with fail
     rename_i KA hKA
     refine wp_region_noPanic ?_
     refine wp_region_held (S := fun V : World => V.cell? ⟨sb, 3, none⟩ = some (.slice (some ⟨gs, 0, none⟩) ng cp) ∧ V.cell? ⟨b, 0, none⟩ = some (.int .i64 (p.grp : Nat)) ∧ V.cell? ⟨W.heap.size, 0, none⟩ = some (.int .i64 (fr : Nat)) ∧ V.cell? ⟨W.heap.size, 1, none⟩ = some (.int .i64 (te : Nat))) (by kernel_rfl) ?_
     refine tq 0 19 hS3 ?_
     refine tq 1 20 hS3 ?_
     refine tq 2 21 hS3 ?_
     refine tq 3 22 hS3 ?_
     refine tq 4 23 hS3 ?_
     refine tq 5 24 hS3 ?_
     refine tq 6 25 hS3 ?_
     refine tq 7 26 hS3 ?_
     refine tq 8 27 hS3 ?_
     refine tq 9 28 hS3 ?_
     simp only [Act.put, List.setIfInBounds_toArray, List.set_cons_zero, List.set_cons_succ]
     refine wpAnyH_all (rs := [10]) (by kernel_rfl) (by simp) (fun i hi => ?_)
     obtain rfl : i = 10 := List.mem_singleton.1 hi
     obtain ⟨s0, s1, s2, s3⟩ := hS3
     have pz : ∀ (a : Addr), a.block ≠ gs → Z.drew.cell? a = X.cell? a := fun a h => World.cell?_of_block (w' := Z.drew) (fz' a.block h)
     refine op_skip rfl rfl (by rfl) (w' := Z.drew) (by rw [← HZZ.out.1]; go_simp; (try with_reducible rfl)) ⟨⟨(pz _ (fun e => HSR.out.ne e.symm)).trans s0, (pz _ hSb2.2.2).trans s1, (pz _ hNn.2).trans s2, (pz _ hNn.2).trans s3⟩, ?_⟩
     refine wpAnyH_done (by kernel_rfl) ?_ _
     refine hKA _ _ ?_
     simp only [Act.put]
     clear s0 s1 s2 s3 pz u0 u1 f0 f1 hKA q3 i1 i3 i4
     obtain ⟨V, hV⟩ : ∃ V, V = Z.drew := ⟨_, rfl⟩
     rw [← hV]
     have hstV : StA sb gs ng cp s tv V x1 := by rw [hV]; exact ⟨hstZ.sr, hstZ.row, hstZ.ne⟩
     have hpV : PtAt V S b p := by rw [hV]; exact hpZ.keep (fun _ _ => rfl) (fun _ h => h)
     have hTV : Tab V := by rw [hV]; exact hTZ
     have hSwV : ∀ g, S g → g < V.heap.size ∧ g ≠ sb ∧ g ≠ gs := by rw [hV]; exact hSwZ
     have hFV : F2 sb gs X V := by rw [hV]; exact ⟨hFZ.os, hFZ.tape, hFZ.output, hFZ.size, hFZ.same⟩
     have hNV : V.heap[W.heap.size]? = some (.cells #[.int .i64 (fr : Nat), .int .i64 (te : Nat)] 30) := by rw [hV]; exact hNZ
     clear hV hstZ hpZ hTZ hSwZ hFZ hNZ HZZ HSR fz'
     have hstZ := hstV
     have hpZ := hpV
     have hTZ := hTV
     have hSwZ := hSwV
     have hFZ := hFV
     have hNZ := hNV
     have e5 : V.cell? ⟨W.heap.size, 0, none⟩ = some (.int .i64 (fr : Nat)) := by simp [World.cell?, hNZ]
     have e6 : V.cell? ⟨W.heap.size, 1, none⟩ = some (.int .i64 (te : Nat)) := by simp [World.cell?, hNZ]
     clear hstV hpV hTV hSwV hFV hNV
     go_wp2_with fail
     refine (share_any IH V p b fr te c x1 y0 hsh hok hgr (hgr.d hdp) hpZ hSwZ hTZ h0 hfr hte hsz hstZ).mono ?_
     rintro e w1 ⟨rfl, hs1, hf1⟩
     have hZs := hf1.size
     have hXZ := hFZ.size
     have hN1 := (hf1.same W.heap.size (by omega) hNn.1 hNn.2).trans hNZ
     have hF1 := hFZ.trans hf1
     have e1 : w1.cell? ⟨W.heap.size, 1, none⟩ = some (.int .i64 (te : Nat)) := by simp [World.cell?, hN1]
     obtain ⟨n7, hn7⟩ : ∃ n7, w1.heap.size = n7 := ⟨_, rfl⟩
     obtain ⟨Y, hY⟩ : ∃ Y, w1.alloc (.cells #[.int .i64 (te : Nat), .int .i64 (te : Nat)] 30) = Y := ⟨_, rfl⟩
     have hbY : Below w1.heap.size w1 Y := by rw [← hY]; exact (Below.refl _ _).alloc (Nat.le_refl _) _
     have y7 : Y.heap[n7]? = some (.cells #[.int .i64 (te : Nat), .int .i64 (te : Nat)] 30) := by rw [← hY, ← hn7]; exact World.alloc_heap_new w1 _
     have hn7n : n7 ≠ sb ∧ n7 ≠ gs ∧ X.heap.size ≤ n7 := by
      have h1 := hs1.sr.lt
      have h2 := (owns_blk hs1.row (g := gs) rfl).2.1
      omega
     have HA := hideT (And.intro (hs1.below hbY) (And.intro (hF1.trans (F2.of hbY)) (And.intro hrest (And.intro y7 hY))))
     have HE := hideT (And.intro hpX (And.intro hTX hSwX))
     have hst0 := hideT hstX.sr
     have hll : p.links.length ≤ 1000000 := hok.ll
     clear hs1 hf1 hF1 hrest hpZ hTZ hSwZ hstZ hFZ hNZ hN1 hsh hpX hTX hSwX hbY y7 hY hstX k0 k1 k2 blk c0 c1 hst hBX
     go_upto_block 0 with fail
     rw [HA.out.2.2.2.2]
     clear hn7 e1
     go_wp2_with fail
     go_loopw [6] (fun v wq => ∃ (c1 : Nat) (z : Sp), v = .int .i64 (c1 : Nat) ∧ Hid (restW (settle (bl s) f) te (p.links.drop c1) z = some y ∧ StA sb gs ng cp s tv wq z ∧ wq.heap[n7]? = some (.cells #[.int .i64 (te : Nat), .int .i64 (te : Nat)] 30) ∧ F2 sb gs X wq)) (fun v _ => (p.links.length - intOf v).toNat)
     case atStart => exact ⟨c, y0, rfl, hideT ⟨HA.out.2.2.1, HA.out.1, HA.out.2.2.2.1, HA.out.2.1⟩⟩
     case round =>
      obtain ⟨c1, z, rfl, HR⟩ := hrel
      obtain ⟨hrun, hst, h7, hF⟩ := HR.out
      clear HR HA
      obtain ⟨hpX, hTX, hSwX⟩ := HE.out
      have hpr : PtAt wr S b p := hpX.keep (fun k hk => hF.same k (hSwX k hk).1 (hSwX k hk).2.1 (hSwX k hk).2.2) (fun _ h => h)
      obtain ⟨b, p, vl, vt, vn, cs, hSb, blk, hcsl, ol, -, -, sl, -, -, kids⟩ := hpr
      have kb := (pt_c5 blk).2.2.1
      by_cases hlt : c1 < p.links.length
      · obtain ⟨l, hl⟩ : ∃ l, p.links[c1]? = some l := ⟨p.links[c1], List.getElem?_eq_getElem hlt⟩
        obtain ⟨cl, hcl2⟩ : ∃ cl, cs[c1]? = some cl := ⟨cs[c1]'(by rw [hcsl]; exact hlt), List.getElem?_eq_getElem _⟩
        obtain ⟨gl, capl, rfl, hgl, r0, -, r2⟩ := row_links ol hl hcl2
        have hlm : l ∈ p.links := List.mem_of_getElem? hl
        rw [List.drop_eq_getElem_cons hlt, (List.getElem?_eq_some_iff.1 hl).2, restW] at hrun
        have hgb := hSwX gl (sl gl rfl)
        have i1 : (c1 : Int) < (p.links.length : Int) := by omega
        have i2 : (0 : Int) ≤ (c1 : Int) := by omega
        have d0 : wr.cell? ⟨n7, 0, none⟩ = some (.int .i64 (te : Nat)) := by simp [World.cell?, h7]
        have d1 : wr.cell? ⟨n7, 1, none⟩ = some (.int .i64 (te : Nat)) := by simp [World.cell?, h7]
        have hkq := kids c1 l cl hl hcl2
        cases hfr2 : l.2.2 with
        | true =>
         rw [hfr2, cond_true] at hrun
         rw [hfr2] at r2
         have HZ := hideT (And.intro hrun (And.intro hst (And.intro h7 hF)))
         clear hrun hst h7 hF hpX hTX hSwX kids ol blk hcsl hl hcl2 hkq sl
         go_wp2
         go_roundw
         case rel => exact ⟨c1 + 1, z, by go_num, HZ⟩
         case measure => simp [intOf]; omega
        | false =>
         rw [hfr2, cond_false] at hrun
         rw [hfr2] at r2
         obtain ⟨y1, hy1, hrun2⟩ : ∃ y1, settle (bl s) f l.1 te te z = some y1 ∧ restW (settle (bl s) f) te (p.links.drop (c1 + 1)) y1 = some y := by
          cases hy : settle (bl s) f l.1 te te z with
          | none => rw [hy] at hrun; cases hrun
          | some y1 => rw [hy] at hrun; exact ⟨y1, rfl, hrun⟩
         have hTr : Tab wr := hTX.keep (hF.same 0 hTX.pos (fun e => (hTX.ne hst0.out) e.symm) h0)
         have hca := IH wr.drew l.1 cl te te z y1 hy1 (hok.kid l hlm) (hgr.kid l hlm) (hkq.keep (W' := wr.drew) (fun _ _ => rfl) (fun _ h => h)) (fun g hg => ⟨Nat.lt_of_lt_of_le (hSwX g hg).1 hF.size, (hSwX g hg).2⟩) hTr h0 (Nat.le_refl _) hte hsz ⟨hst.sr, hst.row, hst.ne⟩
         have HP := hideT (And.intro hrun2 (And.intro h7 hF))
         have hn7l := (Array.getElem?_eq_some_iff.1 h7).1
         have hS10 : (fun V : World => V.cell? ⟨gl, c1 * 3, none⟩ = some (.pointer (some ⟨cl, 0, none⟩)) ∧ V.cell? ⟨n7, 0, none⟩ = some (.int .i64 (te : Nat)) ∧ V.cell? ⟨n7, 1, none⟩ = some (.int .i64 (te : Nat))) wr.drew := ⟨r0, d0, d1⟩
         have hgl2 : gl < wr.heap.size := hgl
         clear hrun hrun2 hst h7 hF hpX hTX hSwX kids ol blk hcsl hl hcl2 hkq sl hy1 hTr
         go_upto_region 10 with fail
         rename_i KA hKA KB hKB
         refine wp_region_noPanic ?_
         refine wp_region_held (S := fun V : World => V.cell? ⟨gl, c1 * 3, none⟩ = some (.pointer (some ⟨cl, 0, none⟩)) ∧ V.cell? ⟨n7, 0, none⟩ = some (.int .i64 (te : Nat)) ∧ V.cell? ⟨n7, 1, none⟩ = some (.int .i64 (te : Nat))) (by kernel_rfl) ?_
         refine tq 0 58 hS10 ?_
         refine tq 1 59 hS10 ?_
         refine tq 2 60 hS10 ?_
         refine tq 3 61 hS10 ?_
         refine tq 4 62 hS10 ?_
         refine tq 5 63 hS10 ?_
         simp only [Act.put, List.setIfInBounds_toArray, List.set_cons_zero, List.set_cons_succ]
         refine wpAnyH_all (rs := [6]) (by kernel_rfl) (by simp) (fun i hi => ?_)
         obtain rfl : i = 6 := List.mem_singleton.1 hi
         refine op_call (R := fun v w2 => StA sb gs ng cp s tv w2 y1 ∧ F2 sb gs wr w2) (f := 48) (some 64) rfl rfl (by rfl) (by go_simp; (try with_reducible rfl)) (hca.mono ?_) ?_
         · rintro e w2 ⟨⟨v, rfl⟩, h1, h2⟩
           exact ⟨v, rfl, h1, ⟨h2.os, h2.tape, h2.output, h2.size, h2.same⟩⟩
         rintro v w2 ⟨hs2, hf2⟩
         obtain ⟨s0, s1, s2⟩ := hS10
         have kp : ∀ (a : Addr) (u : Value), wr.cell? a = some u → a.block ≠ sb → a.block ≠ gs → w2.cell? a = some u := fun a u h a1 a2 => (World.cell?_of_block (hf2.same a.block (World.block_lt_of_cell? wr a h) a1 a2)).trans h
         refine ⟨⟨kp _ _ s0 hgb.2.1 hgb.2.2, kp _ _ s1 hn7n.1 hn7n.2.1, kp _ _ s2 hn7n.1 hn7n.2.1⟩, ?_⟩
         have e7 := (hf2.same n7 hn7l hn7n.1 hn7n.2.1).trans HP.out.2.1
         have HZ := hideT (And.intro HP.out.1 (And.intro hs2 (And.intro e7 (HP.out.2.2.trans hf2))))
         clear e7 hs2 hf2 kp s0 s1 s2 hca HP
         refine wpAnyH_done (by kernel_rfl) ?_ _
         first | refine hKA _ _ ?_ | refine hKB _ _ ?_
         simp only [Act.put, List.setIfInBounds_toArray, List.set_cons_zero, List.set_cons_succ]
         go_wp2
         go_roundw
         case rel => exact ⟨c1 + 1, y1, by go_num, HZ⟩
         case measure => simp [intOf]; omega
      · rw [List.drop_eq_nil_of_le (by omega), restW] at hrun
        cases hrun
        obtain ⟨va, vc, rfl⟩ := owns_shape ol
        have i1 : ((c1 : Int) < (p.links.length : Int)) = False := by rw [eq_iff_iff, iff_false]; omega
        have HZ := hideT (And.intro hst ((F2.of (sb := sb) (gs := gs) HX.out.2.1).trans hF))
        clear hst h7 hF hpX hTX hSwX kids ol blk hcsl sl
        go_wp2
        go_end0
        exact ⟨⟨_, rfl⟩, HZ.out.1, HZ.out.2⟩
end Go.Proofs.YtbekghinikjjeaaGreatDoor.smt
