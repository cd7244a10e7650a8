/- KP3 -/
import Derived.Test.YtbekghinikjjeaaGreatDoorKP2
import Derived.Laws.IdiomCopy
import Derived.ArgAppend
import Derived.Laws.MakeOwn
import Derived.Test.YtbekghinikjjeaaGreatDoorKPp
import Derived.Test.YtbekghinikjjeaaGreatDoorKA4
set_option maxRecDepth 100000
set_option maxHeartbeats 4000000
namespace Go.Proofs.YtbekghinikjjeaaGreatDoor.pkk
open Go.RowKit Go.Shelf Go.Proofs.YtbekghinikjjeaaGreatDoor.br Go.Proofs.YtbekghinikjjeaaGreatDoor.smt
theorem op_append {P : Program} {ops : Array Oper} {Q : Exit → Act → World → Prop} {i : Nat} {op : Oper} {K : Act → World → Prop} {a : Act} {w w' : World} {v : Value} (d : Option Tmp) (hi : ops[i]? = some op) (hd : op.dst = d) (hw : Region.wanted op (yielded ops a.tmps) = true) (s x : Operand) (t : TypeId) (ho : op.op = .call { callee := .builtin .append, args := #[s, x], argTypes := #[t, t] }) (hx : (Builtin.append_ #[t, t] op.type #[a.eval s, a.eval x]).run P w = .ok v w') (h : K (a.put d v) w') : wpOp P ops Q i K a w := by
  refine op_value d hi hd hw ?_ h
  unfold execOp
  simp only [ho, resolve, invoke, builtin, Sem.run_bind, Sem.run_pure, Result.andThen_ok, List.map_toArray, List.map_cons, List.map_nil, hx]
structure Gi where
 ka : Nat
 la : Int
 sa : ByteArray
 kb : Nat
 lb : Int
 sb : ByteArray
 nt : Bool
def giV (g : Gi) : List Value := [.int .i64 (g.ka : Nat), .int .i64 g.la, .string g.sa, .int .i64 (g.kb : Nat), .int .i64 g.lb, .string g.sb, .bool g.nt]
def GdI (g : Gi) : Prop := Gd g.ka g.la g.sa ∧ Gd g.kb g.lb g.sb ∧ (g.ka = 0 → g.kb = 0)
def tOf (k : Nat) (s : ByteArray) : Option ByteArray := if k = 3 ∧ s.size ≠ 0 then some s else none
def rowOf (g : Gi) : Pr := ⟨g.ka, lnR g.ka g.la, tOf g.ka g.sa, g.kb, lnR g.kb g.lb, tOf g.kb g.sb, g.nt, false⟩
theorem re_tOf {W : World} {B : Nat} {v : Option Addr} {k : Nat} {s : ByteArray} (h : ReP W B v k s) : ReV W B (.pointer v) (tOf k s) := by
 unfold ReP at h
 unfold tOf
 by_cases c : k = 3 ∧ s.size ≠ 0
 · rw [if_pos c] at h ⊢
   obtain ⟨mb, h1, rfl, h3⟩ := h
   exact ⟨mb, h1, rfl, h3⟩
 · rw [if_neg c] at h ⊢
   rw [h]
   rfl
abbrev zrR : List Value := [.int .i64 0, .int .i64 0, .pointer none, .int .i64 0, .int .i64 0, .pointer none, .bool false, .bool false]
theorem infoRow : (Tryz.prog.info? 67).map (fun i => (i.zero, i.size, i.bytes)) = some (some (.agg zrR.toArray), 8, 56) := by kernel_rfl
theorem info_parts {P : Program} {e : TypeId} {z : Value} {n b : Nat} (h : (P.info? e).map (fun i => (i.zero, i.size, i.bytes)) = some (some z, n, b)) : ∃ i, P.info? e = some i ∧ i.zero = some z ∧ i.size = n ∧ i.bytes = b := by
 cases hi : P.info? e with
 | none => rw [hi] at h; cases h
 | some i =>
   rw [hi] at h
   simp only [Option.map_some, Option.some.injEq, Prod.mk.injEq] at h
   exact ⟨i, rfl, h.1, h.2.1, h.2.2⟩
theorem make_rows (V : World) (n : Nat) (hn : n ≤ 4096) : ∃ cs, cs.size = n * 8 ∧ (Instr.makeSlice 61 (.int .i64 0) (.int .i64 (n : Nat))).run Tryz.prog V = .ok (.slice (some ⟨V.heap.size, 0, none⟩) 0 n) (V.alloc (.cells cs 67)) := by
 obtain ⟨i0, hi, hz0, hz1, hz2⟩ := info_parts infoRow
 have := run_makeSlice (P := Tryz.prog) (w := V) 61 67 i0 _ Tryz.underlying61 hi hz0 .i64 .i64 0 (n : Nat) (by omega) (by omega) (by rw [hz1]; omega) (by rw [hz2]; omega) (by omega)
 rw [hz1] at this
 exact ⟨_, size_madeCells _ _, this⟩
theorem app_row {V : World} {N q n i : Nat} {cs : Array Value} (h0 : V.heap[N]? = some (.cells cs 67 (0, 0))) (hs : cs.size = n * 8) (hi : i < n) {r : Rw} (hr1 : Value.oneCell' r.a.re = true) (hr2 : Value.oneCell' r.b.re = true) (hq : V.heap[q]? = some (.cells (rwV r).toArray 67 (0, 0))) : (Builtin.append_ #[61, 61] 61 #[.slice (some ⟨N, 0, none⟩) i n, .slice (some ⟨q, 0, none⟩) 1 1]).run Tryz.prog V = .ok (.slice (some ⟨N, 0, none⟩) (i + 1) n) (V.setCells N (i * 8) (rwV r)) := by
 obtain ⟨i0, hi0, _, hz1, _⟩ := info_parts infoRow
 have := run_append_room_cells (P := Tryz.prog) (w := V) 61 61 67 i0 Tryz.underlying61 hi0 N 0 i n ⟨q, 0, none⟩ 1 1 (rwV r) (by rw [hz1]; rfl)
  (fun j u hj => by rw [show (⟨q, 0, none⟩ : Addr).add j = ⟨q, j, none⟩ by unfold Addr.add; split <;> simp_all]; simp only [World.cell?, hq]; simpa using hj)
  (fun u hu => by simp only [rwV, List.mem_cons, List.not_mem_nil, or_false] at hu; rcases hu with rfl | rfl | rfl | rfl | rfl | rfl | rfl | rfl <;> first | rfl | assumption) (by omega)
  (fun j hj => by
   rw [hz1]
   have hj8 : j < 8 := hj
   simp only [World.cell?, h0]
   rw [Nat.zero_add, Array.getElem?_eq_getElem (show i * 8 + j < cs.size by omega)]
   rfl)
  (fun j hj => by simp [World.frozen?, h0])
 rw [hz1, Nat.zero_add] at this
 exact this
theorem setCells_far (b : Nat) : ∀ (vs : List Value) (W : World) (o : Nat) {j : Nat}, j ≠ b → (W.setCells b o vs).heap[j]? = W.heap[j]?
 | [], _, _, _, _ => rfl
 | v :: vs, W, o, j, h => by rw [World.setCells, setCells_far b vs _ _ h]; exact Below.heap_setCell _ ⟨b, o, none⟩ _ j h
theorem setCells_bel (b B : Nat) (hB : B ≤ b) : ∀ (vs : List Value) (W : World) (o : Nat), Below B W (W.setCells b o vs)
 | [], W, _ => Below.refl _ _
 | v :: vs, W, o => by
  rw [World.setCells]
  exact ((Below.refl B W).setCell (p := ⟨b, o, none⟩) hB v).trans (setCells_bel b B hB vs _ _)
theorem setCells_own (b : Nat) {e : TypeId} {fr : Nat × Nat} : ∀ (vs : List Value) (W : World) (o : Nat) (cs : Array Value), W.heap[b]? = some (.cells cs e fr) → ∃ ds, (W.setCells b o vs).heap[b]? = some (.cells ds e fr) ∧ ds.size = cs.size
 | [], W, _, cs, h => ⟨cs, h, rfl⟩
 | v :: vs, W, o, cs, h => by
  rw [World.setCells]
  obtain ⟨ds, h1, h2⟩ := setCells_own b vs (W.setCell ⟨b, o, none⟩ v) (o + 1) (cs.setIfInBounds o v) (by simp only [World.setCell, Array.getElem?_modify, if_true, h]; rfl)
  exact ⟨ds, h1, by rw [h2, Array.size_setIfInBounds]⟩
structure NwI (W V : World) (B pb rb n : Nat) (gs : List Gi) (i : Nat) : Prop where
 bel : Below B W V
 pk : V.heap[pb]? = some (.cells #[.slice (some ⟨rb, 0, none⟩) i n, .pointer none] 63 (0, 0))
 rows : ∃ cs, V.heap[rb]? = some (.cells cs 67 (0, 0)) ∧ cs.size = n * 8
 at_ : ∀ j g, j < i → gs[j]? = some g → PrAt V B rb (j * 8) (rowOf g)
theorem NwI.below {W V V' : World} {B pb rb n i : Nat} {gs : List Gi} (h : NwI W V B pb rb n gs i) (hB : B ≤ V.heap.size) (hn : rb ≠ pb) (k : Below V.heap.size V V') : NwI W V' B pb rb n gs i := by
 have m := mv_below (pb := pb) hB k
 obtain ⟨cs, h1, h2⟩ := h.rows
 exact ⟨h.bel.trans m.bel, (k.block _ (blk_lt h.pk)).trans h.pk, ⟨cs, m.oth hn h1 (by decide), h2⟩, fun j g hj hg => (h.at_ j g hj hg).mv m ⟨cs, h1⟩ hn⟩
theorem new_step {W V : World} {B pb rb n i : Nat} {gs : List Gi} (h : NwI W V B pb rb n gs i) (hp : B ≤ pb) (hr : B ≤ rb) (hn : rb ≠ pb) (hi : i < n) {g : Gi} (hg : gs[i]? = some g) {va vb : Value} (ha : ReV V B va (tOf g.ka g.sa)) (hb : ReV V B vb (tOf g.kb g.sb)) : NwI W ((V.setCells rb (i * 8) (rwV ⟨⟨g.ka, lnR g.ka g.la, va⟩, ⟨g.kb, lnR g.kb g.lb, vb⟩, g.nt, false⟩)).setCell ⟨pb, 0, none⟩ (.slice (some ⟨rb, 0, none⟩) (i + 1) n)) B pb rb n gs (i + 1) := by
 obtain ⟨cs, hcs, hz⟩ := h.rows
 obtain ⟨ds, hds, hdz⟩ := setCells_own rb (rwV ⟨⟨g.ka, lnR g.ka g.la, va⟩, ⟨g.kb, lnR g.kb g.lb, vb⟩, g.nt, false⟩) V (i * 8) cs hcs
 have hmat : ∀ {b t}, MtAt V b t → MtAt ((V.setCells rb (i * 8) (rwV ⟨⟨g.ka, lnR g.ka g.la, va⟩, ⟨g.kb, lnR g.kb g.lb, vb⟩, g.nt, false⟩)).setCell ⟨pb, 0, none⟩ (.slice (some ⟨rb, 0, none⟩) (i + 1) n)) b t := by
  rintro b t ⟨m, st, k⟩
  have h1 : b ≠ rb := by
   rintro rfl
   rw [hcs] at k
   simp only [Option.some.injEq, Obj.cells.injEq] at k
   exact absurd k.2.1 (by decide)
  have h2 : b ≠ pb := by
   rintro rfl
   rw [h.pk] at k
   simp only [Option.some.injEq, Obj.cells.injEq] at k
   exact absurd k.2.1 (by decide)
  exact ⟨m, st, (Below.heap_setCell _ ⟨pb, 0, none⟩ _ b h2).trans ((setCells_far rb _ _ _ h1).trans k)⟩
 have hcell : ∀ x : Nat, ((V.setCells rb (i * 8) (rwV ⟨⟨g.ka, lnR g.ka g.la, va⟩, ⟨g.kb, lnR g.kb g.lb, vb⟩, g.nt, false⟩)).setCell ⟨pb, 0, none⟩ (.slice (some ⟨rb, 0, none⟩) (i + 1) n)).cell? ⟨rb, x, none⟩ = (V.setCells rb (i * 8) (rwV ⟨⟨g.ka, lnR g.ka g.la, va⟩, ⟨g.kb, lnR g.kb g.lb, vb⟩, g.nt, false⟩)).cell? ⟨rb, x, none⟩ := fun x => World.cell?_setCell_other _ _ _ _ (fun e => hn (congrArg Addr.block e).symm)
 refine ⟨h.bel.trans ((setCells_bel rb B hr _ _ _).trans ((Below.refl B _).setCell (p := ⟨pb, 0, none⟩) hp _)), ?_, ⟨ds, (Below.heap_setCell _ ⟨pb, 0, none⟩ _ rb hn).trans hds, hdz.trans hz⟩, ?_⟩
 · have h9 := (setCells_far rb (rwV ⟨⟨g.ka, lnR g.ka g.la, va⟩, ⟨g.kb, lnR g.kb g.lb, vb⟩, g.nt, false⟩) V (i * 8) (j := pb) (fun e => hn e.symm)).trans h.pk
   simp only [World.setCell, Array.getElem?_modify, if_true, h9]
   rfl
 · intro j q hj hq
   by_cases e : j = i
   · subst e
     rw [hg] at hq
     obtain rfl := Option.some.inj hq
     refine ⟨va, vb, ha.mat hmat, hb.mat hmat, fun k v hk => ?_⟩
     have hk8 : k < (rwV ⟨⟨g.ka, lnR g.ka g.la, va⟩, ⟨g.kb, lnR g.kb g.lb, vb⟩, g.nt, false⟩).length := (List.getElem?_eq_some_iff.1 hk).1
     rw [hcell, World.frozen?_setCell, World.frozen?_setCells]
     refine ⟨?_, by simp [World.frozen?, hcs]⟩
     have h7 := World.cell?_setCells_in rb (rwV ⟨⟨g.ka, lnR g.ka g.la, va⟩, ⟨g.kb, lnR g.kb g.lb, vb⟩, g.nt, false⟩) (j * 8) V (fun k hk => by
      have hk8 : k < 8 := hk
      simp only [World.cell?, hcs]
      rw [Array.getElem?_eq_getElem (show j * 8 + k < cs.size by omega)]
      rfl) k hk8
     rw [h7]
     exact congrArg some (List.getElem?_eq_some_iff.1 hk).2
   · obtain ⟨wa, wb, k1, k2, k3⟩ := h.at_ j q (by omega) hq
     refine ⟨wa, wb, k1.mat hmat, k2.mat hmat, fun k v hk => ?_⟩
     have hk8 : k < 8 := (List.getElem?_eq_some_iff.1 hk).1
     rw [hcell, World.frozen?_setCell, World.frozen?_setCells]
     refine ⟨(World.cell?_setCells_out rb _ _ _ _ (fun _ _ => .inl ?_)).trans (k3 k v hk).1, (k3 k v hk).2⟩
     show j * 8 + k < i * 8
     omega
theorem new_end {W V : World} {B pb rb : Nat} {gs : List Gi} (h : NwI W V B pb rb gs.length gs gs.length) (hp : B ≤ pb) (hr : B ≤ rb) (hn : rb ≠ pb) : PkAt V B pb (gs.map rowOf) none := by
 obtain ⟨cs, hcs, _⟩ := h.rows
 refine ⟨rb, gs.length, cs, ⟨.pointer none, by rw [List.length_map]; exact h.pk, rfl⟩, hp, hr, hn, hcs, fun i r hi => ?_⟩
 rw [List.getElem?_map] at hi
 cases hg : gs[i]? with
 | none => rw [hg] at hi; cases hi
 | some g =>
  rw [hg] at hi
  obtain rfl := Option.some.inj hi
  exact h.at_ i g (List.getElem?_eq_some_iff.1 hg).1 hg
end Go.Proofs.YtbekghinikjjeaaGreatDoor.pkk
namespace Go.Proofs.YtbekghinikjjeaaGreatDoor.pkk
open Go.RowKit Go.Shelf Go.Proofs.YtbekghinikjjeaaGreatDoor.br Go.Proofs.YtbekghinikjjeaaGreatDoor.smt
def GisAt (W : World) (xg : Nat) (gs : List Gi) : Prop := ∀ j (g : Gi), gs[j]? = some g → ∀ k v, (giV g)[k]? = some v → W.cell? ⟨xg, j * 7 + k, none⟩ = some v
theorem pNew_any {W : World} {xg : Nat} {gs : List Gi} (hx : GisAt W xg gs) (hxl : xg < W.heap.size) (hn : gs.length ≤ 4096) (hG : ∀ g ∈ gs, GdI g) (hg : Glob W) : Calls Tryz.prog 11 #[.slice (some ⟨xg, 0, none⟩) gs.length gs.length] W fun e w' => ∃ pb, e = .returned (.tuple #[.pointer (some ⟨pb, 0, none⟩), .int .i64 0]) ∧ PkAt w' W.heap.size pb (gs.map rowOf) none ∧ Below W.heap.size W w' := by
 obtain ⟨cs, hcs, hmk⟩ := make_rows W gs.length hn
 obtain ⟨X, hX⟩ : ∃ X, X = (W.alloc (.cells cs 67)).alloc (.cells #[.slice (some ⟨W.heap.size, 0, none⟩) 0 gs.length, .pointer none] 63) := ⟨_, rfl⟩
 obtain ⟨hbX, k0, k1⟩ := two_obj W (.cells cs 67) (.cells #[.slice (some ⟨W.heap.size, 0, none⟩) 0 gs.length, .pointer none] 63)
 rw [← hX] at hbX k0 k1
 have HI := hideT (show NwI W X W.heap.size (W.heap.size + 1) W.heap.size gs.length gs 0 from ⟨hbX, k1, ⟨cs, k0, hcs⟩, fun j g hj _ => absurd hj (Nat.not_lt_zero _)⟩)
 have HX := hideT (And.intro hx (And.intro hxl (And.intro hG hg)))
 have HXE := hideT hX
 have hz : X.heap.size = W.heap.size + 2 := by rw [hX]; simp
 have HZ := hideT hz
 have z1 : ((4096 : Int) < (gs.length : Int)) = False := eq_false (by omega)
 have z2 : (4096 < gs.length) = False := eq_false (by omega)
 have z3 : ((gs.length : Int) > 4096) = False := eq_false (by omega)
 clear hx hxl hG hg hX hbX k0 k1 hz hcs
 go_enter Tryz.func11, Tryz.ntmps11
 go_upto_region 4 with fail
 rw [← HXE.out]
 clear hmk z1 z2 z3
 go_wp2_with fail
 go_loopw [19] (fun i wr => ∃ k : Nat, i = .int .i64 (k : Nat) ∧ k ≤ gs.length ∧ Hid (NwI W wr W.heap.size (W.heap.size + 1) W.heap.size gs.length gs k ∧ X.heap.size ≤ wr.heap.size)) (fun i _ => gs.length - (intOf i).toNat)
 case atStart => exact ⟨0, rfl, Nat.zero_le _, hideT ⟨HI.out, Nat.le_refl _⟩⟩
 case round =>
  obtain ⟨k, rfl, hk, HR⟩ := hrel
  by_cases hlt : k < gs.length
  · have q1 : ((k : Int) < (gs.length : Int)) = True := eq_true (by omega)
    have q2 : (k < gs.length) = True := eq_true hlt
    obtain ⟨g, hgk⟩ : ∃ g, gs[k]? = some g := ⟨gs[k], List.getElem?_eq_getElem hlt⟩
    have hgd := HX.out.2.2.1 g (List.mem_of_getElem? hgk)
    have hxc : ∀ j v, (giV g)[j]? = some v → wr.cell? ⟨xg, k * 7 + j, none⟩ = some v := fun j v hj => (HR.out.1.bel.cell (p := ⟨xg, k * 7 + j, none⟩) HX.out.2.1).trans (HX.out.1 k g hgk j v hj)
    have hstep := fun (V : World) (h : NwI W V W.heap.size (W.heap.size + 1) W.heap.size gs.length gs k) (va vb : Value) ha hb => new_step h (Nat.le_succ _) (Nat.le_refl _) (Nat.ne_of_lt (Nat.lt_succ_self _)) hlt hgk (va := va) (vb := vb) ha hb
    obtain ⟨ka, la, sa, kb, lb, sb, nt⟩ := g
    have x0 : wr.cell? ⟨xg, k * 7, none⟩ = some (.int .i64 (ka : Nat)) := hxc 0 _ rfl
    have x1 := hxc 1 _ rfl
    have x2 := hxc 2 _ rfl
    have x3 := hxc 3 _ rfl
    have x4 := hxc 4 _ rfl
    have x5 := hxc 5 _ rfl
    have x6 := hxc 6 _ rfl
    have HS := hideT hstep
    dsimp only [rowOf] at HS
    have HGD := hideT hgd
    clear hstep hgd hxc
    have hb1 := (Below.refl wr.heap.size wr).alloc (Nat.le_refl _) (.cells #[.int .i64 (ka : Nat), .int .i64 la, .string sa, .int .i64 (kb : Nat), .int .i64 lb, .string sb, .bool nt] 42)
    have B1 := hideT hb1
    clear hb1
    go_wp2_with fail
    refine (row_any HGD.out.1 HGD.out.2.1 HGD.out.2.2 nt _ (glob_b (B := W.heap.size) (by obtain ⟨m, hm⟩ := HX.out.2.2.2; exact World.block_lt_of_cell? W _ hm) HX.out.2.2.2 (HR.out.1.bel.trans (B1.out.mono HR.out.1.bel.size)))).mono ?_
    rintro e w1 ⟨pa, pb, he, hpa, hpb, hb2⟩
    obtain rfl : e = .returned (.tuple #[.agg #[.int .i64 (ka : Nat), .int .i64 (lnR ka la), .pointer pa, .int .i64 (kb : Nat), .int .i64 (lnR kb lb), .pointer pb, .bool nt, .bool false], .int .i64 0]) := he
    have hb3 := B1.out.trans (hb2.mono B1.out.size)
    have hn4 := heap_alloc_new w1 (.cells #[.int .i64 (ka : Nat), .int .i64 (lnR ka la), .pointer pa, .int .i64 (kb : Nat), .int .i64 (lnR kb lb), .pointer pb, .bool nt, .bool false] 67)
    have hb4 := hb3.trans (((Below.refl w1.heap.size w1).alloc (Nat.le_refl _) (.cells #[.int .i64 (ka : Nat), .int .i64 (lnR ka la), .pointer pa, .int .i64 (kb : Nat), .int .i64 (lnR kb lb), .pointer pb, .bool nt, .bool false] 67)).mono hb3.size)
    have hra : ReV w1 W.heap.size (.pointer pa) (tOf ka sa) := re_tOf (hpa.keep (by have := HR.out.1.bel.size; have := B1.out.size; omega) (fun _ _ _ => rfl))
    have hrb : ReV w1 W.heap.size (.pointer pb) (tOf kb sb) := re_tOf (hpb.keep (by have := HR.out.1.bel.size; have := B1.out.size; omega) (fun _ _ _ => rfl))
    have HAB := hideT (And.intro hra hrb)
    have hw1 : W.heap.size ≤ w1.heap.size := by have h1 := HR.out.1.bel.size; have h2 := hb3.size; omega
    clear hb2 hb3 hpa hpb x0 x1 x2 x3 x4 x5 x6 hra hrb
    go_upto_region 8 with fail
    obtain ⟨Y, hY⟩ : ∃ Y, Y = w1.alloc (.cells #[.int .i64 (ka : Nat), .int .i64 (lnR ka la), .pointer pa, .int .i64 (kb : Nat), .int .i64 (lnR kb lb), .pointer pb, .bool nt, .bool false] 67) := ⟨_, rfl⟩
    rw [← hY] at hb4 hn4 ⊢
    have hNY : NwI W Y W.heap.size (W.heap.size + 1) W.heap.size gs.length gs k := HR.out.1.below HR.out.1.bel.size (Nat.ne_of_lt (Nat.lt_succ_self _)) hb4
    have p0 : Y.cell? ⟨W.heap.size + 1, 0, none⟩ = some (.slice (some ⟨W.heap.size, 0, none⟩) k gs.length) := by simp [World.cell?, hNY.pk]
    have hmY : Mv W.heap.size (W.heap.size + 1) w1 Y := mv_below hw1 (by rw [hY]; exact (Below.refl _ _).alloc (Nat.le_refl _) _)
    have hra := HAB.out.1.mv hmY
    have hrb := HAB.out.2.mv hmY
    have q0 : Y.cell? ⟨w1.heap.size, 0, none⟩ = some (.int .i64 (ka : Nat)) := by simp [World.cell?, hn4]
    have q1 : Y.cell? ⟨w1.heap.size, 1, none⟩ = some (.int .i64 (lnR ka la)) := by simp [World.cell?, hn4]
    have q2 : Y.cell? ⟨w1.heap.size, 2, none⟩ = some (.pointer pa) := by simp [World.cell?, hn4]
    have q3 : Y.cell? ⟨w1.heap.size, 3, none⟩ = some (.int .i64 (kb : Nat)) := by simp [World.cell?, hn4]
    have q4 : Y.cell? ⟨w1.heap.size, 4, none⟩ = some (.int .i64 (lnR kb lb)) := by simp [World.cell?, hn4]
    have q5 : Y.cell? ⟨w1.heap.size, 5, none⟩ = some (.pointer pb) := by simp [World.cell?, hn4]
    have q6 : Y.cell? ⟨w1.heap.size, 6, none⟩ = some (.bool nt) := by simp [World.cell?, hn4]
    have q7 : Y.cell? ⟨w1.heap.size, 7, none⟩ = some (.bool false) := by simp [World.cell?, hn4]
    have HY := hideT (And.intro hNY (And.intro hra (And.intro hrb hmY)))
    clear hY hb4 hn4 hNY hw1 hmY hra hrb HAB
    go_upto_region 10 with fail
    obtain ⟨V1, hV1⟩ : ∃ V, V = Y.drew.alloc (.cells #[.int .i64 (ka : Nat), .int .i64 (lnR ka la), .pointer pa, .int .i64 (kb : Nat), .int .i64 (lnR kb lb), .pointer pb, .bool nt, .bool false] 67) := ⟨_, rfl⟩
    have hAl : Below Y.heap.size Y V1 := by rw [hV1]; exact (Below.refl Y.heap.size Y).drew.alloc (Nat.le_refl _) _
    have hnA : V1.heap[Y.heap.size]? = some (.cells #[.int .i64 (ka : Nat), .int .i64 (lnR ka la), .pointer pa, .int .i64 (kb : Nat), .int .i64 (lnR kb lb), .pointer pb, .bool nt, .bool false] 67 (0, 0)) := by rw [hV1]; exact heap_alloc_new Y.drew _
    have hYw : W.heap.size ≤ Y.heap.size := HY.out.1.bel.size
    have hN1 : NwI W V1 W.heap.size (W.heap.size + 1) W.heap.size gs.length gs k := HY.out.1.below hYw (Nat.ne_of_lt (Nat.lt_succ_self _)) hAl
    obtain ⟨V2, hV2⟩ : ∃ V, V = V1.setCells W.heap.size (k * 8) (rwV ⟨⟨ka, lnR ka la, .pointer pa⟩, ⟨kb, lnR kb lb, .pointer pb⟩, nt, false⟩) := ⟨_, rfl⟩
    have p0A : V1.cell? ⟨W.heap.size + 1, 0, none⟩ = some (.slice (some ⟨W.heap.size, 0, none⟩) k gs.length) := by simp [World.cell?, hN1.pk]
    have hap : (Builtin.append_ #[61, 61] 61 #[.slice (some ⟨W.heap.size, 0, none⟩) k gs.length, .slice (some ⟨Y.heap.size, 0, none⟩) 1 1]).run Tryz.prog V1 = .ok (.slice (some ⟨W.heap.size, 0, none⟩) (k + 1) gs.length) V2 := by
     obtain ⟨ds, hd1, hd2⟩ := hN1.rows
     rw [hV2]
     exact app_row hd1 hd2 hlt (r := ⟨⟨ka, lnR ka la, .pointer pa⟩, ⟨kb, lnR kb lb, .pointer pb⟩, nt, false⟩) rfl rfl hnA
    have HAP := hideT hap
    have y1 : V2.heap[W.heap.size + 1]? = some (.cells #[.slice (some ⟨W.heap.size, 0, none⟩) k gs.length, .pointer none] 63 (0, 0)) := by rw [hV2, setCells_far _ _ _ _ (Nat.succ_ne_self _)]; exact hN1.pk
    have g0A : V2.cell? ⟨W.heap.size + 1, 0, none⟩ = some (.slice (some ⟨W.heap.size, 0, none⟩) k gs.length) := by simp [World.cell?, y1]
    have g1A : V2.frozen? ⟨W.heap.size + 1, 0, none⟩ = false := by simp [World.frozen?, y1]
    have mA : Mv W.heap.size (W.heap.size + 1) Y V1 := mv_below hYw hAl
    have HEND : Hid (NwI W (V2.setCell ⟨W.heap.size + 1, 0, none⟩ (.slice (some ⟨W.heap.size, 0, none⟩) (k + 1) gs.length)) W.heap.size (W.heap.size + 1) W.heap.size gs.length gs (k + 1)) := hideT (by
     rw [hV2]
     exact HS.out V1 hN1 (.pointer pa) (.pointer pb) (HY.out.2.1.mv mA) (HY.out.2.2.1.mv mA))
    have hsz : Hid (X.heap.size ≤ (V2.setCell ⟨W.heap.size + 1, 0, none⟩ (.slice (some ⟨W.heap.size, 0, none⟩) (k + 1) gs.length)).heap.size) := hideT (by
     have h1 := HEND.out.bel.size
     have h2 := blk_lt HEND.out.pk
     have := HZ.out
     omega)
    have HV1 := hideT hV1
    clear y1 hV2 hV1 hAl hnA hap hN1 mA hYw
    refine wp_region_held (S := fun _ => True) (by kernel_rfl) ?_
    refine tq 0 31 trivial ?_
    refine tq 1 32 trivial ?_
    refine tq 2 33 trivial ?_
    refine tq 3 34 trivial ?_
    simp only [Act.put, List.setIfInBounds_toArray, List.set_cons_zero, List.set_cons_succ]
    refine wpAnyH_all (rs := [4, 5]) (by kernel_rfl) (by simp) (fun i hi => ?_)
    have hc2 : i = 4 ∨ i = 5 := by simpa using hi
    clear hi
    rcases hc2 with rfl | rfl
    case' inl =>
        refine op_value (some 35) (v := .slice (some ⟨W.heap.size, 0, none⟩) k gs.length) (w' := Y.drew) rfl rfl (wanted_none rfl _) (by go_simp; (try with_reducible rfl)) ?_
        refine And.intro trivial ?_
        simp only [Act.put, List.setIfInBounds_toArray, List.set_cons_zero, List.set_cons_succ]
        refine wpAnyH_all (rs := [5]) (by kernel_rfl) (by simp) (fun i hi => ?_)
        obtain rfl : i = 5 := List.mem_singleton.1 hi
        clear hi
        refine op_value (some 36) (v := .agg #[.int .i64 (ka : Nat), .int .i64 (lnR ka la), .pointer pa, .int .i64 (kb : Nat), .int .i64 (lnR kb lb), .pointer pb, .bool nt, .bool false]) (w' := Y.drew) rfl rfl (wanted_none rfl _) (by go_simp; (try with_reducible rfl)) ?_
        refine And.intro trivial ?_
        simp only [Act.put, List.setIfInBounds_toArray, List.set_cons_zero, List.set_cons_succ]
        refine wpAnyH_all (rs := [6]) (by kernel_rfl) (by simp) (fun i hi => ?_)
        obtain rfl : i = 6 := List.mem_singleton.1 hi
        clear hi
        refine op_value (some 37) (v := .slice (some ⟨Y.heap.size, 0, none⟩) 1 1) (w' := Y.drew.alloc (.cells #[.int .i64 (ka : Nat), .int .i64 (lnR ka la), .pointer pa, .int .i64 (kb : Nat), .int .i64 (lnR kb lb), .pointer pb, .bool nt, .bool false] 67)) rfl rfl (wanted_none rfl _) (by go_simp; (try with_reducible rfl)) ?_
        refine And.intro trivial ?_
        simp only [Act.put, List.setIfInBounds_toArray, List.set_cons_zero, List.set_cons_succ]
        rw [← HV1.out]
    case' inr =>
        refine op_value (some 36) (v := .agg #[.int .i64 (ka : Nat), .int .i64 (lnR ka la), .pointer pa, .int .i64 (kb : Nat), .int .i64 (lnR kb lb), .pointer pb, .bool nt, .bool false]) (w' := Y.drew) rfl rfl (wanted_none rfl _) (by go_simp; (try with_reducible rfl)) ?_
        refine And.intro trivial ?_
        simp only [Act.put, List.setIfInBounds_toArray, List.set_cons_zero, List.set_cons_succ]
        refine wpAnyH_all (rs := [4, 6]) (by kernel_rfl) (by simp) (fun i hi => ?_)
        have hc2 : i = 4 ∨ i = 6 := by simpa using hi
        clear hi
        rcases hc2 with rfl | rfl
    case' inr.inl =>
        refine op_value (some 35) (v := .slice (some ⟨W.heap.size, 0, none⟩) k gs.length) (w' := Y.drew) rfl rfl (wanted_none rfl _) (by go_simp; (try with_reducible rfl)) ?_
        refine And.intro trivial ?_
        simp only [Act.put, List.setIfInBounds_toArray, List.set_cons_zero, List.set_cons_succ]
        refine wpAnyH_all (rs := [6]) (by kernel_rfl) (by simp) (fun i hi => ?_)
        obtain rfl : i = 6 := List.mem_singleton.1 hi
        clear hi
        refine op_value (some 37) (v := .slice (some ⟨Y.heap.size, 0, none⟩) 1 1) (w' := Y.drew.alloc (.cells #[.int .i64 (ka : Nat), .int .i64 (lnR ka la), .pointer pa, .int .i64 (kb : Nat), .int .i64 (lnR kb lb), .pointer pb, .bool nt, .bool false] 67)) rfl rfl (wanted_none rfl _) (by go_simp; (try with_reducible rfl)) ?_
        refine And.intro trivial ?_
        simp only [Act.put, List.setIfInBounds_toArray, List.set_cons_zero, List.set_cons_succ]
        rw [← HV1.out]
    case' inr.inr =>
        refine op_value (some 37) (v := .slice (some ⟨Y.heap.size, 0, none⟩) 1 1) (w' := Y.drew.alloc (.cells #[.int .i64 (ka : Nat), .int .i64 (lnR ka la), .pointer pa, .int .i64 (kb : Nat), .int .i64 (lnR kb lb), .pointer pb, .bool nt, .bool false] 67)) rfl rfl (wanted_none rfl _) (by go_simp; (try with_reducible rfl)) ?_
        refine And.intro trivial ?_
        simp only [Act.put, List.setIfInBounds_toArray, List.set_cons_zero, List.set_cons_succ]
        rw [← HV1.out]
        refine wpAnyH_all (rs := [4]) (by kernel_rfl) (by simp) (fun i hi => ?_)
        obtain rfl : i = 4 := List.mem_singleton.1 hi
        clear hi
        refine op_value (some 35) (v := .slice (some ⟨W.heap.size, 0, none⟩) k gs.length) (w' := V1) rfl rfl (wanted_none rfl _) (by have hq0 := p0A; go_simp; (try with_reducible rfl)) ?_
        refine And.intro trivial ?_
        simp only [Act.put, List.setIfInBounds_toArray, List.set_cons_zero, List.set_cons_succ]
    all_goals
        refine wpAnyH_all (rs := [7]) (by kernel_rfl) (by simp) (fun i hi => ?_)
        obtain rfl : i = 7 := List.mem_singleton.1 hi
        clear hi
        refine op_append (some 38) rfl rfl (wanted_none rfl _) _ _ _ rfl HAP.out ?_
        refine And.intro trivial ?_
        simp only [Act.put, List.setIfInBounds_toArray, List.set_cons_zero, List.set_cons_succ]
        refine tq 8 39 trivial ?_
        refine tq 9 40 trivial ?_
        simp only [Act.put, List.setIfInBounds_toArray, List.set_cons_zero, List.set_cons_succ]
        refine wpAnyH_all (rs := [10]) (by kernel_rfl) (by simp) (fun i hi => ?_)
        obtain rfl : i = 10 := List.mem_singleton.1 hi
        clear hi
        refine op_skip (w' := V2.setCell ⟨W.heap.size + 1, 0, none⟩ (.slice (some ⟨W.heap.size, 0, none⟩) (k + 1) gs.length)) rfl rfl (wanted_none rfl _) (by go_simp; (try with_reducible rfl)) ?_
        refine And.intro trivial ?_
        simp only [Act.put]
        refine wpAnyH_done (by kernel_rfl) ?_ _
        go_wp2
        exact ⟨⟨k + 1, by go_num, by omega, hideT ⟨HEND.out, hsz.out⟩⟩, by simp [intOf]; omega⟩
  · obtain rfl : k = gs.length := by omega
    go_wp2
    exact bodyPost_ret (v := .tuple #[.pointer (some ⟨W.heap.size + 1, 0, none⟩), .int .i64 0]) (by simp [results, Tryz.results11, go_sem]) rfl ⟨_, rfl, new_end HR.out.1 (Nat.le_succ _) (Nat.le_refl _) (Nat.ne_of_lt (Nat.lt_succ_self _)), HR.out.1.bel⟩
end Go.Proofs.YtbekghinikjjeaaGreatDoor.pkk
namespace Go.Proofs.YtbekghinikjjeaaGreatDoor.pkk
open Go.RowKit Go.Shelf Go.Proofs.YtbekghinikjjeaaGreatDoor.br Go.Proofs.YtbekghinikjjeaaGreatDoor.smt
def oneP (c : Nat) : Nat → Bool := fun i => Nat.beq i c
theorem one_self {c : Nat} (hc : c < 256) : selfP c = oneP c := by
 funext i
 show (List.any (List.take 1 [UInt8.ofNat c]) fun b => b.toNat == i) = Nat.beq i c
 rw [Bool.eq_iff_iff]
 simp [Nat.mod_eq_of_lt hc]
 exact eq_comm
theorem mk_of {t : ByteArray} {ts : List Tr} (ht : parseT t = .ok ts) (hb : (msF .zero ts).back = false) (hn : (msF .zero ts).groups = ((0 : Nat) : Int)) {s : ByteArray} (hs : s.size ≤ 1024) {o : Option (List (Int × Int))} (h : (matchT 0 (catT ts) (bl s) 0).map (·.1) = some o) : Mk t s o.isSome := by
 obtain ⟨n, h1, h2⟩ := ly_parse ht hb
 obtain rfl : n = 0 := by omega
 obtain ⟨⟨o', c⟩, hc, rfl⟩ := Option.map_eq_some_iff.1 h
 exact ⟨ts, 0, 600, o', c, ht, hb, h1, h2, hs, hc, rfl⟩
theorem a_p : parseT ⟨#[97]⟩ = .ok [byteT (oneP 97)] := by
 simp only [← one_self (show 97 < 256 by decide)]
 kernel_rfl
theorem b_p : parseT ⟨#[98]⟩ = .ok [byteT (oneP 98)] := by
 simp only [← one_self (show 98 < 256 by decide)]
 kernel_rfl
theorem e_p : parseT ⟨#[]⟩ = .ok [] := by kernel_rfl
theorem a_n (c : Nat) : (msF .zero [byteT (oneP c)]).back = false ∧ (msF .zero [byteT (oneP c)]).groups = ((0 : Nat) : Int) := by
 simp [msF, msT, byteT, Ms.zero, Ms.both]
theorem mk_a1 : Mk ⟨#[97]⟩ ⟨#[120, 98]⟩ false := mk_of (o := none) a_p (a_n 97).1 (a_n 97).2 (by decide) (by decide +kernel)
theorem mk_a2 : Mk ⟨#[97]⟩ ⟨#[97, 98]⟩ true := mk_of (o := some [(0, 1)]) a_p (a_n 97).1 (a_n 97).2 (by decide) (by decide +kernel)
theorem mk_b1 : Mk ⟨#[98]⟩ ⟨#[120, 98]⟩ true := mk_of (o := some [(1, 2)]) b_p (a_n 98).1 (a_n 98).2 (by decide) (by decide +kernel)
theorem mk_b2 : Mk ⟨#[98]⟩ ⟨#[97, 98]⟩ true := mk_of (o := some [(1, 2)]) b_p (a_n 98).1 (a_n 98).2 (by decide) (by decide +kernel)
theorem gis_at : ∀ (gs : List Gi) (j : Nat) (g : Gi) (k : Nat) (v : Value), gs[j]? = some g → (giV g)[k]? = some v → (gs.flatMap giV)[j * 7 + k]? = some v
 | [], j, g, k, v, h, _ => by simp at h
 | x :: gs, 0, g, k, v, h, hk => by
  obtain rfl : x = g := by simpa using h
  have h7 : k < (giV x).length := (List.getElem?_eq_some_iff.1 hk).1
  rw [List.flatMap_cons, Nat.zero_mul, Nat.zero_add, List.getElem?_append_left h7]
  exact hk
 | x :: gs, j + 1, g, k, v, h, hk => by
  rw [List.flatMap_cons, List.getElem?_append_right (by show 7 ≤ _; omega)]
  have := gis_at gs j g k v (by simpa using h) hk
  rw [← this]
  congr 1
  show (j + 1) * 7 + k - 7 = _
  omega
theorem gis_lit (W : World) (gs : List Gi) : GisAt (W.alloc (.cells (gs.flatMap giV).toArray 42)) W.heap.size gs := by
 intro j g hg k v hk
 simp only [World.cell?, heap_alloc_new]
 rw [List.getElem?_toArray]
 exact gis_at gs j g k v hg hk
theorem new_lit (W : World) (gs : List Gi) (hn : gs.length ≤ 4096) (hG : ∀ g ∈ gs, GdI g) (hg : Glob W) : Calls Tryz.prog 11 #[.slice (some ⟨W.heap.size, 0, none⟩) gs.length gs.length] (W.alloc (.cells (gs.flatMap giV).toArray 42)) fun e w' => ∃ pb, e = .returned (.tuple #[.pointer (some ⟨pb, 0, none⟩), .int .i64 0]) ∧ PkAt w' (W.heap.size + 1) pb (gs.map rowOf) none ∧ Below W.heap.size W w' := by
 have hb := (Below.refl W.heap.size W).alloc (Nat.le_refl _) (.cells (gs.flatMap giV).toArray 42)
 refine (pNew_any (gis_lit W gs) (by rw [World.size_alloc]; omega) hn hG (hg.below hb (Nat.le_refl _))).mono ?_
 rintro e w' ⟨pb, he, hp, h2⟩
 rw [World.size_alloc] at hp
 exact ⟨pb, he, hp, hb.trans (h2.mono hb.size)⟩
def awA : Pr := ⟨1, 2, none, 1, 3, none, false, false⟩
def awA1 : Pr := ⟨1, 2, none, 1, 3, none, false, true⟩
def awB : Pr := ⟨3, 0, some ⟨#[97]⟩, 3, 0, some ⟨#[98]⟩, false, false⟩
def awB1 : Pr := ⟨3, 0, some ⟨#[97]⟩, 3, 0, some ⟨#[98]⟩, false, true⟩
def awF (t s : ByteArray) : Bool := !(t.data.toList == [97] && s.data.toList == [120, 98])
theorem PkAt.mono {W : World} {B C pb : Nat} {rs : List Pr} {u : Option ByteArray} (h : PkAt W B pb rs u) (hC : C ≤ B) : PkAt W C pb rs u := by
 have re : ∀ {v : Value} {q : Option ByteArray}, ReV W B v q → ReV W C v q := by
  intro v q hq
  cases q with
  | none => exact hq
  | some t => obtain ⟨mb, h1, h2⟩ := hq; exact ⟨mb, Nat.le_trans hC h1, h2⟩
 obtain ⟨rb, cap, cs, ⟨x, k1, k2⟩, h2, h3, h4, h5, h6⟩ := h
 refine ⟨rb, cap, cs, ⟨x, k1, re k2⟩, Nat.le_trans hC h2, Nat.le_trans hC h3, h4, h5, fun i r hi => ?_⟩
 obtain ⟨va, vb, q1, q2, q3⟩ := h6 i r hi
 exact ⟨va, vb, re q1, re q2, q3⟩
theorem ask_w {w W : World} {pb : Nat} {rs : List Pr} {u : Option ByteArray} (hg : Glob w) (hT : Tab w) (hb : Below w.heap.size w W) (h : PkAt W w.heap.size pb rs u) {i : Nat} {r : Pr} (hi : rs[i]? = some r) {sp : ByteArray} {fd : ByteArray → ByteArray → Bool} (n : Int) (la : Bool) (hM : ∀ x, ((r.ta <|> u) = some x ∨ (r.tb <|> u) = some x) → Mk x sp (fd x sp)) {R : (Bool × Bool × Nat) × List Pr × Option ByteArray} (hR : askR fd u rs (i : Nat) n la sp = R) : Calls Tryz.prog 13 #[.pointer (some ⟨pb, 0, none⟩), .int .i64 (i : Nat), .int .i64 n, .bool la, .string sp] W fun e w' => e = .returned (.tuple #[.bool R.1.1, .bool R.1.2.1, .int .i64 (R.1.2.2 : Nat)]) ∧ PkAt w' w.heap.size pb R.2.1 R.2.2 ∧ Below w.heap.size w w' ∧ Kp W w' := by
 have h2 : 2 ≤ w.heap.size := by obtain ⟨m, hm⟩ := hg; exact World.block_lt_of_cell? w _ hm
 subst hR
 refine (ask_in h hb.size (glob_b h2 hg hb) (tab_b h2 hT hb) h2 hi n la hM).mono ?_
 rintro e w' ⟨he, hp, hbb, hk⟩
 exact ⟨he, hp, hb.trans hbb, hk⟩
theorem new_w {w W : World} (hg : Glob w) (hb : Below w.heap.size w W) (gs : List Gi) (hn : gs.length ≤ 4096) (hG : ∀ g ∈ gs, GdI g) : Calls Tryz.prog 11 #[.slice (some ⟨W.heap.size, 0, none⟩) gs.length gs.length] (W.alloc (.cells (gs.flatMap giV).toArray 42)) fun e w' => ∃ pb, e = .returned (.tuple #[.pointer (some ⟨pb, 0, none⟩), .int .i64 0]) ∧ PkAt w' w.heap.size pb (gs.map rowOf) none ∧ Below w.heap.size w w' := by
 have h2 : 2 ≤ w.heap.size := by obtain ⟨m, hm⟩ := hg; exact World.block_lt_of_cell? w _ hm
 refine (new_lit W gs hn hG (glob_b h2 hg hb)).mono ?_
 rintro e w' ⟨pb, he, hp, hbb⟩
 exact ⟨pb, he, hp.mono (by have := hb.size; omega), hb.trans (hbb.mono hb.size)⟩
def awG : List Gi := [⟨1, 2, ⟨#[]⟩, 1, 3, ⟨#[]⟩, false⟩, ⟨3, 0, ⟨#[97]⟩, 3, 0, ⟨#[98]⟩, false⟩]
theorem gd_line {l : Int} (h : 1 ≤ l) (s : ByteArray) : Gd 1 l s := .inr (.inl ⟨rfl, h⟩)
theorem gd_none (l : Int) (s : ByteArray) : Gd 0 l s := .inl (.inl rfl)
theorem gd_empty (l : Int) : Gd 3 l ⟨#[]⟩ := .inr (.inr ⟨rfl, .inl rfl⟩)
theorem gd_a (l : Int) : Gd 3 l ⟨#[97]⟩ := .inr (.inr ⟨rfl, .inr ⟨by decide +kernel, by decide, _, a_p, (a_n 97).1⟩⟩)
theorem gd_b (l : Int) : Gd 3 l ⟨#[98]⟩ := .inr (.inr ⟨rfl, .inr ⟨by decide +kernel, by decide, _, b_p, (a_n 98).1⟩⟩)
theorem awake_any (w : World) (hg : Glob w) (hT : Tab w) : Calls Tryz.prog 10 #[] w fun e w' => e = .returned (.bool true) ∧ Below w.heap.size w w' := by
 have HG := hideT (And.intro hg hT)
 clear hg hT
 go_enter Tryz.func10, Tryz.ntmps10
 go_wp2_with fail
 refine (line_any 2 w).mono ?_
 rintro e w1 ⟨rfl, hb⟩
 have HB1 := hideT hb
 clear hb
 go_wp2_with fail
 refine (line_any 3 w1).mono ?_
 rintro e w2 ⟨rfl, hb⟩
 have HB2 := hideT (HB1.out.trans (hb.mono HB1.out.size))
 clear hb HB1
 go_wp2_with fail
 refine (Go.Proofs.YtbekghinikjjeaaGreatDoor.pkk.match_any ⟨#[97]⟩ w2).mono ?_
 rintro e w3 ⟨rfl, hb⟩
 have HB3 := hideT (HB2.out.trans (hb.mono HB2.out.size))
 clear hb HB2
 go_wp2_with fail
 refine (Go.Proofs.YtbekghinikjjeaaGreatDoor.pkk.match_any ⟨#[98]⟩ w3).mono ?_
 rintro e w4 ⟨rfl, hb⟩
 have HB4 := hideT (HB3.out.trans (hb.mono HB3.out.size))
 clear hb HB3
 have HN := hideT (new_w HG.out.1 HB4.out awG (by decide) (fun g hg => by
  simp only [awG, List.mem_cons, List.not_mem_nil, or_false] at hg
  rcases hg with rfl | rfl
  · exact ⟨gd_line (by decide) _, gd_line (by decide) _, fun h => absurd h (by decide)⟩
  · exact ⟨gd_a _, gd_b _, fun h => absurd h (by decide)⟩))
 go_wp2_with fail
 refine Calls.mono HN.out ?_
 rintro e w5 ⟨pb, rfl, hp, hb⟩
 have HP := hideT (And.intro hp hb)
 clear hp hb HN HB4
 have h0 := ask_w (fd := awF) HG.out.1 HG.out.2 HP.out.2 HP.out.1 (i := 0) (r := awA) rfl (sp := ⟨#[]⟩) 2 false (fun x hx => by simp [awA] at hx) (R := ((true, false, 0), [awA1, awB], none)) (by kernel_rfl)
 clear HP
 go_wp2_with fail
 refine Calls.mono h0 ?_
 rintro e w10 ⟨rfl, hp, hb, _⟩
 have HP := hideT (And.intro hp hb)
 clear hp hb h0
 have h1 := ask_w (fd := awF) HG.out.1 HG.out.2 HP.out.2 HP.out.1 (i := 0) (r := awA1) rfl (sp := ⟨#[]⟩) 3 false (fun x hx => by simp [awA1] at hx) (R := ((true, true, 0), [awA, awB], none)) (by kernel_rfl)
 clear HP
 go_wp2_with fail
 refine Calls.mono h1 ?_
 rintro e w11 ⟨rfl, hp, hb, _⟩
 have HP := hideT (And.intro hp hb)
 clear hp hb h1
 have h2 := ask_w (fd := awF) HG.out.1 HG.out.2 HP.out.2 HP.out.1 (i := 1) (r := awB) rfl (sp := ⟨#[120, 98]⟩) 1 false (fun x hx => by rcases hx with hx | hx <;> (obtain rfl := Option.some.inj hx) <;> first | exact mk_a1 | exact mk_b1) (R := ((false, true, 0), [awA, awB], some ⟨#[97]⟩)) (by kernel_rfl)
 clear HP
 go_wp2_with fail
 refine Calls.mono h2 ?_
 rintro e w12 ⟨rfl, hp, hb, _⟩
 have HP := hideT (And.intro hp hb)
 clear hp hb h2
 have h3 := ask_w (fd := awF) HG.out.1 HG.out.2 HP.out.2 HP.out.1 (i := 1) (r := awB) rfl (sp := ⟨#[97, 98]⟩) 2 false (fun x hx => by rcases hx with hx | hx <;> (obtain rfl := Option.some.inj hx) <;> first | exact mk_a2 | exact mk_b2) (R := ((true, false, 0), [awA, awB1], some ⟨#[97]⟩)) (by kernel_rfl)
 clear HP
 go_wp2_with fail
 refine Calls.mono h3 ?_
 rintro e w13 ⟨rfl, hp, hb, _⟩
 have HP := hideT (And.intro hp hb)
 clear hp hb h3
 go_wp2
 go_ret
 exact ⟨rfl, HP.out.2⟩
end Go.Proofs.YtbekghinikjjeaaGreatDoor.pkk
namespace Go.Proofs.YtbekghinikjjeaaGreatDoor.pkk
open Go.RowKit Go.Shelf Go.Proofs.YtbekghinikjjeaaGreatDoor.br Go.Proofs.YtbekghinikjjeaaGreatDoor.smt
theorem mk_flat {t : ByteArray} {ts : List Tr} (ht : parseT t = .ok ts) (hb : (msF .zero ts).back = false) (hd : (layT (catT ts)).deep = false) {s : ByteArray} (hs : s.size ≤ 1024) : ∃ b, Mk t s b ∧ b = (findF (layT (catT ts)) (bl s) ((bl s).length + 1) 0 (List.replicate (bl s).length 0, 0)).1.isSome := by
 obtain ⟨n, h1, h2⟩ := ly_parse ht hb
 have hm : ∃ o h, matchF 1 n (catT ts) (bl s) 0 = some (o, h) ∧ o.isSome = (findF (layT (catT ts)) (bl s) ((bl s).length + 1) 0 (List.replicate (bl s).length 0, 0)).1.isSome := by
  unfold matchF
  rw [Nat.sub_zero]
  generalize findF (layT (catT ts)) (bl s) ((bl s).length + 1) 0 (List.replicate (bl s).length 0, 0) = r
  obtain ⟨o, h⟩ := r
  cases o with
  | none => exact ⟨none, h, rfl, rfl⟩
  | some q =>
   obtain ⟨a, b⟩ := q
   refine ⟨some ((List.replicate (n + 1) (-1, -1)).set 0 ((a : Int), (b : Int))), h, ?_, rfl⟩
   show Option.map _ (smt.settle _ 1 _ _ _ _) = _
   rw [smt.settle, hd]
   rfl
 obtain ⟨o, h, hm, ho⟩ := hm
 exact ⟨o.isSome, ⟨ts, n, 1, o, h, ht, hb, h1, h2, hs, hm, rfl⟩, ho⟩
theorem deep_a : (layT (catT [byteT (oneP 97)])).deep = false := by decide +kernel
theorem deep_e : (layT (catT [])).deep = false := by decide +kernel
theorem e_b : ∀ k, k < 4 → (bat (layT (catT [])).bds k).fi = 0 ∧ (bat (layT (catT [])).bds k).no = true := by decide +kernel
theorem mk_e {s : ByteArray} (hs : s.size ≤ 1024) : Mk ⟨#[]⟩ s true := by
 obtain ⟨b, h1, h2⟩ := mk_flat e_p rfl deep_e hs
 have hb : b = true := by
  rw [h2, findF]
  have hk : kindAt (bl s).length 0 < 4 := by
   unfold kindAt
   cases Nat.beq 0 0 <;> cases Nat.beq 0 (bl s).length <;> decide
  obtain ⟨e1, e2⟩ := e_b _ hk
  rw [e1, e2]
  rw [runF]
  cases Nat.beq 0 (bl s).length <;> simp
 rw [hb] at h1
 exact h1
def lastG : List Gi := [⟨3, 0, ⟨#[]⟩, 0, 0, ⟨#[]⟩, false⟩, ⟨3, 0, ⟨#[97]⟩, 0, 0, ⟨#[]⟩, false⟩, ⟨3, 0, ⟨#[98]⟩, 0, 0, ⟨#[]⟩, false⟩]
def lo (t : Option ByteArray) : Pr := ⟨3, 0, t, 0, 0, none, false, false⟩
def lastR : List Pr := [lo none, lo (some ⟨#[97]⟩), lo (some ⟨#[98]⟩)]
theorem last_good : ∀ g ∈ lastG, GdI g := by
 intro g hg
 simp only [lastG, List.mem_cons, List.not_mem_nil, or_false] at hg
 rcases hg with rfl | rfl | rfl
 · exact ⟨gd_empty _, gd_none _ _, nofun⟩
 · exact ⟨gd_a _, gd_none _ _, nofun⟩
 · exact ⟨gd_b _, gd_none _ _, nofun⟩
theorem last_rows : lastG.map rowOf = lastR := by kernel_rfl
def lfd (ba : Bool) (t _x : ByteArray) : Bool := if t.data.toList = [97] then ba else true
theorem use_w {w W : World} {pb : Nat} {rs : List Pr} {u : Option ByteArray} (hb : Below w.heap.size w W) (h : PkAt W w.heap.size pb rs u) {v : Value} {t : Option ByteArray} (hv : ReV W w.heap.size v t) : Calls Tryz.prog 15 #[.pointer (some ⟨pb, 0, none⟩), v] W fun e w' => (∃ v, e = .returned v) ∧ PkAt w' w.heap.size pb rs (t <|> u) ∧ Below w.heap.size w w' := by
 have h0 := h
 obtain ⟨rb, cap, cs, h1, h2, h3, h4, h5, h6⟩ := h
 refine (use_any h1 h2 hb.size hv).mono ?_
 rintro e w' ⟨he, hp, hm⟩
 refine ⟨he, ⟨rb, cap, cs, hp, h2, h3, h4, hm.oth h4 h5 (by decide), fun i r hi => (h6 i r hi).mv hm ⟨cs, h5⟩ h4⟩, hb.trans hm.bel⟩
theorem walk_last (s : ByteArray) (use : Bool) (w : World) (hg : Glob w) (hT : Tab w) : Calls Tryz.prog 6 #[.string s, .bool use] w fun e w' => e = .returned (.bool true) ∧ Below w.heap.size w w' := by
 have HG := hideT (And.intro hg hT)
 have hA := awake_any w hg hT
 clear hg hT
 go_enter Tryz.func6, Tryz.ntmps6
 go_wp2_with fail
 refine hA.mono ?_
 rintro e w1 ⟨rfl, hb⟩
 have HB := hideT hb
 clear hb hA
 go_upto_region 4 with fail
 obtain ⟨q, hq, hqs⟩ : ∃ q, s.extract 0 (min (s.size : Int) 50).toNat = q ∧ q.size ≤ 1024 := ⟨_, rfl, by rw [ByteArray.size_extract]; omega⟩
 rw [hq]
 clear hq
 obtain ⟨ba, hba, hbq⟩ := mk_flat a_p (a_n 97).1 deep_a hqs
 clear hbq
 have hbe := mk_e hqs
 have HK := hideT (And.intro hba (And.intro hbe hqs))
 clear hba hbe hqs
 go_wp2_with fail
 refine (Go.Proofs.YtbekghinikjjeaaGreatDoor.pkk.match_any ⟨#[]⟩ w1).mono ?_
 rintro e w2 ⟨rfl, hb⟩
 have HB2 := hideT (HB.out.trans (hb.mono HB.out.size))
 clear hb HB
 go_wp2_with fail
 refine (Go.Proofs.YtbekghinikjjeaaGreatDoor.pkk.match_any ⟨#[97]⟩ w2).mono ?_
 rintro e w3 ⟨rfl, hb⟩
 have HB3 := hideT (HB2.out.trans (hb.mono HB2.out.size))
 clear hb HB2
 go_wp2_with fail
 refine (Go.Proofs.YtbekghinikjjeaaGreatDoor.pkk.match_any ⟨#[98]⟩ w3).mono ?_
 rintro e w4 ⟨rfl, hb⟩
 have HB4 := hideT (HB3.out.trans (hb.mono HB3.out.size))
 clear hb HB3
 have HN := hideT (new_w HG.out.1 HB4.out lastG (by decide) last_good)
 go_wp2_with fail
 refine Calls.mono HN.out ?_
 rintro e w5 ⟨pb, rfl, hp, hb⟩
 rw [last_rows] at hp
 have HP := hideT (And.intro hp hb)
 clear hp hb HN HB4
 have h1 := ask_w (fd := lfd ba) HG.out.1 HG.out.2 HP.out.2 HP.out.1 (i := 0) (r := lo none) rfl (sp := q) 1 false (fun x hx => by rcases hx with hx | hx <;> cases hx) (R := ((false, false, 24), lastR, none)) (by cases ba <;> kernel_rfl)
 clear HP
 go_wp2_with fail
 refine Calls.mono h1 ?_
 rintro e w6 ⟨rfl, hp, hb, _⟩
 have HP := hideT (And.intro hp hb)
 clear hp hb h1
 have h1 := ask_w (fd := lfd ba) HG.out.1 HG.out.2 HP.out.2 HP.out.1 (i := 1) (r := lo (some ⟨#[97]⟩)) rfl (sp := q) 1 false (fun x hx => by rcases hx with hx | hx <;> first | (obtain rfl := Option.some.inj hx; exact HK.out.1) | cases hx) (R := ((ba, true, 0), lastR, some ⟨#[97]⟩)) (by cases ba <;> kernel_rfl)
 clear HP
 go_wp2_with fail
 refine Calls.mono h1 ?_
 rintro e w7 ⟨rfl, hp, hb, _⟩
 have HP := hideT (And.intro hp hb)
 clear hp hb h1
 have h1 := ask_w (fd := lfd ba) HG.out.1 HG.out.2 HP.out.2 HP.out.1 (i := 0) (r := lo none) rfl (sp := q) 1 false (fun x hx => by rcases hx with hx | hx <;> (obtain rfl := Option.some.inj hx) <;> exact HK.out.1) (R := ((ba, true, 0), lastR, some ⟨#[97]⟩)) (by cases ba <;> kernel_rfl)
 clear HP
 go_wp2_with fail
 refine Calls.mono h1 ?_
 rintro e w8 ⟨rfl, hp, hb, _⟩
 have HP := hideT (And.intro hp hb)
 clear hp hb h1
 have h1 := use_w HP.out.2 HP.out.1 (v := .pointer none) (t := none) rfl
 clear HP
 go_wp2_with fail
 refine Calls.mono h1 ?_
 rintro e w9 ⟨⟨v9, rfl⟩, hp, hb⟩
 have HP := hideT (And.intro hp hb)
 clear hp hb h1
 go_upto_region 11 with fail
 cases use
 case false =>
  go_upto_region 14 with fail
  have h1 := ask_w (fd := lfd ba) HG.out.1 HG.out.2 HP.out.2 HP.out.1 (i := 0) (r := lo none) rfl (sp := q) 1 false (fun x hx => by rcases hx with hx | hx <;> (obtain rfl := Option.some.inj hx) <;> exact HK.out.1) (R := ((ba, true, 0), lastR, some ⟨#[97]⟩)) (by cases ba <;> kernel_rfl)
  clear HP
  go_wp2_with fail
  refine Calls.mono h1 ?_
  rintro e v1 ⟨rfl, hp, hb, _⟩
  have HP := hideT (And.intro hp hb)
  clear hp hb h1
  have h2 := last_any HP.out.1
  go_wp2_with fail
  refine Calls.mono h2 ?_
  rintro e v2 ⟨⟨v, rfl, hv⟩, rfl⟩
  obtain ⟨mb2, _, rfl, _⟩ := hv
  clear h2
  go_wp2_with fail
  refine (use_nil v2 _).mono ?_
  rintro e v3 ⟨⟨x3, rfl⟩, hb⟩
  have HP3 := hideT (And.intro (HP.out.1.below HP.out.2.size hb) (HP.out.2.trans (hb.mono HP.out.2.size)))
  clear hb HP
  go_wp2_with fail
  refine (ask_nil 0 1 false q v3).mono ?_
  rintro e v4 ⟨rfl, hb⟩
  have HP4 := hideT (And.intro (HP3.out.1.below HP3.out.2.size hb) (HP3.out.2.trans (hb.mono HP3.out.2.size)))
  clear hb HP3
  go_wp2_with fail
  refine (ask_out HP4.out.1 (i := 3) (.inr (by decide)) 1 false q).mono ?_
  rintro e v5 ⟨rfl, rfl⟩
  go_wp2_with fail
  refine (ask_out HP4.out.1 (i := -1) (.inl (by decide)) 1 false q).mono ?_
  rintro e v6 ⟨rfl, rfl⟩
  go_wp2_with fail
  refine (last_nil _).mono ?_
  rintro e v7 ⟨rfl, rfl⟩
  go_wp2
  all_goals
   go_ret
   exact ⟨rfl, HP4.out.2⟩
 case true =>
  have hM := new_any e_p rfl w9 (glob_b (by obtain ⟨m, hm⟩ := HG.out.1; exact World.block_lt_of_cell? w _ hm) HG.out.1 HP.out.2)
  go_wp2_with fail
  refine Calls.mono hM ?_
  rintro e w10 ⟨mb, hmb, rfl, hmt, hb⟩
  have HM := hideT (And.intro hmb (And.intro hmt hb))
  clear hmb hmt hb hM
  go_upto_region 13 with fail
  have hF := (Below.refl w10.heap.size w10).alloc (Nat.le_refl _) (.cells #[.int .i64 0, .int .i64 0] 52)
  have hM := mv_below (pb := pb) (Nat.le_refl _) hF
  have h0 := HM.out.2.2.trans (hF.mono HM.out.2.2.size)
  have h1 := use_w (HP.out.2.trans (h0.mono HP.out.2.size)) (HP.out.1.below HP.out.2.size h0) (v := .pointer (some ⟨mb, 0, none⟩)) (t := some ⟨#[]⟩) ⟨mb, Nat.le_trans HP.out.2.size HM.out.1, rfl, hM.mat HM.out.2.1⟩
  clear HP HM hF hM h0
  go_wp2_with fail
  refine Calls.mono h1 ?_
  rintro e w11 ⟨⟨v11, rfl⟩, hp, hb⟩
  have HP := hideT (And.intro hp hb)
  clear hp hb h1
  go_upto_region 14 with fail
  have h1 := ask_w (fd := lfd ba) HG.out.1 HG.out.2 HP.out.2 HP.out.1 (i := 0) (r := lo none) rfl (sp := q) 1 false (fun x hx => by rcases hx with hx | hx <;> (obtain rfl := Option.some.inj hx) <;> exact HK.out.2.1) (R := ((true, true, 0), lastR, some ⟨#[]⟩)) (by cases ba <;> kernel_rfl)
  clear HP
  go_wp2_with fail
  refine Calls.mono h1 ?_
  rintro e v1 ⟨rfl, hp, hb, _⟩
  have HP := hideT (And.intro hp hb)
  clear hp hb h1
  have h2 := last_any HP.out.1
  go_wp2_with fail
  refine Calls.mono h2 ?_
  rintro e v2 ⟨⟨v, rfl, hv⟩, rfl⟩
  obtain ⟨mb2, _, rfl, _⟩ := hv
  clear h2
  go_wp2_with fail
  refine (use_nil v2 _).mono ?_
  rintro e v3 ⟨⟨x3, rfl⟩, hb⟩
  have HP3 := hideT (And.intro (HP.out.1.below HP.out.2.size hb) (HP.out.2.trans (hb.mono HP.out.2.size)))
  clear hb HP
  go_wp2_with fail
  refine (ask_nil 0 1 false q v3).mono ?_
  rintro e v4 ⟨rfl, hb⟩
  have HP4 := hideT (And.intro (HP3.out.1.below HP3.out.2.size hb) (HP3.out.2.trans (hb.mono HP3.out.2.size)))
  clear hb HP3
  go_wp2_with fail
  refine (ask_out HP4.out.1 (i := 3) (.inr (by decide)) 1 false q).mono ?_
  rintro e v5 ⟨rfl, rfl⟩
  go_wp2_with fail
  refine (ask_out HP4.out.1 (i := -1) (.inl (by decide)) 1 false q).mono ?_
  rintro e v6 ⟨rfl, rfl⟩
  go_wp2_with fail
  refine (last_nil _).mono ?_
  rintro e v7 ⟨rfl, rfl⟩
  go_wp2
  all_goals
   go_ret
   exact ⟨rfl, HP4.out.2⟩
theorem walk_pickLast (s0 : ByteArray) (use : Bool) (W : World) (hg : Glob W) (hT : Tab W) : Calls Tryz.prog 6 #[.string s0, .bool use] W fun e w' => e = .returned (.bool true) ∧ Below W.heap.size W w' := walk_last s0 use W hg hT
end Go.Proofs.YtbekghinikjjeaaGreatDoor.pkk
