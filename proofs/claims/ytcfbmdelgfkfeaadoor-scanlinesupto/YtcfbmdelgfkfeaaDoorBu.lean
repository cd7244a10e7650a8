/- strings.Builder. -/
import Derived.Test.YtcfbmdelgfkfeaaDoorUk
import Derived.Lib.AppendStr
import Derived.Lib.UnsafeStr
import Derived.Laws.Externs
import Derived.Shelf.Strings.Builder1
namespace Go.Proofs.YtcfbmdelgfkfeaaDoor
open Go.RowKit Go.Shelf

theorem builder_size : (Tryd.prog.info? 40).map (·.size) = some 2 := by kernel_rfl

theorem builder_lies : liesAt Tryd.prog Tryd.prog.depth 40 (2 / Tryd.prog.cellsOf 40) 0 40 1 = true := by kernel_rfl

set_option maxHeartbeats 1000000 in
set_option maxRecDepth 100000 in
theorem copyCheck_used (b : Nat) (w : World) (h0 : w.cell? ⟨b, 0, none⟩ = some (.pointer (some ⟨b, 0, none⟩))) :
    Calls Tryd.prog 33 #[.pointer (some ⟨b, 0, none⟩)] w fun e w' => e = .returned (.tuple #[]) ∧ w' = w := by
  obtain ⟨j, hj, _⟩ := Option.map_eq_some_iff.1 builder_size
  go_enter Tryd.func33, Tryd.ntmps33
  go_wp2
  rw [Lib.run_neq_ptr_same w _ Tryd.underlying37 hj]
  go_wp2
  go_end0
  exact ⟨rfl, rfl⟩

set_option maxHeartbeats 1000000 in
set_option maxRecDepth 100000 in
theorem copyCheck_fresh (b : Nat) (w : World) (h0 : w.cell? ⟨b, 0, none⟩ = some (.pointer none)) (hsh : w.shape? b = some (40, 2)) (hfz : w.frozen? ⟨b, 0, none⟩ = false) :
    Calls Tryd.prog 33 #[.pointer (some ⟨b, 0, none⟩)] w fun e w' => e = .returned (.tuple #[]) ∧ w' = w.setCell ⟨b, 0, none⟩ (.pointer (some ⟨b, 0, none⟩)) := by
  obtain ⟨j, hj, hjs⟩ := Option.map_eq_some_iff.1 builder_size
  go_enter Tryd.func33, Tryd.ntmps33
  go_wp2
  rw [Lib.run_to_unsafe w ⟨b, 0, none⟩ Tryd.underlying37 Tryd.underlying58 hj (by rw [hjs]; decide) hsh (Nat.zero_lt_succ 1)]
  simp only [Result.andThen]
  rw [Oper.upon_value]
  go_wp2
  rw [run_callFunc_extern Tryd.func39 (by kernel_rfl) (by kernel_rfl) (by kernel_rfl) (e := Extern.AbiNoEscape.same) (by kernel_rfl)]
  rw [Lib.run_noEscape]
  simp only [Result.andThen]
  rw [Oper.upon_value]
  go_wp2
  rw [Lib.run_from_unsafe w ⟨b, 0, none⟩ Tryd.underlying58 Tryd.underlying37 hj hsh builder_lies]
  simp only [Result.andThen]
  rw [Oper.upon_value]
  go_wp2
  go_end0
  exact ⟨rfl, rfl⟩

/-- Block r is there, and none of the builder's at b. -/
def NotB (W : World) (b r : Nat) : Prop := r < W.heap.size ∧ r ≠ b ∧ ∀ p v, W.heap[b]? = some (.cells #[p, v] 40 (0, 0)) → v.ownBlock ≠ some r

/-- What isn't the builder's stays. -/
def KeepB (W W' : World) (b : Nat) : Prop := ∀ r, NotB W b r → NotB W' b r ∧ W'.heap[r]? = W.heap[r]?

theorem KeepB.refl (W : World) (b : Nat) : KeepB W W b := fun _ h => ⟨h, rfl⟩

theorem KeepB.trans {W W' W'' : World} {b : Nat} (h : KeepB W W' b) (h' : KeepB W' W'' b) : KeepB W W'' b := fun r hr =>
  ⟨(h' r (h r hr).1).1, (h' r (h r hr).1).2.trans (h r hr).2⟩

theorem copyCheck_any (B b : Nat) (bs : List Value) (w : World) (h : Lib.IsBuilder 40 5 B b bs w) :
    Calls Tryd.prog 33 #[.pointer (some ⟨b, 0, none⟩)] w fun e w' => e = .returned (.tuple #[]) ∧ (Lib.BuilderAt 40 5 B b (.pointer (some ⟨b, 0, none⟩)) bs w' ∧ Below B w w' ∧ KeepB w w' b) := by
  rcases h with h | h
  · refine (copyCheck_fresh b w h.cell0 h.shape h.frozen0).mono ?_
    rintro e w' ⟨rfl, rfl⟩
    refine ⟨rfl, h.used _, (Below.refl B w).setCell (p := ⟨b, 0, none⟩) h.1 _, fun r hr => ⟨⟨by simpa using hr.1, hr.2.1, fun p v hv => ?_⟩, put_far _ _ _ _ hr.2.1⟩⟩
    obtain ⟨hB, v0, hbk, hown, hne⟩ := h
    have e := hr.2.2 _ _ hbk
    simp only [World.setCell, Array.getElem?_modify, if_true, hbk, Option.map_some] at hv
    cases hv
    exact e
  · refine (copyCheck_used b w h.cell0).mono ?_
    rintro e w' ⟨rfl, rfl⟩
    exact ⟨rfl, h, Below.refl B _, KeepB.refl _ _⟩

/-- A row of the builder's has grown. -/
theorem keep_grown {W W2 : World} {B b n g : Nat} {bs : List Value} {p v v' : Value} (hbk : W.heap[b]? = some (.cells #[p, v] 40 (0, 0))) (hown : W.ownsRow B 5 1 v n bs) (hg : W.grownBy W2 v.ownBlock) (hv : v'.ownBlock = v.ownBlock ∨ v'.ownBlock = some W.heap.size ∨ (v'.ownBlock = some g ∧ (v.ownBlock = some g ∨ g = W.heap.size))) : KeepB W (W2.setCell ⟨b, 1, none⟩ v') b := fun r hr => by
  have e := hr.2.2 _ _ hbk
  have hb2 : W2.heap[b]? = some (.cells #[p, v] 40 (0, 0)) := by
    rw [hg.block b (Array.getElem?_eq_some_iff.1 hbk).1 (fun e2 => by
      obtain ⟨_, _, cur, h3⟩ := owns_blk hown e2.symm
      rw [hbk] at h3
      cases h3)]
    exact hbk
  refine ⟨⟨?_, hr.2.1, fun p1 v1 h1 => ?_⟩, (put_far _ _ _ _ hr.2.1).trans (hg.block r hr.1 (fun e2 => e e2.symm))⟩
  · have := hg.size
    have := hr.1
    simp
    omega
  · simp only [World.setCell, Array.getElem?_modify, if_true, hb2, Option.map_some] at h1
    cases h1
    have := hr.1
    rcases hv with h | h | ⟨h, h2⟩
    · rw [show (v').ownBlock = _ from h]; exact e
    · intro e3
      rw [show (v').ownBlock = _ from h] at e3
      cases e3
      omega
    · intro e3
      rw [show (v').ownBlock = _ from h] at e3
      cases e3
      rcases h2 with h2 | h2
      · exact e h2
      · omega

theorem strCells_vals (s : ByteArray) : Lib.strCells s = strVals s.data.toList := rfl

set_option maxHeartbeats 2000000 in
set_option maxRecDepth 100000 in
theorem writeByte_any (B b : Nat) (bs : List Value) (c : Int) (w : World) (h : Lib.IsBuilder 40 5 B b bs w) (hlen : bs.length + 1 ≤ 140737488355328) (hBw : B ≤ w.heap.size) :
    Calls Tryd.prog 20 #[.pointer (some ⟨b, 0, none⟩), .int .u8 c] w fun e w' => e = .returned .nilIface ∧ (Lib.BuilderAt 40 5 B b (.pointer (some ⟨b, 0, none⟩)) (bs ++ [.int .u8 c]) w' ∧ Below B w w' ∧ KeepB w w' b) := by
  obtain ⟨i0, hi, hz0, hz1, hz2⟩ := info_parts info5
  go_enter Tryd.func20, Tryd.ntmps20
  go_wp2_with (go_at_call 33; refine (copyCheck_any B b bs _ h).mono ?_)
  rintro e w1 ⟨rfl, h1, hb1, hk1⟩
  obtain ⟨hB, v, hbk, hown, hne⟩ := h1
  have c0 : w1.cell? ⟨b, 0, none⟩ = some (.pointer (some ⟨b, 0, none⟩)) := by rw [Lib.cell_of_heap hbk]; rfl
  have c1 : w1.cell? ⟨b, 1, none⟩ = some v := by rw [Lib.cell_of_heap hbk]; rfl
  have hA := (Below.refl w1.heap.size w1).alloc (Nat.le_refl _) (.cells #[.int .u8 c] 5)
  have HN := hideT (new_cells w1 [.int .u8 c] 5)
  have hlt : b < w1.heap.size := (Array.getElem?_eq_some_iff.1 hbk).1
  have HS := hideT (And.intro hlt (And.intro hA (And.intro hbk (And.intro hown (And.intro hb1 hk1)))))
  clear hlt hA hb1 hk1
  go_wp2_with (at_builtin; refine wpList_append_lies _ rfl _ _ 38 rfl B 5 i0 _ 1 1 undB hi hz0 hz1 hz2 rfl (by omega) v bs.length bs rfl (owns_below hown HS.out.2.1) ⟨w1.heap.size, 0, none⟩ 1 1 [.int .u8 c] rfl rfl (fun j u hj => HN.out j u hj) (by simp [Value.oneCell']) (by omega) (by unfold maxLen; omega) (by omega) (by have := HS.out.2.2.2.2.1.size; simp; omega) _ rfl ?_)
  intro g gc w2 hown' hgrow hat hglt
  have hbk1 : (w1.alloc (.cells #[.int .u8 c] 5)).heap[b]? = some (.cells #[.pointer (some ⟨b, 0, none⟩), v] 40 (0, 0)) := (HS.out.2.1.block b HS.out.1).trans hbk
  have hb2 : w2.heap[b]? = some (.cells #[.pointer (some ⟨b, 0, none⟩), v] 40 (0, 0)) := by
    rw [hgrow.block b (Nat.lt_of_lt_of_le HS.out.1 HS.out.2.1.size) (fun e => hne e.symm)]
    exact hbk1
  have d0 : w2.cell? ⟨b, 0, none⟩ = some (.pointer (some ⟨b, 0, none⟩)) := by rw [Lib.cell_of_heap hb2]; rfl
  have d1 : w2.cell? ⟨b, 1, none⟩ = some v := by rw [Lib.cell_of_heap hb2]; rfl
  have f1 : w2.frozen? ⟨b, 1, none⟩ = false := Lib.frozen_of_heap hb2 1
  have k0 : KeepB w1 (w1.alloc (.cells #[.int .u8 c] 5)) b := fun r hr => ⟨⟨Nat.lt_of_lt_of_le hr.1 HS.out.2.1.size, hr.2.1, fun p v hv => hr.2.2 p v ((HS.out.2.1.block b HS.out.1).symm.trans hv)⟩, HS.out.2.1.block r hr.1⟩
  have HK := hideT ((HS.out.2.2.2.2.2.trans k0).trans (keep_grown (g := g) hbk1 (owns_below hown HS.out.2.1) hgrow (v' := .slice (some ⟨g, 0, none⟩) (bs.length + 1) gc) (.inr (.inr ⟨rfl, hat.imp id (fun e => by rw [e]; simp)⟩))))
  have HB := hideT ((((HS.out.2.2.2.2.1.trans (HS.out.2.1.mono (by have := HS.out.2.2.2.2.1.size; omega))).grown hgrow (by have := HS.out.2.2.2.2.1.size; have := HS.out.2.1.size; omega) (fun k hk => (hown.lt k hk).1))).setCell (p := ⟨b, 1, none⟩) hB (.slice (some ⟨g, 0, none⟩) (bs.length + 1) gc))
  clear hbk hbk1 hgrow hat k0 hown c0 c1 h hglt
  go_wp2
  go_ret
  refine ⟨rfl, ?_, HB.out, HK.out⟩
  exact Lib.BuilderAt.put (T := 40) (e := 5) hB hb2 (bs' := bs ++ [.int .u8 c]) (by simpa using hown') (by decide)

def lays169_ren : Go.Shelf.Ren := ⟨fun | 169 => 21 | n => n, fun | 70 => 37 | 9 => 9 | 0 => 0 | 72 => 40 | 37 => 38 | 127 => 54 | 3 => 3 | 5 => 5 | n => n, fun | n => n⟩

theorem lays169 : Go.Proofs.Lays.n169 Tryd.prog lays169_ren := {
  mixed := by kernel_rfl
  f169 := Tryd.func21.trans (congrArg some (by kernel_rfl))
  t0 := Tryd.underlying0
  a0 := Tryd.isAgg0
  z0 := Tryd.sizeOf0
  v0 := Tryd.zeroValue0
  t3 := Tryd.underlying3
  a3 := Tryd.isAgg3
  z3 := Tryd.sizeOf3
  v3 := Tryd.zeroValue3
  t9 := Tryd.underlying9
  a9 := Tryd.isAgg9
  z9 := Tryd.sizeOf9
  v9 := Tryd.zeroValue9
  t37 := Tryd.underlying38
  a37 := Tryd.isAgg38
  z37 := Tryd.sizeOf38
  v37 := Tryd.zeroValue38
  t70 := Tryd.underlying37
  a70 := Tryd.isAgg37
  z70 := Tryd.sizeOf37
  v70 := Tryd.zeroValue37
  t72 := Tryd.underlying40
  a72 := Tryd.isAgg40
  z72 := Tryd.sizeOf40
  v72 := Tryd.zeroValue40
  t127 := Tryd.underlying54
  a127 := Tryd.isAgg54
  z127 := Tryd.sizeOf54
  v127 := Tryd.zeroValue54 }

theorem Builder_Extra_169 : Builder.Extra Tryd.prog lays169_ren := {
  sizeBuilder := by kernel_rfl
  liesBuilder := by kernel_rfl
  t5 := Tryd.underlying5
  a5 := Tryd.isAgg5
  z5 := Tryd.sizeOf5
  v5 := Tryd.zeroValue5
  infoByte := by kernel_rfl
  cellsByte := by kernel_rfl
  sizeByte := by kernel_rfl
  neB5 := by decide }

theorem builderString_any (B b : Nat) (l : List UInt8) (w : World) (h : Lib.IsBuilder 40 5 B b (Lib.byteCells l) w) (hBw : B ≤ w.heap.size) :
    Calls Tryd.prog 21 #[.pointer (some ⟨b, 0, none⟩)] w fun e w' => e = .returned (.string ⟨l.toArray⟩) ∧ Below B w w' := Any.Builder_String_any lays169 Builder_Extra_169 B b l w h hBw


theorem bu_stay {T e B b : Nat} {bs : List Value} {W W' : World} (h : Lib.IsBuilder T e B b bs W) (hb : Below W.heap.size W W') : Lib.IsBuilder T e B b bs W' := by
  rcases h with ⟨h0, v, h1, h2, h3⟩ | ⟨h0, v, h1, h2, h3⟩
  · exact .inl ⟨h0, v, (hb.block b (Array.getElem?_eq_some_iff.1 h1).1).trans h1, owns_below h2 hb, h3⟩
  · exact .inr ⟨h0, v, (hb.block b (Array.getElem?_eq_some_iff.1 h1).1).trans h1, owns_below h2 hb, h3⟩

theorem strCells_bst (l : List UInt8) : Lib.strCells (bst l) = Lib.byteCells l := by simp [Lib.strCells, Lib.byteCells, bst]

theorem bu_blk {T e B b : Nat} {bs : List Value} {W : World} (h : Lib.IsBuilder T e B b bs W) : ∃ p v, W.heap[b]? = some (.cells #[p, v] T (0, 0)) ∧ W.ownsRow B e 1 v bs.length bs := by
  rcases h with ⟨h0, v, h1, h2, h3⟩ | ⟨h0, v, h1, h2, h3⟩
  · exact ⟨_, v, h1, h2⟩
  · exact ⟨_, v, h1, h2⟩

/-- A new block is none of the builder's. -/
theorem keep_below {W W' : World} {b : Nat} (hlt : b < W.heap.size) (hb : Below W.heap.size W W') : KeepB W W' b := fun r hr =>
  ⟨⟨Nat.lt_of_lt_of_le hr.1 hb.size, hr.2.1, fun p v hv => hr.2.2 p v ((hb.block b hlt).symm.trans hv)⟩, hb.block r hr.1⟩

theorem notB_new {W W' : World} {B b : Nat} {bs : List Value} (h : Lib.IsBuilder 40 5 B b bs W) (hb : Below W.heap.size W W') (hs : W.heap.size < W'.heap.size) : NotB W' b W.heap.size := by
  obtain ⟨p, v, h1, h2⟩ := bu_blk h
  have hlt := (Array.getElem?_eq_some_iff.1 h1).1
  refine ⟨hs, by omega, fun p' v' hv => ?_⟩
  rw [hb.block b hlt, h1] at hv
  cases hv
  intro e
  have := (owns_blk h2 e).2.1
  omega

end Go.Proofs.YtcfbmdelgfkfeaaDoor
