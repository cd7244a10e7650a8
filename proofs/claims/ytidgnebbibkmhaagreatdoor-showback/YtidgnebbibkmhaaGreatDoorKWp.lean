/- show: what is written is the one form; String. -/
import Derived.Test.YtidgnebbibkmhaaGreatDoorKWo
import Derived.Lib.UnsafeStr
set_option maxRecDepth 100000
set_option maxHeartbeats 4000000
namespace Go.Proofs.YtidgnebbibkmhaaGreatDoor
open Go.RowKit
open scanP scrP tpl ytb
namespace sho

/-- A step of the writer writes this, or is stuck. -/
structure Wt (S : List UInt8 × Bool → List UInt8 × Bool) (o : Option (List UInt8)) : Prop where
  ok : ∀ t, o = some t → ∀ l st, S (l, st) = (l ++ t, st)
  no : o = none → ∀ x, (S x).2 = true
  up : ∀ l, (S (l, true)).2 = true
theorem Wt.bt (ts : List (List UInt8)) : Wt (btS ts) (btw ts) := by
  unfold btS
  cases btw ts with
  | none => exact ⟨fun t e => (by cases e), fun _ _ => rfl, fun _ => rfl⟩
  | some t => exact ⟨fun u e l st => (by cases e; rfl), fun e => (by cases e), fun _ => rfl⟩
theorem Wt.ad (a : Adr) : Wt (adS a) (adW a) := by
  unfold adS adW
  split
  · exact ⟨fun u e l st => (by cases e; rfl), fun e => (by cases e), fun _ => rfl⟩
  · split
    · exact ⟨fun u e l st => (by cases e; rfl), fun e => (by cases e), fun _ => rfl⟩
    · split
      · have h := Wt.bt [a.re]
        cases hb : btw [a.re] with
        | none => exact ⟨fun t e => (by cases e), fun _ x => h.no hb _, fun l => h.no hb _⟩
        | some t =>
          refine ⟨fun u e l st => ?_, fun e => (by cases e), fun l => h.up _⟩
          cases e
          rw [h.ok t hb]
          simp
      · exact ⟨fun u e l st => (by cases e; simp), fun e => (by cases e), fun _ => rfl⟩
theorem Wt.rs (c : Co) : Wt (rsS c) (rsW c) := by
  unfold rsS rsW
  split
  · exact ⟨fun u e l st => (by cases e; rfl), fun e => (by cases e), fun _ => rfl⟩
  · split
    · exact ⟨fun u e l st => (by cases e; rfl), fun e => (by cases e), fun _ => rfl⟩
    · split
      · exact ⟨fun u e l st => (by cases e; rfl), fun e => (by cases e), fun _ => rfl⟩
      · split
        · have h := Wt.bt [c.re, psW c.ps]
          unfold sbS
          cases hb : btw [c.re, psW c.ps] with
          | none => exact ⟨fun t e => (by cases e), fun _ x => h.no hb _, fun l => h.no hb _⟩
          | some t =>
            refine ⟨fun u e l st => ?_, fun e => (by cases e), fun l => h.up _⟩
            cases e
            rw [h.ok t hb]
            simp
        · split
          · exact Wt.bt _
          · exact ⟨fun u e l st => (by cases e; simp), fun e => (by cases e), fun _ => rfl⟩
theorem Wt.x2 (c : Co) : (∀ x y, adW c.a = some x → abW c = some y → ∀ l st, x2S c (l, st) = (l ++ (x ++ y), st)) ∧ (adW c.a = none ∨ abW c = none → ∀ x, (x2S c x).2 = true) ∧ ∀ l, (x2S c (l, true)).2 = true := by
  have ha := Wt.ad c.a
  have hb := Wt.ad c.b
  have up2 : ∀ x : List UInt8 × Bool, x.2 = true → (adS c.b x).2 = true := fun ⟨l, st⟩ e => by cases e; exact hb.up l
  have up1 : ∀ x : List UInt8 × Bool, x.2 = true → (adS c.a x).2 = true := fun ⟨l, st⟩ e => by cases e; exact ha.up l
  unfold x2S abW
  split
  · refine ⟨fun x y hx hy l st => ?_, fun h x => ?_, fun l => ha.up l⟩
    · cases hy; rw [ha.ok x hx, List.append_nil]
    · rcases h with h | h
      · exact ha.no h x
      · cases h
  · refine ⟨fun x y hx hy l st => ?_, fun h x => ?_, fun l => up2 _ (up1 _ rfl)⟩
    · cases hz : adW c.b with
      | none => rw [hz] at hy; cases hy
      | some z =>
        rw [hz] at hy
        cases hy
        rw [ha.ok x hx, hb.ok z hz]
        simp
    · rcases h with h | h
      · exact up2 _ (ha.no h x)
      · cases hz : adW c.b with
        | none => exact hb.no hz _
        | some z => rw [hz] at h; cases h
theorem Wt.cm (c : Co) : Wt (cmS c) (cmW c) := by
  have hr := Wt.rs c
  obtain ⟨x1, x2, x3⟩ := Wt.x2 c
  have up : ∀ x : List UInt8 × Bool, x.2 = true → (rsS c x).2 = true := fun ⟨l, st⟩ e => by cases e; exact hr.up l
  refine ⟨fun t e l st => ?_, fun e x => ?_, fun l => up _ (x3 l)⟩
  · unfold cmW at e
    split at e
    · rename_i x y z hx hy hz
      cases e
      unfold cmS x4S
      rw [x1 x y hx hy]
      simp only
      rw [hr.ok z hz]
      simp
    · cases e
  · unfold cmW at e
    split at e
    · cases e
    · rename_i hn
      show (rsS c (x4S c x)).2 = true
      cases hx : adW c.a with
      | none => exact up _ (x2 (.inl hx) x)
      | some u =>
        cases hy : abW c with
        | none => exact up _ (x2 (.inr hy) x)
        | some v =>
          cases hz : rsW c with
          | none => exact hr.no hz _
          | some z => exact absurd hz (hn u v z hx hy)
theorem cmS_len (c : Co) (x : List UInt8 × Bool) (z : SzC c) : (cmS c x).1.length ≤ x.1.length + 100040 := by
  have h1 := x2S_len c x z
  have h2 := rsS_len c (x4S c x) z
  have h3 : (ntW c).length ≤ 1 := by unfold ntW; split <;> simp
  unfold cmS
  have h4 : (x4S c x).1.length = (x2S c x).1.length + ((ntW c).length + 1) := by unfold x4S; simp
  simp only [List.length_append, List.length_singleton]
  omega
/-- String of the writer. -/
theorem infoB1 : Tryz.prog.cellsOf 5 = 1 := by kernel_rfl
theorem freeze_below (W : World) (g n : Nat) {B : Nat} (hB : B ≤ g) : Below B W (W.freeze ⟨g, 0, none⟩ n) := by
  unfold World.freeze
  split
  · exact Below.refl _ _
  · refine ⟨rfl, rfl, rfl, by simp, fun j hj => ?_⟩
    simp only [Array.getElem?_modify]
    rw [if_neg (by omega)]
theorem wrT {W : World} {B b : Nat} {l : List UInt8} {st : Bool} (h : Wr W B b l st) (hn : l = [] → W.cell? ⟨b, 1, none⟩ = some (.slice none 0 0)) :
    Calls Tryz.prog 27 #[.pointer (some ⟨b, 0, none⟩)] W fun e w' => e = .returned (.string (bst l)) ∧ Below B W w' := by
  obtain ⟨p, v, h⟩ := h
  have c1 : W.drew.cell? ⟨b, 1, none⟩ = some v := by show W.cell? _ = _; rw [Lib.cell_of_heap h.blk]; rfl
  have hd : Below B W W.drew := (Below.refl _ W).drew
  by_cases h0 : l = []
  · have hv : v = .slice none 0 0 := Option.some.inj ((show W.drew.cell? ⟨b, 1, none⟩ = some v from c1).symm.trans (hn h0))
    subst hv
    subst h0
    have hSD : (Builtin.unsafeSliceData_ #[44] 107 #[.slice none 0 0]).run Tryz.prog W.drew = .ok (.pointer none) W.drew := rfl
    have hUS := Lib.run_unsafeString_none (P := Tryz.prog) W.drew 107 3 9 none
    have HB := hideT hd
    clear h hn
    go_enter Tryz.func27, Tryz.ntmps27
    go_wp2
    go_region
    all_goals (go_wp2; go_ret; exact ⟨rfl, HB.out⟩)
  · have hl0 : l.length ≠ 0 := by simpa using h0
    obtain ⟨g, cap, cur, rfl, hbg, hg, hnc, hcm, hcs, htake⟩ : ∃ g cap cur, v = .slice (some ⟨g, 0, none⟩) l.length cap ∧ B ≤ g ∧ W.heap[g]? = some (.cells cur 5 (0, 0)) ∧ l.length ≤ cap ∧ cap ≤ maxLen ∧ cur.size = cap * 1 ∧ cur.toList.take (l.length * 1) = Lib.byteCells l := by
      rcases h.own.2 with ⟨_, hz⟩ | ⟨g, cap, cur, hv, r⟩
      · exact absurd hz hl0
      · exact ⟨g, cap, cur, hv, r⟩
    have hSD : (Builtin.unsafeSliceData_ #[44] 107 #[.slice (some ⟨g, 0, none⟩) l.length cap]).run Tryz.prog W.drew = .ok (.pointer (some ⟨g, 0, none⟩)) W.drew := Lib.run_unsafeSliceData_row _ _ _ _ _ _ (by omega)
    have hUS : (Builtin.unsafeString_ #[107, 3] 9 #[.pointer (some ⟨g, 0, none⟩), .int .i64 l.length]).run Tryz.prog W.drew = .ok (.string (bst l)) (W.drew.freeze ⟨g, 0, none⟩ l.length) := by
      refine Lib.run_unsafeString_row W.drew 107 3 9 5 Tryz.underlying107 infoB1 g cur.size (by have hg' : W.drew.heap[g]? = some (.cells cur 5 (0, 0)) := hg; simp [World.shape?, hg']) l h0 (by omega) (by unfold maxLen at hcm; omega) ?_
      intro j x hx
      exact h.own.cells (g := g) rfl j (.int .u8 x.toNat) (by simp [Lib.byteCells, hx])
    have HF := hideT (hd.trans (freeze_below W.drew g l.length hbg))
    clear h htake hcs hnc hg hcm hn
    go_enter Tryz.func27, Tryz.ntmps27
    go_wp2
    go_region
    all_goals (go_wp2; go_ret; exact ⟨rfl, HF.out⟩)

end sho
end Go.Proofs.YtidgnebbibkmhaaGreatDoor
