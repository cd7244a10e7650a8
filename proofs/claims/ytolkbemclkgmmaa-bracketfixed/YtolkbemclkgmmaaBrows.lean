/- Several rows of bytes of one's own, no two in one block: kept, added to, written, grown. -/
import Derived.Test.YtolkbemclkgmmaaTextM
import Derived.WalkKit
import Derived.WalkSpells
import Derived.WalkLawsBesides
import Derived.Maps.AppendAt
import Derived.Laws.OwnMore
namespace Go.Proofs.Ytolkbemclkgmmaa
open Go.RowKit
namespace brows

theorem owns_mono {W : World} {base base' : Nat} {e : TypeId} {size : Nat} {v : Value} {n : Nat} {xs : List Value} (h : W.ownsRow base e size v n xs) (hb : base' ≤ base) : W.ownsRow base' e size v n xs := by
  obtain ⟨hl, h⟩ := h
  refine ⟨hl, ?_⟩
  rcases h with h | ⟨g, cap, cur, hv, hg, rest⟩
  · exact .inl h
  · exact .inr ⟨g, cap, cur, hv, by omega, rest⟩

/-- Two values that don't lie in one block. -/
def Apart (u v : Value) : Prop := ∀ k, u.ownBlock = some k → v.ownBlock = some k → False

theorem Apart.symm {u v : Value} (h : Apart u v) : Apart v u := fun k a b => h k b a

abbrev R := Value × List Nat

def Rows (W : World) (base : Nat) (rs : List R) : Prop :=
  (∀ r ∈ rs, W.ownsRow base 5 1 r.1 r.2.length (byteVals r.2)) ∧ rs.Pairwise (fun r r' => Apart r.1 r'.1)

theorem Rows.nil (W : World) (base : Nat) : Rows W base [] := ⟨fun _ h => (List.not_mem_nil h).elim, List.Pairwise.nil⟩

theorem Rows.head {W : World} {base : Nat} {v : Value} {l : List Nat} {rs : List R} (h : Rows W base ((v, l) :: rs)) : W.ownsRow base 5 1 v l.length (byteVals l) := h.1 (v, l) (by simp)

theorem Rows.below {W W' : World} {base : Nat} {rs : List R} (h : Rows W base rs) (hb : Below W.heap.size W W') : Rows W' base rs :=
  ⟨fun r hr => owns_below (h.1 r hr) hb, h.2⟩

theorem Rows.alloc {W : World} {base : Nat} {rs : List R} (h : Rows W base rs) (o : Obj) : Rows (W.alloc o) base rs :=
  ⟨fun r hr => (h.1 r hr).alloc o, h.2⟩

theorem Rows.add {W W' : World} {base : Nat} {rs : List R} {v : Value} {l : List Nat} (h : Rows W base rs) (hb : Below W.heap.size W W') (hB : base ≤ W.heap.size) (ho : W'.ownsRow W.heap.size 5 1 v l.length (byteVals l)) : Rows W' base ((v, l) :: rs) := by
  have h' := h.below hb
  refine ⟨fun r hr => ?_, List.pairwise_cons.2 ⟨fun r hr k hk hk2 => ?_, h'.2⟩⟩
  · rcases List.mem_cons.1 hr with rfl | hr
    · exact owns_mono ho hB
    · exact h'.1 r hr
  · have h1 := owns_block ho k hk
    have h2 := (h.1 r hr).lt k hk2
    omega

theorem Rows.pick {W : World} {base : Nat} (xs ys : List R) (r : R) (h : Rows W base (xs ++ r :: ys)) : Rows W base (r :: (xs ++ ys)) := by
  refine ⟨fun r' hr => h.1 r' ?_, (List.perm_middle.pairwise_iff (fun hab => Apart.symm hab)).1 h.2⟩
  simp only [List.mem_cons, List.mem_append] at hr ⊢
  rcases hr with h | h | h
  · exact .inr (.inl h)
  · exact .inl h
  · exact .inr (.inr h)

theorem Rows.grown {W W' : World} {base : Nat} {rs : List R} {v v' : Value} {l l' : List Nat} (h : Rows W base ((v, l) :: rs)) (ho : W'.ownsRow base 5 1 v' l'.length (byteVals l')) (hg : W.grownBy W' v.ownBlock) (ha : v'.ownBlock = v.ownBlock ∨ v'.ownBlock = some W.heap.size) : Rows W' base ((v', l') :: rs) := by
  obtain ⟨h1, h2⟩ := h
  rw [List.pairwise_cons] at h2
  have old : ∀ r ∈ rs, W.ownsRow base 5 1 r.1 r.2.length (byteVals r.2) := fun r hr => h1 r (List.mem_cons_of_mem _ hr)
  refine ⟨fun r hr => ?_, List.pairwise_cons.2 ⟨fun r hr k hk hk2 => ?_, h2.2⟩⟩
  · rcases List.mem_cons.1 hr with rfl | hr
    · exact ho
    · refine (old r hr).kept hg ?_
      cases hk : r.1.ownBlock with
      | none => exact .inl rfl
      | some k => exact .inr fun e => h2.1 r hr k e.symm hk
  · rcases ha with e | e
    · exact h2.1 r hr k (e ▸ hk) hk2
    · have hkk : k = W.heap.size := by rw [e] at hk; exact (Option.some.inj hk).symm
      have := ((old r hr).lt k hk2).2
      omega

theorem Rows.store {W : World} {base : Nat} {rs : List R} {g cap : Nat} {l : List Nat} (h : Rows W base ((.slice (some ⟨g, 0, none⟩) l.length cap, l) :: rs)) (i : Nat) (x : Nat) :
    Rows (W.setCell ⟨g, i, none⟩ (.int .u8 (x : Nat))) base ((.slice (some ⟨g, 0, none⟩) l.length cap, l.set i x) :: rs) := by
  obtain ⟨hs, hg⟩ := h.head.stored i (.int .u8 (x : Nat))
  refine Rows.grown h ?_ hg (.inl rfl)
  rw [List.length_set]
  have e : byteVals (l.set i x) = (byteVals l).set i (.int .u8 (x : Nat)) := by simp [byteVals, List.map_set]
  rw [e]
  exact hs

end brows
end Go.Proofs.Ytolkbemclkgmmaa
