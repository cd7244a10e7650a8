/- Several rows of one's own, no two in one block: kept, added to, written, grown. -/
import Derived.Test.YtfmgpcefghoncaaSplit
import Derived.Maps.AppendAt
import Derived.Laws.OwnMore
namespace Go.Proofs.Ytfmgpcefghoncaa
open Go.RowKit
namespace keeps

/-- Two values that don't lie in one block. -/
def Apart (u v : Value) : Prop := ∀ k, u.ownBlock = some k → v.ownBlock = some k → False

theorem Apart.symm {u v : Value} (h : Apart u v) : Apart v u := fun k a b => h k b a

abbrev R := Value × List (List UInt8)

def Rows (W : World) (base : Nat) (rs : List R) : Prop :=
  (∀ r ∈ rs, W.ownsRow base 9 1 r.1 r.2.length (strVals r.2)) ∧ rs.Pairwise (fun r r' => Apart r.1 r'.1)

theorem Rows.nil (W : World) (base : Nat) : Rows W base [] := ⟨fun _ h => (List.not_mem_nil h).elim, List.Pairwise.nil⟩

theorem Rows.head {W : World} {base : Nat} {v : Value} {l : List (List UInt8)} {rs : List R} (h : Rows W base ((v, l) :: rs)) : W.ownsRow base 9 1 v l.length (strVals l) := h.1 (v, l) (by simp)

theorem Rows.below {W W' : World} {base : Nat} {rs : List R} (h : Rows W base rs) (hb : Below W.heap.size W W') : Rows W' base rs :=
  ⟨fun r hr => owns_below (h.1 r hr) hb, h.2⟩

theorem Rows.alloc {W : World} {base : Nat} {rs : List R} (h : Rows W base rs) (o : Obj) : Rows (W.alloc o) base rs :=
  ⟨fun r hr => (h.1 r hr).alloc o, h.2⟩

theorem Rows.add {W W' : World} {base : Nat} {rs : List R} {v : Value} {l : List (List UInt8)} (h : Rows W base rs) (hb : Below W.heap.size W W') (hB : base ≤ W.heap.size) (ho : W'.ownsRow W.heap.size 9 1 v l.length (strVals l)) : Rows W' base ((v, l) :: rs) := by
  have h' := h.below hb
  refine ⟨fun r hr => ?_, List.pairwise_cons.2 ⟨fun r hr k hk hk2 => ?_, h'.2⟩⟩
  · rcases List.mem_cons.1 hr with rfl | hr
    · exact owns_mono ho hB
    · exact h'.1 r hr
  · have h1 := owns_block ho k hk
    have h2 := (h.1 r hr).lt k hk2
    omega

theorem Rows.pick {W : World} {base : Nat} (xs ys : List R) (r : R) (h : Rows W base (xs ++ r :: ys)) : Rows W base (r :: (xs ++ ys)) := by
  refine ⟨fun r' hr => h.1 r' ?_, (List.perm_middle.pairwise_iff (fun hab => Apart.symm hab)).1 h.2⟩
  simp only [List.mem_cons, List.mem_append] at hr ⊢
  rcases hr with h | h | h
  · exact .inr (.inl h)
  · exact .inl h
  · exact .inr (.inr h)

theorem Rows.grown {W W' : World} {base : Nat} {rs : List R} {v v' : Value} {l l' : List (List UInt8)} (h : Rows W base ((v, l) :: rs)) (ho : W'.ownsRow base 9 1 v' l'.length (strVals l')) (hg : W.grownBy W' v.ownBlock) (ha : v'.ownBlock = v.ownBlock ∨ v'.ownBlock = some W.heap.size) : Rows W' base ((v', l') :: rs) := by
  obtain ⟨h1, h2⟩ := h
  rw [List.pairwise_cons] at h2
  have old : ∀ r ∈ rs, W.ownsRow base 9 1 r.1 r.2.length (strVals r.2) := fun r hr => h1 r (List.mem_cons_of_mem _ hr)
  refine ⟨fun r hr => ?_, List.pairwise_cons.2 ⟨fun r hr k hk hk2 => ?_, h2.2⟩⟩
  · rcases List.mem_cons.1 hr with rfl | hr
    · exact ho
    · refine (old r hr).kept hg ?_
      cases hk : r.1.ownBlock with
      | none => exact .inl rfl
      | some k => exact .inr fun e => h2.1 r hr k e.symm hk
  · rcases ha with e | e
    · exact h2.1 r hr k (e ▸ hk) hk2
    · have hkk : k = W.heap.size := by rw [e] at hk; exact (Option.some.inj hk).symm
      have := ((old r hr).lt k hk2).2
      omega

theorem Rows.store {W : World} {base : Nat} {rs : List R} {g cap : Nat} {l : List (List UInt8)} (h : Rows W base ((.slice (some ⟨g, 0, none⟩) l.length cap, l) :: rs)) (i : Nat) (x : List UInt8) :
    Rows (W.setCell ⟨g, i, none⟩ (.string (str x))) base ((.slice (some ⟨g, 0, none⟩) l.length cap, l.set i x) :: rs) := by
  obtain ⟨hs, hg⟩ := h.head.stored i (.string (str x))
  refine Rows.grown h ?_ hg (.inl rfl)
  rw [List.length_set]
  have e : strVals (l.set i x) = (strVals l).set i (.string (str x)) := by simp [strVals, List.map_set]
  rw [e]
  exact hs

theorem cell_two_new (w : World) (x y : Value) (t : TypeId) : ∀ j u, [x, y][j]? = some u → (w.alloc (.cells #[x, y] t)).cell? ((⟨w.heap.size, 0, none⟩ : Addr).add j) = some u := by
  intro j u hj
  have hb : (w.alloc (.cells #[x, y] t)).heap[w.heap.size]? = some (.cells #[x, y] t) := World.alloc_heap_new w _
  have hplain : (⟨w.heap.size, 0, none⟩ : Addr).add j = ⟨w.heap.size, 0 + j, none⟩ := by unfold Addr.add; split <;> simp_all
  rw [hplain, Lib.cell_of_heap hb, Nat.zero_add]
  simpa using hj

/-- An argument's texts behind a row of one's own. -/
theorem append_arg {w : World} {ops : Array Oper} {rest : List Oper} {o : Oper} {a : Act} {Q : Exit → Act → World → Prop} (hgd : o.guard = none) (s x : Operand)
    (ho : o.op = .call { callee := .builtin .append, args := #[s, x], argTypes := #[22, 22] }) (base : Nat) (v u : Value) (l m : List (List UInt8)) (hs : a.eval s = v)
    (hown : w.ownsRow base 9 1 v l.length (strVals l)) (hx : a.eval x = u) (hu : Row w u m) (hshape : u = .slice none 0 0 ∨ ∃ ad n c, u = .slice (some ad) n c) (hlen : l.length + m.length ≤ 8388608) (hbase : base ≤ w.heap.size)
    (h : ∀ v' w', w'.ownsRow base 9 1 v' (l ++ m).length (strVals (l ++ m)) → w.grownBy w' v.ownBlock → wpList Try.prog ops Q rest (a.put o.dst v') w') : wpList Try.prog ops Q (o :: rest) a w := by
  obtain ⟨i0, hi, hz0, hz1, hz2⟩ := info_parts info9
  rcases hshape with rfl | ⟨ad, n, c, rfl⟩
  · obtain rfl : m = [] := by
      obtain ⟨p, c, e⟩ := hu.shape
      cases hm : m with
      | nil => rfl
      | cons y ys => rw [hm] at e; simp at e
    refine wpList_append_own_none hgd s x 22 ho base 9 i0 1 Try.underlying22 hi v l.length (strVals l) hs hown hx ?_
    exact h v w (by simpa using hown) ⟨rfl, rfl, rfl, Nat.le_refl _, fun _ _ _ => rfl⟩
  · have hn : n = m.length := by
      obtain ⟨p, c', e⟩ := hu.shape
      cases e
      rfl
    subst hn
    refine wpList_append_own _ hgd s x 22 ho base 9 i0 (.string ⟨#[]⟩) 1 16 Try.underlying22 hi hz0 hz1 hz2 rfl (by decide) v l.length (strVals l) hs hown ad m.length c (strVals m) hx (by simp [strVals]) ?_ ?_ (by unfold maxLen; omega) (by omega) hbase ?_
    · intro j y hj
      have hjl : j < m.length := by
        have := (List.getElem?_eq_some_iff.1 hj).1
        simpa [strVals] using this
      rcases hu with ⟨rfl, -⟩ | ⟨g, off, c2, e, hc⟩
      · simp at hjl
      · cases e
        have h1 := hc j hjl
        have hplain : (⟨g, off, none⟩ : Addr).add j = ⟨g, off + j, none⟩ := by unfold Addr.add; split <;> simp_all
        rw [hplain, h1]
        simpa [strVals, List.getElem?_eq_getElem hjl] using hj
    · intro y hy
      simp only [strVals, List.mem_map] at hy
      obtain ⟨z, -, rfl⟩ := hy
      rfl
    · intro v' w' h2 h3 _
      exact h v' w' (by simpa [strVals] using h2) h3
end keeps
end Go.Proofs.Ytfmgpcefghoncaa
