/- Several rows of bytes of one's own, no two in one block: kept, added to, written, grown. -/
import Derived.Test.YtemgfbidfdhanaaDoorKIter
import Derived.WalkKit
import Derived.WalkSpells
import Derived.WalkLawsBesides
import Derived.Maps.AppendAt
import Derived.Laws.OwnMore
import Derived.Deep.RegionHeld3
import Derived.RangeFuncBox
import Derived.RangeFuncNested
import Derived.Laws.AppendOwnNone
import Derived.Deep.AppendLies
namespace Go.Proofs.YtemgfbidfdhanaaDoor
open Go.RowKit
namespace brows

theorem owns_mono {W : World} {base base' : Nat} {e : TypeId} {size : Nat} {v : Value} {n : Nat} {xs : List Value} (h : W.ownsRow base e size v n xs) (hb : base' ≤ base) : W.ownsRow base' e size v n xs := by
  obtain ⟨hl, h⟩ := h
  refine ⟨hl, ?_⟩
  rcases h with h | ⟨g, cap, cur, hv, hg, rest⟩
  · exact .inl h
  · exact .inr ⟨g, cap, cur, hv, by omega, rest⟩

/-- Two values that don't lie in one block. -/
def Apart (u v : Value) : Prop := ∀ k, u.ownBlock = some k → v.ownBlock = some k → False

theorem Apart.symm {u v : Value} (h : Apart u v) : Apart v u := fun k a b => h k b a

abbrev R := Value × List Nat

def Rows (W : World) (base : Nat) (rs : List R) : Prop :=
  (∀ r ∈ rs, W.ownsRow base 5 1 r.1 r.2.length (byteVals r.2)) ∧ rs.Pairwise (fun r r' => Apart r.1 r'.1)

theorem Rows.nil (W : World) (base : Nat) : Rows W base [] := ⟨fun _ h => (List.not_mem_nil h).elim, List.Pairwise.nil⟩

theorem Rows.head {W : World} {base : Nat} {v : Value} {l : List Nat} {rs : List R} (h : Rows W base ((v, l) :: rs)) : W.ownsRow base 5 1 v l.length (byteVals l) := h.1 (v, l) (by simp)

theorem Rows.below {W W' : World} {base : Nat} {rs : List R} (h : Rows W base rs) (hb : Below W.heap.size W W') : Rows W' base rs :=
  ⟨fun r hr => owns_below (h.1 r hr) hb, h.2⟩

theorem Rows.alloc {W : World} {base : Nat} {rs : List R} (h : Rows W base rs) (o : Obj) : Rows (W.alloc o) base rs :=
  ⟨fun r hr => (h.1 r hr).alloc o, h.2⟩

theorem Rows.add {W W' : World} {base : Nat} {rs : List R} {v : Value} {l : List Nat} (h : Rows W base rs) (hb : Below W.heap.size W W') (hB : base ≤ W.heap.size) (ho : W'.ownsRow W.heap.size 5 1 v l.length (byteVals l)) : Rows W' base ((v, l) :: rs) := by
  have h' := h.below hb
  refine ⟨fun r hr => ?_, List.pairwise_cons.2 ⟨fun r hr k hk hk2 => ?_, h'.2⟩⟩
  · rcases List.mem_cons.1 hr with rfl | hr
    · exact owns_mono ho hB
    · exact h'.1 r hr
  · have h1 := owns_block ho k hk
    have h2 := (h.1 r hr).lt k hk2
    omega

theorem Rows.pick {W : World} {base : Nat} (xs ys : List R) (r : R) (h : Rows W base (xs ++ r :: ys)) : Rows W base (r :: (xs ++ ys)) := by
  refine ⟨fun r' hr => h.1 r' ?_, (List.perm_middle.pairwise_iff (fun hab => Apart.symm hab)).1 h.2⟩
  simp only [List.mem_cons, List.mem_append] at hr ⊢
  rcases hr with h | h | h
  · exact .inr (.inl h)
  · exact .inl h
  · exact .inr (.inr h)

theorem Rows.grown {W W' : World} {base : Nat} {rs : List R} {v v' : Value} {l l' : List Nat} (h : Rows W base ((v, l) :: rs)) (ho : W'.ownsRow base 5 1 v' l'.length (byteVals l')) (hg : W.grownBy W' v.ownBlock) (ha : v'.ownBlock = v.ownBlock ∨ v'.ownBlock = some W.heap.size) : Rows W' base ((v', l') :: rs) := by
  obtain ⟨h1, h2⟩ := h
  rw [List.pairwise_cons] at h2
  have old : ∀ r ∈ rs, W.ownsRow base 5 1 r.1 r.2.length (byteVals r.2) := fun r hr => h1 r (List.mem_cons_of_mem _ hr)
  refine ⟨fun r hr => ?_, List.pairwise_cons.2 ⟨fun r hr k hk hk2 => ?_, h2.2⟩⟩
  · rcases List.mem_cons.1 hr with rfl | hr
    · exact ho
    · refine (old r hr).kept hg ?_
      cases hk : r.1.ownBlock with
      | none => exact .inl rfl
      | some k => exact .inr fun e => h2.1 r hr k e.symm hk
  · rcases ha with e | e
    · exact h2.1 r hr k (e ▸ hk) hk2
    · have hkk : k = W.heap.size := by rw [e] at hk; exact (Option.some.inj hk).symm
      have := ((old r hr).lt k hk2).2
      omega

theorem Rows.store {W : World} {base : Nat} {rs : List R} {g cap : Nat} {l : List Nat} (h : Rows W base ((.slice (some ⟨g, 0, none⟩) l.length cap, l) :: rs)) (i : Nat) (x : Nat) :
    Rows (W.setCell ⟨g, i, none⟩ (.int .u8 (x : Nat))) base ((.slice (some ⟨g, 0, none⟩) l.length cap, l.set i x) :: rs) := by
  obtain ⟨hs, hg⟩ := h.head.stored i (.int .u8 (x : Nat))
  refine Rows.grown h ?_ hg (.inl rfl)
  rw [List.length_set]
  have e : byteVals (l.set i x) = (byteVals l).set i (.int .u8 (x : Nat)) := by simp [byteVals, List.map_set]
  rw [e]
  exact hs

end brows
end Go.Proofs.YtemgfbidfdhanaaDoor

/- A region that draws its order, in which those operations that wait for every load may write what the loads read: loads are taken first. -/
namespace Go.Proofs.YtemgfbidfdhanaaDoor
namespace late

section
variable {P : Program} {ops : Array Oper} {Q : Exit → Act → World → Prop} {md : Region.Mode} {S : World → Prop} {nd : Nat → Bool}

/-- Whatever order is picked from here on; S holds behind those operations that nd names. -/
def Any (P : Program) (md : Region.Mode) (ops : Array Oper) (Q : Exit → Act → World → Prop) (S : World → Prop) (nd : Nat → Bool) : Nat → Array Bool → Act → World → Prop
  | 0, listed, a, w => Region.ready md ops listed = [] ∧ Q .normal a w
  | fuel + 1, listed, a, w => (Region.ready md ops listed = [] → Q .normal a w) ∧ ∀ i ∈ Region.ready md ops listed, wpOp P ops Q i (fun a' w' => (nd i = true → S w') ∧ Any P md ops Q S nd fuel (listed.setIfInBounds i true) a' w') a w

theorem any_of : ∀ (fuel : Nat) (listed : Array Bool) (a : Act) (w : World), Any P md ops Q S nd fuel listed a w → wpAny P md ops Q fuel listed a w
  | 0, _, _, _, h => h
  | fuel + 1, _, _, _, h => ⟨h.1, fun i hi => wpOp_mono (fun a' w' h' => any_of fuel _ a' w' h'.2) (h.2 i hi)⟩

/-- Whatever nd doesn't name waits for number i. -/
def waits (md : Region.Mode) (ops : Array Oper) (nd : Nat → Bool) (i : Nat) : Bool := (List.range ops.size).all fun j => nd j || ((ops[j]?).map fun o => o.after.any fun e => Region.binds md e && e.on == i).getD true

theorem waits_spec {i : Nat} (h : waits md ops nd i = true) {j : Nat} {o : Oper} (hj : ops[j]? = some o) (hn : ∀ e ∈ o.after, Region.binds md e = true → e.on ≠ i) : nd j = true := by
  have hlt := (Array.getElem?_eq_some_iff.1 hj).1
  have h1 := List.all_eq_true.1 h j (List.mem_range.2 hlt)
  rw [Bool.or_eq_true, hj] at h1
  rcases h1 with h1 | h1
  · exact h1
  · simp only [Option.map_some, Option.getD_some] at h1
    rw [Array.any_eq_true'] at h1
    obtain ⟨e, he, hb⟩ := h1
    rw [Bool.and_eq_true, beq_iff_eq] at hb
    exact absurd hb.2 (hn e he hb.1)

theorem first {i : Nat} {oi : Oper} {v : Value} (hi : ops[i]? = some oi) (hsel : ∀ (j : Nat) (o : Oper) cs b, ops[j]? = some o → o.op ≠ .select cs b)
    (hQ : ∀ c a w, Q (.panic c) (a.put oi.dst v) w → Q (.panic c) a w) (hw : waits md ops nd i = true) :
    ∀ (fuel : Nat) (listed : Array Bool) (a : Act) (w : World),
      (∀ j oj, ops[j]? = some oj → j ≠ i → listed.getD j true = false → (∀ e ∈ oj.after, Region.binds md e = true → e.on ≠ i) → oi.apart ops oj = true) →
      i ∈ Region.ready md ops listed → YieldsIf P ops S oi v a → S w →
      Any P md ops Q S nd fuel (listed.setIfInBounds i true) (a.put oi.dst v) w → Any P md ops Q S nd (fuel + 1) listed a w
  | 0, listed, a, w, _, hr, hy, hS, H => by
    refine ⟨fun h => (by rw [h] at hr; cases hr), fun j hj => ?_⟩
    by_cases hji : j = i
    · subst hji; exact hy.wpOp hi hS ⟨fun _ => hS, H⟩
    · have := ready_mono hj hji
      rw [H.1] at this
      cases this
  | fuel + 1, listed, a, w, hfree, hr, hy, hS, H => by
    refine ⟨fun h => (by rw [h] at hr; cases hr), fun j hj => ?_⟩
    by_cases hji : j = i
    · subst hji; exact hy.wpOp hi hS ⟨fun _ => hS, H⟩
    obtain ⟨hjun, oj, hoj, hall⟩ := mem_ready.1 hj
    have hun := (mem_ready.1 hr).1
    have hno : ∀ e ∈ oj.after, Region.binds md e = true → e.on ≠ i := fun e he hb heq => by
      have h1 := hall e he hb
      rw [heq] at h1
      rcases Nat.lt_or_ge i listed.size with h' | h'
      · simp [h'] at hun h1
        rw [hun] at h1
        cases h1
      · simp [Array.getElem?_eq_none h'] at h1
    have hnd := waits_spec hw hoj hno
    have h2 := wpOp_putIf hoj (hfree j oj hoj hji hjun hno) (fun cs b => hsel i oi cs b hi) (fun cs b => hsel j oj cs b hoj) hQ hy (H.2 j (ready_mono hj hji))
    refine wpOp_mono (fun a' w' h3 => ⟨h3.2.1, ?_⟩) h2
    refine first hi hsel hQ hw fuel (listed.setIfInBounds j true) a' w' (fun k ok hk hki hu hn => ?_) (ready_mono hr (Ne.symm hji)) h3.1 (h3.2.1 hnd) ?_
    · refine hfree k ok hk hki ?_ hn
      by_cases hjk : j = k
      · subst hjk; exact hjun
      · rw [getD_set_ne true hjk] at hu; exact hu
    · rw [Array.setIfInBounds_comm _ _ hji]
      exact h3.2.2

theorem drop_at {i : Nat} {oi : Oper} {rest : List Oper} (h : ops.toList.drop i = oi :: rest) : ops[i]? = some oi := by
  have h1 : (ops.toList.drop i)[0]? = some oi := by rw [h]; rfl
  rw [List.getElem?_drop] at h1
  simpa using h1

/-- Take number i first. -/
theorem take {i : Nat} {oi : Oper} {rest : List Oper} {v : Value} {fuel : Nat} {listed : Array Bool} {a : Act} {w : World} (hd : ops.toList.drop i = oi :: rest)
    (hs : Region.noSelect ops = true) (hf : Region.free md ops listed i = true) (hr : (Region.ready md ops listed).contains i = true) (hw : waits md ops nd i = true)
    (hQ : ∀ c a w, Q (.panic c) (a.put oi.dst v) w → Q (.panic c) a w) (hS : S w) (hy : YieldsIf P ops S oi v a)
    (h : Any P md ops Q S nd fuel (listed.setIfInBounds i true) (a.put oi.dst v) w) : Any P md ops Q S nd (fuel + 1) listed a w :=
  first (drop_at hd) (Region.noSelect_spec hs) hQ hw fuel listed a w (Region.free_spec (drop_at hd) hf) (by simpa using hr) hy hS h

/-- One alone may come up. -/
theorem one {i : Nat} {o : Oper} {rest : List Oper} {fuel : Nat} {listed : Array Bool} {a : Act} {w : World} (hr : Region.ready md ops listed = [i]) (hd : ops.toList.drop i = o :: rest)
    (h : ∀ K : Act → World → Prop, Shut (∀ a' w', (nd i = true → S w') → Any P md ops Q S nd fuel (listed.setIfInBounds i true) a' w' → K a' w') → if Region.wanted o (yielded ops a.tmps) = true then Oper.wp P o a w K Q else K (a.put o.dst undef) w) :
    Any P md ops Q S nd (fuel + 1) listed a w := by
  refine ⟨fun h0 => (by rw [hr] at h0; cases h0), fun j hj => ?_⟩
  rw [hr] at hj
  obtain rfl := List.mem_singleton.1 hj
  have h1 := h (fun a' w' => (nd j = true → S w') ∧ Any P md ops Q S nd fuel (listed.setIfInBounds j true) a' w') (fun a' w' hs hn => ⟨hs, hn⟩)
  unfold wpOp
  simp only [drop_at hd]
  split
  · rename_i hw
    rw [if_pos hw] at h1
    exact .inl h1
  · rename_i hw
    rw [if_neg hw] at h1
    exact h1

theorem done {listed : Array Bool} {a : Act} {w : World} (hr : Region.ready md ops listed = []) (h : Q .normal a w) : ∀ fuel, Any P md ops Q S nd fuel listed a w
  | 0 => ⟨hr, h⟩
  | _ + 1 => ⟨fun _ => h, by rw [hr]; simp⟩

theorem begin {id : Nat} {a : Act} {w : World} (S : World → Prop) (nd : Nat → Bool) (hm : P.follows .mixedOrders = true)
    (h : Any P .any ops Q S nd ops.size (Array.replicate ops.size false) a w.drew) : (Code.region id ops true).wp P Q a w :=
  wp_region_any hm (any_of _ _ _ _ h)
end
end late
end Go.Proofs.YtemgfbidfdhanaaDoor

/- bracket.Text's closure: what is gathered is let out. -/
namespace Go.Proofs.YtemgfbidfdhanaaDoor
open Go.RowKit
namespace brows

theorem hide2 {p : Prop} (h : p) : Hid p := h

theorem Rows.box {W : World} {base : Nat} {rs : List R} (h : Rows W base rs) (B : Nat) (v : Value) (hb : ∀ r ∈ rs, some B ≠ r.1.ownBlock) : Rows (W.setCell ⟨B, 0, none⟩ v) base rs :=
  ⟨fun r hr => (h.1 r hr).kept (grownBy_setCell' W B v) (.inr fun e => hb r hr e.symm), h.2⟩

theorem Rows.trim {W : World} {base g n cap : Nat} {v : Value} {l run : List Nat} (h : Rows W base [(v, l), (.slice (some ⟨g, 0, none⟩) n cap, run)]) : Rows W base [(v, l), (.slice (some ⟨g, 0, none⟩) 0 cap, [])] := by
  obtain ⟨h1, h2⟩ := h
  rw [List.pairwise_cons] at h2
  refine ⟨fun r hr => ?_, List.pairwise_cons.2 ⟨fun r hr k hk hk2 => ?_, by simp⟩⟩
  · rcases List.mem_cons.1 hr with rfl | hr
    · exact h1 _ (by simp)
    · obtain rfl := List.mem_singleton.1 hr
      have ho := h1 (.slice (some ⟨g, 0, none⟩) n cap, run) (by simp)
      rcases ho.2 with ⟨h', _⟩ | ⟨g', cap', cur, h', hb, hg, hn, hc, hs, ht⟩
      · simp at h'
      · simp only [Value.slice.injEq, Option.some.injEq, Addr.mk.injEq, and_true] at h'
        obtain ⟨rfl, -, rfl⟩ := h'
        exact ⟨by simp [byteVals], .inr ⟨g, cap, cur, rfl, hb, hg, Nat.zero_le _, hc, hs, by simp [byteVals]⟩⟩
  · obtain rfl := List.mem_singleton.1 hr
    exact h2.1 (.slice (some ⟨g, 0, none⟩) n cap, run) (by simp) k hk (by simpa [Value.ownBlock] using hk2)

/-- All blocks but three lie as they lay. -/
def Kept3 (w w' : World) (a b c : Nat) : Prop := w'.os = w.os ∧ w'.tape = w.tape ∧ w'.output = w.output ∧ w.heap.size ≤ w'.heap.size ∧ ∀ k, k < w.heap.size → k ≠ a → k ≠ b → k ≠ c → w'.heap[k]? = w.heap[k]?

theorem kept3 {w w1 : World} {g bo br : Nat} {vo vr : Value} (h : w.grownBy w1 (some g)) : Kept3 w ((w1.setCell ⟨bo, 0, none⟩ vo).setCell ⟨br, 0, none⟩ vr) g bo br := by
  have h2 := grownBy_setCell' w1 bo vo
  have h3 := grownBy_setCell' (w1.setCell ⟨bo, 0, none⟩ vo) br vr
  have s1 := h.size
  have s2 := h2.size
  have s3 := h3.size
  refine ⟨h3.os.trans (h2.os.trans h.os), h3.tape.trans (h2.tape.trans h.tape), h3.output.trans (h2.output.trans h.output), by omega, fun k hk h4 h5 h6 => ?_⟩
  rw [h3.block k (by omega) (by simp [h6]), h2.block k (by omega) (by simp [h5]), h.block k hk (by simp [h4])]

/-- What letOut leaves. -/
def LetOut (w w' : World) (br bo base gr cr go : Nat) (t : List Nat) : Prop :=
  ∃ go' co', Boxed w' bo 57 (.slice (some ⟨go', 0, none⟩) t.length co') ∧ Boxed w' br 57 (.slice (some ⟨gr, 0, none⟩) 0 cr) ∧ Rows w' base [(.slice (some ⟨go', 0, none⟩) t.length co', t), (.slice (some ⟨gr, 0, none⟩) 0 cr, [])] ∧ Kept3 w w' go bo br

theorem letOut_done {w w1 : World} {br bo base gr cr n go co go' co' : Nat} {run out t : List Nat} (hne : br ≠ bo)
    (hR : Rows w1 base [(.slice (some ⟨go', 0, none⟩) t.length co', t), (.slice (some ⟨gr, 0, none⟩) n cr, run)]) (hbr : Boxed w1 br 57 (.slice (some ⟨gr, 0, none⟩) n cr)) (hbo : Boxed w1 bo 57 (.slice (some ⟨go, 0, none⟩) out.length co)) (hg : w.grownBy w1 (some go)) :
    LetOut w ((w1.setCell ⟨bo, 0, none⟩ (.slice (some ⟨go', 0, none⟩) t.length co')).setCell ⟨br, 0, none⟩ (.slice (some ⟨gr, 0, none⟩) 0 cr)) br bo base gr cr go t := by
  have hk1 : Boxed ((w1.setCell ⟨bo, 0, none⟩ (.slice (some ⟨go', 0, none⟩) t.length co')).setCell ⟨br, 0, none⟩ (.slice (some ⟨gr, 0, none⟩) 0 cr)) br 57 (.slice (some ⟨gr, 0, none⟩) 0 cr) := (Boxed.other hbr hne _).set _
  have hk2 : Boxed ((w1.setCell ⟨bo, 0, none⟩ (.slice (some ⟨go', 0, none⟩) t.length co')).setCell ⟨br, 0, none⟩ (.slice (some ⟨gr, 0, none⟩) 0 cr)) bo 57 (.slice (some ⟨go', 0, none⟩) t.length co') := Boxed.other (hbo.set _) (Ne.symm hne) _
  refine ⟨go', co', hk2, hk1, ?_, kept3 hg⟩
  have q1 := Rows.box hR bo (.slice (some ⟨go', 0, none⟩) t.length co') (fun r hr => hbo.not_row (by decide) (hR.1 r hr))
  have q2 := Rows.box q1 br (.slice (some ⟨gr, 0, none⟩) 0 cr) (fun r hr => hbr.not_row (by decide) (hR.1 r hr))
  exact Rows.trim q2

theorem apart_head {W : World} {base go n co gr m cr : Nat} {out run : List Nat} (h : Rows W base [(.slice (some ⟨go, 0, none⟩) n co, out), (.slice (some ⟨gr, 0, none⟩) m cr, run)]) : some gr ≠ (Value.slice (some ⟨go, 0, none⟩) n co).ownBlock := by
  intro e
  have h2 := h.2
  rw [List.pairwise_cons] at h2
  exact h2.1 (.slice (some ⟨gr, 0, none⟩) m cr, run) (by simp) gr e.symm rfl

theorem grown_drawn {w w1 : World} {o : Obj} {row : Option Nat} (h : ((w.alloc o).drew).grownBy w1 row) : w.grownBy w1 row := by
  have hs : ((w.alloc o).drew).heap.size = w.heap.size + 1 := by simp
  have h1 := h.size
  exact ⟨h.os, h.tape, h.output, by omega, fun k hk hr => (h.block k (by omega) hr).trans (Below.heap_alloc w o k hk)⟩


set_option maxRecDepth 100000 in
set_option maxHeartbeats 1000000 in
theorem letOut_few (br bo base : Nat) (run out : List Nat) (gr cr go co : Nat) (w : World) (hbr : Boxed w br 57 (.slice (some ⟨gr, 0, none⟩) run.length cr)) (hbo : Boxed w bo 57 (.slice (some ⟨go, 0, none⟩) out.length co))
    (hne : br ≠ bo) (hR : Rows w base [(.slice (some ⟨go, 0, none⟩) out.length co, out), (.slice (some ⟨gr, 0, none⟩) run.length cr, run)]) (hb : base ≤ w.heap.size) (h3 : run.length < 3) (ho : out.length ≤ 100000) (ho1 : 1 ≤ out.length) :
    Calls Tryd.prog 49 #[.pointer (some ⟨br, 0, none⟩), .pointer (some ⟨bo, 0, none⟩)] w fun e w' => (∃ v, e = .returned v) ∧ LetOut w w' br bo base gr cr go (out ++ run) := by
  obtain ⟨i0, hi, hz0, hz1, hz2⟩ := info_parts info5
  have c1 := hbr.cell
  have c2 := hbo.cell
  have HR := hide2 hR
  have HBR := hide2 hbr
  have HBO := hide2 hbo
  have hrun := hR.1 (.slice (some ⟨gr, 0, none⟩) run.length cr, run) (by simp)
  have HC := hide2 (hrun.cells (g := gr) rfl)
  clear hR hbr hbo hrun
  go_enter Tryd.func49, Tryd.ntmps49
  go_wp2_with (at_builtin; refine wpList_append_own_at _ rfl _ _ 57 rfl base 5 i0 (.int .u8 0) 1 1 Tryd.underlying57 hi hz0 hz1 hz2 rfl (by decide) _ _ _ rfl HR.out.head ⟨gr, 0, none⟩ run.length cr (byteVals run) rfl (by simp [byteVals]) HC.out (by intro u hu; simp only [byteVals, List.mem_map] at hu; obtain ⟨z, -, rfl⟩ := hu; rfl) (by unfold maxLen; omega) (by omega) hb ?_; intro vo' w1 hown hg _ hat; have hown2 : w1.ownsRow base 5 1 vo' (out ++ run).length (byteVals (out ++ run)) := (by rw [List.length_append]; have e : byteVals (out ++ run) = byteVals out ++ byteVals run := (by simp [byteVals]); rw [e]; exact hown); obtain ⟨go', co', rfl⟩ : ∃ g c, vo' = .slice (some ⟨g, 0, none⟩) (out.length + run.length) c := (by obtain ⟨k, hk⟩ : ∃ k, out.length + run.length = k + 1 := ⟨out.length + run.length - 1, by omega⟩; rw [hk] at hown ⊢; exact ownsRow_succ hown); have HR1 := hide2 (Rows.grown HR.out hown2 hg hat); have HG := hide2 hg; have hbr1 : Boxed w1 br 57 (.slice (some ⟨gr, 0, none⟩) run.length cr) := HBR.out.kept hg (HBR.out.not_row (by decide) HR.out.head); have hbo1 : Boxed w1 bo 57 (.slice (some ⟨go, 0, none⟩) out.length co) := HBO.out.kept hg (HBO.out.not_row (by decide) HR.out.head); have d1 := hbr1.cell; have d2 := hbo1.cell; have f1 := hbr1.frozen; have f2 := hbo1.frozen; have e1 := (Boxed.other hbr1 hne (.slice (some ⟨go', 0, none⟩) (out.length + run.length) co')).cell; have e2 := (Boxed.other hbr1 hne (.slice (some ⟨go', 0, none⟩) (out.length + run.length) co')).frozen; have HBR1 := hide2 hbr1; have HBO1 := hide2 hbo1; clear hbr1 hbo1; clear hown hown2 hg hat)
  go_end0
  refine ⟨⟨_, rfl⟩, ?_⟩
  have h := HR1.out
  have h' : Rows w1 base [(.slice (some ⟨go', 0, none⟩) (out ++ run).length co', out ++ run), (.slice (some ⟨gr, 0, none⟩) run.length cr, run)] := by rw [List.length_append]; exact h
  have := letOut_done hne h' HBR1.out HBO1.out HG.out
  rw [List.length_append] at this
  exact this

/-- The cells that the loads read. -/
def LC (bo br gr j go m co n cr x y : Nat) (w : World) : Prop := w.cell? ⟨bo, 0, none⟩ = some (.slice (some ⟨go, 0, none⟩) m co) ∧ w.cell? ⟨br, 0, none⟩ = some (.slice (some ⟨gr, 0, none⟩) n cr) ∧ w.cell? ⟨gr, 0, none⟩ = some (.int .u8 (x : Nat)) ∧ w.cell? ⟨gr, j, none⟩ = some (.int .u8 (y : Nat))

set_option maxRecDepth 100000 in
set_option maxHeartbeats 1000000 in
theorem letOut_many (br bo base : Nat) (run out : List Nat) (n m : Nat) (hn : run.length = n) (hm : out.length = m) (gr cr go co : Nat) (w : World) (hbr : Boxed w br 57 (.slice (some ⟨gr, 0, none⟩) n cr)) (hbo : Boxed w bo 57 (.slice (some ⟨go, 0, none⟩) m co))
    (hne : br ≠ bo) (hR : Rows w base [(.slice (some ⟨go, 0, none⟩) m co, out), (.slice (some ⟨gr, 0, none⟩) n cr, run)]) (hb : base ≤ w.heap.size) (h3 : 3 ≤ n) (h4 : n ≤ 100000) (ho : m ≤ 100000) (ho1 : 1 ≤ m) (x y : Nat) (hx : run[0]? = some x) (hy : run[n - 1]? = some y) :
    Calls Tryd.prog 49 #[.pointer (some ⟨br, 0, none⟩), .pointer (some ⟨bo, 0, none⟩)] w fun e w' => (∃ v, e = .returned v) ∧ LetOut w w' br bo base gr cr go (out ++ [x, 45, y]) := by
  obtain ⟨i0, hi, hz0, hz1, hz2⟩ := info_parts info5
  have c1 := hbr.cell
  have c2 := hbo.cell
  have HR := hide2 hR
  have HBR := hide2 hbr
  have HBO := hide2 hbo
  have hrun := hR.1 (.slice (some ⟨gr, 0, none⟩) n cr, run) (by simp)
  have hadd : ∀ k, (⟨gr, 0, none⟩ : Addr).add k = ⟨gr, k, none⟩ := fun k => by unfold Addr.add; split <;> simp_all
  have hrow : w.ownsRow base 5 1 (.slice (some ⟨go, 0, none⟩) m co) m (byteVals out) := by have := hR.head; rw [hm] at this; exact this
  simp only [hn] at hrun
  have hc0 := hrun.cells (g := gr) rfl 0 (.int .u8 (x : Nat)) (by simp [byteVals, hx])
  have hc1 := hrun.cells (g := gr) rfl (n - 1) (.int .u8 (y : Nat)) (by simp [byteVals, hy])
  rw [hadd] at hc0 hc1
  obtain ⟨j, hj⟩ : ∃ j, n - 1 = j := ⟨_, rfl⟩
  rw [hj] at hc1
  have n2 : (0 : Int) ≤ (j : Int) := by omega
  have n3 : (j : Int) < (n : Int) := by omega
  have n4 : (0 : Int) < (n : Int) := by omega
  have n5 : 0 < n := by omega
  have n6 : j < n := by omega
  have n7 : IntKind.i64.wrap ((n : Int) - 1) = (j : Int) := by rw [IntKind.wrap_i64]; omega
  have n8 : IntKind.i64.wrap (j : Int) = (j : Int) := by rw [IntKind.wrap_i64]; omega
  have HROW := hide2 hrow
  have HL := hide2 (And.intro hn hm)
  have f2 := HBO.out.frozen
  have lbr := World.block_lt_of_cell? w _ c1
  have lbo := World.block_lt_of_cell? w _ c2
  have lgr := World.block_lt_of_cell? w _ hc0
  have ago : some br ≠ (Value.slice (some ⟨go, 0, none⟩) m co).ownBlock := HBR.out.not_row (by decide) hrow
  have abo : some bo ≠ (Value.slice (some ⟨go, 0, none⟩) m co).ownBlock := HBO.out.not_row (by decide) hrow
  have agr : some gr ≠ (Value.slice (some ⟨go, 0, none⟩) m co).ownBlock := apart_head HR.out
  have agb : gr ≠ bo := fun e => HBO.out.not_row (by decide) hrun (by rw [← e]; rfl)
  have c3 := (HBO.out.alloc (.cells #[.int .u8 (x : Nat), .int .u8 45, .int .u8 (y : Nat)] 5)).cell
  clear hR hbr hbo hrun hadd hx hy hj hrow hn hm
  go_enter Tryd.func49, Tryd.ntmps49
  go_wp2_with fail
  have hS0 : LC bo br gr j go m co n cr x y w.drew := ⟨c2, c1, hc0, hc1⟩
  refine late.begin (LC bo br gr j go m co n cr x y) (fun i => i != 12) rfl ?_
  refine late.take (i := 0) (v := ?lv0) rfl (by kernel_rfl) (by kernel_rfl) (by kernel_rfl) (by kernel_rfl) (fun _ _ _ h => h) hS0 (Or.inl ⟨by rfl, ?ly0⟩) ?lr0
  case ly0 =>
    intro w hSw
    obtain ⟨s1, s2, s3, s4⟩ := hSw
    go_simp
    try with_reducible rfl
  simp only [Act.put, List.setIfInBounds_toArray, List.set_cons_zero, List.set_cons_succ]
  refine late.take (i := 1) (v := ?lv1) rfl (by kernel_rfl) (by kernel_rfl) (by kernel_rfl) (by kernel_rfl) (fun _ _ _ h => h) hS0 (Or.inl ⟨by rfl, ?ly1⟩) ?lr1
  case ly1 =>
    intro w hSw
    obtain ⟨s1, s2, s3, s4⟩ := hSw
    go_simp
    try with_reducible rfl
  simp only [Act.put, List.setIfInBounds_toArray, List.set_cons_zero, List.set_cons_succ]
  refine late.take (i := 2) (v := ?lv2) rfl (by kernel_rfl) (by kernel_rfl) (by kernel_rfl) (by kernel_rfl) (fun _ _ _ h => h) hS0 (Or.inl ⟨by rfl, ?ly2⟩) ?lr2
  case ly2 =>
    intro w hSw
    obtain ⟨s1, s2, s3, s4⟩ := hSw
    go_simp
    try with_reducible rfl
  simp only [Act.put, List.setIfInBounds_toArray, List.set_cons_zero, List.set_cons_succ]
  refine late.take (i := 3) (v := ?lv3) rfl (by kernel_rfl) (by kernel_rfl) (by kernel_rfl) (by kernel_rfl) (fun _ _ _ h => h) hS0 (Or.inl ⟨by rfl, ?ly3⟩) ?lr3
  case ly3 =>
    intro w hSw
    obtain ⟨s1, s2, s3, s4⟩ := hSw
    go_simp
    try with_reducible rfl
  simp only [Act.put, List.setIfInBounds_toArray, List.set_cons_zero, List.set_cons_succ]
  refine late.take (i := 4) (v := ?lv4) rfl (by kernel_rfl) (by kernel_rfl) (by kernel_rfl) (by kernel_rfl) (fun _ _ _ h => h) hS0 (Or.inl ⟨by rfl, ?ly4⟩) ?lr4
  case ly4 =>
    intro w hSw
    obtain ⟨s1, s2, s3, s4⟩ := hSw
    go_simp
    try with_reducible rfl
  simp only [Act.put, List.setIfInBounds_toArray, List.set_cons_zero, List.set_cons_succ]
  refine late.take (i := 5) (v := ?lv5) rfl (by kernel_rfl) (by kernel_rfl) (by kernel_rfl) (by kernel_rfl) (fun _ _ _ h => h) hS0 (Or.inl ⟨by rfl, ?ly5⟩) ?lr5
  case ly5 =>
    intro w hSw
    obtain ⟨s1, s2, s3, s4⟩ := hSw
    go_simp
    try with_reducible rfl
  simp only [Act.put, List.setIfInBounds_toArray, List.set_cons_zero, List.set_cons_succ]
  refine late.take (i := 6) (v := ?lv6) rfl (by kernel_rfl) (by kernel_rfl) (by kernel_rfl) (by kernel_rfl) (fun _ _ _ h => h) hS0 (Or.inl ⟨by rfl, ?ly6⟩) ?lr6
  case ly6 =>
    intro w hSw
    obtain ⟨s1, s2, s3, s4⟩ := hSw
    go_simp
    try with_reducible rfl
  simp only [Act.put, List.setIfInBounds_toArray, List.set_cons_zero, List.set_cons_succ]
  refine late.take (i := 7) (v := ?lv7) rfl (by kernel_rfl) (by kernel_rfl) (by kernel_rfl) (by kernel_rfl) (fun _ _ _ h => h) hS0 (Or.inl ⟨by rfl, ?ly7⟩) ?lr7
  case ly7 =>
    intro w hSw
    obtain ⟨s1, s2, s3, s4⟩ := hSw
    go_simp
    try with_reducible rfl
  simp only [Act.put, List.setIfInBounds_toArray, List.set_cons_zero, List.set_cons_succ]
  refine late.take (i := 8) (v := ?lv8) rfl (by kernel_rfl) (by kernel_rfl) (by kernel_rfl) (by kernel_rfl) (fun _ _ _ h => h) hS0 (Or.inl ⟨by rfl, ?ly8⟩) ?lr8
  case ly8 =>
    intro w hSw
    obtain ⟨s1, s2, s3, s4⟩ := hSw
    go_simp
    try with_reducible rfl
  simp only [Act.put, List.setIfInBounds_toArray, List.set_cons_zero, List.set_cons_succ]
  refine late.take (i := 9) (v := ?lv9) rfl (by kernel_rfl) (by kernel_rfl) (by kernel_rfl) (by kernel_rfl) (fun _ _ _ h => h) hS0 (Or.inl ⟨by rfl, ?ly9⟩) ?lr9
  case ly9 =>
    intro w hSw
    obtain ⟨s1, s2, s3, s4⟩ := hSw
    go_simp
    try with_reducible rfl
  simp only [Act.put, List.setIfInBounds_toArray, List.set_cons_zero, List.set_cons_succ]
  refine late.one (i := 10) (by kernel_rfl) rfl (fun K hK => ?_)
  go_simp
  refine hK.out _ _ (fun _ => ?_) ?_
  · exact ⟨c3, (HBR.out.alloc _).cell, (World.cell?_of_block (a := ⟨gr, 0, none⟩) (Below.heap_alloc w _ gr lgr)).trans hc0, (World.cell?_of_block (a := ⟨gr, j, none⟩) (Below.heap_alloc w _ gr lgr)).trans hc1⟩
  clear hK K
  refine late.one (i := 11) (by kernel_rfl) rfl (fun K hK => ?_)
  refine step_append_lies _ (by rfl) _ _ _ (by rfl) base 5 i0 (.int .u8 0) 1 1 Tryd.underlying57 hi hz0 hz1 hz2 rfl (by omega) _ _ _ (by rfl) ((HROW.out.alloc _).drew)
        ⟨w.heap.size, 0, none⟩ 3 3 [.int .u8 (x : Nat), .int .u8 45, .int .u8 (y : Nat)] (by rfl) (by rfl) (World.news_of_block (cs := #[.int .u8 (x : Nat), .int .u8 45, .int .u8 (y : Nat)]) (t := 5) (fr := (0, 0)) (heap_alloc_new w _)) (by simp [Value.oneCell'])
        (by omega) (by unfold maxLen; omega) (by omega) (by simp; omega) (w.heap.size + 1) (by simp) ?_
  intro go' co' w1 hown1 hgrow hat hlt
  have hg2 := grown_drawn hgrow
  have hbr1 := HBR.out.kept hg2 ago
  have hbo1 := HBO.out.kept hg2 abo
  have d1 := hbr1.cell
  have d2 := hbo1.cell
  have g1 := hbr1.frozen
  have g2 := hbo1.frozen
  have x1 := (hg2.cell_far ⟨gr, 0, none⟩ lgr agr).trans hc0
  have x2 := (hg2.cell_far ⟨gr, j, none⟩ lgr agr).trans hc1
  have e1 := (Boxed.other hbr1 hne (.slice (some ⟨go', 0, none⟩) (m + 3) co')).cell
  have e2 := (Boxed.other hbr1 hne (.slice (some ⟨go', 0, none⟩) (m + 3) co')).frozen
  refine hK.out _ _ (fun _ => ⟨d2, d1, x1, x2⟩) ?_
  clear hK K
  simp only [Act.put, List.setIfInBounds_toArray, List.set_cons_zero, List.set_cons_succ]
  refine late.one (i := 12) (by kernel_rfl) rfl (fun K hK => ?_)
  go_simp
  refine hK.out _ _ (fun h => (by cases h)) ?_
  clear hK K
  refine late.done (by kernel_rfl) ?_ _
  go_wp2
  go_end0
  refine ⟨⟨_, rfl⟩, ?_⟩
  have el : (out ++ [x, 45, y]).length = m + 3 := by rw [List.length_append, HL.out.2]; rfl
  have eb : byteVals (out ++ [x, 45, y]) = byteVals out ++ [.int .u8 (x : Nat), .int .u8 45, .int .u8 (y : Nat)] := by simp [byteVals]
  have hR1 : Rows w1 base [(.slice (some ⟨go', 0, none⟩) (m + 3) co', out ++ [x, 45, y]), (.slice (some ⟨gr, 0, none⟩) n cr, run)] := by
    refine Rows.grown (HR.out.alloc (.cells #[.int .u8 (x : Nat), .int .u8 45, .int .u8 (y : Nat)] 5)) ?_ ⟨hgrow.os, hgrow.tape, hgrow.output, hgrow.size, hgrow.block⟩ ?_
    · rw [el, eb]; exact hown1
    · rcases hat with h | h
      · exact .inl h.symm
      · refine .inr ?_
        rw [World.size_alloc, ← h]; rfl
  have h := letOut_done (w := w) (t := out ++ [x, 45, y]) (n := n) (out := out) (co := co) hne (by rw [el]; exact hR1) hbr1 (by rw [HL.out.2]; exact hbo1) hg2
  rw [el] at h
  exact h

/-- letOut: what is gathered is let out, as flush says. -/
theorem letOut_any (br bo base : Nat) (run out : List Nat) (gr cr go co : Nat) (w : World) (hbr : Boxed w br 57 (.slice (some ⟨gr, 0, none⟩) run.length cr)) (hbo : Boxed w bo 57 (.slice (some ⟨go, 0, none⟩) out.length co))
    (hne : br ≠ bo) (hR : Rows w base [(.slice (some ⟨go, 0, none⟩) out.length co, out), (.slice (some ⟨gr, 0, none⟩) run.length cr, run)]) (hb : base ≤ w.heap.size) (h4 : run.length ≤ 100000) (ho : out.length ≤ 100000) (ho1 : 1 ≤ out.length) :
    Calls Tryd.prog 49 #[.pointer (some ⟨br, 0, none⟩), .pointer (some ⟨bo, 0, none⟩)] w fun e w' => (∃ v, e = .returned v) ∧ LetOut w w' br bo base gr cr go (flush (out, run)) := by
  by_cases h3 : run.length < 3
  · have e : flush (out, run) = out ++ run := by simp [flush, h3]
    rw [e]
    exact letOut_few br bo base run out gr cr go co w hbr hbo hne hR hb h3 ho ho1
  · have e : flush (out, run) = out ++ [run.headD 0, 45, run.getLastD 0] := by simp [flush, h3]
    rw [e]
    have hx : run[0]? = some (run.headD 0) := by
      cases run with
      | nil => simp at h3
      | cons a l => rfl
    have hy : run[run.length - 1]? = some (run.getLastD 0) := by
      rw [← List.getLast?_eq_getElem?]
      cases run with
      | nil => simp at h3
      | cons a l => simp [List.getLast?_cons]
    exact letOut_many br bo base run out _ _ rfl rfl gr cr go co w hbr hbo hne hR hb (by omega) h4 ho ho1 _ _ hx hy
end brows
end Go.Proofs.YtemgfbidfdhanaaDoor

/- bracket.Text: what lies in memory while it gathers. -/
namespace Go.Proofs.YtemgfbidfdhanaaDoor
open Go.RowKit Go.Shelf
namespace brows

theorem set4_not_row {W : World} {b : Nat} {p : Nat → Bool} (h : Set4 W b p) {base size k : Nat} {v : Value} {xs : List Value} (hr : W.ownsRow base 5 size v k xs) : some b ≠ v.ownBlock := by
  rcases hr.2 with ⟨rfl, _⟩ | ⟨g, cap, cur, rfl, _, hg, _⟩
  · intro e; cases e
  · intro e
    obtain rfl : b = g := by simpa [Value.ownBlock] using e
    rw [show W.heap[b]? = _ from h] at hg
    cases hg

theorem set4_ne_box {W : World} {b B : Nat} {p : Nat → Bool} {t : TypeId} {v : Value} (h : Set4 W b p) (hv : Boxed W B t v) : b ≠ B := by
  rintro rfl
  have := (show W.heap[b]? = _ from h).symm.trans hv
  simp at this

theorem box_ne_box {W : World} {A B : Nat} {t u : TypeId} {v v' : Value} (h : Boxed W A t v) (h' : Boxed W B u v') (hne : t ≠ u) : A ≠ B := by
  rintro rfl
  have := (show W.heap[A]? = _ from h).symm.trans h'
  simp at this
  exact hne this.2

/-- letOut, as it lies in its variable. -/
def letV (br bo : Nat) : Value := .func (.func 49) #[] #[.pointer (some ⟨br, 0, none⟩), .pointer (some ⟨bo, 0, none⟩)]

/-- What is written and what is gathered, each in its variable; letOut; the set. -/
def TS (base bo br bl bS : Nat) (p : Nat → Bool) (st : List Nat × List Nat) (W : World) : Prop :=
  ∃ go co gr cr, Boxed W bo 57 (.slice (some ⟨go, 0, none⟩) st.1.length co) ∧ Boxed W br 57 (.slice (some ⟨gr, 0, none⟩) st.2.length cr) ∧
    Rows W base [(.slice (some ⟨go, 0, none⟩) st.1.length co, st.1), (.slice (some ⟨gr, 0, none⟩) st.2.length cr, st.2)] ∧ Boxed W bl 1 (letV br bo) ∧ Set4 W bS p

theorem TS_own {β : Type} (base bo br bl bS : Nat) (p : Nat → Bool) (f : β → List Nat × List Nat) : Own (fun s W => TS base bo br bl bS p (f s) W) := by
  rintro s X Y row ⟨go, co, gr, cr, h1, h2, h3, h4, h5⟩ hg hrow
  have hb : ∀ {B : Nat} {t : TypeId} {v : Value}, Boxed X B t v → some B ≠ row := fun {B _ _} hv e' => by
    obtain ⟨o, ho, hc⟩ := hrow B e'.symm
    rw [show X.heap[B]? = _ from hv] at ho
    cases ho
    cases hc
  refine ⟨go, co, gr, cr, h1.kept hg (hb h1), h2.kept hg (hb h2), ⟨fun r hr => (h3.1 r hr).kept hg ?_, h3.2⟩, h4.kept hg (hb h4), ?_⟩
  · rcases (h3.1 r hr).2 with ⟨e, _⟩ | ⟨g, cap, cur, e, _, hgb, _⟩
    · exact .inl (by rw [e]; rfl)
    · refine .inr fun e' => ?_
      rw [e] at e'
      obtain ⟨o, ho, hc⟩ := hrow g (by simpa [Value.ownBlock] using e'.symm)
      rw [hgb] at ho
      cases ho
      cases hc
  · have hne : some bS ≠ row := fun e' => by
      obtain ⟨o, ho, hc⟩ := hrow bS e'.symm
      rw [show X.heap[bS]? = _ from h5] at ho
      cases ho
      cases hc
    exact (hg.block bS h5.lt hne).trans h5

/-- What a step leaves. -/
def Step (base bo br bl bS : Nat) (p : Nat → Bool) (st : List Nat × List Nat) (W W' : World) : Prop :=
  TS base bo br bl bS p st W' ∧ KeepsOthers W W' ∧ KeepAt bS W W' ∧ Below base W W'

theorem Step.trans {base bo br bl bS : Nat} {p : Nat → Bool} {st st' : List Nat × List Nat} {A B C : World} (h : Step base bo br bl bS p st A B) (k : Step base bo br bl bS p st' B C) : Step base bo br bl bS p st' A C :=
  ⟨k.1, h.2.1.trans k.2.1, keepAt_t h.2.2.1 k.2.2.1, h.2.2.2.trans k.2.2.2⟩

theorem row_base {W : World} {base e size n k g cap : Nat} {xs : List Value} (h : W.ownsRow base e size (.slice (some ⟨g, 0, none⟩) n cap) k xs) : base ≤ g ∧ ∃ cur, W.heap[g]? = some (.cells cur e) := by
  rcases h.2 with ⟨h', _⟩ | ⟨g', cap', cur, h', hb, hg, _⟩
  · simp at h'
  · simp only [Value.slice.injEq, Option.some.injEq, Addr.mk.injEq, and_true] at h'
    obtain ⟨rfl, -, -⟩ := h'
    exact ⟨hb, cur, hg⟩

theorem TS_letOut {base bo br bl bS : Nat} {p : Nat → Bool} {st : List Nat × List Nat} {W : World} (h : TS base bo br bl bS p st W) (hne : br ≠ bo) (hbo : base ≤ bo) (hbr : base ≤ br) (h4 : st.2.length ≤ 100000) (ho : st.1.length ≤ 100000) (ho1 : 1 ≤ st.1.length) :
    Calls Tryd.prog 49 #[.pointer (some ⟨br, 0, none⟩), .pointer (some ⟨bo, 0, none⟩)] W fun e w' => (∃ v, e = .returned v) ∧ Step base bo br bl bS p (flush st, []) W w' := by
  obtain ⟨go, co, gr, cr, h1, h2, h3, h4', h5⟩ := h
  have hbW : base ≤ W.heap.size := Nat.le_trans hbo (Nat.le_of_lt h1.lt)
  refine (letOut_any br bo base st.2 st.1 gr cr go co W h2 h1 hne h3 hbW h4 ho ho1).mono ?_
  rintro e w' ⟨hv, go', co', b1, b2, b3, k1, k2, k3, k4, k5⟩
  obtain ⟨hgo, cur, hcur⟩ := row_base h3.head
  have n1 : bl ≠ go := fun e => h4'.not_row (by decide) h3.head (by rw [e]; rfl)
  have n2 := box_ne_box h4' h1 (by decide)
  have n3 := box_ne_box h4' h2 (by decide)
  have m1 : bS ≠ go := fun e => set4_not_row h5 h3.head (by rw [e]; rfl)
  have m2 := set4_ne_box h5 h1
  have m3 := set4_ne_box h5 h2
  have q1 := k5 bl h4'.lt n1 n2 n3
  have q2 := k5 bS h5.lt m1 m2 m3
  refine ⟨hv, ⟨go', co', gr, cr, b1, b2, b3, q1.trans h4', q2.trans h5⟩, ⟨k4, fun k o hk hc => ?_⟩, ⟨k4, q2⟩, ⟨k1, k2, k3, k4, fun k hk => k5 k (by omega) (by omega) (by omega) (by omega)⟩⟩
  rw [k5 k ((Array.getElem?_eq_some_iff.1 hk).1) ?_ ?_ ?_]
  · exact hk
  · rintro rfl; rw [hcur] at hk; cases hk; cases hc
  · rintro rfl; rw [show W.heap[k]? = _ from h1] at hk; cases hk; cases hc
  · rintro rfl; rw [show W.heap[k]? = _ from h2] at hk; cases hk; cases hc

/-- One of the two is grown and stored. -/
theorem grow_box {W w1 : World} {tmp : Obj} {base B B2 bl bS : Nat} {p : Nat → Bool} {v v2 v' u : Value} {l l2 l' : List Nat} (hne : B ≠ B2) (hB : Boxed W B 57 v) (hB2 : Boxed W B2 57 v2) (hL : Boxed W bl 1 u) (hS : Set4 W bS p)
    (hR : Rows W base [(v, l), (v2, l2)]) (hown : w1.ownsRow base 5 1 v' l'.length (byteVals l')) (hg : (W.alloc tmp).grownBy w1 v.ownBlock) (hat : v'.ownBlock = v.ownBlock ∨ v'.ownBlock = some (W.alloc tmp).heap.size) (hb : base ≤ B) :
    Boxed w1 B 57 v ∧ Boxed (w1.setCell ⟨B, 0, none⟩ v') B 57 v' ∧ Boxed (w1.setCell ⟨B, 0, none⟩ v') B2 57 v2 ∧ Rows (w1.setCell ⟨B, 0, none⟩ v') base [(v', l'), (v2, l2)] ∧ Boxed (w1.setCell ⟨B, 0, none⟩ v') bl 1 u ∧ Set4 (w1.setCell ⟨B, 0, none⟩ v') bS p ∧
      KeepsOthers W (w1.setCell ⟨B, 0, none⟩ v') ∧ KeepAt bS W (w1.setCell ⟨B, 0, none⟩ v') ∧ Below base W (w1.setCell ⟨B, 0, none⟩ v') := by
  have hW : base ≤ W.heap.size := Nat.le_trans hb (Nat.le_of_lt hB.lt)
  obtain ⟨hv1, hv2, hr2, hk2, hb2⟩ := hB.appended (by decide) hR.head hW hb hown hg
  have g2 : Boxed w1 B2 57 v2 := (hB2.alloc _).kept hg (hB2.not_row (by decide) hR.head)
  have gl : Boxed w1 bl 1 u := (hL.alloc _).kept hg (hL.not_row (by decide) hR.head)
  have R1 : Rows w1 base [(v', l'), (v2, l2)] := Rows.grown (hR.alloc tmp) hown hg hat
  have R2 := Rows.box R1 B v' (fun r hr => hv1.not_row (by decide) (R1.1 r hr))
  have s1 : w1.heap[bS]? = (W.alloc tmp).heap[bS]? := hg.block bS (by have := hS.lt; simp; omega) (set4_not_row hS hR.head)
  have s2 : (w1.setCell ⟨B, 0, none⟩ v').heap[bS]? = W.heap[bS]? := by
    rw [Below.heap_setCell w1 ⟨B, 0, none⟩ v' bS (set4_ne_box hS hB), s1]
    exact Below.heap_alloc W tmp bS hS.lt
  exact ⟨hv1, hv2, g2.other (Ne.symm hne) _, R2, gl.other (box_ne_box hL hB (by decide)) _, s2.trans hS, hk2, ⟨hk2.size, s2⟩, hb2⟩

theorem TS_out {W w1 : World} {tmp : Obj} {base bo br bl bS go co gr cr m n go' co' m' : Nat} {p : Nat → Bool} {out run l : List Nat} (hm : out.length = m) (hn : run.length = n) (hne : bo ≠ br) (hO : Boxed W bo 57 (.slice (some ⟨go, 0, none⟩) m co)) (hr : Boxed W br 57 (.slice (some ⟨gr, 0, none⟩) n cr)) (hL : Boxed W bl 1 (letV br bo)) (hS : Set4 W bS p)
    (hR : Rows W base [(.slice (some ⟨go, 0, none⟩) m co, out), (.slice (some ⟨gr, 0, none⟩) n cr, run)]) (hown : w1.ownsRow base 5 1 (.slice (some ⟨go', 0, none⟩) m' co') m' (byteVals out ++ byteVals l)) (hm' : m' = m + l.length)
    (hg : (W.alloc tmp).grownBy w1 (some go)) (hat : (Value.slice (some ⟨go', 0, none⟩) m' co').ownBlock = (Value.slice (some ⟨go, 0, none⟩) m co).ownBlock ∨ (Value.slice (some ⟨go', 0, none⟩) m' co').ownBlock = some (W.alloc tmp).heap.size) (hb : base ≤ bo) :
    Boxed w1 bo 57 (.slice (some ⟨go, 0, none⟩) m co) ∧ Step base bo br bl bS p (out ++ l, run) W (w1.setCell ⟨bo, 0, none⟩ (.slice (some ⟨go', 0, none⟩) m' co')) := by
  subst hm hn
  have el : (out ++ l).length = m' := by rw [List.length_append, hm']
  have hown2 : w1.ownsRow base 5 1 (.slice (some ⟨go', 0, none⟩) m' co') (out ++ l).length (byteVals (out ++ l)) := by
    rw [el]
    have e : byteVals (out ++ l) = byteVals out ++ byteVals l := by simp [byteVals]
    rw [e]
    exact hown
  obtain ⟨q1, q2, q3, q4, q5, q6, q7, q8, q9⟩ := grow_box hne hO hr hL hS hR hown2 hg hat hb
  refine ⟨q1, ⟨go', co', gr, cr, ?_, q3, ?_, q5, q6⟩, q7, q8, q9⟩
  · rw [el]; exact q2
  · rw [el]; exact q4

theorem TS_run {W w1 : World} {tmp : Obj} {base bo br bl bS go co gr cr m n gr' cr' n' : Nat} {p : Nat → Bool} {out run l : List Nat} (hm : out.length = m) (hn : run.length = n) (hne : bo ≠ br) (hO : Boxed W bo 57 (.slice (some ⟨go, 0, none⟩) m co)) (hr : Boxed W br 57 (.slice (some ⟨gr, 0, none⟩) n cr)) (hL : Boxed W bl 1 (letV br bo)) (hS : Set4 W bS p)
    (hR : Rows W base [(.slice (some ⟨go, 0, none⟩) m co, out), (.slice (some ⟨gr, 0, none⟩) n cr, run)]) (hown : w1.ownsRow base 5 1 (.slice (some ⟨gr', 0, none⟩) n' cr') n' (byteVals run ++ byteVals l)) (hn' : n' = n + l.length)
    (hg : (W.alloc tmp).grownBy w1 (some gr)) (hat : (Value.slice (some ⟨gr', 0, none⟩) n' cr').ownBlock = (Value.slice (some ⟨gr, 0, none⟩) n cr).ownBlock ∨ (Value.slice (some ⟨gr', 0, none⟩) n' cr').ownBlock = some (W.alloc tmp).heap.size) (hb : base ≤ br) :
    Boxed w1 br 57 (.slice (some ⟨gr, 0, none⟩) n cr) ∧ Step base bo br bl bS p (out, run ++ l) W (w1.setCell ⟨br, 0, none⟩ (.slice (some ⟨gr', 0, none⟩) n' cr')) := by
  subst hm hn
  have el : (run ++ l).length = n' := by rw [List.length_append, hn']
  have hown2 : w1.ownsRow base 5 1 (.slice (some ⟨gr', 0, none⟩) n' cr') (run ++ l).length (byteVals (run ++ l)) := by
    rw [el]
    have e : byteVals (run ++ l) = byteVals run ++ byteVals l := by simp [byteVals]
    rw [e]
    exact hown
  obtain ⟨q1, q2, q3, q4, q5, q6, q7, q8, q9⟩ := grow_box (Ne.symm hne) hr hO hL hS (Rows.pick [_] [] _ hR) hown2 hg hat hb
  refine ⟨q1, ⟨go, co, gr', cr', q3, ?_, ?_, q5, q6⟩, q7, q8, q9⟩
  · rw [el]; exact q2
  · rw [el]; exact Rows.pick [_] [] _ q4

theorem Rows.swap {W : World} {base : Nat} {a b : R} (h : Rows W base [a, b]) : Rows W base [b, a] := Rows.pick [a] [] b h

end brows

/-- One step as the code makes it: the byte behind 255 is 0. -/
def cstep (p : List Nat × List Nat) (b : Nat) : List Nat × List Nat :=
  if spec4 b then (flush p ++ [91, 46, b, 46, 93], [])
  else if p.2 = [] ∨ (p.2.getLastD 0 + 1) % 256 = b then (p.1, p.2 ++ [b]) else (flush p, [b])

def codeSt (l : List Nat) : List Nat × List Nat := l.foldl cstep ([91], [])

theorem codeSt_snoc (l : List Nat) (b : Nat) : codeSt (l ++ [b]) = cstep (codeSt l) b := by simp [codeSt]

theorem cstep_len (p : List Nat × List Nat) (b : Nat) : (cstep p b).1.length + (cstep p b).2.length ≤ p.1.length + p.2.length + 5 ∧ (1 ≤ p.1.length → 1 ≤ (cstep p b).1.length) := by
  have h := flush_len p
  have h' : p.1.length ≤ (flush p).length := by unfold flush; simp
  unfold cstep
  split
  · simp; omega
  · split
    · simp; omega
    · simp; omega

theorem codeSt_len (l : List Nat) : (codeSt l).1.length + (codeSt l).2.length ≤ 1 + 5 * l.length ∧ 1 ≤ (codeSt l).1.length := by
  suffices h : ∀ p : List Nat × List Nat, 1 ≤ p.1.length → (l.foldl cstep p).1.length + (l.foldl cstep p).2.length ≤ p.1.length + p.2.length + 5 * l.length ∧ 1 ≤ (l.foldl cstep p).1.length by
    have := h ([91], []) (by simp)
    simpa [codeSt, Nat.add_comm] using this
  induction l with
  | nil => intro p hp; simpa using hp
  | cons b l ih =>
    intro p hp
    have h2 := cstep_len p b
    have h1 := ih (cstep p b) (h2.2 hp)
    simp only [List.foldl_cons, List.length_cons]
    omega

/-- Bytes alone are gathered. -/
theorem cstep_bytes (p : List Nat × List Nat) (b : Nat) (hb : b < 256) (h : ∀ x ∈ p.2, x < 256) : ∀ x ∈ (cstep p b).2, x < 256 := by
  unfold cstep
  split
  · simp
  · split
    · intro x hx
      simp at hx
      rcases hx with hx | rfl
      · exact h x hx
      · exact hb
    · intro x hx
      simp at hx
      omega

theorem codeSt_bytes (l : List Nat) (hl : ∀ x ∈ l, x < 256) : ∀ x ∈ (codeSt l).2, x < 256 := by
  suffices h : ∀ p : List Nat × List Nat, (∀ x ∈ p.2, x < 256) → ∀ x ∈ (l.foldl cstep p).2, x < 256 from h ([91], []) (by simp)
  induction l with
  | nil => intro p hp; simpa using hp
  | cons b l ih => exact fun p hp => ih (fun x hx => hl x (by simp [hx])) (cstep p b) (cstep_bytes p b (hl b (by simp)) hp)

theorem cstep_eq (p : List Nat × List Nat) (b : Nat) (hb : b < 256) (h : ∀ x ∈ p.2, x < 256) (h0 : p.2 = [] ∨ 0 < b) : cstep p b = tstep p b := by
  unfold cstep tstep
  by_cases hr : p.2 = []
  · simp [hr]
  · have hm : p.2.getLastD 0 < 256 := by
      have := h (p.2.getLast hr) (List.getLast_mem hr)
      rw [List.getLastD_eq_getLast?, List.getLast?_eq_some_getLast hr]
      exact this
    have hb0 : 0 < b := h0.resolve_left hr
    have e : ((p.2.getLastD 0 + 1) % 256 = b) = (p.2.getLastD 0 + 1 = b) := by
      apply propext; omega
    simp only [e]

theorem codeSt_eq (l : List Nat) (hl : ∀ x ∈ l, x < 256) (hs : l.Pairwise (· < ·)) : codeSt l = textSt l := by
  unfold codeSt textSt
  suffices h : ∀ (l : List Nat), (∀ x ∈ l, 0 < x ∧ x < 256) → ∀ p : List Nat × List Nat, (∀ x ∈ p.2, x < 256) → l.foldl cstep p = l.foldl tstep p by
    cases l with
    | nil => rfl
    | cons b l =>
      rw [List.pairwise_cons] at hs
      simp only [List.foldl_cons]
      have e := cstep_eq ([91], []) b (hl b (by simp)) (by simp) (.inl rfl)
      rw [← e]
      exact h l (fun x hx => ⟨by have := hs.1 x hx; omega, hl x (by simp [hx])⟩) _ (cstep_bytes _ b (hl b (by simp)) (by simp))
  intro l
  induction l with
  | nil => intro _ p _; rfl
  | cons b l ih =>
    intro h p hp
    have hb := h b (by simp)
    simp only [List.foldl_cons]
    rw [← cstep_eq p b hb.2 hp (.inr hb.1)]
    exact ih (fun x hx => h x (by simp [hx])) _ (cstep_bytes p b hb.2 hp)

theorem mem_sorted (p : Nat → Bool) (k : Nat) : (mem p k).Pairwise (· < ·) := by
  unfold mem
  exact List.Pairwise.filter _ List.pairwise_lt_range
end Go.Proofs.YtemgfbidfdhanaaDoor
