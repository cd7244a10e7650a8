/- listing: the walk of ListingKeeps. -/
import Derived.Test.YtiegmgcdfafhiaaDoorHs
import Derived.Maps.AppendAt
import Derived.Laws.OwnMore
import Derived.Laws.AppendOwnNone
namespace Go.Proofs.YtiegmgcdfafhiaaDoor
open Go.RowKit
namespace keeps

theorem stV_snoc (l : List (List UInt8)) (x : List UInt8) : stV (l ++ [x]) = stV l ++ [.string (bst x)] := by simp [stV]
theorem owns_block {w : World} {base : Nat} {e : TypeId} {size : Nat} {v : Value} {n : Nat} {xs : List Value} (h : w.ownsRow base e size v n xs) : ∀ k, v.ownBlock = some k → base ≤ k := fun _ hk => (owns_blk h hk).1
theorem owns_some {W : World} {base e size : Nat} {v : Value} {n : Nat} {xs : List Value} (h : W.ownsRow base e size v n xs) (hn : 0 < n) : ∃ g cap, v = .slice (some ⟨g, 0, none⟩) n cap ∧ n ≤ cap ∧ cap ≤ maxLen := by
  rcases h.2 with ⟨_, h0⟩ | ⟨g, cap, cur, hv, _, _, h1, h2, _⟩
  · omega
  · exact ⟨g, cap, hv, h1, h2⟩

/-- Two values that don't lie in one block. -/
def Apart (u v : Value) : Prop := ∀ k, u.ownBlock = some k → v.ownBlock = some k → False

theorem Apart.symm {u v : Value} (h : Apart u v) : Apart v u := fun k a b => h k b a

abbrev R := Value × List (List UInt8)

def Rows (W : World) (base : Nat) (rs : List R) : Prop :=
  (∀ r ∈ rs, W.ownsRow base 9 1 r.1 r.2.length (stV r.2)) ∧ rs.Pairwise (fun r r' => Apart r.1 r'.1)

theorem Rows.nil (W : World) (base : Nat) : Rows W base [] := ⟨fun _ h => (List.not_mem_nil h).elim, List.Pairwise.nil⟩

theorem Rows.head {W : World} {base : Nat} {v : Value} {l : List (List UInt8)} {rs : List R} (h : Rows W base ((v, l) :: rs)) : W.ownsRow base 9 1 v l.length (stV l) := h.1 (v, l) (by simp)

theorem Rows.below {W W' : World} {base : Nat} {rs : List R} (h : Rows W base rs) (hb : Below W.heap.size W W') : Rows W' base rs :=
  ⟨fun r hr => owns_below (h.1 r hr) hb, h.2⟩

theorem Rows.alloc {W : World} {base : Nat} {rs : List R} (h : Rows W base rs) (o : Obj) : Rows (W.alloc o) base rs :=
  ⟨fun r hr => (h.1 r hr).alloc o, h.2⟩

theorem Rows.add {W W' : World} {base : Nat} {rs : List R} {v : Value} {l : List (List UInt8)} (h : Rows W base rs) (hb : Below W.heap.size W W') (hB : base ≤ W.heap.size) (ho : W'.ownsRow W.heap.size 9 1 v l.length (stV l)) : Rows W' base ((v, l) :: rs) := by
  have h' := h.below hb
  refine ⟨fun r hr => ?_, List.pairwise_cons.2 ⟨fun r hr k hk hk2 => ?_, h'.2⟩⟩
  · rcases List.mem_cons.1 hr with rfl | hr
    · exact owns_mono ho hB
    · exact h'.1 r hr
  · have h1 := owns_block ho k hk
    have h2 := (h.1 r hr).lt k hk2
    omega

theorem Rows.pick {W : World} {base : Nat} (xs ys : List R) (r : R) (h : Rows W base (xs ++ r :: ys)) : Rows W base (r :: (xs ++ ys)) := by
  refine ⟨fun r' hr => h.1 r' ?_, (List.perm_middle.pairwise_iff (fun hab => Apart.symm hab)).1 h.2⟩
  simp only [List.mem_cons, List.mem_append] at hr ⊢
  rcases hr with h | h | h
  · exact .inr (.inl h)
  · exact .inl h
  · exact .inr (.inr h)

theorem Rows.grown {W W' : World} {base : Nat} {rs : List R} {v v' : Value} {l l' : List (List UInt8)} (h : Rows W base ((v, l) :: rs)) (ho : W'.ownsRow base 9 1 v' l'.length (stV l')) (hg : W.grownBy W' v.ownBlock) (ha : v'.ownBlock = v.ownBlock ∨ v'.ownBlock = some W.heap.size) : Rows W' base ((v', l') :: rs) := by
  obtain ⟨h1, h2⟩ := h
  rw [List.pairwise_cons] at h2
  have old : ∀ r ∈ rs, W.ownsRow base 9 1 r.1 r.2.length (stV r.2) := fun r hr => h1 r (List.mem_cons_of_mem _ hr)
  refine ⟨fun r hr => ?_, List.pairwise_cons.2 ⟨fun r hr k hk hk2 => ?_, h2.2⟩⟩
  · rcases List.mem_cons.1 hr with rfl | hr
    · exact ho
    · refine (old r hr).kept hg ?_
      cases hk : r.1.ownBlock with
      | none => exact .inl rfl
      | some k => exact .inr fun e => h2.1 r hr k e.symm hk
  · rcases ha with e | e
    · exact h2.1 r hr k (e ▸ hk) hk2
    · have hkk : k = W.heap.size := by rw [e] at hk; exact (Option.some.inj hk).symm
      have := ((old r hr).lt k hk2).2
      omega

theorem Rows.store {W : World} {base : Nat} {rs : List R} {g cap : Nat} {l : List (List UInt8)} (h : Rows W base ((.slice (some ⟨g, 0, none⟩) l.length cap, l) :: rs)) (i : Nat) (x : List UInt8) :
    Rows (W.setCell ⟨g, i, none⟩ (.string (bst x))) base ((.slice (some ⟨g, 0, none⟩) l.length cap, l.set i x) :: rs) := by
  obtain ⟨hs, hg⟩ := h.head.stored i (.string (bst x))
  refine Rows.grown h ?_ hg (.inl rfl)
  rw [List.length_set]
  have e : stV (l.set i x) = (stV l).set i (.string (bst x)) := by simp [stV, List.map_set]
  rw [e]
  exact hs

theorem cell_two_new (w : World) (x y : Value) (t : TypeId) : ∀ j u, [x, y][j]? = some u → (w.alloc (.cells #[x, y] t)).cell? ((⟨w.heap.size, 0, none⟩ : Addr).add j) = some u := by
  intro j u hj
  have hb : (w.alloc (.cells #[x, y] t)).heap[w.heap.size]? = some (.cells #[x, y] t) := World.alloc_heap_new w _
  have hplain : (⟨w.heap.size, 0, none⟩ : Addr).add j = ⟨w.heap.size, 0 + j, none⟩ := by unfold Addr.add; split <;> simp_all
  rw [hplain, Lib.cell_of_heap hb, Nat.zero_add]
  simpa using hj

/-- An argument's texts behind a row of one's own. -/
theorem append_arg {w : World} {ops : Array Oper} {rest : List Oper} {o : Oper} {a : Act} {Q : Exit → Act → World → Prop} (hgd : o.guard = none) (s x : Operand)
    (ho : o.op = .call { callee := .builtin .append, args := #[s, x], argTypes := #[22, 22] }) (base : Nat) (v u : Value) (l m : List (List UInt8)) (hs : a.eval s = v)
    (hown : w.ownsRow base 9 1 v l.length (stV l)) (hx : a.eval x = u) (hu : Row w u m) (hshape : u = .slice none 0 0 ∨ ∃ ad n c, u = .slice (some ad) n c) (hlen : l.length + m.length ≤ 8388608) (hbase : base ≤ w.heap.size)
    (h : ∀ v' w', w'.ownsRow base 9 1 v' (l ++ m).length (stV (l ++ m)) → w.grownBy w' v.ownBlock → wpList Tryd.prog ops Q rest (a.put o.dst v') w') : wpList Tryd.prog ops Q (o :: rest) a w := by
  obtain ⟨i0, hi, hz0, hz1, hz2⟩ := info_parts strs_info
  rcases hshape with rfl | ⟨ad, n, c, rfl⟩
  · obtain rfl : m = [] := by
      obtain ⟨p, c, e⟩ := hu.shape
      cases hm : m with
      | nil => rfl
      | cons y ys => rw [hm] at e; simp at e
    refine wpList_append_own_none hgd s x 22 ho base 9 i0 1 Tryd.underlying22 hi v l.length (stV l) hs hown hx ?_
    exact h v w (by simpa using hown) ⟨rfl, rfl, rfl, Nat.le_refl _, fun _ _ _ => rfl⟩
  · have hn : n = m.length := by
      obtain ⟨p, c', e⟩ := hu.shape
      cases e
      rfl
    subst hn
    refine wpList_append_own _ hgd s x 22 ho base 9 i0 (.string ⟨#[]⟩) 1 16 Tryd.underlying22 hi hz0 hz1 hz2 rfl (by decide) v l.length (stV l) hs hown ad m.length c (stV m) hx (by simp [stV]) ?_ ?_ (by unfold maxLen; omega) (by omega) hbase ?_
    · intro j y hj
      have hjl : j < m.length := by
        have := (List.getElem?_eq_some_iff.1 hj).1
        simpa [stV] using this
      rcases hu with ⟨rfl, -⟩ | ⟨g, off, c2, e, hc⟩
      · simp at hjl
      · cases e
        have h1 := hc j hjl
        have hplain : (⟨g, off, none⟩ : Addr).add j = ⟨g, off + j, none⟩ := by unfold Addr.add; split <;> simp_all
        rw [hplain, h1]
        simpa [stV, List.getElem?_eq_getElem hjl] using hj
    · intro y hy
      simp only [stV, List.mem_map] at hy
      obtain ⟨z, -, rfl⟩ := hy
      rfl
    · intro v' w' h2 h3 _
      exact h v' w' (by simpa [stV] using h2) h3
theorem Row.front3 {W : World} {p : Option Addr} {n c : Nat} {l : List (List UInt8)} {x : List UInt8} (h : Row W (.slice p n c) (l ++ [x])) (c' : Nat) : Row W (.slice p l.length c') l := by
  rcases h with ⟨e, -⟩ | ⟨g, off, c2, e, hc⟩
  · simp at e
  · cases e
    refine .inr ⟨g, off, c', rfl, fun i hi => ?_⟩
    rw [hc i (by simp; omega), List.getElem_append_left hi]

theorem last_cell {W : World} {base g cap : Nat} {l : List (List UInt8)} {x : List UInt8} (h : W.ownsRow base 9 1 (.slice (some ⟨g, 0, none⟩) (l ++ [x]).length cap) (l ++ [x]).length (stV (l ++ [x]))) : W.cell? ⟨g, l.length, none⟩ = some (.string (bst x)) := by
  rw [h.cellAt l.length (by simp), stV_snoc, List.getElem?_append_right (by simp [stV])]
  simp [stV]

theorem tail_cell {W : World} {base g n cap : Nat} {M m : List (List UInt8)} (h : W.ownsRow base 9 1 (.slice (some ⟨g, 0, none⟩) n cap) (M ++ m).length (stV (M ++ m))) (hn : n = (M ++ m).length) (j : Nat) (hj : j < m.length) : W.cell? ⟨g, M.length + j, none⟩ = some (.string (bst m[j])) := by
  subst hn
  rw [h.cellAt _ (by simp; omega)]
  have e : stV (M ++ m) = stV M ++ stV m := by simp [stV]
  rw [e, List.getElem?_append_right (by simp [stV])]
  simp [stV, List.getElem?_eq_getElem hj]

theorem front_cell {W : World} {base g n cap : Nat} {M m : List (List UInt8)} (h : W.ownsRow base 9 1 (.slice (some ⟨g, 0, none⟩) n cap) (M ++ m).length (stV (M ++ m))) (hn : n = (M ++ m).length) (j : Nat) (hj : j < M.length) : W.cell? ⟨g, j, none⟩ = some (.string (bst M[j])) := by
  subst hn
  rw [h.cellAt _ (by simp; omega)]
  have e : stV (M ++ m) = stV M ++ stV m := by simp [stV]
  rw [e, List.getElem?_append_left (by simpa [stV] using hj)]
  simp [stV, List.getElem?_eq_getElem hj]

theorem owns_app {W : World} {base k : Nat} {v : Value} {l : List (List UInt8)} {ys : List Value} (m : List (List UInt8)) (h : W.ownsRow base 9 1 v (l.length + k) (stV l ++ ys)) (hk : k = m.length) (he : ys = stV m) : W.ownsRow base 9 1 v (l ++ m).length (stV (l ++ m)) := by
  subst he
  subst hk
  rw [List.length_append]
  have e : stV (l ++ m) = stV l ++ stV m := by simp [stV]
  rw [e]
  exact h

theorem set_mark (l : List (List UInt8)) (m : List UInt8) (k : Nat) (hk : k < l.length) : (List.replicate k m ++ l.drop k).set k m = List.replicate (k + 1) m ++ l.drop (k + 1) := by
  rw [List.set_append_right _ _ (by simp), List.length_replicate, Nat.sub_self, List.drop_eq_getElem_cons hk, List.set_cons_zero, List.replicate_succ']
  simp


set_option maxRecDepth 100000 in
set_option maxHeartbeats 4000000 in
theorem walk (s : ByteArray) (v : Value) (l : List (List UInt8)) (hshape : v = .slice none 0 0 ∨ ∃ ad n c, v = .slice (some ad) n c) (hs : s.size ≤ 1048576) (hl : totL l + l.length ≤ 1048576) (w : World) (hg : Glob w) (hv : Row w v l) :
    Calls Tryd.prog 8 #[.string s, v] w fun e w' => e = .returned (.bool true) ∧ Below w.heap.size w w' := by
  obtain ⟨i0, hi, hz0, hz1, hz2⟩ := info_parts strs_info
  have hcl := lines_len s.data.toList
  have hsz : s.data.toList.length = s.size := rfl
  have HA := hideT (awake_any w hg)
  have HC := hideT (fun w => lines_any s (by omega) w)
  have HRC := hideT (fun w => docLines_any s (by omega) w)
  have hLl : (linesL s.data.toList).length ≤ 1048577 := by omega
  have HRD := hideT (fun a w1 (h : Row w1 a l) (hg : Glob w1) => read_any a l w1 h (by omega) (by omega) hg)
  generalize linesL s.data.toList = L at *
  have hln : l.length ≤ 1048576 := by omega
  have HS := hideT hshape
  have HG := hideT hg
  clear hcl hsz hshape hg
  obtain ⟨p0, c0, rfl⟩ := hv.shape
  have HV := hideT hv
  clear hv
  go_enter Tryd.func8, Tryd.ntmps8
  go_wp2_with fail
  refine HA.out.mono ?_
  rintro e w1 ⟨rfl, hB1⟩
  go_wp2_with (first | (at_builtin; refine append_arg rfl _ _ rfl w.heap.size _ _ [] l rfl (World.ownsRow_nil _ _ _ _) rfl (HV.out.stay hB1 (Nat.le_refl _)) HS.out (by simp only [List.length_nil]; omega) hB1.size ?_; intro v2 w2 hown2 hg2; rw [List.nil_append] at hown2; have hB2 := hB1.grown hg2 hB1.size (fun k hk => by cases hk); obtain ⟨ao2, cp2, rfl⟩ := owns_shape hown2; have HO2 := hideT hown2; have hszB2 := hB2.size; clear hown2 hg2 hB1) | (at_builtin; refine wpList_append_own _ rfl _ _ 22 rfl w.heap.size 9 i0 (.string ⟨#[]⟩) 1 16 Tryd.underlying22 hi hz0 hz1 hz2 rfl (by decide) _ _ _ rfl (HO2.out.alloc _) ⟨w2.heap.size, 0, none⟩ 1 1 [.string ⟨#[98, 101, 104, 105, 110, 100]⟩] rfl rfl (cell_one_new _ _ _) (by simp [Value.oneCell']) (by unfold maxLen; omega) (by omega) (by rw [World.size_alloc]; omega) ?_; intro v3 w3 hown3 hg3 _; have hB3 := (hB2.alloc hszB2 _).grown hg3 (by rw [World.size_alloc]; omega) (owns_block HO2.out); have hown3 : w3.ownsRow w.heap.size 9 1 v3 (l ++ [[98, 101, 104, 105, 110, 100]]).length (stV (l ++ [[98, 101, 104, 105, 110, 100]])) := (by rw [List.length_append, stV_snoc]; exact hown3); obtain ⟨g3, cp3, rfl, hcap3, hmx3⟩ := owns_some hown3 (by simp); have HO3 := hideT hown3; rw [List.length_append] at hcap3; clear hown3 hg3 hB2 HO2))
  have hlc : l.length ≤ cp3 := by simp at hcap3; omega
  have hlc1 : l.length < l.length + 1 := by omega
  have HF3 := hideT (Row.front3 (Row.of_owns HO3.out) cp3)
  refine (HRD.out _ w3 HF3.out (HG.out.stay hB3)).mono ?_
  generalize readR l = RR
  obtain ⟨rx, re⟩ := RR
  simp only
  generalize bst rx = rb
  rintro e w4 ⟨rfl, hb4⟩
  have HO4 := hideT (owns_below HO3.out hb4)
  have hB4 := hB3.trans (hb4.mono hB3.size)
  clear HO3 HF3 hb4 hB3
  go_wp2_with fail
  have HF4 := hideT (Row.front3 (Row.of_owns HO4.out) cp3)
  refine (same_any _ _ l l w4 HF4.out (HV.out.stay hB4 (Nat.le_refl _)) (by omega) (by omega)).mono ?_
  rintro e w5 ⟨rfl, hb5⟩
  rw [decide_eq_true rfl]
  have hcell : w5.cell? ⟨g3, l.length, none⟩ = some (.string ⟨#[98, 101, 104, 105, 110, 100]⟩) := last_cell (owns_below HO4.out hb5)
  have hB5 := hB4.trans (hb5.mono hB4.size)
  clear HO4 HF4 hb5 hB4
  go_wp2_with fail
  obtain ⟨B, hBd⟩ : ∃ B, B = w5.heap.size := ⟨_, rfl⟩
  refine (HC.out w5).mono ?_
  rintro e w6 ⟨va, rfl, hoa, hb6⟩
  have HR6 := hideT (Rows.add (Rows.nil w5 B) hb6 (Nat.le_of_eq hBd) hoa)
  have hB6 := hB5.trans (hb6.mono hB5.size)
  have hBw : w.heap.size ≤ B := by rw [hBd]; exact hB5.size
  have hs6 : B ≤ w6.heap.size := by rw [hBd]; exact hb6.size
  obtain ⟨aoa, cpa, rfl⟩ := owns_shape hoa
  clear hoa hb6 hB5 hBd hcell
  go_wp2_with fail
  refine (HC.out w6).mono ?_
  rintro e w7 ⟨vb, rfl, hob, hb7⟩
  have HR7 := hideT (Rows.add HR6.out hb7 hs6 hob)
  have hB := hB6.trans (hb7.mono hB6.size)
  have hsBw : B ≤ w7.heap.size := Nat.le_trans hs6 hb7.size
  obtain ⟨aob, cpb, rfl⟩ := owns_shape hob
  clear hob hb7 hB6 HR6 hs6
  have HR := hideT (Rows.pick [(.slice aob L.length cpb, L)] [] (.slice aoa L.length cpa, L) HR7.out)
  clear HR7
  go_wp2_with fail
  go_loopw [43] (fun i wr => ∃ k : Nat, k ≤ L.length ∧ i = .int .i64 k ∧ Rows wr B [(.slice aoa L.length cpa, List.replicate k [109, 97, 114, 107, 32, 97] ++ L.drop k), (.slice aob L.length cpb, L)] ∧ Below w.heap.size w wr ∧ B ≤ wr.heap.size) (fun i _ => L.length - (intOf i).toNat)
  case atStart => exact ⟨0, by omega, rfl, by simpa using HR.out, hB, hsBw⟩
  case round =>
    clear HR hB hsBw
    obtain ⟨k, hk, rfl, hR, hB, hsBw⟩ := hrel
    by_cases hlt : k < L.length
    · have hlen : (List.replicate k [109, 97, 114, 107, 32, 97] ++ L.drop k).length = L.length := by simp; omega
      have hown := hR.head
      rw [hlen] at hown
      obtain ⟨g, cap, e, -, -⟩ := owns_some hown (by omega)
      cases e
      obtain ⟨x, hx⟩ : ∃ x, wr.cell? ⟨g, k, none⟩ = some x := by
        rw [hown.cellAt k (by omega)]
        exact ⟨_, List.getElem?_eq_getElem (by simp [stV]; omega)⟩
      have hf := hown.frozenAt k
      have hR2 := Rows.store (l := List.replicate k [109, 97, 114, 107, 32, 97] ++ L.drop k) (by rw [hlen]; exact hR) k [109, 97, 114, 107, 32, 97]
      rw [hlen, set_mark _ _ _ hlt] at hR2
      have hgk : w.heap.size ≤ g := by
        have := owns_block hown g rfl
        omega
      have hB2 := hB.setCell (p := ⟨g, k, none⟩) hgk (.string (bst [109, 97, 114, 107, 32, 97]))
      have HR2 := hideT hR2
      have HB2 := hideT hB2
      clear hR2 hB2 hR hown hlen hB
      go_wp2_with fail
      refine ⟨⟨k + 1, by omega, by go_num, HR2.out, HB2.out, by simpa using hsBw⟩, by simp [intOf]; omega⟩
    · obtain rfl : k = L.length := by omega
      rw [List.drop_length, List.append_nil] at hR
      clear hlt hk
      obtain ⟨MA, hMA⟩ : ∃ M, List.replicate L.length ([109, 97, 114, 107, 32, 97] : List UInt8) = M := ⟨_, rfl⟩
      have hMAl : MA.length = L.length := by rw [← hMA]; simp
      rw [hMA] at hR
      clear hMA
      have HR0 := hideT hR
      have hsB := hB.size
      obtain ⟨W0, hW0⟩ : ∃ x, x = wr := ⟨_, rfl⟩
      subst hW0
      clear hR
      go_wp2_with (at_builtin; refine wpList_append_own_at _ rfl _ _ 22 rfl B 9 i0 (.string ⟨#[]⟩) 1 16 Tryd.underlying22 hi hz0 hz1 hz2 rfl (by decide) _ _ _ rfl (HR0.out.head.alloc _) ⟨W0.heap.size, 0, none⟩ 2 2 [.string ⟨#[97, 49]⟩, .string ⟨#[97, 50]⟩] rfl rfl (cell_two_new _ _ _ _) (by simp [Value.oneCell']) (by unfold maxLen; omega) (by omega) (by rw [World.size_alloc]; omega) ?_; intro va' wA hownA hgA _ hatA; have hA2 := owns_app [[97, 49], [97, 50]] hownA rfl rfl; have HRA := hideT (Rows.grown (HR0.out.alloc _) hA2 hgA hatA); have hBA := (hB.alloc hsB _).grown hgA (by rw [World.size_alloc]; omega) (fun k hk => Nat.le_trans hBw (owns_block HR0.out.head k hk)); have hszA := hBA.size; have hsBA := Nat.le_trans hsBw (Nat.le_trans (by simp) hgA.size); rw [hMAl] at hownA; obtain ⟨ga, cpa2, rfl, hca, hma⟩ := owns_some hownA (by omega); clear hownA hA2 hgA hatA HR0)
      refine (HRC.out wA).mono ?_
      rintro e w10 ⟨v10, rfl, ho10, hb10⟩
      have HR10 := hideT (HRA.out.below hb10)
      have hB10 := hBA.trans (hb10.mono hBA.size)
      have hs10 : B ≤ w10.heap.size := Nat.le_trans hsBA hb10.size
      obtain ⟨ao10, cp10, rfl⟩ := owns_shape ho10
      have HW10 := hideT (Row.of_owns ho10)
      clear ho10 hb10 hBA HRA hsBA
      go_wp2_with fail
      refine (same_any _ _ L L w10 (Row.of_owns (HR10.out.1 (.slice aob L.length cpb, L) (by simp))) HW10.out (by omega) (by omega)).mono ?_
      rintro e w13 ⟨rfl, hb13⟩
      rw [decide_eq_true rfl]
      have HR13 := hideT (Rows.pick [(.slice (some ⟨ga, 0, none⟩) (L.length + 2) cpa2, MA ++ [[97, 49], [97, 50]])] [] (.slice aob L.length cpb, L) (HR10.out.below hb13))
      have hB13 := hB10.trans (hb13.mono hB10.size)
      have hs13 : B ≤ w13.heap.size := Nat.le_trans hs10 hb13.size
      clear hb13 hB10 HR10 hs10 HW10
      have hz13 := hB13.size
      go_wp2_with (at_builtin; refine wpList_append_own_at _ rfl _ _ 22 rfl B 9 i0 (.string ⟨#[]⟩) 1 16 Tryd.underlying22 hi hz0 hz1 hz2 rfl (by decide) _ _ _ rfl (HR13.out.head.alloc _) ⟨w13.heap.size, 0, none⟩ 1 1 [.string ⟨#[98, 49]⟩] rfl rfl (cell_one_new _ _ _) (by simp [Value.oneCell']) (by unfold maxLen; omega) (by omega) (by rw [World.size_alloc]; omega) ?_; intro vb' wB hownB hgB _ hatB; have hB2 := owns_app [[98, 49]] hownB rfl rfl; have HRB := hideT (Rows.grown (HR13.out.alloc _) hB2 hgB hatB); have hBB := (hB13.alloc hz13 _).grown hgB (by rw [World.size_alloc]; omega) (fun k hk => Nat.le_trans hBw (owns_block HR13.out.head k hk)); obtain ⟨gb, cpb2, rfl, hcb, hmb⟩ := owns_some hownB (by omega); have c1 : wB.cell? ⟨ga, L.length, none⟩ = some (.string ⟨#[97, 49]⟩) := (by have h := tail_cell (HRB.out.1 (.slice (some ⟨ga, 0, none⟩) (L.length + 2) cpa2, MA ++ [[97, 49], [97, 50]]) (by simp)) (by simp [hMAl]) 0 (by simp); rw [hMAl] at h; exact h); have c2 : wB.cell? ⟨ga, L.length + 1, none⟩ = some (.string ⟨#[97, 50]⟩) := (by have h := tail_cell (HRB.out.1 (.slice (some ⟨ga, 0, none⟩) (L.length + 2) cpa2, MA ++ [[97, 49], [97, 50]]) (by simp)) (by simp [hMAl]) 1 (by simp); rw [hMAl] at h; exact h); have c3 : wB.cell? ⟨gb, L.length, none⟩ = some (.string ⟨#[98, 49]⟩) := tail_cell hB2 (by simp) 0 (by simp); have HBB := hideT hBB; clear hownB hB2 hgB hatB HR13 HRB hBB)
      go_ret
      exact ⟨rfl, HBB.out⟩

end keeps
theorem keeps_walk (s : ByteArray) (v : Value) (l : List (List UInt8)) (hshape : v = .slice none 0 0 ∨ ∃ ad n c, v = .slice (some ad) n c) (hs : s.size ≤ 1048576) (hl : totL l + l.length ≤ 1048576) (w : World) (hg : Glob w) (hv : Row w v l) :
    Calls Tryd.prog 8 #[.string s, v] w fun e w' => e = .returned (.bool true) ∧ Below w.heap.size w w' := keeps.walk s v l hshape hs hl w hg hv

end Go.Proofs.YtiegmgcdfafhiaaDoor
