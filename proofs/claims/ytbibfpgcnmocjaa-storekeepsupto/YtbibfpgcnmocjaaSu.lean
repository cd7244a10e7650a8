/- store: All: the files, given one at a time; a range over it. -/
import Derived.RangeFuncNested
import Derived.RangeFuncBound
import Derived.RangeFuncCalls
import Derived.RangeFuncLeaves
import Derived.RangeFuncBox
import Derived.RangeFuncWrites
import Derived.Shelf.Abstract
import Derived.OwnWalkIn
import Derived.TacticsInMore
import Derived.LoopNIn
import Derived.LoopIn
import Derived.Maps.OwnIn
import Derived.Test.YtbibfpgcnmocjaaSt
namespace Go.Proofs.Ytbibfpgcnmocjaa
open Go.RowKit Go.Shelf

abbrev It := List UInt8 × List UInt8
def itemsL (S : Sr) : List It := S.fs.map fun x => (x.1, x.2.data)
def itV (x : It) : Array Value := #[.string ⟨x.1.toArray⟩, .string ⟨x.2.toArray⟩]
theorem items_len (S : Sr) : (itemsL S).length = S.fs.length := by simp [itemsL]
/-- Block k isn't the loop's own: it is one of Q's, and it isn't the row of the list in the box at L. -/
def Apt (Q : Nat → Prop) (L : Nat) (W : World) (k : Nat) : Prop := Q k ∧ k < W.heap.size ∧ ∀ v, Boxed W L 22 v → v.ownBlock ≠ some k
/-- What a round keeps. -/
structure KeepA (Q : Nat → Prop) (L : Nat) (W W' : World) : Prop where
  size : W.heap.size ≤ W'.heap.size
  same : ∀ k, Apt Q L W k → Apt Q L W' k ∧ W'.heap[k]? = W.heap[k]?
theorem KeepA.trans {Q : Nat → Prop} {L : Nat} {X Y Z : World} (h : KeepA Q L X Y) (h' : KeepA Q L Y Z) : KeepA Q L X Z :=
  ⟨Nat.le_trans h.size h'.size, fun k hk => ⟨(h'.same k (h.same k hk).1).1, (h'.same k (h.same k hk).1).2.trans (h.same k hk).2⟩⟩
/-- What the iterator changes between two rounds. -/
structure ItS (Q : Nat → Prop) (L : Nat) (W W' : World) : Prop where
  os : W'.os = W.os
  tape : W'.tape = W.tape
  output : W'.output = W.output
  size : W.heap.size ≤ W'.heap.size
  block : ∀ k, k < W.heap.size → ¬ Apt Q L W k → W'.heap[k]? = W.heap[k]?
def AbideA (Q : Nat → Prop) (L : Nat) (J : List It → World → Prop) : Prop := ∀ s W W', J s W → ItS Q L W W' → J s W'
theorem ItS.of_below {Q : Nat → Prop} {L : Nat} {W W' : World} (h : Below W.heap.size W W') : ItS Q L W W' := ⟨h.os, h.tape, h.output, h.size, fun k hk _ => h.block k hk⟩
/-- What is asked of an iterator that gives the items xs, at a world X; R holds behind it. -/
def Iter (fn : Nat) (lb : Array Value) (xs : List It) (Q : Nat → Prop) (L : Nat) (P R : World → Prop) (X : World) : Prop :=
  ∀ (n l : Nat) (J Jx : List It → World → Prop), 1 ≤ n → AbideA Q L J → (∀ pre W1, J pre W1 → P W1) →
    (∀ pre (x : It) W1, J pre W1 → (pre ++ [x] <+: xs) → YieldAt Fence.wide (n - 1) Try.prog l (itV x) W1 fun e W' =>
      (e = .returned (.bool true) ∧ J (pre ++ [x]) W' ∧ KeepA Q L W1 W') ∨ (e = .returned (.bool false) ∧ Jx (pre ++ [x]) W' ∧ KeepA Q L W1 W')) → J [] X →
    CallsIn Fence.wide n Try.prog fn (#[.func (.yield l) #[] #[]] ++ lb) X fun e W' => (∃ v, e = .returned v) ∧ R W' ∧ (J xs W' ∨ ∃ pre, pre <+: xs ∧ Jx pre W')

attribute [local go_sem] Oper.semAt_some

theorem box_stay {n0 L : Nat} (hL : L < n0) {W W' : World} (h : Below n0 W W') {v : Value} : Boxed W' L 22 v ↔ Boxed W L 22 v := by
  unfold Boxed
  rw [h.block L hL]
/-- What the iterator knows while it goes on. -/
structure ItR (n0 L b : Nat) (F : Nat → Prop) (S : Sr) (J : List It → World → Prop) (nv : Value) (k : Nat) (W : World) : Prop where
  st : I0 W F b S
  j : J ((itemsL S).take k) W
  row : W.ownsRow n0 9 1 nv S.fs.length ((namesL S).map encStr)
  apt : ∀ g, nv.ownBlock = some g → Apt (fun k => F k ∨ n0 ≤ k) L W g
theorem look_at {l : Fs} (h : Ris l) {k : Nat} {x : List UInt8 × Fl} (hx : l[k]? = some x) : look l x.1 = some x.2 := by
  induction l generalizing k with
  | nil => cases hx
  | cons y r ih =>
    unfold Ris at h
    simp only [List.map_cons, List.pairwise_cons] at h
    cases k with
    | zero =>
      simp at hx
      subst hx
      simp [look]
    | succ k =>
      have hm : x.1 ∈ r.map (·.1) := List.mem_map.2 ⟨x, List.mem_of_getElem? hx, rfl⟩
      have hne : ¬ y.1 = x.1 := fun e => by
        have := h.1 x.1 hm
        rw [e] at this
        exact List.lt_irrefl _ this
      simp only [look, if_neg hne]
      exact ih h.2 hx

set_option maxRecDepth 100000 in
set_option maxHeartbeats 4000000 in
theorem iter_in {b Bn L n0 : Nat} {S : Sr} {F : Nat → Prop} (hok : S.fs.length ≤ 16) {X : World} (hn0 : n0 = X.heap.size) (hI : I0 X F b S) (hL : L < n0) (hnm : ∀ x ∈ namesL S, x.length ≤ 1000000) : Iter 37 #[.pointer (some ⟨Bn, 0, none⟩)] (itemsL S) (fun k => F k ∨ n0 ≤ k) L (fun W1 => Boxed W1 Bn 24 (ptrV b) ∧ ∀ v g, Boxed W1 L 22 v → v.ownBlock = some g → g < W1.heap.size ∧ ¬ F g) (fun W' => I0 W' F b S) X := by
  intro n l J Jx hn hJ hJB hY h0
  have hc0 := (hJB _ _ h0).1.cell
  have HF := hideT (fun k (hk : F k) => (show k < n0 by rw [hn0]; exact hI.lt k hk))
  have HN := hideT (show Calls Try.prog 38 #[ptrV b] X fun e w' => ∃ nv, e = .returned nv ∧ (∃ g cap, nv = .slice (some ⟨g, 0, none⟩) S.fs.length cap) ∧ ItR n0 L b F S J nv 0 w' from by
    have hI' := hI
    obtain ⟨mb, p, v, fm, D, hSA, rfl⟩ := hI'
    refine (names_any hSA hok).mono ?_
    rintro e w' ⟨g, cap, rfl, ho, hb⟩
    refine ⟨_, rfl, ⟨g, cap, rfl⟩, hI.keep (fun k hk => hb.block k (hI.lt k hk)), hJ _ _ _ h0 (ItS.of_below hb), ?_, fun g' hg' => ?_⟩
    · rw [hn0]
      exact ho
    · have h1 := ho.lt g' hg'
      refine ⟨.inr (by rw [hn0]; exact h1.1), h1.2, fun u hu e => ?_⟩
      have hu' := (box_stay (by rw [← hn0]; exact hL) hb).1 hu
      have := ((hJB _ _ h0).2 u g' hu' e).1
      omega)
  have HRS := hideT (show Ris S.fs from by obtain ⟨mb, p, v, fm, D, hSA, rfl⟩ := hI; exact hSA.ris)
  clear hI h0
  show CallsIn Fence.wide n Try.prog 37 #[.func (.yield l) #[] #[], .pointer (some ⟨Bn, 0, none⟩)] X _
  refine callsIn_of_wp Try.func37 rfl trivial ?_ rfl
  simp only [Try.ntmps37, List.size_toArray, List.length_cons, List.length_nil, Nat.reduceAdd, Nat.reduceSub, Array.replicate_succ, Array.replicate_zero, List.push_toArray, List.append_toArray, List.nil_append, List.cons_append]
  gi_wp2_with fail
  refine ⟨trivial, ?_⟩
  refine (callsIn_wide.2 HN.out).mono ?_
  rintro e w1 ⟨nv, rfl, ⟨g, cap, rfl⟩, hR0⟩
  have H0 := hideT hR0
  clear hR0 HN hc0
  gi_wp2
  gi_loopw [8] (fun i wr => ∃ k : Nat, k ≤ S.fs.length ∧ i = .int .i64 (k : Nat) ∧ Hid (ItR n0 L b F S J (.slice (some ⟨g, 0, none⟩) S.fs.length cap) k wr)) (fun i _ => S.fs.length - (intOf i).toNat)
  case atStart => exact ⟨0, Nat.zero_le _, rfl, H0⟩
  case round =>
    obtain ⟨k, hk, rfl, HI⟩ := hrel
    clear H0
    by_cases hlt : k < S.fs.length
    · have i1 : (k : Int) < (S.fs.length : Int) := by omega
      have i2 : (0 : Int) ≤ (k : Int) := by omega
      obtain ⟨x, hx⟩ : ∃ x, S.fs[k]? = some x := ⟨_, List.getElem?_eq_getElem hlt⟩
      have hc := (hJB _ _ HI.out.j).1.cell
      have hcn : wr.cell? ⟨g, k, none⟩ = some (.string ⟨x.1.toArray⟩) := by
        have h1 := HI.out.row.cells (g := g) rfl k (encStr x.1) (by rw [List.getElem?_map, namesL, List.getElem?_map, hx]; rfl)
        have hadd : (⟨g, 0, none⟩ : Addr).add k = ⟨g, k, none⟩ := by unfold Addr.add; split <;> simp_all
        rw [hadd] at h1
        exact h1
      have hlk := look_at HRS.out hx
      have hit : (itemsL S)[k]? = some (x.1, x.2.data) := by unfold itemsL; rw [List.getElem?_map, hx]; rfl
      have htk : (itemsL S).take (k + 1) = (itemsL S).take k ++ [(x.1, x.2.data)] := by rw [List.take_add_one, hit]; rfl
      have HPre := hideT (show (itemsL S).take k ++ [(x.1, x.2.data)] <+: itemsL S by rw [← htk]; exact List.take_prefix _ _)
      have HTK := hideT htk
      have hxl := hnm x.1 (by unfold namesL; exact List.mem_map.2 ⟨x, List.mem_of_getElem? hx, rfl⟩)
      clear htk hit
      obtain ⟨mb, p, v, fm, D, hSA, hFe⟩ := HI.out.st
      obtain ⟨cm, _⟩ := hSA.cm
      have hfi := hSA.find ⟨x.1.toArray⟩ (by show x.1.toArray.size ≤ _; simp; omega)
      have hlk2 := hSA.lk x.1
      rw [hlk] at hlk2
      obtain ⟨y, hy, hyf⟩ := Option.map_eq_some_iff.1 hlk2.symm
      have hfi2 : (Instr.lookup 60 (.map (some mb)) (.string ⟨x.1.toArray⟩) false).run Try.prog wr = .ok (.pointer (some ⟨y.b, 0, none⟩)) wr := by
        rw [hfi]
        show Result.ok (ptrO ((fm x.1.toArray.toList).map (·.b))) wr = _
        rw [show x.1.toArray.toList = x.1 by simp, hy]
        rfl
      have HST := hideT (show Calls Try.prog 27 #[.pointer (some ⟨y.b, 0, none⟩)] wr fun e w' => e = .returned (.string ⟨x.2.data.toArray⟩) ∧ ItR n0 L b F S J (.slice (some ⟨g, 0, none⟩) S.fs.length cap) k w' from by
        have hs := str_any (hSA.fil x.1 y hy) (by decide)
        rw [hyf] at hs
        refine hs.mono ?_
        rintro e w' ⟨rfl, h1, ht, hsz⟩
        have hrF : ∀ j, y.v.ownBlock = some j → F j := fun j hj => by rw [hFe]; exact .inr (.inr (.inr ⟨x.1, y, hy, .inr hj⟩))
        have hIts : ItS (fun k => F k ∨ n0 ≤ k) L wr w' := ⟨ht.os, ht.tape, ht.output, ht.size, fun j hj hna => ht.block j hj (fun hr => hna ⟨.inl (hrF j hr), hj, fun u hu e => ((hJB _ _ HI.out.j).2 u j hu e).2 (hrF j hr)⟩)⟩
        have h2 := hSA.changed hy (y := y) rfl (by have h7 := h1; rw [← hyf] at h7; exact h7) (ht.mono (fun j hj => .inr hj)) (fun g hg => .inl hg)
        have e1 : updF fm x.1 y = fm := by
          funext m
          unfold updF
          split
          · rename_i e
            rw [e, hy]
          · rfl
        have e2 : setF S.fs x.1 y.f = S.fs := set_same (by rw [hyf]; exact hlk)
        rw [e1, e2] at h2
        have hgn : ∀ g', (Value.slice (some ⟨g, 0, none⟩) S.fs.length cap).ownBlock = some g' → w'.heap[g']? = wr.heap[g']? := fun g' hg' => by
          have ha := HI.out.apt g' hg'
          refine ht.block g' ha.2.1 (fun hr => ?_)
          have h3 := HF.out g' (hrF g' hr)
          have h4 := (HI.out.row.lt g' hg').1
          omega
        refine ⟨rfl, ⟨mb, p, v, fm, D, h2, hFe⟩, hJ _ _ _ HI.out.j hIts, owns_keep HI.out.row hgn, fun g' hg' => ?_⟩
        have ha := HI.out.apt g' hg'
        refine ⟨ha.1, by have := ht.size; have := ha.2.1; omega, fun u hu => ha.2.2 u ?_⟩
        have hLb : w'.heap[L]? = wr.heap[L]? ∨ wr.heap.size ≤ L := by
          by_cases hLs : L < wr.heap.size
          · refine .inl (ht.block L hLs (fun hr => ?_))
            have hb : Boxed w' L 22 u := hu
            have h5 := (ownF_lt (hSA.fil x.1 y hy).own hr)
            rcases (h1.own).2 with ⟨hv0, _⟩ | ⟨g5, c5, cur5, fz5, hv5, _, hh5, _⟩
            · rw [hv0] at hr
              cases hr
            · rw [hv5] at hr
              cases hr
              unfold Boxed at hb
              rw [hh5] at hb
              injection hb with hb
              injection hb with _ hb _
              exact absurd hb (by decide)
          · exact .inr (by omega)
        rcases hLb with hLb | hLb
        · unfold Boxed at hu ⊢
          rw [← hLb]
          exact hu
        · have h6 := hu.lt
          omega)
      clear hlk hlk2 hfi hy hyf hSA hFe hx hxl
      gi_wp2_with fail
      refine ⟨trivial, ?_⟩
      refine (callsIn_wide.2 HST.out).mono ?_
      rintro e w2 ⟨rfl, hR2⟩
      obtain ⟨fn, tmps, assign, body, hy, hYR⟩ := hY ((itemsL S).take k) (x.1, x.2.data) w2 hR2.j HPre.out
      have H2 := hideT hR2
      clear hR2 HST hfi2 hcn hc HI cm
      unfold itV at hy
      dsimp only at hy
      gi_wp2
      refine hYR.mono ?_
      have hkeep : ∀ W5, KeepA (fun k => F k ∨ n0 ≤ k) L w2 W5 → I0 W5 F b S ∧ (W5.ownsRow n0 9 1 (.slice (some ⟨g, 0, none⟩) S.fs.length cap) S.fs.length ((namesL S).map encStr) ∧ ∀ g', (Value.slice (some ⟨g, 0, none⟩) S.fs.length cap).ownBlock = some g' → Apt (fun k => F k ∨ n0 ≤ k) L W5 g') := fun W5 hK =>
        ⟨H2.out.st.keep (fun j hj => (hK.same j ⟨.inl hj, H2.out.st.lt j hj, fun u hu e => ((hJB _ _ H2.out.j).2 u j hu e).2 hj⟩).2), owns_keep H2.out.row (fun g' hg' => (hK.same g' (H2.out.apt g' hg')).2), fun g' hg' => (hK.same g' (H2.out.apt g' hg')).1⟩
      rintro e W5 (⟨rfl, hJ5, hK5⟩ | ⟨rfl, hJx5, hK5⟩)
      · have H5 := hideT (show ItR n0 L b F S J (.slice (some ⟨g, 0, none⟩) S.fs.length cap) (k + 1) W5 from ⟨(hkeep W5 hK5).1, by rw [HTK.out]; exact hJ5, (hkeep W5 hK5).2.1, (hkeep W5 hK5).2.2⟩)
        clear hJ5 hK5 H2 hkeep
        gi_wp2
        go_roundw
        case rel => exact ⟨k + 1, by omega, by go_num, H5⟩
        case measure => simp [intOf]; omega
      · have H5 := hideT (And.intro (hkeep W5 hK5).1 hJx5)
        clear hJx5 hK5 H2 hkeep
        gi_wp2
        refine bodyPost_ret (results_none rfl _ _ _) rfl ?_
        exact ⟨⟨_, rfl⟩, H5.out.1, .inr ⟨_, HPre.out, H5.out.2⟩⟩
    · obtain rfl : k = S.fs.length := by omega
      have i1 : ((S.fs.length : Int) < (S.fs.length : Int)) = False := by rw [eq_iff_iff, iff_false]; omega
      have HE := hideT (And.intro HI.out.st (show J (itemsL S) wr from by have h := HI.out.j; rw [List.take_of_length_le (by rw [items_len]; exact Nat.le_refl _)] at h; exact h))
      clear HI
      gi_wp2
      go_end0
      exact ⟨⟨_, rfl⟩, HE.out.1, .inl HE.out.2⟩
end Go.Proofs.Ytbibfpgcnmocjaa
