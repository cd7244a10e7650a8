/- store: a store beside blocks that stay; what New makes, pure. -/
import Derived.Test.YtbibfpgcnmocjaaSl
namespace Go.Proofs.Ytbibfpgcnmocjaa
open Go.RowKit

/-- A store newer than W0, apart from the blocks of P. -/
def FrP (W0 W : World) (b : Nat) (S : Sr) (P : Nat → Prop) : Prop := ∃ F, I0 W F b S ∧ Below W0.heap.size W0 W ∧ (∀ k, F k → W0.heap.size ≤ k ∧ ¬ P k) ∧ ∀ k, P k → k < W.heap.size
def Stay (P : Nat → Prop) (W W' : World) : Prop := ∀ k, P k → W'.heap[k]? = W.heap[k]?
theorem Stay.trans {P : Nat → Prop} {A B C : World} (h : Stay P A B) (k : Stay P B C) : Stay P A C := fun j hj => (k j hj).trans (h j hj)
theorem Fr.prot {W0 W : World} {b : Nat} {S : Sr} (h : Fr W0 W b S) : FrP W0 W b S (fun _ => False) := by
  obtain ⟨F, hI, h0, hF⟩ := h
  exact ⟨F, hI, h0, fun k hk => ⟨hF k hk, id⟩, fun k h => h.elim⟩
theorem FrP.bel {W0 W : World} {b : Nat} {S : Sr} {P : Nat → Prop} (h : FrP W0 W b S P) : Below W0.heap.size W0 W := by
  obtain ⟨_, _, h, _⟩ := h
  exact h
theorem FrP.call {W0 W : World} {b : Nat} {S S' : Sr} {P : Nat → Prop} {f : FuncId} {args : Array Value} {R : Value} (h : FrP W0 W b S P) (c : ∀ F, I0 W F b S → Calls Try.prog f args W (Pst F W b S' R)) : Calls Try.prog f args W fun e w' => e = .returned R ∧ FrP W0 w' b S' P ∧ Stay P W w' := by
  obtain ⟨F, hI, h0, hF, hP⟩ := h
  refine (c F hI).mono ?_
  rintro e w' ⟨rfl, ht, F', hI', hs⟩
  refine ⟨rfl, ⟨F', hI', below_of_tch h0 ht (fun k hk => (hF k hk).1), fun k hk => ?_, fun k hk => Nat.lt_of_lt_of_le (hP k hk) ht.size⟩, fun k hk => ht.block k (hP k hk) (fun hf => (hF k hf).2 hk)⟩
  rcases hs k hk with h | h
  · exact hF k h
  · exact ⟨Nat.le_trans h0.size h, fun hp => by have := hP k hp; omega⟩
theorem FrP.step {W0 W W' : World} {b : Nat} {S : Sr} {P : Nat → Prop} (h : FrP W0 W b S P) (hb : Below W.heap.size W W') : FrP W0 W' b S P ∧ Stay P W W' := by
  obtain ⟨F, hI, h0, hF, hP⟩ := h
  exact ⟨⟨F, hI.keep (fun k hk => hb.block k (hI.lt k hk)), h0.trans (hb.mono h0.size), hF, fun k hk => Nat.lt_of_lt_of_le (hP k hk) hb.size⟩, fun k hk => hb.block k (hP k hk)⟩
/-- A new block more. -/
theorem FrP.more {W0 W W' : World} {b : Nat} {S : Sr} {P : Nat → Prop} (h : FrP W0 W b S P) (hb : Below W.heap.size W W') {Q : Nat → Prop} (hQ : ∀ k, Q k → W.heap.size ≤ k ∧ k < W'.heap.size) : FrP W0 W' b S (fun k => P k ∨ Q k) ∧ Stay P W W' := by
  have hs := (h.step hb).2
  obtain ⟨F, hI, h0, hF, hP⟩ := h
  refine ⟨⟨F, hI.keep (fun k hk => hb.block k (hI.lt k hk)), h0.trans (hb.mono h0.size), fun k hk => ⟨(hF k hk).1, fun hp => ?_⟩, fun k hk => ?_⟩, hs⟩
  · rcases hp with hp | hp
    · exact (hF k hk).2 hp
    · have := (hQ k hp).1
      have := hI.lt k hk
      omega
  · rcases hk with hk | hk
    · exact Nat.lt_of_lt_of_le (hP k hk) hb.size
    · exact (hQ k hk).2
theorem FrP.less {W0 W : World} {b : Nat} {S : Sr} {P Q : Nat → Prop} (h : FrP W0 W b S P) (hQ : ∀ k, Q k → P k) : FrP W0 W b S Q := by
  obtain ⟨F, hI, h0, hF, hP⟩ := h
  exact ⟨F, hI, h0, fun k hk => ⟨(hF k hk).1, fun hq => (hF k hk).2 (hQ k hq)⟩, fun k hk => hP k (hQ k hk)⟩
theorem stay_row {P : Nat → Prop} {W W' : World} (h : Stay P W W') {B e size n : Nat} {v : Value} {xs : List Value} (hr : W.ownsRow B e size v n xs) (hP : ∀ g, v.ownBlock = some g → P g) : W'.ownsRow B e size v n xs := owns_keep hr (fun g hg => h g (hP g hg))
theorem row_in {W : World} {B e size n : Nat} {v : Value} {xs : List Value} (hr : W.ownsRow B e size v n xs) {g : Nat} (hg : v.ownBlock = some g) : B ≤ g ∧ g < W.heap.size := ⟨(owns_blk hr hg).1, (owns_blk hr hg).2.1⟩
/-- Files of it: a new list. -/
theorem FrP.files {W0 W : World} {b : Nat} {S : Sr} {P : Nat → Prop} (h : FrP W0 W b S P) (ho : SOk S) : Calls Try.prog 16 #[ptrV b] W fun e w' => ∃ v, e = .returned v ∧ w'.ownsRow W.heap.size 52 2 v (itemsL S).length (flV (itemsL S)) ∧ FrP W0 w' b S (fun k => P k ∨ v.ownBlock = some k) ∧ Stay P W w' := by
  obtain ⟨F, hI, h0, hF, hP⟩ := h
  refine (files_gen W ⟨_, rfl⟩ hI.lt (fun A B hA hk => hA.keep (fun k hk2 => hk k (hI.lt k hk2))) (it_store hI ho) (by rw [items_len]; exact ho.len)).mono ?_
  rintro e w' ⟨v, rfl, hr, ht, hI'⟩
  refine ⟨v, rfl, hr, ⟨F, hI', below_of_tch h0 ht (fun k hk => (hF k hk).1), fun k hk => ⟨(hF k hk).1, fun hp => ?_⟩, fun k hk => ?_⟩, fun k hk => ht.block k (hP k hk) (fun hf => (hF k hf).2 hk)⟩
  · rcases hp with hp | hp
    · exact (hF k hk).2 hp
    · have := (row_in hr hp).1
      have := hI.lt k hk
      omega
  · rcases hk with hk | hk
    · exact Nat.lt_of_lt_of_le (hP k hk) ht.size
    · exact (row_in hr hk).2
theorem FrP.all {W0 W : World} {b : Nat} {S : Sr} {P : Nat → Prop} (h : FrP W0 W b S P) (ho : SOk S) (most : Int) : Calls Try.prog 22 #[ptrV b, .int .i64 most] W fun e w' => ∃ (v : Value) (pre : List It), e = .returned (.tuple #[v, .bool true]) ∧ w'.ownsRow W.heap.size 52 2 v pre.length (flV pre) ∧ FrP W0 w' b S (fun k => P k ∨ v.ownBlock = some k) ∧ Stay P W w' ∧ (pre = itemsL S ∧ most ≠ 0 ∧ (∀ j : Nat, 0 < j → j ≤ pre.length → (j : Int) ≠ most) ∨ (pre <+: itemsL S ∧ (pre.length : Int) = most)) := by
  obtain ⟨F, hI, h0, hF, hP⟩ := h
  refine (all_gen W ⟨_, rfl⟩ hI.lt (fun A B hA hk => hA.keep (fun k hk2 => hk k (hI.lt k hk2))) hI (it_store hI ho) (by rw [items_len]; exact ho.len) most).mono ?_
  rintro e w' ⟨v, pre, rfl, hr, ht, hI', hpre⟩
  refine ⟨v, pre, rfl, hr, ⟨F, hI', below_of_tch h0 ht (fun k hk => (hF k hk).1), fun k hk => ⟨(hF k hk).1, fun hp => ?_⟩, fun k hk => ?_⟩, fun k hk => ht.block k (hP k hk) (fun hf => (hF k hf).2 hk), hpre⟩
  · rcases hp with hp | hp
    · exact (hF k hk).2 hp
    · have := (row_in hr hp).1
      have := hI.lt k hk
      omega
  · rcases hk with hk | hk
    · exact Nat.lt_of_lt_of_le (hP k hk) ht.size
    · exact (row_in hr hk).2

/-- What New makes of its files. -/
theorem newGo_look : ∀ (l : List (ByteArray × ByteArray)) (g : Nat) (fs : Fs), (newGo l g fs).1 = 0 → (∀ n f, look fs n = some f → look (newGo l g fs).2 n = some f) ∧ (∀ x ∈ l, look (newGo l g fs).2 x.1.data.toList = some ⟨x.2.data.toList, false⟩) ∧ (newGo l g fs).2.length = fs.length + l.length ∧ ∀ n, (look (newGo l g fs).2 n).isSome = true → (look fs n).isSome = true ∨ ∃ x ∈ l, x.1.data.toList = n
  | [], g, fs, _ => ⟨fun n f h => h, fun x hx => (by cases hx), rfl, fun n h => .inl h⟩
  | x :: r, g, fs, h0 => by
    unfold newGo at h0 ⊢
    split at h0
    · cases h0
    · rename_i hn
      split at h0
      · cases h0
      · rename_i hk
        split at h0
        · cases h0
        · rename_i hb
          rw [if_neg hn, if_neg hk, if_neg hb]
          have hk' : look fs x.1.data.toList = none := by simpa using hk
          obtain ⟨h1, h2, h3, h4⟩ := newGo_look r (g + x.2.size) (insF fs x.1.data.toList ⟨x.2.data.toList, false⟩) h0
          refine ⟨fun n f hf => h1 n f ?_, fun y hy => ?_, ?_, fun n hn2 => ?_⟩
          · rw [look_ins _ _ _ _ hk']
            split
            · rename_i e
              rw [e, hk'] at hf
              cases hf
            · exact hf
          · rcases List.mem_cons.1 hy with rfl | hy
            · exact h1 _ _ (by rw [look_ins _ _ _ _ hk', if_pos rfl])
            · exact h2 y hy
          · rw [h3, len_ins, List.length_cons]
            omega
          · rcases h4 n hn2 with h5 | ⟨y, hy, e⟩
            · rw [look_ins _ _ _ _ hk'] at h5
              split at h5
              · rename_i e
                exact .inr ⟨x, by simp, e.symm⟩
              · exact .inl h5
            · exact .inr ⟨y, by simp [hy], e⟩
/-- What is asked of a store behind New and Open. -/
structure Opd (l : List (ByteArray × ByteArray)) (m : List UInt8) (E : Nat) (S : Sr) : Prop where
  ok : SOk S
  hit : ∀ x ∈ l, look S.fs x.1.data.toList = some (if E = 0 ∧ x.1.data.toList = m then ⟨[], true⟩ else ⟨x.2.data.toList, false⟩)
  len : S.fs.length = l.length + (if E = 0 ∧ ¬ (∃ x ∈ l, x.1.data.toList = m) then 1 else 0)
theorem newR_opd {l : List (ByteArray × ByteArray)} (h : (newR l).1 = 0) (m : List UInt8) : Opd l m (openE ⟨(newR l).2, [], 0⟩ m) ((⟨(newR l).2, [], 0⟩ : Sr).openS m) := by
  have hok := newR_ok h
  have hg : newR l = newGo l 0 [] := by
    unfold newR at h ⊢
    split at h
    · cases h
    · rename_i h1
      rw [if_neg h1]
  rw [hg] at h hok ⊢
  obtain ⟨_, h2, h3, h4⟩ := newGo_look l 0 [] h
  generalize (newGo l 0 []).2 = fs at *
  refine ⟨hok.openS m, fun x hx => ?_, ?_⟩
  · unfold Sr.openS
    by_cases hE : openE ⟨fs, [], 0⟩ m = 0
    · rw [if_pos hE]
      show look (if (look fs m).isSome then setF fs m ⟨[], true⟩ else insF fs m ⟨[], true⟩) x.1.data.toList = _
      by_cases hm : x.1.data.toList = m
      · have hs : (look fs m).isSome = true := by rw [← hm, h2 x hx]; rfl
        have hc : openE ⟨fs, [], 0⟩ m = 0 ∧ x.1.data.toList = m := ⟨hE, hm⟩
        rw [if_pos hs, if_pos hc, look_set, if_pos hm, ← hm, h2 x hx]
        rfl
      · have hc : ¬ (openE ⟨fs, [], 0⟩ m = 0 ∧ x.1.data.toList = m) := fun e => hm e.2
        rw [if_neg hc]
        by_cases hs : (look fs m).isSome = true
        · rw [if_pos hs, look_set, if_neg hm]
          exact h2 x hx
        · rw [if_neg hs, look_ins _ _ _ _ (by simpa using hs), if_neg hm]
          exact h2 x hx
    · rw [if_neg hE, if_neg (fun e => hE e.1)]
      exact h2 x hx
  · unfold Sr.openS
    by_cases hE : openE ⟨fs, [], 0⟩ m = 0
    · rw [if_pos hE]
      show (if (look fs m).isSome then setF fs m ⟨[], true⟩ else insF fs m ⟨[], true⟩).length = _
      by_cases hm : (look fs m).isSome = true
      · rw [if_pos hm, len_set, h3]
        have : ∃ x ∈ l, x.1.data.toList = m := (h4 m hm).resolve_left (by simp [look])
        rw [if_neg (fun e => e.2 this)]
        simp
      · rw [if_neg hm, len_ins, h3]
        have : ¬ ∃ x ∈ l, x.1.data.toList = m := fun ⟨x, hx, e⟩ => hm (by rw [← e, h2 x hx]; rfl)
        rw [if_pos ⟨hE, this⟩]
        simp
    · rw [if_neg hE, if_neg (fun e => hE e.1)]
      simpa using h3
end Go.Proofs.Ytbibfpgcnmocjaa
