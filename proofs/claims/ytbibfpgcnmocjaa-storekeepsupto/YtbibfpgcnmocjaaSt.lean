/- store: the program's names. -/
import Derived.Test.YtbibfpgcnmocjaaSh
import Derived.Test.YtbibfpgcnmocjaaSq
import Derived.Sort.KeysCollected
import Derived.Sort.OwnSorted
import Derived.Maps.RangeWalk
namespace Go.Proofs.Ytbibfpgcnmocjaa
open Go.RowKit Go.Sort

def namesL (S : Sr) : List (List UInt8) := S.fs.map (·.1)
theorem infoStr : (Try.prog.info? 9).map (fun i => (i.zero, i.size, i.bytes)) = some (some (.string ⟨#[]⟩), 1, 16) := by kernel_rfl
theorem ris_nodup {l : List (List UInt8)} (h : l.Pairwise (· < ·)) : l.Nodup := h.imp (fun {a b} hab e => by subst e; exact List.lt_irrefl _ hab)
theorem sorted_names {ss : List (List UInt8)} {S : Sr} (hr : Ris S.fs) (hn : ss.Nodup) (hm : ∀ x, x ∈ ss ↔ x ∈ namesL S) : ss.mergeSort leB = namesL S := by
  have hp : ss.Perm (namesL S) := List.perm_iff_count.2 fun a => by
    have hd : (namesL S).Nodup := ris_nodup hr
    rw [hn.count, hd.count]
    by_cases h : a ∈ ss
    · rw [if_pos h, if_pos ((hm a).1 h)]
    · rw [if_neg h, if_neg (fun e => h ((hm a).2 e))]
  have tr : ∀ a b c : List UInt8, leB a b = true → leB b c = true → leB a c = true := fun a b c h1 h2 => by simp only [leB, decide_eq_true_eq] at *; exact List.le_trans h1 h2
  have to : ∀ a b : List UInt8, (leB a b || leB b a) = true := fun a b => by simp only [leB, Bool.or_eq_true, decide_eq_true_eq]; exact List.le_total a b
  refine List.Perm.eq_of_pairwise (le := fun a b => leB a b = true) (fun a b _ _ h1 h2 => ?_) (List.pairwise_mergeSort tr to ss) (hr.imp (fun {a b} hab => decide_eq_true (List.le_of_lt hab))) ((List.mergeSort_perm ss leB).trans hp)
  simp only [leB, decide_eq_true_eq] at h1 h2
  exact List.le_antisymm h1 h2
theorem ptr_inv {v : Value} {y : DataW Unit × List MemPlace} (h : ptrR v = some y) : ∃ o : Option Nat, v = ptrO o := by
  unfold ptrR at h
  split at h
  · exact ⟨none, rfl⟩
  · rename_i b
    exact ⟨some b, rfl⟩
  · cases h

set_option maxRecDepth 100000 in
set_option maxHeartbeats 2000000 in
theorem names_any {W : World} {b mb : Nat} {p v : Value} {fm : List UInt8 → Option Fb} {D : DataW Unit} {S : Sr} (h : SA W b mb p v fm D S) (hl : S.fs.length ≤ 16) : Calls Try.prog 38 #[ptrV b] W fun e w' => ∃ g cap, e = .returned (.slice (some ⟨g, 0, none⟩) S.fs.length cap) ∧ w'.ownsRow W.heap.size 9 1 (.slice (some ⟨g, 0, none⟩) S.fs.length cap) S.fs.length ((namesL S).map encStr) ∧ Below W.heap.size W w' := by
  obtain ⟨i0, hi, hz0, hz1, hz2⟩ := info_parts infoStr
  have K := Maps.string_keyed (P := Try.prog) Try.underlying9
  obtain ⟨cm, _⟩ := h.cm
  have hln := h.len 3
  have hown := h.map
  have hbl := hown.lt
  have hbb := h.prt.blt
  have hsz := h.siz
  have HM := hideT (show ∀ x, (Maps.has D (.string x) = true) ↔ x ∈ namesL S from fun x => by
    rw [h.has]
    show _ ↔ x ∈ S.fs.map (·.1)
    rw [← look_mem, h.lk]
    cases fm x <;> simp)
  have HR := hideT h.ris
  have HSL := hideT (show S.fs.length = (namesL S).length by unfold namesL; simp)
  clear h
  generalize S.fs.length = N at *
  go_enter Try.func38, Try.ntmps38
  go_wp2_with (first
    | (at_make; refine wpList_make_own _ rfl _ _ 81 rfl W.heap.size 9 i0 (.string ⟨#[]⟩) 1 Try.underlying81 hi hz0 hz1 _ _ _ N rfl rfl rfl (by rw [hz2]; omega) (by unfold maxLen; omega) (Nat.le_refl _) ?_; intro w1 hrow1 hg1; have cm1 : w1.cell? ⟨b, 0, none⟩ = some (.map (some mb)) := (World.cell?_of_block (a := ⟨b, 0, none⟩) (hg1.block b hbb (by simp))).trans cm)
    | (at_range; refine wpList_range_own _ rfl _ 60 rfl 9 59 K Try.underlying60 _ mb N _ rfl (hown.kept hg1 (by simp)) ?_; intro w0 hrg0 hg0 hs0))
  clear hs0 cm1
  go_frame
  go_loopw [3] (fun u wr => ∃ (left : Lit → Bool) (cnt : Nat) (ss : List (List UInt8)), Hid (wr.ranges Try.prog 9 ptrR mb w1.heap.size N D left cnt ∧ ss.length + cnt ≤ N ∧ wr.ownsRow W.heap.size 9 1 u ss.length (ss.map encStr) ∧ u ≠ .slice none 0 0 ∧ Collected D left ss ∧ Below W.heap.size W wr)) (fun _ wr => wr.rangeLeft mb w1.heap.size)
  case atStart =>
    exact ⟨_, _, [], hideT ⟨hrg0, by rw [hsz]; simp, hrow1.kept hg0 (Or.inr (by simp [Value.ownBlock])), by simp, Collected.start D, ((Below.refl _ _).grown hg1 (Nat.le_refl _) (fun j hj => by cases hj)).grown hg0 hg1.size (fun j hj => by cases hj)⟩⟩
  case round =>
    obtain ⟨left, cnt, ss, HI⟩ := hrel
    have hrg := HI.out.1
    go_wp2_with (at_next; refine wpList_next_ranges _ rfl _ rfl 9 K ptrR encStr ptrO (fun key kl hk => by obtain ⟨x, hx, _⟩ := Maps.keyOf_str Try.underlying9 hk; exact ⟨x, hx⟩) (fun v y hv => ptr_inv hv) mb w1.heap.size N _ _ _ rfl hrg ?_ ?_)
    · intro hc0 hl0
      obtain ⟨_, hlc, hrow, hnn, hC, hnx⟩ := HI.out
      clear HI
      rcases hrow.2 with ⟨hnil, _⟩ | ⟨g, cap, cur, rfl, hbase, hb, h1, h2, h3, h4⟩
      · exact absurd hnil hnn
      have hH : Holds encStr wr g 0 ss.toArray := holds_of_block hb (by simpa using h4)
      have hgl : g < wr.heap.size := (Array.getElem?_eq_some_iff.1 hb).1
      have HC := hideT (Try.slices_Sort_string g 0 cap ss wr hH hgl (by omega))
      have hs : ss.mergeSort leB = namesL S := sorted_names HR.out hC.1 (fun x => by rw [hC.2 x, hl0, ← HM.out x]; simp)
      have hln2 : ss.length = N := by
        have := congrArg List.length hs
        rw [List.length_mergeSort] at this
        rw [HSL.out, this]
      have HF := hideT (show ∀ (nn : Nat) (os : Array Obj), (grow (putRow encStr (Sort.ahead wr nn) g 0 (ss.mergeSort fun x y => decide (x ≤ y)).toArray) os).ownsRow W.heap.size 9 1 (.slice (some ⟨g, 0, none⟩) N cap) N ((namesL S).map encStr) ∧ Below W.heap.size W (grow (putRow encStr (Sort.ahead wr nn) g 0 (ss.mergeSort fun x y => decide (x ≤ y)).toArray) os) from fun nn os => by
        have e1 := ownsRow_sorted (n := nn) (os := os) (ss := ss) (ts := ss.mergeSort leB) (by simp) hbase hb h1 h2 h3
        rw [hln2, hs] at e1
        refine ⟨?_, hnx.grown (grownBy_sorted _) hnx.size (fun j hj => by cases hj; exact hbase)⟩
        have e2 : (ss.mergeSort fun x y => decide (x ≤ y)) = namesL S := hs
        rw [e2]
        exact e1)
      rw [hln2] at HC ⊢
      clear hrow hnn hC hnx hH hgl hs hln2 h1 h2 h3 h4 hb hbase hl0 hlc
      go_wp2_with fail
      refine HC.out.mono ?_
      rintro e w' ⟨rfl, nn, os, rfl⟩
      have HF2 := hideT (HF.out nn os)
      clear HF HC
      generalize grow (putRow encStr (Sort.ahead wr nn) g 0 (ss.mergeSort fun x y => decide (x ≤ y)).toArray) os = w9 at *
      go_wp2
      go_ret
      exact ⟨g, cap, rfl, HF2.out⟩
    · intro x c kl yd yp w2 cnt2 hkey hlk hv hat hrg2 hlt hg2 hs2 hen
      obtain ⟨x', ex, rfl, _⟩ := Maps.keyOf_str Try.underlying9 hkey
      obtain rfl : x = x' := encStr_inj ex
      obtain ⟨_, hlc, hrow, hnn, hC, hnx⟩ := HI.out
      have hrow2 := hrow.kept hg2 (Or.inr (row_ne_iter hrow hrg).symm)
      have hl3 := hrg.left_eq
      have hsw := hnx.size
      have hsw2 := hg2.size
      have HC2 := hideT (hC.step hlk hat)
      have HNX2 := hideT (hnx.grown hg2 hnx.size (fun j hj => by cases hj; exact hg1.size))
      clear hs2 HI hnn hC hnx hlk hat hkey hv
      go_wp2_with (at_builtin; refine wpList_append_own _ rfl _ _ 81 rfl W.heap.size 9 i0 (.string ⟨#[]⟩) 1 16 Try.underlying81 hi hz0 hz1 hz2 rfl (by decide) _ _ _ rfl (hrow2.alloc _) ⟨w2.heap.size, 0, none⟩ 1 1 [encStr x] rfl rfl (cell_one_new _ _ _) (by simp [Value.oneCell', encStr]) (by unfold maxLen at *; omega) (by omega) (by simp; omega) ?_; intro v' w3 hown' hg3 hnil3)
      have hrg3 := (hrg2.alloc _).kept hg3 (row_ne_low hrow2 hbl) (row_ne_iter hrow2 hrg2)
      have hms : w3.rangeLeft mb w1.heap.size < wr.rangeLeft mb w1.heap.size := by rw [hrg3.left_eq, hl3]; exact hlt
      have HF := hideT (show w3.ranges Try.prog 9 ptrR mb w1.heap.size N D (fun z => left z && !z.sameKey (.string x)) cnt2 ∧ (ss ++ [x]).length + cnt2 ≤ N ∧ w3.ownsRow W.heap.size 9 1 v' (ss ++ [x]).length ((ss ++ [x]).map encStr) ∧ v' ≠ .slice none 0 0 ∧ Collected D (fun z => left z && !z.sameKey (.string x)) (ss ++ [x]) ∧ Below W.heap.size W w3 from
        ⟨hrg3, by simp; omega, by simpa using hown', fun hv' => by have := (hnil3.1 hv').2; omega, HC2.out, (HNX2.out.alloc (by omega) _).grown hg3 (by simp; omega) (fun j hj => (hrow2.lt j hj).1)⟩)
      have HMS := hideT hms
      clear hrg3 hms hown' hg3 hnil3 hrow2 hrow hrg2 hg2 hen hlt hl3
      go_wp2
      exact ⟨⟨_, cnt2, ss ++ [x], HF⟩, HMS.out⟩
end Go.Proofs.Ytbibfpgcnmocjaa
