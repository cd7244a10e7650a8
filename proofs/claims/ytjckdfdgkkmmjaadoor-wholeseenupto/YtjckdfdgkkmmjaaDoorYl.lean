/- ytab, pure, for YtabBack: bytes once each, turned; the way back. -/
import Derived.Test.YtjckdfdgkkmmjaaDoorYi
namespace Go.Proofs.YtjckdfdgkkmmjaaDoor
open Go.RowKit

theorem nodup_lt : ∀ (n : Nat) (l : List Nat), l.Nodup → (∀ x ∈ l, x < n) → l.length ≤ n
  | 0, l, _, h => by
    match l with
    | [] => simp
    | x :: r => exact absurd (h x (by simp)) (by omega)
  | n + 1, l, hn, h => by
    by_cases hm : n ∈ l
    · have h1 := nodup_lt n (l.erase n) (hn.erase n) (fun x hx => by
        rw [hn.mem_erase_iff] at hx
        have := h x hx.2
        omega)
      rw [List.length_erase_of_mem hm] at h1
      omega
    · have h1 := nodup_lt n l hn (fun x hx => by
        have := h x hx
        have : x ≠ n := fun e => hm (e ▸ hx)
        omega)
      omega
theorem nodup_bytes {l : List UInt8} (h : l.Nodup) : l.length ≤ 256 := by
  have h1 : (l.map UInt8.toNat).Nodup := by
    rw [List.nodup_iff_pairwise_ne, List.pairwise_map]
    exact (List.nodup_iff_pairwise_ne.1 h).imp fun hne e => hne (UInt8.toNat_inj.1 e)
  have := nodup_lt 256 _ h1 (fun x hx => by
    obtain ⟨c, _, rfl⟩ := List.mem_map.1 hx
    exact c.toNat_lt)
  simpa using this

theorem val_not : ∀ (l m : List UInt8) (i : Nat) (x : UInt8), (∀ c ∈ l, c.toNat ≠ i) → valL l m i x = x
  | [], m, i, x, _ => by unfold valL; rfl
  | a :: r, [], i, x, _ => by unfold valL; rfl
  | a :: r, c :: q, i, x, h => by
    rw [valL, if_neg (h a (by simp))]
    exact val_not r q i x (fun c hc => h c (by simp [hc]))
theorem val_at : ∀ (l m : List UInt8) (j : Nat) (x : UInt8) (h : j < l.length) (h2 : j < m.length), l.Nodup → valL l m (l[j]).toNat x = m[j]
  | a :: r, c :: q, 0, x, h, h2, hn => by
    rw [valL]
    simp only [List.getElem_cons_zero, if_true]
    exact val_not r q _ c (fun y hy e => (List.nodup_cons.1 hn).1 (UInt8.toNat_inj.1 e ▸ hy))
  | a :: r, c :: q, j + 1, x, h, h2, hn => by
    rw [valL]
    simp only [List.getElem_cons_succ]
    exact val_at r q j _ (by simpa using h) (by simpa using h2) (List.nodup_cons.1 hn).2
theorem twB_false {l : List UInt8} (h : l.Nodup) : twB l = false := by unfold twB; simp [h]
theorem newT_ok {l m : List UInt8} (h : l.Nodup) (hl : l.length = m.length) : newT l m = fun i => valL l m i (UInt8.ofNat i) := by unfold newT; rw [if_neg (by rw [twB_false h]; simp [hl])]
theorem newE_ok {l m : List UInt8} (h : l.Nodup) (hl : l.length = m.length) : newE l m = 0 := by unfold newE; rw [if_neg (by rw [twB_false h]; simp [hl])]
/-- There and back. -/
theorem back_one {l m : List UInt8} (hn : l.Nodup) (hm : m.Nodup) (hl : l.length = m.length) (hp : ∀ c, c ∈ m → c ∈ l) (b : UInt8) : newT m l (newT l m b.toNat).toNat = b := by
  rw [newT_ok hn hl, newT_ok hm hl.symm]
  simp only
  by_cases hb : b ∈ l
  · obtain ⟨j, hj, e⟩ := List.mem_iff_getElem.1 hb
    have h1 : valL l m b.toNat (UInt8.ofNat b.toNat) = m[j]'(by omega) := by rw [← e]; exact val_at l m j _ hj (by omega) hn
    rw [h1, val_at m l j _ (by omega) hj hm, e]
  · have h1 : valL l m b.toNat (UInt8.ofNat b.toNat) = b := by
      rw [val_not l m b.toNat _ (fun c hc e => hb (UInt8.toNat_inj.1 e ▸ hc))]
      simp
    rw [h1, val_not m l b.toNat _ (fun c hc e => hb (hp b (UInt8.toNat_inj.1 e ▸ hc)))]
    simp
theorem back_all {l m : List UInt8} (hn : l.Nodup) (hm : m.Nodup) (hl : l.length = m.length) (hp : ∀ c, c ∈ m → c ∈ l) (s : List UInt8) : appL (newT m l) (appL (newT l m) s) = s := by
  unfold appL
  rw [List.map_map]
  exact (List.map_congr_left (g := id) (fun b _ => back_one hn hm hl hp b)).trans (List.map_id s)
/-- Turned. -/
def turnL (l : List UInt8) (k : Nat) : List UInt8 := l.drop k ++ l.take k
theorem turn_len (l : List UInt8) (k : Nat) (h : k ≤ l.length) : (turnL l k).length = l.length := by unfold turnL; simp; omega
theorem turn_nodup {l : List UInt8} (k : Nat) (h : l.Nodup) : (turnL l k).Nodup := by
  unfold turnL
  have h1 : (l.take k ++ l.drop k).Nodup := by rw [List.take_append_drop]; exact h
  rw [List.nodup_append] at h1 ⊢
  exact ⟨h1.2.1, h1.1, fun a ha b hb e => h1.2.2 b hb a ha e.symm⟩
theorem turn_mem {l : List UInt8} (k : Nat) (c : UInt8) (h : c ∈ turnL l k) : c ∈ l := by
  unfold turnL at h
  rw [List.mem_append] at h
  exact h.elim (List.mem_of_mem_drop) (List.mem_of_mem_take)
theorem newE_len {l m : List UInt8} (h : l.length ≠ m.length) : newE l m = 21 := by unfold newE; rw [if_pos (.inl h)]
theorem newE_two {l m : List UInt8} (h : l ≠ []) : newE (l ++ l) m = 21 := by
  have h1 : twB (l ++ l) = true := by
    unfold twB
    rw [Bool.not_eq_true', decide_eq_false_iff_not]
    intro hn
    match l, h with
    | a :: r, _ =>
      rw [List.nodup_append] at hn
      exact hn.2.2 a (by simp) a (by simp) rfl
  unfold newE
  rw [if_pos (.inr h1)]
theorem newE_nil : newE [] [] = 0 := by decide

end Go.Proofs.YtjckdfdgkkmmjaaDoor
