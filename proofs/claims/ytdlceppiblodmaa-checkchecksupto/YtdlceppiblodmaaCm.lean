/- CheckLabels: what its lists are. -/
import Derived.Test.YtdlceppiblodmaaCk
import Derived.Test.YtdlceppiblodmaaCb
namespace Go.Proofs.Ytdlceppiblodmaa
open Go.RowKit
open chkP

/-- The labels that are taken of the names. -/
def ownS (own : List (List UInt8)) (s : ByteArray) : List (List UInt8) :=
  let t := s.data.toList.take 32
  if t = [] ∨ t ∈ own ∨ 10 ≤ own.length then own else own ++ [t]
def ownF (l : List ByteArray) : List (List UInt8) := l.foldl ownS []
def jmpC (own : List (List UInt8)) (i : Nat) (k : UInt8) : Cm := ⟨(i : Int), 0, 0, false, if k.toNat % 2 = 0 then 98 else 116, own.getD (k.toNat % own.length) []⟩
def jmpL (own : List (List UInt8)) (o : List UInt8) : List Cm := (List.range o.length).map fun i => jmpC own i (o.getD i 0)
def labC (own : List (List UInt8)) (i : Nat) : Cm := ⟨1000 + (i : Int), 0, 0, false, 58, own.getD i []⟩
def labL (own : List (List UInt8)) (n : Nat) : List Cm := (List.range n).map (labC own)

/-- Each label once, none empty, none too long; at most ten. -/
structure OwnOk (own : List (List UInt8)) : Prop where
  nodup : own.Nodup
  ne : ∀ t ∈ own, t ≠ [] ∧ t.length ≤ 32
  le : own.length ≤ 10
theorem own_step {own : List (List UInt8)} (h : OwnOk own) (s : ByteArray) : OwnOk (ownS own s) := by
  unfold ownS
  dsimp only
  split
  · exact h
  · rename_i hn
    have h1 : ¬ (List.take 32 s.data.toList = []) := fun e => hn (.inl e)
    have h2 : ¬ (List.take 32 s.data.toList ∈ own) := fun e => hn (.inr (.inl e))
    have h3 : ¬ 10 ≤ own.length := fun e => hn (.inr (.inr e))
    refine ⟨?_, ?_, ?_⟩
    · rw [List.nodup_append]
      exact ⟨h.nodup, by simp, fun a ha b hb e => h2 (by rw [← List.mem_singleton.1 hb, ← e]; exact ha)⟩
    · intro t ht
      rcases List.mem_append.1 ht with ht | ht
      · exact h.ne t ht
      · rw [List.mem_singleton.1 ht]
        refine ⟨h1, ?_⟩
        rw [List.length_take]
        exact Nat.min_le_left _ _
    · rw [List.length_append, List.length_singleton]
      omega
theorem own_ok : ∀ (l : List ByteArray) (own : List (List UInt8)), OwnOk own → OwnOk (l.foldl ownS own)
  | [], _, h => h
  | s :: l, own, h => own_ok l (ownS own s) (own_step h s)
theorem own_nil : OwnOk [] := ⟨List.nodup_nil, (fun t h => by cases h), Nat.zero_le _⟩
theorem getD_mem {own : List (List UInt8)} {i : Nat} (h : i < own.length) : own.getD i [] ∈ own := by
  rw [List.getD_eq_getElem?_getD, List.getElem?_eq_getElem h]
  exact List.getElem_mem h

theorem jmp_isJ {own : List (List UInt8)} (h : OwnOk own) (hp : 0 < own.length) (i : Nat) (k : UInt8) : IsJ (jmpC own i k) ∧ (jmpC own i k).lb ∈ own := by
  have hm := getD_mem (own := own) (i := k.toNat % own.length) (Nat.mod_lt _ hp)
  refine ⟨⟨?_, rfl, rfl, (h.ne _ hm).1⟩, hm⟩
  show (if k.toNat % 2 = 0 then (98 : UInt8) else 116) = 98 ∨ (if k.toNat % 2 = 0 then (98 : UInt8) else 116) = 116
  split
  · exact .inl rfl
  · exact .inr rfl
theorem lab_isL {own : List (List UInt8)} (h : OwnOk own) {i : Nat} (hi : i < own.length) : IsL (labC own i) := by
  have hm := getD_mem hi
  exact ⟨rfl, rfl, rfl, rfl, (h.ne _ hm).1, (h.ne _ hm).2⟩
theorem lab_names (own : List (List UInt8)) : (labL own own.length).map Cm.lb = own := by
  unfold labL
  rw [List.map_map]
  apply List.ext_getElem?
  intro i
  rw [List.getElem?_map]
  by_cases hi : i < own.length
  · rw [List.getElem?_range hi]
    show some (own.getD i []) = _
    rw [List.getD_eq_getElem?_getD, List.getElem?_eq_getElem hi]
    rfl
  · rw [List.getElem?_eq_none (by rw [List.length_range]; omega), List.getElem?_eq_none (by omega)]
    rfl
theorem all_jmp {own : List (List UInt8)} (h : OwnOk own) (hp : 0 < own.length) (o : List UInt8) : ∀ c ∈ jmpL own o, IsJ c ∧ c.lb ∈ own := by
  intro c hc
  obtain ⟨i, _, rfl⟩ := List.mem_map.1 hc
  exact jmp_isJ h hp i _
theorem all_lab {own : List (List UInt8)} (h : OwnOk own) : ∀ c ∈ labL own own.length, IsL c := by
  intro c hc
  obtain ⟨i, hi, rfl⟩ := List.mem_map.1 hc
  exact lab_isL h (List.mem_range.1 hi)
theorem chk_alone {own : List (List UInt8)} (h : OwnOk own) (hp : 0 < own.length) (o : List UInt8) : chkR (jmpL own o) = if 0 < o.length then (22, 0) else (0, 0) := by
  cases o with
  | nil => rfl
  | cons k r =>
    rw [if_pos (by simp)]
    have e : jmpL own (k :: r) = jmpC own 0 k :: ((List.range r.length).map fun i => jmpC own (i + 1) (r.getD i 0)) := by
      unfold jmpL
      rw [List.length_cons, List.range_succ_eq_map, List.map_cons, List.map_map]
      rfl
    have := labels_alone (jmpL own (k :: r)) (fun c hc => (all_jmp h hp _ c hc).1) _ _ e
    rw [this]
    rfl
theorem chk_both {own : List (List UInt8)} (h : OwnOk own) (hp : 0 < own.length) (o : List UInt8) : chkR (jmpL own o ++ labL own own.length) = (0, 0) :=
  labels_all _ _ (fun c hc => (all_jmp h hp o c hc).1) (all_lab h) (by rw [lab_names]; exact h.nodup) (fun c hc => by rw [lab_names]; exact (all_jmp h hp o c hc).2)
theorem chk_twice {own : List (List UInt8)} (h : OwnOk own) (hp : 0 < own.length) (o : List UInt8) : chkR (jmpL own o ++ labL own own.length ++ [⟨5, 0, 0, false, 58, own.getD 0 []⟩]) = (22, 5) := by
  have hm := getD_mem hp
  exact labels_twice _ _ (fun c hc => (all_jmp h hp o c hc).1) (all_lab h) (by rw [lab_names]; exact h.nodup) ⟨5, 0, 0, false, 58, own.getD 0 []⟩ ⟨rfl, rfl, rfl, rfl, (h.ne _ hm).1, (h.ne _ hm).2⟩ (by rw [lab_names]; exact hm)
theorem jmp_len (own : List (List UInt8)) (o : List UInt8) : (jmpL own o).length = o.length := by simp [jmpL]
theorem lab_len (own : List (List UInt8)) (n : Nat) : (labL own n).length = n := by simp [labL]
theorem jmp_take (own : List (List UInt8)) (o : List UInt8) (i : Nat) (hi : i < o.length) : jmpL own (o.take (i + 1)) = jmpL own (o.take i) ++ [jmpC own i (o.getD i 0)] := by
  unfold jmpL
  rw [List.length_take, List.length_take, Nat.min_eq_left hi, Nat.min_eq_left (Nat.le_of_lt hi), List.range_succ, List.map_append, List.map_singleton]
  have e : ∀ j, j < i → (o.take (i + 1)).getD j 0 = (o.take i).getD j 0 := fun j hj => by
    rw [List.getD_eq_getElem?_getD, List.getD_eq_getElem?_getD, List.getElem?_take_of_lt (by omega), List.getElem?_take_of_lt hj]
  congr 1
  · exact List.map_congr_left (fun j hj => by rw [e j (List.mem_range.1 hj)])
  · rw [List.getD_eq_getElem?_getD, List.getElem?_take_of_lt (by omega), List.getD_eq_getElem?_getD]
theorem lab_succ (own : List (List UInt8)) (n : Nat) : labL own (n + 1) = labL own n ++ [labC own n] := by simp [labL, List.range_succ]
end Go.Proofs.Ytdlceppiblodmaa
