/- reach: how add goes: where the sets lie; what it is asked. -/
import Derived.Test.YtiedliahmjiadaaKPv
import Derived.Test.YtiedliahmjiadaaKMd
import Derived.Test.YtiedliahmjiadaaKIm
set_option maxRecDepth 100000
set_option maxHeartbeats 2000000
namespace Go.Proofs.Ytiedliahmjiadaa
open Go.RowKit Go.Shelf
def InB (a : PaB) (n : Nat) : Prop := ∀ k x, ((a k).fs x = true → x < n) ∧ ((a k).ls x = true → x < n)
theorem InB.mono {a : PaB} {n m : Nat} (h : InB a n) (hm : n ≤ m) : InB a m := fun k x => ⟨fun h1 => Nat.lt_of_lt_of_le ((h k x).1 h1) hm, fun h1 => Nat.lt_of_lt_of_le ((h k x).2 h1) hm⟩
theorem in_em (n : Nat) : InB emB n := fun k x => ⟨fun h => by simp [emB, noB] at h, fun h => by simp [emB, noB] at h⟩
theorem in_opt {a : PaB} {n : Nat} (h : InB a n) : InB (optB a) n := fun k x => h k x
theorem in_join {a b : PaB} {n : Nat} (h : InB a n) (h' : InB b n) : InB (joinB a b) n := fun k x => by
 refine ⟨fun h1 => ?_, fun h1 => ?_⟩
 ·simp only [joinB] at h1
  split at h1
  ·simp only [orB, Bool.or_eq_true] at h1
   exact h1.elim (h k x).1 (h' k x).1
  ·exact (h k x).1 h1
 ·simp only [joinB] at h1
  split at h1
  ·simp only [orB, Bool.or_eq_true] at h1
   exact h1.elim (h k x).2 (h' k x).2
  ·exact (h' k x).2 h1
def LyB (ps : List PosB) (r : PaB × List PosB) : Prop := InB r.1 r.2.length ∧ ps.length ≤ r.2.length
theorem ly_rp {f : List PosB → PaB × List PosB} (hf : ∀ ps, LyB ps (f ps)) (lp : Bool) (lo : Nat) : ∀ (k c : Nat) (a : PaB) (ps : List PosB), InB a ps.length → LyB ps (rpB f lp lo k c a ps)
 | 0, c, a, ps, h => ⟨h, Nat.le_refl _⟩
 | k + 1, c, a, ps, h => by
  have h1 := hf ps
  have hl : (if lp then linkB (f ps).1 (f ps).1 (f ps).2 else (f ps).2).length = (f ps).2.length := by cases lp <;> simp [len_link]
  have hp : InB (if lo ≤ c then optB (f ps).1 else (f ps).1) (f ps).2.length := by
   split
   ·exact in_opt h1.1
   ·exact h1.1
  have hj := in_join (h.mono h1.2) hp
  have hlj : (linkB a (if lo ≤ c then optB (f ps).1 else (f ps).1) (if lp then linkB (f ps).1 (f ps).1 (f ps).2 else (f ps).2)).length = (f ps).2.length := by rw [len_link, hl]
  unfold rpB
  dsimp only
  split
  ·exact ⟨by rw [hlj]; exact hj, by rw [hlj]; exact h1.2⟩
  ·have ih := ly_rp hf lp lo k (c + 1) _ _ (by rw [hlj]; exact hj)
   exact ⟨ih.1, by have := ih.2; rw [hlj] at this; have := h1.2; omega⟩
mutual
theorem ly_adT : ∀ (t : Tr) (ps : List PosB), LyB ps (adT t ps)
 | .mk k q lo hi g kids, ps => by
  unfold adT
  split
  ·exact ⟨fun k x => by simp [onB]; omega, by simp⟩
  split
  ·exact ⟨fun k x => by simp [noB], Nat.le_refl _⟩
  split
  ·exact ⟨fun k x => by simp [noB], Nat.le_refl _⟩
  split
  ·exact ly_rp (fun ps => ly_adK kids ps) _ _ _ _ _ _ (in_em _)
  ·exact ly_adL kids _ _ (in_em _)
theorem ly_adK : ∀ (ts : List Tr) (ps : List PosB), LyB ps (adK ts ps)
 | [], ps => by unfold adK; exact ⟨in_em _, Nat.le_refl _⟩
 | t :: ts, ps => by unfold adK; exact ly_adT t ps
theorem ly_adL : ∀ (ts : List Tr) (a : PaB) (ps : List PosB), InB a ps.length → LyB ps (adL ts a ps)
 | [], a, ps, h => by unfold adL; exact ⟨h, Nat.le_refl _⟩
 | t :: ts, a, ps, h => by
  unfold adL
  have h1 := ly_adT t ps
  have ih := ly_adL ts (joinB a (adT t ps).1) (linkB a (adT t ps).1 (adT t ps).2) (by rw [len_link]; exact in_join (h.mono h1.2) h1.1)
  exact ⟨ih.1, by have := ih.2; rw [len_link] at this; have := h1.2; omega⟩
end
def nodeW (t : Tr) (v : Value) : Value := .agg (nodeV t v).toArray
theorem kidsB {B : Nat} {W W' : World} {v : Value} {ts : List Tr} (h : Kids W (· < B) v ts) (hb : Below B W W') : Kids W' (· < B) v ts := h.keep (fun g hg => hb.block g hg) (fun _ h => h)
def AdIH (B : Nat) (t : Tr) : Prop := ∀ (W : World) (b : Nat) (ps : List PosB) (cs : List Value) (v : Value), B ≤ W.heap.size → WebAt W B b ps cs → Kids W (· < B) v t.kids → (adT t ps).2.length ≤ 256 →
 Calls Try.prog 44 #[.pointer (some ⟨b, 0, none⟩), nodeW t v] W fun e w' => e = .returned (partV (adT t ps).1) ∧ WebAt w' B b (adT t ps).2 cs ∧ WFr B W w'
end Go.Proofs.Ytiedliahmjiadaa
namespace Go.Proofs.Ytiedliahmjiadaa
open Go.RowKit Go.Shelf
structure RpS (w : World) (B b H R Q : Nat) (x : Tr) (v : Value) (cs : List Value) (a : PaB) (ps : List PosB) (V : World) : Prop where
 node : V.heap[H]? = some (.cells (nodeV x v).toArray 48 (0, 0))
 res : V.heap[R]? = some (.cells [.bool false, .int .u64 0, .int .u64 0, .int .u64 0, .int .u64 0, .int .u64 0, .int .u64 0, .int .u64 0, .int .u64 0, .bool false, .int .u64 0, .int .u64 0, .int .u64 0, .int .u64 0, .int .u64 0, .int .u64 0, .int .u64 0, .int .u64 0, .bool false, .int .u64 0, .int .u64 0, .int .u64 0, .int .u64 0, .int .u64 0, .int .u64 0, .int .u64 0, .int .u64 0, .bool false, .int .u64 0, .int .u64 0, .int .u64 0, .int .u64 0, .int .u64 0, .int .u64 0, .int .u64 0, .int .u64 0].toArray 81 (0, 0))
 all : V.heap[Q]? = some (.cells (paV a).toArray 81 (0, 0))
 web : WebAt V B b ps cs
 fr : WFr B w V
 big : B ≤ V.heap.size
theorem RpS.call {w V V' : World} {B b H R Q : Nat} {x : Tr} {v : Value} {cs : List Value} {a : PaB} {ps ps' : List PosB} (h : RpS w B b H R Q x v cs a ps V) (hw : WebAt V' B b ps' cs) (hf : WFr B V V') : RpS w B b H R Q x v cs a ps' V' :=
 ⟨hf.same _ _ h.node rfl, hf.same _ _ h.res rfl, hf.same _ _ h.all rfl, hw, h.fr.trans hf, Nat.le_trans h.big hf.below.size⟩
theorem RpS.below {w V V' : World} {B b H R Q : Nat} {x : Tr} {v : Value} {cs : List Value} {a : PaB} {ps : List PosB} (h : RpS w B b H R Q x v cs a ps V) (hb : Below V.heap.size V V') : RpS w B b H R Q x v cs a ps V' :=
 h.call (h.web.below hb) (WFr.of_below hb h.big)
theorem RpS.put {w V : World} {B b H R Q P : Nat} {x : Tr} {v : Value} {cs zs : List Value} {a : PaB} {ps : List PosB} (h : RpS w B b H R Q x v cs a ps V) (hP : V.heap[P]? = some (.cells zs.toArray 81 (0, 0))) (hB : B ≤ w.heap.size) (hw : w.heap.size ≤ P) (hH : P ≠ H) (hR : P ≠ R) (hQ : P ≠ Q) (p : PaB) : RpS w B b H R Q x v cs a ps (V.setCells P 0 (paV p)) :=
 ⟨(setCells_far V P hH.symm _ _).trans h.node, (setCells_far V P hR.symm _ _).trans h.res, (setCells_far V P hQ.symm _ _).trans h.all, h.web.far hP rfl 0 _, h.fr.far hB hw 0 _, by rw [setCells_size]; exact h.big⟩
theorem RpS.putQ {w V : World} {B b H R Q : Nat} {x : Tr} {v : Value} {cs : List Value} {a : PaB} {ps : List PosB} (h : RpS w B b H R Q x v cs a ps V) (hB : B ≤ w.heap.size) (hw : w.heap.size ≤ Q) (hH : Q ≠ H) (hR : Q ≠ R) (p : PaB) : RpS w B b H R Q x v cs p ps (V.setCells Q 0 (paV p)) :=
 ⟨(setCells_far V Q hH.symm _ _).trans h.node, (setCells_far V Q hR.symm _ _).trans h.res, setCells_whole _ h.all rfl, h.web.far h.all rfl 0 _, h.fr.far hB hw 0 _, by rw [setCells_size]; exact h.big⟩
theorem alloc_store {ops : Array Oper} {o1 o2 : Oper} {d s : Nat} {a : Act} {W : World} {cs : List Value} {K : Act → World → Prop} {Q : Exit → Act → World → Prop} (hg1 : o1.guard = none) (ho1 : o1.op = .alloc 81) (hd : o1.dst = some d) (hg2 : o2.guard = none) (ho2 : o2.op = .store 81 (.tmp d) (.tmp s)) (hd2 : o2.dst = none) (hds : d ≠ s) (hs : a.eval (.tmp s) = .agg cs.toArray) (hx : ∀ v : Value, (a.put (some d) v).eval (.tmp d) = v) (hl : cs.length = 36) (h1 : cs.toArray.all (·.oneCell') = true) (h : K (a.put (some d) (.pointer (some ⟨W.heap.size, 0, none⟩))) ((W.alloc (.cells #[.bool false, .int .u64 0, .int .u64 0, .int .u64 0, .int .u64 0, .int .u64 0, .int .u64 0, .int .u64 0, .int .u64 0, .bool false, .int .u64 0, .int .u64 0, .int .u64 0, .int .u64 0, .int .u64 0, .int .u64 0, .int .u64 0, .int .u64 0, .bool false, .int .u64 0, .int .u64 0, .int .u64 0, .int .u64 0, .int .u64 0, .int .u64 0, .int .u64 0, .int .u64 0, .bool false, .int .u64 0, .int .u64 0, .int .u64 0, .int .u64 0, .int .u64 0, .int .u64 0, .int .u64 0, .int .u64 0] 81)).setCells W.heap.size 0 cs)) : wpList Try.prog ops (Exit.then K Q) [o1, o2] a W := by
 refine wl_value (v := .pointer (some ⟨W.heap.size, 0, none⟩)) (w' := W.alloc (.cells #[.bool false, .int .u64 0, .int .u64 0, .int .u64 0, .int .u64 0, .int .u64 0, .int .u64 0, .int .u64 0, .int .u64 0, .bool false, .int .u64 0, .int .u64 0, .int .u64 0, .int .u64 0, .int .u64 0, .int .u64 0, .int .u64 0, .int .u64 0, .bool false, .int .u64 0, .int .u64 0, .int .u64 0, .int .u64 0, .int .u64 0, .int .u64 0, .int .u64 0, .int .u64 0, .bool false, .int .u64 0, .int .u64 0, .int .u64 0, .int .u64 0, .int .u64 0, .int .u64 0, .int .u64 0, .int .u64 0] 81)) hg1 (by simp only [execOp, ho1]; go_simp; (try with_reducible rfl)) ?_
 rw [hd]
 have hs2 : (a.put (some d) (.pointer (some ⟨W.heap.size, 0, none⟩))).eval (.tmp s) = .agg cs.toArray := by
  rw [← hs]
  exact Act.eval_put (fun e he hh => by cases he; cases hh; exact hds rfl)
 have e36 : cs.toArray.size = 36 := by simpa using hl
 refine wpList_store_mid hg2 81 _ _ ho2 W.heap.size 0 cs.toArray (hx _) hs2 (by rw [e36]; exact there_block (cs := [.bool false, .int .u64 0, .int .u64 0, .int .u64 0, .int .u64 0, .int .u64 0, .int .u64 0, .int .u64 0, .int .u64 0, .bool false, .int .u64 0, .int .u64 0, .int .u64 0, .int .u64 0, .int .u64 0, .int .u64 0, .int .u64 0, .int .u64 0, .bool false, .int .u64 0, .int .u64 0, .int .u64 0, .int .u64 0, .int .u64 0, .int .u64 0, .int .u64 0, .int .u64 0, .bool false, .int .u64 0, .int .u64 0, .int .u64 0, .int .u64 0, .int .u64 0, .int .u64 0, .int .u64 0, .int .u64 0]) (World.alloc_heap_new W _) _ rfl) (by rw [info_part, List.size_toArray, hl]) h1 ?_
 rw [hd2]
 exact wpList_nil h
theorem rp_one (f : List PosB → PaB × List PosB) (lp : Bool) (lo k c : Nat) (a : PaB) (ps : List PosB) : rpB f lp lo (k + 1) c a ps = if (f ps).2.length = ps.length then (joinB a (if lo ≤ c then optB (f ps).1 else (f ps).1), linkB a (if lo ≤ c then optB (f ps).1 else (f ps).1) (if lp then linkB (f ps).1 (f ps).1 (f ps).2 else (f ps).2)) else rpB f lp lo k (c + 1) (joinB a (if lo ≤ c then optB (f ps).1 else (f ps).1)) (linkB a (if lo ≤ c then optB (f ps).1 else (f ps).1) (if lp then linkB (f ps).1 (f ps).1 (f ps).2 else (f ps).2)) := rfl
theorem rp_len {f : List PosB → PaB × List PosB} (hf : ∀ ps, LyB ps (f ps)) (lp : Bool) (lo k c : Nat) (a : PaB) (ps : List PosB) (h : InB a ps.length) : (f ps).2.length ≤ (rpB f lp lo (k + 1) c a ps).2.length := by
 have h1 := hf ps
 have hp : InB (if lo ≤ c then optB (f ps).1 else (f ps).1) (f ps).2.length := by
  split
  ·exact in_opt h1.1
  ·exact h1.1
 have hl : (linkB a (if lo ≤ c then optB (f ps).1 else (f ps).1) (if lp then linkB (f ps).1 (f ps).1 (f ps).2 else (f ps).2)).length = (f ps).2.length := by
  rw [len_link]
  cases lp <;> simp [len_link]
 rw [rp_one]
 split
 ·exact Nat.le_of_eq hl.symm
 ·have := (ly_rp hf lp lo k (c + 1) (joinB a (if lo ≤ c then optB (f ps).1 else (f ps).1)) _ (by rw [hl]; exact in_join (h.mono h1.2) hp)).2
  omega
theorem addRepeat_any {B b : Nat} {x : Tr} (ih : AdIH B x) (lo hi : Int) (l0 : 0 ≤ lo) (l1 : lo ≤ 1000) (l2 : -1 ≤ hi) (l3 : hi ≤ 1000) (w : World) (ps : List PosB) (cs : List Value) (v : Value) (hB : B ≤ w.heap.size) (hw : WebAt w B b ps cs) (hk : Kids w (· < B) v x.kids) (hl : (rpB (adT x) (decide (hi < 0)) lo.toNat (wrG lo hi) 0 emB ps).2.length ≤ 256) :
  Calls Try.prog 57 #[.pointer (some ⟨b, 0, none⟩), nodeW x v, .int .i64 lo, .int .i64 hi] w fun e w' => e = .returned (partV (rpB (adT x) (decide (hi < 0)) lo.toNat (wrG lo hi) 0 emB ps).1) ∧ WebAt w' B b (rpB (adT x) (decide (hi < 0)) lo.toNat (wrG lo hi) 0 emB ps).2 cs ∧ WFr B w w' := by
 obtain ⟨va, vc, rfl⟩ := kids_shape hk
 obtain ⟨N, hN⟩ : ∃ N, N = wrG lo hi := ⟨_, rfl⟩
 have hNl : N ≤ 1000 := by
  rw [hN]; unfold wrG; split <;> omega
 have HE := hideT (fun V => empty_any V)
 have hmx : hi < 0 → ((max lo 1 : Int) = (N : Int)) := fun h => by rw [hN]; unfold wrG; rw [if_pos h]; omega
 have hmy : ¬ hi < 0 → (hi = (N : Int)) := fun h => by rw [hN]; unfold wrG; rw [if_neg h]; omega
 rw [← hN] at hl ⊢
 unfold nodeW partV
 have HMM := hideT (And.intro hmx hmy)
 clear hmx hmy hN
 go_enter Try.func57, Try.ntmps57
 by_cases hh : hi < 0
 ·obtain ⟨NI, hm⟩ : ∃ NI : Int, max lo 1 = NI := ⟨_, rfl⟩
  have hNI : NI = (N : Int) := by rw [← hm]; exact HMM.out.1 hh
  have HNI0 := hideT hNI
  clear hNI
  go_wp2_with fail
  have hNI := HNI0.out
  refine (HE.out _).mono ?_
  rintro e w1 ⟨rfl, hb1⟩
  rename_i K1 hK1 K2 hK2
  refine hK2 _ _ ?_
  have x0 : ((w.alloc (.cells (nodeV x (.slice va x.kids.length vc)).toArray 48)).alloc (.cells #[.bool false, .int .u64 0, .int .u64 0, .int .u64 0, .int .u64 0, .int .u64 0, .int .u64 0, .int .u64 0, .int .u64 0, .bool false, .int .u64 0, .int .u64 0, .int .u64 0, .int .u64 0, .int .u64 0, .int .u64 0, .int .u64 0, .int .u64 0, .bool false, .int .u64 0, .int .u64 0, .int .u64 0, .int .u64 0, .int .u64 0, .int .u64 0, .int .u64 0, .int .u64 0, .bool false, .int .u64 0, .int .u64 0, .int .u64 0, .int .u64 0, .int .u64 0, .int .u64 0, .int .u64 0, .int .u64 0] 81)).heap[w.heap.size]? = some (.cells (nodeV x (.slice va x.kids.length vc)).toArray 48 (0, 0)) := (Below.heap_alloc _ _ _ (by simp)).trans (World.alloc_heap_new w _)
  have x1 : ((w.alloc (.cells (nodeV x (.slice va x.kids.length vc)).toArray 48)).alloc (.cells #[.bool false, .int .u64 0, .int .u64 0, .int .u64 0, .int .u64 0, .int .u64 0, .int .u64 0, .int .u64 0, .int .u64 0, .bool false, .int .u64 0, .int .u64 0, .int .u64 0, .int .u64 0, .int .u64 0, .int .u64 0, .int .u64 0, .int .u64 0, .bool false, .int .u64 0, .int .u64 0, .int .u64 0, .int .u64 0, .int .u64 0, .int .u64 0, .int .u64 0, .int .u64 0, .bool false, .int .u64 0, .int .u64 0, .int .u64 0, .int .u64 0, .int .u64 0, .int .u64 0, .int .u64 0, .int .u64 0] 81)).heap[(w.heap.size + 1)]? = some (.cells [.bool false, .int .u64 0, .int .u64 0, .int .u64 0, .int .u64 0, .int .u64 0, .int .u64 0, .int .u64 0, .int .u64 0, .bool false, .int .u64 0, .int .u64 0, .int .u64 0, .int .u64 0, .int .u64 0, .int .u64 0, .int .u64 0, .int .u64 0, .bool false, .int .u64 0, .int .u64 0, .int .u64 0, .int .u64 0, .int .u64 0, .int .u64 0, .int .u64 0, .int .u64 0, .bool false, .int .u64 0, .int .u64 0, .int .u64 0, .int .u64 0, .int .u64 0, .int .u64 0, .int .u64 0, .int .u64 0].toArray 81 (0, 0)) := by
   have h := World.alloc_heap_new (w.alloc (.cells (nodeV x (.slice va x.kids.length vc)).toArray 48)) (.cells #[.bool false, .int .u64 0, .int .u64 0, .int .u64 0, .int .u64 0, .int .u64 0, .int .u64 0, .int .u64 0, .int .u64 0, .bool false, .int .u64 0, .int .u64 0, .int .u64 0, .int .u64 0, .int .u64 0, .int .u64 0, .int .u64 0, .int .u64 0, .bool false, .int .u64 0, .int .u64 0, .int .u64 0, .int .u64 0, .int .u64 0, .int .u64 0, .int .u64 0, .int .u64 0, .bool false, .int .u64 0, .int .u64 0, .int .u64 0, .int .u64 0, .int .u64 0, .int .u64 0, .int .u64 0, .int .u64 0] 81)
   rw [World.size_alloc] at h
   exact h
  have hBX : Below w.heap.size w ((w.alloc (.cells (nodeV x (.slice va x.kids.length vc)).toArray 48)).alloc (.cells #[.bool false, .int .u64 0, .int .u64 0, .int .u64 0, .int .u64 0, .int .u64 0, .int .u64 0, .int .u64 0, .int .u64 0, .bool false, .int .u64 0, .int .u64 0, .int .u64 0, .int .u64 0, .int .u64 0, .int .u64 0, .int .u64 0, .int .u64 0, .bool false, .int .u64 0, .int .u64 0, .int .u64 0, .int .u64 0, .int .u64 0, .int .u64 0, .int .u64 0, .int .u64 0, .bool false, .int .u64 0, .int .u64 0, .int .u64 0, .int .u64 0, .int .u64 0, .int .u64 0, .int .u64 0, .int .u64 0] 81)) := ((Below.refl _ w).alloc (Nat.le_refl _) _).alloc (by simp) _
  change Below ((w.alloc (.cells (nodeV x (.slice va x.kids.length vc)).toArray 48)).alloc (.cells #[.bool false, .int .u64 0, .int .u64 0, .int .u64 0, .int .u64 0, .int .u64 0, .int .u64 0, .int .u64 0, .int .u64 0, .bool false, .int .u64 0, .int .u64 0, .int .u64 0, .int .u64 0, .int .u64 0, .int .u64 0, .int .u64 0, .int .u64 0, .bool false, .int .u64 0, .int .u64 0, .int .u64 0, .int .u64 0, .int .u64 0, .int .u64 0, .int .u64 0, .int .u64 0, .bool false, .int .u64 0, .int .u64 0, .int .u64 0, .int .u64 0, .int .u64 0, .int .u64 0, .int .u64 0, .int .u64 0] 81)).heap.size ((w.alloc (.cells (nodeV x (.slice va x.kids.length vc)).toArray 48)).alloc (.cells #[.bool false, .int .u64 0, .int .u64 0, .int .u64 0, .int .u64 0, .int .u64 0, .int .u64 0, .int .u64 0, .int .u64 0, .bool false, .int .u64 0, .int .u64 0, .int .u64 0, .int .u64 0, .int .u64 0, .int .u64 0, .int .u64 0, .int .u64 0, .bool false, .int .u64 0, .int .u64 0, .int .u64 0, .int .u64 0, .int .u64 0, .int .u64 0, .int .u64 0, .int .u64 0, .bool false, .int .u64 0, .int .u64 0, .int .u64 0, .int .u64 0, .int .u64 0, .int .u64 0, .int .u64 0, .int .u64 0] 81)) w1 at hb1
  generalize ((w.alloc (.cells (nodeV x (.slice va x.kids.length vc)).toArray 48)).alloc (.cells #[.bool false, .int .u64 0, .int .u64 0, .int .u64 0, .int .u64 0, .int .u64 0, .int .u64 0, .int .u64 0, .int .u64 0, .bool false, .int .u64 0, .int .u64 0, .int .u64 0, .int .u64 0, .int .u64 0, .int .u64 0, .int .u64 0, .int .u64 0, .bool false, .int .u64 0, .int .u64 0, .int .u64 0, .int .u64 0, .int .u64 0, .int .u64 0, .int .u64 0, .int .u64 0, .bool false, .int .u64 0, .int .u64 0, .int .u64 0, .int .u64 0, .int .u64 0, .int .u64 0, .int .u64 0, .int .u64 0] 81)) = X at *
  obtain ⟨Q, hQ⟩ : ∃ Q, Q = w1.heap.size := ⟨_, rfl⟩
  have hQl : (w.heap.size + 1) < Q := by rw [hQ]; exact Nat.lt_of_lt_of_le (Array.getElem?_eq_some_iff.1 x1).1 hb1.size
  have hA := (Below.refl w1.heap.size w1).alloc (Nat.le_refl _) (.cells #[.bool false, .int .u64 0, .int .u64 0, .int .u64 0, .int .u64 0, .int .u64 0, .int .u64 0, .int .u64 0, .int .u64 0, .bool false, .int .u64 0, .int .u64 0, .int .u64 0, .int .u64 0, .int .u64 0, .int .u64 0, .int .u64 0, .int .u64 0, .bool false, .int .u64 0, .int .u64 0, .int .u64 0, .int .u64 0, .int .u64 0, .int .u64 0, .int .u64 0, .int .u64 0, .bool false, .int .u64 0, .int .u64 0, .int .u64 0, .int .u64 0, .int .u64 0, .int .u64 0, .int .u64 0, .int .u64 0] 81)
  have hXA := hb1.trans (hA.mono hb1.size)
  have q0 : (w1.alloc (.cells #[.bool false, .int .u64 0, .int .u64 0, .int .u64 0, .int .u64 0, .int .u64 0, .int .u64 0, .int .u64 0, .int .u64 0, .bool false, .int .u64 0, .int .u64 0, .int .u64 0, .int .u64 0, .int .u64 0, .int .u64 0, .int .u64 0, .int .u64 0, .bool false, .int .u64 0, .int .u64 0, .int .u64 0, .int .u64 0, .int .u64 0, .int .u64 0, .int .u64 0, .int .u64 0, .bool false, .int .u64 0, .int .u64 0, .int .u64 0, .int .u64 0, .int .u64 0, .int .u64 0, .int .u64 0, .int .u64 0] 81)).heap[Q]? = some (.cells [.bool false, .int .u64 0, .int .u64 0, .int .u64 0, .int .u64 0, .int .u64 0, .int .u64 0, .int .u64 0, .int .u64 0, .bool false, .int .u64 0, .int .u64 0, .int .u64 0, .int .u64 0, .int .u64 0, .int .u64 0, .int .u64 0, .int .u64 0, .bool false, .int .u64 0, .int .u64 0, .int .u64 0, .int .u64 0, .int .u64 0, .int .u64 0, .int .u64 0, .int .u64 0, .bool false, .int .u64 0, .int .u64 0, .int .u64 0, .int .u64 0, .int .u64 0, .int .u64 0, .int .u64 0, .int .u64 0].toArray 81 (0, 0)) := by rw [hQ]; exact World.alloc_heap_new w1 _
  refine alloc_store (d := 10) (s := 19) (cs := paV emB) rfl rfl rfl rfl rfl rfl (by decide) rfl (fun _ => rfl) rfl (paV_one _) ?_
  have hBA := hBX.trans (hXA.mono hBX.size)
  have hS0 : RpS w B b w.heap.size (w.heap.size + 1) Q x (.slice va x.kids.length vc) cs emB ps ((w1.alloc (.cells #[.bool false, .int .u64 0, .int .u64 0, .int .u64 0, .int .u64 0, .int .u64 0, .int .u64 0, .int .u64 0, .int .u64 0, .bool false, .int .u64 0, .int .u64 0, .int .u64 0, .int .u64 0, .int .u64 0, .int .u64 0, .int .u64 0, .int .u64 0, .bool false, .int .u64 0, .int .u64 0, .int .u64 0, .int .u64 0, .int .u64 0, .int .u64 0, .int .u64 0, .int .u64 0, .bool false, .int .u64 0, .int .u64 0, .int .u64 0, .int .u64 0, .int .u64 0, .int .u64 0, .int .u64 0, .int .u64 0] 81)).setCells w1.heap.size 0 (paV emB)) := by
   rw [← hQ]
   exact ⟨(setCells_far _ Q (by omega) _ _).trans ((hXA.block _ (Array.getElem?_eq_some_iff.1 x0).1).trans x0), (setCells_far _ Q (by omega) _ _).trans ((hXA.block _ (Array.getElem?_eq_some_iff.1 x1).1).trans x1), setCells_whole _ q0 rfl, (hw.below hBA).far q0 rfl 0 _, (WFr.of_below hBA hB).far hB (by omega) 0 _, by rw [setCells_size]; exact Nat.le_trans hB hBA.size⟩
  refine hK1 _ _ ?_
  simp only [Act.put, List.setIfInBounds_toArray, List.set_cons_zero, List.set_cons_succ]
  rw [← hQ] at hS0 ⊢
  generalize (w1.alloc (.cells #[.bool false, .int .u64 0, .int .u64 0, .int .u64 0, .int .u64 0, .int .u64 0, .int .u64 0, .int .u64 0, .int .u64 0, .bool false, .int .u64 0, .int .u64 0, .int .u64 0, .int .u64 0, .int .u64 0, .int .u64 0, .int .u64 0, .int .u64 0, .bool false, .int .u64 0, .int .u64 0, .int .u64 0, .int .u64 0, .int .u64 0, .int .u64 0, .int .u64 0, .int .u64 0, .bool false, .int .u64 0, .int .u64 0, .int .u64 0, .int .u64 0, .int .u64 0, .int .u64 0, .int .u64 0, .int .u64 0] 81)).setCells Q 0 (paV emB) = V0 at *
  clear x0 x1 hBX hb1 hA hXA q0 hBA hK1 hK2 hQ HE hw
  have hQw : w.heap.size ≤ Q := by omega
  have hQH : Q ≠ w.heap.size := by omega
  have hQR : Q ≠ (w.heap.size + 1) := by omega
  obtain ⟨RR, hRR⟩ : ∃ RR, rpB (adT x) (decide (hi < 0)) lo.toNat N 0 emB ps = RR := ⟨_, rfl⟩
  have HRR := hideT hRR
  rw [hRR] at hl
  have HS0 := hideT hS0
  have HNI := hideT hNI
  have HD := hideT (show decide (hi < 0) = true from decide_eq_true (by omega))
  clear hS0 hRR hNI
  go_wp2_with fail
  go_loopw [21] (fun iv V => ∃ (c : Nat) (a1 : PaB) (qs : List PosB), c ≤ N ∧ iv = .int .i64 c ∧ RpS w B b w.heap.size (w.heap.size + 1) Q x (.slice va x.kids.length vc) cs a1 qs V ∧ InB a1 qs.length ∧ rpB (adT x) (decide (hi < 0)) lo.toNat (N - c) c a1 qs = RR) (fun iv _ => (N - intOf iv).toNat)
  case atStart => exact ⟨0, emB, ps, by omega, rfl, HS0.out, in_em _, HRR.out⟩
  case round =>
   obtain ⟨c, a1, qs, hcN, rfl, hS, hin, hR⟩ := hrel
   by_cases hc : c < N
   ·have i1 : (c : Int) < NI := by rw [HNI.out]; omega
    have hU := rp_one (adT x) (decide (hi < 0)) lo.toNat (N - c - 1) c a1 qs
    have hRl := rp_len (ly_adT x) (decide (hi < 0)) lo.toNat (N - c - 1) c a1 qs hin
    rw [show N - c - 1 + 1 = N - c by omega] at hU hRl
    rw [hR] at hRl
    have HU := hideT hU
    have HR := hideT hR
    have HAdd := hideT (ih wr b qs cs (.slice va x.kids.length vc) hS.big hS.web (kidsB hk hS.fr.below) (by omega))
    unfold nodeW partV at HAdd
    obtain ⟨sa, cap, cb, -, -⟩ := hS.web.cell0
    have n0 : wr.cell? ⟨w.heap.size, 0, none⟩ = some (.int .i64 (x.kind : Nat)) := by simp [World.cell?, hS.node, nodeV]
    have n1 : wr.cell? ⟨w.heap.size, 1, none⟩ = some (.int .u64 (wd x.q 0 : Nat)) := by simp [World.cell?, hS.node, nodeV]
    have n2 : wr.cell? ⟨w.heap.size, 2, none⟩ = some (.int .u64 (wd x.q 1 : Nat)) := by simp [World.cell?, hS.node, nodeV]
    have n3 : wr.cell? ⟨w.heap.size, 3, none⟩ = some (.int .u64 (wd x.q 2 : Nat)) := by simp [World.cell?, hS.node, nodeV]
    have n4 : wr.cell? ⟨w.heap.size, 4, none⟩ = some (.int .u64 (wd x.q 3 : Nat)) := by simp [World.cell?, hS.node, nodeV]
    have n5 : wr.cell? ⟨w.heap.size, 5, none⟩ = some (.int .i64 x.lo) := by simp [World.cell?, hS.node, nodeV]
    have n6 : wr.cell? ⟨w.heap.size, 6, none⟩ = some (.int .i64 x.hi) := by simp [World.cell?, hS.node, nodeV]
    have n7 : wr.cell? ⟨w.heap.size, 7, none⟩ = some (.int .i64 (x.grp : Nat)) := by simp [World.cell?, hS.node, nodeV]
    have n8 : wr.cell? ⟨w.heap.size, 8, none⟩ = some (.slice va x.kids.length vc) := by simp [World.cell?, hS.node, nodeV]
    clear hU hR
    have HSS := hideT hS
    clear hS
    go_wp2_with fail
    refine HAdd.out.mono ?_
    rintro e V1 ⟨rfl, hw1, hf1⟩
    rename_i K1 hK1 K2 hK2
    refine hK2 _ _ ?_
    refine alloc_store (d := 13) (s := 31) (cs := paV (adT x qs).1) rfl rfl rfl rfl rfl rfl (by decide) rfl (fun _ => rfl) rfl (paV_one _) ?_
    have hS1 := HSS.out.call hw1 hf1
    obtain ⟨P, hPd⟩ : ∃ P, P = V1.heap.size := ⟨_, rfl⟩
    have hA := (Below.refl V1.heap.size V1).alloc (Nat.le_refl _) (.cells #[.bool false, .int .u64 0, .int .u64 0, .int .u64 0, .int .u64 0, .int .u64 0, .int .u64 0, .int .u64 0, .int .u64 0, .bool false, .int .u64 0, .int .u64 0, .int .u64 0, .int .u64 0, .int .u64 0, .int .u64 0, .int .u64 0, .int .u64 0, .bool false, .int .u64 0, .int .u64 0, .int .u64 0, .int .u64 0, .int .u64 0, .int .u64 0, .int .u64 0, .int .u64 0, .bool false, .int .u64 0, .int .u64 0, .int .u64 0, .int .u64 0, .int .u64 0, .int .u64 0, .int .u64 0, .int .u64 0] 81)
    have p0 : (V1.alloc (.cells #[.bool false, .int .u64 0, .int .u64 0, .int .u64 0, .int .u64 0, .int .u64 0, .int .u64 0, .int .u64 0, .int .u64 0, .bool false, .int .u64 0, .int .u64 0, .int .u64 0, .int .u64 0, .int .u64 0, .int .u64 0, .int .u64 0, .int .u64 0, .bool false, .int .u64 0, .int .u64 0, .int .u64 0, .int .u64 0, .int .u64 0, .int .u64 0, .int .u64 0, .int .u64 0, .bool false, .int .u64 0, .int .u64 0, .int .u64 0, .int .u64 0, .int .u64 0, .int .u64 0, .int .u64 0, .int .u64 0] 81)).heap[P]? = some (.cells [.bool false, .int .u64 0, .int .u64 0, .int .u64 0, .int .u64 0, .int .u64 0, .int .u64 0, .int .u64 0, .int .u64 0, .bool false, .int .u64 0, .int .u64 0, .int .u64 0, .int .u64 0, .int .u64 0, .int .u64 0, .int .u64 0, .int .u64 0, .bool false, .int .u64 0, .int .u64 0, .int .u64 0, .int .u64 0, .int .u64 0, .int .u64 0, .int .u64 0, .int .u64 0, .bool false, .int .u64 0, .int .u64 0, .int .u64 0, .int .u64 0, .int .u64 0, .int .u64 0, .int .u64 0, .int .u64 0].toArray 81 (0, 0)) := by rw [hPd]; exact World.alloc_heap_new V1 _
    have hPQ : P ≠ Q := by have := (Array.getElem?_eq_some_iff.1 hS1.all).1; omega
    have hPR : P ≠ (w.heap.size + 1) := by have := (Array.getElem?_eq_some_iff.1 hS1.res).1; omega
    have hPH : P ≠ w.heap.size := by have := (Array.getElem?_eq_some_iff.1 hS1.node).1; omega
    have hPw : w.heap.size ≤ P := by have := (Array.getElem?_eq_some_iff.1 hS1.all).1; omega
    have hS := (hS1.below hA).put p0 hB hPw hPH hPR hPQ (adT x qs).1
    have hP := setCells_whole (paV (adT x qs).1) p0 rfl
    refine hK1 _ _ ?_
    simp only [Act.put, List.setIfInBounds_toArray, List.set_cons_zero, List.set_cons_succ]
    rw [← hPd]
    generalize (V1.alloc (.cells #[.bool false, .int .u64 0, .int .u64 0, .int .u64 0, .int .u64 0, .int .u64 0, .int .u64 0, .int .u64 0, .int .u64 0, .bool false, .int .u64 0, .int .u64 0, .int .u64 0, .int .u64 0, .int .u64 0, .int .u64 0, .int .u64 0, .int .u64 0, .bool false, .int .u64 0, .int .u64 0, .int .u64 0, .int .u64 0, .int .u64 0, .int .u64 0, .int .u64 0, .int .u64 0, .bool false, .int .u64 0, .int .u64 0, .int .u64 0, .int .u64 0, .int .u64 0, .int .u64 0, .int .u64 0, .int .u64 0] 81)).setCells P 0 (paV (adT x qs).1) = V at *
    clear hK1 hK2 hw1 hf1 hS1 hA p0 hPd HAdd HSS n0 n1 n2 n3 n4 n5 n6 n7 n8 cb
    have hN1 := (ly_adT x qs).1
    have HL := hideT ((link_any (adT x qs).1 (adT x qs).1 V hS.big hS.web (fun y hy => (hN1 0 y).2 hy) (fun y hy => (hN1 0 y).1 hy)).mono (R' := fun e w' => ∃ u, e = .returned u ∧ WebAt w' B b (linkB (adT x qs).1 (adT x qs).1 (adT x qs).2) cs ∧ WFr B V w') (by
     rintro e w' ⟨⟨u, rfl⟩, k1, k2⟩
     exact ⟨u, rfl, k1, k2⟩))
    clear hN1
    go_upto_region 11 with fail
    rename_i K3 hK3
    refine wp_region_lit (l := [_, _, _, _]) ?_
    refine wl_value (v := .pointer (some ⟨b, 0, none⟩)) (w' := V) rfl (by go_simp; (try with_reducible rfl)) ?_
    refine wpList_load_mid rfl 81 _ rfl P 0 rfl (paV (adT x qs).1) _ (range_block hP) und_part rfl (by rw [info_part]; rfl) ?_
    refine wpList_load_mid rfl 81 _ rfl P 0 rfl (paV (adT x qs).1) _ (range_block hP) und_part rfl (by rw [info_part]; rfl) ?_
    refine wl_call (f := 68) (args := #[.pointer (some ⟨b, 0, none⟩), .agg (paV (adT x qs).1).toArray, .agg (paV (adT x qs).1).toArray]) rfl (by go_simp; (try with_reducible rfl)) HL.out ?_
    rintro u V3 ⟨k1, k2⟩
    have hS3 := hS.call k1 k2
    have hP3 := k2.same _ _ hP rfl
    refine wpList_nil (hK3 _ _ ?_)
    simp only [Act.put, List.setIfInBounds_toArray, List.set_cons_zero, List.set_cons_succ]
    clear hS hP hK3 k1 k2 HL V
    rename World => V
    rename RpS w B b w.heap.size (w.heap.size + 1) Q x (.slice va x.kids.length vc) cs a1 (linkB (adT x qs).1 (adT x qs).1 (adT x qs).2) V => hS
    rename V.heap[P]? = _ => hP
    by_cases ho : lo ≤ (c : Int)
    ·have HO := hideT (show lo.toNat ≤ c by omega)
     have HOp := hideT ((optional_any (adT x qs).1 V).mono (R' := fun e w' => ∃ u, e = .returned u ∧ u = .agg (paV (optB (adT x qs).1)).toArray ∧ Below V.heap.size V w') (by
      rintro e w' ⟨rfl, k1⟩
      exact ⟨_, rfl, rfl, k1⟩))
     go_upto_region 13 with fail
     rename_i K4 hK4
     refine wp_region_lit (l := [_, _, _]) ?_
     refine wpList_load_mid rfl 81 _ rfl P 0 rfl (paV (adT x qs).1) _ (range_block hP) und_part rfl (by rw [info_part]; rfl) ?_
     refine wl_call (f := 69) (args := #[.agg (paV (adT x qs).1).toArray]) rfl (by go_simp; (try with_reducible rfl)) HOp.out ?_
     rintro u V4 ⟨rfl, k1⟩
     have hS4 := hS.below k1
     have hP4 := (k1.block _ (Array.getElem?_eq_some_iff.1 hP).1).trans hP
     refine wpList_store_mid rfl 81 _ _ rfl P 0 (paV (optB (adT x qs).1)).toArray rfl rfl (by rw [List.size_toArray]; exact there_block hP4 _ rfl) (by rw [info_part]; rfl) (paV_one _) ?_
     refine wpList_nil (hK4 _ _ ?_)
     simp only [Act.put, List.setIfInBounds_toArray, List.set_cons_zero, List.set_cons_succ]
     have hS5 := hS4.put hP4 hB hPw hPH hPR hPQ (optB (adT x qs).1)
     have hP5 := setCells_whole (paV (optB (adT x qs).1)) hP4 rfl
     change RpS w B b w.heap.size (w.heap.size + 1) Q x (.slice va x.kids.length vc) cs a1 (linkB (adT x qs).1 (adT x qs).1 (adT x qs).2) (V4.setCells P 0 (paV (optB (adT x qs).1)).toArray.toList) at hS5
     change (V4.setCells P 0 (paV (optB (adT x qs).1)).toArray.toList).heap[P]? = _ at hP5
     clear hS hP hK4 k1 hS4 hP4 HOp
     generalize V4.setCells P 0 (paV (optB (adT x qs).1)).toArray.toList = V at *
     rename RpS w B b w.heap.size (w.heap.size + 1) Q x (.slice va x.kids.length vc) cs a1 (linkB (adT x qs).1 (adT x qs).1 (adT x qs).2) V => hS
     rename V.heap[P]? = _ => hP
     have hN1 : InB (optB (adT x qs).1) (linkB (adT x qs).1 (adT x qs).1 (adT x qs).2).length := by
      have e : (linkB (adT x qs).1 (adT x qs).1 (adT x qs).2).length = (adT x qs).2.length := by rw [len_link]
      rw [e]
      exact in_opt (ly_adT x qs).1
     have hN2 : InB a1 (linkB (adT x qs).1 (adT x qs).1 (adT x qs).2).length := hin.mono (by rw [len_link]; exact (ly_adT x qs).2)
     have HJ := hideT ((join_any a1 (optB (adT x qs).1) V hS.big hS.web (fun y hy => (hN2 0 y).2 hy) (fun y hy => (hN1 0 y).1 hy)).mono (R' := fun e w' => ∃ u, e = .returned u ∧ u = .agg (paV (joinB a1 (optB (adT x qs).1))).toArray ∧ WebAt w' B b (linkB a1 (optB (adT x qs).1) (linkB (adT x qs).1 (adT x qs).1 (adT x qs).2)) cs ∧ WFr B V w') (by
      rintro e w' ⟨rfl, k1, k2⟩
      exact ⟨_, rfl, rfl, k1, k2⟩))
     go_upto_region 14 with fail
     rename_i K5 hK5
     refine wp_region_lit (l := [_, _, _, _, _]) ?_
     refine wl_value (v := .pointer (some ⟨b, 0, none⟩)) (w' := V) rfl (by go_simp; (try with_reducible rfl)) ?_
     refine wpList_load_mid rfl 81 _ rfl Q 0 rfl (paV a1) _ (range_block hS.all) und_part rfl (by rw [info_part]; rfl) ?_
     refine wpList_load_mid rfl 81 _ rfl P 0 rfl (paV (optB (adT x qs).1)) _ (range_block hP) und_part rfl (by rw [info_part]; rfl) ?_
     refine wl_call (f := 59) (args := #[.pointer (some ⟨b, 0, none⟩), .agg (paV a1).toArray, .agg (paV (optB (adT x qs).1)).toArray]) rfl (by go_simp; (try with_reducible rfl)) HJ.out ?_
     rintro u V6 ⟨rfl, k1, k2⟩
     have hS6 := hS.call k1 k2
     clear HJ k1 k2
     refine wpList_store_mid rfl 81 _ _ rfl Q 0 (paV (joinB a1 (optB (adT x qs).1))).toArray rfl rfl (by rw [List.size_toArray]; exact there_block hS6.all _ rfl) (by rw [info_part]; rfl) (paV_one _) ?_
     refine wpList_nil (hK5 _ _ ?_)
     simp only [Act.put, List.setIfInBounds_toArray, List.set_cons_zero, List.set_cons_succ]
     have hS7 := hS6.putQ hB hQw hQH hQR (joinB a1 (optB (adT x qs).1))
     change RpS w B b w.heap.size (w.heap.size + 1) Q x (.slice va x.kids.length vc) cs (joinB a1 (optB (adT x qs).1)) (linkB a1 (optB (adT x qs).1) (linkB (adT x qs).1 (adT x qs).1 (adT x qs).2)) (V6.setCells Q 0 (paV (joinB a1 (optB (adT x qs).1))).toArray.toList) at hS7
     generalize V6.setCells Q 0 (paV (joinB a1 (optB (adT x qs).1))).toArray.toList = V7 at *
     clear hK5 hS6 hS hP
     obtain ⟨sa, cap, cb, -, -⟩ := hS7.web.cell0
     have hL : (linkB a1 (optB (adT x qs).1) (linkB (adT x qs).1 (adT x qs).1 (adT x qs).2)).length = (adT x qs).2.length := by rw [len_link]; rw [len_link]
     rw [hL] at cb
     by_cases hz : (adT x qs).2.length = qs.length
     ·have ez : (((adT x qs).2.length : Int) == (qs.length : Int)) = true := by rw [beq_iff_eq]; omega
      have hfin : RR = (joinB a1 (optB (adT x qs).1), (linkB a1 (optB (adT x qs).1) (linkB (adT x qs).1 (adT x qs).1 (adT x qs).2))) := by
       rw [← HR.out, HU.out, if_pos hz, if_pos HO.out, HD.out]
       rfl
      have HF := hideT (And.intro hS7 hfin)
      clear hS7 hfin
      go_upto_region 17 with fail
      obtain ⟨hS7, hfin⟩ := HF.out
      refine ret_part (b := Q) (b' := (w.heap.size + 1)) (cs := paV (joinB a1 (optB (adT x qs).1))) (zs := [.bool false, .int .u64 0, .int .u64 0, .int .u64 0, .int .u64 0, .int .u64 0, .int .u64 0, .int .u64 0, .int .u64 0, .bool false, .int .u64 0, .int .u64 0, .int .u64 0, .int .u64 0, .int .u64 0, .int .u64 0, .int .u64 0, .int .u64 0, .bool false, .int .u64 0, .int .u64 0, .int .u64 0, .int .u64 0, .int .u64 0, .int .u64 0, .int .u64 0, .int .u64 0, .bool false, .int .u64 0, .int .u64 0, .int .u64 0, .int .u64 0, .int .u64 0, .int .u64 0, .int .u64 0, .int .u64 0]) rfl (by assumption) rfl rfl (by decide) rfl hS7.all hS7.res rfl rfl (paV_one _) rfl rfl ⟨?_, ?_, ?_⟩
      ·rw [HRR.out, hfin]
      ·rw [HRR.out, hfin]
       exact hS7.web.far hS7.res rfl 0 _
      ·exact hS7.fr.far hB (by omega) 0 _
     ·have ez : (((adT x qs).2.length : Int) == (qs.length : Int)) = false := by rw [beq_eq_false_iff_ne]; omega
      have hnx : rpB (adT x) (decide (hi < 0)) lo.toNat (N - (c + 1)) (c + 1) (joinB a1 (optB (adT x qs).1)) (linkB a1 (optB (adT x qs).1) (linkB (adT x qs).1 (adT x qs).1 (adT x qs).2)) = RR := by
       rw [← HR.out, HU.out, if_neg hz, show N - (c + 1) = N - c - 1 by omega, if_pos HO.out, HD.out]
       rfl
      have hin2 : InB (joinB a1 (optB (adT x qs).1)) (linkB a1 (optB (adT x qs).1) (linkB (adT x qs).1 (adT x qs).1 (adT x qs).2)).length := by rw [len_link]; exact in_join hN2 hN1
      have HF := hideT (And.intro hS7 (And.intro hnx hin2))
      clear hS7 hnx hin2
      go_wp2
      exact ⟨⟨c + 1, _, _, by omega, by go_num, HF.out.1, HF.out.2.2, HF.out.2.1⟩, by simp [intOf]; omega⟩
    ·have HO := hideT (show ¬ lo.toNat ≤ c by omega)
     have hN1 : InB (adT x qs).1 (linkB (adT x qs).1 (adT x qs).1 (adT x qs).2).length := by
      have e : (linkB (adT x qs).1 (adT x qs).1 (adT x qs).2).length = (adT x qs).2.length := by rw [len_link]
      rw [e]
      exact (ly_adT x qs).1
     have hN2 : InB a1 (linkB (adT x qs).1 (adT x qs).1 (adT x qs).2).length := hin.mono (by rw [len_link]; exact (ly_adT x qs).2)
     have HJ := hideT ((join_any a1 (adT x qs).1 V hS.big hS.web (fun y hy => (hN2 0 y).2 hy) (fun y hy => (hN1 0 y).1 hy)).mono (R' := fun e w' => ∃ u, e = .returned u ∧ u = .agg (paV (joinB a1 (adT x qs).1)).toArray ∧ WebAt w' B b (linkB a1 (adT x qs).1 (linkB (adT x qs).1 (adT x qs).1 (adT x qs).2)) cs ∧ WFr B V w') (by
      rintro e w' ⟨rfl, k1, k2⟩
      exact ⟨_, rfl, rfl, k1, k2⟩))
     go_upto_region 14 with fail
     rename_i K5 hK5
     refine wp_region_lit (l := [_, _, _, _, _]) ?_
     refine wl_value (v := .pointer (some ⟨b, 0, none⟩)) (w' := V) rfl (by go_simp; (try with_reducible rfl)) ?_
     refine wpList_load_mid rfl 81 _ rfl Q 0 rfl (paV a1) _ (range_block hS.all) und_part rfl (by rw [info_part]; rfl) ?_
     refine wpList_load_mid rfl 81 _ rfl P 0 rfl (paV (adT x qs).1) _ (range_block hP) und_part rfl (by rw [info_part]; rfl) ?_
     refine wl_call (f := 59) (args := #[.pointer (some ⟨b, 0, none⟩), .agg (paV a1).toArray, .agg (paV (adT x qs).1).toArray]) rfl (by go_simp; (try with_reducible rfl)) HJ.out ?_
     rintro u V6 ⟨rfl, k1, k2⟩
     have hS6 := hS.call k1 k2
     clear HJ k1 k2
     refine wpList_store_mid rfl 81 _ _ rfl Q 0 (paV (joinB a1 (adT x qs).1)).toArray rfl rfl (by rw [List.size_toArray]; exact there_block hS6.all _ rfl) (by rw [info_part]; rfl) (paV_one _) ?_
     refine wpList_nil (hK5 _ _ ?_)
     simp only [Act.put, List.setIfInBounds_toArray, List.set_cons_zero, List.set_cons_succ]
     have hS7 := hS6.putQ hB hQw hQH hQR (joinB a1 (adT x qs).1)
     change RpS w B b w.heap.size (w.heap.size + 1) Q x (.slice va x.kids.length vc) cs (joinB a1 (adT x qs).1) (linkB a1 (adT x qs).1 (linkB (adT x qs).1 (adT x qs).1 (adT x qs).2)) (V6.setCells Q 0 (paV (joinB a1 (adT x qs).1)).toArray.toList) at hS7
     generalize V6.setCells Q 0 (paV (joinB a1 (adT x qs).1)).toArray.toList = V7 at *
     clear hK5 hS6 hS hP
     obtain ⟨sa, cap, cb, -, -⟩ := hS7.web.cell0
     have hL : (linkB a1 (adT x qs).1 (linkB (adT x qs).1 (adT x qs).1 (adT x qs).2)).length = (adT x qs).2.length := by rw [len_link]; rw [len_link]
     rw [hL] at cb
     by_cases hz : (adT x qs).2.length = qs.length
     ·have ez : (((adT x qs).2.length : Int) == (qs.length : Int)) = true := by rw [beq_iff_eq]; omega
      have hfin : RR = (joinB a1 (adT x qs).1, (linkB a1 (adT x qs).1 (linkB (adT x qs).1 (adT x qs).1 (adT x qs).2))) := by
       rw [← HR.out, HU.out, if_pos hz, if_neg HO.out, HD.out]
       rfl
      have HF := hideT (And.intro hS7 hfin)
      clear hS7 hfin
      go_upto_region 17 with fail
      obtain ⟨hS7, hfin⟩ := HF.out
      refine ret_part (b := Q) (b' := (w.heap.size + 1)) (cs := paV (joinB a1 (adT x qs).1)) (zs := [.bool false, .int .u64 0, .int .u64 0, .int .u64 0, .int .u64 0, .int .u64 0, .int .u64 0, .int .u64 0, .int .u64 0, .bool false, .int .u64 0, .int .u64 0, .int .u64 0, .int .u64 0, .int .u64 0, .int .u64 0, .int .u64 0, .int .u64 0, .bool false, .int .u64 0, .int .u64 0, .int .u64 0, .int .u64 0, .int .u64 0, .int .u64 0, .int .u64 0, .int .u64 0, .bool false, .int .u64 0, .int .u64 0, .int .u64 0, .int .u64 0, .int .u64 0, .int .u64 0, .int .u64 0, .int .u64 0]) rfl (by assumption) rfl rfl (by decide) rfl hS7.all hS7.res rfl rfl (paV_one _) rfl rfl ⟨?_, ?_, ?_⟩
      ·rw [HRR.out, hfin]
      ·rw [HRR.out, hfin]
       exact hS7.web.far hS7.res rfl 0 _
      ·exact hS7.fr.far hB (by omega) 0 _
     ·have ez : (((adT x qs).2.length : Int) == (qs.length : Int)) = false := by rw [beq_eq_false_iff_ne]; omega
      have hnx : rpB (adT x) (decide (hi < 0)) lo.toNat (N - (c + 1)) (c + 1) (joinB a1 (adT x qs).1) (linkB a1 (adT x qs).1 (linkB (adT x qs).1 (adT x qs).1 (adT x qs).2)) = RR := by
       rw [← HR.out, HU.out, if_neg hz, show N - (c + 1) = N - c - 1 by omega, if_neg HO.out, HD.out]
       rfl
      have hin2 : InB (joinB a1 (adT x qs).1) (linkB a1 (adT x qs).1 (linkB (adT x qs).1 (adT x qs).1 (adT x qs).2)).length := by rw [len_link]; exact in_join hN2 hN1
      have HF := hideT (And.intro hS7 (And.intro hnx hin2))
      clear hS7 hnx hin2
      go_wp2
      exact ⟨⟨c + 1, _, _, by omega, by go_num, HF.out.1, HF.out.2.2, HF.out.2.1⟩, by simp [intOf]; omega⟩
   ·obtain rfl : c = N := by omega
    have i1 : ¬ (c : Int) < NI := by rw [HNI.out]; omega
    have hfin : RR = (a1, qs) := by rw [← hR, Nat.sub_self]; rfl
    have HF := hideT (And.intro hS hfin)
    clear hS hfin hR
    go_upto_region 17 with fail
    obtain ⟨hS7, hfin⟩ := HF.out
    refine ret_part (b := Q) (b' := (w.heap.size + 1)) (cs := paV a1) (zs := [.bool false, .int .u64 0, .int .u64 0, .int .u64 0, .int .u64 0, .int .u64 0, .int .u64 0, .int .u64 0, .int .u64 0, .bool false, .int .u64 0, .int .u64 0, .int .u64 0, .int .u64 0, .int .u64 0, .int .u64 0, .int .u64 0, .int .u64 0, .bool false, .int .u64 0, .int .u64 0, .int .u64 0, .int .u64 0, .int .u64 0, .int .u64 0, .int .u64 0, .int .u64 0, .bool false, .int .u64 0, .int .u64 0, .int .u64 0, .int .u64 0, .int .u64 0, .int .u64 0, .int .u64 0, .int .u64 0]) rfl (by assumption) rfl rfl (by decide) rfl hS7.all hS7.res rfl rfl (paV_one _) rfl rfl ⟨?_, ?_, ?_⟩
    ·rw [HRR.out, hfin]
    ·rw [HRR.out, hfin]
     exact hS7.web.far hS7.res rfl 0 _
    ·exact hS7.fr.far hB (by omega) 0 _
 ·have HNI0 := hideT (HMM.out.2 hh)
  go_wp2_with fail
  have hNI := HNI0.out
  refine (HE.out _).mono ?_
  rintro e w1 ⟨rfl, hb1⟩
  rename_i K1 hK1 K2 hK2
  refine hK2 _ _ ?_
  have x0 : ((w.alloc (.cells (nodeV x (.slice va x.kids.length vc)).toArray 48)).alloc (.cells #[.bool false, .int .u64 0, .int .u64 0, .int .u64 0, .int .u64 0, .int .u64 0, .int .u64 0, .int .u64 0, .int .u64 0, .bool false, .int .u64 0, .int .u64 0, .int .u64 0, .int .u64 0, .int .u64 0, .int .u64 0, .int .u64 0, .int .u64 0, .bool false, .int .u64 0, .int .u64 0, .int .u64 0, .int .u64 0, .int .u64 0, .int .u64 0, .int .u64 0, .int .u64 0, .bool false, .int .u64 0, .int .u64 0, .int .u64 0, .int .u64 0, .int .u64 0, .int .u64 0, .int .u64 0, .int .u64 0] 81)).heap[w.heap.size]? = some (.cells (nodeV x (.slice va x.kids.length vc)).toArray 48 (0, 0)) := (Below.heap_alloc _ _ _ (by simp)).trans (World.alloc_heap_new w _)
  have x1 : ((w.alloc (.cells (nodeV x (.slice va x.kids.length vc)).toArray 48)).alloc (.cells #[.bool false, .int .u64 0, .int .u64 0, .int .u64 0, .int .u64 0, .int .u64 0, .int .u64 0, .int .u64 0, .int .u64 0, .bool false, .int .u64 0, .int .u64 0, .int .u64 0, .int .u64 0, .int .u64 0, .int .u64 0, .int .u64 0, .int .u64 0, .bool false, .int .u64 0, .int .u64 0, .int .u64 0, .int .u64 0, .int .u64 0, .int .u64 0, .int .u64 0, .int .u64 0, .bool false, .int .u64 0, .int .u64 0, .int .u64 0, .int .u64 0, .int .u64 0, .int .u64 0, .int .u64 0, .int .u64 0] 81)).heap[(w.heap.size + 1)]? = some (.cells [.bool false, .int .u64 0, .int .u64 0, .int .u64 0, .int .u64 0, .int .u64 0, .int .u64 0, .int .u64 0, .int .u64 0, .bool false, .int .u64 0, .int .u64 0, .int .u64 0, .int .u64 0, .int .u64 0, .int .u64 0, .int .u64 0, .int .u64 0, .bool false, .int .u64 0, .int .u64 0, .int .u64 0, .int .u64 0, .int .u64 0, .int .u64 0, .int .u64 0, .int .u64 0, .bool false, .int .u64 0, .int .u64 0, .int .u64 0, .int .u64 0, .int .u64 0, .int .u64 0, .int .u64 0, .int .u64 0].toArray 81 (0, 0)) := by
   have h := World.alloc_heap_new (w.alloc (.cells (nodeV x (.slice va x.kids.length vc)).toArray 48)) (.cells #[.bool false, .int .u64 0, .int .u64 0, .int .u64 0, .int .u64 0, .int .u64 0, .int .u64 0, .int .u64 0, .int .u64 0, .bool false, .int .u64 0, .int .u64 0, .int .u64 0, .int .u64 0, .int .u64 0, .int .u64 0, .int .u64 0, .int .u64 0, .bool false, .int .u64 0, .int .u64 0, .int .u64 0, .int .u64 0, .int .u64 0, .int .u64 0, .int .u64 0, .int .u64 0, .bool false, .int .u64 0, .int .u64 0, .int .u64 0, .int .u64 0, .int .u64 0, .int .u64 0, .int .u64 0, .int .u64 0] 81)
   rw [World.size_alloc] at h
   exact h
  have hBX : Below w.heap.size w ((w.alloc (.cells (nodeV x (.slice va x.kids.length vc)).toArray 48)).alloc (.cells #[.bool false, .int .u64 0, .int .u64 0, .int .u64 0, .int .u64 0, .int .u64 0, .int .u64 0, .int .u64 0, .int .u64 0, .bool false, .int .u64 0, .int .u64 0, .int .u64 0, .int .u64 0, .int .u64 0, .int .u64 0, .int .u64 0, .int .u64 0, .bool false, .int .u64 0, .int .u64 0, .int .u64 0, .int .u64 0, .int .u64 0, .int .u64 0, .int .u64 0, .int .u64 0, .bool false, .int .u64 0, .int .u64 0, .int .u64 0, .int .u64 0, .int .u64 0, .int .u64 0, .int .u64 0, .int .u64 0] 81)) := ((Below.refl _ w).alloc (Nat.le_refl _) _).alloc (by simp) _
  change Below ((w.alloc (.cells (nodeV x (.slice va x.kids.length vc)).toArray 48)).alloc (.cells #[.bool false, .int .u64 0, .int .u64 0, .int .u64 0, .int .u64 0, .int .u64 0, .int .u64 0, .int .u64 0, .int .u64 0, .bool false, .int .u64 0, .int .u64 0, .int .u64 0, .int .u64 0, .int .u64 0, .int .u64 0, .int .u64 0, .int .u64 0, .bool false, .int .u64 0, .int .u64 0, .int .u64 0, .int .u64 0, .int .u64 0, .int .u64 0, .int .u64 0, .int .u64 0, .bool false, .int .u64 0, .int .u64 0, .int .u64 0, .int .u64 0, .int .u64 0, .int .u64 0, .int .u64 0, .int .u64 0] 81)).heap.size ((w.alloc (.cells (nodeV x (.slice va x.kids.length vc)).toArray 48)).alloc (.cells #[.bool false, .int .u64 0, .int .u64 0, .int .u64 0, .int .u64 0, .int .u64 0, .int .u64 0, .int .u64 0, .int .u64 0, .bool false, .int .u64 0, .int .u64 0, .int .u64 0, .int .u64 0, .int .u64 0, .int .u64 0, .int .u64 0, .int .u64 0, .bool false, .int .u64 0, .int .u64 0, .int .u64 0, .int .u64 0, .int .u64 0, .int .u64 0, .int .u64 0, .int .u64 0, .bool false, .int .u64 0, .int .u64 0, .int .u64 0, .int .u64 0, .int .u64 0, .int .u64 0, .int .u64 0, .int .u64 0] 81)) w1 at hb1
  generalize ((w.alloc (.cells (nodeV x (.slice va x.kids.length vc)).toArray 48)).alloc (.cells #[.bool false, .int .u64 0, .int .u64 0, .int .u64 0, .int .u64 0, .int .u64 0, .int .u64 0, .int .u64 0, .int .u64 0, .bool false, .int .u64 0, .int .u64 0, .int .u64 0, .int .u64 0, .int .u64 0, .int .u64 0, .int .u64 0, .int .u64 0, .bool false, .int .u64 0, .int .u64 0, .int .u64 0, .int .u64 0, .int .u64 0, .int .u64 0, .int .u64 0, .int .u64 0, .bool false, .int .u64 0, .int .u64 0, .int .u64 0, .int .u64 0, .int .u64 0, .int .u64 0, .int .u64 0, .int .u64 0] 81)) = X at *
  obtain ⟨Q, hQ⟩ : ∃ Q, Q = w1.heap.size := ⟨_, rfl⟩
  have hQl : (w.heap.size + 1) < Q := by rw [hQ]; exact Nat.lt_of_lt_of_le (Array.getElem?_eq_some_iff.1 x1).1 hb1.size
  have hA := (Below.refl w1.heap.size w1).alloc (Nat.le_refl _) (.cells #[.bool false, .int .u64 0, .int .u64 0, .int .u64 0, .int .u64 0, .int .u64 0, .int .u64 0, .int .u64 0, .int .u64 0, .bool false, .int .u64 0, .int .u64 0, .int .u64 0, .int .u64 0, .int .u64 0, .int .u64 0, .int .u64 0, .int .u64 0, .bool false, .int .u64 0, .int .u64 0, .int .u64 0, .int .u64 0, .int .u64 0, .int .u64 0, .int .u64 0, .int .u64 0, .bool false, .int .u64 0, .int .u64 0, .int .u64 0, .int .u64 0, .int .u64 0, .int .u64 0, .int .u64 0, .int .u64 0] 81)
  have hXA := hb1.trans (hA.mono hb1.size)
  have q0 : (w1.alloc (.cells #[.bool false, .int .u64 0, .int .u64 0, .int .u64 0, .int .u64 0, .int .u64 0, .int .u64 0, .int .u64 0, .int .u64 0, .bool false, .int .u64 0, .int .u64 0, .int .u64 0, .int .u64 0, .int .u64 0, .int .u64 0, .int .u64 0, .int .u64 0, .bool false, .int .u64 0, .int .u64 0, .int .u64 0, .int .u64 0, .int .u64 0, .int .u64 0, .int .u64 0, .int .u64 0, .bool false, .int .u64 0, .int .u64 0, .int .u64 0, .int .u64 0, .int .u64 0, .int .u64 0, .int .u64 0, .int .u64 0] 81)).heap[Q]? = some (.cells [.bool false, .int .u64 0, .int .u64 0, .int .u64 0, .int .u64 0, .int .u64 0, .int .u64 0, .int .u64 0, .int .u64 0, .bool false, .int .u64 0, .int .u64 0, .int .u64 0, .int .u64 0, .int .u64 0, .int .u64 0, .int .u64 0, .int .u64 0, .bool false, .int .u64 0, .int .u64 0, .int .u64 0, .int .u64 0, .int .u64 0, .int .u64 0, .int .u64 0, .int .u64 0, .bool false, .int .u64 0, .int .u64 0, .int .u64 0, .int .u64 0, .int .u64 0, .int .u64 0, .int .u64 0, .int .u64 0].toArray 81 (0, 0)) := by rw [hQ]; exact World.alloc_heap_new w1 _
  refine alloc_store (d := 10) (s := 19) (cs := paV emB) rfl rfl rfl rfl rfl rfl (by decide) rfl (fun _ => rfl) rfl (paV_one _) ?_
  have hBA := hBX.trans (hXA.mono hBX.size)
  have hS0 : RpS w B b w.heap.size (w.heap.size + 1) Q x (.slice va x.kids.length vc) cs emB ps ((w1.alloc (.cells #[.bool false, .int .u64 0, .int .u64 0, .int .u64 0, .int .u64 0, .int .u64 0, .int .u64 0, .int .u64 0, .int .u64 0, .bool false, .int .u64 0, .int .u64 0, .int .u64 0, .int .u64 0, .int .u64 0, .int .u64 0, .int .u64 0, .int .u64 0, .bool false, .int .u64 0, .int .u64 0, .int .u64 0, .int .u64 0, .int .u64 0, .int .u64 0, .int .u64 0, .int .u64 0, .bool false, .int .u64 0, .int .u64 0, .int .u64 0, .int .u64 0, .int .u64 0, .int .u64 0, .int .u64 0, .int .u64 0] 81)).setCells w1.heap.size 0 (paV emB)) := by
   rw [← hQ]
   exact ⟨(setCells_far _ Q (by omega) _ _).trans ((hXA.block _ (Array.getElem?_eq_some_iff.1 x0).1).trans x0), (setCells_far _ Q (by omega) _ _).trans ((hXA.block _ (Array.getElem?_eq_some_iff.1 x1).1).trans x1), setCells_whole _ q0 rfl, (hw.below hBA).far q0 rfl 0 _, (WFr.of_below hBA hB).far hB (by omega) 0 _, by rw [setCells_size]; exact Nat.le_trans hB hBA.size⟩
  refine hK1 _ _ ?_
  simp only [Act.put, List.setIfInBounds_toArray, List.set_cons_zero, List.set_cons_succ]
  rw [← hQ] at hS0 ⊢
  generalize (w1.alloc (.cells #[.bool false, .int .u64 0, .int .u64 0, .int .u64 0, .int .u64 0, .int .u64 0, .int .u64 0, .int .u64 0, .int .u64 0, .bool false, .int .u64 0, .int .u64 0, .int .u64 0, .int .u64 0, .int .u64 0, .int .u64 0, .int .u64 0, .int .u64 0, .bool false, .int .u64 0, .int .u64 0, .int .u64 0, .int .u64 0, .int .u64 0, .int .u64 0, .int .u64 0, .int .u64 0, .bool false, .int .u64 0, .int .u64 0, .int .u64 0, .int .u64 0, .int .u64 0, .int .u64 0, .int .u64 0, .int .u64 0] 81)).setCells Q 0 (paV emB) = V0 at *
  clear x0 x1 hBX hb1 hA hXA q0 hBA hK1 hK2 hQ HE hw
  have hQw : w.heap.size ≤ Q := by omega
  have hQH : Q ≠ w.heap.size := by omega
  have hQR : Q ≠ (w.heap.size + 1) := by omega
  obtain ⟨RR, hRR⟩ : ∃ RR, rpB (adT x) (decide (hi < 0)) lo.toNat N 0 emB ps = RR := ⟨_, rfl⟩
  have HRR := hideT hRR
  rw [hRR] at hl
  have HS0 := hideT hS0
  have HNI := hideT hNI
  have HD := hideT (show decide (hi < 0) = false from decide_eq_false (by omega))
  clear hS0 hRR hNI
  go_wp2_with fail
  go_loopw [21] (fun iv V => ∃ (c : Nat) (a1 : PaB) (qs : List PosB), c ≤ N ∧ iv = .int .i64 c ∧ RpS w B b w.heap.size (w.heap.size + 1) Q x (.slice va x.kids.length vc) cs a1 qs V ∧ InB a1 qs.length ∧ rpB (adT x) (decide (hi < 0)) lo.toNat (N - c) c a1 qs = RR) (fun iv _ => (N - intOf iv).toNat)
  case atStart => exact ⟨0, emB, ps, by omega, rfl, HS0.out, in_em _, HRR.out⟩
  case round =>
   obtain ⟨c, a1, qs, hcN, rfl, hS, hin, hR⟩ := hrel
   by_cases hc : c < N
   ·have i1 : (c : Int) < hi := by rw [HNI.out]; omega
    have hU := rp_one (adT x) (decide (hi < 0)) lo.toNat (N - c - 1) c a1 qs
    have hRl := rp_len (ly_adT x) (decide (hi < 0)) lo.toNat (N - c - 1) c a1 qs hin
    rw [show N - c - 1 + 1 = N - c by omega] at hU hRl
    rw [hR] at hRl
    have HU := hideT hU
    have HR := hideT hR
    have HAdd := hideT (ih wr b qs cs (.slice va x.kids.length vc) hS.big hS.web (kidsB hk hS.fr.below) (by omega))
    unfold nodeW partV at HAdd
    obtain ⟨sa, cap, cb, -, -⟩ := hS.web.cell0
    have n0 : wr.cell? ⟨w.heap.size, 0, none⟩ = some (.int .i64 (x.kind : Nat)) := by simp [World.cell?, hS.node, nodeV]
    have n1 : wr.cell? ⟨w.heap.size, 1, none⟩ = some (.int .u64 (wd x.q 0 : Nat)) := by simp [World.cell?, hS.node, nodeV]
    have n2 : wr.cell? ⟨w.heap.size, 2, none⟩ = some (.int .u64 (wd x.q 1 : Nat)) := by simp [World.cell?, hS.node, nodeV]
    have n3 : wr.cell? ⟨w.heap.size, 3, none⟩ = some (.int .u64 (wd x.q 2 : Nat)) := by simp [World.cell?, hS.node, nodeV]
    have n4 : wr.cell? ⟨w.heap.size, 4, none⟩ = some (.int .u64 (wd x.q 3 : Nat)) := by simp [World.cell?, hS.node, nodeV]
    have n5 : wr.cell? ⟨w.heap.size, 5, none⟩ = some (.int .i64 x.lo) := by simp [World.cell?, hS.node, nodeV]
    have n6 : wr.cell? ⟨w.heap.size, 6, none⟩ = some (.int .i64 x.hi) := by simp [World.cell?, hS.node, nodeV]
    have n7 : wr.cell? ⟨w.heap.size, 7, none⟩ = some (.int .i64 (x.grp : Nat)) := by simp [World.cell?, hS.node, nodeV]
    have n8 : wr.cell? ⟨w.heap.size, 8, none⟩ = some (.slice va x.kids.length vc) := by simp [World.cell?, hS.node, nodeV]
    clear hU hR
    have HSS := hideT hS
    clear hS
    go_wp2_with fail
    refine HAdd.out.mono ?_
    rintro e V1 ⟨rfl, hw1, hf1⟩
    rename_i K1 hK1 K2 hK2
    refine hK2 _ _ ?_
    refine alloc_store (d := 13) (s := 31) (cs := paV (adT x qs).1) rfl rfl rfl rfl rfl rfl (by decide) rfl (fun _ => rfl) rfl (paV_one _) ?_
    have hS1 := HSS.out.call hw1 hf1
    obtain ⟨P, hPd⟩ : ∃ P, P = V1.heap.size := ⟨_, rfl⟩
    have hA := (Below.refl V1.heap.size V1).alloc (Nat.le_refl _) (.cells #[.bool false, .int .u64 0, .int .u64 0, .int .u64 0, .int .u64 0, .int .u64 0, .int .u64 0, .int .u64 0, .int .u64 0, .bool false, .int .u64 0, .int .u64 0, .int .u64 0, .int .u64 0, .int .u64 0, .int .u64 0, .int .u64 0, .int .u64 0, .bool false, .int .u64 0, .int .u64 0, .int .u64 0, .int .u64 0, .int .u64 0, .int .u64 0, .int .u64 0, .int .u64 0, .bool false, .int .u64 0, .int .u64 0, .int .u64 0, .int .u64 0, .int .u64 0, .int .u64 0, .int .u64 0, .int .u64 0] 81)
    have p0 : (V1.alloc (.cells #[.bool false, .int .u64 0, .int .u64 0, .int .u64 0, .int .u64 0, .int .u64 0, .int .u64 0, .int .u64 0, .int .u64 0, .bool false, .int .u64 0, .int .u64 0, .int .u64 0, .int .u64 0, .int .u64 0, .int .u64 0, .int .u64 0, .int .u64 0, .bool false, .int .u64 0, .int .u64 0, .int .u64 0, .int .u64 0, .int .u64 0, .int .u64 0, .int .u64 0, .int .u64 0, .bool false, .int .u64 0, .int .u64 0, .int .u64 0, .int .u64 0, .int .u64 0, .int .u64 0, .int .u64 0, .int .u64 0] 81)).heap[P]? = some (.cells [.bool false, .int .u64 0, .int .u64 0, .int .u64 0, .int .u64 0, .int .u64 0, .int .u64 0, .int .u64 0, .int .u64 0, .bool false, .int .u64 0, .int .u64 0, .int .u64 0, .int .u64 0, .int .u64 0, .int .u64 0, .int .u64 0, .int .u64 0, .bool false, .int .u64 0, .int .u64 0, .int .u64 0, .int .u64 0, .int .u64 0, .int .u64 0, .int .u64 0, .int .u64 0, .bool false, .int .u64 0, .int .u64 0, .int .u64 0, .int .u64 0, .int .u64 0, .int .u64 0, .int .u64 0, .int .u64 0].toArray 81 (0, 0)) := by rw [hPd]; exact World.alloc_heap_new V1 _
    have hPQ : P ≠ Q := by have := (Array.getElem?_eq_some_iff.1 hS1.all).1; omega
    have hPR : P ≠ (w.heap.size + 1) := by have := (Array.getElem?_eq_some_iff.1 hS1.res).1; omega
    have hPH : P ≠ w.heap.size := by have := (Array.getElem?_eq_some_iff.1 hS1.node).1; omega
    have hPw : w.heap.size ≤ P := by have := (Array.getElem?_eq_some_iff.1 hS1.all).1; omega
    have hS := (hS1.below hA).put p0 hB hPw hPH hPR hPQ (adT x qs).1
    have hP := setCells_whole (paV (adT x qs).1) p0 rfl
    refine hK1 _ _ ?_
    simp only [Act.put, List.setIfInBounds_toArray, List.set_cons_zero, List.set_cons_succ]
    rw [← hPd]
    generalize (V1.alloc (.cells #[.bool false, .int .u64 0, .int .u64 0, .int .u64 0, .int .u64 0, .int .u64 0, .int .u64 0, .int .u64 0, .int .u64 0, .bool false, .int .u64 0, .int .u64 0, .int .u64 0, .int .u64 0, .int .u64 0, .int .u64 0, .int .u64 0, .int .u64 0, .bool false, .int .u64 0, .int .u64 0, .int .u64 0, .int .u64 0, .int .u64 0, .int .u64 0, .int .u64 0, .int .u64 0, .bool false, .int .u64 0, .int .u64 0, .int .u64 0, .int .u64 0, .int .u64 0, .int .u64 0, .int .u64 0, .int .u64 0] 81)).setCells P 0 (paV (adT x qs).1) = V at *
    clear hK1 hK2 hw1 hf1 hS1 hA p0 hPd HAdd HSS n0 n1 n2 n3 n4 n5 n6 n7 n8 cb
    by_cases ho : lo ≤ (c : Int)
    ·have HO := hideT (show lo.toNat ≤ c by omega)
     have HOp := hideT ((optional_any (adT x qs).1 V).mono (R' := fun e w' => ∃ u, e = .returned u ∧ u = .agg (paV (optB (adT x qs).1)).toArray ∧ Below V.heap.size V w') (by
      rintro e w' ⟨rfl, k1⟩
      exact ⟨_, rfl, rfl, k1⟩))
     go_upto_region 13 with fail
     rename_i K4 hK4
     refine wp_region_lit (l := [_, _, _]) ?_
     refine wpList_load_mid rfl 81 _ rfl P 0 rfl (paV (adT x qs).1) _ (range_block hP) und_part rfl (by rw [info_part]; rfl) ?_
     refine wl_call (f := 69) (args := #[.agg (paV (adT x qs).1).toArray]) rfl (by go_simp; (try with_reducible rfl)) HOp.out ?_
     rintro u V4 ⟨rfl, k1⟩
     have hS4 := hS.below k1
     have hP4 := (k1.block _ (Array.getElem?_eq_some_iff.1 hP).1).trans hP
     refine wpList_store_mid rfl 81 _ _ rfl P 0 (paV (optB (adT x qs).1)).toArray rfl rfl (by rw [List.size_toArray]; exact there_block hP4 _ rfl) (by rw [info_part]; rfl) (paV_one _) ?_
     refine wpList_nil (hK4 _ _ ?_)
     simp only [Act.put, List.setIfInBounds_toArray, List.set_cons_zero, List.set_cons_succ]
     have hS5 := hS4.put hP4 hB hPw hPH hPR hPQ (optB (adT x qs).1)
     have hP5 := setCells_whole (paV (optB (adT x qs).1)) hP4 rfl
     change RpS w B b w.heap.size (w.heap.size + 1) Q x (.slice va x.kids.length vc) cs a1 (adT x qs).2 (V4.setCells P 0 (paV (optB (adT x qs).1)).toArray.toList) at hS5
     change (V4.setCells P 0 (paV (optB (adT x qs).1)).toArray.toList).heap[P]? = _ at hP5
     clear hS hP hK4 k1 hS4 hP4 HOp
     generalize V4.setCells P 0 (paV (optB (adT x qs).1)).toArray.toList = V at *
     rename RpS w B b w.heap.size (w.heap.size + 1) Q x (.slice va x.kids.length vc) cs a1 (adT x qs).2 V => hS
     rename V.heap[P]? = _ => hP
     have hN1 : InB (optB (adT x qs).1) (adT x qs).2.length := by
      have e : (adT x qs).2.length = (adT x qs).2.length := by rfl
      rw [e]
      exact in_opt (ly_adT x qs).1
     have hN2 : InB a1 (adT x qs).2.length := hin.mono (by exact (ly_adT x qs).2)
     have HJ := hideT ((join_any a1 (optB (adT x qs).1) V hS.big hS.web (fun y hy => (hN2 0 y).2 hy) (fun y hy => (hN1 0 y).1 hy)).mono (R' := fun e w' => ∃ u, e = .returned u ∧ u = .agg (paV (joinB a1 (optB (adT x qs).1))).toArray ∧ WebAt w' B b (linkB a1 (optB (adT x qs).1) (adT x qs).2) cs ∧ WFr B V w') (by
      rintro e w' ⟨rfl, k1, k2⟩
      exact ⟨_, rfl, rfl, k1, k2⟩))
     go_upto_region 14 with fail
     rename_i K5 hK5
     refine wp_region_lit (l := [_, _, _, _, _]) ?_
     refine wl_value (v := .pointer (some ⟨b, 0, none⟩)) (w' := V) rfl (by go_simp; (try with_reducible rfl)) ?_
     refine wpList_load_mid rfl 81 _ rfl Q 0 rfl (paV a1) _ (range_block hS.all) und_part rfl (by rw [info_part]; rfl) ?_
     refine wpList_load_mid rfl 81 _ rfl P 0 rfl (paV (optB (adT x qs).1)) _ (range_block hP) und_part rfl (by rw [info_part]; rfl) ?_
     refine wl_call (f := 59) (args := #[.pointer (some ⟨b, 0, none⟩), .agg (paV a1).toArray, .agg (paV (optB (adT x qs).1)).toArray]) rfl (by go_simp; (try with_reducible rfl)) HJ.out ?_
     rintro u V6 ⟨rfl, k1, k2⟩
     have hS6 := hS.call k1 k2
     clear HJ k1 k2
     refine wpList_store_mid rfl 81 _ _ rfl Q 0 (paV (joinB a1 (optB (adT x qs).1))).toArray rfl rfl (by rw [List.size_toArray]; exact there_block hS6.all _ rfl) (by rw [info_part]; rfl) (paV_one _) ?_
     refine wpList_nil (hK5 _ _ ?_)
     simp only [Act.put, List.setIfInBounds_toArray, List.set_cons_zero, List.set_cons_succ]
     have hS7 := hS6.putQ hB hQw hQH hQR (joinB a1 (optB (adT x qs).1))
     change RpS w B b w.heap.size (w.heap.size + 1) Q x (.slice va x.kids.length vc) cs (joinB a1 (optB (adT x qs).1)) (linkB a1 (optB (adT x qs).1) (adT x qs).2) (V6.setCells Q 0 (paV (joinB a1 (optB (adT x qs).1))).toArray.toList) at hS7
     generalize V6.setCells Q 0 (paV (joinB a1 (optB (adT x qs).1))).toArray.toList = V7 at *
     clear hK5 hS6 hS hP
     obtain ⟨sa, cap, cb, -, -⟩ := hS7.web.cell0
     have hL : (linkB a1 (optB (adT x qs).1) (adT x qs).2).length = (adT x qs).2.length := by rw [len_link]
     rw [hL] at cb
     by_cases hz : (adT x qs).2.length = qs.length
     ·have ez : (((adT x qs).2.length : Int) == (qs.length : Int)) = true := by rw [beq_iff_eq]; omega
      have hfin : RR = (joinB a1 (optB (adT x qs).1), (linkB a1 (optB (adT x qs).1) (adT x qs).2)) := by
       rw [← HR.out, HU.out, if_pos hz, if_pos HO.out, HD.out]
       rfl
      have HF := hideT (And.intro hS7 hfin)
      clear hS7 hfin
      go_upto_region 17 with fail
      obtain ⟨hS7, hfin⟩ := HF.out
      refine ret_part (b := Q) (b' := (w.heap.size + 1)) (cs := paV (joinB a1 (optB (adT x qs).1))) (zs := [.bool false, .int .u64 0, .int .u64 0, .int .u64 0, .int .u64 0, .int .u64 0, .int .u64 0, .int .u64 0, .int .u64 0, .bool false, .int .u64 0, .int .u64 0, .int .u64 0, .int .u64 0, .int .u64 0, .int .u64 0, .int .u64 0, .int .u64 0, .bool false, .int .u64 0, .int .u64 0, .int .u64 0, .int .u64 0, .int .u64 0, .int .u64 0, .int .u64 0, .int .u64 0, .bool false, .int .u64 0, .int .u64 0, .int .u64 0, .int .u64 0, .int .u64 0, .int .u64 0, .int .u64 0, .int .u64 0]) rfl (by assumption) rfl rfl (by decide) rfl hS7.all hS7.res rfl rfl (paV_one _) rfl rfl ⟨?_, ?_, ?_⟩
      ·rw [HRR.out, hfin]
      ·rw [HRR.out, hfin]
       exact hS7.web.far hS7.res rfl 0 _
      ·exact hS7.fr.far hB (by omega) 0 _
     ·have ez : (((adT x qs).2.length : Int) == (qs.length : Int)) = false := by rw [beq_eq_false_iff_ne]; omega
      have hnx : rpB (adT x) (decide (hi < 0)) lo.toNat (N - (c + 1)) (c + 1) (joinB a1 (optB (adT x qs).1)) (linkB a1 (optB (adT x qs).1) (adT x qs).2) = RR := by
       rw [← HR.out, HU.out, if_neg hz, show N - (c + 1) = N - c - 1 by omega, if_pos HO.out, HD.out]
       rfl
      have hin2 : InB (joinB a1 (optB (adT x qs).1)) (linkB a1 (optB (adT x qs).1) (adT x qs).2).length := by rw [len_link]; exact in_join hN2 hN1
      have HF := hideT (And.intro hS7 (And.intro hnx hin2))
      clear hS7 hnx hin2
      go_wp2
      exact ⟨⟨c + 1, _, _, by omega, by go_num, HF.out.1, HF.out.2.2, HF.out.2.1⟩, by simp [intOf]; omega⟩
    ·have HO := hideT (show ¬ lo.toNat ≤ c by omega)
     have hN1 : InB (adT x qs).1 (adT x qs).2.length := by
      have e : (adT x qs).2.length = (adT x qs).2.length := by rfl
      rw [e]
      exact (ly_adT x qs).1
     have hN2 : InB a1 (adT x qs).2.length := hin.mono (by exact (ly_adT x qs).2)
     have HJ := hideT ((join_any a1 (adT x qs).1 V hS.big hS.web (fun y hy => (hN2 0 y).2 hy) (fun y hy => (hN1 0 y).1 hy)).mono (R' := fun e w' => ∃ u, e = .returned u ∧ u = .agg (paV (joinB a1 (adT x qs).1)).toArray ∧ WebAt w' B b (linkB a1 (adT x qs).1 (adT x qs).2) cs ∧ WFr B V w') (by
      rintro e w' ⟨rfl, k1, k2⟩
      exact ⟨_, rfl, rfl, k1, k2⟩))
     go_upto_region 14 with fail
     rename_i K5 hK5
     refine wp_region_lit (l := [_, _, _, _, _]) ?_
     refine wl_value (v := .pointer (some ⟨b, 0, none⟩)) (w' := V) rfl (by go_simp; (try with_reducible rfl)) ?_
     refine wpList_load_mid rfl 81 _ rfl Q 0 rfl (paV a1) _ (range_block hS.all) und_part rfl (by rw [info_part]; rfl) ?_
     refine wpList_load_mid rfl 81 _ rfl P 0 rfl (paV (adT x qs).1) _ (range_block hP) und_part rfl (by rw [info_part]; rfl) ?_
     refine wl_call (f := 59) (args := #[.pointer (some ⟨b, 0, none⟩), .agg (paV a1).toArray, .agg (paV (adT x qs).1).toArray]) rfl (by go_simp; (try with_reducible rfl)) HJ.out ?_
     rintro u V6 ⟨rfl, k1, k2⟩
     have hS6 := hS.call k1 k2
     clear HJ k1 k2
     refine wpList_store_mid rfl 81 _ _ rfl Q 0 (paV (joinB a1 (adT x qs).1)).toArray rfl rfl (by rw [List.size_toArray]; exact there_block hS6.all _ rfl) (by rw [info_part]; rfl) (paV_one _) ?_
     refine wpList_nil (hK5 _ _ ?_)
     simp only [Act.put, List.setIfInBounds_toArray, List.set_cons_zero, List.set_cons_succ]
     have hS7 := hS6.putQ hB hQw hQH hQR (joinB a1 (adT x qs).1)
     change RpS w B b w.heap.size (w.heap.size + 1) Q x (.slice va x.kids.length vc) cs (joinB a1 (adT x qs).1) (linkB a1 (adT x qs).1 (adT x qs).2) (V6.setCells Q 0 (paV (joinB a1 (adT x qs).1)).toArray.toList) at hS7
     generalize V6.setCells Q 0 (paV (joinB a1 (adT x qs).1)).toArray.toList = V7 at *
     clear hK5 hS6 hS hP
     obtain ⟨sa, cap, cb, -, -⟩ := hS7.web.cell0
     have hL : (linkB a1 (adT x qs).1 (adT x qs).2).length = (adT x qs).2.length := by rw [len_link]
     rw [hL] at cb
     by_cases hz : (adT x qs).2.length = qs.length
     ·have ez : (((adT x qs).2.length : Int) == (qs.length : Int)) = true := by rw [beq_iff_eq]; omega
      have hfin : RR = (joinB a1 (adT x qs).1, (linkB a1 (adT x qs).1 (adT x qs).2)) := by
       rw [← HR.out, HU.out, if_pos hz, if_neg HO.out, HD.out]
       rfl
      have HF := hideT (And.intro hS7 hfin)
      clear hS7 hfin
      go_upto_region 17 with fail
      obtain ⟨hS7, hfin⟩ := HF.out
      refine ret_part (b := Q) (b' := (w.heap.size + 1)) (cs := paV (joinB a1 (adT x qs).1)) (zs := [.bool false, .int .u64 0, .int .u64 0, .int .u64 0, .int .u64 0, .int .u64 0, .int .u64 0, .int .u64 0, .int .u64 0, .bool false, .int .u64 0, .int .u64 0, .int .u64 0, .int .u64 0, .int .u64 0, .int .u64 0, .int .u64 0, .int .u64 0, .bool false, .int .u64 0, .int .u64 0, .int .u64 0, .int .u64 0, .int .u64 0, .int .u64 0, .int .u64 0, .int .u64 0, .bool false, .int .u64 0, .int .u64 0, .int .u64 0, .int .u64 0, .int .u64 0, .int .u64 0, .int .u64 0, .int .u64 0]) rfl (by assumption) rfl rfl (by decide) rfl hS7.all hS7.res rfl rfl (paV_one _) rfl rfl ⟨?_, ?_, ?_⟩
      ·rw [HRR.out, hfin]
      ·rw [HRR.out, hfin]
       exact hS7.web.far hS7.res rfl 0 _
      ·exact hS7.fr.far hB (by omega) 0 _
     ·have ez : (((adT x qs).2.length : Int) == (qs.length : Int)) = false := by rw [beq_eq_false_iff_ne]; omega
      have hnx : rpB (adT x) (decide (hi < 0)) lo.toNat (N - (c + 1)) (c + 1) (joinB a1 (adT x qs).1) (linkB a1 (adT x qs).1 (adT x qs).2) = RR := by
       rw [← HR.out, HU.out, if_neg hz, show N - (c + 1) = N - c - 1 by omega, if_neg HO.out, HD.out]
       rfl
      have hin2 : InB (joinB a1 (adT x qs).1) (linkB a1 (adT x qs).1 (adT x qs).2).length := by rw [len_link]; exact in_join hN2 hN1
      have HF := hideT (And.intro hS7 (And.intro hnx hin2))
      clear hS7 hnx hin2
      go_wp2
      exact ⟨⟨c + 1, _, _, by omega, by go_num, HF.out.1, HF.out.2.2, HF.out.2.1⟩, by simp [intOf]; omega⟩
   ·obtain rfl : c = N := by omega
    have i1 : ¬ (c : Int) < hi := by rw [HNI.out]; omega
    have hfin : RR = (a1, qs) := by rw [← hR, Nat.sub_self]; rfl
    have HF := hideT (And.intro hS hfin)
    clear hS hfin hR
    go_upto_region 17 with fail
    obtain ⟨hS7, hfin⟩ := HF.out
    refine ret_part (b := Q) (b' := (w.heap.size + 1)) (cs := paV a1) (zs := [.bool false, .int .u64 0, .int .u64 0, .int .u64 0, .int .u64 0, .int .u64 0, .int .u64 0, .int .u64 0, .int .u64 0, .bool false, .int .u64 0, .int .u64 0, .int .u64 0, .int .u64 0, .int .u64 0, .int .u64 0, .int .u64 0, .int .u64 0, .bool false, .int .u64 0, .int .u64 0, .int .u64 0, .int .u64 0, .int .u64 0, .int .u64 0, .int .u64 0, .int .u64 0, .bool false, .int .u64 0, .int .u64 0, .int .u64 0, .int .u64 0, .int .u64 0, .int .u64 0, .int .u64 0, .int .u64 0]) rfl (by assumption) rfl rfl (by decide) rfl hS7.all hS7.res rfl rfl (paV_one _) rfl rfl ⟨?_, ?_, ?_⟩
    ·rw [HRR.out, hfin]
    ·rw [HRR.out, hfin]
     exact hS7.web.far hS7.res rfl 0 _
    ·exact hS7.fr.far hB (by omega) 0 _
end Go.Proofs.Ytiedliahmjiadaa
namespace Go.Proofs.Ytiedliahmjiadaa
def NxB (ps : List PosB) (n : Nat) : Prop := ∀ p ∈ ps, ∀ q, (p.nx q = true → q < n) ∧ (p.pr q = true → q < n)
theorem NxB.mono {ps : List PosB} {n m : Nat} (h : NxB ps n) (hm : n ≤ m) : NxB ps m := fun p hp q => ⟨fun h1 => Nat.lt_of_lt_of_le ((h p hp q).1 h1) hm, fun h1 => Nat.lt_of_lt_of_le ((h p hp q).2 h1) hm⟩
theorem nx_link {a b : PaB} {ps : List PosB} {n : Nat} (h : NxB ps n) (ha : InB a n) (hb : InB b n) : NxB (linkB a b ps) n := fun p hp q => by
 obtain ⟨i, hi⟩ := List.getElem?_of_mem hp
 rw [get_link] at hi
 cases hx : ps[i]? with
 | none => rw [hx] at hi; cases hi
 | some x =>
  rw [hx] at hi
  have hm := h x (List.mem_of_getElem? hx) q
  cases hi
  refine ⟨fun h1 => ?_, fun h1 => ?_⟩
  ·dsimp only at h1
   split at h1
   ·simp only [orB, Bool.or_eq_true] at h1
    exact h1.elim hm.1 (hb 0 q).1
   ·exact hm.1 h1
  ·dsimp only at h1
   split at h1
   ·simp only [orB, Bool.or_eq_true] at h1
    exact h1.elim hm.2 (ha 0 q).2
   ·exact hm.2 h1
theorem nx_rp {f : List PosB → PaB × List PosB} (hf : ∀ ps, LyB ps (f ps)) (hg : ∀ ps, NxB ps ps.length → NxB (f ps).2 (f ps).2.length) (lp : Bool) (lo : Nat) : ∀ (k c : Nat) (a : PaB) (ps : List PosB), InB a ps.length → NxB ps ps.length → NxB (rpB f lp lo k c a ps).2 (rpB f lp lo k c a ps).2.length
 | 0, c, a, ps, _, hn => hn
 | k + 1, c, a, ps, h, hn => by
  have h1 := hf ps
  have h2 := hg ps hn
  have hl : (if lp then linkB (f ps).1 (f ps).1 (f ps).2 else (f ps).2).length = (f ps).2.length := by cases lp <;> simp [len_link]
  have hn2 : NxB (if lp then linkB (f ps).1 (f ps).1 (f ps).2 else (f ps).2) (f ps).2.length := by
   split
   ·exact nx_link h2 h1.1 h1.1
   ·exact h2
  have hp : InB (if lo ≤ c then optB (f ps).1 else (f ps).1) (f ps).2.length := by
   split
   ·exact in_opt h1.1
   ·exact h1.1
  have hj := in_join (h.mono h1.2) hp
  have hlj : (linkB a (if lo ≤ c then optB (f ps).1 else (f ps).1) (if lp then linkB (f ps).1 (f ps).1 (f ps).2 else (f ps).2)).length = (f ps).2.length := by rw [len_link, hl]
  have hnl := nx_link hn2 (h.mono h1.2) hp
  unfold rpB
  dsimp only
  split
  ·rw [hlj]
   exact hnl
  ·exact nx_rp hf hg lp lo k (c + 1) _ _ (by rw [hlj]; exact hj) (by rw [hlj]; exact hnl)
mutual
theorem nx_adT : ∀ (t : Tr) (ps : List PosB), NxB ps ps.length → NxB (adT t ps).2 (adT t ps).2.length
 | .mk k q lo hi g kids, ps, h => by
  unfold adT
  split
  ·intro p hp y
   rw [List.mem_append, List.mem_singleton] at hp
   rcases hp with hp | rfl
   ·exact (h.mono (by simp)) p hp y
   ·exact ⟨fun h1 => by simp [noB] at h1, fun h1 => by simp [noB] at h1⟩
  split
  ·exact h
  split
  ·exact h
  split
  ·exact nx_rp (fun ps => ly_adK kids ps) (fun ps => nx_adK kids ps) _ _ _ _ _ _ (in_em _) h
  ·exact nx_adL kids _ _ (in_em _) h
theorem nx_adK : ∀ (ts : List Tr) (ps : List PosB), NxB ps ps.length → NxB (adK ts ps).2 (adK ts ps).2.length
 | [], ps, h => by unfold adK; exact h
 | t :: ts, ps, h => by unfold adK; exact nx_adT t ps h
theorem nx_adL : ∀ (ts : List Tr) (a : PaB) (ps : List PosB), InB a ps.length → NxB ps ps.length → NxB (adL ts a ps).2 (adL ts a ps).2.length
 | [], a, ps, _, h => by unfold adL; exact h
 | t :: ts, a, ps, h, hn => by
  unfold adL
  have h1 := ly_adT t ps
  have h2 := nx_adT t ps hn
  exact nx_adL ts (joinB a (adT t ps).1) (linkB a (adT t ps).1 (adT t ps).2) (by rw [len_link]; exact in_join (h.mono h1.2) h1.1) (by rw [len_link]; exact nx_link h2 (h.mono h1.2) h1.1)
end
theorem nx_laid (t : Tr) : NxB (adT t []).2 (adT t []).2.length := nx_adT t [] (fun p hp => by simp at hp)
end Go.Proofs.Ytiedliahmjiadaa
