/- bre: the parser: openGroup. -/
import Derived.Test.YtolpakpdkheanaaKPd
import Derived.Deep.RegionLaw
set_option maxRecDepth 100000
set_option maxHeartbeats 2000000
namespace Go.Proofs.Ytolpakpdkheanaa.br
open Go.RowKit
def xhq (B pb go m k : Nat) (ys : List Value) (cp : Array Value) (w w' : World) : Prop :=
 ∃ g gc, w'.ownsRow B 63 4 (.slice (some ⟨g, 0, none⟩) (m + 1 + 1) gc) (m + 1 + 1) ys ∧ (g = go ∨ w.heap.size ≤ g) ∧
 w'.heap[pb]? = some (.cells ((cp.setIfInBounds 1 (.int .i64 ((k : Int) + 1))).setIfInBounds 0 (.slice (some ⟨g, 0, none⟩) (m + 1 + 1) gc)) 67 (0, 0)) ∧
 (∀ k, k < w.heap.size → k ≠ go → k ≠ pb → w'.heap[k]? = w.heap[k]?) ∧ w.heap.size ≤ w'.heap.size ∧ w'.os = w.os ∧ w'.tape = w.tape ∧ w'.output = w.output
theorem xdc {W : World} {b : Nat} {cs : Array Value} {e : TypeId} {fr : Nat × Nat} (hb : W.heap[b]? = some (.cells cs e fr)) (k j : Nat) (u : Value) (h : k ≠ j) : (W.setCell ⟨b, k, none⟩ u).cell? ⟨b, j, none⟩ = W.cell? ⟨b, j, none⟩ := by
 simp only [World.cell?, xai _ _ k u hb, hb]
 simp [h]
theorem xhr {W : World} {b : Nat} {cs : Array Value} {e : TypeId} {fr : Nat × Nat} (hb : W.heap[b]? = some (.cells cs e fr)) (k : Nat) (u : Value) (h : k < cs.size) : (W.setCell ⟨b, k, none⟩ u).cell? ⟨b, k, none⟩ = some u := by
 simp only [World.cell?, xai _ _ k u hb]
 simp [h]
theorem xnb {W : World} {b : Nat} {cs : Array Value} {e : TypeId} (hb : W.heap[b]? = some (.cells cs e (0, 0))) (k j : Nat) (u : Value) : (W.setCell ⟨b, k, none⟩ u).frozen? ⟨b, j, none⟩ = false := by
 simp [World.frozen?, xai _ _ k u hb]
theorem cell_lt {W : World} {b : Nat} {cs : Array Value} {e : TypeId} {fr : Nat × Nat} (hb : W.heap[b]? = some (.cells cs e fr)) {k : Nat} {u : Value} (h : W.cell? ⟨b, k, none⟩ = some u) : k < cs.size := by
 simp only [World.cell?, hb] at h
 exact (Array.getElem?_eq_some_iff.1 h).1
theorem open_fin {B pb go m g gc k : Nat} {ys : List Value} {cp : Array Value} {w w2 : World} {ob : Obj} (hpb : w.heap[pb]? = some (.cells cp 67 (0, 0)))
  (own : w2.ownsRow B 63 4 (.slice (some ⟨g, 0, none⟩) (m + 1 + 1) gc) (m + 1 + 1) ys) (hgr : ((w.setCell ⟨pb, 1, none⟩ (.int .i64 ((k : Int) + 1))).alloc ob).drew.grownBy w2 (some go)) (hat : some go = some g ∨ g = w.heap.size + 1) (hpg : pb ≠ go) :
  xhq B pb go m k ys cp w (w2.setCell ⟨pb, 0, none⟩ (.slice (some ⟨g, 0, none⟩) (m + 1 + 1) gc)) := by
 have hplt := (Array.getElem?_eq_some_iff.1 hpb).1
 have s1 : (w.setCell ⟨pb, 1, none⟩ (.int .i64 ((k : Int) + 1))).heap.size = w.heap.size := put_size _ _ _ _
 have s2 : ((w.setCell ⟨pb, 1, none⟩ (.int .i64 ((k : Int) + 1))).alloc ob).drew.heap.size = w.heap.size + 1 := by
  show ((w.setCell ⟨pb, 1, none⟩ (.int .i64 ((k : Int) + 1))).alloc ob).heap.size = _
  rw [World.size_alloc, s1]
 have hpbg : pb ≠ g := fun e => by
  rcases hat with h | h
  ·cases h; exact hpg e
  ·omega
 have h2 : ∀ j, j < w.heap.size → j ≠ go → w2.heap[j]? = (w.setCell ⟨pb, 1, none⟩ (.int .i64 ((k : Int) + 1))).heap[j]? := fun j hj hne =>
  (hgr.block j (by omega) (fun e => hne (by cases e; rfl))).trans (Below.heap_alloc _ ob j (by omega))
 refine ⟨g, gc, xbl own (xdb hpbg) _ _, ?_, ?_, ?_, ?_, ?_⟩
 ·rcases hat with h | h
  ·cases h; exact .inl rfl
  ·exact .inr (by omega)
 ·exact xai _ _ _ _ ((h2 pb hplt hpg).trans (xai _ _ _ _ hpb))
 ·intro j hj j1 j2
  rw [put_far _ _ _ _ j2, h2 j hj j1, put_far _ _ _ _ j2]
 ·have := hgr.size
  rw [put_size]; omega
 ·simp only [xi3, xee, xcy]
  exact ⟨hgr.os, hgr.tape, hgr.output⟩
theorem xpb (cp : Array Value) (B pb go m cap k i : Nat) (hm : m ≤ 1000) (hk : k < 9) (xs : List Value) (sz : Int)
  (w : World) (hB : B ≤ w.heap.size) (hpb : w.heap[pb]? = some (.cells cp 67 (0, 0))) (c0 : w.cell? ⟨pb, 0, none⟩ = some (.slice (some ⟨go, 0, none⟩) (m + 1) cap))
  (c1 : w.cell? ⟨pb, 1, none⟩ = some (.int .i64 k)) (f1 : w.frozen? ⟨pb, 1, none⟩ = false) (c12 : w.cell? ⟨pb, 12, none⟩ = some (.int .i64 sz))
  (own : w.ownsRow B 63 4 (.slice (some ⟨go, 0, none⟩) (m + 1) cap) (m + 1) xs) (hpg : pb ≠ go) :
  Calls Try.prog 36 #[.pointer (some ⟨pb, 0, none⟩), .int .i64 i] w fun e w' => e = .returned (.int .i64 0) ∧ xhq B pb go m k (xs ++ [.int .i64 i, .int .i64 ((k : Int) + 1), .int .i64 sz, .slice none 0 0]) cp w w' := by
 obtain ⟨i0, hi, hz0, hz1, hz2⟩ := info_parts info49
 have hlp := World.block_lt_of_cell? w _ c0
 have hlg := (owns_blk own rfl).2.1
 have kk : IntKind.i64.wrap ((k : Int) + 1) = (k : Int) + 1 := by rw [IntKind.wrap_i64]; omega
 have k9 : ((k : Int) == 9) = false := by rw [beq_eq_false_iff_ne]; omega
 have ownU : (w.setCell ⟨pb, 1, none⟩ (.int .i64 ((k : Int) + 1))).ownsRow B 63 4 (.slice (some ⟨go, 0, none⟩) (m + 1) cap) (m + 1) xs := xbl own (xdb hpg) _ _
 have hUs : (w.setCell ⟨pb, 1, none⟩ (.int .i64 ((k : Int) + 1))).heap.size = w.heap.size := put_size _ _ _ _
 have HO := hideT (And.intro ownU (And.intro hUs (And.intro hB (And.intro hlp (And.intro hlg hpb)))))
 clear own ownU hUs hB hlp hlg hpb
 go_enter Try.func36, Try.ntmps36
 go_wp2_with fail
 obtain ⟨U, hU⟩ : ∃ U, U = w.setCell ⟨pb, 1, none⟩ (.int .i64 ((k : Int) + 1)) := ⟨_, rfl⟩
 have d0 : U.cell? ⟨pb, 0, none⟩ = some (.slice (some ⟨go, 0, none⟩) (m + 1) cap) := by rw [hU]; exact (xdc HO.out.2.2.2.2.2 1 0 _ (by omega)).trans c0
 have g0 : U.frozen? ⟨pb, 0, none⟩ = false := by rw [hU]; exact xnb HO.out.2.2.2.2.2 1 0 _
 have d1 : U.cell? ⟨pb, 1, none⟩ = some (.int .i64 ((k : Int) + 1)) := by rw [hU]; exact xhr HO.out.2.2.2.2.2 1 _ (cell_lt HO.out.2.2.2.2.2 c1)
 have d12 : U.cell? ⟨pb, 12, none⟩ = some (.int .i64 sz) := by rw [hU]; exact (xdc HO.out.2.2.2.2.2 1 12 _ (by omega)).trans c12
 rw [← hU]
 have HU := hideT hU
 have hlpU : pb < U.heap.size := by rw [hU, HO.out.2.1]; exact HO.out.2.2.2.1
 have a0 : ∀ ob, (U.alloc ob).cell? ⟨pb, 0, none⟩ = some (.slice (some ⟨go, 0, none⟩) (m + 1) cap) := fun ob => (World.cell?_of_block (a := ⟨pb, 0, none⟩) (Below.heap_alloc U ob pb hlpU)).trans d0
 have fin : ∀ (g gc : Nat) (w2 : World), (U.alloc (.cells #[.int .i64 i, .int .i64 ((k : Int) + 1), .int .i64 sz, .slice none 0 0] 63)).drew.grownBy w2 (some go) → (some go = some g ∨ g = U.heap.size + 1) → w2.cell? ⟨pb, 0, none⟩ = some (.slice (some ⟨go, 0, none⟩) (m + 1) cap) ∧ w2.frozen? ⟨pb, 0, none⟩ = false := by
  intro g gc w2 hg ha
  have hh : w2.heap[pb]? = U.heap[pb]? := (hg.block pb (by show pb < (U.alloc _).heap.size; rw [World.size_alloc]; omega) (fun e => hpg (by cases e; rfl))).trans (Below.heap_alloc U _ pb hlpU)
  exact ⟨(World.cell?_of_block (a := ⟨pb, 0, none⟩) hh).trans d0, (World.frozen?_of_block (a := ⟨pb, 0, none⟩) hh).trans g0⟩
 have HF := hideT fin
 have HX := hideT hlpU
 clear hU fin c0 c1 f1 c12 hlpU
 go_wp2_with fail
 go_region_law (refine step_append_lies _ (by rfl) _ _ _ (by rfl) B 63 i0 (.agg #[.int .i64 0, .int .i64 0, .int .i64 0, .slice none 0 0]) 4 48 und50 hi hz0 hz1 hz2 rfl (by omega) _ _ _ (by rfl) ((World.ownsRow.alloc (HU.out ▸ HO.out.1) _).drew) ⟨U.heap.size, 0, none⟩ 1 1 [.int .i64 i, .int .i64 ((k : Int) + 1), .int .i64 sz, .slice none 0 0] (by rfl) (by rfl) (World.news_of_block (cs := #[.int .i64 i, .int .i64 ((k : Int) + 1), .int .i64 sz, .slice none 0 0]) (t := 63) (fr := (0, 0)) (heap_alloc_new U _)) (by simp [Value.oneCell']) (by omega) (by unfold maxLen; omega) (by omega) (by have := HO.out.2.1; have := HO.out.2.2.1; rw [← HU.out] at *; simp; omega) (U.heap.size + 1) (by simp) ?_; intro g gc w2 hown1 hgrow hat hlt3; have hgr2 : (U.alloc (.cells #[.int .i64 i, .int .i64 ((k : Int) + 1), .int .i64 sz, .slice none 0 0] 63)).drew.grownBy w2 (some go) := hgrow; obtain ⟨e0, e1⟩ := HF.out g gc w2 hgr2 hat; have HQ := hideT (And.intro hown1 (And.intro hgr2 hat)); clear hown1 hgrow hgr2 hat hlt3)
 all_goals
  have HP := hideT (open_fin HO.out.2.2.2.2.2 HQ.out.1 (HU.out ▸ HQ.out.2.1) (by have h1 := HQ.out.2.2; rw [HU.out, HO.out.2.1] at h1; exact h1) hpg)
  clear HQ HF HX HO HU d0 d1 d12 g0 a0
  go_wp2
  go_ret
  refine ⟨rfl, ?_⟩
  with_reducible exact HP.out
def Ps.opened (P : Ps) (i : Nat) : Ps := { P with outer := P.outer ++ [P.top], top := ⟨i, P.groups + 1, P.size, []⟩, groups := P.groups + 1 }
theorem xpc {w w' : World} {B pb : Nat} {P : Ps} {go cap : Nat} {vs : List Value} {v : Value} {fz : Nat → Prop} (h : PsAt w B pb P (.slice (some ⟨go, 0, none⟩) (P.outer.length + 1) cap) vs v fz) (hB : B ≤ w.heap.size) (i : Nat)
  {co : Array Value} (hgo : w.heap[go]? = some (.cells co 63 (0, 0)))
  (hp : xhq B pb go P.outer.length P.groups (lvsV P.outer vs ++ lvV P.top v ++ [.int .i64 i, .int .i64 ((P.groups : Int) + 1), .int .i64 P.size, .slice none 0 0]) (P.cells (.slice (some ⟨go, 0, none⟩) (P.outer.length + 1) cap)).toArray w w') :
  ∃ o', PsAt w' B pb (P.opened i) o' (vs ++ [v]) (.slice none 0 0) fz ∧ Fr B w w' := by
 obtain ⟨g, gc, own', hat, hpb', hot, hsz, ho⟩ := hp
 have hBgo : B ≤ go := (owns_blk h.own rfl).1
 have live27 : ∀ x, x ∈ xbk (vs ++ [v]) → w'.heap[x]? = w.heap[x]? := fun x hx => by
  obtain ⟨_, h2, cur, hc⟩ := h.liveAt hx
  exact hot x h2 (fun e => by rw [e, hgo] at hc; cases hc) (fun e => by rw [e, h.blk] at hc; cases hc)
 have hfz : ∀ x, fz x → w'.heap[x]? = w.heap[x]? := fun x hx => by
  obtain ⟨_, h2, cur, fr, hc⟩ := h.fzlt x hx
  exact hot x h2 (fun e => by rw [e, hgo] at hc; cases hc) (fun e => by rw [e, h.blk] at hc; cases hc)
 have hlive : xbk (vs ++ [v] ++ [.slice none 0 0]) = xbk (vs ++ [v]) := by rw [xbw]; simp [Value.ownBlock]
 refine ⟨.slice (some ⟨g, 0, none⟩) (P.outer.length + 1 + 1) gc, ⟨h.base, ?_, ?_, ?_, ?_, ?_, ?_, ?_, ?_⟩, ?_⟩
 ·rw [hpb']; rfl
 ·show w'.ownsRow B 63 4 _ ((P.outer ++ [P.top]).length + 1) (lvsV (P.outer ++ [P.top]) (vs ++ [v]) ++ _)
  rw [xhp _ _ _ _ h.len, List.length_append]
  exact own'
 ·show (vs ++ [v]).length = (P.outer ++ [P.top]).length
  simp [h.len]
 ·intro j l u hl hu
  have hl' : (P.outer ++ [P.top])[j]? = some l := hl
  have hmem := List.mem_of_getElem? hu
  have hrow : RowAt w B fz u l.parts := by
   rcases Nat.lt_or_ge j P.outer.length with hj | hj
   ·rw [List.getElem?_append_left hj] at hl'
    rw [List.getElem?_append_left (by rw [h.len]; exact hj)] at hu
    exact h.rows j l u hl' hu
   ·rw [List.getElem?_append_right hj] at hl'
    rw [List.getElem?_append_right (by rw [h.len]; exact hj)] at hu
    obtain rfl : j = P.outer.length := by
     have := (List.getElem?_eq_some_iff.1 hl').1
     simp at this; omega
    simp [h.len] at hl' hu
    subst hl' hu
    exact h.row
  refine hrow.keep (fun x hx => live27 x ?_) hfz (fun _ h => h)
  simp only [xbk, List.mem_filterMap]
  exact ⟨u, hmem, hx⟩
 ·exact ⟨[], rfl, World.ownsRow_nil _ _ _ _, fun j t u ht => by cases ht⟩
 ·rw [hlive]; exact h.nodup
 ·rw [hlive]; exact h.live
 ·intro x hx
  obtain ⟨f1, f2, cur, fr, f3⟩ := h.fzlt x hx
  exact ⟨f1, Nat.lt_of_lt_of_le f2 hsz, cur, fr, (hfz x hx).trans f3⟩
 ·refine Fr.of (fun k => k = go ∨ k = pb) ?_ hB ?_ hsz ho
  ·rintro k (rfl | rfl)
   ·exact ⟨hBgo, _, hgo, rfl⟩
   ·exact ⟨h.base, _, h.blk, rfl⟩
  ·intro k hk hn
   exact hot k hk (fun e => hn (.inl e)) (fun e => hn (.inr e))
def IsPs (W : World) (B pb : Nat) (P : Ps) : Prop := ∃ o vs v fz, PsAt W B pb P o vs v fz
theorem xpd (pb i : Nat) (w : World) (c1 : w.cell? ⟨pb, 1, none⟩ = some (.int .i64 9)) :
  Calls Try.prog 36 #[.pointer (some ⟨pb, 0, none⟩), .int .i64 i] w fun e w' => e = .returned (.int .i64 4) ∧ w' = w := by
 go_enter Try.func36, Try.ntmps36
 go_wp2
 go_ret
 exact ⟨rfl, rfl⟩
theorem open_any {B pb : Nat} {P : Ps} (w : World) (h : IsPs w B pb P) (hB : B ≤ w.heap.size) (hm : P.outer.length ≤ 1000) (hg : P.groups ≤ 9) (i : Nat) :
  Calls Try.prog 36 #[.pointer (some ⟨pb, 0, none⟩), .int .i64 i] w fun e w' => e = .returned (.int .i64 (if P.groups = 9 then 4 else 0)) ∧ IsPs w' B pb (if P.groups = 9 then P else P.opened i) ∧ Fr B w w' := by
 obtain ⟨o, vs, v, fz, h⟩ := h
 by_cases h9 : P.groups = 9
 ·rw [if_pos h9, if_pos h9]
  have c1 := (h.cell 1 _ rfl).1
  rw [h9] at c1
  refine (xpd pb i w c1).mono ?_
  rintro e w' ⟨rfl, rfl⟩
  exact ⟨rfl, ⟨o, vs, v, fz, h⟩, Fr.refl _ _⟩
 ·rw [if_neg h9, if_neg h9]
  obtain ⟨go, cap, co, rfl, hgo, hbgo, hpg⟩ := h.levels
  refine (xpb _ B pb go P.outer.length cap P.groups i hm (by omega) _ P.size w hB h.blk (h.cell 0 _ rfl).1 (h.cell 1 _ rfl).1 (h.cell 1 _ rfl).2 (h.cell 12 _ rfl).1 h.own hpg).mono ?_
  rintro e w' ⟨rfl, hp⟩
  obtain ⟨o', h', hf⟩ := xpc h hB i hgo hp
  exact ⟨rfl, ⟨o', _, _, _, h'⟩, hf⟩
def xav (lo hi : Int) : Int := if hi < 0 then max lo 1 else hi
def RepPost (B pb pg j pc : Nat) (xs olds : List Value) (rl rh sz la : Int) (cp : Array Value) (w w' : World) : Prop :=
 w'.heap[w.heap.size]? = some (.cells olds.toArray 41) ∧
 w'.ownsRow B 41 9 (.slice (some ⟨pg, 0, none⟩) (j + 1) pc) (j + 1) (xs ++ [.int .i64 5, .int .u64 0, .int .u64 0, .int .u64 0, .int .u64 0, .int .i64 rl, .int .i64 rh, .int .i64 0, .slice (some ⟨w.heap.size, 0, none⟩) 1 1]) ∧
 w'.heap[pb]? = some (.cells ((cp.setIfInBounds 12 (.int .i64 sz)).setIfInBounds 13 (.int .i64 la)) 67 (0, 0)) ∧
 (∀ k, k < w.heap.size → k ≠ pg → k ≠ pb → w'.heap[k]? = w.heap[k]?) ∧ w.heap.size ≤ w'.heap.size ∧ w'.os = w.os ∧ w'.tape = w.tape ∧ w'.output = w.output
theorem RepPost.drew {B pb pg j pc : Nat} {xs olds : List Value} {rl rh sz la : Int} {cp : Array Value} {w w' : World} (h : RepPost B pb pg j pc xs olds rl rh sz la cp w w') : RepPost B pb pg j pc xs olds rl rh sz la cp w w'.drew := h
theorem rep_fin {B pb pg j pc n : Nat} {xs olds zs : List Value} {cp : Array Value} {w : World} (rl rh sz la : Int) (hl : xs.length = j * 9) (hz : zs.length = 9) (hpb : w.heap[pb]? = some (.cells cp 67 (0, 0))) (own : w.ownsRow B 41 9 (.slice (some ⟨pg, 0, none⟩) (j + 1) pc) (j + 1) (xs ++ zs)) (hpp : pb ≠ pg) :
  RepPost B pb pg j pc xs olds rl rh sz la cp w (((set9 ((w.drewN n).alloc (.cells olds.toArray 41)) pg (j * 9) (.int .i64 5) (.int .u64 0) (.int .u64 0) (.int .u64 0) (.int .u64 0) (.int .i64 rl) (.int .i64 rh) (.int .i64 0) (.slice (some ⟨w.heap.size, 0, none⟩) 1 1)).setCell ⟨pb, 12, none⟩ (.int .i64 sz)).setCell ⟨pb, 13, none⟩ (.int .i64 la)) := by
 have hlg := (owns_blk (g := pg) own rfl).2.1
 have hlp := (Array.getElem?_eq_some_iff.1 hpb).1
 have hA : ∀ b, b < w.heap.size → ((w.drewN n).alloc (.cells olds.toArray 41)).heap[b]? = w.heap[b]? := fun b hb => Below.heap_alloc (w.drewN n) _ b hb
 have hN : ((w.drewN n).alloc (.cells olds.toArray 41)).heap[w.heap.size]? = some (.cells olds.toArray 41) := heap_alloc_new (w.drewN n) _
 have hS : ((w.drewN n).alloc (.cells olds.toArray 41)).heap.size = w.heap.size + 1 := World.size_alloc (w.drewN n) _
 have ownA := owns_keep (W' := (w.drewN n).alloc (.cells olds.toArray 41)) own (fun g hg => hA g (owns_blk own hg).2.1)
 refine ⟨?_, ?_, ?_, ?_, ?_, ?_⟩
 ·rw [put_far _ _ _ _ (Nat.ne_of_gt hlp), put_far _ _ _ _ (Nat.ne_of_gt hlp), xb8 _ _ _ _ _ _ _ _ _ _ _ _ (Nat.ne_of_gt hlg)]
  exact hN
 ·exact xbl (xbl (xga _ _ _ _ _ _ _ _ _ hl hz ownA) (xdb hpp) _ _) (xdb hpp) _ _
 ·exact xai _ _ _ _ (xai _ _ _ _ ((xb8 _ _ _ _ _ _ _ _ _ _ _ _ hpp).trans ((hA pb hlp).trans hpb)))
 ·intro k hk k1 k2
  rw [put_far _ _ _ _ k2, put_far _ _ _ _ k2, xb8 _ _ _ _ _ _ _ _ _ _ _ _ k1]
  exact hA k hk
 ·simp only [put_size, hS]; omega
 ·simp only [xi3, xee, xcy]
  exact ⟨rfl, rfl, rfl⟩
theorem xi4 {a b : Int} (ha : -1000 ≤ a ∧ a ≤ 1000) (hb : -1 ≤ b ∧ b ≤ 255) : -255000 ≤ a * b ∧ a * b ≤ 255000 := by
 by_cases h : b = -1
 ·subst h; omega
 ·have h0 : 0 ≤ b := by omega
  have h1 := Int.mul_le_mul_of_nonneg_right ha.2 h0
  have h2 := Int.mul_le_mul_of_nonneg_right ha.1 h0
  omega
theorem xkj (cp : Array Value) (B pb go m cap j pg pc : Nat) (hm : m ≤ 1000) (hj : j ≤ 1000) (xs : List Value) (hxl : xs.length = j * 9) (kd a0 a1 a2 a3 gp : Nat) (lo hi2 : Int) (ka : Option Addr) (kl kc : Nat) (sz la rl rh : Int) (hsz : -1000000 ≤ sz ∧ sz ≤ 1000000) (hla : -1000 ≤ la ∧ la ≤ 1000) (hrl : 0 ≤ rl ∧ rl ≤ 255) (hrh : -1 ≤ rh ∧ rh ≤ 255)
  (w : World) (hB : B ≤ w.heap.size) (hpb : w.heap[pb]? = some (.cells cp 67 (0, 0))) (c0 : w.cell? ⟨pb, 0, none⟩ = some (.slice (some ⟨go, 0, none⟩) (m + 1) cap))
  (c12 : w.cell? ⟨pb, 12, none⟩ = some (.int .i64 sz)) (f12 : w.frozen? ⟨pb, 12, none⟩ = false) (c13 : w.cell? ⟨pb, 13, none⟩ = some (.int .i64 la)) (f13 : w.frozen? ⟨pb, 13, none⟩ = false)
  (cL : w.cell? ⟨go, m * 4 + 3, none⟩ = some (.slice (some ⟨pg, 0, none⟩) (j + 1) pc))
  (own : w.ownsRow B 41 9 (.slice (some ⟨pg, 0, none⟩) (j + 1) pc) (j + 1) (xs ++ [.int .i64 kd, .int .u64 a0, .int .u64 a1, .int .u64 a2, .int .u64 a3, .int .i64 lo, .int .i64 hi2, .int .i64 gp, .slice ka kl kc])) (hpp : pb ≠ pg) :
  Calls Try.prog 39 #[.pointer (some ⟨pb, 0, none⟩), .int .i64 rl, .int .i64 rh] w fun e w' => (∃ v, e = .returned v) ∧ RepPost B pb pg j pc xs [.int .i64 kd, .int .u64 a0, .int .u64 a1, .int .u64 a2, .int .u64 a3, .int .i64 lo, .int .i64 hi2, .int .i64 gp, .slice ka kl kc] rl rh (sz + la * (xav rl rh - 1)) (la * xav rl rh) cp w w' := by
 have y : ∀ (k : Nat) (u : Value), [.int .i64 kd, .int .u64 a0, .int .u64 a1, .int .u64 a2, .int .u64 a3, .int .i64 lo, .int .i64 hi2, .int .i64 gp, .slice ka kl kc][k]? = some u → w.cell? ⟨pg, j * 9 + k, none⟩ = some u ∧ w.frozen? ⟨pg, j * 9 + k, none⟩ = false := fun k u hu => xbx own (j * 9 + k) u ((xa1 xs _ (j * 9) k hxl).trans hu)
 have hlg := (owns_blk (g := pg) own rfl).2.1
 have hlp := (Array.getElem?_eq_some_iff.1 hpb).1
 have hA : ∀ (n : Nat) (ob : Obj) (b : Nat), b < w.heap.size → ((w.drewN n).alloc ob).heap[b]? = w.heap[b]? := fun n ob b hb => Below.heap_alloc (w.drewN n) ob b hb
 obtain ⟨y0, z0⟩ := y 0 _ rfl
 rw [Nat.add_zero] at y0 z0
 have yA0 := fun (n : Nat) (ob : Obj) => (World.cell?_of_block (a := ⟨pg, j * 9, none⟩) (hA n ob pg hlg)).trans y0
 have zA0 := fun (n : Nat) (ob : Obj) => (World.frozen?_of_block (a := ⟨pg, j * 9, none⟩) (hA n ob pg hlg)).trans z0
 obtain ⟨y1, z1⟩ := y 1 _ rfl
 have yA1 := fun (n : Nat) (ob : Obj) => (World.cell?_of_block (a := ⟨pg, j * 9 + 1, none⟩) (hA n ob pg hlg)).trans y1
 have zA1 := fun (n : Nat) (ob : Obj) => (World.frozen?_of_block (a := ⟨pg, j * 9 + 1, none⟩) (hA n ob pg hlg)).trans z1
 obtain ⟨y2, z2⟩ := y 2 _ rfl
 have yA2 := fun (n : Nat) (ob : Obj) => (World.cell?_of_block (a := ⟨pg, j * 9 + 2, none⟩) (hA n ob pg hlg)).trans y2
 have zA2 := fun (n : Nat) (ob : Obj) => (World.frozen?_of_block (a := ⟨pg, j * 9 + 2, none⟩) (hA n ob pg hlg)).trans z2
 obtain ⟨y3, z3⟩ := y 3 _ rfl
 have yA3 := fun (n : Nat) (ob : Obj) => (World.cell?_of_block (a := ⟨pg, j * 9 + 3, none⟩) (hA n ob pg hlg)).trans y3
 have zA3 := fun (n : Nat) (ob : Obj) => (World.frozen?_of_block (a := ⟨pg, j * 9 + 3, none⟩) (hA n ob pg hlg)).trans z3
 obtain ⟨y4, z4⟩ := y 4 _ rfl
 have yA4 := fun (n : Nat) (ob : Obj) => (World.cell?_of_block (a := ⟨pg, j * 9 + 4, none⟩) (hA n ob pg hlg)).trans y4
 have zA4 := fun (n : Nat) (ob : Obj) => (World.frozen?_of_block (a := ⟨pg, j * 9 + 4, none⟩) (hA n ob pg hlg)).trans z4
 obtain ⟨y5, z5⟩ := y 5 _ rfl
 have yA5 := fun (n : Nat) (ob : Obj) => (World.cell?_of_block (a := ⟨pg, j * 9 + 5, none⟩) (hA n ob pg hlg)).trans y5
 have zA5 := fun (n : Nat) (ob : Obj) => (World.frozen?_of_block (a := ⟨pg, j * 9 + 5, none⟩) (hA n ob pg hlg)).trans z5
 obtain ⟨y6, z6⟩ := y 6 _ rfl
 have yA6 := fun (n : Nat) (ob : Obj) => (World.cell?_of_block (a := ⟨pg, j * 9 + 6, none⟩) (hA n ob pg hlg)).trans y6
 have zA6 := fun (n : Nat) (ob : Obj) => (World.frozen?_of_block (a := ⟨pg, j * 9 + 6, none⟩) (hA n ob pg hlg)).trans z6
 obtain ⟨y7, z7⟩ := y 7 _ rfl
 have yA7 := fun (n : Nat) (ob : Obj) => (World.cell?_of_block (a := ⟨pg, j * 9 + 7, none⟩) (hA n ob pg hlg)).trans y7
 have zA7 := fun (n : Nat) (ob : Obj) => (World.frozen?_of_block (a := ⟨pg, j * 9 + 7, none⟩) (hA n ob pg hlg)).trans z7
 obtain ⟨y8, z8⟩ := y 8 _ rfl
 have yA8 := fun (n : Nat) (ob : Obj) => (World.cell?_of_block (a := ⟨pg, j * 9 + 8, none⟩) (hA n ob pg hlg)).trans y8
 have zA8 := fun (n : Nat) (ob : Obj) => (World.frozen?_of_block (a := ⟨pg, j * 9 + 8, none⟩) (hA n ob pg hlg)).trans z8
 have cA12 := fun (n : Nat) (ob : Obj) => (World.cell?_of_block (a := ⟨pb, 12, none⟩) (hA n ob pb hlp)).trans c12
 have fA12 := fun (n : Nat) (ob : Obj) => (World.frozen?_of_block (a := ⟨pb, 12, none⟩) (hA n ob pb hlp)).trans f12
 have cA13 := fun (n : Nat) (ob : Obj) => (World.cell?_of_block (a := ⟨pb, 13, none⟩) (hA n ob pb hlp)).trans c13
 have fA13 := fun (n : Nat) (ob : Obj) => (World.frozen?_of_block (a := ⟨pb, 13, none⟩) (hA n ob pb hlp)).trans f13
 have HH := hideT (And.intro hlg (And.intro hlp (And.intro hpb (And.intro own hB))))
 clear y hA hlg hlp hpb own hB
 have k1 : IntKind.i64.wrap ((j : Int) + 1 - 1) = (j : Int) := by rw [IntKind.wrap_i64]; omega
 have k2 : (j : Int) < (j : Int) + 1 := by omega
 have k3 : (0 : Int) ≤ (j : Int) := by omega
 obtain ⟨T, hT, hT2, hT3⟩ : ∃ T, xav rl rh = T ∧ (0 ≤ T ∧ T ≤ 255) ∧ ((0 ≤ rh ∧ T = rh) ∨ (rh < 0 ∧ rl ≤ 1 ∧ T = 1) ∨ (rh < 0 ∧ 1 < rl ∧ T = rl)) := by
  refine ⟨_, rfl, ?_⟩
  unfold xav
  by_cases h : rh < 0
  ·rw [if_pos h]; omega
  ·rw [if_neg h]; omega
 rw [hT]
 have hm1 := xi4 (a := la) (b := T - 1) hla (by omega)
 have hm2 := xi4 (a := la) (b := T) hla (by omega)
 have k4 : IntKind.i64.wrap (T - 1) = T - 1 := by rw [IntKind.wrap_i64]; omega
 have k5 : IntKind.i64.wrap (la * (T - 1)) = la * (T - 1) := by rw [IntKind.wrap_i64]; omega
 have k6 : IntKind.i64.wrap (sz + la * (T - 1)) = sz + la * (T - 1) := by rw [IntKind.wrap_i64]; omega
 have k7 : IntKind.i64.wrap (la * T) = la * T := by rw [IntKind.wrap_i64]; omega
 have HP := fun n => hideT (rep_fin (n := n) (olds := [.int .i64 kd, .int .u64 a0, .int .u64 a1, .int .u64 a2, .int .u64 a3, .int .i64 lo, .int .i64 hi2, .int .i64 gp, .slice ka kl kc]) rl rh (sz + la * (T - 1)) (la * T) hxl rfl HH.out.2.2.1 HH.out.2.2.2.1 hpp)
 clear hT hT2 hm1 hm2
 rcases hT3 with ⟨t1, rfl⟩ | ⟨t1, t2, rfl⟩ | ⟨t1, t2, rfl⟩
 ·have t3 : (T < 0) = False := eq_false (by omega)
  clear t1
  go_enter Try.func39, Try.ntmps39
  go_wp2_with fail
  refine (xcf pb go m cap hm w c0).mono ?_
  rintro e w1 ⟨rfl, n1, rfl⟩
  go_wp2_with fail
  go_quiet (fail)
  go_wp2_with fail
  go_region
  all_goals
   have HR := HP (n1 + nq)
   clear HP
   go_wp2
   go_end0
   refine ⟨⟨_, rfl⟩, ?_⟩
   first
   | with_reducible exact HR.out.drew
   | with_reducible exact HR.out
 ·have e1 : sz + la * (1 - 1) = sz := by omega
  have e2 : la * 1 = la := by omega
  have q1 : IntKind.i64.wrap sz = sz := by rw [IntKind.wrap_i64]; omega
  have q2 : IntKind.i64.wrap la = la := by rw [IntKind.wrap_i64]; omega
  rw [e1, e2]
  rw [e1, e2] at HP
  clear k4 k5 k6 k7 e1 e2
  rcases (show rl = 0 ∨ rl = 1 by omega) with rfl | rfl
  ·skip
   go_enter Try.func39, Try.ntmps39
   go_wp2_with fail
   refine (xcf pb go m cap hm w c0).mono ?_
   rintro e w1 ⟨rfl, n1, rfl⟩
   go_wp2_with fail
   go_quiet (fail)
   go_wp2_with fail
   go_region
   all_goals
    have HR := HP (n1 + nq)
    clear HP
    go_wp2
    go_end0
    refine ⟨⟨_, rfl⟩, ?_⟩
    first
    | with_reducible exact HR.out.drew
    | with_reducible exact HR.out
  ·skip
   go_enter Try.func39, Try.ntmps39
   go_wp2_with fail
   refine (xcf pb go m cap hm w c0).mono ?_
   rintro e w1 ⟨rfl, n1, rfl⟩
   go_wp2_with fail
   go_quiet (fail)
   go_wp2_with fail
   go_region
   all_goals
    have HR := HP (n1 + nq)
    clear HP
    go_wp2
    go_end0
    refine ⟨⟨_, rfl⟩, ?_⟩
    first
    | with_reducible exact HR.out.drew
    | with_reducible exact HR.out
 ·have t4 : ¬ T ≤ (1 : Int) := by omega
  go_enter Try.func39, Try.ntmps39
  go_wp2_with fail
  refine (xcf pb go m cap hm w c0).mono ?_
  rintro e w1 ⟨rfl, n1, rfl⟩
  go_wp2_with fail
  go_quiet (fail)
  go_wp2_with fail
  go_region
  all_goals
   have HR := HP (n1 + nq)
   clear HP
   go_wp2
   go_end0
   refine ⟨⟨_, rfl⟩, ?_⟩
   first
   | with_reducible exact HR.out.drew
   | with_reducible exact HR.out
def repT (rl rh : Int) (t : Tr) : Tr := .mk 5 xad rl rh 0 [t]
def Ps.rep (P : Ps) (ts : List Tr) (t : Tr) (rl rh : Int) : Ps :=
 { P with top := { P.top with parts := ts ++ [repT rl rh t] }, size := P.size + P.last * (xav rl rh - 1), last := P.last * xav rl rh }
theorem xpe (rl rh : Int) (t : Tr) (u : Value) : xex (repT rl rh t) u = [.int .i64 5, .int .u64 0, .int .u64 0, .int .u64 0, .int .u64 0, .int .i64 rl, .int .i64 rh, .int .i64 0, u] := by
 simp only [xex, repT, Tr.kind, Tr.q, Tr.lo, Tr.hi, Tr.grp]
 rfl
theorem xmh {W : World} {ok : Nat → Prop} {b : Nat} {t : Tr} {u : Value} (hb : W.heap[b]? = some (.cells (xex t u).toArray 41)) (hok : ok b) (hk : Kids W ok u t.kids) : Kids W ok (.slice (some ⟨b, 0, none⟩) 1 1) [t] := by
 refine .mk _ _ [u] rfl ⟨rfl, .inr ⟨b, 1, _, rfl, Nat.zero_le _, hb, Nat.le_refl _, by unfold maxLen; omega, rfl, rfl⟩⟩ (fun g hg => by cases hg; exact hok) ?_
 intro i t' u' ht hu
 cases i with
 | zero => simp at ht hu; subst ht hu; exact hk
 | succ i => simp at ht
theorem getElem?_snoc {α : Type} {xs : List α} {x y : α} {i : Nat} (h : (xs ++ [x])[i]? = some y) : (i < xs.length ∧ xs[i]? = some y) ∨ (i = xs.length ∧ y = x) := by
 rcases Nat.lt_or_ge i xs.length with hi | hi
 ·rw [List.getElem?_append_left hi] at h
  exact .inl ⟨hi, h⟩
 ·rw [List.getElem?_append_right hi] at h
  have hi2 : i = xs.length := by
   have := (List.getElem?_eq_some_iff.1 h).1
   simp at this; omega
  subst hi2
  simp at h
  exact .inr ⟨rfl, h.symm⟩
theorem rep_step {w w' : World} {B pb : Nat} {P : Ps} {o : Value} {vs : List Value} {pg pc : Nat} {fz : Nat → Prop} {ts : List Tr} {t : Tr}
  (h : PsAt w B pb P o vs (.slice (some ⟨pg, 0, none⟩) (ts.length + 1) pc) fz) (hB : B ≤ w.heap.size) (rl rh : Int)
  {us : List Value} {ut : Value} (hul : us.length = ts.length) (hkids : ∀ (i : Nat) (t' : Tr) (u : Value), (ts ++ [t])[i]? = some t' → (us ++ [ut])[i]? = some u → Kids w fz u t'.kids)
  (hp : RepPost B pb pg ts.length pc (rowV ts us) (xex t ut) rl rh (P.size + P.last * (xav rl rh - 1)) (P.last * xav rl rh) (P.cells o).toArray w w') :
  ∃ v' fz', PsAt w' B pb (P.rep ts t rl rh) o vs v' fz' ∧ Fr B w w' := by
 obtain ⟨hnb, own', hpb', hot, hsz, ho⟩ := hp
 obtain ⟨go, cap, co, rfl, hgo, hbgo, hpg⟩ := h.levels
 have hpgm : pg ∈ xbk (vs ++ [.slice (some ⟨pg, 0, none⟩) (ts.length + 1) pc]) := xaj rfl
 obtain ⟨b1, b2, cur, hc⟩ := h.liveAt hpgm
 have hgne : go ≠ pg ∧ go ≠ pb := ⟨(fun e => by rw [← e, hgo] at hc; cases hc), hpg.symm⟩
 have hfz : ∀ x, fz x → w'.heap[x]? = w.heap[x]? := fun x hx => by
  obtain ⟨_, h2, cur, fr, hc⟩ := h.fzlt x hx
  exact hot x h2 (fun e => h.live pg hpgm (e ▸ hx)) (fun e => by rw [e, h.blk] at hc; cases hc)
 refine ⟨.slice (some ⟨pg, 0, none⟩) (ts.length + 1) pc, fun x => fz x ∨ x = w.heap.size, ⟨h.base, ?_, ?_, h.len, ?_, ?_, h.nodup, ?_, ?_⟩, ?_⟩
 ·rw [hpb']; rfl
 ·exact owns_keep h.own (fun g hg => by cases hg; exact hot go (Array.getElem?_eq_some_iff.1 hgo).1 hgne.1 hgne.2)
 ·intro i l u hl hu
  have hmem := List.mem_of_getElem? hu
  refine (h.rows i l u hl hu).keep (fun x hx => ?_) hfz (fun _ h => .inl h)
  have hx2 := xbh (v := .slice (some ⟨pg, 0, none⟩) (ts.length + 1) pc) hmem hx
  obtain ⟨_, h2, cur, hc⟩ := h.liveAt hx2
  exact hot x h2 (fun e => h.apart hmem hx (by rw [e]; rfl)) (fun e => by rw [e, h.blk] at hc; cases hc)
 ·refine ⟨us ++ [.slice (some ⟨w.heap.size, 0, none⟩) 1 1], by simp [Ps.rep, hul], ?_, ?_⟩
  ·show w'.ownsRow B 41 9 _ (ts ++ [repT rl rh t]).length (rowV (ts ++ [repT rl rh t]) _)
   rw [xfp _ _ _ _ hul, xpe, List.length_append]
   exact own'
  ·intro i t' u ht hu
   have ht' : (ts ++ [repT rl rh t])[i]? = some t' := ht
   rcases getElem?_snoc ht' with ⟨hi, h1⟩ | ⟨rfl, rfl⟩
   ·rcases getElem?_snoc hu with ⟨_, h2⟩ | ⟨h3, _⟩
    ·exact (hkids i t' u (by rw [List.getElem?_append_left hi]; exact h1) (by rw [List.getElem?_append_left (by omega)]; exact h2)).keep hfz (fun _ h => .inl h)
    ·omega
   ·rcases getElem?_snoc hu with ⟨h3, _⟩ | ⟨_, rfl⟩
    ·omega
    ·refine xmh (t := t) (u := ut) hnb (.inr rfl) ?_
     exact (hkids ts.length t ut (by simp) (by rw [← hul]; simp)).keep hfz (fun _ h => .inl h)
 ·intro x hx hf
  rcases hf with hf | hf
  ·exact h.live x hx hf
  ·have := (h.liveAt hx).2.1
   omega
 ·rintro x (hx | rfl)
  ·obtain ⟨f1, f2, cur, fr, f3⟩ := h.fzlt x hx
   exact ⟨f1, Nat.lt_of_lt_of_le f2 hsz, cur, fr, (hfz x hx).trans f3⟩
  ·exact ⟨hB, (Array.getElem?_eq_some_iff.1 hnb).1, _, _, hnb⟩
 ·refine Fr.of (fun k => k = pg ∨ k = pb) ?_ hB ?_ hsz ho
  ·rintro k (rfl | rfl)
   ·exact ⟨b1, _, hc, rfl⟩
   ·exact ⟨h.base, _, h.blk, rfl⟩
  ·intro k hk hn
   exact hot k hk (fun e => hn (.inl e)) (fun e => hn (.inr e))
theorem xey {W : World} {ok : Nat → Prop} {v : Value} {ts : List Tr} (h : Kids W ok v ts) : ∃ a c, v = .slice a ts.length c := by
 cases h with
 | mk _ _ vs hl own hok hk => exact owns_shape own
theorem xnc {B pb : Nat} {P : Ps} (w : World) (h : IsPs w B pb P) (hB : B ≤ w.heap.size) (hm : P.outer.length ≤ 1000) {ts : List Tr} {t : Tr} (hts : P.top.parts = ts ++ [t]) (hn : ts.length ≤ 1000) (hsz : -1000000 ≤ P.size ∧ P.size ≤ 1000000) (hla : -1000 ≤ P.last ∧ P.last ≤ 1000) (rl rh : Int) (hrl : 0 ≤ rl ∧ rl ≤ 255) (hrh : -1 ≤ rh ∧ rh ≤ 255) :
  Calls Try.prog 39 #[.pointer (some ⟨pb, 0, none⟩), .int .i64 rl, .int .i64 rh] w fun e w' => (∃ x, e = .returned x) ∧ IsPs w' B pb (P.rep ts t rl rh) ∧ Fr B w w' := by
 obtain ⟨o, vs, v, fz, h⟩ := h
 obtain ⟨go, cap, co, rfl, hgo, hbgo, hpg⟩ := h.levels
 obtain ⟨us, hul, own, hkids⟩ := h.row
 rw [hts] at hul own hkids
 rw [List.length_append] at own hul
 obtain ⟨us, ut, rfl⟩ : ∃ us' ut, us = us' ++ [ut] := by
  rcases List.eq_nil_or_concat us with h0 | ⟨us', ut, h0⟩
  ·rw [h0] at hul; simp at hul
  ·exact ⟨us', ut, by rw [h0, List.concat_eq_append]⟩
 have hul2 : us.length = ts.length := by simpa using hul
 rw [xfp _ _ _ _ hul2] at own
 obtain ⟨pg, pc, rfl, _, _⟩ := own.form (by simp)
 obtain ⟨ka, kc, rfl⟩ := xey (hkids ts.length t ut (by simp) (by rw [← hul2]; simp))
 obtain ⟨cL, _⟩ := xbx h.own (P.outer.length * 4 + 3) _ (by rw [xa1 _ _ _ _ (xb7 _ _ h.len)]; rfl)
 have hpp : pb ≠ pg := fun e => by
  obtain ⟨_, _, cur, hc⟩ := h.liveAt (xaj (v := .slice (some ⟨pg, 0, none⟩) (ts.length + [t].length) pc) (g := pg) rfl)
  rw [← e, h.blk] at hc
  cases hc
 refine (xkj _ B pb go P.outer.length cap ts.length pg pc hm hn (rowV ts us) (xmf _ _ hul2) t.kind (wd t.q 0) (wd t.q 1) (wd t.q 2) (wd t.q 3) t.grp t.lo t.hi ka t.kids.length kc P.size P.last rl rh hsz hla hrl hrh w hB h.blk (h.cell 0 _ rfl).1 (h.cell 12 _ rfl).1 (h.cell 12 _ rfl).2 (h.cell 13 _ rfl).1 (h.cell 13 _ rfl).2 cL own hpp).mono ?_
 rintro e w' ⟨hx, hR⟩
 obtain ⟨v', fz', h', hf⟩ := rep_step h hB rl rh hul2 hkids hR
 exact ⟨hx, ⟨_, _, v', fz', h'⟩, hf⟩
end Go.Proofs.Ytolpakpdkheanaa.br
