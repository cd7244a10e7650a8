/- bre: the parser: closeGroup, as a step of the parser. -/
import Derived.Test.YtolpakpdkheanaaKPg
set_option maxRecDepth 100000
set_option maxHeartbeats 2000000
namespace Go.Proofs.Ytolpakpdkheanaa.br
open Go.RowKit
def catT (ts : List Tr) : Tr := .mk 0 xad 0 0 0 ts
def xbp (k : Nat) (ts : List Tr) : Tr := .mk 4 xad 0 0 k [catT ts]
theorem xpf (ts : List Tr) (u : Value) : xex (catT ts) u = [.int .i64 0, .int .u64 0, .int .u64 0, .int .u64 0, .int .u64 0, .int .i64 0, .int .i64 0, .int .i64 0, u] := by
 simp only [xex, catT, Tr.kind, Tr.q, Tr.lo, Tr.hi, Tr.grp]
 rfl
def Ps.pop (P : Ps) (ou : List Lv) (l : Lv) : Ps := { P with outer := ou, top := l, shut := fun x => if x = P.top.grp then true else P.shut x }
theorem xnd {w X : World} {B pb : Nat} {P : Ps} {go cap gb : Nat} {vs : List Value} {u v : Value} {fz : Nat → Prop} {ou : List Lv} {l : Lv} (hou : P.outer = ou ++ [l]) (hB : B ≤ w.heap.size) (hk : P.top.grp ≤ 9)
  (h : PsAt w B pb P (.slice (some ⟨go, 0, none⟩) (ou.length + 1 + 1) cap) (vs ++ [u]) v fz)
  (hold : ∀ x, x < w.heap.size → x ≠ pb → X.heap[x]? = w.heap[x]?) (hsz : w.heap.size ≤ X.heap.size)
  (hpb : X.heap[pb]? = some (.cells (((P.cells (.slice (some ⟨go, 0, none⟩) (ou.length + 1 + 1) cap)).toArray.setIfInBounds 0 (.slice (some ⟨go, 0, none⟩) (ou.length + 1) cap)).setIfInBounds (2 + P.top.grp) (.bool true)) 67 (0, 0)))
  (hgb : X.heap[gb]? = some (.cells (xex (catT P.top.parts) v).toArray 41)) (hg2 : w.heap.size ≤ gb) :
  ∃ fz', PsAt X B pb (P.pop ou l) (.slice (some ⟨go, 0, none⟩) (ou.length + 1) cap) vs u fz' ∧ Kids X fz' (.slice (some ⟨gb, 0, none⟩) 1 1) [catT P.top.parts] := by
 have hlen : vs.length = ou.length := by
  have := h.len
  rw [hou] at this
  simpa using this
 have live27 : ∀ x, x ∈ xbk (vs ++ [u] ++ [v]) → X.heap[x]? = w.heap[x]? := fun x hx => by
  obtain ⟨_, h2, cur, hc⟩ := h.liveAt hx
  exact hold x h2 (fun e => by rw [e, h.blk] at hc; cases hc)
 have hfz : ∀ x, fz x → X.heap[x]? = w.heap[x]? := fun x hx => by
  obtain ⟨_, h2, cur, fr, hc⟩ := h.fzlt x hx
  exact hold x h2 (fun e => by rw [e, h.blk] at hc; cases hc)
 have hm1 : ∀ x, fz x → (fz x ∨ v.ownBlock = some x ∨ x = gb) := fun x hx => .inl hx
 have hsub : ∀ x, x ∈ xbk (vs ++ [u]) → x ∈ xbk (vs ++ [u] ++ [v]) := fun x hx => by rw [xbw]; exact List.mem_append_left _ hx
 have hrowk : Kids X (fun x => fz x ∨ v.ownBlock = some x ∨ x = gb) v P.top.parts :=
  (h.row.keep (ok' := fz) (fun x hx => live27 x (xaj hx)) hfz (fun _ h => h)).shut hm1 (fun x hx => .inr (.inl hx))
 refine ⟨fun x => fz x ∨ v.ownBlock = some x ∨ x = gb, ⟨h.base, ?_, ?_, hlen, ?_, ?_, ?_, ?_, ?_⟩, xmh hgb (.inr (.inr rfl)) hrowk⟩
 ·rw [hpb]
  obtain ⟨k, hk'⟩ : ∃ k, k = P.top.grp := ⟨_, rfl⟩
  simp only [Ps.pop, ← hk']
  rw [← hk'] at hk
  rcases (show k = 0 ∨ k = 1 ∨ k = 2 ∨ k = 3 ∨ k = 4 ∨ k = 5 ∨ k = 6 ∨ k = 7 ∨ k = 8 ∨ k = 9 by omega) with e | e | e | e | e | e | e | e | e | e <;> subst e <;> rfl
 ·obtain ⟨hl, h2⟩ := h.own
  rcases h2 with ⟨_, h0⟩ | ⟨g2, cap2, cur, he, hb, hh, hn, hc, hs, ht⟩
  ·omega
  ·obtain ⟨rfl, rfl⟩ : go = g2 ∧ cap = cap2 := by
    injection he with a b c
    injection a with a
    injection a with a
    exact ⟨a, c⟩
   have hne : go ≠ pb := fun e => by rw [e, h.blk] at hh; cases hh
   rw [hou] at hn ht
   simp only [List.length_append, List.length_cons, List.length_nil] at hn ht
   rw [xhp _ _ _ _ hlen] at ht
   have hll : (lvsV ou vs ++ lvV l u).length = (ou.length + 1) * 4 := by
    rw [List.length_append, xb7 _ _ hlen]
    simp only [lvV, List.length_cons, List.length_nil]
    omega
   refine ⟨hll, .inr ⟨go, cap, cur, rfl, hb, (hold go (Array.getElem?_eq_some_iff.1 hh).1 hne).trans hh, by show ou.length + 1 ≤ cap; omega, hc, hs, ?_⟩⟩
   have h3 := congrArg (List.take ((ou.length + 1) * 4)) ht
   rw [List.take_take, List.take_append_of_le_length (Nat.le_of_eq hll.symm), ← hll, List.take_length, Nat.min_eq_left (by rw [hll]; omega)] at h3
   show cur.toList.take ((ou.length + 1) * 4) = lvsV ou vs ++ lvV l u
   rw [← hll]
   exact h3
 ·intro i l' u' hl' hu'
  have hl2 : ou[i]? = some l' := hl'
  have hi := (List.getElem?_eq_some_iff.1 hl2).1
  have hmem := List.mem_of_getElem? hu'
  have h1 := h.rows i l' u' (by rw [hou, List.getElem?_append_left hi]; exact hl2) (by rw [List.getElem?_append_left (by omega)]; exact hu')
  exact h1.keep (fun x hx => live27 x (hsub x (xbh hmem hx))) hfz hm1
 ·have h1 := h.rows ou.length l u (by rw [hou]; simp) (by rw [← hlen]; simp)
  exact h1.keep (fun x hx => live27 x (hsub x (xaj hx))) hfz hm1
 ·have hn := h.nodup
  rw [xbw] at hn
  exact (List.nodup_append.1 hn).1
 ·rintro x hx (hf | hf | hf)
  ·exact h.live x (hsub x hx) hf
  ·simp only [xbk, List.mem_filterMap] at hx
   obtain ⟨y, hy, hyx⟩ := hx
   exact h.apart hy hyx hf
  ·have := (h.liveAt (hsub x hx)).2.1
   omega
 ·rintro x (hx | hx | rfl)
  ·obtain ⟨f1, f2, cur, fr, f3⟩ := h.fzlt x hx
   exact ⟨f1, Nat.lt_of_lt_of_le f2 hsz, cur, fr, (hfz x hx).trans f3⟩
  ·obtain ⟨b1, b2, cur, hc⟩ := h.liveAt (xaj hx)
   exact ⟨b1, Nat.lt_of_lt_of_le b2 hsz, cur, _, (live27 x (xaj hx)).trans hc⟩
  ·exact ⟨Nat.le_trans hB hg2, (Array.getElem?_eq_some_iff.1 hgb).1, _, _, hgb⟩
theorem PsAt.setLast {W : World} {B pb : Nat} {P : Ps} {o v : Value} {vs : List Value} {fz : Nat → Prop} (h : PsAt W B pb P o vs v fz) (x : Int) : PsAt (W.setCell ⟨pb, 13, none⟩ (.int .i64 x)) B pb { P with last := x } o vs v fz := by
 obtain ⟨go, cap, co, rfl, hgo, hbgo, hpg⟩ := h.levels
 have live27 : ∀ g, g ∈ xbk (vs ++ [v]) → (W.setCell ⟨pb, 13, none⟩ (.int .i64 x)).heap[g]? = W.heap[g]? := fun g hx => by
  obtain ⟨_, h2, cur, hc⟩ := h.liveAt hx
  exact put_far _ _ _ _ (fun e => by rw [e, h.blk] at hc; cases hc)
 have hfz : ∀ g, fz g → (W.setCell ⟨pb, 13, none⟩ (.int .i64 x)).heap[g]? = W.heap[g]? := fun g hx => by
  obtain ⟨_, h2, cur, fr, hc⟩ := h.fzlt g hx
  exact put_far _ _ _ _ (fun e => by rw [e, h.blk] at hc; cases hc)
 refine ⟨h.base, ?_, ?_, h.len, ?_, ?_, h.nodup, h.live, ?_⟩
 ·rw [xai _ _ _ _ h.blk]; rfl
 ·exact xbl h.own (xdb hpg) _ _
 ·intro i l u hl hu
  exact (h.rows i l u hl hu).keep (fun g hg => live27 g (xbh (List.mem_of_getElem? hu) hg)) hfz (fun _ h => h)
 ·exact h.row.keep (fun g hg => live27 g (xaj hg)) hfz (fun _ h => h)
 ·intro g hg
  obtain ⟨f1, f2, cur, fr, f3⟩ := h.fzlt g hg
  exact ⟨f1, by rw [put_size]; exact f2, cur, fr, (hfz g hg).trans f3⟩
theorem new_cell (W : World) (cs : Array Value) (e : TypeId) (H : Nat) (hH : W.heap.size = H) (k : Nat) (u : Value) (hu : cs[k]? = some u) : (W.alloc (.cells cs e)).cell? ⟨H, k, none⟩ = some u ∧ (W.alloc (.cells cs e)).frozen? ⟨H, k, none⟩ = false := by
 subst hH
 have h : (W.alloc (.cells cs e)).heap[W.heap.size]? = some (.cells cs e (0, 0)) := heap_alloc_new W _
 constructor
 ·simp only [World.cell?, h]
  exact hu
 ·simp only [World.frozen?, h]
  simp
theorem xne (pb go cap : Nat) (w : World) (c0 : w.cell? ⟨pb, 0, none⟩ = some (.slice (some ⟨go, 0, none⟩) 1 cap)) :
  Calls Try.prog 37 #[.pointer (some ⟨pb, 0, none⟩)] w fun e w' => e = .returned (.int .i64 10) ∧ w' = w := by
 go_enter Try.func37, Try.ntmps37
 go_wp2
 go_ret
 exact ⟨rfl, rfl⟩
structure CloseAt (cp : Array Value) (pb go m cap k : Nat) (i : Nat) (bf : Int) (pv : Value) (w X : World) : Prop where
 old : ∀ x, x < w.heap.size → x ≠ pb → X.heap[x]? = w.heap[x]?
 size : X.heap.size = w.heap.size + 3
 blk : X.heap[pb]? = some (.cells ((cp.setIfInBounds 0 (.slice (some ⟨go, 0, none⟩) (m + 1) cap)).setIfInBounds (2 + k) (.bool true)) 67 (0, 0))
 lv : X.heap[w.heap.size]? = some (.cells #[.int .i64 i, .int .i64 k, .int .i64 bf, pv] 63)
 kid : X.heap[w.heap.size + 2]? = some (.cells #[.int .i64 0, .int .u64 0, .int .u64 0, .int .u64 0, .int .u64 0, .int .i64 0, .int .i64 0, .int .i64 0, pv] 41)
 os : X.os = w.os ∧ X.tape = w.tape ∧ X.output = w.output
theorem xnf (cp : Array Value) (pb go m cap k i : Nat) (sz bf : Int) (hsz : -1000000 ≤ sz ∧ sz ≤ 1000000) (hbf : -1000000 ≤ bf ∧ bf ≤ 1000000) (pa : Option Addr) (pn pc : Nat) (hm : m ≤ 900) (hmc : m + 1 + 1 ≤ cap) (hk : k ≤ 9) (b : Bool)
  (w : World) (hpb : w.heap[pb]? = some (.cells cp 67 (0, 0))) (c0 : w.cell? ⟨pb, 0, none⟩ = some (.slice (some ⟨go, 0, none⟩) (m + 1 + 1) cap)) (ck : w.cell? ⟨pb, 2 + k, none⟩ = some (.bool b))
  (d0 : w.cell? ⟨go, (m + 1) * 4, none⟩ = some (.int .i64 i)) (d1 : w.cell? ⟨go, (m + 1) * 4 + 1, none⟩ = some (.int .i64 k)) (d2 : w.cell? ⟨go, (m + 1) * 4 + 2, none⟩ = some (.int .i64 bf)) (d3 : w.cell? ⟨go, (m + 1) * 4 + 3, none⟩ = some (.slice pa pn pc))
  (R : World → Prop)
  (hadd : ∀ X, CloseAt cp pb go m cap k i bf (.slice pa pn pc) w X → Calls Try.prog 38 #[.pointer (some ⟨pb, 0, none⟩), .agg #[.int .i64 4, .int .u64 0, .int .u64 0, .int .u64 0, .int .u64 0, .int .i64 0, .int .i64 0, .int .i64 k, .slice (some ⟨w.heap.size + 2, 0, none⟩) 1 1], .int .i64 0] X
   fun e w' => (∃ x, e = .returned x) ∧ R w' ∧ (∃ la, w'.cell? ⟨pb, 13, none⟩ = some (.int .i64 la)) ∧ w'.frozen? ⟨pb, 13, none⟩ = false ∧ w'.cell? ⟨pb, 12, none⟩ = some (.int .i64 sz) ∧ w'.cell? ⟨w.heap.size, 2, none⟩ = some (.int .i64 bf)) :
  Calls Try.prog 37 #[.pointer (some ⟨pb, 0, none⟩)] w fun e w' => e = .returned (.int .i64 0) ∧ ∃ W, R W ∧ w' = (W.setCell ⟨pb, 13, none⟩ (.int .i64 (sz - bf))).drew := by
 have k1 : ((m : Int) + 1 + 1 == 1) = false := by rw [beq_eq_false_iff_ne]; omega
 have k2 : IntKind.i64.wrap ((m : Int) + 1 + 1 - 1) = (m : Int) + 1 := by rw [IntKind.wrap_i64]; omega
 have k3 : (0 : Int) ≤ (m : Int) + 1 := by omega
 have k4 : (m : Int) + 1 ≤ (cap : Int) := by omega
 have k5 : ((m : Int) + 1).toNat = m + 1 := by omega
 have k6 : (0 : Int) ≤ (k : Int) := by omega
 have k7 : (k : Int) < 10 := by omega
 have k8 : IntKind.i64.wrap (sz - bf) = sz - bf := by rw [IntKind.wrap_i64]; omega
 have hlp := (Array.getElem?_eq_some_iff.1 hpb).1
 have e0 := fun n : Nat => (new_cell (w.drewN n) #[.int .i64 0, .int .i64 0, .int .i64 0, .slice none 0 0] 63 w.heap.size rfl 0 _ rfl).1
 have f0 := fun n : Nat => (new_cell (w.drewN n) #[.int .i64 0, .int .i64 0, .int .i64 0, .slice none 0 0] 63 w.heap.size rfl 0 _ rfl).2
 have e1 := fun n : Nat => (new_cell (w.drewN n) #[.int .i64 0, .int .i64 0, .int .i64 0, .slice none 0 0] 63 w.heap.size rfl 1 _ rfl).1
 have f1 := fun n : Nat => (new_cell (w.drewN n) #[.int .i64 0, .int .i64 0, .int .i64 0, .slice none 0 0] 63 w.heap.size rfl 1 _ rfl).2
 have e2 := fun n : Nat => (new_cell (w.drewN n) #[.int .i64 0, .int .i64 0, .int .i64 0, .slice none 0 0] 63 w.heap.size rfl 2 _ rfl).1
 have f2 := fun n : Nat => (new_cell (w.drewN n) #[.int .i64 0, .int .i64 0, .int .i64 0, .slice none 0 0] 63 w.heap.size rfl 2 _ rfl).2
 have e3 := fun n : Nat => (new_cell (w.drewN n) #[.int .i64 0, .int .i64 0, .int .i64 0, .slice none 0 0] 63 w.heap.size rfl 3 _ rfl).1
 have f3 := fun n : Nat => (new_cell (w.drewN n) #[.int .i64 0, .int .i64 0, .int .i64 0, .slice none 0 0] 63 w.heap.size rfl 3 _ rfl).2
 have HA := hideT (And.intro hadd (And.intro hpb (And.intro hlp ck)))
 clear hadd hpb hlp ck
 go_enter Try.func37, Try.ntmps37
 go_wp2_with fail
 refine (xcf pb go (m + 1) cap (by omega) _ c0).mono ?_
 rintro e w1 ⟨rfl, n1, rfl⟩
 go_wp2_with fail
 obtain ⟨V, hV⟩ : ∃ V, V = (((((w.drewN n1).alloc (.cells #[.int .i64 0, .int .i64 0, .int .i64 0, .slice none 0 0] 63)).setCell ⟨w.heap.size, 0, none⟩ (.int .i64 i)).setCell ⟨w.heap.size, 1, none⟩ (.int .i64 k)).setCell ⟨w.heap.size, 2, none⟩ (.int .i64 bf)).setCell ⟨w.heap.size, 3, none⟩ (.slice pa pn pc) := ⟨_, rfl⟩
 rw [← hV]
 obtain ⟨lb, hlb⟩ : ∃ lb, lb = w.heap.size := ⟨_, rfl⟩
 rw [← hlb]
 have oldV : ∀ x, x < w.heap.size → V.heap[x]? = w.heap[x]? := fun x hx => by
  rw [hV, put_far _ _ _ _ (Nat.ne_of_lt hx), put_far _ _ _ _ (Nat.ne_of_lt hx), put_far _ _ _ _ (Nat.ne_of_lt hx), put_far _ _ _ _ (Nat.ne_of_lt hx)]
  exact Below.heap_alloc (w.drewN n1) _ x hx
 have lvV1 : V.heap[lb]? = some (.cells #[.int .i64 i, .int .i64 k, .int .i64 bf, .slice pa pn pc] 63) := by
  rw [hV, hlb]
  exact xai _ _ _ _ (xai _ _ _ _ (xai _ _ _ _ (xai _ _ _ _ (heap_alloc_new (w.drewN n1) _))))
 have szV : V.heap.size = lb + 1 := by
  rw [hV, hlb]
  simp only [put_size]
  exact World.size_alloc (w.drewN n1) _
 have osV : V.os = w.os ∧ V.tape = w.tape ∧ V.output = w.output := by rw [hV]; exact ⟨rfl, rfl, rfl⟩
 have hlp := HA.out.2.2.1
 have hpl : pb ≠ lb := by omega
 have pbV : V.heap[pb]? = some (.cells cp 67 (0, 0)) := (oldV pb hlp).trans HA.out.2.1
 have c0V := (World.cell?_of_block (a := ⟨pb, 0, none⟩) (oldV pb hlp)).trans c0
 have ckV := (World.cell?_of_block (a := ⟨pb, 2 + k, none⟩) (oldV pb hlp)).trans HA.out.2.2.2
 have f0V : V.frozen? ⟨pb, 0, none⟩ = false := by simp [World.frozen?, pbV]
 have fkV : V.frozen? ⟨pb, 2 + k, none⟩ = false := by simp [World.frozen?, pbV]
 have l1 : V.cell? ⟨lb, 1, none⟩ = some (.int .i64 k) := by simp [World.cell?, lvV1]
 have l2 : V.cell? ⟨lb, 2, none⟩ = some (.int .i64 bf) := by simp [World.cell?, lvV1]
 have l3 : V.cell? ⟨lb, 3, none⟩ = some (.slice pa pn pc) := by simp [World.cell?, lvV1]
 have HV := hideT (And.intro oldV (And.intro lvV1 (And.intro szV (And.intro osV (And.intro hlb (And.intro hlp pbV))))))
 clear oldV lvV1 szV osV hV hlb hlp e0 e1 e2 e3 f0 f1 f2 f3 c0 d0 d1 d2 d3 pbV
 go_wp2_with fail
 go_region
 go_wp2_with fail
 obtain ⟨U, hU⟩ : ∃ U, U = (V.setCell ⟨pb, 0, none⟩ (.slice (some ⟨go, 0, none⟩) (m + 1) cap)).drew := ⟨_, rfl⟩
 rw [← hU]
 have pbU : U.heap[pb]? = some (.cells (cp.setIfInBounds 0 (.slice (some ⟨go, 0, none⟩) (m + 1) cap)) 67 (0, 0)) := by rw [hU]; exact xai V _ _ _ HV.out.2.2.2.2.2.2
 have otU : ∀ x, x ≠ pb → U.heap[x]? = V.heap[x]? := fun x hx => by rw [hU]; exact put_far V _ _ _ hx
 have szU : U.heap.size = V.heap.size := by rw [hU]; exact put_size V _ _ _
 have osU : U.os = V.os ∧ U.tape = V.tape ∧ U.output = V.output := by rw [hU]; exact ⟨rfl, rfl, rfl⟩
 have ckU : U.cell? ⟨pb, 2 + k, none⟩ = some (.bool b) := by rw [hU]; exact (xdc HV.out.2.2.2.2.2.2 0 (2 + k) _ (by omega)).trans ckV
 have fkU : U.frozen? ⟨pb, 2 + k, none⟩ = false := by simp [World.frozen?, pbU]
 have m1 := (World.cell?_of_block (a := ⟨lb, 1, none⟩) (otU lb hpl.symm)).trans l1
 have HU := hideT (And.intro pbU (And.intro otU (And.intro szU osU)))
 clear hU pbU otU szU osU c0V ckV f0V fkV l1 l2 l3
 go_region
 all_goals
  obtain ⟨Y, hY⟩ : ∃ Y, Y = (U.setCell ⟨pb, 2 + k, none⟩ (.bool true)).drew := ⟨_, rfl⟩
  rw [← hY]
  have pbY : Y.heap[pb]? = some (.cells ((cp.setIfInBounds 0 (.slice (some ⟨go, 0, none⟩) (m + 1) cap)).setIfInBounds (2 + k) (.bool true)) 67 (0, 0)) := by rw [hY]; exact xai U _ _ _ HU.out.1
  have otY : ∀ x, x ≠ pb → Y.heap[x]? = V.heap[x]? := fun x hx => by rw [hY]; exact (put_far U _ _ _ hx).trans (HU.out.2.1 x hx)
  have szY : Y.heap.size = lb + 1 := by rw [hY]; exact (put_size U _ _ _).trans (HU.out.2.2.1.trans HV.out.2.2.1)
  have osY : Y.os = w.os ∧ Y.tape = w.tape ∧ Y.output = w.output := by
   rw [hY]
   exact ⟨HU.out.2.2.2.1.trans HV.out.2.2.2.1.1, HU.out.2.2.2.2.1.trans HV.out.2.2.2.1.2.1, HU.out.2.2.2.2.2.trans HV.out.2.2.2.1.2.2⟩
  have lvY : Y.heap[lb]? = some (.cells #[.int .i64 i, .int .i64 k, .int .i64 bf, .slice pa pn pc] 63) := (otY lb hpl.symm).trans HV.out.2.1
  have p1 : Y.cell? ⟨lb, 1, none⟩ = some (.int .i64 k) := by simp [World.cell?, lvY]
  have p3 : Y.cell? ⟨lb, 3, none⟩ = some (.slice pa pn pc) := by simp [World.cell?, lvY]
  have hlY : lb < Y.heap.size := by omega
  have p1A := fun ob : Obj => (World.cell?_of_block (a := ⟨lb, 1, none⟩) (Below.heap_alloc Y ob lb hlY)).trans p1
  have hlbY : lb ≠ Y.heap.size := by omega
  have HY := hideT (And.intro pbY (And.intro otY (And.intro szY (And.intro osY lvY))))
  clear hY pbY otY szY osY lvY hlY ckU fkU m1 HU
  go_wp2_with fail
  rw [show Y.heap.size + 1 = w.heap.size + 2 by rw [HY.out.2.2.1, HV.out.2.2.2.2.1]]
  refine (HA.out.1 _ ?_).mono ?_
  ·have hlb := HV.out.2.2.2.2.1
   have szY := HY.out.2.2.1
   have hlp := HV.out.2.2.2.2.2.1
   refine ⟨?_, ?_, ?_, ?_, ?_, HY.out.2.2.2.1⟩
   ·intro x hx hxp
    rw [Below.heap_alloc _ _ x (by rw [World.size_alloc]; omega)]
    rw [Below.heap_alloc _ _ x (by omega)]
    exact (HY.out.2.1 x hxp).trans (HV.out.1 x hx)
   ·rw [World.size_alloc]
    rw [World.size_alloc]
    omega
   ·rw [Below.heap_alloc _ _ pb (by rw [World.size_alloc]; omega)]
    rw [Below.heap_alloc _ _ pb (by omega)]
    exact HY.out.1
   ·rw [← hlb, Below.heap_alloc _ _ lb (by rw [World.size_alloc]; omega)]
    rw [Below.heap_alloc _ _ lb (by omega)]
    exact HY.out.2.2.2.2
   ·have hn := fun (W : World) (ob : Obj) (H : Nat) (hH : W.heap.size = H) => (show (W.alloc ob).heap[H]? = some ob from hH ▸ heap_alloc_new W ob)
    exact hn _ _ _ (by rw [World.size_alloc]; omega)
  rintro e w5 ⟨⟨x, rfl⟩, hR5, ⟨la, g13⟩, h13, g12, g2⟩
  have hlb := HV.out.2.2.2.2.1
  rw [← hlb] at g2
  have HR := hideT hR5
  clear hR5 hlb p1 p3 p1A hlbY HY HV HA
  go_wp2_with fail
  go_region
  all_goals
   go_wp2
   go_ret
   exact ⟨rfl, _, HR.out, rfl⟩
def Ps.close (P : Ps) (ou : List Lv) (l : Lv) : Ps := { (P.pop ou l).add (xbp P.top.grp P.top.parts) 0 with last := P.size - P.top.before }
theorem xi5 (P : Ps) (o : Value) (k : Nat) (hk : k ≤ 9) : (P.cells o)[2 + k]? = some (.bool (P.shut k)) := by
 rcases (show k = 0 ∨ k = 1 ∨ k = 2 ∨ k = 3 ∨ k = 4 ∨ k = 5 ∨ k = 6 ∨ k = 7 ∨ k = 8 ∨ k = 9 by omega) with e | e | e | e | e | e | e | e | e | e <;> subst e <;> rfl
theorem PsAt.same {W W' : World} {B pb : Nat} {P : Ps} {o v : Value} {vs : List Value} {fz : Nat → Prop} (h : PsAt W B pb P o vs v fz) (hh : W'.heap = W.heap) : PsAt W' B pb P o vs v fz := by
 have hk : ∀ g : Nat, W'.heap[g]? = W.heap[g]? := fun g => by rw [hh]
 refine ⟨h.base, (hk pb).trans h.blk, owns_keep h.own (fun g _ => hk g), h.len, ?_, ?_, h.nodup, h.live, ?_⟩
 ·intro i l u hl hu
  exact (h.rows i l u hl hu).keep (fun g _ => hk g) (fun g _ => hk g) (fun _ h => h)
 ·exact h.row.keep (fun g _ => hk g) (fun g _ => hk g) (fun _ h => h)
 ·intro g hg
  obtain ⟨f1, f2, cur, fr, f3⟩ := h.fzlt g hg
  exact ⟨f1, by rw [hh]; exact f2, cur, fr, (hk g).trans f3⟩
theorem xpg {B pb : Nat} {P : Ps} (w : World) (h : IsPs w B pb P) (h0 : P.outer = []) : Calls Try.prog 37 #[.pointer (some ⟨pb, 0, none⟩)] w fun e w' => e = .returned (.int .i64 10) ∧ w' = w := by
 obtain ⟨o, vs, v, fz, h⟩ := h
 obtain ⟨go, cap, co, rfl, hgo, hbgo, hpg⟩ := h.levels
 have c0 := (h.cell 0 _ rfl).1
 rw [h0] at c0
 exact xne pb go cap w c0
theorem xph {B pb : Nat} {P : Ps} (w : World) (h : IsPs w B pb P) (hB : B ≤ w.heap.size) {ou : List Lv} {l : Lv} (hou : P.outer = ou ++ [l]) (hm : ou.length ≤ 900) (hn : l.parts.length ≤ 1000) (hk : P.top.grp ≤ 9) (hsz : -1000000 ≤ P.size ∧ P.size ≤ 1000000) (hbf : -1000000 ≤ P.top.before ∧ P.top.before ≤ 1000000) :
  Calls Try.prog 37 #[.pointer (some ⟨pb, 0, none⟩)] w fun e w' => e = .returned (.int .i64 0) ∧ IsPs w' B pb (P.close ou l) ∧ Fr B w w' := by
 obtain ⟨o, vs', v, fz, h⟩ := h
 have hlen := h.len
 rw [hou, List.length_append] at hlen
 obtain ⟨vs, u, rfl⟩ : ∃ vs u, vs' = vs ++ [u] := by
  rcases List.eq_nil_or_concat vs' with h0 | ⟨vs, u, h0⟩
  ·rw [h0] at hlen; simp at hlen
  ·exact ⟨vs, u, by rw [h0, List.concat_eq_append]⟩
 have hlen2 : vs.length = ou.length := by simpa using hlen
 obtain ⟨go, cap, co, ho, hgo, hbgo, hpg⟩ := h.levels
 rw [hou, List.length_append] at ho
 obtain rfl : o = .slice (some ⟨go, 0, none⟩) (ou.length + 1 + 1) cap := ho
 have own := h.own
 rw [hou] at own
 have hcap : ou.length + 1 + 1 ≤ cap := by
  rcases own.2 with ⟨_, h0⟩ | ⟨g2, cap2, cur, he, _, _, hn', _⟩
  ·omega
  ·injection he with a b c
   rw [List.length_append] at hn'
   simp at hn'
   omega
 obtain ⟨us, hul, rown, _⟩ := h.row
 obtain ⟨pa, pc, rfl⟩ := owns_shape rown
 have hll : (lvsV (ou ++ [l]) (vs ++ [u])).length = (ou.length + 1) * 4 := by
  rw [xb7 _ _ (by simp [hlen2]), List.length_append]; rfl
 have own' : w.ownsRow B 63 4 (.slice (some ⟨go, 0, none⟩) (ou.length + 1 + 1) cap) (ou.length + 1 + 1) (lvsV (ou ++ [l]) (vs ++ [u]) ++ lvV P.top (.slice pa P.top.parts.length pc)) := by
  rw [List.length_append] at own
  exact own
 have d := fun (k : Nat) (x : Value) (hx : (lvV P.top (.slice pa P.top.parts.length pc))[k]? = some x) => (xbx own' ((ou.length + 1) * 4 + k) x (by rw [xa1 _ _ _ _ hll]; exact hx)).1
 refine (xnf _ pb go ou.length cap P.top.grp P.top.pos P.size P.top.before hsz hbf pa P.top.parts.length pc hm hcap hk (P.shut P.top.grp) w h.blk (h.cell 0 _ rfl).1 (h.cell _ _ (xi5 P _ _ hk)).1 (d 0 _ rfl) (d 1 _ rfl) (d 2 _ rfl) (d 3 _ rfl)
  (fun W => (∃ v' fz', PsAt W B pb ((P.pop ou l).add (xbp P.top.grp P.top.parts) 0) (.slice (some ⟨go, 0, none⟩) (ou.length + 1) cap) vs v' fz') ∧ Fr B w W) ?_).mono ?_
 ·intro X hX
  obtain ⟨fz', hP, hK⟩ := xnd (gb := w.heap.size + 2) hou hB hk h hX.old (by rw [hX.size]; omega) hX.blk (by rw [xpf]; exact hX.kid) (by omega)
  have hfr : Fr B w X := by
   refine Fr.of (fun k => k = pb) ?_ hB (fun k hk hn => hX.old k hk hn) (by rw [hX.size]; omega) hX.os
   rintro k rfl
   exact ⟨h.base, _, h.blk, rfl⟩
  have hbX : B ≤ X.heap.size := by rw [hX.size]; omega
  have ha := xpa X hP hbX (by show ou.length ≤ 1000; omega) hn hsz (xbp P.top.grp P.top.parts) _ 1 1 hK 0 (by omega)
  refine ha.mono ?_
  rintro e w' ⟨hx, ⟨v', hP', hF'⟩, hot⟩
  have c12 := (hP'.cell 12 _ rfl).1
  have hz : ((P.pop ou l).add (xbp P.top.grp P.top.parts) 0).size = P.size := Int.add_zero _
  rw [hz] at c12
  refine ⟨hx, ⟨⟨v', fz', hP'⟩, hfr.trans hF'⟩, ⟨_, (hP'.cell 13 _ rfl).1⟩, (hP'.cell 13 _ rfl).2, c12, ?_⟩
  have hlvX : w'.heap[w.heap.size]? = X.heap[w.heap.size]? := by
   refine hot _ (by rw [hX.size]; omega) (fun e => ?_) (fun e => ?_) (fun e => ?_)
   ·have h1 := (Array.getElem?_eq_some_iff.1 hgo).1
    have e' : go = w.heap.size := by injection e
    omega
   ·have := h.lt
    omega
   ·have := (h.liveAt (g := w.heap.size) (by rw [xbw]; exact List.mem_append_left _ (xaj e))).2.1
    omega
  rw [World.cell?_of_block (a := ⟨w.heap.size, 2, none⟩) hlvX]
  simp [World.cell?, hX.lv]
 ·rintro e w' ⟨rfl, W, ⟨⟨v', fz', hP⟩, hF⟩, rfl⟩
  have h1 := hP.setLast (P.size - P.top.before)
  refine ⟨rfl, ⟨_, vs, v', fz', h1.same (W' := (W.setCell ⟨pb, 13, none⟩ (.int .i64 (P.size - P.top.before))).drew) rfl⟩, ?_⟩
  have h2 := hF.put h.base hP.blk rfl 13 (.int .i64 (P.size - P.top.before))
  exact ⟨⟨h2.below.os, h2.below.tape, h2.below.output, h2.below.size, h2.below.block⟩, h2.same⟩
end Go.Proofs.Ytolpakpdkheanaa.br
