/- KP1 -/
import Derived.Test.YtbekghinikjjeaaGreatDoorKUk
import Derived.Test.YtbekghinikjjeaaGreatDoorKTk
import Derived.Test.YtbekghinikjjeaaGreatDoorKMf
import Derived.Shelf.Strconv.Clone
import Derived.Shelf.LaysM
import Derived.Laws.EntriesVeiled
import Derived.Test.YtbekghinikjjeaaGreatDoorKA9
import Derived.Test.YtbekghinikjjeaaGreatDoorKA2
set_option maxRecDepth 100000
set_option maxHeartbeats 4000000
namespace Go.Proofs.YtbekghinikjjeaaGreatDoor.pkk
open Go.RowKit Go.Proofs.YtbekghinikjjeaaGreatDoor.br
structure Ad where
 k : Nat
 l : Int
 re : Value
structure Rw where
 a : Ad
 b : Ad
 nt : Bool
 go : Bool
def rwV (r : Rw) : List Value := [.int .i64 (r.a.k : Nat), .int .i64 r.a.l, r.a.re, .int .i64 (r.b.k : Nat), .int .i64 r.b.l, r.b.re, .bool r.nt, .bool r.go]
def RwAt (W : World) (g o : Nat) (r : Rw) : Prop := ∀ j v, (rwV r)[j]? = some v → W.cell? ⟨g, o + j, none⟩ = some v ∧ W.frozen? ⟨g, o + j, none⟩ = false
def pastR (b : Ad) (n : Int) : Bool := decide (b.k = 1) && decide (b.l < n)
def opensR (b : Ad) (n : Int) (la : Bool) : Bool := if b.k = 1 then decide (n < b.l) else if b.k = 2 then !la else decide (b.k = 3)
theorem bdw {B : Nat} {a w : World} (h : Below B a w) (n : Nat) : Below B a (w.drewN n) := ⟨h.os, h.tape, h.output, h.size, h.block⟩
structure MoH (W X : World) (g o : Nat) (b : Ad) (n : Int) (la : Bool) (sp : ByteArray) : Prop where
 bw : Below W.heap.size W X
 d3 : X.cell? ⟨g, o + 3, none⟩ = some (.int .i64 (b.k : Nat))
 d4 : X.cell? ⟨g, o + 4, none⟩ = some (.int .i64 b.l)
 e0 : X.cell? ⟨W.heap.size, 0, none⟩ = some (.int .i64 n)
 e1 : X.cell? ⟨W.heap.size, 1, none⟩ = some (.bool la)
 e2 : X.cell? ⟨W.heap.size, 2, none⟩ = some (.string sp)
theorem mo_head {W : World} {g o : Nat} {r : Rw} (h : RwAt W g o r) (n : Int) (la : Bool) (sp : ByteArray) : MoH W (W.alloc (.cells #[.int .i64 n, .bool la, .string sp] 73)) g o r.b n la sp := by
 have c3 := (h 3 _ rfl).1
 have c4 := (h 4 _ rfl).1
 have hg : g < W.heap.size := World.block_lt_of_cell? W _ c3
 have hN := heap_alloc_new W (.cells #[.int .i64 n, .bool la, .string sp] 73)
 exact ⟨(Below.refl W.heap.size W).alloc (Nat.le_refl _) _, (World.cell?_alloc_lt _ _ _ hg).trans c3, (World.cell?_alloc_lt _ _ _ hg).trans c4, by simp only [World.cell?, hN]; rfl, by simp only [World.cell?, hN]; rfl, by simp only [World.cell?, hN]; rfl⟩
theorem past_any {W : World} {g o : Nat} {r : Rw} (h : RwAt W g o r) (n : Int) (la : Bool) (sp : ByteArray) : Calls Tryz.prog 30 #[.pointer (some ⟨g, o, none⟩), .agg #[.int .i64 n, .bool la, .string sp]] W fun e w' => e = .returned (.bool (pastR r.b n)) ∧ Below W.heap.size W w' := by
 obtain ⟨hB, d3, d4, e0, e1, e2⟩ := mo_head h n la sp
 clear h
 generalize r.b = b at *
 obtain ⟨k, l, re⟩ := b
 dsimp only at d3 d4 ⊢
 have HB := hideT hB
 clear hB
 go_enter Tryz.func30, Tryz.ntmps30
 go_wp2_with fail
 generalize W.alloc (.cells #[.int .i64 n, .bool la, .string sp] 73) = X at *
 by_cases h1 : k = 1
 · subst h1
   go_quiet (fail)
   go_wp2
   go_ret
   exact ⟨rfl, bdw HB.out _⟩
 · have z1 : ((k : Int) == 1) = false := by simp; omega
   have hr : pastR ⟨k, l, re⟩ n = false := by unfold pastR; rw [decide_eq_false h1]; rfl
   clear h1
   go_quiet (fail)
   go_wp2
   go_ret
   exact ⟨by rw [hr]; rfl, bdw HB.out _⟩
theorem opens_any {W : World} {g o : Nat} {r : Rw} (h : RwAt W g o r) (n : Int) (la : Bool) (sp : ByteArray) : Calls Tryz.prog 32 #[.pointer (some ⟨g, o, none⟩), .agg #[.int .i64 n, .bool la, .string sp]] W fun e w' => e = .returned (.bool (opensR r.b n la)) ∧ Below W.heap.size W w' := by
 obtain ⟨hB, d3, d4, e0, e1, e2⟩ := mo_head h n la sp
 clear h
 generalize r.b = b at *
 obtain ⟨k, l, re⟩ := b
 dsimp only at d3 d4 ⊢
 have HB := hideT hB
 clear hB
 go_enter Tryz.func32, Tryz.ntmps32
 go_upto_region 1 with fail
 generalize W.alloc (.cells #[.int .i64 n, .bool la, .string sp] 73) = X at *
 by_cases h1 : k = 1
 · subst h1
   go_wp2_with fail
   go_quiet (fail)
   go_wp2
   go_ret
   exact ⟨rfl, bdw HB.out _⟩
 · have z1 : ((k : Int) == 1) = false := by simp; omega
   by_cases h2 : k = 2
   · subst h2
     go_wp2
     go_ret
     exact ⟨rfl, HB.out⟩
   · have z2 : ((k : Int) == 2) = false := by simp; omega
     have z3 : ((k : Int) == 3) = decide (k = 3) := by rw [Bool.eq_iff_iff]; simp; omega
     have hr : opensR ⟨k, l, re⟩ n la = decide (k = 3) := by unfold opensR; rw [if_neg h1, if_neg h2]
     clear h1 h2
     go_wp2
     go_ret
     exact ⟨by rw [hr]; rfl, HB.out⟩
end Go.Proofs.YtbekghinikjjeaaGreatDoor.pkk
namespace Go.Proofs.YtbekghinikjjeaaGreatDoor.pkk
open Go.RowKit Go.Proofs.YtbekghinikjjeaaGreatDoor.br
theorem line_any (n : Int) (W : World) : Calls Tryz.prog 12 #[.int .i64 n] W fun e w' => e = .returned (.agg #[.int .i64 1, .int .i64 n, .string ⟨#[]⟩]) ∧ Below W.heap.size W w' := by
 go_enter Tryz.func12, Tryz.ntmps12
 go_wp2
 refine bodyPost_ret (v := .agg #[.int .i64 1, .int .i64 n, .string ⟨#[]⟩]) (by simp [results, Tryz.results12, go_sem]) rfl ⟨rfl, ?_⟩
 exact (Below.refl _ _).alloc (Nat.le_refl _) _
theorem match_any (s : ByteArray) (W : World) : Calls Tryz.prog 14 #[.string s] W fun e w' => e = .returned (.agg #[.int .i64 3, .int .i64 0, .string s]) ∧ Below W.heap.size W w' := by
 go_enter Tryz.func14, Tryz.ntmps14
 go_wp2
 refine bodyPost_ret (v := .agg #[.int .i64 3, .int .i64 0, .string s]) (by simp [results, Tryz.results14, go_sem]) rfl ⟨rfl, ?_⟩
 exact (Below.refl _ _).alloc (Nat.le_refl _) _
theorem use_none (W : World) (pb : Nat) : Calls Tryz.prog 15 #[.pointer (some ⟨pb, 0, none⟩), .pointer none] W fun e w' => (∃ v, e = .returned v) ∧ Below W.heap.size W w' := by
 go_enter Tryz.func15, Tryz.ntmps15
 go_wp2
 go_end0
 exact ⟨⟨_, rfl⟩, Below.refl _ _⟩
theorem use_nil (W : World) (m : Option Addr) : Calls Tryz.prog 15 #[.pointer none, .pointer m] W fun e w' => (∃ v, e = .returned v) ∧ Below W.heap.size W w' := by
 go_enter Tryz.func15, Tryz.ntmps15
 go_wp2
 go_end0
 exact ⟨⟨_, rfl⟩, Below.refl _ _⟩
theorem use_some {W : World} {pb : Nat} {u : Value} (c : W.cell? ⟨pb, 1, none⟩ = some u) (f : W.frozen? ⟨pb, 1, none⟩ = false) (m : Addr) : Calls Tryz.prog 15 #[.pointer (some ⟨pb, 0, none⟩), .pointer (some m)] W fun e w' => (∃ v, e = .returned v) ∧ w' = W.setCell ⟨pb, 1, none⟩ (.pointer (some m)) := by
 go_enter Tryz.func15, Tryz.ntmps15
 go_wp2
 go_end0
 exact ⟨⟨_, rfl⟩, rfl⟩
def adR (k : Nat) (l : Int) (re : Value) : Value := .tuple #[.agg #[.int .i64 (k : Nat), .int .i64 l, re], .int .i64 0]
theorem addr_plain {k : Nat} (hk : k = 0 ∨ k = 2) (l : Int) (s : ByteArray) (W : World) : Calls Tryz.prog 29 #[.agg #[.int .i64 (k : Nat), .int .i64 l, .string s]] W fun e w' => e = .returned (adR k 0 (.pointer none)) ∧ Below W.heap.size W w' := by
 rcases hk with rfl | rfl
 · go_enter Tryz.func29, Tryz.ntmps29
   go_wp2
   refine bodyPost_ret (v := .tuple #[.agg #[.int .i64 0, .int .i64 0, .pointer none], .int .i64 0]) (by simp [results, Tryz.results29, go_sem]) rfl ⟨rfl, ?_⟩
   exact ((Below.refl _ _).alloc (Nat.le_refl _) _).alloc (by simp) _
 · go_enter Tryz.func29, Tryz.ntmps29
   go_wp2
   refine bodyPost_ret (v := .tuple #[.agg #[.int .i64 2, .int .i64 0, .pointer none], .int .i64 0]) (by simp [results, Tryz.results29, go_sem]) rfl ⟨rfl, ?_⟩
   exact ((Below.refl _ _).alloc (Nat.le_refl _) _).alloc (by simp) _
theorem addr_line {l : Int} (hl : 1 ≤ l) (s : ByteArray) (W : World) : Calls Tryz.prog 29 #[.agg #[.int .i64 1, .int .i64 l, .string s]] W fun e w' => e = .returned (adR 1 l (.pointer none)) ∧ Below W.heap.size W w' := by
 have z : (l < 1) = False := by rw [eq_iff_iff, iff_false]; omega
 go_enter Tryz.func29, Tryz.ntmps29
 go_wp2
 refine bodyPost_ret (v := .tuple #[.agg #[.int .i64 1, .int .i64 l, .pointer none], .int .i64 0]) (by simp [results, Tryz.results29, go_sem]) rfl ⟨rfl, ?_⟩
 exact ((Below.refl _ _).alloc (Nat.le_refl _) _).alloc (by simp) _
end Go.Proofs.YtbekghinikjjeaaGreatDoor.pkk
namespace Go.Proofs.YtbekghinikjjeaaGreatDoor.pkk
open Go.RowKit Go.Shelf Go.Proofs.YtbekghinikjjeaaGreatDoor.br
def lays316_ren : Go.Shelf.Ren := ⟨fun | 316 => 35 | n => n, fun | 37 => 23 | 127 => 124 | n => n, fun | n => n⟩
theorem lays316 : Go.Proofs.LaysM.n316 Tryz.prog lays316_ren := {
  mixed := by kernel_rfl
  f316 := Tryz.func35.trans (congrArg some (by kernel_rfl))
  t0 := Tryz.underlying0
  a0 := Tryz.isAgg0
  z0 := Tryz.sizeOf0
  v0 := Tryz.zeroValue0
  t3 := Tryz.underlying3
  a3 := Tryz.isAgg3
  z3 := Tryz.sizeOf3
  v3 := Tryz.zeroValue3
  t4 := Tryz.underlying4
  a4 := Tryz.isAgg4
  z4 := Tryz.sizeOf4
  v4 := Tryz.zeroValue4
  t9 := Tryz.underlying9
  a9 := Tryz.isAgg9
  z9 := Tryz.sizeOf9
  v9 := Tryz.zeroValue9
  t37 := Tryz.underlying23
  a37 := Tryz.isAgg23
  z37 := Tryz.sizeOf23
  v37 := Tryz.zeroValue23
  t127 := Tryz.underlying124
  a127 := Tryz.isAgg124
  z127 := Tryz.sizeOf124
  v127 := Tryz.zeroValue124
  t5 := Tryz.underlying5
  a5 := Tryz.isAgg5
  z5 := Tryz.sizeOf5
  v5 := Tryz.zeroValue5
  i0 := by kernel_rfl
  i3 := by kernel_rfl
  i4 := by kernel_rfl
  i5 := by kernel_rfl
  i9 := by kernel_rfl
  i37 := by kernel_rfl
  i127 := by kernel_rfl }
theorem clone_any (s : ByteArray) (w : World) (hs : s.size ≤ 140737488355000) : Calls Tryz.prog 23 #[.string s] w fun e w' => e = .returned (.string s) ∧ Below w.heap.size w w' := by
 have H := hideT (fun w => Any.stringslite_Clone lays316 s w (by omega))
 go_enter Tryz.func23, Tryz.ntmps23
 go_wp2_with fail
 refine (H.out _).mono ?_
 rintro e w1 ⟨rfl, hb⟩
 have B := hideT hb
 clear hb
 go_wp2
 go_ret
 exact ⟨rfl, B.out⟩
theorem blk_lt {W : World} {b : Nat} {o : Obj} (h : W.heap[b]? = some o) : b < W.heap.size := (Array.getElem?_eq_some_iff.1 h).1
theorem two_obj (w : World) (o1 o2 : Obj) : Below w.heap.size w ((w.alloc o1).alloc o2) ∧ ((w.alloc o1).alloc o2).heap[w.heap.size]? = some o1 ∧ ((w.alloc o1).alloc o2).heap[w.heap.size + 1]? = some o2 := by
 have e1 : (w.alloc o1).heap.size = w.heap.size + 1 := by simp
 have hA := (Below.refl w.heap.size w).alloc (Nat.le_refl _) o1
 have hA2 := (Below.refl (w.alloc o1).heap.size (w.alloc o1)).alloc (Nat.le_refl _) o2
 refine ⟨hA.trans (hA2.mono hA.size), (hA2.block _ (by rw [e1]; omega)).trans (heap_alloc_new w o1), ?_⟩
 rw [← e1]
 exact heap_alloc_new _ _
def mtV (s : ByteArray) (n st : Int) : Array Value := #[.string s, .int .i64 n, .func (.func 24) #[.string s] #[], .int .i64 st]
def MtAt (W : World) (mb : Nat) (s : ByteArray) : Prop := ∃ n st, W.heap[mb]? = some (.cells (mtV s n st) 83 (0, 0))
theorem new_any {s : ByteArray} {ts : List Tr} (ht : parseT s = .ok ts) (hb : (msF .zero ts).back = false) (w : World) (hg : Glob w) : Calls Tryz.prog 16 #[.string s] w fun e w' => ∃ mb, w.heap.size ≤ mb ∧ e = .returned (.tuple #[.pointer (some ⟨mb, 0, none⟩), .agg #[.int .i64 0, .int .i64 0]]) ∧ MtAt w' mb s ∧ Below w.heap.size w w' := by
 have hmf : ∀ (fn : Fn) (first cap : Array Value) (w : World), (Instr.makeFunc fn first cap).run Tryz.prog w = .ok (.func fn first cap) w := fun _ _ _ _ => rfl
 have hA := (Below.refl w.heap.size w).alloc (Nat.le_refl _) (.cells #[.int .i64 0, .int .i64 0] 52)
 have hN := heap_alloc_new w (.cells #[.int .i64 0, .int .i64 0] 52)
 have hM := mOf_any s (w.alloc (.cells #[.int .i64 0, .int .i64 0] 52)) (hg.below hA (Nat.le_refl _))
 rw [show ofM s = (msF .zero ts, 0, 0) by unfold ofM; rw [ht]] at hM
 have hs : s.size ≤ 140737488355000 := by
  have h9 := ht
  unfold parseT at h9
  split at h9
  · cases h9
  · omega
 have HO := hideT hM
 have HA := hideT (And.intro hA hN)
 have HC := hideT (fun w => clone_any s w hs)
 clear hA hN hM hs hg ht
 generalize msF .zero ts = M at *
 obtain ⟨m1, m2, m3, m4, m5, m6, m7⟩ := M
 obtain rfl : m5 = false := hb
 go_enter Tryz.func16, Tryz.ntmps16
 go_wp2_with fail
 generalize w.alloc (.cells #[.int .i64 0, .int .i64 0] 52) = Y at *
 refine HO.out.mono ?_
 rintro x w1 ⟨rfl, hb⟩
 have N1 := (hb.block _ (blk_lt HA.out.2)).trans HA.out.2
 have B1 := HA.out.1.trans (hb.mono HA.out.1.size)
 obtain ⟨hB2, k1, k2⟩ := two_obj w1 (.cells #[.int .i64 m1, .int .i64 m2, .int .i64 m3, .int .i64 m4, .bool false, .bool m6, .bool m7] 75) (.cells #[.int .i64 0, .int .i64 0] 52)
 have hw1 := blk_lt N1
 have N2 := (hB2.block _ hw1).trans N1
 have B2 := B1.trans (hB2.mono B1.size)
 have K := hideT (And.intro N2 (And.intro k1 (And.intro k2 B2)))
 clear hb HO HA N1 B1 hB2 k1 k2 N2 B2
 simp only [Ms.arr]
 go_wp2_with fail
 generalize (w1.alloc (.cells #[.int .i64 m1, .int .i64 m2, .int .i64 m3, .int .i64 m4, .bool false, .bool m6, .bool m7] 75)).alloc (.cells #[.int .i64 0, .int .i64 0] 52) = V at *
 refine (HC.out V).mono ?_
 rintro x w2 ⟨rfl, hb2⟩
 obtain ⟨h0, h1, h2, h3⟩ := K.out
 have g1 := (hb2.block _ (blk_lt h1)).trans h1
 have g0 := (hb2.block _ (blk_lt h0)).trans h0
 have B3 := h3.trans (hb2.mono h3.size)
 have q1 : w2.cell? ⟨w1.heap.size, 1, none⟩ = some (.int .i64 m2) := by simp [World.cell?, g1]
 have hlt1 := blk_lt g1
 have hlt0 := blk_lt g0
 have q4 : ∀ o, (w2.alloc o).cell? ⟨w1.heap.size, 4, none⟩ = some (.bool false) := fun o => by rw [World.cell?_alloc_lt _ _ _ hlt1]; simp [World.cell?, g1]
 have r0 : ∀ o, (w2.alloc o).cell? ⟨w.heap.size, 0, none⟩ = some (.int .i64 0) := fun o => by rw [World.cell?_alloc_lt _ _ _ hlt0]; simp [World.cell?, g0]
 have r1 : ∀ o, (w2.alloc o).cell? ⟨w.heap.size, 1, none⟩ = some (.int .i64 0) := fun o => by rw [World.cell?_alloc_lt _ _ _ hlt0]; simp [World.cell?, g0]
 have z0 : ∀ o, (w2.alloc o).frozen? ⟨w.heap.size, 0, none⟩ = false := fun o => by rw [World.frozen?_alloc_old _ _ _ (Nat.ne_of_lt hlt0)]; simp [World.frozen?, g0]
 have z1 : ∀ o, (w2.alloc o).frozen? ⟨w.heap.size, 1, none⟩ = false := fun o => by rw [World.frozen?_alloc_old _ _ _ (Nat.ne_of_lt hlt0)]; simp [World.frozen?, g0]
 have hX := (Below.refl w2.heap.size w2).alloc (Nat.le_refl _) (.cells (mtV s m2 0) 83)
 have KN := hideT (And.intro (heap_alloc_new w2 (.cells (mtV s m2 0) 83)) (And.intro (B3.trans (hX.mono B3.size)) (And.intro B3.size (show w2.heap.size ≠ w.heap.size by omega))))
 clear h0 h1 h2 h3 g0 g1 B3 K hb2 HC hlt0 hlt1 hw1 hX
 go_wp2
 refine bodyPost_ret (v := .tuple #[.pointer (some ⟨w2.heap.size, 0, none⟩), .agg #[.int .i64 0, .int .i64 0]]) (by simp [results, Tryz.results16, go_sem, r0, r1]) rfl ⟨w2.heap.size, KN.out.2.2.1, rfl, ⟨m2, 0, ?_⟩, ?_⟩
 · exact (Below.heap_setCell _ ⟨w.heap.size, 1, none⟩ _ w2.heap.size KN.out.2.2.2).trans ((Below.heap_setCell _ ⟨w.heap.size, 0, none⟩ _ w2.heap.size KN.out.2.2.2).trans KN.out.1)
 · exact (KN.out.2.1.setCell (p := ⟨w.heap.size, 0, none⟩) (Nat.le_refl _) _).setCell (p := ⟨w.heap.size, 1, none⟩) (Nat.le_refl _) _
end Go.Proofs.YtbekghinikjjeaaGreatDoor.pkk
namespace Go.Proofs.YtbekghinikjjeaaGreatDoor.pkk
open Go.RowKit Go.Shelf Go.Proofs.YtbekghinikjjeaaGreatDoor.br
def ReAt (W : World) (B : Nat) (v : Option Addr) (s : ByteArray) : Prop := ∃ mb, B ≤ mb ∧ v = some ⟨mb, 0, none⟩ ∧ MtAt W mb s
theorem rm_empty (W : World) : Calls Tryz.prog 38 #[.string ⟨#[]⟩] W fun e w' => e = .returned (adR 3 0 (.pointer none)) ∧ Below W.heap.size W w' := by
 go_enter Tryz.func38, Tryz.ntmps38
 go_wp2
 refine bodyPost_ret (v := .tuple #[.agg #[.int .i64 3, .int .i64 0, .pointer none], .int .i64 0]) (by simp [results, Tryz.results38, go_sem]) rfl ⟨rfl, ?_⟩
 exact (Below.refl _ _).alloc (Nat.le_refl _) _
theorem rm_one {s : ByteArray} {ts : List Tr} (hs : (s.toList == []) = false) (ht : parseT s = .ok ts) (hb : (msF .zero ts).back = false) (W : World) (hg : Glob W) : Calls Tryz.prog 38 #[.string s] W fun e w' => ∃ v, e = .returned (adR 3 0 (.pointer v)) ∧ ReAt w' W.heap.size v s ∧ Below W.heap.size W w' := by
 have hA := (Below.refl W.heap.size W).alloc (Nat.le_refl _) (.cells #[.int .i64 0, .int .i64 0, .pointer none] 65)
 have hN := heap_alloc_new W (.cells #[.int .i64 0, .int .i64 0, .pointer none] 65)
 have HN := hideT (new_any ht hb (W.alloc (.cells #[.int .i64 0, .int .i64 0, .pointer none] 65)) (hg.below hA (Nat.le_refl _)))
 have HA := hideT (And.intro hA hN)
 clear hA hN hg ht hb
 go_enter Tryz.func38, Tryz.ntmps38
 go_wp2_with fail
 generalize W.alloc (.cells #[.int .i64 0, .int .i64 0, .pointer none] 65) = X at *
 refine HN.out.mono ?_
 rintro e w1 ⟨mb, hmb, rfl, hmt, hb1⟩
 have hX := HA.out.1.size
 have k0 := (hb1.block _ (blk_lt HA.out.2)).trans HA.out.2
 have hlt := blk_lt k0
 have hB2 := (Below.refl w1.heap.size w1).alloc (Nat.le_refl _) (.cells #[.int .i64 0, .int .i64 0] 52)
 have hN2 := heap_alloc_new w1 (.cells #[.int .i64 0, .int .i64 0] 52)
 have k2 := (hB2.block _ hlt).trans k0
 have HH := hideT (And.intro hmb (And.intro hmt (And.intro (HA.out.1.trans ((hb1.mono hX).trans (hB2.mono (Nat.le_trans hX hb1.size)))) (And.intro (blk_lt HA.out.2) (And.intro hB2 hlt)))))
 clear hmb hmt hb1 k0 HN HA hX hB2 hlt
 go_upto_region 4 with fail
 rename_i K hK
 generalize w1.alloc (.cells #[.int .i64 0, .int .i64 0] 52) = V at *
 have c0 : V.cell? ⟨W.heap.size, 0, none⟩ = some (.int .i64 0) := by simp [World.cell?, k2]
 have c1 : V.cell? ⟨W.heap.size, 1, none⟩ = some (.int .i64 0) := by simp [World.cell?, k2]
 have c2 : V.cell? ⟨W.heap.size, 2, none⟩ = some (.pointer none) := by simp [World.cell?, k2]
 have f : ∀ j, V.frozen? ⟨W.heap.size, j, none⟩ = false := fun j => by simp [World.frozen?, k2]
 have f0 := f 0
 have f1 := f 1
 have f2 := f 2
 have e0 : V.cell? ⟨w1.heap.size, 0, none⟩ = some (.int .i64 0) := by simp [World.cell?, hN2]
 have HV := hideT k2
 clear f k2 hN2
 have hz0 : V.drew.cell? ⟨w1.heap.size, 0, none⟩ = some (.int .i64 0) := e0
 have hne : w1.heap.size ≠ W.heap.size := by have := HH.out.2.2.2.2.2; omega
 have d0 : V.drew.cell? ⟨W.heap.size, 0, none⟩ = some (.int .i64 0) := c0
 have hZ : ∀ a b c : Value, (((V.drew.setCell ⟨W.heap.size, 0, none⟩ a).setCell ⟨W.heap.size, 1, none⟩ b).setCell ⟨W.heap.size, 2, none⟩ c).cell? ⟨w1.heap.size, 0, none⟩ = some (.int .i64 0) := fun a b c => (World.cell?_of_block (a := ⟨w1.heap.size, 0, none⟩) ((Below.heap_setCell _ ⟨W.heap.size, 2, none⟩ _ _ hne).trans ((Below.heap_setCell _ ⟨W.heap.size, 1, none⟩ _ _ hne).trans (Below.heap_setCell _ ⟨W.heap.size, 0, none⟩ _ _ hne)))).trans hz0
 have HZ := hideT hZ
 clear hZ e0 hne
 refine wp_region_held (S := (fun U : World => U.cell? ⟨w1.heap.size, 0, none⟩ = some (.int .i64 0))) (by kernel_rfl) ?_
 refine smt.tq 0 14 hz0 ?_
 refine smt.tq 1 15 hz0 ?_
 refine smt.tq 2 16 hz0 ?_
 refine smt.tq 3 17 hz0 ?_
 simp only [Act.put, List.setIfInBounds_toArray, List.set_cons_zero, List.set_cons_succ]
 refine wpAnyH_all (rs := [4]) (by kernel_rfl) (by simp) (fun i hi => ?_)
 obtain rfl : i = 4 := List.mem_singleton.1 hi
 refine smt.op_skip rfl rfl (by rfl) (w' := ((V.drew.setCell ⟨W.heap.size, 0, none⟩ (.int .i64 3)).setCell ⟨W.heap.size, 1, none⟩ (.int .i64 0)).setCell ⟨W.heap.size, 2, none⟩ (.pointer (some ⟨mb, 0, none⟩))) (by go_simp; (try with_reducible rfl)) ⟨HZ.out _ _ _, ?_⟩
 simp only [Act.put]
 refine smt.tq 5 3 (HZ.out _ _ _) ?_
 refine wpAnyH_done (by kernel_rfl) (hK _ _ ?_) _
 simp only [Act.put, List.setIfInBounds_toArray, List.set_cons_zero, List.set_cons_succ]
 go_wp2
 refine bodyPost_ret (v := .tuple #[.agg #[.int .i64 3, .int .i64 0, .pointer (some ⟨mb, 0, none⟩)], .int .i64 0]) (by simp [results, Tryz.results38, go_sem, c0, c1, c2]) rfl ⟨some ⟨mb, 0, none⟩, rfl, ⟨mb, ?_, rfl, ?_⟩, ?_⟩
 · have := HH.out; omega
 · obtain ⟨n, st, hm⟩ := HH.out.2.1
   have hne : mb ≠ W.heap.size := by have := HH.out; omega
   exact ⟨n, st, (Below.heap_setCell _ ⟨W.heap.size, 2, none⟩ _ _ hne).trans ((Below.heap_setCell _ ⟨W.heap.size, 1, none⟩ _ _ hne).trans ((Below.heap_setCell V.drew ⟨W.heap.size, 0, none⟩ _ _ hne).trans ((HH.out.2.2.2.2.1.block mb (blk_lt hm)).trans hm)))⟩
 · exact (((HH.out.2.2.1.trans ⟨rfl, rfl, rfl, Nat.le_refl _, fun _ _ => rfl⟩ : Below W.heap.size W V.drew).setCell (p := ⟨W.heap.size, 0, none⟩) (Nat.le_refl _) _).setCell (p := ⟨W.heap.size, 1, none⟩) (Nat.le_refl _) _).setCell (p := ⟨W.heap.size, 2, none⟩) (Nat.le_refl _) _
theorem below_set3 {W V : World} (h : Below W.heap.size W V) (a b c : Value) : Below W.heap.size W (((V.setCell ⟨W.heap.size + 1, 0, none⟩ a).setCell ⟨W.heap.size + 1, 1, none⟩ b).setCell ⟨W.heap.size + 1, 2, none⟩ c) :=
 ((h.setCell (p := ⟨W.heap.size + 1, 0, none⟩) (by show W.heap.size ≤ W.heap.size + 1; omega) a).setCell (p := ⟨W.heap.size + 1, 1, none⟩) (by show W.heap.size ≤ W.heap.size + 1; omega) b).setCell (p := ⟨W.heap.size + 1, 2, none⟩) (by show W.heap.size ≤ W.heap.size + 1; omega) c
theorem addr_match {s : ByteArray} (l : Int) (W : World) {P : Option Addr → World → Prop} (hP : ∀ v A B, P v A → (∀ k, k < A.heap.size → k ≠ W.heap.size + 1 → B.heap[k]? = A.heap[k]?) → P v B) (HR : ∀ X, Below W.heap.size W X → X.heap.size = W.heap.size + 2 → Calls Tryz.prog 38 #[.string s] X fun e w' => ∃ v, e = .returned (adR 3 0 (.pointer v)) ∧ P v w' ∧ Below X.heap.size X w') :
 Calls Tryz.prog 29 #[.agg #[.int .i64 3, .int .i64 l, .string s]] W fun e w' => ∃ v, e = .returned (adR 3 0 (.pointer v)) ∧ P v w' ∧ Below W.heap.size W w' := by
 obtain ⟨hB, k0, k1⟩ := two_obj W (.cells #[.int .i64 3, .int .i64 l, .string s] 39) (.cells #[.int .i64 0, .int .i64 0, .pointer none] 65)
 have hz : ((W.alloc (.cells #[.int .i64 3, .int .i64 l, .string s] 39)).alloc (.cells #[.int .i64 0, .int .i64 0, .pointer none] 65)).heap.size = W.heap.size + 2 := by simp
 have HC := hideT (HR _ hB hz)
 have HX := hideT (And.intro hB (And.intro k1 hz))
 clear HR hB k1 hz k0
 go_enter Tryz.func29, Tryz.ntmps29
 go_wp2_with fail
 generalize (W.alloc (.cells #[.int .i64 3, .int .i64 l, .string s] 39)).alloc (.cells #[.int .i64 0, .int .i64 0, .pointer none] 65) = X at *
 refine HC.out.mono ?_
 rintro e w1 ⟨v, rfl, hp, hb1⟩
 have k2 := (hb1.block _ (blk_lt HX.out.2.1)).trans HX.out.2.1
 have c0 : w1.cell? ⟨W.heap.size + 1, 0, none⟩ = some (.int .i64 0) := by simp [World.cell?, k2]
 have c1 : w1.cell? ⟨W.heap.size + 1, 1, none⟩ = some (.int .i64 0) := by simp [World.cell?, k2]
 have c2 : w1.cell? ⟨W.heap.size + 1, 2, none⟩ = some (.pointer none) := by simp [World.cell?, k2]
 have f : ∀ j, w1.frozen? ⟨W.heap.size + 1, j, none⟩ = false := fun j => by simp [World.frozen?, k2]
 have f0 := f 0
 have f1 := f 1
 have f2 := f 2
 have HH := hideT (And.intro hp (HX.out.1.trans (hb1.mono HX.out.1.size)))
 clear hp hb1 k2 f HC
 have hA := hP v w1 (((w1.setCell ⟨W.heap.size + 1, 0, none⟩ (.int .i64 3)).setCell ⟨W.heap.size + 1, 1, none⟩ (.int .i64 0)).setCell ⟨W.heap.size + 1, 2, none⟩ (.pointer v)) HH.out.1 (fun k _ hk => (Below.heap_setCell _ ⟨W.heap.size + 1, 2, none⟩ _ _ hk).trans ((Below.heap_setCell _ ⟨W.heap.size + 1, 1, none⟩ _ _ hk).trans (Below.heap_setCell w1 ⟨W.heap.size + 1, 0, none⟩ _ _ hk)))
 have HA := hideT hA
 clear hA hP
 unfold adR
 go_wp2
 refine bodyPost_ret (v := .tuple #[.agg #[.int .i64 3, .int .i64 0, .pointer v], .int .i64 0]) (by simp [results, Tryz.results29, go_sem, c0, c1, c2]) rfl ⟨v, rfl, HA.out, below_set3 HH.out.2 _ _ _⟩
end Go.Proofs.YtbekghinikjjeaaGreatDoor.pkk
namespace Go.Proofs.YtbekghinikjjeaaGreatDoor.pkk
open Go.RowKit Go.Shelf Go.Proofs.YtbekghinikjjeaaGreatDoor.br
def Gd (k : Nat) (l : Int) (s : ByteArray) : Prop := (k = 0 ∨ k = 2) ∨ (k = 1 ∧ 1 ≤ l) ∨ (k = 3 ∧ (s = ⟨#[]⟩ ∨ ((s.toList == []) = false ∧ s.size ≠ 0 ∧ ∃ ts, parseT s = .ok ts ∧ (msF .zero ts).back = false)))
def lnR (k : Nat) (l : Int) : Int := if k = 1 then l else 0
def ReP (W : World) (B : Nat) (v : Option Addr) (k : Nat) (s : ByteArray) : Prop := if k = 3 ∧ s.size ≠ 0 then ReAt W B v s else v = none
theorem ReP.keep {W W' : World} {B C : Nat} {v : Option Addr} {k : Nat} {s : ByteArray} (h : ReP W B v k s) (hC : C ≤ B) (hk : ∀ g, B ≤ g → g < W.heap.size → W'.heap[g]? = W.heap[g]?) : ReP W' C v k s := by
 unfold ReP at *
 by_cases c : k = 3 ∧ s.size ≠ 0
 · rw [if_pos c] at h ⊢
   obtain ⟨mb, h1, h2, n, st, h3⟩ := h
   exact ⟨mb, by omega, h2, n, st, (hk mb h1 (blk_lt h3)).trans h3⟩
 · rw [if_neg c] at h ⊢; exact h
theorem addr_any {k : Nat} {l : Int} {s : ByteArray} (hG : Gd k l s) (W : World) (hg : Glob W) : Calls Tryz.prog 29 #[.agg #[.int .i64 (k : Nat), .int .i64 l, .string s]] W fun e w' => ∃ v, e = .returned (adR k (lnR k l) (.pointer v)) ∧ ReP w' W.heap.size v k s ∧ Below W.heap.size W w' := by
 rcases hG with hk | ⟨rfl, hl⟩ | ⟨rfl, hs⟩
 · refine (addr_plain hk l s W).mono ?_
   rintro e w' ⟨rfl, hB⟩
   refine ⟨none, ?_, ?_, hB⟩
   · unfold lnR; rw [if_neg (by omega)]
   · unfold ReP; rw [if_neg (by omega)]
 · refine (addr_line hl s W).mono ?_
   rintro e w' ⟨rfl, hB⟩
   exact ⟨none, rfl, rfl, hB⟩
 · have hL : lnR 3 l = 0 := rfl
   rw [hL]
   rcases hs with rfl | ⟨h1, h2, ts, h3, h4⟩
   · exact addr_match l W (P := fun v w' => ReP w' W.heap.size v 3 ⟨#[]⟩) (fun v A B h _ => h) fun X hX hz => (rm_empty X).mono fun e w' ⟨he, hB⟩ => ⟨none, he, rfl, hB⟩
   · refine (addr_match l W (P := fun v w' => ReAt w' (W.heap.size + 2) v s) (fun v A B h hk => ?_) fun X hX hz => ?_).mono ?_
     · obtain ⟨mb, m1, m2, n, st, m3⟩ := h
       exact ⟨mb, m1, m2, n, st, (hk mb (blk_lt m3) (by omega)).trans m3⟩
     · refine (rm_one h1 h3 h4 X (hg.below hX (Nat.le_refl _))).mono ?_
       rintro e w' ⟨v, he, hv, hB⟩
       rw [hz] at hv
       exact ⟨v, he, hv, hB⟩
     · rintro e w' ⟨v, he, ⟨mb, m1, m2, m3⟩, hB⟩
       refine ⟨v, he, ?_, hB⟩
       unfold ReP
       rw [if_pos ⟨rfl, h2⟩]
       exact ⟨mb, by omega, m2, m3⟩
theorem row_any {ka kb : Nat} {la lb : Int} {sa sb : ByteArray} (hA : Gd ka la sa) (hB : Gd kb lb sb) (hab : ka = 0 → kb = 0) (nt : Bool) (W : World) (hg : Glob W) : Calls Tryz.prog 20 #[.agg #[.int .i64 (ka : Nat), .int .i64 la, .string sa, .int .i64 (kb : Nat), .int .i64 lb, .string sb, .bool nt]] W fun e w' => ∃ pa pb, e = .returned (.tuple #[.agg (rwV ⟨⟨ka, lnR ka la, .pointer pa⟩, ⟨kb, lnR kb lb, .pointer pb⟩, nt, false⟩).toArray, .int .i64 0]) ∧ ReP w' W.heap.size pa ka sa ∧ ReP w' W.heap.size pb kb sb ∧ Below W.heap.size W w' := by
 obtain ⟨hX, k0, k1⟩ := two_obj W (.cells #[.int .i64 (ka : Nat), .int .i64 la, .string sa, .int .i64 (kb : Nat), .int .i64 lb, .string sb, .bool nt] 42) (.cells #[.int .i64 0, .int .i64 0, .pointer none, .int .i64 0, .int .i64 0, .pointer none, .bool false, .bool false] 67)
 have hz : ((W.alloc (.cells #[.int .i64 (ka : Nat), .int .i64 la, .string sa, .int .i64 (kb : Nat), .int .i64 lb, .string sb, .bool nt] 42)).alloc (.cells #[.int .i64 0, .int .i64 0, .pointer none, .int .i64 0, .int .i64 0, .pointer none, .bool false, .bool false] 67)).heap.size = W.heap.size + 2 := by simp
 have H0 := hideT (And.intro k0 (And.intro k1 (And.intro hX (And.intro hz hg))))
 have HA := hideT hA
 have HB := hideT hB
 have HAB := hideT hab
 clear hA hB hab hX hz hg
 go_enter Tryz.func20, Tryz.ntmps20
 go_upto_region 1 with fail
 generalize (W.alloc (.cells #[.int .i64 (ka : Nat), .int .i64 la, .string sa, .int .i64 (kb : Nat), .int .i64 lb, .string sb, .bool nt] 42)).alloc (.cells #[.int .i64 0, .int .i64 0, .pointer none, .int .i64 0, .int .i64 0, .pointer none, .bool false, .bool false] 67) = X at *
 have a0 : X.cell? ⟨W.heap.size, 0, none⟩ = some (.int .i64 (ka : Nat)) := by simp [World.cell?, k0]
 have a1 : X.cell? ⟨W.heap.size, 1, none⟩ = some (.int .i64 la) := by simp [World.cell?, k0]
 have a2 : X.cell? ⟨W.heap.size, 2, none⟩ = some (.string sa) := by simp [World.cell?, k0]
 have HC := hideT (addr_any HA.out X (H0.out.2.2.2.2.below H0.out.2.2.1 (Nat.le_refl _)))
 clear k0 k1
 go_wp2_with fail
 refine HC.out.mono ?_
 rintro e w1 ⟨pa, rfl, hpa, hb1⟩
 have hn1 := heap_alloc_new w1 (.cells #[.int .i64 (ka : Nat), .int .i64 (lnR ka la), .pointer pa] 65)
 have hb2 := hb1.trans (((Below.refl w1.heap.size w1).alloc (Nat.le_refl _) (.cells #[.int .i64 (ka : Nat), .int .i64 (lnR ka la), .pointer pa] 65)).mono hb1.size)
 have hbn := (Below.refl w1.heap.size w1).alloc (Nat.le_refl _) (.cells #[.int .i64 (ka : Nat), .int .i64 (lnR ka la), .pointer pa] 65)
 have H3 := hideT hb1.size
 have H1 := hideT (And.intro hpa (And.intro hb2 (And.intro hn1 hbn)))
 clear hb1 a0 a1 a2 HC hpa hbn
 unfold adR
 go_upto_region 4 with fail
 generalize w1.alloc (.cells #[.int .i64 (ka : Nat), .int .i64 (lnR ka la), .pointer pa] 65) = Y at *
 have hy := (hb2.block W.heap.size (by have := H0.out.2.2.2.1; omega)).trans H0.out.1
 have a3 : Y.cell? ⟨W.heap.size, 3, none⟩ = some (.int .i64 (kb : Nat)) := by simp [World.cell?, hy]
 have a4 : Y.cell? ⟨W.heap.size, 4, none⟩ = some (.int .i64 lb) := by simp [World.cell?, hy]
 have a5 : Y.cell? ⟨W.heap.size, 5, none⟩ = some (.string sb) := by simp [World.cell?, hy]
 have hbY := H0.out.2.2.1.trans (hb2.mono H0.out.2.2.1.size)
 have HC := hideT (addr_any HB.out Y (H0.out.2.2.2.2.below hbY (Nat.le_refl _)))
 have HY := hideT hbY
 clear hn1 hb2 hy hbY
 go_wp2_with fail
 refine HC.out.mono ?_
 rintro e w2 ⟨pb, rfl, hpb, hb3⟩
 have hn2 := heap_alloc_new w2 (.cells #[.int .i64 (kb : Nat), .int .i64 (lnR kb lb), .pointer pb] 65)
 have hbn := (Below.refl w2.heap.size w2).alloc (Nat.le_refl _) (.cells #[.int .i64 (kb : Nat), .int .i64 (lnR kb lb), .pointer pb] 65)
 have H2 := hideT (And.intro hpb (And.intro hb3 (And.intro hn2 hbn)))
 clear a3 a4 a5 HC hpb hb3
 unfold adR
 go_upto_region 7 with fail
 generalize w2.alloc (.cells #[.int .i64 (kb : Nat), .int .i64 (lnR kb lb), .pointer pb] 65) = Z at *
 have hYZ := H2.out.2.1.trans (H2.out.2.2.2.mono H2.out.2.1.size)
 have hXZ := H1.out.2.1.trans (hYZ.mono H1.out.2.1.size)
 have hx2 := H0.out.2.2.2.1
 have hY1 := H1.out.2.2.2.size
 have h1Y := blk_lt H1.out.2.2.1
 have hW1 : X.heap.size ≤ w1.heap.size := by
  exact H3.out
 have z0 := (hXZ.block W.heap.size (by omega)).trans H0.out.1
 have z1 := (hXZ.block (W.heap.size + 1) (by omega)).trans H0.out.2.1
 have z2 := (hYZ.block w1.heap.size h1Y).trans H1.out.2.2.1
 have b6 : Z.cell? ⟨W.heap.size, 6, none⟩ = some (.bool nt) := by simp [World.cell?, z0]
 have d0 : Z.cell? ⟨w1.heap.size, 0, none⟩ = some (.int .i64 (ka : Nat)) := by simp [World.cell?, z2]
 have d1 : Z.cell? ⟨w1.heap.size, 1, none⟩ = some (.int .i64 (lnR ka la)) := by simp [World.cell?, z2]
 have d2 : Z.cell? ⟨w1.heap.size, 2, none⟩ = some (.pointer pa) := by simp [World.cell?, z2]
 have e0 : Z.cell? ⟨w2.heap.size, 0, none⟩ = some (.int .i64 (kb : Nat)) := by simp [World.cell?, hn2]
 have e1 : Z.cell? ⟨w2.heap.size, 1, none⟩ = some (.int .i64 (lnR kb lb)) := by simp [World.cell?, hn2]
 have e2 : Z.cell? ⟨w2.heap.size, 2, none⟩ = some (.pointer pb) := by simp [World.cell?, hn2]
 have r0 : Z.cell? ⟨W.heap.size + 1, 0, none⟩ = some (.int .i64 0) := by simp [World.cell?, z1]
 have r1 : Z.cell? ⟨W.heap.size + 1, 1, none⟩ = some (.int .i64 0) := by simp [World.cell?, z1]
 have r2 : Z.cell? ⟨W.heap.size + 1, 2, none⟩ = some (.pointer none) := by simp [World.cell?, z1]
 have r3 : Z.cell? ⟨W.heap.size + 1, 3, none⟩ = some (.int .i64 0) := by simp [World.cell?, z1]
 have r4 : Z.cell? ⟨W.heap.size + 1, 4, none⟩ = some (.int .i64 0) := by simp [World.cell?, z1]
 have r5 : Z.cell? ⟨W.heap.size + 1, 5, none⟩ = some (.pointer none) := by simp [World.cell?, z1]
 have r6 : Z.cell? ⟨W.heap.size + 1, 6, none⟩ = some (.bool false) := by simp [World.cell?, z1]
 have r7 : Z.cell? ⟨W.heap.size + 1, 7, none⟩ = some (.bool false) := by simp [World.cell?, z1]
 have fz : ∀ j, Z.frozen? ⟨W.heap.size + 1, j, none⟩ = false := fun j => by simp [World.frozen?, z1]
 have f0 := fz 0
 have f1 := fz 1
 have f2 := fz 2
 have f3 := fz 3
 have f4 := fz 4
 have f5 := fz 5
 have f6 := fz 6
 have f7 := fz 7
 have hkeep : ∀ g, g ≠ W.heap.size + 1 → ((((((((Z.setCell ⟨W.heap.size + 1, 0, none⟩ (.int .i64 (ka : Nat))).setCell ⟨W.heap.size + 1, 1, none⟩ (.int .i64 (lnR ka la))).setCell ⟨W.heap.size + 1, 2, none⟩ (.pointer pa)).setCell ⟨W.heap.size + 1, 3, none⟩ (.int .i64 (kb : Nat))).setCell ⟨W.heap.size + 1, 4, none⟩ (.int .i64 (lnR kb lb))).setCell ⟨W.heap.size + 1, 5, none⟩ (.pointer pb)).setCell ⟨W.heap.size + 1, 6, none⟩ (.bool nt)).setCell ⟨W.heap.size + 1, 7, none⟩ (.bool false)).heap[g]? = Z.heap[g]? := fun g hg => smt.setCells_far Z (W.heap.size + 1) hg [.int .i64 (ka : Nat), .int .i64 (lnR ka la), .pointer pa, .int .i64 (kb : Nat), .int .i64 (lnR kb lb), .pointer pb, .bool nt, .bool false] 0
 have HPA := hideT (H1.out.1.keep (W' := ((((((((Z.setCell ⟨W.heap.size + 1, 0, none⟩ (.int .i64 (ka : Nat))).setCell ⟨W.heap.size + 1, 1, none⟩ (.int .i64 (lnR ka la))).setCell ⟨W.heap.size + 1, 2, none⟩ (.pointer pa)).setCell ⟨W.heap.size + 1, 3, none⟩ (.int .i64 (kb : Nat))).setCell ⟨W.heap.size + 1, 4, none⟩ (.int .i64 (lnR kb lb))).setCell ⟨W.heap.size + 1, 5, none⟩ (.pointer pb)).setCell ⟨W.heap.size + 1, 6, none⟩ (.bool nt)).setCell ⟨W.heap.size + 1, 7, none⟩ (.bool false))) (C := W.heap.size) (by omega) fun g g1 g2 => (hkeep g (by omega)).trans ((hYZ.block g (Nat.lt_of_lt_of_le g2 hY1)).trans (H1.out.2.2.2.block g g2)))
 have HPB := hideT (H2.out.1.keep (W' := ((((((((Z.setCell ⟨W.heap.size + 1, 0, none⟩ (.int .i64 (ka : Nat))).setCell ⟨W.heap.size + 1, 1, none⟩ (.int .i64 (lnR ka la))).setCell ⟨W.heap.size + 1, 2, none⟩ (.pointer pa)).setCell ⟨W.heap.size + 1, 3, none⟩ (.int .i64 (kb : Nat))).setCell ⟨W.heap.size + 1, 4, none⟩ (.int .i64 (lnR kb lb))).setCell ⟨W.heap.size + 1, 5, none⟩ (.pointer pb)).setCell ⟨W.heap.size + 1, 6, none⟩ (.bool nt)).setCell ⟨W.heap.size + 1, 7, none⟩ (.bool false))) (C := W.heap.size) (Nat.le_trans H0.out.2.2.1.size H1.out.2.1.size) fun g g1 g2 => (hkeep g (by have := H1.out.2.1.size; omega)).trans (H2.out.2.2.2.block g g2))
 have HF : Hid (Below W.heap.size W ((((((((Z.setCell ⟨W.heap.size + 1, 0, none⟩ (.int .i64 (ka : Nat))).setCell ⟨W.heap.size + 1, 1, none⟩ (.int .i64 (lnR ka la))).setCell ⟨W.heap.size + 1, 2, none⟩ (.pointer pa)).setCell ⟨W.heap.size + 1, 3, none⟩ (.int .i64 (kb : Nat))).setCell ⟨W.heap.size + 1, 4, none⟩ (.int .i64 (lnR kb lb))).setCell ⟨W.heap.size + 1, 5, none⟩ (.pointer pb)).setCell ⟨W.heap.size + 1, 6, none⟩ (.bool nt)).setCell ⟨W.heap.size + 1, 7, none⟩ (.bool false))) := hideT (smt.below_setCells (W.heap.size + 1) (by omega) [.int .i64 (ka : Nat), .int .i64 (lnR ka la), .pointer pa, .int .i64 (kb : Nat), .int .i64 (lnR kb lb), .pointer pb, .bool nt, .bool false] Z 0 (H0.out.2.2.1.trans (hXZ.mono H0.out.2.2.1.size)))
 clear hYZ hXZ hx2 hY1 h1Y hW1 z0 z1 z2 hn2 fz hkeep H0 H1 H2 HY hbn
 by_cases h0 : ka = 0
 · have q1 : ((ka : Int) == 0) = true := by simp [h0]
   have q2 : ((kb : Int) != 0) = false := by simp [HAB.out h0]
   clear h0
   go_wp2
   refine bodyPost_ret (v := .tuple #[.agg #[.int .i64 (ka : Nat), .int .i64 (lnR ka la), .pointer pa, .int .i64 (kb : Nat), .int .i64 (lnR kb lb), .pointer pb, .bool nt, .bool false], .int .i64 0]) (by simp [results, Tryz.results20, go_sem, r0, r1, r2, r3, r4, r5, r6, r7]) rfl ⟨pa, pb, rfl, HPA.out, HPB.out, HF.out⟩
 · have q1 : ((ka : Int) == 0) = false := by simp; omega
   clear h0
   go_wp2
   refine bodyPost_ret (v := .tuple #[.agg #[.int .i64 (ka : Nat), .int .i64 (lnR ka la), .pointer pa, .int .i64 (kb : Nat), .int .i64 (lnR kb lb), .pointer pb, .bool nt, .bool false], .int .i64 0]) (by simp [results, Tryz.results20, go_sem, r0, r1, r2, r3, r4, r5, r6, r7]) rfl ⟨pa, pb, rfl, HPA.out, HPB.out, HF.out⟩
end Go.Proofs.YtbekghinikjjeaaGreatDoor.pkk
