/- KP1 -/
import Derived.Test.YtbekghinikjjeaaGreatDoorKUk
import Derived.Test.YtbekghinikjjeaaGreatDoorKTk
import Derived.Test.YtbekghinikjjeaaGreatDoorKMf
import Derived.Shelf.Strconv.Clone
import Derived.Shelf.LaysM
import Derived.Laws.EntriesVeiled
import Derived.Test.YtbekghinikjjeaaGreatDoorKA9
import Derived.Test.YtbekghinikjjeaaGreatDoorKA2
set_option maxRecDepth 100000
set_option maxHeartbeats 4000000
namespace Go.Proofs.YtbekghinikjjeaaGreatDoor.pkk
open Go.RowKit Go.Proofs.YtbekghinikjjeaaGreatDoor.br
end Go.Proofs.YtbekghinikjjeaaGreatDoor.pkk
namespace Go.Proofs.YtbekghinikjjeaaGreatDoor.pkk
open Go.RowKit Go.Proofs.YtbekghinikjjeaaGreatDoor.br
theorem match_any (s : ByteArray) (W : World) : Calls Tryz.prog 14 #[.string s] W fun e w' => e = .returned (.agg #[.int .i64 3, .int .i64 0, .string s]) ∧ Below W.heap.size W w' := by
 go_enter Tryz.func14, Tryz.ntmps14
 go_wp2
 refine bodyPost_ret (v := .agg #[.int .i64 3, .int .i64 0, .string s]) (by simp [results, Tryz.results14, go_sem]) rfl ⟨rfl, ?_⟩
 exact (Below.refl _ _).alloc (Nat.le_refl _) _
end Go.Proofs.YtbekghinikjjeaaGreatDoor.pkk
namespace Go.Proofs.YtbekghinikjjeaaGreatDoor.pkk
open Go.RowKit Go.Shelf Go.Proofs.YtbekghinikjjeaaGreatDoor.br
def lays316_ren : Go.Shelf.Ren := ⟨fun | 316 => 35 | n => n, fun | 37 => 23 | 127 => 124 | n => n, fun | n => n⟩
theorem lays316 : Go.Proofs.LaysM.n316 Tryz.prog lays316_ren := {
  mixed := by kernel_rfl
  f316 := Tryz.func35.trans (congrArg some (by kernel_rfl))
  t0 := Tryz.underlying0
  a0 := Tryz.isAgg0
  z0 := Tryz.sizeOf0
  v0 := Tryz.zeroValue0
  t3 := Tryz.underlying3
  a3 := Tryz.isAgg3
  z3 := Tryz.sizeOf3
  v3 := Tryz.zeroValue3
  t4 := Tryz.underlying4
  a4 := Tryz.isAgg4
  z4 := Tryz.sizeOf4
  v4 := Tryz.zeroValue4
  t9 := Tryz.underlying9
  a9 := Tryz.isAgg9
  z9 := Tryz.sizeOf9
  v9 := Tryz.zeroValue9
  t37 := Tryz.underlying23
  a37 := Tryz.isAgg23
  z37 := Tryz.sizeOf23
  v37 := Tryz.zeroValue23
  t127 := Tryz.underlying124
  a127 := Tryz.isAgg124
  z127 := Tryz.sizeOf124
  v127 := Tryz.zeroValue124
  t5 := Tryz.underlying5
  a5 := Tryz.isAgg5
  z5 := Tryz.sizeOf5
  v5 := Tryz.zeroValue5
  i0 := by kernel_rfl
  i3 := by kernel_rfl
  i4 := by kernel_rfl
  i5 := by kernel_rfl
  i9 := by kernel_rfl
  i37 := by kernel_rfl
  i127 := by kernel_rfl }
theorem clone_any (s : ByteArray) (w : World) (hs : s.size ≤ 140737488355000) : Calls Tryz.prog 23 #[.string s] w fun e w' => e = .returned (.string s) ∧ Below w.heap.size w w' := by
 have H := hideT (fun w => Any.stringslite_Clone lays316 s w (by omega))
 go_enter Tryz.func23, Tryz.ntmps23
 go_wp2_with fail
 refine (H.out _).mono ?_
 rintro e w1 ⟨rfl, hb⟩
 have B := hideT hb
 clear hb
 go_wp2
 go_ret
 exact ⟨rfl, B.out⟩
theorem blk_lt {W : World} {b : Nat} {o : Obj} (h : W.heap[b]? = some o) : b < W.heap.size := (Array.getElem?_eq_some_iff.1 h).1
theorem two_obj (w : World) (o1 o2 : Obj) : Below w.heap.size w ((w.alloc o1).alloc o2) ∧ ((w.alloc o1).alloc o2).heap[w.heap.size]? = some o1 ∧ ((w.alloc o1).alloc o2).heap[w.heap.size + 1]? = some o2 := by
 have e1 : (w.alloc o1).heap.size = w.heap.size + 1 := by simp
 have hA := (Below.refl w.heap.size w).alloc (Nat.le_refl _) o1
 have hA2 := (Below.refl (w.alloc o1).heap.size (w.alloc o1)).alloc (Nat.le_refl _) o2
 refine ⟨hA.trans (hA2.mono hA.size), (hA2.block _ (by rw [e1]; omega)).trans (heap_alloc_new w o1), ?_⟩
 rw [← e1]
 exact heap_alloc_new _ _
def mtV (s : ByteArray) (n st : Int) : Array Value := #[.string s, .int .i64 n, .func (.func 24) #[.string s] #[], .int .i64 st]
def MtAt (W : World) (mb : Nat) (s : ByteArray) : Prop := ∃ n st, W.heap[mb]? = some (.cells (mtV s n st) 83 (0, 0))
theorem new_any {s : ByteArray} {ts : List Tr} (ht : parseT s = .ok ts) (hb : (msF .zero ts).back = false) (w : World) (hg : Glob w) : Calls Tryz.prog 16 #[.string s] w fun e w' => ∃ mb, w.heap.size ≤ mb ∧ e = .returned (.tuple #[.pointer (some ⟨mb, 0, none⟩), .agg #[.int .i64 0, .int .i64 0]]) ∧ MtAt w' mb s ∧ Below w.heap.size w w' := by
 have hmf : ∀ (fn : Fn) (first cap : Array Value) (w : World), (Instr.makeFunc fn first cap).run Tryz.prog w = .ok (.func fn first cap) w := fun _ _ _ _ => rfl
 have hA := (Below.refl w.heap.size w).alloc (Nat.le_refl _) (.cells #[.int .i64 0, .int .i64 0] 52)
 have hN := heap_alloc_new w (.cells #[.int .i64 0, .int .i64 0] 52)
 have hM := mOf_any s (w.alloc (.cells #[.int .i64 0, .int .i64 0] 52)) (hg.below hA (Nat.le_refl _))
 rw [show ofM s = (msF .zero ts, 0, 0) by unfold ofM; rw [ht]] at hM
 have hs : s.size ≤ 140737488355000 := by
  have h9 := ht
  unfold parseT at h9
  split at h9
  · cases h9
  · omega
 have HO := hideT hM
 have HA := hideT (And.intro hA hN)
 have HC := hideT (fun w => clone_any s w hs)
 clear hA hN hM hs hg ht
 generalize msF .zero ts = M at *
 obtain ⟨m1, m2, m3, m4, m5, m6, m7⟩ := M
 obtain rfl : m5 = false := hb
 go_enter Tryz.func16, Tryz.ntmps16
 go_wp2_with fail
 generalize w.alloc (.cells #[.int .i64 0, .int .i64 0] 52) = Y at *
 refine HO.out.mono ?_
 rintro x w1 ⟨rfl, hb⟩
 have N1 := (hb.block _ (blk_lt HA.out.2)).trans HA.out.2
 have B1 := HA.out.1.trans (hb.mono HA.out.1.size)
 obtain ⟨hB2, k1, k2⟩ := two_obj w1 (.cells #[.int .i64 m1, .int .i64 m2, .int .i64 m3, .int .i64 m4, .bool false, .bool m6, .bool m7] 75) (.cells #[.int .i64 0, .int .i64 0] 52)
 have hw1 := blk_lt N1
 have N2 := (hB2.block _ hw1).trans N1
 have B2 := B1.trans (hB2.mono B1.size)
 have K := hideT (And.intro N2 (And.intro k1 (And.intro k2 B2)))
 clear hb HO HA N1 B1 hB2 k1 k2 N2 B2
 simp only [Ms.arr]
 go_wp2_with fail
 generalize (w1.alloc (.cells #[.int .i64 m1, .int .i64 m2, .int .i64 m3, .int .i64 m4, .bool false, .bool m6, .bool m7] 75)).alloc (.cells #[.int .i64 0, .int .i64 0] 52) = V at *
 refine (HC.out V).mono ?_
 rintro x w2 ⟨rfl, hb2⟩
 obtain ⟨h0, h1, h2, h3⟩ := K.out
 have g1 := (hb2.block _ (blk_lt h1)).trans h1
 have g0 := (hb2.block _ (blk_lt h0)).trans h0
 have B3 := h3.trans (hb2.mono h3.size)
 have q1 : w2.cell? ⟨w1.heap.size, 1, none⟩ = some (.int .i64 m2) := by simp [World.cell?, g1]
 have hlt1 := blk_lt g1
 have hlt0 := blk_lt g0
 have q4 : ∀ o, (w2.alloc o).cell? ⟨w1.heap.size, 4, none⟩ = some (.bool false) := fun o => by rw [World.cell?_alloc_lt _ _ _ hlt1]; simp [World.cell?, g1]
 have r0 : ∀ o, (w2.alloc o).cell? ⟨w.heap.size, 0, none⟩ = some (.int .i64 0) := fun o => by rw [World.cell?_alloc_lt _ _ _ hlt0]; simp [World.cell?, g0]
 have r1 : ∀ o, (w2.alloc o).cell? ⟨w.heap.size, 1, none⟩ = some (.int .i64 0) := fun o => by rw [World.cell?_alloc_lt _ _ _ hlt0]; simp [World.cell?, g0]
 have z0 : ∀ o, (w2.alloc o).frozen? ⟨w.heap.size, 0, none⟩ = false := fun o => by rw [World.frozen?_alloc_old _ _ _ (Nat.ne_of_lt hlt0)]; simp [World.frozen?, g0]
 have z1 : ∀ o, (w2.alloc o).frozen? ⟨w.heap.size, 1, none⟩ = false := fun o => by rw [World.frozen?_alloc_old _ _ _ (Nat.ne_of_lt hlt0)]; simp [World.frozen?, g0]
 have hX := (Below.refl w2.heap.size w2).alloc (Nat.le_refl _) (.cells (mtV s m2 0) 83)
 have KN := hideT (And.intro (heap_alloc_new w2 (.cells (mtV s m2 0) 83)) (And.intro (B3.trans (hX.mono B3.size)) (And.intro B3.size (show w2.heap.size ≠ w.heap.size by omega))))
 clear h0 h1 h2 h3 g0 g1 B3 K hb2 HC hlt0 hlt1 hw1 hX
 go_wp2
 refine bodyPost_ret (v := .tuple #[.pointer (some ⟨w2.heap.size, 0, none⟩), .agg #[.int .i64 0, .int .i64 0]]) (by simp [results, Tryz.results16, go_sem, r0, r1]) rfl ⟨w2.heap.size, KN.out.2.2.1, rfl, ⟨m2, 0, ?_⟩, ?_⟩
 · exact (Below.heap_setCell _ ⟨w.heap.size, 1, none⟩ _ w2.heap.size KN.out.2.2.2).trans ((Below.heap_setCell _ ⟨w.heap.size, 0, none⟩ _ w2.heap.size KN.out.2.2.2).trans KN.out.1)
 · exact (KN.out.2.1.setCell (p := ⟨w.heap.size, 0, none⟩) (Nat.le_refl _) _).setCell (p := ⟨w.heap.size, 1, none⟩) (Nat.le_refl _) _
end Go.Proofs.YtbekghinikjjeaaGreatDoor.pkk
namespace Go.Proofs.YtbekghinikjjeaaGreatDoor.pkk
open Go.RowKit Go.Shelf Go.Proofs.YtbekghinikjjeaaGreatDoor.br
def ReAt (W : World) (B : Nat) (v : Option Addr) (s : ByteArray) : Prop := ∃ mb, B ≤ mb ∧ v = some ⟨mb, 0, none⟩ ∧ MtAt W mb s
end Go.Proofs.YtbekghinikjjeaaGreatDoor.pkk
namespace Go.Proofs.YtbekghinikjjeaaGreatDoor.pkk
open Go.RowKit Go.Shelf Go.Proofs.YtbekghinikjjeaaGreatDoor.br
def ReP (W : World) (B : Nat) (v : Option Addr) (k : Nat) (s : ByteArray) : Prop := if k = 3 ∧ s.size ≠ 0 then ReAt W B v s else v = none
theorem ReP.keep {W W' : World} {B C : Nat} {v : Option Addr} {k : Nat} {s : ByteArray} (h : ReP W B v k s) (hC : C ≤ B) (hk : ∀ g, B ≤ g → g < W.heap.size → W'.heap[g]? = W.heap[g]?) : ReP W' C v k s := by
 unfold ReP at *
 by_cases c : k = 3 ∧ s.size ≠ 0
 · rw [if_pos c] at h ⊢
   obtain ⟨mb, h1, h2, n, st, h3⟩ := h
   exact ⟨mb, by omega, h2, n, st, (hk mb h1 (blk_lt h3)).trans h3⟩
 · rw [if_neg c] at h ⊢; exact h
end Go.Proofs.YtbekghinikjjeaaGreatDoor.pkk
