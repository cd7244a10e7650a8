/- A machine as it lies, its commands, its steps, pick.New. -/
import Derived.Test.YtcpokkpjeeblnaaGreatDoorKIn
import Derived.Test.YtcpokkpjeeblnaaGreatDoorKSt
import Derived.Deep.RegionWith
import Derived.OrdersHeld
set_option maxRecDepth 100000
set_option maxHeartbeats 4000000
set_option linter.unusedSimpArgs false
set_option linter.unusedVariables false
namespace Go.Proofs.YtcpokkpjeeblnaaGreatDoor
open Go.RowKit
namespace mch
theorem hideT {p : Prop} (h : p) : Hid p := h
structure Bk where
  m : Nat
  og : Nat
  pb : Nat
  rb : Nat
  qb : Nat
  sb : Nat
structure Mm where
  sp : List UInt8
  nx : Int
  tk : Nat
  en : Bool
  q : inp.Qs
  S : sto.Sr
abbrev pt (b : Nat) : Value := .pointer (some ⟨b, 0, none⟩)
abbrev tx (l : List UInt8) : Value := .string ⟨l.toArray⟩
def mV (k : Bk) (s : Mm) : Array Value := #[.slice (some ⟨k.og, 0, none⟩) 1 1, .bool false, pt k.pb, pt k.qb, pt k.sb, tx s.sp, .string ⟨#[]⟩, .slice none 0 0, .int .i64 0, .int .i64 s.nx, .bool false, .bool false, .bool false, .bool false, .int .i64 (s.tk : Nat), .bool s.en, .int .i64 0]
def rV : Array Value := #[.int .i64 0, .int .i64 0, .pointer none, .int .i64 0, .int .i64 0, .pointer none, .bool false, .bool false]
structure MA (W : World) (N : Nat) (Fq Fs : Nat → Prop) (k : Bk) (oc : Array Value) (s : Mm) : Prop where
  blk : W.heap[k.m]? = some (.cells (mV k s) 43 (0, 0))
  op : W.heap[k.og]? = some (.cells oc 74 (0, 0))
  pk : W.heap[k.pb]? = some (.cells #[.slice (some ⟨k.rb, 0, none⟩) 1 1, .pointer none] 105 (0, 0))
  rw : W.heap[k.rb]? = some (.cells rV 109 (0, 0))
  qu : inp.I0 W Fq k.qb s.q
  st : sto.I0 W Fs k.sb s.S
  dq : ∀ j, Fq j → N ≤ j ∧ j ≠ k.m ∧ j ≠ k.og ∧ j ≠ k.pb ∧ j ≠ k.rb ∧ ¬ Fs j
  ds : ∀ j, Fs j → N ≤ j ∧ j ≠ k.m ∧ j ≠ k.og ∧ j ≠ k.pb ∧ j ≠ k.rb
  gm : N ≤ k.m
  gr : N ≤ k.rb
def MX (W : World) (N : Nat) (k : Bk) (oc : Array Value) (s : Mm) : Prop := ∃ Fq Fs, MA W N Fq Fs k oc s
theorem blk_lt {W : World} {b : Nat} {o : Obj} (h : W.heap[b]? = some o) : b < W.heap.size := (Array.getElem?_eq_some_iff.1 h).1
theorem blk_ne {W : World} {a b : Nat} {x y : Array Value} {t u : TypeId} (h : W.heap[a]? = some (.cells x t (0, 0))) (h' : W.heap[b]? = some (.cells y u (0, 0))) (hn : t ≠ u) : a ≠ b := fun e => by
  rw [e, h'] at h
  injection h with h
  injection h with _ h _
  exact hn h.symm
theorem MA.below {W W' : World} {N : Nat} {Fq Fs : Nat → Prop} {k : Bk} {oc : Array Value} {s : Mm} (h : MA W N Fq Fs k oc s) (hb : Below W.heap.size W W') : MA W' N Fq Fs k oc s :=
  ⟨(hb.block _ (blk_lt h.blk)).trans h.blk, (hb.block _ (blk_lt h.op)).trans h.op, (hb.block _ (blk_lt h.pk)).trans h.pk, (hb.block _ (blk_lt h.rw)).trans h.rw, inp.i0_keep h.qu hb.size (fun j hj => hb.block j (inp.i0_lt h.qu j hj)), h.st.keep (fun j hj => hb.block j (h.st.lt j hj)), h.dq, h.ds, h.gm, h.gr⟩
theorem MA.callQ {W W' : World} {N : Nat} {Fq Fs F' : Nat → Prop} {k : Bk} {oc : Array Value} {s : Mm} {q' : inp.Qs} (h : MA W N Fq Fs k oc s) (ht : inp.Tch Fq W W') (hI : inp.I0 W' F' k.qb q') (hs : ∀ j, F' j → Fq j ∨ W.heap.size ≤ j) : MA W' N F' Fs k oc { s with q := q' } := by
  have lm := blk_lt h.blk
  have lo := blk_lt h.op
  have lp := blk_lt h.pk
  have lr := blk_lt h.rw
  have gm := h.gm
  refine ⟨(ht.block _ lm (fun e => (h.dq _ e).2.1 rfl)).trans h.blk, (ht.block _ lo (fun e => (h.dq _ e).2.2.1 rfl)).trans h.op, (ht.block _ lp (fun e => (h.dq _ e).2.2.2.1 rfl)).trans h.pk, (ht.block _ lr (fun e => (h.dq _ e).2.2.2.2.1 rfl)).trans h.rw, hI, h.st.keep (fun j hj => ht.block j (h.st.lt j hj) (fun e => (h.dq j e).2.2.2.2.2 hj)), fun j hj => ?_, h.ds, h.gm, h.gr⟩
  rcases hs j hj with e | e
  · exact h.dq j e
  · exact ⟨by omega, by omega, by omega, by omega, by omega, fun hf => by have := h.st.lt j hf; omega⟩
theorem MA.callS {W W' : World} {N : Nat} {Fq Fs F' : Nat → Prop} {k : Bk} {oc : Array Value} {s : Mm} {S' : sto.Sr} (h : MA W N Fq Fs k oc s) (ht : sto.Tch Fs W W') (hI : sto.I0 W' F' k.sb S') (hs : ∀ j, F' j → Fs j ∨ W.heap.size ≤ j) : MA W' N Fq F' k oc { s with S := S' } := by
  have lm := blk_lt h.blk
  have lo := blk_lt h.op
  have lp := blk_lt h.pk
  have lr := blk_lt h.rw
  have gm := h.gm
  refine ⟨(ht.block _ lm (fun e => (h.ds _ e).2.1 rfl)).trans h.blk, (ht.block _ lo (fun e => (h.ds _ e).2.2.1 rfl)).trans h.op, (ht.block _ lp (fun e => (h.ds _ e).2.2.2.1 rfl)).trans h.pk, (ht.block _ lr (fun e => (h.ds _ e).2.2.2.2 rfl)).trans h.rw, inp.i0_keep h.qu ht.size (fun j hj => ht.block j (inp.i0_lt h.qu j hj) (h.dq j hj).2.2.2.2.2), hI, fun j hj => ⟨(h.dq j hj).1, (h.dq j hj).2.1, (h.dq j hj).2.2.1, (h.dq j hj).2.2.2.1, (h.dq j hj).2.2.2.2.1, fun hf => ?_⟩, fun j hj => ?_, h.gm, h.gr⟩
  · rcases hs j hf with e | e
    · exact (h.dq j hj).2.2.2.2.2 e
    · have := inp.i0_lt h.qu j hj; omega
  · rcases hs j hj with e | e
    · exact h.ds j e
    · exact ⟨by omega, by omega, by omega, by omega, by omega⟩
theorem MA.at {W W' : World} {N : Nat} {Fq Fs : Nat → Prop} {k : Bk} {oc : Array Value} {s s' : Mm} (h : MA W N Fq Fs k oc s) (hk : ∀ j, j ≠ k.m → W'.heap[j]? = W.heap[j]?) (hz : W.heap.size ≤ W'.heap.size) (hb : W'.heap[k.m]? = some (.cells (mV k s') 43 (0, 0))) (hq : s'.q = s.q) (hS : s'.S = s.S) : MA W' N Fq Fs k oc s' :=
  ⟨hb, (hk _ (Ne.symm (blk_ne h.blk h.op (by decide)))).trans h.op, (hk _ (Ne.symm (blk_ne h.blk h.pk (by decide)))).trans h.pk, (hk _ (Ne.symm (blk_ne h.blk h.rw (by decide)))).trans h.rw, hq ▸ inp.i0_keep h.qu hz (fun j hj => hk j (h.dq j hj).2.1), hS ▸ h.st.keep (fun j hj => hk j (h.ds j hj).2.1), h.dq, h.ds, h.gm, h.gr⟩
theorem MA.put {W : World} {N : Nat} {Fq Fs : Nat → Prop} {k : Bk} {oc : Array Value} {s s' : Mm} (h : MA W N Fq Fs k oc s) (j : Nat) (u : Value) (hv : (mV k s).setIfInBounds j u = mV k s') (hq : s'.q = s.q) (hS : s'.S = s.S) : MA (W.setCell ⟨k.m, j, none⟩ u) N Fq Fs k oc s' :=
  h.at (fun i hi => inp.put_far W k.m j u hi) (by rw [inp.put_size]; exact Nat.le_refl _) (by rw [inp.put_same W k.m j u h.blk, hv]) hq hS
theorem MA.fz {W : World} {N : Nat} {Fq Fs : Nat → Prop} {k : Bk} {oc : Array Value} {s : Mm} (h : MA W N Fq Fs k oc s) (j : Nat) : W.frozen? ⟨k.m, j, none⟩ = false := by simp [World.frozen?, h.blk]
theorem MA.c {W : World} {N : Nat} {Fq Fs : Nat → Prop} {k : Bk} {oc : Array Value} {s : Mm} (h : MA W N Fq Fs k oc s) (j : Nat) {v : Value} (hv : (mV k s)[j]? = some v) : W.cell? ⟨k.m, j, none⟩ = some v := by simp [World.cell?, h.blk, hv]
theorem MA.ns {W : World} {N : Nat} {Fq Fs : Nat → Prop} {k : Bk} {oc : Array Value} {s : Mm} (h : MA W N Fq Fs k oc s) : N ≤ W.heap.size := Nat.le_of_lt (Nat.lt_of_le_of_lt h.gm (blk_lt h.blk))
theorem MA.bq {W W' : World} {N : Nat} {Fq Fs : Nat → Prop} {k : Bk} {oc : Array Value} {s : Mm} (h : MA W N Fq Fs k oc s) (ht : inp.Tch Fq W W') : Below N W W' := ht.below (fun j hj => (h.dq j hj).1) h.ns
theorem MA.bs {W W' : World} {N : Nat} {Fq Fs : Nat → Prop} {k : Bk} {oc : Array Value} {s : Mm} (h : MA W N Fq Fs k oc s) (ht : sto.Tch Fs W W') : Below N W W' := ht.below (fun j hj => (h.ds j hj).1) h.ns
theorem MA.bp {W : World} {N : Nat} {Fq Fs : Nat → Prop} {k : Bk} {oc : Array Value} {s : Mm} (h : MA W N Fq Fs k oc s) (j : Nat) (u : Value) : Below N W (W.setCell ⟨k.m, j, none⟩ u) := (Below.refl _ _).setCell (p := ⟨k.m, j, none⟩) h.gm u
end mch
end Go.Proofs.YtcpokkpjeeblnaaGreatDoor
namespace Go.Proofs.YtcpokkpjeeblnaaGreatDoor
open Go.RowKit
namespace mch
variable {W : World} {N : Nat} {Fq Fs : Nat → Prop} {k : Bk} {oc : Array Value} {s : Mm}
theorem reads_any (h : MA W N Fq Fs k oc s) : Calls Tryz.prog 20 #[pt k.m] W fun e w' => e = .returned (.bool (decide (s.nx = -1))) ∧ w' = W := by
  have c9 := h.c 9 (v := .int .i64 s.nx) rfl
  have c12 := h.c 12 (v := .bool false) rfl
  clear h
  go_enter Tryz.func20, Tryz.ntmps20
  by_cases hn : s.nx = -1
  · have n1 : (s.nx == -1) = true := by simp [hn]
    rw [decide_eq_true hn]
    clear hn
    go_wp2
    go_ret
    exact ⟨rfl, rfl⟩
  · have n1 : (s.nx == -1) = false := by simp [hn]
    rw [decide_eq_false hn]
    clear hn
    go_wp2
    go_ret
    exact ⟨rfl, rfl⟩
theorem wants_any (h : MA W N Fq Fs k oc s) (ho : oc[8]? = some (.int .u8 112)) (hn : s.nx = -1 ∨ s.nx = 0 ∨ s.nx = 1) : Calls Tryz.prog 18 #[pt k.m] W fun e w' => e = .returned (.bool (decide (s.nx = -1))) ∧ Below W.heap.size W w' := by
  have c9 := h.c 9 (v := .int .i64 s.nx) rfl
  have c0 := h.c 0 (v := .slice (some ⟨k.og, 0, none⟩) 1 1) rfl
  have o8 : W.cell? ⟨k.og, 8, none⟩ = some (.int .u8 112) := by simp [World.cell?, h.op, ho]
  have HR := hideT (reads_any h)
  clear h ho
  go_enter Tryz.func18, Tryz.ntmps18
  rcases hn with hn | hn | hn
  · rw [hn] at c9 HR ⊢
    go_wp2_with fail
    refine HR.out.mono ?_
    rintro e w1 ⟨rfl, rfl⟩
    clear HR
    go_wp2
    go_ret
    exact ⟨rfl, Below.refl _ _⟩
  · rw [hn] at c9 ⊢
    clear HR
    go_upto_region 6 with fail
    go_quiet (fail)
    go_wp2
    go_ret
    exact ⟨rfl, inp.below_drewN _ _ _⟩
  · rw [hn] at c9 ⊢
    clear HR
    go_wp2
    go_ret
    exact ⟨rfl, Below.refl _ _⟩
theorem end_any (h : MA W N Fq Fs k oc s) : Calls Tryz.prog 22 #[pt k.m, .int .i64 0] W fun e w' => e = .returned (.tuple #[]) ∧ MA w' N Fq Fs k oc { s with en := true } ∧ Below N W w' := by
  have f15 := h.fz 15
  have f16 := h.fz 16
  have c15 := h.c 15 (v := .bool s.en) rfl
  have c16 := h.c 16 (v := .int .i64 0) rfl
  have HM := hideT h
  clear h
  go_enter Tryz.func22, Tryz.ntmps22
  go_wp2
  have h1 := HM.out.put (s' := { s with en := true }) 15 (.bool true) rfl rfl rfl
  have h2 := h1.put (s' := { s with en := true }) 16 (.int .i64 0) rfl rfl rfl
  go_end0
  exact ⟨rfl, h2, (HM.out.bp 15 _).trans (h1.bp 16 _)⟩
theorem begin_any (h : MA W N Fq Fs k oc s) (ho : inp.QOk s.q 100) : Calls Tryz.prog 35 #[pt k.m] W fun e w' => e = .returned (.tuple #[]) ∧ MX w' N k oc { s with sp := inp.nextL s.q, q := s.q.next, nx := 0 } ∧ Below N W w' := by
  have c12 := h.c 12 (v := .bool false) rfl
  have c3 := h.c 3 (v := pt k.qb) rfl
  have HQ := hideT (inp.next_any h.qu ho (by omega))
  have HM := hideT h
  clear h
  go_enter Tryz.func35, Tryz.ntmps35
  go_wp2_with fail
  refine HQ.out.mono ?_
  rintro e w1 ⟨rfl, ht, F', hI, hs⟩
  have h1 := HM.out.callQ ht hI hs
  have HB := hideT (HM.out.bq ht)
  have f5 := h1.fz 5
  have f10 := h1.fz 10
  have f12 := h1.fz 12
  have f9 := h1.fz 9
  have c5 := h1.c 5 (v := tx s.sp) rfl
  have c10 := h1.c 10 (v := .bool false) rfl
  have c12 := h1.c 12 (v := .bool false) rfl
  have c9 := h1.c 9 (v := .int .i64 s.nx) rfl
  have H1 := hideT h1
  clear ht hI hs h1 HQ
  go_wp2
  have h2 := H1.out.put (s' := { s with sp := inp.nextL s.q, q := s.q.next }) 5 (tx (inp.nextL s.q)) rfl rfl rfl
  have h3 := h2.put (s' := { s with sp := inp.nextL s.q, q := s.q.next }) 10 (.bool false) rfl rfl rfl
  have h4 := h3.put (s' := { s with sp := inp.nextL s.q, q := s.q.next }) 12 (.bool false) rfl rfl rfl
  have h5 := h4.put (s' := { s with sp := inp.nextL s.q, q := s.q.next, nx := 0 }) 9 (.int .i64 0) rfl rfl rfl
  go_end0
  exact ⟨rfl, ⟨_, _, h5⟩, HB.out.trans ((((H1.out.bp 5 _).trans (h2.bp 10 _)).trans (h3.bp 12 _)).trans (h4.bp 9 _))⟩
theorem lst_app (l : List UInt8) : (⟨l.toArray⟩ : ByteArray) ++ ⟨#[10]⟩ = ⟨(l ++ [10]).toArray⟩ := by apply ByteArray.ext; simp [ByteArray.data_append]
theorem line_any (h : MA W N Fq Fs k oc s) (ho : sto.SOk s.S) (l : List UInt8) (hl : l.length ≤ 2000) (hp : sto.printE s.S (l ++ [10]) = 0) : Calls Tryz.prog 52 #[pt k.m, tx l] W fun e w' => e = .returned (.int .i64 0) ∧ MX w' N k oc { s with S := s.S.print (l ++ [10]) } ∧ Below N W w' := by
  have c4 := h.c 4 (v := pt k.sb) rfl
  have HP := hideT (sto.print_any h.st ho ⟨(l ++ [10]).toArray⟩ (by show (l ++ [10]).toArray.size ≤ _; simp; omega))
  have HM := hideT h
  have HA := hideT (lst_app l)
  clear h
  go_enter Tryz.func52, Tryz.ntmps52
  go_wp2_with fail
  rw [HA.out]
  refine HP.out.mono ?_
  rintro e w1 ⟨rfl, ht, F', hI, hs⟩
  have h1 := HM.out.callS ht hI hs
  have HB := hideT (HM.out.bs ht)
  have H1 := hideT h1
  clear ht hI hs h1 HP
  go_wp2
  go_ret
  exact ⟨rfl, ⟨_, _, H1.out⟩, HB.out⟩
theorem put_any (h : MA W N Fq Fs k oc s) : Calls Tryz.prog 53 #[pt k.m] W fun e w' => e = .returned (.int .i64 0) ∧ MX w' N k oc s ∧ Below N W w' := by
  have c7 := h.c 7 (v := .slice none 0 0) rfl
  have c8 := h.c 8 (v := .int .i64 0) rfl
  have f7 := h.fz 7
  have f8 := h.fz 8
  have HM := hideT h
  clear h
  go_enter Tryz.func53, Tryz.ntmps53
  go_wp2_with fail
  go_loopw [13] (fun i wr => i = .int .i64 0 ∧ wr = W) (fun _ _ => 0)
  case atStart => exact ⟨rfl, rfl⟩
  case round =>
    obtain ⟨rfl, rfl⟩ := hrel
    go_wp2
    have h1 := HM.out.put (s' := s) 7 (.slice none 0 0) rfl rfl rfl
    have h2 := h1.put (s' := s) 8 (.int .i64 0) rfl rfl rfl
    go_ret
    exact ⟨rfl, ⟨_, _, h2⟩, (HM.out.bp 7 _).trans (h1.bp 8 _)⟩
end mch
end Go.Proofs.YtcpokkpjeeblnaaGreatDoor
namespace Go.Proofs.YtcpokkpjeeblnaaGreatDoor
open Go.RowKit
namespace mch
variable {W : World} {N : Nat} {Fq Fs : Nat → Prop} {k : Bk} {oc : Array Value} {s : Mm}
abbrev mo (ln : Int) (la : Bool) (sp : Value) : Value := .agg #[.int .i64 ln, .bool la, sp]
theorem opens_any {rb : Nat} (hr : W.heap[rb]? = some (.cells rV 109 (0, 0))) (ln : Int) (la : Bool) (t : ByteArray) : Calls Tryz.prog 114 #[pt rb, mo ln la (.string t)] W fun e w' => e = .returned (.bool false) ∧ Below W.heap.size W w' := by
  have hb := (Below.refl W.heap.size W).alloc (Nat.le_refl _) (.cells #[.int .i64 ln, .bool la, .string t] 159)
  have c3 : (W.alloc (.cells #[.int .i64 ln, .bool la, .string t] 159)).cell? ⟨rb, 3, none⟩ = some (.int .i64 0) := by
    simp [World.cell?, (hb.block rb (blk_lt hr)).trans hr, rV]
  have HB := hideT hb
  clear hb hr
  go_enter Tryz.func114, Tryz.ntmps114
  go_wp2
  go_ret
  exact ⟨rfl, HB.out⟩
theorem meets_any (pb : Nat) (ln : Int) (la : Bool) (t : ByteArray) : Calls Tryz.prog 113 #[pt pb, .agg #[.int .i64 0, .int .i64 0, .pointer none], mo ln la (.string t)] W fun e w' => e = .returned (.tuple #[.bool true, .int .i64 0]) ∧ Below W.heap.size W w' := by
  have hb := ((Below.refl W.heap.size W).alloc (Nat.le_refl _) (.cells #[.int .i64 0, .int .i64 0, .pointer none] 107)).alloc (by simp) (.cells #[.int .i64 ln, .bool la, .string t] 159)
  have HB := hideT hb
  clear hb
  go_enter Tryz.func113, Tryz.ntmps113
  go_wp2
  go_ret2
  exact ⟨rfl, HB.out⟩
theorem look_any {rb : Nat} (hr : W.heap[rb]? = some (.cells rV 109 (0, 0))) (pb : Nat) (ln : Int) (la : Bool) (t : ByteArray) : Calls Tryz.prog 77 #[pt pb, pt rb, mo ln la (.string t)] W fun e w' => e = .returned (.tuple #[.bool true, .bool false, .int .i64 0]) ∧ Below W.heap.size W w' := by
  have hb := (Below.refl W.heap.size W).alloc (Nat.le_refl _) (.cells #[.int .i64 ln, .bool la, .string t] 159)
  have hn := heap_alloc_new W (.cells #[.int .i64 ln, .bool la, .string t] 159)
  have hr2 := (hb.block rb (blk_lt hr)).trans hr
  obtain ⟨X, hX⟩ : ∃ X, X = W.alloc (.cells #[.int .i64 ln, .bool la, .string t] 159) := ⟨_, rfl⟩
  rw [← hX] at hb hn hr2
  have HB := hideT hb
  have HN := hideT hn
  have HR := hideT hr2
  have c0 : X.cell? ⟨rb, 0, none⟩ = some (.int .i64 0) := by simp [World.cell?, hr2, rV]
  have c1 : X.cell? ⟨rb, 1, none⟩ = some (.int .i64 0) := by simp [World.cell?, hr2, rV]
  have c2 : X.cell? ⟨rb, 2, none⟩ = some (.pointer none) := by simp [World.cell?, hr2, rV]
  have c7 : X.cell? ⟨rb, 7, none⟩ = some (.bool false) := by simp [World.cell?, hr2, rV]
  have n0 : X.cell? ⟨W.heap.size, 0, none⟩ = some (.int .i64 ln) := by simp [World.cell?, hn]
  have n1 : X.cell? ⟨W.heap.size, 1, none⟩ = some (.bool la) := by simp [World.cell?, hn]
  have n2 : X.cell? ⟨W.heap.size, 2, none⟩ = some (.string t) := by simp [World.cell?, hn]
  have HE := hideT (fun V => meets_any (W := V) pb ln la t)
  clear hb hn hr2 hr
  go_enter Tryz.func77, Tryz.ntmps77
  go_upto_region 1 with fail
  rw [← hX]
  clear hX
  go_upto_region 2 with fail
  go_region_with (go_at_call 113; refine (HE.out _).mono ?_; rintro x w1 ⟨rfl, hb1⟩; have H1 := hideT hb1; clear hb1)
  all_goals
    have hX1 : Below X.heap.size X w1 := (Below.refl X.heap.size X).drew.trans H1.out
    have HX1 := hideT hX1
    clear hX1
    have HO := hideT (opens_any ((H1.out.block rb (blk_lt HR.out)).trans HR.out) ln la t)
    have m0 := inp.keep_cell H1.out n0
    have m1 := inp.keep_cell H1.out n1
    have m2 := inp.keep_cell H1.out n2
    clear c0 c1 c2 c7 n0 n1 n2 HE HN
    go_wp2_with fail
    refine HO.out.mono ?_
    rintro e w2 ⟨rfl, hb2⟩
    have HF := hideT (HB.out.trans ((HX1.out.trans (hb2.mono HX1.out.size)).mono HB.out.size))
    clear hb2 HO
    go_wp2
    go_ret3
    exact ⟨rfl, HF.out⟩
theorem MA.row {W' : World} (h : MA W N Fq Fs k oc s) (hk : ∀ j, j ≠ k.rb → W'.heap[j]? = W.heap[j]?) (hz : W.heap.size ≤ W'.heap.size) (hb : W'.heap[k.rb]? = some (.cells rV 109 (0, 0))) : MA W' N Fq Fs k oc s :=
  ⟨(hk _ (blk_ne h.blk h.rw (by decide))).trans h.blk, (hk _ (blk_ne h.op h.rw (by decide))).trans h.op, (hk _ (blk_ne h.pk h.rw (by decide))).trans h.pk, hb, inp.i0_keep h.qu hz (fun j hj => hk j (h.dq j hj).2.2.2.2.1), h.st.keep (fun j hj => hk j (h.ds j hj).2.2.2.2), h.dq, h.ds, h.gm, h.gr⟩
theorem ask_any (h : MA W N Fq Fs k oc s) (ln : Int) (la : Bool) (t : ByteArray) : Calls Tryz.prog 54 #[pt k.pb, .int .i64 0, .int .i64 ln, .bool la, .string t] W fun e w' => e = .returned (.tuple #[.bool true, .bool true, .int .i64 0]) ∧ MA w' N Fq Fs k oc s ∧ Below N W w' := by
  have p0 : W.cell? ⟨k.pb, 0, none⟩ = some (.slice (some ⟨k.rb, 0, none⟩) 1 1) := by simp [World.cell?, h.pk]
  have HL := hideT (look_any h.rw k.pb ln la t)
  have HM := hideT h
  clear h
  go_enter Tryz.func54, Tryz.ntmps54
  go_wp2_with fail
  refine HL.out.mono ?_
  rintro e w1 ⟨rfl, hb1⟩
  have h1 := HM.out.below hb1
  have r6 : w1.cell? ⟨k.rb, 6, none⟩ = some (.bool false) := by simp [World.cell?, h1.rw, rV]
  have r7 : w1.cell? ⟨k.rb, 7, none⟩ = some (.bool false) := by simp [World.cell?, h1.rw, rV]
  have g7 : w1.frozen? ⟨k.rb, 7, none⟩ = false := by simp [World.frozen?, h1.rw]
  have H1 := hideT h1
  have HB := hideT (hb1.mono HM.out.ns)
  clear h1 hb1 HL
  go_wp2
  have h2 := H1.out.row (W' := w1.setCell ⟨k.rb, 7, none⟩ (.bool false)) (fun j hj => inp.put_far w1 k.rb 7 _ hj) (by rw [inp.put_size]; exact Nat.le_refl _) (by rw [inp.put_same w1 k.rb 7 _ H1.out.rw]; rfl)
  go_ret3
  exact ⟨rfl, h2, HB.out.trans ((Below.refl _ _).setCell (p := ⟨k.rb, 7, none⟩) HM.out.gr _)⟩
end mch
end Go.Proofs.YtcpokkpjeeblnaaGreatDoor
namespace Go.Proofs.YtcpokkpjeeblnaaGreatDoor
open Go.RowKit
namespace mch
variable {W : World} {N : Nat} {Fq Fs : Nat → Prop} {k : Bk} {oc : Array Value} {s : Mm}
theorem tq {P : Program} {ops : Array Oper} {Q : Exit → Act → World → Prop} {S : World → Prop} {md : Region.Mode} (i : Nat) (d : Tmp) {w : World} (hS : S w) {oi : Oper} {v : Value} {fuel : Nat} {listed : Array Bool} {a : Act} (h : wpAnyH P md ops Q S fuel (listed.setIfInBounds i true) (a.put (some d) v) w) (hi : ops[i]? = some oi := by rfl) (hd : oi.dst = some d := by rfl)
    (hs : Region.noSelect ops = true := by kernel_rfl) (hf : Region.free md ops listed i = true := by kernel_rfl) (hr : (Region.ready md ops listed).contains i = true := by kernel_rfl)
    (hQ : ∀ c a w, Q (.panic c) (a.put (some d) v) w → Q (.panic c) a w := by exact fun _ _ _ h => h) (hw : Region.wanted oi (yielded ops a.tmps) = true := by first | exact inp.wanted_none rfl _ | rfl) (hy : ∀ w, S w → (execOp a.eval oi).run P w = .ok (.value v) w := by intro V hV; go_simp; (try with_reducible rfl)) : wpAnyH P md ops Q S (fuel + 1) listed a w :=
  inp.take_d i (some d) hi hd hs hf hr hQ hw hS hy h
theorem write_any (h : MA W N Fq Fs k oc s) (hc : oc[8]? = some (.int .u8 112)) (ho : sto.SOk s.S) (hl : s.sp.length ≤ 2000) (hp : sto.printE s.S (s.sp ++ [10]) = 0) : Calls Tryz.prog 78 #[pt k.m, pt k.og] W fun e w' => e = .returned (.int .i64 0) ∧ MX w' N k oc { s with S := s.S.print (s.sp ++ [10]) } ∧ Below N W w' := by
  have o8 : W.cell? ⟨k.og, 8, none⟩ = some (.int .u8 112) := by simp [World.cell?, h.op, hc]
  have c5 := h.c 5 (v := tx s.sp) rfl
  have HP := hideT (line_any h ho s.sp hl hp)
  clear h hp
  go_enter Tryz.func78, Tryz.ntmps78
  go_wp2_with fail
  refine HP.out.mono ?_
  rintro e w1 ⟨rfl, h1, hb⟩
  have H1 := hideT (And.intro h1 hb)
  clear h1 hb HP
  go_wp2
  go_ret
  exact ⟨rfl, H1.out⟩
theorem do_any (h : MA W N Fq Fs k oc s) (hc : oc[8]? = some (.int .u8 112)) (ho : sto.SOk s.S) (hl : s.sp.length ≤ 2000) (hp : sto.printE s.S (s.sp ++ [10]) = 0) (b : Bool) : Calls Tryz.prog 55 #[pt k.m, pt k.og, .bool b] W fun e w' => e = .returned (.int .i64 0) ∧ MX w' N k oc { s with S := s.S.print (s.sp ++ [10]) } ∧ Below N W w' := by
  have o8 : W.cell? ⟨k.og, 8, none⟩ = some (.int .u8 112) := by simp [World.cell?, h.op, hc]
  have HP := hideT (write_any h hc ho hl hp)
  clear h hp
  go_enter Tryz.func55, Tryz.ntmps55
  go_wp2_with fail
  refine HP.out.mono ?_
  rintro e w1 ⟨rfl, h1, hb⟩
  have H1 := hideT (And.intro h1 hb)
  clear h1 hb HP
  go_wp2
  go_ret
  exact ⟨rfl, H1.out⟩
theorem cycle_any (h : MA W N Fq Fs k oc s) (ho : sto.SOk s.S) (hl : s.sp.length ≤ 2000) (hp : sto.printE s.S (s.sp ++ [10]) = 0) : Calls Tryz.prog 36 #[pt k.m] W fun e w' => e = .returned (.int .i64 0) ∧ MX w' N k oc { s with S := s.S.print (s.sp ++ [10]), nx := -1 } ∧ Below N W w' := by
  have c1 := h.c 1 (v := .bool false) rfl
  have c11 := h.c 11 (v := .bool false) rfl
  have c5 := h.c 5 (v := tx s.sp) rfl
  have HP := hideT (line_any h ho s.sp hl hp)
  clear h hp
  go_enter Tryz.func36, Tryz.ntmps36
  go_wp2_with fail
  refine HP.out.mono ?_
  rintro e w1 ⟨rfl, ⟨Fq1, Fs1, h1⟩, hb⟩
  have HO := hideT (put_any h1)
  have HB := hideT hb
  clear h1 hb HP c1 c11 c5
  go_wp2_with fail
  refine HO.out.mono ?_
  rintro e w2 ⟨rfl, ⟨Fq2, Fs2, h2⟩, hb2⟩
  have c13 := h2.c 13 (v := .bool false) rfl
  have c11 := h2.c 11 (v := .bool false) rfl
  have c9 := h2.c 9 (v := .int .i64 s.nx) rfl
  have f11 := h2.fz 11
  have f9 := h2.fz 9
  have H2 := hideT h2
  have HB2 := hideT (HB.out.trans hb2)
  clear h2 hb2 HO HB
  go_wp2
  have h3 := H2.out.put (s' := { s with S := s.S.print (s.sp ++ [10]) }) 11 (.bool false) rfl rfl rfl
  have h4 := h3.put (s' := { s with S := s.S.print (s.sp ++ [10]), nx := -1 }) 9 (.int .i64 (-1)) rfl rfl rfl
  go_ret
  exact ⟨rfl, ⟨_, _, h4⟩, HB2.out.trans ((H2.out.bp 11 _).trans (h3.bp 9 _))⟩
end mch
end Go.Proofs.YtcpokkpjeeblnaaGreatDoor
namespace Go.Proofs.YtcpokkpjeeblnaaGreatDoor
open Go.RowKit
namespace mch
variable {W : World} {N : Nat} {Fq Fs : Nat → Prop} {k : Bk} {oc : Array Value} {s : Mm}
theorem command_any (h : MA W N Fq Fs k oc s) (hc : oc[8]? = some (.int .u8 112)) (hq : inp.QOk s.q 100) (ho : sto.SOk s.S) (hl : s.sp.length ≤ 2000) (hp : sto.printE s.S (s.sp ++ [10]) = 0) (hn : s.nx = 0) : Calls Tryz.prog 37 #[pt k.m] W fun e w' => e = .returned (.int .i64 0) ∧ MX w' N k oc { s with S := s.S.print (s.sp ++ [10]), nx := 1 } ∧ Below N W w' := by
  have c0 := h.c 0 (v := .slice (some ⟨k.og, 0, none⟩) 1 1) rfl
  have c9 := h.c 9 (v := .int .i64 0) (by rw [← hn]; rfl)
  have HM := hideT h
  have HN := hideT hn
  have HQ := hideT hq
  have HP := hideT hp
  clear h hn hq hp
  go_enter Tryz.func37, Tryz.ntmps37
  go_upto_region 1 with fail
  go_quiet (fail)
  go_upto_region 2 with fail
  clear c0 c9
  have hX := HM.out.below (inp.below_drewN W.heap.size W nq)
  have BX := hideT (inp.below_drewN N W nq)
  obtain ⟨X, hXe⟩ : ∃ X, X = W.drewN nq := ⟨_, rfl⟩
  rw [← hXe] at hX BX ⊢
  have HX := hideT hX
  clear hXe hX
  refine wp_region_held (S := fun V => MA V N Fq Fs k oc s) (by kernel_rfl) ?_
  have s0 : MA X.drew N Fq Fs k oc s := HX.out.below (Below.refl _ _).drew
  have B0 := hideT (show Below N W X.drew from BX.out.trans (Below.refl _ _).drew)
  refine tq 0 17 s0 ?_
  refine tq 1 18 s0 ?_
  refine tq 2 19 s0 ?_
  refine tq 3 20 s0 ?_ (hy := by intro V hV; have q := hV.c 2 (v := pt k.pb) rfl; go_simp; (try with_reducible rfl))
  refine tq 4 21 s0 ?_
  simp only [Act.put, List.setIfInBounds_toArray, List.set_cons_zero, List.set_cons_succ]
  refine tq 5 22 s0 ?_
  refine tq 6 23 s0 ?_
  refine tq 7 24 s0 ?_ (hy := by intro V hV; have q := hV.c 9 (v := .int .i64 0) (by rw [← HN.out]; rfl); go_simp; (try with_reducible rfl))
  refine tq 8 25 s0 ?_
  refine tq 9 26 s0 ?_
  simp only [Act.put, List.setIfInBounds_toArray, List.set_cons_zero, List.set_cons_succ]
  refine tq 10 27 s0 ?_
  refine tq 11 28 s0 ?_ (hy := by intro V hV; have q := hV.c 3 (v := pt k.qb) rfl; go_simp; (try with_reducible rfl))
  refine tq 13 30 s0 ?_
  refine tq 14 31 s0 ?_
  refine tq 15 32 s0 ?_
  simp only [Act.put, List.setIfInBounds_toArray, List.set_cons_zero, List.set_cons_succ]
  refine tq 16 33 s0 ?_ (hy := by intro V hV; have q := hV.c 3 (v := pt k.qb) rfl; go_simp; (try with_reducible rfl))
  refine tq 18 35 s0 ?_
  refine tq 19 36 s0 ?_
  refine tq 20 37 s0 ?_
  refine tq 21 38 s0 ?_ (hy := by intro V hV; have q := hV.c 5 (v := tx s.sp) rfl; go_simp; (try with_reducible rfl))
  simp only [Act.put, List.setIfInBounds_toArray, List.set_cons_zero, List.set_cons_succ]
  refine wpAnyH_all (rs := [12]) (by kernel_rfl) (by simp) (fun i hi => ?_)
  obtain rfl : i = 12 := List.mem_singleton.1 hi
  refine inp.op_call (some 29) rfl rfl (inp.wanted_none rfl _) (by go_simp; (try with_reducible rfl)) (R := fun v w' => v = .int .i64 (s.q.tk : Nat) ∧ MA w' N Fq Fs k oc s ∧ Below N W w') ((inp.number_any s0.qu HQ.out (by omega)).mono (fun e w' h => ⟨_, h.1, rfl, s0.below h.2, B0.out.trans (h.2.mono s0.ns)⟩)) ?_
  rintro v1 w1 ⟨rfl, s1, b1⟩
  refine And.intro s1 ?_
  have B1 := hideT b1
  clear b1
  simp only [Act.put, List.setIfInBounds_toArray, List.set_cons_zero, List.set_cons_succ]
  refine wpAnyH_all (rs := [17]) (by kernel_rfl) (by simp) (fun i hi => ?_)
  obtain rfl : i = 17 := List.mem_singleton.1 hi
  refine inp.op_call (some 34) rfl rfl (inp.wanted_none rfl _) (by go_simp; (try with_reducible rfl)) (R := fun v w' => v = .bool s.q.last ∧ MA w' N Fq Fs k oc s ∧ Below N W w') ((inp.last_any s1.qu HQ.out (by omega)).mono (fun e w' h => ⟨_, h.1, rfl, s1.below h.2, B1.out.trans (h.2.mono s1.ns)⟩)) ?_
  rintro v2 w2 ⟨rfl, s2, b2⟩
  refine And.intro s2 ?_
  have B2 := hideT b2
  clear b2
  simp only [Act.put, List.setIfInBounds_toArray, List.set_cons_zero, List.set_cons_succ]
  refine wpAnyH_all (rs := [22]) (by kernel_rfl) (by simp) (fun i hi => ?_)
  obtain rfl : i = 22 := List.mem_singleton.1 hi
  refine inp.op_call (some 39) rfl rfl (inp.wanted_none rfl _) (by go_simp; (try with_reducible rfl)) (R := fun v w' => v = .tuple #[.bool true, .bool true, .int .i64 0] ∧ MA w' N Fq Fs k oc s ∧ Below N W w') ((ask_any s2 (s.q.tk : Nat) s.q.last ⟨s.sp.toArray⟩).mono (fun e w' h => ⟨_, h.1, rfl, h.2.1, B2.out.trans h.2.2⟩)) ?_
  rintro v3 w3 ⟨rfl, s3, b3⟩
  refine And.intro s3 ?_
  have B3 := hideT b3
  clear b3
  simp only [Act.put, List.setIfInBounds_toArray, List.set_cons_zero, List.set_cons_succ]
  refine tq 23 16 s3 ?_
  refine tq 24 40 s3 ?_
  refine tq 25 41 s3 ?_
  refine tq 26 42 s3 ?_
  refine tq 27 4 s3 ?_
  refine tq 28 5 s3 ?_
  refine tq 29 6 s3 ?_
  simp only [Act.put, List.setIfInBounds_toArray, List.set_cons_zero, List.set_cons_succ]
  refine wpAnyH_done (by kernel_rfl) ?_ _
  have o9 := s3.c 9 (v := .int .i64 0) (by rw [← HN.out]; rfl)
  have f9 := s3.fz 9
  have h4 := s3.put (s' := { s with nx := 1 }) 9 (.int .i64 1) rfl rfl rfl
  have HD := hideT (do_any h4 hc ho hl HP.out true)
  have B4 := hideT (B3.out.trans (s3.bp 9 (.int .i64 1)))
  clear s0 s1 s2 s3 h4 B0 B1 B2 B3 BX HX
  go_wp2_with fail
  refine HD.out.mono ?_
  rintro e w5 ⟨rfl, h5, hb5⟩
  have H5 := hideT (And.intro h5 (B4.out.trans hb5))
  clear h5 hb5 HD
  go_wp2
  go_ret
  exact ⟨rfl, H5.out⟩
end mch
end Go.Proofs.YtcpokkpjeeblnaaGreatDoor
namespace Go.Proofs.YtcpokkpjeeblnaaGreatDoor
open Go.RowKit
namespace mch
def tickM (s : Mm) : Mm :=
  if s.nx = -1 then { s with sp := inp.nextL s.q, q := s.q.next, nx := 0 }
  else if s.nx = 0 then { s with S := s.S.print (s.sp ++ [10]), nx := 1 }
  else { s with S := s.S.print (s.sp ++ [10]), nx := -1 }
def nextM (s : Mm) : Mm := if s.nx = -1 ∧ s.q.last = true then { s with en := true } else tickM { s with tk := s.tk + 1 }
def hung (s : Mm) : Bool := decide (s.nx = -1) && !s.q.ready
def stepR : Nat → Mm → Nat × Mm
  | 0, s => if s.en then (3, s) else (2, s)
  | n + 1, s => if s.en then (3, s) else if hung s then (1, s) else stepR n (nextM s)
structure OkM (s : Mm) (n : Nat) : Prop where
  nx : s.nx = -1 ∨ s.nx = 0 ∨ s.nx = 1
  q : inp.QOk s.q 100
  S : sto.SOk s.S
  sp : s.sp.length ≤ 1024
  wr : s.S.wr + n * 1025 ≤ 32768
  tk : s.tk + n ≤ 9000
theorem print_ok {S : sto.Sr} {l : List UInt8} (h : S.wr + 1025 ≤ 32768) (hl : l.length ≤ 1024) : sto.printE S (l ++ [10]) = 0 ∧ (S.print (l ++ [10])).wr = S.wr + l.length + 1 := by
  have e : sto.printE S (l ++ [10]) = 0 := by unfold sto.printE; rw [if_neg (by simp; omega)]
  refine ⟨e, ?_⟩
  unfold sto.Sr.print
  rw [if_pos e]
  simp
  omega
theorem nextL_len {q : inp.Qs} {n : Nat} (h : inp.QOk q n) : (inp.nextL q).length ≤ 1024 := by
  unfold inp.nextL
  split
  · by_cases hl : q.tk < q.fed.length
    · rw [List.getD_eq_getElem?_getD, List.getElem?_eq_getElem hl]
      exact h.line _ (List.getElem_mem hl)
    · rw [List.getD_eq_getElem?_getD, List.getElem?_eq_none (by omega)]; simp
  · simp
theorem OkM.next {s : Mm} {n : Nat} (h : OkM s (n + 1)) : OkM (nextM s) n := by
  have h1 := h.wr
  have h2 := h.tk
  have hp := print_ok (S := s.S) (l := s.sp) (by omega) h.sp
  have hs := h.sp
  unfold nextM
  split
  · exact ⟨h.nx, h.q, h.S, h.sp, by show s.S.wr + _ ≤ _; omega, by show s.tk + n ≤ _; omega⟩
  · unfold tickM
    split
    · exact ⟨.inr (.inl rfl), h.q.next, h.S, nextL_len h.q, by show s.S.wr + _ ≤ _; omega, by show s.tk + 1 + n ≤ _; omega⟩
    · split
      · exact ⟨.inr (.inr rfl), h.q, h.S.print _, h.sp, by show (s.S.print (s.sp ++ [10])).wr + _ ≤ _; omega, by show s.tk + 1 + n ≤ _; omega⟩
      · exact ⟨.inl rfl, h.q, h.S.print _, h.sp, by show (s.S.print (s.sp ++ [10])).wr + _ ≤ _; omega, by show s.tk + 1 + n ≤ _; omega⟩
variable {W : World} {N : Nat} {Fq Fs : Nat → Prop} {k : Bk} {oc : Array Value} {s : Mm}
theorem tick_any (h : MA W N Fq Fs k oc s) (hc : oc[8]? = some (.int .u8 112)) (hq : inp.QOk s.q 100) (ho : sto.SOk s.S) (hl : s.sp.length ≤ 1024) (hw : s.S.wr + 1025 ≤ 32768) (hn : s.nx = -1 ∨ s.nx = 0 ∨ s.nx = 1) : Calls Tryz.prog 23 #[pt k.m] W fun e w' => e = .returned (.int .i64 0) ∧ MX w' N k oc (tickM s) ∧ Below N W w' := by
  have c0 := h.c 0 (v := .slice (some ⟨k.og, 0, none⟩) 1 1) rfl
  have c9 := h.c 9 (v := .int .i64 s.nx) rfl
  have hp := (print_ok hw hl).1
  unfold tickM
  go_enter Tryz.func23, Tryz.ntmps23
  rcases hn with hn | hn | hn
  · have HB := hideT (begin_any h hq)
    rw [if_pos hn]
    rw [hn] at c9
    clear h hp hn
    go_wp2_with fail
    refine HB.out.mono ?_
    rintro e w1 ⟨rfl, h1, hb⟩
    have H1 := hideT (And.intro h1 hb)
    clear h1 hb HB
    go_wp2
    go_ret
    exact ⟨rfl, H1.out⟩
  · have HB := hideT (command_any h hc hq ho (by omega) hp hn)
    rw [if_neg (by omega), if_pos hn]
    rw [hn] at c9
    clear h hp hn
    go_wp2_with fail
    refine HB.out.mono ?_
    rintro e w1 ⟨rfl, h1, hb⟩
    have H1 := hideT (And.intro h1 hb)
    clear h1 hb HB
    go_wp2
    go_ret
    exact ⟨rfl, H1.out⟩
  · have HB := hideT (cycle_any h ho (by omega) hp)
    rw [if_neg (by omega), if_neg (by omega)]
    rw [hn] at c9
    clear h hp hn
    go_wp2_with fail
    refine HB.out.mono ?_
    rintro e w1 ⟨rfl, h1, hb⟩
    have H1 := hideT (And.intro h1 hb)
    clear h1 hb HB
    go_wp2
    go_ret
    exact ⟨rfl, H1.out⟩
end mch
end Go.Proofs.YtcpokkpjeeblnaaGreatDoor
namespace Go.Proofs.YtcpokkpjeeblnaaGreatDoor
open Go.RowKit
namespace mch
abbrev ad0 : List Value := [.int .i64 0, .int .i64 0, .string ⟨#[]⟩]
theorem addr_any (W : World) : Calls Tryz.prog 73 #[.agg #[.int .i64 0, .int .i64 0, .string ⟨#[]⟩]] W fun e w' => e = .returned (.tuple #[.agg #[.int .i64 0, .int .i64 0, .pointer none], .int .i64 0]) ∧ Below W.heap.size W w' := by
  go_enter Tryz.func73, Tryz.ntmps73
  go_wp2
  refine bodyPost_ret (v := .tuple #[.agg #[.int .i64 0, .int .i64 0, .pointer none], .int .i64 0]) (by simp [results, Tryz.results73, go_sem]) rfl ⟨rfl, ?_⟩
  exact ((Below.refl _ _).alloc (Nat.le_refl _) _).alloc (by simp) _
theorem row_any (W : World) : Calls Tryz.prog 48 #[.agg #[.int .i64 0, .int .i64 0, .string ⟨#[]⟩, .int .i64 0, .int .i64 0, .string ⟨#[]⟩, .bool false]] W fun e w' => e = .returned (.tuple #[.agg #[.int .i64 0, .int .i64 0, .pointer none, .int .i64 0, .int .i64 0, .pointer none, .bool false, .bool false], .int .i64 0]) ∧ Below W.heap.size W w' := by
  obtain ⟨X, hX⟩ : ∃ X, X = (W.alloc (.cells #[.int .i64 0, .int .i64 0, .string ⟨#[]⟩, .int .i64 0, .int .i64 0, .string ⟨#[]⟩, .bool false] 102)).alloc (.cells #[.int .i64 0, .int .i64 0, .pointer none, .int .i64 0, .int .i64 0, .pointer none, .bool false, .bool false] 109) := ⟨_, rfl⟩
  have hA : Below W.heap.size W X := by rw [hX]; exact ((Below.refl _ _).alloc (Nat.le_refl _) _).alloc (by simp) _
  have hz : X.heap.size = W.heap.size + 1 + 1 := by rw [hX]; simp
  have h0 : X.heap[W.heap.size]? = some (.cells #[.int .i64 0, .int .i64 0, .string ⟨#[]⟩, .int .i64 0, .int .i64 0, .string ⟨#[]⟩, .bool false] 102 (0, 0)) := by rw [hX]; exact (Below.heap_alloc _ _ _ (by simp)).trans (heap_alloc_new W _)
  have h1 : X.heap[W.heap.size + 1]? = some (.cells rV 109 (0, 0)) := by
    have := heap_alloc_new (W.alloc (.cells #[.int .i64 0, .int .i64 0, .string ⟨#[]⟩, .int .i64 0, .int .i64 0, .string ⟨#[]⟩, .bool false] 102)) (.cells #[.int .i64 0, .int .i64 0, .pointer none, .int .i64 0, .int .i64 0, .pointer none, .bool false, .bool false] 109)
    rw [World.size_alloc] at this
    rw [hX]
    exact this
  have H0 := hideT h0
  have H1 := hideT h1
  have HA := hideT hA
  have HZ := hideT hz
  go_enter Tryz.func48, Tryz.ntmps48
  go_upto_region 1 with fail
  rw [← hX]
  have a0 : X.cell? ⟨W.heap.size, 0, none⟩ = some (.int .i64 0) := by simp [World.cell?, h0]
  have a1 : X.cell? ⟨W.heap.size, 1, none⟩ = some (.int .i64 0) := by simp [World.cell?, h0]
  have a2 : X.cell? ⟨W.heap.size, 2, none⟩ = some (.string ⟨#[]⟩) := by simp [World.cell?, h0]
  clear hX hA h0 h1 hz
  go_wp2_with fail
  refine (addr_any X).mono ?_
  rintro e w1 ⟨rfl, hb1⟩
  have hn1 := heap_alloc_new w1 (.cells #[.int .i64 0, .int .i64 0, .pointer none] 107)
  have hb2 := hb1.trans (((Below.refl w1.heap.size w1).alloc (Nat.le_refl _) (.cells #[.int .i64 0, .int .i64 0, .pointer none] 107)).mono hb1.size)
  have B2 := hideT hb2
  have HN1 := hideT hn1
  clear hb1 a0 a1 a2
  go_upto_region 2 with fail
  generalize w1.alloc (.cells #[.int .i64 0, .int .i64 0, .pointer none] 107) = Y at *
  have hy := (hb2.block W.heap.size (by have := HZ.out; omega)).trans H0.out
  have a3 : Y.cell? ⟨W.heap.size, 3, none⟩ = some (.int .i64 0) := by simp [World.cell?, hy]
  have a4 : Y.cell? ⟨W.heap.size, 4, none⟩ = some (.int .i64 0) := by simp [World.cell?, hy]
  have a5 : Y.cell? ⟨W.heap.size, 5, none⟩ = some (.string ⟨#[]⟩) := by simp [World.cell?, hy]
  clear hn1 hb2 hy
  go_wp2_with fail
  refine (addr_any Y).mono ?_
  rintro e w2 ⟨rfl, hb3⟩
  have hn2 := heap_alloc_new w2 (.cells #[.int .i64 0, .int .i64 0, .pointer none] 107)
  have hb4 := hb3.trans (((Below.refl w2.heap.size w2).alloc (Nat.le_refl _) (.cells #[.int .i64 0, .int .i64 0, .pointer none] 107)).mono hb3.size)
  clear hb3 a3 a4 a5
  go_upto_region 5 with fail
  generalize w2.alloc (.cells #[.int .i64 0, .int .i64 0, .pointer none] 107) = Z at *
  have hXZ := B2.out.trans (hb4.mono B2.out.size)
  have z0 := (hXZ.block W.heap.size (by have := HZ.out; omega)).trans H0.out
  have z1 := (hXZ.block (W.heap.size + 1) (by have := HZ.out; omega)).trans H1.out
  have z2 := (hb4.block w1.heap.size (blk_lt HN1.out)).trans HN1.out
  have b6 : Z.cell? ⟨W.heap.size, 6, none⟩ = some (.bool false) := by simp [World.cell?, z0]
  have d0 : Z.cell? ⟨w1.heap.size, 0, none⟩ = some (.int .i64 0) := by simp [World.cell?, z2]
  have d1 : Z.cell? ⟨w1.heap.size, 1, none⟩ = some (.int .i64 0) := by simp [World.cell?, z2]
  have d2 : Z.cell? ⟨w1.heap.size, 2, none⟩ = some (.pointer none) := by simp [World.cell?, z2]
  have e0 : Z.cell? ⟨w2.heap.size, 0, none⟩ = some (.int .i64 0) := by simp [World.cell?, hn2]
  have e1 : Z.cell? ⟨w2.heap.size, 1, none⟩ = some (.int .i64 0) := by simp [World.cell?, hn2]
  have e2 : Z.cell? ⟨w2.heap.size, 2, none⟩ = some (.pointer none) := by simp [World.cell?, hn2]
  have HF := hideT (HA.out.trans (hXZ.mono HA.out.size))
  have r0 : Z.cell? ⟨W.heap.size + 1, 0, none⟩ = some (.int .i64 0) := by simp [World.cell?, z1, rV]
  have r1 : Z.cell? ⟨W.heap.size + 1, 1, none⟩ = some (.int .i64 0) := by simp [World.cell?, z1, rV]
  have r2 : Z.cell? ⟨W.heap.size + 1, 2, none⟩ = some (.pointer none) := by simp [World.cell?, z1, rV]
  have r3 : Z.cell? ⟨W.heap.size + 1, 3, none⟩ = some (.int .i64 0) := by simp [World.cell?, z1, rV]
  have r4 : Z.cell? ⟨W.heap.size + 1, 4, none⟩ = some (.int .i64 0) := by simp [World.cell?, z1, rV]
  have r5 : Z.cell? ⟨W.heap.size + 1, 5, none⟩ = some (.pointer none) := by simp [World.cell?, z1, rV]
  have r6 : Z.cell? ⟨W.heap.size + 1, 6, none⟩ = some (.bool false) := by simp [World.cell?, z1, rV]
  have r7 : Z.cell? ⟨W.heap.size + 1, 7, none⟩ = some (.bool false) := by simp [World.cell?, z1, rV]
  have fz : ∀ j, Z.frozen? ⟨W.heap.size + 1, j, none⟩ = false := fun j => by simp [World.frozen?, z1]
  have f0 := fz 0
  have f1 := fz 1
  have f2 := fz 2
  have f3 := fz 3
  have f4 := fz 4
  have f5 := fz 5
  have f6 := fz 6
  have f7 := fz 7
  clear hXZ z0 z1 z2 hn2 hb4 HA B2 HN1 H0 H1 fz
  go_wp2
  exact bodyPost_ret (v := .tuple #[.agg #[.int .i64 0, .int .i64 0, .pointer none, .int .i64 0, .int .i64 0, .pointer none, .bool false, .bool false], .int .i64 0]) (by simp [results, Tryz.results48, go_sem, r0, r1, r2, r3, r4, r5, r6, r7]) rfl ⟨rfl, inp.below_put (inp.below_put (inp.below_put (inp.below_put (inp.below_put (inp.below_put (inp.below_put (inp.below_put (HF.out) (Nat.le_succ _) 0 _) (Nat.le_succ _) 1 _) (Nat.le_succ _) 2 _) (Nat.le_succ _) 3 _) (Nat.le_succ _) 4 _) (Nat.le_succ _) 5 _) (Nat.le_succ _) 6 _) (Nat.le_succ _) 7 _⟩
theorem infoRow : (Tryz.prog.info? 109).map (fun i => (i.zero, i.size, i.bytes)) = some (some (.agg rV), 8, 56) := by kernel_rfl
theorem info_parts {P : Program} {e : TypeId} {z : Value} {n b : Nat} (h : (P.info? e).map (fun i => (i.zero, i.size, i.bytes)) = some (some z, n, b)) : ∃ i, P.info? e = some i ∧ i.zero = some z ∧ i.size = n ∧ i.bytes = b := by
  cases hi : P.info? e with
  | none => rw [hi] at h; cases h
  | some i =>
    rw [hi] at h
    simp only [Option.map_some, Option.some.injEq, Prod.mk.injEq] at h
    exact ⟨i, rfl, h.1, h.2.1, h.2.2⟩
theorem make_row (V : World) : (Instr.makeSlice 103 (.int .i64 0) (.int .i64 1)).run Tryz.prog V = .ok (.slice (some ⟨V.heap.size, 0, none⟩) 0 1) (V.alloc (.cells rV 109)) := by
  obtain ⟨i0, hi, hz0, hz1, hz2⟩ := info_parts infoRow
  have := run_makeSlice (P := Tryz.prog) (w := V) 103 109 i0 _ Tryz.underlying103 hi hz0 .i64 .i64 0 1 (by omega) (by omega) (by rw [hz1]; decide) (by rw [hz2]; decide) (by omega)
  rw [hz1, show madeCells (Value.agg rV).cells ((1 : Int).toNat * 8) = rV by kernel_rfl] at this
  exact this
theorem setCells_far (b : Nat) : ∀ (vs : List Value) (W : World) (o : Nat) {j : Nat}, j ≠ b → (W.setCells b o vs).heap[j]? = W.heap[j]?
  | [], _, _, _, _ => rfl
  | v :: vs, W, o, j, h => by rw [World.setCells, setCells_far b vs _ _ h, inp.put_far W b o v h]
theorem setCells_size (b : Nat) : ∀ (vs : List Value) (W : World) (o : Nat), (W.setCells b o vs).heap.size = W.heap.size
  | [], _, _ => rfl
  | v :: vs, W, o => by rw [World.setCells, setCells_size b vs, inp.put_size]
theorem setCells_bel (b B : Nat) (hB : B ≤ b) : ∀ (vs : List Value) (W : World) (o : Nat), Below B W (W.setCells b o vs)
  | [], W, _ => Below.refl _ _
  | v :: vs, W, o => by
    rw [World.setCells]
    exact ((Below.refl B W).setCell (p := ⟨b, o, none⟩) hB v).trans (setCells_bel b B hB vs _ _)
theorem setCells_same (b : Nat) {cs : Array Value} {e : TypeId} {fr : Nat × Nat} : ∀ (vs : List Value) (W : World) (o : Nat), W.heap[b]? = some (.cells cs e fr) → (∀ j u, vs[j]? = some u → cs[o + j]? = some u) → (W.setCells b o vs).heap[b]? = some (.cells cs e fr)
  | [], _, _, h, _ => h
  | v :: vs, W, o, h, hv => by
    rw [World.setCells]
    refine setCells_same b vs _ _ ?_ (fun j u hj => by have := hv (j + 1) u (by simpa using hj); rw [show o + 1 + j = o + (j + 1) by omega]; exact this)
    rw [inp.put_same W b o v h]
    have h0 := hv 0 v rfl
    obtain ⟨hl, he⟩ := Array.getElem?_eq_some_iff.1 h0
    congr 2
    apply Array.ext
    · simp
    · intro k h1 h2
      rw [Array.getElem_setIfInBounds]
      split
      · rename_i hk; subst hk; exact he.symm
      · rfl
theorem app_row (V : World) (N q : Nat) (h0 : V.heap[N]? = some (.cells rV 109 (0, 0))) (hq : V.heap[q]? = some (.cells rV 109 (0, 0))) : (Builtin.append_ #[103, 103] 103 #[.slice (some ⟨N, 0, none⟩) 0 1, .slice (some ⟨q, 0, none⟩) 1 1]).run Tryz.prog V = .ok (.slice (some ⟨N, 0, none⟩) 1 1) (V.setCells N 0 rV.toList) := by
  obtain ⟨i0, hi, _, hz1, _⟩ := info_parts infoRow
  have := run_append_room_cells (P := Tryz.prog) (w := V) 103 103 109 i0 Tryz.underlying103 hi N 0 0 1 ⟨q, 0, none⟩ 1 1 rV.toList (by rw [hz1]; rfl)
    (fun j u hj => by rw [show (⟨q, 0, none⟩ : Addr).add j = ⟨q, j, none⟩ by unfold Addr.add; split <;> simp_all]; simp only [World.cell?, hq]; simpa using hj)
    (fun u hu => by simp only [rV, List.mem_cons, List.not_mem_nil, or_false] at hu; rcases hu with rfl | rfl | rfl | rfl | rfl | rfl | rfl | rfl <;> rfl) (by omega)
    (fun j hj => by
      rw [hz1]
      have hj8 : j < 8 := hj
      simp only [World.cell?, h0]
      simp only [Nat.zero_mul, Nat.zero_add, Option.isSome_none, Bool.false_eq_true, if_false]
      rw [Array.getElem?_eq_getElem (show j < rV.size from hj8)]
      rfl)
    (fun j hj => by simp [World.frozen?, h0])
  rw [hz1] at this
  exact this
theorem new_pick (W : World) (xg : Nat) (hx : W.heap[xg]? = some (.cells #[.int .i64 0, .int .i64 0, .string ⟨#[]⟩, .int .i64 0, .int .i64 0, .string ⟨#[]⟩, .bool false] 102 (0, 0))) : Calls Tryz.prog 31 #[.slice (some ⟨xg, 0, none⟩) 1 1] W fun e w' => ∃ pb rb, e = .returned (.tuple #[pt pb, .int .i64 0]) ∧ w'.heap[pb]? = some (.cells #[.slice (some ⟨rb, 0, none⟩) 1 1, .pointer none] 105 (0, 0)) ∧ w'.heap[rb]? = some (.cells rV 109 (0, 0)) ∧ W.heap.size ≤ pb ∧ W.heap.size ≤ rb ∧ Below W.heap.size W w' := by
  have hmk := make_row W
  obtain ⟨X, hX⟩ : ∃ X, X = (W.alloc (.cells rV 109)).alloc (.cells #[.slice (some ⟨W.heap.size, 0, none⟩) 0 1, .pointer none] 105) := ⟨_, rfl⟩
  have hA : Below W.heap.size W X := by rw [hX]; exact ((Below.refl _ _).alloc (Nat.le_refl _) _).alloc (by simp) _
  have hz : X.heap.size = W.heap.size + 1 + 1 := by rw [hX]; simp
  have h0 : X.heap[W.heap.size]? = some (.cells rV 109 (0, 0)) := by rw [hX]; exact (Below.heap_alloc _ _ _ (by simp)).trans (heap_alloc_new W _)
  have h1 : X.heap[W.heap.size + 1]? = some (.cells #[.slice (some ⟨W.heap.size, 0, none⟩) 0 1, .pointer none] 105 (0, 0)) := by
    have := heap_alloc_new (W.alloc (.cells rV 109)) (.cells #[.slice (some ⟨W.heap.size, 0, none⟩) 0 1, .pointer none] 105)
    rw [World.size_alloc] at this
    rw [hX]
    exact this
  have H0 := hideT h0
  have H1 := hideT h1
  have HA := hideT hA
  have HZ := hideT hz
  have HX := hideT ((hA.block xg (blk_lt hx)).trans hx)
  clear h0 h1 hA hz hx
  go_enter Tryz.func31, Tryz.ntmps31
  go_upto_region 4 with fail
  rw [← hX]
  clear hmk hX
  go_wp2_with fail
  go_loopw [19] (fun i wr => (i = .int .i64 0 ∧ Hid (wr = X)) ∨ (i = .int .i64 1 ∧ Hid (wr.heap[W.heap.size + 1]? = some (.cells #[.slice (some ⟨W.heap.size, 0, none⟩) 1 1, .pointer none] 105 (0, 0)) ∧ wr.heap[W.heap.size]? = some (.cells rV 109 (0, 0)) ∧ Below W.heap.size W wr))) (fun i _ => 1 - (intOf i).toNat)
  case atStart => exact .inl ⟨rfl, hideT rfl⟩
  case round =>
    rcases hrel with ⟨rfl, he⟩ | ⟨rfl, hf⟩
    · have he2 := he.out
      subst he2
      clear he
      have x0 : wr.cell? ⟨xg, 0, none⟩ = some (.int .i64 0) := by simp [World.cell?, HX.out]
      have x1 : wr.cell? ⟨xg, 1, none⟩ = some (.int .i64 0) := by simp [World.cell?, HX.out]
      have x2 : wr.cell? ⟨xg, 2, none⟩ = some (.string ⟨#[]⟩) := by simp [World.cell?, HX.out]
      have x3 : wr.cell? ⟨xg, 3, none⟩ = some (.int .i64 0) := by simp [World.cell?, HX.out]
      have x4 : wr.cell? ⟨xg, 4, none⟩ = some (.int .i64 0) := by simp [World.cell?, HX.out]
      have x5 : wr.cell? ⟨xg, 5, none⟩ = some (.string ⟨#[]⟩) := by simp [World.cell?, HX.out]
      have x6 : wr.cell? ⟨xg, 6, none⟩ = some (.bool false) := by simp [World.cell?, HX.out]
      have hb1 := (Below.refl wr.heap.size wr).alloc (Nat.le_refl _) (.cells #[.int .i64 0, .int .i64 0, .string ⟨#[]⟩, .int .i64 0, .int .i64 0, .string ⟨#[]⟩, .bool false] 102)
      have B1 := hideT hb1
      clear hb1
      go_wp2_with fail
      refine (row_any _).mono ?_
      rintro e w1 ⟨rfl, hb2⟩
      have hb3 := B1.out.trans (hb2.mono B1.out.size)
      have hb4 := hb3.trans (((Below.refl w1.heap.size w1).alloc (Nat.le_refl _) (.cells #[.int .i64 0, .int .i64 0, .pointer none, .int .i64 0, .int .i64 0, .pointer none, .bool false, .bool false] 109)).mono hb3.size)
      have hn4 := heap_alloc_new w1 (.cells #[.int .i64 0, .int .i64 0, .pointer none, .int .i64 0, .int .i64 0, .pointer none, .bool false, .bool false] 109)
      have hlt := hb3.size
      clear hb2 hb3 x0 x1 x2 x3 x4 x5 x6
      go_upto_region 8 with fail
      obtain ⟨Y, hY⟩ : ∃ Y, Y = w1.alloc (.cells #[.int .i64 0, .int .i64 0, .pointer none, .int .i64 0, .int .i64 0, .pointer none, .bool false, .bool false] 109) := ⟨_, rfl⟩
      rw [← hY] at hb4 hn4 ⊢
      have p0 : Y.cell? ⟨W.heap.size + 1, 0, none⟩ = some (.slice (some ⟨W.heap.size, 0, none⟩) 0 1) := by simp [World.cell?, (hb4.block _ (blk_lt H1.out)).trans H1.out]
      have g0 : Y.frozen? ⟨W.heap.size + 1, 0, none⟩ = false := by simp [World.frozen?, (hb4.block _ (blk_lt H1.out)).trans H1.out]
      have q0 : Y.cell? ⟨w1.heap.size, 0, none⟩ = some (.int .i64 0) := by simp [World.cell?, hn4]
      have q1 : Y.cell? ⟨w1.heap.size, 1, none⟩ = some (.int .i64 0) := by simp [World.cell?, hn4]
      have q2 : Y.cell? ⟨w1.heap.size, 2, none⟩ = some (.pointer none) := by simp [World.cell?, hn4]
      have q3 : Y.cell? ⟨w1.heap.size, 3, none⟩ = some (.int .i64 0) := by simp [World.cell?, hn4]
      have q4 : Y.cell? ⟨w1.heap.size, 4, none⟩ = some (.int .i64 0) := by simp [World.cell?, hn4]
      have q5 : Y.cell? ⟨w1.heap.size, 5, none⟩ = some (.pointer none) := by simp [World.cell?, hn4]
      have q6 : Y.cell? ⟨w1.heap.size, 6, none⟩ = some (.bool false) := by simp [World.cell?, hn4]
      have q7 : Y.cell? ⟨w1.heap.size, 7, none⟩ = some (.bool false) := by simp [World.cell?, hn4]
      have HY := hideT (And.intro hb4 (And.intro ((hb4.block _ (blk_lt H0.out)).trans H0.out) ((hb4.block _ (blk_lt H1.out)).trans H1.out)))
      clear hY hb4 hn4 hlt
      go_upto_region 10 with fail
      obtain ⟨V1, hV1⟩ : ∃ V, V = Y.drew.alloc (.cells #[.int .i64 0, .int .i64 0, .pointer none, .int .i64 0, .int .i64 0, .pointer none, .bool false, .bool false] 109) := ⟨_, rfl⟩
      have hAl : Below Y.heap.size Y V1 := by rw [hV1]; exact (Below.refl Y.heap.size Y).drew.alloc (Nat.le_refl _) _
      have hnA : V1.heap[Y.heap.size]? = some (.cells #[.int .i64 0, .int .i64 0, .pointer none, .int .i64 0, .int .i64 0, .pointer none, .bool false, .bool false] 109 (0, 0)) := by rw [hV1]; exact heap_alloc_new Y.drew _
      obtain ⟨V2, hV2⟩ : ∃ V, V = V1.setCells W.heap.size 0 rV.toList := ⟨_, rfl⟩
      have p0A := inp.keep_cell hAl p0
      have z0 := (hAl.block W.heap.size (blk_lt HY.out.2.1)).trans HY.out.2.1
      have z1 := (hAl.block (W.heap.size + 1) (blk_lt HY.out.2.2)).trans HY.out.2.2
      have hap := app_row V1 W.heap.size Y.heap.size z0 hnA
      rw [← hV2] at hap
      have HAP := hideT hap
      have y1 : V2.heap[W.heap.size + 1]? = some (.cells #[.slice (some ⟨W.heap.size, 0, none⟩) 0 1, .pointer none] 105 (0, 0)) := by rw [hV2, setCells_far _ _ _ _ (Nat.succ_ne_self _)]; exact z1
      have y0 : V2.heap[W.heap.size]? = some (.cells rV 109 (0, 0)) := by rw [hV2]; exact setCells_same _ _ _ _ z0 (fun j u hj => by rw [Nat.zero_add]; simpa using hj)
      have g0A : V2.cell? ⟨W.heap.size + 1, 0, none⟩ = some (.slice (some ⟨W.heap.size, 0, none⟩) 0 1) := by simp [World.cell?, y1]
      have g1A : V2.frozen? ⟨W.heap.size + 1, 0, none⟩ = false := by simp [World.frozen?, y1]
      have HEND : Hid ((V2.setCell ⟨W.heap.size + 1, 0, none⟩ (.slice (some ⟨W.heap.size, 0, none⟩) 1 1)).heap[W.heap.size + 1]? = some (.cells #[.slice (some ⟨W.heap.size, 0, none⟩) 1 1, .pointer none] 105 (0, 0)) ∧ (V2.setCell ⟨W.heap.size + 1, 0, none⟩ (.slice (some ⟨W.heap.size, 0, none⟩) 1 1)).heap[W.heap.size]? = some (.cells rV 109 (0, 0)) ∧ Below W.heap.size W (V2.setCell ⟨W.heap.size + 1, 0, none⟩ (.slice (some ⟨W.heap.size, 0, none⟩) 1 1))) := hideT ⟨by rw [inp.put_same _ _ _ _ y1]; rfl, by rw [inp.put_far _ _ _ _ (Nat.ne_of_lt (Nat.lt_succ_self _))]; exact y0, by
        have hb := HA.out.trans ((HY.out.1.trans (hAl.mono HY.out.1.size)).mono HA.out.size)
        rw [hV2]
        exact inp.below_put (hb.trans (setCells_bel _ _ (Nat.le_refl _) _ _ _)) (Nat.le_succ _) _ _⟩
      have HV1 := hideT hV1
      clear y0 y1 hV2 hV1
      clear hAl hnA z0 z1 hap
      refine wp_region_held (S := fun _ => True) (by kernel_rfl) ?_
      refine tq 0 31 trivial ?_
      refine tq 1 32 trivial ?_
      refine tq 2 33 trivial ?_
      refine tq 3 34 trivial ?_
      simp only [Act.put, List.setIfInBounds_toArray, List.set_cons_zero, List.set_cons_succ]
      refine wpAnyH_all (rs := [4, 5]) (by kernel_rfl) (by simp) (fun i hi => ?_)
      have hc2 : i = 4 ∨ i = 5 := by simpa using hi
      clear hi
      rcases hc2 with rfl | rfl
      case' inl =>
        refine inp.op_value (some 35) (v := .slice (some ⟨W.heap.size, 0, none⟩) 0 1) (w' := Y.drew) rfl rfl (inp.wanted_none rfl _) (by go_simp; (try with_reducible rfl)) ?_
        refine And.intro trivial ?_
        simp only [Act.put, List.setIfInBounds_toArray, List.set_cons_zero, List.set_cons_succ]
        refine wpAnyH_all (rs := [5]) (by kernel_rfl) (by simp) (fun i hi => ?_)
        obtain rfl : i = 5 := List.mem_singleton.1 hi
        clear hi
        refine inp.op_value (some 36) (v := .agg #[.int .i64 0, .int .i64 0, .pointer none, .int .i64 0, .int .i64 0, .pointer none, .bool false, .bool false]) (w' := Y.drew) rfl rfl (inp.wanted_none rfl _) (by go_simp; (try with_reducible rfl)) ?_
        refine And.intro trivial ?_
        simp only [Act.put, List.setIfInBounds_toArray, List.set_cons_zero, List.set_cons_succ]
        refine wpAnyH_all (rs := [6]) (by kernel_rfl) (by simp) (fun i hi => ?_)
        obtain rfl : i = 6 := List.mem_singleton.1 hi
        clear hi
        refine inp.op_value (some 37) (v := .slice (some ⟨Y.heap.size, 0, none⟩) 1 1) (w' := Y.drew.alloc (.cells #[.int .i64 0, .int .i64 0, .pointer none, .int .i64 0, .int .i64 0, .pointer none, .bool false, .bool false] 109)) rfl rfl (inp.wanted_none rfl _) (by go_simp; (try with_reducible rfl)) ?_
        refine And.intro trivial ?_
        simp only [Act.put, List.setIfInBounds_toArray, List.set_cons_zero, List.set_cons_succ]
        rw [← HV1.out]
      case' inr =>
        refine inp.op_value (some 36) (v := .agg #[.int .i64 0, .int .i64 0, .pointer none, .int .i64 0, .int .i64 0, .pointer none, .bool false, .bool false]) (w' := Y.drew) rfl rfl (inp.wanted_none rfl _) (by go_simp; (try with_reducible rfl)) ?_
        refine And.intro trivial ?_
        simp only [Act.put, List.setIfInBounds_toArray, List.set_cons_zero, List.set_cons_succ]
        refine wpAnyH_all (rs := [4, 6]) (by kernel_rfl) (by simp) (fun i hi => ?_)
        have hc2 : i = 4 ∨ i = 6 := by simpa using hi
        clear hi
        rcases hc2 with rfl | rfl
      case' inr.inl =>
        refine inp.op_value (some 35) (v := .slice (some ⟨W.heap.size, 0, none⟩) 0 1) (w' := Y.drew) rfl rfl (inp.wanted_none rfl _) (by go_simp; (try with_reducible rfl)) ?_
        refine And.intro trivial ?_
        simp only [Act.put, List.setIfInBounds_toArray, List.set_cons_zero, List.set_cons_succ]
        refine wpAnyH_all (rs := [6]) (by kernel_rfl) (by simp) (fun i hi => ?_)
        obtain rfl : i = 6 := List.mem_singleton.1 hi
        clear hi
        refine inp.op_value (some 37) (v := .slice (some ⟨Y.heap.size, 0, none⟩) 1 1) (w' := Y.drew.alloc (.cells #[.int .i64 0, .int .i64 0, .pointer none, .int .i64 0, .int .i64 0, .pointer none, .bool false, .bool false] 109)) rfl rfl (inp.wanted_none rfl _) (by go_simp; (try with_reducible rfl)) ?_
        refine And.intro trivial ?_
        simp only [Act.put, List.setIfInBounds_toArray, List.set_cons_zero, List.set_cons_succ]
        rw [← HV1.out]
      case' inr.inr =>
        refine inp.op_value (some 37) (v := .slice (some ⟨Y.heap.size, 0, none⟩) 1 1) (w' := Y.drew.alloc (.cells #[.int .i64 0, .int .i64 0, .pointer none, .int .i64 0, .int .i64 0, .pointer none, .bool false, .bool false] 109)) rfl rfl (inp.wanted_none rfl _) (by go_simp; (try with_reducible rfl)) ?_
        refine And.intro trivial ?_
        simp only [Act.put, List.setIfInBounds_toArray, List.set_cons_zero, List.set_cons_succ]
        rw [← HV1.out]
        refine wpAnyH_all (rs := [4]) (by kernel_rfl) (by simp) (fun i hi => ?_)
        obtain rfl : i = 4 := List.mem_singleton.1 hi
        clear hi
        refine inp.op_value (some 35) (v := .slice (some ⟨W.heap.size, 0, none⟩) 0 1) (w' := V1) rfl rfl (inp.wanted_none rfl _) (by have hq0 := p0A; go_simp; (try with_reducible rfl)) ?_
        refine And.intro trivial ?_
        simp only [Act.put, List.setIfInBounds_toArray, List.set_cons_zero, List.set_cons_succ]
      all_goals
        refine wpAnyH_all (rs := [7]) (by kernel_rfl) (by simp) (fun i hi => ?_)
        obtain rfl : i = 7 := List.mem_singleton.1 hi
        clear hi
        refine inp.op_append (some 38) rfl rfl (inp.wanted_none rfl _) _ _ _ rfl HAP.out ?_
        refine And.intro trivial ?_
        simp only [Act.put, List.setIfInBounds_toArray, List.set_cons_zero, List.set_cons_succ]
        refine tq 8 39 trivial ?_
        refine tq 9 40 trivial ?_
        simp only [Act.put, List.setIfInBounds_toArray, List.set_cons_zero, List.set_cons_succ]
        refine wpAnyH_all (rs := [10]) (by kernel_rfl) (by simp) (fun i hi => ?_)
        obtain rfl : i = 10 := List.mem_singleton.1 hi
        clear hi
        refine inp.op_skip (w' := V2.setCell ⟨W.heap.size + 1, 0, none⟩ (.slice (some ⟨W.heap.size, 0, none⟩) 1 1)) rfl rfl (inp.wanted_none rfl _) (by go_simp; (try with_reducible rfl)) ?_
        refine And.intro trivial ?_
        simp only [Act.put]
        refine wpAnyH_done (by kernel_rfl) ?_ _
        go_wp2
        exact ⟨.inr ⟨by go_num, HEND⟩, by simp [intOf]⟩
    · go_wp2
      go_ret2
      exact ⟨_, _, rfl, hf.out.1, hf.out.2.1, Nat.le_succ _, Nat.le_refl _, hf.out.2.2⟩
end mch
end Go.Proofs.YtcpokkpjeeblnaaGreatDoor
