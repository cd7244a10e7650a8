/- check, pure: what the document's Check answers, over commands as far as it looks at them; no function of the program. -/
import Derived.Test.YtcpokkpjeeblnaaGreatDoorKBa
import Derived.Test.YtcpokkpjeeblnaaGreatDoorProg
import Derived.Test.YtcpokkpjeeblnaaGreatDoorRows
import Derived.WalkKit
import Derived.WalkSpells
import Derived.WalkLawsBesides
import Derived.BigQuiet
import Derived.Deep.Cut
import Derived.Laws.StructEq
import Derived.Lib.Strings
import Derived.Lib.Bytealg
import Derived.OwnWalk
import Derived.Deep.RegionWith
import Derived.Deep.QuietTactic
import Derived.Deep.AppendLies
import Derived.Maps.OwnSet
import Derived.OrdersHeld
import Derived.Deep.RegionHeld3
set_option maxRecDepth 100000
set_option maxHeartbeats 4000000
namespace Go.Proofs.YtcpokkpjeeblnaaGreatDoor
variable {P : Prop}
theorem bck0 (h : P := by
 refine wpAnyH_done (by kernel_rfl) ?_ _;simp only [Act.put, List.setIfInBounds_toArray, List.set_cons_zero, List.set_cons_succ];obtain ⟨U, hU⟩ : ∃ U, U = wr.drew.alloc (.cells #[] 183) := ⟨_, rfl⟩;rw [<- hU] at s1 ⊢;have d0 := HC0.out U s1;have q0 := HR0.out U s1;have q1 := HR1.out U s1;obtain ⟨g0, g1⟩ := HRF.out U s1;have HS1 := hideT s1;have HXU := hideT (HB.out.trans (s1.mono HB.out.size));have HWU := hideT (HBW.out.trans (s1.mono HBW.out.size));clear hU s1 s0 c0 c8 c9 r0 r1 f0 f1 HL;cases b with
 | true =>
  have HN2 := hideT (HNX.out (fun h => by rw [<- HLB.out] at h; cases h.2.2));go_wp2;exact ⟨⟨k + 1, by omega, by go_num, HN2, HXU⟩, by simp [intOf]; omega⟩
 | false =>
  have HF := hideT (show J = fltV 22 x.pl by
   rw [HJ.out, jmpV, <- HJK.out, HST.out, if_pos ⟨HBT.out, HEM.out, HLB.out.symm⟩])
  go_wp2;rw [HF.out];exact bodyPost_ret (by simp [results, Tryz.results63, go_sem, fltV, q0, q1]) rfl ⟨rfl, below_put (below_put HWU.out qr _ _) qr _ _⟩) : P := h
theorem bck1 (h : P := by
 go_wp2;go_ret;exact LabPost.bad HW.out (HS1.out.mono HBB.out) HSU.out) : P := h
namespace ckp
namespace chkP
structure Cm where
 pl : Int
 ak : Int
 bk : Int
 nt : Bool
 nm : UInt8
 lb : List UInt8
def adrR (c : Cm) : Nat :=
 if ([58, 125] : List UInt8).contains c.nm then (if c.ak ≠ 0 \/ c.bk ≠ 0 \/ c.nt = true then 17 else 0)
 else if ([97, 105, 114, 113, 61] : List UInt8).contains c.nm then (if c.bk ≠ 0 then 17 else 0)
 else if ([123, 98, 99, 100, 68, 103, 71, 104, 72, 108, 110, 78, 112, 80, 115, 116, 119, 120, 121] : List UInt8).contains c.nm then (if c.bk ≠ 0 /\ c.ak = 0 then 17 else 0)
 else 18
def labB (l : List Cm) (s : List UInt8) : Bool := l.any fun c => c.nm == 58 && c.lb == s
def oneR (pre : List Cm) (d : Nat) (c : Cm) : Nat × Nat :=
 if adrR c ≠ 0 then (adrR c, d)
 else if c.nm = 123 then (if 16 < d + 1 then (13, d + 1) else (0, d + 1))
 else if c.nm = 125 then (if d = 0 then (23, 0) else (0, d - 1))
 else if c.nm = 58 /\ (c.lb = [] \/ 32 < c.lb.length \/ labB pre c.lb = true) then (22, d) else (0, d)
def goR (pre : List Cm) (d : Nat) : List Cm -> (Nat × Int) ⊕ Nat
 | [] => .inr d
 | c :: r => if (oneR pre d c).1 ≠ 0 then .inl ((oneR pre d c).1, c.pl) else goR (pre ++ [c]) (oneR pre d c).2 r
def xp7 : List Cm -> List Int -> List Int
 | [], st => st
 | c :: r, st => xp7 r (if c.nm = 123 then c.pl :: st else if c.nm = 125 then st.tail else st)
def xjw (all : List Cm) : List Cm -> Option Int
 | [] => none
 | c :: r => if (c.nm = 98 \/ c.nm = 116) /\ c.lb ≠ [] /\ labB all c.lb = false then some c.pl else xjw all r
def chkR (l : List Cm) : Nat × Int :=
 match goR [] 0 l with
 | .inl x => x
 | .inr d => if d ≠ 0 then (23, (xp7 l []).headD 0) else match xjw l l with
  | some p => (22, p)
  | none => (0, 0)
end chkP
end ckp
end Go.Proofs.YtcpokkpjeeblnaaGreatDoor
namespace Go.Proofs.YtcpokkpjeeblnaaGreatDoor
namespace ckp
open Go.RowKit
open chkP
theorem hideT {p : Prop} (h : p) : Hid p := h
theorem xe6 (s : ByteArray) (k : Nat) (h : k < s.size) : s.data.toList[k]'h = s[k]'h := rfl
theorem ne_byte (b : UInt8) (k : Nat) (hk : k < 256) (h : b ≠ UInt8.ofNat k) : ((b.toNat : Int) == (k : Int)) = false := by
 rw [beq_eq_false_iff_ne];intro e;refine h (UInt8.toNat_inj.1 ?_);have : (UInt8.ofNat k).toNat = k := by simp; omega
 omega
theorem below_drewN (B : Nat) (W : World) (n : Nat) : Below B W (W.drewN n) := { os := rfl, tape := rfl, output := rfl, size := Nat.le_refl _, block := fun _ _ => rfl }
variable {W W' w w' V : World} {a : Act} {e t : TypeId} {B b n m mb g i : Nat} {xs : List Value} {P : Program} {D : DataW Unit} {st st2 : List Int} {v2 kv lv : Value} {x : Operand} {ops : Array Oper} {Q : Exit -> Act -> World -> Prop} {o : Oper} {s : List UInt8}
theorem keep_cell {w1 : World} {a : Addr} {v : Value} (hb : Below W.heap.size W w1) (h : W.cell? a = some v) : w1.cell? a = some v := (World.cell?_of_block (hb.block _ (World.block_lt_of_cell? W a h))).trans h
theorem xq1 (s : ByteArray) (c : Int) (w : World) : Calls Tryz.prog 96 #[.string s, .int .u8 c] w fun e w' => e = .returned (.int .i64 (Lib.indexByte s.data.toList c.toNat.toUInt8)) /\ w' = w := by
 have h : (callFunc 146 #[.string s, .int .u8 c]).run Tryz.prog w = .ok (.value (.int .i64 (Lib.indexByte s.data.toList c.toNat.toUInt8))) w := by
  rw [run_callFunc_extern Tryz.func146 (by kernel_rfl) (by kernel_rfl) (by kernel_rfl) (e := Extern.BytealgIndexByte.indexByte) (by kernel_rfl), Lib.run_indexByteString];rfl
 go_enter Tryz.func96, Tryz.ntmps96;go_wp2;go_ret;exact ⟨rfl, rfl⟩
def xfy (b : UInt8) : Bool := ([123, 125, 97, 98, 99, 100, 68, 103, 71, 104, 72, 105, 108, 110, 78, 112, 80, 113, 114, 115, 116, 119, 120, 121, 61, 58] : List UInt8).contains b
def mostN (b : UInt8) : Nat := if ([58, 125] : List UInt8).contains b then 0 else if ([97, 105, 114, 113, 61] : List UInt8).contains b then 1 else 2
def misB (m : Nat) (a b n : Bool) : Bool := (b && (decide (m < 2) || !a)) || (decide (m = 0) && (a || n))
def adrB (x : UInt8) (a b n : Bool) : Nat :=
 if ([58, 125] : List UInt8).contains x then (if a || b || n then 17 else 0)
 else if ([97, 105, 114, 113, 61] : List UInt8).contains x then (if b then 17 else 0)
 else if ([123, 98, 99, 100, 68, 103, 71, 104, 72, 108, 110, 78, 112, 80, 115, 116, 119, 120, 121] : List UInt8).contains x then (if b && !a then 17 else 0)
 else 18
theorem adr_bools (c : Cm) : adrR c = adrB c.nm (decide (c.ak ≠ 0)) (decide (c.bk ≠ 0)) c.nt := by
 unfold adrR adrB;by_cases h1 : c.ak = 0 <;> by_cases h2 : c.bk = 0 <;> cases h3 : c.nt <;> simp [h1, h2]
theorem adr_names : ∀ k, k < 256 -> ∀ a b n, adrB (UInt8.ofNat k) a b n = (if xfy (UInt8.ofNat k) = false then 18 else if misB (mostN (UInt8.ofNat k)) a b n = true then 17 else 0) := by decide +kernel
theorem adr_prog (c : Cm) : adrR c = (if xfy c.nm = false then 18 else if misB (mostN c.nm) (decide (c.ak ≠ 0)) (decide (c.bk ≠ 0)) c.nt = true then 17 else 0) := by
 have h := adr_names c.nm.toNat c.nm.toNat_lt (decide (c.ak ≠ 0)) (decide (c.bk ≠ 0)) c.nt;rw [UInt8.ofNat_toNat] at h;rw [adr_bools, h]
theorem index_name : ∀ k, k < 256 -> (Lib.indexByte [123, 125, 97, 98, 99, 100, 68, 103, 71, 104, 72, 105, 108, 110, 78, 112, 80, 113, 114, 115, 116, 119, 120, 121, 61, 58] (UInt8.ofNat k) < 0) = (xfy (UInt8.ofNat k) = false) := by
 have h : ∀ k, k < 256 -> (decide (Lib.indexByte [123, 125, 97, 98, 99, 100, 68, 103, 71, 104, 72, 105, 108, 110, 78, 112, 80, 113, 114, 115, 116, 119, 120, 121, 61, 58] (UInt8.ofNat k) < 0)) = !xfy (UInt8.ofNat k) := by decide +kernel
 intro k hk;have := h k hk;rw [eq_iff_iff];rw [Bool.eq_iff_iff] at this;simpa using this
theorem most_any (b : UInt8) (w : World) : Calls Tryz.prog 140 #[.int .u8 b.toNat] w fun e w' => e = .returned (.int .i64 (mostN b : Nat)) /\ w' = w := by
 by_cases h0 : b = 58
 ·subst h0; go_enter Tryz.func140, Tryz.ntmps140; go_wp2; go_ret; exact ⟨rfl, rfl⟩
 by_cases h1 : b = 125
 ·subst h1; go_enter Tryz.func140, Tryz.ntmps140; go_wp2; go_ret; exact ⟨rfl, rfl⟩
 by_cases h2 : b = 97
 ·subst h2; go_enter Tryz.func140, Tryz.ntmps140; go_wp2; go_ret; exact ⟨rfl, rfl⟩
 by_cases h3 : b = 105
 ·subst h3; go_enter Tryz.func140, Tryz.ntmps140; go_wp2; go_ret; exact ⟨rfl, rfl⟩
 by_cases h4 : b = 114
 ·subst h4; go_enter Tryz.func140, Tryz.ntmps140; go_wp2; go_ret; exact ⟨rfl, rfl⟩
 by_cases h5 : b = 113
 ·subst h5; go_enter Tryz.func140, Tryz.ntmps140; go_wp2; go_ret; exact ⟨rfl, rfl⟩
 by_cases h6 : b = 61
 ·subst h6; go_enter Tryz.func140, Tryz.ntmps140; go_wp2; go_ret; exact ⟨rfl, rfl⟩
 have n0 : ((b.toNat : Int) == 58) = false := ne_byte b 58 (by decide) h0;have n1 : ((b.toNat : Int) == 125) = false := ne_byte b 125 (by decide) h1;have n2 : ((b.toNat : Int) == 97) = false := ne_byte b 97 (by decide) h2;have n3 : ((b.toNat : Int) == 105) = false := ne_byte b 105 (by decide) h3;have n4 : ((b.toNat : Int) == 114) = false := ne_byte b 114 (by decide) h4;have n5 : ((b.toNat : Int) == 113) = false := ne_byte b 113 (by decide) h5;have n6 : ((b.toNat : Int) == 61) = false := ne_byte b 61 (by decide) h6;have HV := hideT (show mostN b = 2 by unfold mostN; simp [h0, h1, h2, h3, h4, h5, h6]);clear h0 h1 h2 h3 h4 h5 h6;go_enter Tryz.func140, Tryz.ntmps140;go_wp2;go_ret;exact ⟨by rw [HV.out]; rfl, rfl⟩
theorem mis_any (c : Cm) (g o : Nat) (W : World) (c1 : W.cell? ⟨g, o + 1, none⟩ = some (.int .i64 c.ak)) (c4 : W.cell? ⟨g, o + 4, none⟩ = some (.int .i64 c.bk)) (c7 : W.cell? ⟨g, o + 7, none⟩ = some (.bool c.nt)) (c8 : W.cell? ⟨g, o + 8, none⟩ = some (.int .u8 c.nm.toNat)) : Calls Tryz.prog 97 #[.pointer (some ⟨g, o, none⟩)] W fun e w' => e = .returned (.bool (misB (mostN c.nm) (decide (c.ak ≠ 0)) (decide (c.bk ≠ 0)) c.nt)) /\ Below W.heap.size W w' := by
 have HM := hideT (fun w => most_any c.nm w);have hm3 : mostN c.nm = 0 \/ mostN c.nm = 1 \/ mostN c.nm = 2 := by
  unfold mostN;split
  ·exact .inl rfl
  ·split
   ·exact .inr (.inl rfl)
   ·exact .inr (.inr rfl)
 have e1 : ∀ x : Int, (x != 0) = decide (x ≠ 0) := fun x => by by_cases h : x = 0 <;> simp [h]
 obtain ⟨m, hm⟩ : ∃ m, m = mostN c.nm := ⟨_, rfl⟩;obtain ⟨x, hx⟩ : ∃ x, x = decide (c.ak ≠ 0) := ⟨_, rfl⟩;obtain ⟨y, hy⟩ : ∃ y, y = decide (c.bk ≠ 0) := ⟨_, rfl⟩;obtain ⟨z, hz⟩ : ∃ z, z = c.nt := ⟨_, rfl⟩;have a1 : (c.ak != 0) = x := by rw [e1, hx]
 have a2 : (c.bk != 0) = y := by rw [e1, hy]
 rw [<- hm] at HM hm3 ⊢;rw [<- hx, <- hy, <- hz];rw [<- hz] at c7;clear hm hx hy hz e1;go_enter Tryz.func97, Tryz.ntmps97
 go_wp2_with fail
 go_quiet (fail)
 go_wp2_with fail
 refine (HM.out _).mono ?_;rintro e w1 ⟨rfl, rfl⟩;rcases hm3 with rfl | rfl | rfl
 ·cases y <;> cases x
  ·cases z
   ·go_wp2;go_ret;exact ⟨rfl, below_drewN _ _ _⟩
   ·go_wp2;go_ret;exact ⟨rfl, below_drewN _ _ _⟩
  ·go_wp2;go_ret;exact ⟨rfl, below_drewN _ _ _⟩
  ·go_wp2;go_ret;exact ⟨rfl, below_drewN _ _ _⟩
  ·go_wp2;go_ret;exact ⟨rfl, below_drewN _ _ _⟩
 ·cases y <;> cases x
  all_goals
   go_wp2;go_ret;exact ⟨rfl, below_drewN _ _ _⟩
 ·cases y <;> cases x
  all_goals
   go_wp2;go_ret;exact ⟨rfl, below_drewN _ _ _⟩
theorem put_far (W : World) (b k : Nat) (u : Value) {j : Nat} (h : j ≠ b) : (W.setCell ⟨b, k, none⟩ u).heap[j]? = W.heap[j]? := Below.heap_setCell W ⟨b, k, none⟩ u j h
theorem put_size (W : World) (b k : Nat) (u : Value) : (W.setCell ⟨b, k, none⟩ u).heap.size = W.heap.size := by simp [World.setCell]
theorem xai (W : World) (b k : Nat) (u : Value) {cs : Array Value} {fr : Nat × Nat} (h : W.heap[b]? = some (.cells cs e fr)) : (W.setCell ⟨b, k, none⟩ u).heap[b]? = some (.cells (cs.setIfInBounds k u) e fr) := by
 obtain ⟨hlt, hk2⟩ := Array.getElem?_eq_some_iff.1 h;show (W.heap.modify b _)[b]? = _
 rw [Array.getElem?_eq_getElem (by rw [Array.size_modify]; exact hlt), Array.getElem_modify_self, hk2];simp only [Option.isSome_none, Bool.false_eq_true, if_false]
theorem below_put (h : Below B W W') (hb : B <= b) (k : Nat) (u : Value) : Below B W (W'.setCell ⟨b, k, none⟩ u) :=
 ⟨h.os, h.tape, h.output, by rw [put_size]; exact h.size, fun j hj => by rw [put_far _ _ _ _ (by omega)]; exact h.block j hj⟩
theorem below_grown {r : Option Nat} (h : W.grownBy W' r) (hr : ∀ g, r = some g -> B <= g) (hB : B <= W.heap.size) : Below B W W' :=
 ⟨h.os, h.tape, h.output, h.size, fun j hj => h.block j (by omega) (fun e => by have := hr j e.symm; omega)⟩
theorem owns_keep {e size : Nat} {v : Value} (h : W.ownsRow B e size v n xs) (hk : ∀ g, v.ownBlock = some g -> W'.heap[g]? = W.heap[g]?) : W'.ownsRow B e size v n xs := by
 obtain ⟨hl, h2⟩ := h;refine ⟨hl, ?_⟩;rcases h2 with h2 | ⟨g, cap, cur, rfl, hb, hh, r⟩
 ·exact .inl h2
 ·exact .inr ⟨g, cap, cur, rfl, hb, (hk g rfl).trans hh, r⟩
theorem xbb {k : TypeId} {R : Value -> Option (DataW Unit × List MemPlace)} (h : W.ownsMap P k R b n D) (hk : W'.heap[b]? = W.heap[b]?) : W'.ownsMap P k R b n D := by
 obtain ⟨es, cl, h1, h2⟩ := h;exact ⟨es, cl, hk.trans h1, h2⟩
def intsV (l : List Int) : List Value := l.map fun i => Value.int .i64 i
theorem intsV_len (l : List Int) : (intsV l).length = l.length := by simp [intsV]
theorem intsV_app (l : List Int) (x : Int) : intsV (l ++ [x]) = intsV l ++ [.int .i64 x] := by simp [intsV]
structure Sof (W : World) (B m mb : Nat) (v : Value) (st : List Int) (D : DataW Unit) (n : Nat) : Prop where
 hm : B <= m
 hmb : B <= mb
 blk : W.heap[m]? = some (.cells #[v, .map (some mb)] 137)
 own : W.ownsRow B 3 1 v st.length (intsV st)
 map : W.ownsMap Tryz.prog 9 unitElem mb n D
theorem Sof.mlt {v : Value} (h : Sof W B m mb v st D n) : m < W.heap.size := (Array.getElem?_eq_some_iff.1 h.blk).1
theorem Sof.mblt {v : Value} (h : Sof W B m mb v st D n) : mb < W.heap.size := h.map.lt
theorem Sof.apart {v : Value} (h : Sof W B m mb v st D n) : m ≠ mb := fun e => by
 obtain ⟨es, cl, h1, _⟩ := h.map;rw [<- e, h.blk] at h1;cases h1
theorem Sof.rowNe {v : Value} (h : Sof W B m mb v st D n) (hg : v.ownBlock = some g) : g ≠ m /\ g ≠ mb /\ B <= g /\ g < W.heap.size := by
 rcases h.own.2 with ⟨rfl, _⟩ | ⟨g', cap, cur, rfl, hb, hh, _⟩
 ·cases hg
 ·cases hg;refine ⟨fun (e : g' = m) => ?_, fun (e : g' = mb) => ?_, hb, (Array.getElem?_eq_some_iff.1 hh).1⟩
  ·have := h.blk;rw [<- e, hh] at this;injection this with this
   injection this with _ this _
   exact absurd this (by decide)
  ·obtain ⟨es, cl, h1, _⟩ := h.map;rw [<- e, hh] at h1;cases h1
theorem Sof.keep {v : Value} (h : Sof W B m mb v st D n) (hk : ∀ k, k < W.heap.size -> W'.heap[k]? = W.heap[k]?) : Sof W' B m mb v st D n :=
 ⟨h.hm, h.hmb, (hk m h.mlt).trans h.blk, owns_keep h.own (fun g hg => hk g (h.rowNe hg).2.2.2), xbb h.map (hk mb h.mblt)⟩
theorem Sof.step {v : Value} (h : Sof W B m mb v st D n) (hb : Below W.heap.size W W') : Sof W' B m mb v st D n := h.keep hb.block
theorem Sof.c0 {v : Value} (h : Sof W B m mb v st D n) : W.cell? ⟨m, 0, none⟩ = some v /\ W.frozen? ⟨m, 0, none⟩ = false := by
 simp [World.cell?, World.frozen?, h.blk]
theorem Sof.c1 {v : Value} (h : Sof W B m mb v st D n) : W.cell? ⟨m, 1, none⟩ = some (.map (some mb)) := by
 simp [World.cell?, h.blk]
theorem infoInt : (Tryz.prog.info? 3).map (fun i => (i.zero, i.size, i.bytes)) = some (some (.int .i64 0), 1, 8) := by kernel_rfl
theorem sof_row {X w2 : World} {v : Value} (h : Sof W B m mb v st D n) (hX : Below W.heap.size W X) (own : w2.ownsRow B 3 1 v2 st2.length (intsV st2)) (hgr : X.grownBy w2 v.ownBlock) (hne : ∀ g, v2.ownBlock = some g -> g ≠ m) : Sof (w2.setCell ⟨m, 0, none⟩ v2) B m mb v2 st2 D n := by
 have hs := hX.size;have hm := h.mlt;have hmb := h.mblt;refine ⟨h.hm, h.hmb, ?_, owns_keep own (fun g hg => put_far _ _ _ _ (hne g hg)), xbb h.map ?_⟩
 ·have h1 : w2.heap[m]? = some (.cells #[v, .map (some mb)] 137) := (hgr.block m (by omega) (fun e => (h.rowNe e.symm).1 rfl)).trans ((hX.block m hm).trans h.blk);exact xai _ _ _ _ h1
 ·rw [put_far _ _ _ _ h.apart.symm];exact (hgr.block mb (by omega) (fun e => (h.rowNe e.symm).2.1 rfl)).trans (hX.block mb hmb)
theorem opens_any {v : Value} (h : Sof W B m mb v st D n) (hB : B <= W.heap.size) (hst : st.length <= 16) (p : Int) : Calls Tryz.prog 98 #[.pointer (some ⟨m, 0, none⟩), .int .i64 p] W fun e w' => if st.length = 16 then e = .returned (.int .i64 13) /\ w' = W else e = .returned (.int .i64 0) /\ Below B W w' /\ ∃ v2, Sof w' B m mb v2 (st ++ [p]) D n := by
 obtain ⟨i0, hi, hz0, hz1, hz2⟩ := info_parts infoInt;obtain ⟨c0, f0⟩ := h.c0;have HH := hideT h;obtain ⟨N, hN⟩ : ∃ N : Nat, N = st.length := ⟨_, rfl⟩;have HN := hideT hN;by_cases h16 : st.length = 16
 ·simp only [h16, if_true];rcases h.own.2 with ⟨rfl, h0⟩ | ⟨g, cap, cur, rfl, _⟩
  ·omega
  ·rw [h16] at c0;clear h hi hz0 hz1 hz2 hst h16 hN;go_enter Tryz.func98, Tryz.ntmps98;go_wp2;go_ret;exact ⟨rfl, rfl⟩
 ·simp only [h16, if_false];have own := h.own;rw [<- hN] at own h16 hst;have k16 : ((N : Int) == 16) = false := qn;have hlm := h.mlt;have hX := Bal W (.cells #[.int .i64 p] 3);have hmX : ∀ (w2 : World), (W.alloc (.cells #[.int .i64 p] 3)).grownBy w2 v.ownBlock -> w2.cell? ⟨m, 0, none⟩ = some v /\ w2.frozen? ⟨m, 0, none⟩ = false := by
   intro w2 hg;have hh : w2.heap[m]? = W.heap[m]? := (hg.block m (by rw [World.size_alloc]; omega) (fun e => (HH.out.rowNe e.symm).1 rfl)).trans (Below.heap_alloc W _ m hlm);exact ⟨(World.cell?_of_block (a := ⟨m, 0, none⟩) hh).trans c0, (World.frozen?_of_block (a := ⟨m, 0, none⟩) hh).trans f0⟩
  have ca : ∀ ob, (W.alloc ob).cell? ⟨m, 0, none⟩ = some v := fun ob => (World.cell?_of_block (a := ⟨m, 0, none⟩) (Below.heap_alloc W ob m hlm)).trans c0;have HX := hideT hmX;have HB := hideT hB;have HXX := hideT hX;have HO := hideT own;have HSZ := hideT hst;have H16 := hideT h16;have hsl : (v = .slice none 0 0 /\ N = 0) \/ ∃ g cap, v = .slice (some ⟨g, 0, none⟩) N cap := by
   rcases own.2 with h | ⟨g, cap, cur, h, _⟩
   ·exact .inl h
   ·exact .inr ⟨g, cap, h⟩
  clear h hmX hX own hB hst h16 hlm hN;have fin : ∀ (g gc : Nat) (w2 : World), w2.ownsRow B 3 1 (.slice (some ⟨g, 0, none⟩) (N + 1) gc) (N + 1) (intsV st ++ [.int .i64 p]) -> (W.alloc (.cells #[.int .i64 p] 3)).grownBy w2 v.ownBlock -> (v.ownBlock = some g \/ g = W.heap.size + 1) -> Below B W (w2.setCell ⟨m, 0, none⟩ (.slice (some ⟨g, 0, none⟩) (N + 1) gc)) /\ Sof (w2.setCell ⟨m, 0, none⟩ (.slice (some ⟨g, 0, none⟩) (N + 1) gc)) B m mb (.slice (some ⟨g, 0, none⟩) (N + 1) gc) (st ++ [p]) D n := by
   intro g gc w2 hown hgr hat;have hm := HH.out.mlt;refine ⟨below_put ((HXX.out.mono HB.out).trans (below_grown hgr (fun g' hg' => (HH.out.rowNe hg').2.2.1) (by rw [World.size_alloc]; have := HB.out; omega))) HH.out.hm _ _, sof_row HH.out HXX.out ?_ hgr ?_⟩
   ·rw [intsV_app, List.length_append, List.length_singleton, <- HN.out];exact hown
   ·intro g' hg';cases hg';rcases hat with e | e
    ·exact (HH.out.rowNe e).1
    ·show g ≠ m
     omega
  have HF := hideT fin;clear fin;rcases hsl with ⟨rfl, rfl⟩ | ⟨g, cap, rfl⟩
  all_goals
   go_enter Tryz.func98, Tryz.ntmps98
   go_wp2_with (at_builtin; refine wpList_append_lies _ (by rfl) _ _ _ (by rfl) B 3 i0 (.int .i64 0) 1 8 Tryz.underlying135 hi hz0 hz1 hz2 rfl (by omega) _ _ _ (by rfl) (World.ownsRow.alloc HO.out _) ⟨W.heap.size, 0, none⟩ 1 1 [.int .i64 p] (by rfl) (by rfl) (World.news_of_block (cs := #[.int .i64 p]) (t := 3) (fr := (0, 0)) (heap_alloc_new W _)) (by simp [Value.oneCell']) (by omega) (by have := HSZ.out; unfold maxLen; omega) (by have := HSZ.out; omega) (by have := HB.out; rw [World.size_alloc]; omega) (W.heap.size + 1) (by simp) ?_)
   intro g2 gc2 w2 hown2 hgr2 hat2 hlt2;obtain ⟨d0, e0⟩ := HX.out w2 hgr2;have HP := hideT (HF.out g2 gc2 w2 hown2 hgr2 hat2);clear hown2 hgr2 hat2 hlt2;go_wp2;go_ret;exact ⟨rfl, HP.out.1, _, HP.out.2⟩
theorem owns_init {cap : Nat} {x : Value} (h : W.ownsRow B e 1 (.slice (some ⟨g, 0, none⟩) (n + 1) cap) (n + 1) (xs ++ [x])) : W.ownsRow B e 1 (.slice (some ⟨g, 0, none⟩) n cap) n xs := by
 obtain ⟨hl, h2⟩ := h;rcases h2 with ⟨h2, _⟩ | ⟨g', cap', cur, he, hb, hh, hn, hc, hs, ht⟩
 ·cases h2
 ·cases he;simp only [List.length_append, List.length_singleton, Nat.mul_one] at hl;refine ⟨by omega, .inr ⟨g, cap, cur, rfl, hb, hh, by omega, hc, hs, ?_⟩⟩;have h3 := congrArg (List.take n) ht;rw [List.take_take, Nat.min_eq_left (by omega), List.take_left' (by omega)] at h3;rw [Nat.mul_one];exact h3
theorem shuts_none {v : Value} (h : Sof W B m mb v [] D n) : Calls Tryz.prog 99 #[.pointer (some ⟨m, 0, none⟩)] W fun e w' => e = .returned (.int .i64 23) /\ w' = W := by
 obtain ⟨c0, f0⟩ := h.c0;rcases h.own.2 with ⟨rfl, h0⟩ | ⟨g, cap, cur, rfl, _⟩
 all_goals
  (try simp only [List.length_nil] at c0)
  clear h;go_enter Tryz.func99, Tryz.ntmps99;go_wp2;go_ret;exact ⟨rfl, rfl⟩
theorem shuts_some {v : Value} {p : Int} (h : Sof W B m mb v (st ++ [p]) D n) (hst : st.length <= 16) : Calls Tryz.prog 99 #[.pointer (some ⟨m, 0, none⟩)] W fun e w' => e = .returned (.int .i64 0) /\ Below B W w' /\ ∃ v2, Sof w' B m mb v2 st D n := by
 obtain ⟨c0, f0⟩ := h.c0;have own := h.own;rw [List.length_append, List.length_singleton, intsV_app] at own;obtain ⟨N, hN⟩ : ∃ N : Nat, N = st.length := ⟨_, rfl⟩;rw [<- hN] at own;rcases own.2 with ⟨rfl, h0⟩ | ⟨g, cap, cur, rfl, _, _, hcap, hmx, _⟩
 ·omega
 ·have own2 := owns_init own;have hne : g ≠ m := (h.rowNe rfl).1;have HP := hideT (show Below B W (W.drew.setCell ⟨m, 0, none⟩ (.slice (some ⟨g, 0, none⟩) N cap)) /\ Sof (W.drew.setCell ⟨m, 0, none⟩ (.slice (some ⟨g, 0, none⟩) N cap)) B m mb (.slice (some ⟨g, 0, none⟩) N cap) st D n from ⟨below_put ((Below.refl B W).drew) h.hm _ _, sof_row h ((Below.refl _ W).drew) (by rw [<- hN]; exact own2) ⟨rfl, rfl, rfl, Nat.le_refl _, fun _ _ _ => rfl⟩ (fun g' hg' => by cases hg'; exact hne)⟩);have q0 : ((N : Int) + 1 == 0) = false := qn;have q1 : IntKind.i64.wrap ((N : Int) + 1 - 1) = (N : Int) := by rw [IntKind.wrap_i64]; omega
  have q1' : IntKind.i64.wrap (N : Int) = (N : Int) := by rw [IntKind.wrap_i64]; omega
  have q2 : (0 : Int) <= (N : Int) := by omega
  have q3 : (N : Int) <= (cap : Int) := by omega
  have q4 : ((cap : Int) < (N : Int)) = False := qg;have q5 : ((N : Int) < 0) = False := qg;clear h own own2 hne hcap hmx hN hst;go_enter Tryz.func99, Tryz.ntmps99
  go_wp2_with fail
  go_region
  all_goals
   go_wp2;go_ret;exact ⟨rfl, HP.out.1, _, HP.out.2⟩
theorem op_value {K : Act -> World -> Prop} {v : Value} (d : Option Tmp) (hi : ops[i]? = some o) (hd : o.dst = d) (hw : Region.wanted o (yielded ops a.tmps) = true) (hx : (execOp a.eval o).run P w = .ok (.value v) w') (h : K (a.put d v) w') : wpOp P ops Q i K a w := by
 subst hd;unfold wpOp;rw [hi];dsimp only;rw [if_pos hw];refine .inl ?_;unfold Oper.wp;rw [hx];exact h
theorem op_skip {K : Act -> World -> Prop} (hi : ops[i]? = some o) (hd : o.dst = none) (hw : Region.wanted o (yielded ops a.tmps) = true) (hx : (execOp a.eval o).run P w = .ok .skip w') (h : K (a.put none undef) w') : wpOp P ops Q i K a w := by
 rw [<- hd] at h;unfold wpOp;rw [hi];dsimp only;rw [if_pos hw];refine .inl ?_;unfold Oper.wp;rw [hx];exact h
theorem take_d {S : World -> Prop} {md : Region.Mode} (i : Nat) (d : Option Tmp) {oi : Oper} {v : Value} {fuel : Nat} {listed : Array Bool} (hi : ops[i]? = some oi) (hd : oi.dst = d)
  (hs : Region.noSelect ops = true) (hf : Region.free md ops listed i = true) (hr : (Region.ready md ops listed).contains i = true)
  (hQ : ∀ c a w, Q (.panic c) (a.put d v) w -> Q (.panic c) a w) (hw : Region.wanted oi (yielded ops a.tmps) = true) (hS : S w) (hy : ∀ w, S w -> (execOp a.eval oi).run P w = .ok (.value v) w)
  (h : wpAnyH P md ops Q S fuel (listed.setIfInBounds i true) (a.put d v) w) : wpAnyH P md ops Q S (fuel + 1) listed a w := by
 subst hd;exact wpAnyH_take hi hs hf hr hQ (Or.inl ⟨hw, hy⟩) hS h
theorem wanted_none (h : o.guard = none) (y : Nat -> Option Bool) : Region.wanted o y = true := by simp [Region.wanted, h]
theorem look_yield {m : Operand} {ev : Operand -> Value} {mv r : Value} (ho : o.op = .lookup t m x true) (hm : ev m = mv) (hx : ev x = kv) (h : (Instr.lookup t mv kv true).run P V = .ok r V) : (execOp ev o).run P V = .ok (.value r) V := by
 simp [execOp, ho, hm, hx, h, Result.andThen]
theorem zeroUnit (w : World) : (zeroValue 183).run Tryz.prog w = .ok (.agg #[]) w := Tryz.zeroValue183 w
theorem sof_look {v : Value} (h : Sof W B m mb v st D n) (hb : V.heap[mb]? = W.heap[mb]?) (s : List UInt8) (hs : s.length <= maxLen) : (Instr.lookup 134 (.map (some mb)) (.string ⟨s.toArray⟩) true).run Tryz.prog V = .ok (.tuple #[.agg #[], .bool (Maps.has D (.string s))]) V := by
 obtain ⟨u, ps, h1, h2⟩ := (xbb h.map hb).look_ok (Maps.string_keyed Tryz.underlying9) Tryz.underlying134 (zeroUnit V) (zd := .agg []) (zp := []) unitElem_mk (Go.WideMaps.keyOf_string_mk Tryz.underlying9 (s := ⟨s.toArray⟩) hs);obtain ⟨rfl, _⟩ := unitElem_inv h2;exact h1
def labF (D : DataW Unit) (s : List UInt8) : Bool := decide (s = []) || decide (32 < s.length) || Maps.has D (.string s)
def LabPost (W : World) (B m mb : Nat) (v : Value) (st : List Int) (D : DataW Unit) (n : Nat) (s : List UInt8) (e : Ending) (w' : World) : Prop :=
 Below B W w' /\ if labF D s = true then e = .returned (.int .i64 22) /\ Sof w' B m mb v st D n else e = .returned (.int .i64 0) /\ Sof w' B m mb v st (D.put (.string s) (.agg [])) (n + 1)
theorem LabPost.bad {v : Value} (hl : labF D s = true) (hb : Below B W w') (h : Sof w' B m mb v st D n) : LabPost W B m mb v st D n s (.returned (.int .i64 22)) w' := ⟨hb, by rw [if_pos hl]; exact ⟨rfl, h⟩⟩
theorem LabPost.good {v : Value} (hl : ¬ labF D s = true) (hb : Below B W w') (h : Sof w' B m mb v st (D.put (.string s) (.agg [])) (n + 1)) : LabPost W B m mb v st D n s (.returned (.int .i64 0)) w' := ⟨hb, by rw [if_neg hl]; exact ⟨rfl, h⟩⟩
theorem str_nil (s : List UInt8) : ((⟨s.toArray⟩ : ByteArray) == ⟨#[]⟩) = decide (s = []) := by
 by_cases h : s = []
 ·subst h;rfl
 ·rw [decide_eq_false h];cases s with
  | nil => exact absurd rfl h
  | cons a l => rfl
theorem update_skip {m v : Operand} {ev : Operand -> Value} {mv vv : Value} {V' : World} (ho : o.op = .mapUpdate t m x v) (hm : ev m = mv) (hx : ev x = kv) (hv : ev v = vv) (h : (Instr.mapUpdate t mv kv vv).run P V = .ok () V') : (execOp ev o).run P V = .ok .skip V' := by
 simp [execOp, ho, hm, hx, hv, h, Result.andThen]
theorem xf5 {v : Value} (h : Sof W B m mb v st D n) (hB : B <= W.heap.size) (hn : n < 1000000000000) (g o : Nat) (s : List UInt8) (hs : s.length <= 1000000000000000) (hgB : g < B) (cl : W.cell? ⟨g, o + 9, none⟩ = some (.string ⟨s.toArray⟩)) : Calls Tryz.prog 100 #[.pointer (some ⟨m, 0, none⟩), .pointer (some ⟨g, o, none⟩)] W fun e w' => LabPost W B m mb v st D n s e w' := by
 have HH := hideT h;have c1 := h.c1;have HL := hideT (fun (V : World) (hV : Below W.heap.size W V) => sof_look h (hV.block mb h.mblt) s (by unfold maxLen; omega));have HC1 := hideT (fun (V : World) (hV : Below W.heap.size W V) => keep_cell hV c1);have HCL := hideT (fun (V : World) (hV : Below W.heap.size W V) => keep_cell hV cl);obtain ⟨b, hb⟩ : ∃ b, b = Maps.has D (.string s) := ⟨_, rfl⟩;rw [<- hb] at HL;have HLB := hideT hb;have HSS := hideT hs;have HNN := hideT hn;have HBB := hideT hB;have HG := hideT hgB;have s0 : Below W.heap.size W W.drew := (Below.refl _ _).drew;clear h hb hs hn hB hgB;go_enter Tryz.func100, Tryz.ntmps100
 go_wp2_with fail
 refine wp_region_held (S := fun V => Below W.heap.size W V) (by kernel_rfl) ?_
 refine' take_d 0 (some 8) rfl rfl (by kernel_rfl) (by kernel_rfl) (by kernel_rfl) (fun _ _ _ h => h) (wanted_none rfl _) s0 ?tk1 ?rs1
 case tk1 => intro V hV; go_simp; (try with_reducible rfl)
 refine' take_d 1 (some 9) rfl rfl (by kernel_rfl) (by kernel_rfl) (by kernel_rfl) (fun _ _ _ h => h) (wanted_none rfl _) s0 ?tk2 ?rs2
 case tk2 => intro V hV; go_simp; (try with_reducible rfl)
 refine' take_d 2 (some 10) rfl rfl (by kernel_rfl) (by kernel_rfl) (by kernel_rfl) (fun _ _ _ h => h) (wanted_none rfl _) s0 ?tk3 ?rs3
 case tk3 => intro V hV; go_simp; (try with_reducible rfl)
 refine' take_d 3 (some 11) rfl rfl (by kernel_rfl) (by kernel_rfl) (by kernel_rfl) (fun _ _ _ h => h) (wanted_none rfl _) s0 ?tk4 ?rs4
 case tk4 => intro V hV; have hc := HC1.out V hV; go_simp; (try with_reducible rfl)
 refine' take_d 4 (some 12) rfl rfl (by kernel_rfl) (by kernel_rfl) (by kernel_rfl) (fun _ _ _ h => h) (wanted_none rfl _) s0 ?tk5 ?rs5
 case tk5 => intro V hV; go_simp; (try with_reducible rfl)
 refine' take_d 5 (some 13) rfl rfl (by kernel_rfl) (by kernel_rfl) (by kernel_rfl) (fun _ _ _ h => h) (wanted_none rfl _) s0 ?tk6 ?rs6
 case tk6 => intro V hV; go_simp; (try with_reducible rfl)
 refine' take_d 6 (some 14) rfl rfl (by kernel_rfl) (by kernel_rfl) (by kernel_rfl) (fun _ _ _ h => h) (wanted_none rfl _) s0 ?tk7 ?rs7
 case tk7 => intro V hV; go_simp; (try with_reducible rfl)
 refine' take_d 7 (some 15) rfl rfl (by kernel_rfl) (by kernel_rfl) (by kernel_rfl) (fun _ _ _ h => h) (wanted_none rfl _) s0 ?tk8 ?rs8
 case tk8 => intro V hV; have hc := HCL.out V hV; go_simp; (try with_reducible rfl)
 simp only [Act.put, List.setIfInBounds_toArray, List.set_cons_zero, List.set_cons_succ]
 refine' take_d 8 (some 16) rfl rfl (by kernel_rfl) (by kernel_rfl) (by kernel_rfl) (fun _ _ _ h => h) (wanted_none rfl _) s0 ?tk9 ?rs9
 case tk9 => intro V hV; exact look_yield rfl rfl rfl (HL.out V hV)
 refine' take_d 9 (some 7) rfl rfl (by kernel_rfl) (by kernel_rfl) (by kernel_rfl) (fun _ _ _ h => h) (wanted_none rfl _) s0 ?tk10 ?rs10
 case tk10 => intro V hV; go_simp; (try with_reducible rfl)
 refine' take_d 10 (some 17) rfl rfl (by kernel_rfl) (by kernel_rfl) (by kernel_rfl) (fun _ _ _ h => h) (wanted_none rfl _) s0 ?tk11 ?rs11
 case tk11 => intro V hV; go_simp; (try with_reducible rfl)
 refine' take_d 11 (some 18) rfl rfl (by kernel_rfl) (by kernel_rfl) (by kernel_rfl) (fun _ _ _ h => h) (wanted_none rfl _) s0 ?tk12 ?rs12
 case tk12 => intro V hV; go_simp; (try with_reducible rfl)
 refine wpAnyH_all (rs := [12]) (by kernel_rfl) (by simp) (fun i hi => ?_);obtain rfl : i = 12 := List.mem_singleton.1 hi;have s1 : Below W.heap.size W (W.drew.alloc (.cells #[] 183)) := s0.alloc qr _;refine op_value (some 5) (v := .pointer (some ⟨W.heap.size, 0, none⟩)) (w' := W.drew.alloc (.cells #[] 183)) rfl rfl (wanted_none rfl _) (by go_simp; (try with_reducible rfl)) ?_;refine And.intro s1 ?_;simp only [Act.put, List.setIfInBounds_toArray, List.set_cons_zero, List.set_cons_succ];refine wpAnyH_all (rs := [13]) (by kernel_rfl) (by simp) (fun i hi => ?_);obtain rfl : i = 13 := List.mem_singleton.1 hi;refine op_skip (w' := W.drew.alloc (.cells #[] 183)) rfl rfl (wanted_none rfl _) (by go_simp; (try with_reducible rfl)) ?_;refine And.intro s1 ?_
 refine' take_d 14 (some 6) rfl rfl (by kernel_rfl) (by kernel_rfl) (by kernel_rfl) (fun _ _ _ h => h) (wanted_none rfl _) s1 ?tk13 ?rs13
 case tk13 => intro V hV; go_simp; (try with_reducible rfl)
 refine wpAnyH_done (by kernel_rfl) ?_ _;simp only [Act.put, List.setIfInBounds_toArray, List.set_cons_zero, List.set_cons_succ];obtain ⟨U, hU⟩ : ∃ U, U = W.drew.alloc (.cells #[] 183) := ⟨_, rfl⟩;rw [<- hU] at s1 ⊢;have d1 := HC1.out U s1;have dl := HCL.out U s1;have HS1 := hideT s1;clear hU s1 s0 c1 cl;have HV := hideT (show labF D s = (decide (s = []) || decide (32 < s.length) || b) by rw [HLB.out]; rfl);have HSU := hideT (HH.out.step HS1.out);by_cases e1 : s = []
 ·subst e1;have HW := hideT (show labF D [] = true by rw [HV.out]; rfl);exact bck1
 have e1' : (s = []) = False := by rw [eq_iff_iff, iff_false]; exact e1
 have e1'' : ((⟨s.toArray⟩ : ByteArray) == ⟨#[]⟩) = false := by rw [str_nil, decide_eq_false e1]
 by_cases e2 : 32 < s.length
 ·have HE1 : s.isEmpty = false := by simpa using e1
  have HW := hideT (show labF D s = true by rw [HV.out, decide_eq_true e2]; simp);have e2' : (32 : Int) < (s.length : Int) := by omega
  clear e1 e2;exact bck1
 have HE1 : s.isEmpty = false := by simpa using e1
 have e2' : ((32 : Int) < (s.length : Int)) = False := qg;have e2'' : (32 < s.length) = False := qg;cases b with
 | true =>
  have HW := hideT (show labF D s = true by rw [HV.out]; simp);clear e1 e2;exact bck1
 | false =>
  have HW := hideT (show ¬ labF D s = true by rw [HV.out, decide_eq_false e1, decide_eq_false e2]; simp);clear e1 e2
  go_wp2_with fail
  have t0 : U.drew.cell? ⟨m, 1, none⟩ = some (.map (some mb)) /\ U.drew.cell? ⟨g, o + 9, none⟩ = some (.string ⟨s.toArray⟩) := ⟨d1, dl⟩;refine wp_region_held (S := fun V => V.cell? ⟨m, 1, none⟩ = some (.map (some mb)) /\ V.cell? ⟨g, o + 9, none⟩ = some (.string ⟨s.toArray⟩)) (by kernel_rfl) ?_
  refine' take_d 0 (some 35) rfl rfl (by kernel_rfl) (by kernel_rfl) (by kernel_rfl) (fun _ _ _ h => h) (wanted_none rfl _) t0 ?tk14 ?rs14
  case tk14 => intro V hV; go_simp; (try with_reducible rfl)
  refine' take_d 1 (some 36) rfl rfl (by kernel_rfl) (by kernel_rfl) (by kernel_rfl) (fun _ _ _ h => h) (wanted_none rfl _) t0 ?tk15 ?rs15
  case tk15 => intro V hV; go_simp; (try with_reducible rfl)
  refine' take_d 2 (some 37) rfl rfl (by kernel_rfl) (by kernel_rfl) (by kernel_rfl) (fun _ _ _ h => h) (wanted_none rfl _) t0 ?tk16 ?rs16
  case tk16 => intro V hV; go_simp; (try with_reducible rfl)
  refine' take_d 3 (some 38) rfl rfl (by kernel_rfl) (by kernel_rfl) (by kernel_rfl) (fun _ _ _ h => h) (wanted_none rfl _) t0 ?tk17 ?rs17
  case tk17 => intro V hV; have hc := hV.1; go_simp; (try with_reducible rfl)
  refine' take_d 4 (some 39) rfl rfl (by kernel_rfl) (by kernel_rfl) (by kernel_rfl) (fun _ _ _ h => h) (wanted_none rfl _) t0 ?tk18 ?rs18
  case tk18 => intro V hV; go_simp; (try with_reducible rfl)
  refine' take_d 5 (some 40) rfl rfl (by kernel_rfl) (by kernel_rfl) (by kernel_rfl) (fun _ _ _ h => h) (wanted_none rfl _) t0 ?tk19 ?rs19
  case tk19 => intro V hV; go_simp; (try with_reducible rfl)
  refine' take_d 6 (some 41) rfl rfl (by kernel_rfl) (by kernel_rfl) (by kernel_rfl) (fun _ _ _ h => h) (wanted_none rfl _) t0 ?tk20 ?rs20
  case tk20 => intro V hV; go_simp; (try with_reducible rfl)
  refine' take_d 7 (some 42) rfl rfl (by kernel_rfl) (by kernel_rfl) (by kernel_rfl) (fun _ _ _ h => h) (wanted_none rfl _) t0 ?tk21 ?rs21
  case tk21 => intro V hV; have hc := hV.2; go_simp; (try with_reducible rfl)
  refine' take_d 8 (some 43) rfl rfl (by kernel_rfl) (by kernel_rfl) (by kernel_rfl) (fun _ _ _ h => h) (wanted_none rfl _) t0 ?tk22 ?rs22
  case tk22 => intro V hV; go_simp; (try with_reducible rfl)
  simp only [Act.put, List.setIfInBounds_toArray, List.set_cons_zero, List.set_cons_succ];refine wpAnyH_all (rs := [9]) (by kernel_rfl) (by simp) (fun i hi => ?_);obtain rfl : i = 9 := List.mem_singleton.1 hi;obtain ⟨w2, hrun, hown, hgr⟩ := (HSU.out.step ((Below.refl _ U).drew)).map.update (Maps.string_keyed Tryz.underlying9) Tryz.underlying134 (by have := HNN.out; unfold maxLen; omega) (WideMaps.keyOf_string_mk Tryz.underlying9 (s := ⟨s.toArray⟩) (by have := HSS.out; unfold maxLen; show s.length <= _; omega)) (d := .agg []) (ps := []) unitElem_mk;refine op_skip (w' := w2) rfl rfl (wanted_none rfl _) (update_skip rfl rfl rfl rfl hrun) ?_;have hms := HSU.out.mlt;have hap := HSU.out.apart;have hgU : g < U.heap.size := World.block_lt_of_cell? U _ dl;have hmb := HSU.out.hmb;have hw2 : ∀ k, k < U.heap.size -> k ≠ mb -> w2.heap[k]? = U.heap[k]? := fun k hk hne => hgr.block k hk (fun e => hne (by cases e; rfl));have t1 : w2.cell? ⟨m, 1, none⟩ = some (.map (some mb)) /\ w2.cell? ⟨g, o + 9, none⟩ = some (.string ⟨s.toArray⟩) := ⟨(World.cell?_of_block (hw2 m hms hap)).trans d1, (World.cell?_of_block (hw2 g hgU (by have := HG.out; omega))).trans dl⟩;refine And.intro t1 ?_;refine wpAnyH_done (by kernel_rfl) ?_ _;simp only [Act.put];have HFB := hideT (show Below B W w2 from ((HS1.out.mono HBB.out).drew).trans (below_grown (W := U.drew) hgr (fun k hk => by cases hk; exact hmb) (show B <= U.heap.size from Nat.le_trans HBB.out HS1.out.size)));have HFS := hideT (show Sof w2 B m mb v st (D.put (.string s) (.agg [])) (n + 1) from ⟨HSU.out.hm, hmb, (hw2 m hms hap).trans HSU.out.blk, owns_keep HSU.out.own (fun k hk => hw2 k (HSU.out.rowNe hk).2.2.2 (HSU.out.rowNe hk).2.1), hown⟩);clear hms hap hgU hmb hw2 t1 t0 hrun hown hgr d1 dl;go_wp2;go_ret;exact LabPost.good HW.out HFB.out HFS.out
structure CAt (W : World) (g o : Nat) (c : Cm) : Prop where
 c0 : W.cell? ⟨g, o, none⟩ = some (.int .i64 c.pl)
 c1 : W.cell? ⟨g, o + 1, none⟩ = some (.int .i64 c.ak)
 c4 : W.cell? ⟨g, o + 4, none⟩ = some (.int .i64 c.bk)
 c7 : W.cell? ⟨g, o + 7, none⟩ = some (.bool c.nt)
 c8 : W.cell? ⟨g, o + 8, none⟩ = some (.int .u8 c.nm.toNat)
 c9 : W.cell? ⟨g, o + 9, none⟩ = some (.string ⟨c.lb.toArray⟩)
variable {c : Cm}
theorem CAt.lt {o : Nat} (h : CAt W g o c) : g < W.heap.size := World.block_lt_of_cell? W _ h.c0
theorem CAt.keep {o : Nat} (h : CAt W g o c) (hk : W'.heap[g]? = W.heap[g]?) : CAt W' g o c :=
 ⟨(World.cell?_of_block hk).trans h.c0, (World.cell?_of_block hk).trans h.c1, (World.cell?_of_block hk).trans h.c4, (World.cell?_of_block hk).trans h.c7, (World.cell?_of_block hk).trans h.c8, (World.cell?_of_block hk).trans h.c9⟩
def LabsIn (D : DataW Unit) (pre : List Cm) : Prop := ∀ s : List UInt8, Maps.has D (.string s) = labB pre s
theorem labs_none (D : DataW Unit) (pre : List Cm) (c : Cm) (hc : c.nm ≠ 58) (h : LabsIn D pre) : LabsIn D (pre ++ [c]) := fun s => by
 rw [h s];have : (c.nm == 58) = false := by rw [beq_eq_false_iff_ne]; exact hc
 simp [labB, this]
theorem labs_put (D : DataW Unit) (pre : List Cm) (c : Cm) (hc : c.nm = 58) (hD : Maps.IsMap D) (h : LabsIn D pre) : LabsIn (D.put (.string c.lb) (.agg [])) (pre ++ [c]) := fun s => by
 have hl : labB (pre ++ [c]) s = (labB pre s || (c.lb == s)) := by simp [labB, hc]
 rw [hl];by_cases e : s = c.lb
 ·subst e;rw [Maps.has_put_same hD (by simp [WideAt.IsKeyLit])];simp
 ·rw [Maps.has_put_other (fun e2 => e (by injection e2)), h s];have : (c.lb == s) = false := by rw [beq_eq_false_iff_ne]; exact fun e2 => e e2.symm
  rw [this, Bool.or_false]
def CmdPost (W : World) (B m mb : Nat) (st : List Int) (n : Nat) (pre : List Cm) (c : Cm) (e : Ending) (w' : World) : Prop :=
 e = .returned (.int .i64 ((oneR pre st.length c).1 : Nat)) /\ Below B W w' /\ ((oneR pre st.length c).1 = 0 -> ∃ v2 st2 D2, Sof w' B m mb v2 st2 D2 (n + 1) /\ st2.length = (oneR pre st.length c).2 /\ st2.reverse = (if c.nm = 123 then c.pl :: st.reverse else if c.nm = 125 then st.reverse.tail else st.reverse) /\ LabsIn D2 (pre ++ [c]))
theorem Sof.more {v : Value} (h : Sof W B m mb v st D n) : Sof W B m mb v st D (n + 1) := ⟨h.hm, h.hmb, h.blk, h.own, h.map.mono (Nat.le_succ n)⟩
variable {pre : List Cm}
theorem CmdPost.bad {k d : Nat} (hk : k ≠ 0) (ho : oneR pre st.length c = (k, d)) (hb : Below B W w') : CmdPost W B m mb st n pre c (.returned (.int .i64 k)) w' := by
 refine ⟨by rw [ho], hb, fun h => ?_⟩;rw [ho] at h;exact absurd h hk
theorem CmdPost.good {D2 : DataW Unit} (ho : oneR pre st.length c = (0, st2.length)) (hb : Below B W w') (hs : Sof w' B m mb v2 st2 D2 (n + 1)) (hr : st2.reverse = (if c.nm = 123 then c.pl :: st.reverse else if c.nm = 125 then st.reverse.tail else st.reverse)) (hl : LabsIn D2 (pre ++ [c])) : CmdPost W B m mb st n pre c (.returned (.int .i64 0)) w' := by
 refine ⟨by rw [ho]; rfl, hb, fun _ => ⟨v2, st2, D2, hs, by rw [ho], hr, hl⟩⟩
theorem xke {v : Value} (h : Sof W B m mb v st D n) (hB : B <= W.heap.size) (hst : st.length <= 16) (hn : n < 1000000000000) (pre : List Cm) (hL : LabsIn D pre) (c : Cm) (g o : Nat) (hs : c.lb.length <= 1000000000000000) (hgB : g < B) (hc : CAt W g o c) : Calls Tryz.prog 62 #[.pointer (some ⟨m, 0, none⟩), .pointer (some ⟨g, o, none⟩)] W fun e w' => CmdPost W B m mb st n pre c e w' := by
 have HX := hideT (xq1 ⟨#[123, 125, 97, 98, 99, 100, 68, 103, 71, 104, 72, 105, 108, 110, 78, 112, 80, 113, 114, 115, 116, 119, 120, 121, 61, 58]⟩ (c.nm.toNat : Nat) W);have HI := hideT (index_name c.nm.toNat c.nm.toNat_lt);rw [UInt8.ofNat_toNat] at HI;have e0 : ((c.nm.toNat : Nat) : Int).toNat.toUInt8 = c.nm := by rw [Int.toNat_natCast]; exact UInt8.ofNat_toNat
 rw [e0] at HX;obtain ⟨z, hz⟩ : ∃ z, z = Lib.indexByte [123, 125, 97, 98, 99, 100, 68, 103, 71, 104, 72, 105, 108, 110, 78, 112, 80, 113, 114, 115, 116, 119, 120, 121, 61, 58] c.nm := ⟨_, rfl⟩;have HX2 : Hid (Calls Tryz.prog 96 #[.string ⟨#[123, 125, 97, 98, 99, 100, 68, 103, 71, 104, 72, 105, 108, 110, 78, 112, 80, 113, 114, 115, 116, 119, 120, 121, 61, 58]⟩, .int .u8 c.nm.toNat] W fun e w' => e = .returned (.int .i64 z) /\ w' = W) := hideT (by rw [hz]; exact HX.out);rw [<- hz] at HI;have HA := hideT (adr_prog c);have HH := hideT h;have HC := hideT hc;have HLL := hideT hL;have HM := hideT (mis_any c g o W hc.c1 hc.c4 hc.c7 hc.c8);have HST := hideT hst;have HNN := hideT hn;have HSS := hideT hs;have HBB := hideT hB;have HG := hideT hgB;have c8 := hc.c8;have HAO := hideT (show adrR c ≠ 0 -> oneR pre st.length c = (adrR c, st.length) from fun h0 => by unfold oneR; rw [if_pos h0]);have HON := hideT (show adrR c = 0 -> oneR pre st.length c = if c.nm = 123 then (if 16 < st.length + 1 then (13, st.length + 1) else (0, st.length + 1)) else if c.nm = 125 then (if st.length = 0 then (23, 0) else (0, st.length - 1)) else if c.nm = 58 /\ (c.lb = [] \/ 32 < c.lb.length \/ labB pre c.lb = true) then (22, st.length) else (0, st.length) from fun h0 => by unfold oneR; rw [if_neg (by rw [h0]; simp)]);clear h hc hL hst hn hs hB hgB HX e0 hz;go_enter Tryz.func62, Tryz.ntmps62
 go_wp2_with fail
 refine HX2.out.mono ?_;rintro e w1 ⟨rfl, rfl⟩;clear HX2;by_cases hn1 : xfy c.nm = false
 ·have z1 : z < 0 := HI.out.mpr hn1;have HV := hideT (show adrR c = 18 by rw [HA.out, if_pos hn1]);clear hn1;go_wp2;go_ret;exact CmdPost.bad (k := 18) (by decide) (by rw [HAO.out (by rw [HV.out]; decide), HV.out]) (Below.refl _ _)
 have z1 : (z < 0) = False := by rw [HI.out]; simpa using hn1
 obtain ⟨q, hq⟩ : ∃ q, q = misB (mostN c.nm) (decide (c.ak ≠ 0)) (decide (c.bk ≠ 0)) c.nt := ⟨_, rfl⟩;rw [<- hq] at HM HA;have HA2 := hideT (show adrR c = if q = true then 17 else 0 by rw [HA.out, if_neg hn1]);clear hq HA HI hn1
 go_wp2_with fail
 refine HM.out.mono ?_;rintro e w2 ⟨rfl, hb2⟩;clear HM;cases q with
 | true =>
  have HV := hideT (show adrR c = 17 by rw [HA2.out]; rfl);have HW := hideT hb2;clear hb2 HA2;go_wp2;go_ret;exact CmdPost.bad (k := 17) (by decide) (by rw [HAO.out (by rw [HV.out]; decide), HV.out]) (HW.out.mono HBB.out)
 | false =>
  have HO := hideT (HON.out (by rw [HA2.out]; rfl));have HW := hideT hb2;have HS2 := hideT (HH.out.step hb2);have HC2 := hideT (HC.out.keep (hb2.block g HC.out.lt));have HB2 := hideT (Nat.le_trans HBB.out hb2.size);have d0 := HC2.out.c0;have d8 := HC2.out.c8;clear hb2 HA2 HON HAO c8 HH HC;by_cases k1 : c.nm = 123
  ·have HK1 := hideT k1;have m1 : ((c.nm.toNat : Int) == 123) = true := by rw [k1]; rfl
   have HOP := hideT (opens_any HS2.out HB2.out HST.out c.pl);clear k1
   go_wp2_with fail
   refine HOP.out.mono ?_;intro e w3 h3;clear HOP;by_cases h16 : st.length = 16
   ·rw [if_pos h16] at h3;obtain ⟨rfl, rfl⟩ := h3;have HE := hideT (show oneR pre st.length c = (13, st.length + 1) by rw [HO.out, if_pos HK1.out, if_pos (by omega)]);clear h16;go_wp2;go_ret;exact CmdPost.bad (k := 13) (by decide) HE.out (HW.out.mono HBB.out)
   ·rw [if_neg h16] at h3;obtain ⟨rfl, hb3, v3, hs3⟩ := h3;have HE := hideT (show oneR pre st.length c = (0, (st ++ [c.pl]).length) by rw [HO.out, if_pos HK1.out, if_neg (by have := HST.out; omega)]; simp);have HT := hideT hb3;have HT2 := hideT hs3;clear h16 hb3 hs3;go_wp2;go_ret;exact CmdPost.good HE.out ((HW.out.mono HBB.out).trans HT.out) HT2.out.more (by rw [if_pos HK1.out]; simp) (labs_none _ _ _ (by rw [HK1.out]; decide) HLL.out)
  have HK1 := hideT k1;have m1 : ((c.nm.toNat : Int) == 123) = false := ne_byte c.nm 123 (by decide) k1;clear k1;by_cases k2 : c.nm = 125
  ·have HK2 := hideT k2;have m2 : ((c.nm.toNat : Int) == 125) = true := by rw [k2]; rfl
   clear k2;rcases List.eq_nil_or_concat st with rfl | ⟨st1, p1, rfl⟩
   ·have HOP := hideT (shuts_none HS2.out)
    go_wp2_with fail
    refine HOP.out.mono ?_;rintro e w3 ⟨rfl, rfl⟩;have HE := hideT (show oneR pre ([] : List Int).length c = (23, 0) by rw [HO.out, if_neg HK1.out, if_pos HK2.out]; rfl);clear HOP;go_wp2;go_ret;exact CmdPost.bad (k := 23) (by decide) HE.out (HW.out.mono HBB.out)
   ·have HOP := hideT (shuts_some (st := st1) (p := p1) (by have := HS2.out; rw [List.concat_eq_append] at this; exact this) (by have := HST.out; rw [List.length_concat] at this; omega))
    go_wp2_with fail
    refine HOP.out.mono ?_;rintro e w3 ⟨rfl, hb3, v3, hs3⟩;have HE := hideT (show oneR pre (st1.concat p1).length c = (0, st1.length) by rw [HO.out, if_neg HK1.out, if_pos HK2.out, if_neg (by rw [List.length_concat]; omega), List.length_concat]; rfl);have HT := hideT hb3;have HT2 := hideT hs3;clear HOP hb3 hs3;go_wp2;go_ret;exact CmdPost.good HE.out ((HW.out.mono HBB.out).trans HT.out) HT2.out.more (by rw [if_neg HK1.out, if_pos HK2.out]; simp) (labs_none _ _ _ (by rw [HK2.out]; decide) HLL.out)
  have HK2 := hideT k2;have m2 : ((c.nm.toNat : Int) == 125) = false := ne_byte c.nm 125 (by decide) k2;clear k2;by_cases k3 : c.nm = 58
  ·have HK3 := hideT k3;have m3 : ((c.nm.toNat : Int) == 58) = true := by rw [k3]; rfl
   have HOP := hideT (xf5 HS2.out HB2.out HNN.out g o c.lb HSS.out HG.out HC2.out.c9);clear k3
   go_wp2_with fail
   refine HOP.out.mono ?_;rintro e w3 ⟨hb3, h3⟩;clear HOP;have HLF := hideT (show (labF D c.lb = true) = (c.lb = [] \/ 32 < c.lb.length \/ labB pre c.lb = true) by unfold labF; rw [HLL.out c.lb]; simp [or_assoc]);have HT := hideT hb3;by_cases hl : labF D c.lb = true
   ·rw [if_pos hl] at h3;obtain ⟨rfl, hs3⟩ := h3;have HE := hideT (show oneR pre st.length c = (22, st.length) by rw [HO.out, if_neg HK1.out, if_neg HK2.out, if_pos ⟨HK3.out, HLF.out ▸ hl⟩]);clear hl hs3 hb3;go_wp2;go_ret;exact CmdPost.bad (k := 22) (by decide) HE.out ((HW.out.mono HBB.out).trans HT.out)
   ·rw [if_neg hl] at h3;obtain ⟨rfl, hs3⟩ := h3;have HE := hideT (show oneR pre st.length c = (0, st.length) by rw [HO.out, if_neg HK1.out, if_neg HK2.out, if_neg (fun h => hl (HLF.out ▸ h.2))]);have HT2 := hideT hs3;clear hl hs3 hb3;go_wp2;go_ret;exact CmdPost.good HE.out ((HW.out.mono HBB.out).trans HT.out) HT2.out (by rw [if_neg HK1.out, if_neg HK2.out]) (labs_put _ _ _ HK3.out HS2.out.map.isMap HLL.out)
  have HK3 := hideT k3;have m3 : ((c.nm.toNat : Int) == 58) = false := ne_byte c.nm 58 (by decide) k3;clear k3;have HE := hideT (show oneR pre st.length c = (0, st.length) by rw [HO.out, if_neg HK1.out, if_neg HK2.out, if_neg (fun h => HK3.out h.1)]);go_wp2;go_ret;exact CmdPost.good HE.out (HW.out.mono HBB.out) HS2.out.more (by rw [if_neg HK1.out, if_neg HK2.out]) (labs_none _ _ _ HK3.out HLL.out)
def CRow (W : World) (v : Value) (l : List Cm) : Prop := ∃ a cp, v = .slice a l.length cp /\ ∀ (k : Nat) (x : Cm), l[k]? = some x -> ∃ g o, a = some ⟨g, o, none⟩ /\ CAt W g (o + k * 19) x /\ x.lb.length <= 1000000000000000
variable {l : List Cm}
theorem CRow.keep {v : Value} (h : CRow W v l) (hb : ∀ k, k < W.heap.size -> W'.heap[k]? = W.heap[k]?) : CRow W' v l := by
 obtain ⟨a, c, h1, h2⟩ := h;exact ⟨a, c, h1, fun k x hx => by
  obtain ⟨g, o, h3, h4, h5⟩ := h2 k x hx;exact ⟨g, o, h3, h4.keep (hb g h4.lt), h5⟩⟩
theorem CRow.step {v : Value} (h : CRow W v l) (hb : Below W.heap.size W W') : CRow W' v l := h.keep hb.block
def fltV (e p : Int) : Value := .agg #[.int .i64 e, .int .i64 p]
def jmpV (l : List Cm) : Value := match xjw l l with
 | some p => fltV 22 p
 | none => fltV 0 0
theorem unknown_any {v : Value} (h : Sof W B m mb v st D n) (hr : CRow W lv l) (hL : LabsIn D l) (hl : l.length <= 1000000000) : Calls Tryz.prog 63 #[.pointer (some ⟨m, 0, none⟩), lv] W fun e w' => e = .returned (jmpV l) /\ Below W.heap.size W w' := by
 have HR := hideT hr;obtain ⟨a, cp, rfl, hrow⟩ := hr;obtain ⟨J, hJ⟩ : ∃ J, J = jmpV l := ⟨_, rfl⟩;rw [<- hJ];have HJ := hideT hJ;have HH := hideT h;have HLL := hideT hL;have HROW := hideT hrow;clear h hL hrow hJ;go_enter Tryz.func63, Tryz.ntmps63
 go_wp2_with fail
 have hA : Below W.heap.size W (W.alloc (.cells #[.int .i64 0, .int .i64 0] 45)) := (Below.refl _ _).alloc qr _;have hres := heap_alloc_new W (.cells #[.int .i64 0, .int .i64 0] 45);have hsz : (W.alloc (.cells #[.int .i64 0, .int .i64 0] 45)).heap.size = W.heap.size + 1 := World.size_alloc _ _;obtain ⟨X, hX⟩ : ∃ X, X = W.alloc (.cells #[.int .i64 0, .int .i64 0] 45) := ⟨_, rfl⟩;rw [<- hX] at hA hres hsz ⊢;have HAX := hideT hA;have HRES := hideT hres;have HSZ := hideT hsz;clear hA hres hX hsz
 go_loopw [11] (fun v wr => ∃ k : Nat, k <= l.length /\ v = .int .i64 k /\ Hid (xjw l (l.drop k) = xjw l l) /\ Hid (Below X.heap.size X wr)) (fun v _ => l.length - (intOf v).toNat)
 case atStart => exact ⟨0, Nat.zero_le _, rfl, hideT rfl, hideT (Below.refl _ _)⟩
 case round =>
  obtain ⟨k, hk, rfl, HJK, HB⟩ := hrel;have HBW := hideT (HAX.out.trans (HB.out.mono HAX.out.size));have hrb : wr.heap[W.heap.size]? = some (.cells #[.int .i64 0, .int .i64 0] 45) := (HB.out.block _ (by rw [HSZ.out]; omega)).trans HRES.out;have r0 := clq 0 hrb rfl;have r1 := clq 1 hrb rfl;have f0 := fzq 0 hrb;have f1 := fzq 1 hrb;have HRB := hideT hrb;clear hrb;by_cases hlt : k < l.length
  ·have i1 : (k : Int) < (l.length : Int) := by omega
   have i2 : (0 : Int) <= (k : Int) := by omega
   have hkx : l[k]? = some (l[k]'hlt) := List.getElem?_eq_getElem hlt;obtain ⟨g, o, rfl, hcat, hlen⟩ := HROW.out k _ hkx;have hst : xjw l (l.drop k) = if ((l[k]'hlt).nm = 98 \/ (l[k]'hlt).nm = 116) /\ (l[k]'hlt).lb ≠ [] /\ labB l (l[k]'hlt).lb = false then some (l[k]'hlt).pl else xjw l (l.drop (k + 1)) := by
    rw [List.drop_eq_getElem_cons hlt];rfl
   generalize (l[k]'hlt) = x at *;have hcw := hcat.keep (HBW.out.block g hcat.lt);have HST := hideT hst;have HCAT := hideT hcat;have HCW := hideT hcw;have HLEN := hideT hlen;have c8 := hcw.c8;have c9 := hcw.c9;have c0 := hcw.c0;clear hst hkx hcat hcw hlen;have HNX := hideT (show ¬ ((x.nm = 98 \/ x.nm = 116) /\ x.lb ≠ [] /\ labB l x.lb = false) -> xjw l (l.drop (k + 1)) = xjw l l from fun hn => by rw [<- HJK.out, HST.out, if_neg hn]);by_cases hbt : x.nm = 98 \/ x.nm = 116
   ·by_cases hem : x.lb = []
    ·have HN2 := hideT (HNX.out (fun h => h.2.1 hem));rw [hem] at c9;clear hem HST HJK HNX;have a1 : (((x.nm.toNat : Int) != 98) = true /\ ((x.nm.toNat : Int) != 116) = false) \/ ((x.nm.toNat : Int) != 98) = false := by
      rcases hbt with e | e
      ·right; rw [e]; rfl
      ·left; rw [e]; exact ⟨rfl, rfl⟩
     clear hbt;rcases a1 with ⟨a1, a2⟩ | a1
     all_goals
      go_wp2;exact ⟨⟨k + 1, by omega, by go_num, HN2, HB⟩, by simp [intOf]; omega⟩
    ·have HEM := hideT hem;have he : x.lb.isEmpty = false := by simpa using hem
     have HBT := hideT hbt;have a1 : (((x.nm.toNat : Int) != 98) = true /\ ((x.nm.toNat : Int) != 116) = false) \/ ((x.nm.toNat : Int) != 98) = false := by
      rcases hbt with e | e
      ·right; rw [e]; rfl
      ·left; rw [e]; exact ⟨rfl, rfl⟩
     clear hbt hem;obtain ⟨b, hb⟩ : ∃ b, b = Maps.has D (.string x.lb) := ⟨_, rfl⟩;have HLB := hideT (show b = labB l x.lb by rw [hb, HLL.out]);have HSW := hideT (HH.out.step HBW.out);have HL := hideT (fun (V : World) (hV : Below wr.heap.size wr V) => sof_look HSW.out (hV.block mb HSW.out.mblt) x.lb (by have := HLEN.out; unfold maxLen; omega));rw [<- hb] at HL;have m1 := HSW.out.c1;have HC1 := hideT (fun (V : World) (hV : Below wr.heap.size wr V) => keep_cell hV m1);have HCL := hideT (fun (V : World) (hV : Below wr.heap.size wr V) => keep_cell hV c9);have HC0 := hideT (fun (V : World) (hV : Below wr.heap.size wr V) => keep_cell hV c0);have HR0 := hideT (fun (V : World) (hV : Below wr.heap.size wr V) => keep_cell hV r0);have HR1 := hideT (fun (V : World) (hV : Below wr.heap.size wr V) => keep_cell hV r1);have HRF := hideT (fun (V : World) (hV : Below wr.heap.size wr V) => show V.frozen? ⟨W.heap.size, 0, none⟩ = false /\ V.frozen? ⟨W.heap.size, 1, none⟩ = false from ⟨(World.frozen?_of_block (hV.block W.heap.size (World.block_lt_of_cell? wr _ r0))).trans f0, (World.frozen?_of_block (hV.block W.heap.size (World.block_lt_of_cell? wr _ r0))).trans f1⟩);have s0 : Below wr.heap.size wr wr.drew := (Below.refl _ _).drew;clear hb m1;rcases a1 with ⟨a1, a2⟩ | a1
     ·go_wp2_with fail
      refine wp_region_held (S := fun V => Below wr.heap.size wr V) (by kernel_rfl) ?_
      refine' take_d 0 (some 37) rfl rfl (by kernel_rfl) (by kernel_rfl) (by kernel_rfl) (fun _ _ _ h => h) (wanted_none rfl _) s0 ?tk1 ?rs1
      case tk1 => intro V hV; go_simp; (try with_reducible rfl)
      refine' take_d 1 (some 38) rfl rfl (by kernel_rfl) (by kernel_rfl) (by kernel_rfl) (fun _ _ _ h => h) (wanted_none rfl _) s0 ?tk2 ?rs2
      case tk2 => intro V hV; go_simp; (try with_reducible rfl)
      refine' take_d 2 (some 39) rfl rfl (by kernel_rfl) (by kernel_rfl) (by kernel_rfl) (fun _ _ _ h => h) (wanted_none rfl _) s0 ?tk3 ?rs3
      case tk3 => intro V hV; go_simp; (try with_reducible rfl)
      refine' take_d 3 (some 40) rfl rfl (by kernel_rfl) (by kernel_rfl) (by kernel_rfl) (fun _ _ _ h => h) (wanted_none rfl _) s0 ?tk4 ?rs4
      case tk4 => intro V hV; have hc := HC1.out V hV; go_simp; (try with_reducible rfl)
      refine' take_d 4 (some 41) rfl rfl (by kernel_rfl) (by kernel_rfl) (by kernel_rfl) (fun _ _ _ h => h) (wanted_none rfl _) s0 ?tk5 ?rs5
      case tk5 => intro V hV; go_simp; (try with_reducible rfl)
      refine' take_d 5 (some 42) rfl rfl (by kernel_rfl) (by kernel_rfl) (by kernel_rfl) (fun _ _ _ h => h) (wanted_none rfl _) s0 ?tk6 ?rs6
      case tk6 => intro V hV; go_simp; (try with_reducible rfl)
      refine' take_d 6 (some 43) rfl rfl (by kernel_rfl) (by kernel_rfl) (by kernel_rfl) (fun _ _ _ h => h) (wanted_none rfl _) s0 ?tk7 ?rs7
      case tk7 => intro V hV; go_simp; (try with_reducible rfl)
      refine' take_d 7 (some 44) rfl rfl (by kernel_rfl) (by kernel_rfl) (by kernel_rfl) (fun _ _ _ h => h) (wanted_none rfl _) s0 ?tk8 ?rs8
      case tk8 => intro V hV; have hc := HCL.out V hV; go_simp; (try with_reducible rfl)
      simp only [Act.put, List.setIfInBounds_toArray, List.set_cons_zero, List.set_cons_succ]
      refine' take_d 8 (some 45) rfl rfl (by kernel_rfl) (by kernel_rfl) (by kernel_rfl) (fun _ _ _ h => h) (wanted_none rfl _) s0 ?tk9 ?rs9
      case tk9 => intro V hV; exact look_yield rfl rfl rfl (HL.out V hV)
      refine' take_d 9 (some 36) rfl rfl (by kernel_rfl) (by kernel_rfl) (by kernel_rfl) (fun _ _ _ h => h) (wanted_none rfl _) s0 ?tk10 ?rs10
      case tk10 => intro V hV; go_simp; (try with_reducible rfl)
      refine' take_d 10 (some 46) rfl rfl (by kernel_rfl) (by kernel_rfl) (by kernel_rfl) (fun _ _ _ h => h) (wanted_none rfl _) s0 ?tk11 ?rs11
      case tk11 => intro V hV; go_simp; (try with_reducible rfl)
      refine' take_d 11 (some 47) rfl rfl (by kernel_rfl) (by kernel_rfl) (by kernel_rfl) (fun _ _ _ h => h) (wanted_none rfl _) s0 ?tk12 ?rs12
      case tk12 => intro V hV; go_simp; (try with_reducible rfl)
      refine wpAnyH_all (rs := [12]) (by kernel_rfl) (by simp) (fun i hi => ?_);obtain rfl : i = 12 := List.mem_singleton.1 hi;have s1 : Below wr.heap.size wr (wr.drew.alloc (.cells #[] 183)) := s0.alloc qr _;refine op_value (some 7) (v := .pointer (some ⟨wr.heap.size, 0, none⟩)) (w' := wr.drew.alloc (.cells #[] 183)) rfl rfl (wanted_none rfl _) (by go_simp; (try with_reducible rfl)) ?_;refine And.intro s1 ?_;simp only [Act.put, List.setIfInBounds_toArray, List.set_cons_zero, List.set_cons_succ];refine wpAnyH_all (rs := [13]) (by kernel_rfl) (by simp) (fun i hi => ?_);obtain rfl : i = 13 := List.mem_singleton.1 hi;refine op_skip (w' := wr.drew.alloc (.cells #[] 183)) rfl rfl (wanted_none rfl _) (by go_simp; (try with_reducible rfl)) ?_;refine And.intro s1 ?_
      refine' take_d 14 (some 8) rfl rfl (by kernel_rfl) (by kernel_rfl) (by kernel_rfl) (fun _ _ _ h => h) (wanted_none rfl _) s1 ?tk13 ?rs13
      case tk13 => intro V hV; go_simp; (try with_reducible rfl)
      exact bck0
     ·go_wp2_with fail
      refine wp_region_held (S := fun V => Below wr.heap.size wr V) (by kernel_rfl) ?_
      refine' take_d 0 (some 37) rfl rfl (by kernel_rfl) (by kernel_rfl) (by kernel_rfl) (fun _ _ _ h => h) (wanted_none rfl _) s0 ?tk14 ?rs14
      case tk14 => intro V hV; go_simp; (try with_reducible rfl)
      refine' take_d 1 (some 38) rfl rfl (by kernel_rfl) (by kernel_rfl) (by kernel_rfl) (fun _ _ _ h => h) (wanted_none rfl _) s0 ?tk15 ?rs15
      case tk15 => intro V hV; go_simp; (try with_reducible rfl)
      refine' take_d 2 (some 39) rfl rfl (by kernel_rfl) (by kernel_rfl) (by kernel_rfl) (fun _ _ _ h => h) (wanted_none rfl _) s0 ?tk16 ?rs16
      case tk16 => intro V hV; go_simp; (try with_reducible rfl)
      refine' take_d 3 (some 40) rfl rfl (by kernel_rfl) (by kernel_rfl) (by kernel_rfl) (fun _ _ _ h => h) (wanted_none rfl _) s0 ?tk17 ?rs17
      case tk17 => intro V hV; have hc := HC1.out V hV; go_simp; (try with_reducible rfl)
      refine' take_d 4 (some 41) rfl rfl (by kernel_rfl) (by kernel_rfl) (by kernel_rfl) (fun _ _ _ h => h) (wanted_none rfl _) s0 ?tk18 ?rs18
      case tk18 => intro V hV; go_simp; (try with_reducible rfl)
      refine' take_d 5 (some 42) rfl rfl (by kernel_rfl) (by kernel_rfl) (by kernel_rfl) (fun _ _ _ h => h) (wanted_none rfl _) s0 ?tk19 ?rs19
      case tk19 => intro V hV; go_simp; (try with_reducible rfl)
      refine' take_d 6 (some 43) rfl rfl (by kernel_rfl) (by kernel_rfl) (by kernel_rfl) (fun _ _ _ h => h) (wanted_none rfl _) s0 ?tk20 ?rs20
      case tk20 => intro V hV; go_simp; (try with_reducible rfl)
      refine' take_d 7 (some 44) rfl rfl (by kernel_rfl) (by kernel_rfl) (by kernel_rfl) (fun _ _ _ h => h) (wanted_none rfl _) s0 ?tk21 ?rs21
      case tk21 => intro V hV; have hc := HCL.out V hV; go_simp; (try with_reducible rfl)
      simp only [Act.put, List.setIfInBounds_toArray, List.set_cons_zero, List.set_cons_succ]
      refine' take_d 8 (some 45) rfl rfl (by kernel_rfl) (by kernel_rfl) (by kernel_rfl) (fun _ _ _ h => h) (wanted_none rfl _) s0 ?tk22 ?rs22
      case tk22 => intro V hV; exact look_yield rfl rfl rfl (HL.out V hV)
      refine' take_d 9 (some 36) rfl rfl (by kernel_rfl) (by kernel_rfl) (by kernel_rfl) (fun _ _ _ h => h) (wanted_none rfl _) s0 ?tk23 ?rs23
      case tk23 => intro V hV; go_simp; (try with_reducible rfl)
      refine' take_d 10 (some 46) rfl rfl (by kernel_rfl) (by kernel_rfl) (by kernel_rfl) (fun _ _ _ h => h) (wanted_none rfl _) s0 ?tk24 ?rs24
      case tk24 => intro V hV; go_simp; (try with_reducible rfl)
      refine' take_d 11 (some 47) rfl rfl (by kernel_rfl) (by kernel_rfl) (by kernel_rfl) (fun _ _ _ h => h) (wanted_none rfl _) s0 ?tk25 ?rs25
      case tk25 => intro V hV; go_simp; (try with_reducible rfl)
      refine wpAnyH_all (rs := [12]) (by kernel_rfl) (by simp) (fun i hi => ?_);obtain rfl : i = 12 := List.mem_singleton.1 hi;have s1 : Below wr.heap.size wr (wr.drew.alloc (.cells #[] 183)) := s0.alloc qr _;refine op_value (some 7) (v := .pointer (some ⟨wr.heap.size, 0, none⟩)) (w' := wr.drew.alloc (.cells #[] 183)) rfl rfl (wanted_none rfl _) (by go_simp; (try with_reducible rfl)) ?_;refine And.intro s1 ?_;simp only [Act.put, List.setIfInBounds_toArray, List.set_cons_zero, List.set_cons_succ];refine wpAnyH_all (rs := [13]) (by kernel_rfl) (by simp) (fun i hi => ?_);obtain rfl : i = 13 := List.mem_singleton.1 hi;refine op_skip (w' := wr.drew.alloc (.cells #[] 183)) rfl rfl (wanted_none rfl _) (by go_simp; (try with_reducible rfl)) ?_;refine And.intro s1 ?_
      refine' take_d 14 (some 8) rfl rfl (by kernel_rfl) (by kernel_rfl) (by kernel_rfl) (fun _ _ _ h => h) (wanted_none rfl _) s1 ?tk26 ?rs26
      case tk26 => intro V hV; go_simp; (try with_reducible rfl)
      exact bck0
   ·have n1 : ((x.nm.toNat : Int) != 98) = true := by rw [bne_iff_ne]; exact fun e => hbt (.inl (UInt8.toNat_inj.1 (by show _ = 98; omega)))
    have n2 : ((x.nm.toNat : Int) != 116) = true := by rw [bne_iff_ne]; exact fun e => hbt (.inr (UInt8.toNat_inj.1 (by show _ = 116; omega)))
    have HN2 := hideT (HNX.out (fun h => hbt h.1));clear hbt HST HJK HNX;go_wp2;exact ⟨⟨k + 1, by omega, by go_num, HN2, HB⟩, by simp [intOf]; omega⟩
  ·obtain rfl : k = l.length := by omega
   have i1 : ((l.length : Int) < (l.length : Int)) = False := qg;have HF := hideT (show J = fltV 0 0 by
    rw [HJ.out, jmpV, <- HJK.out, List.drop_of_length_le qr];rfl)
   clear HJ HJK;go_wp2;rw [HF.out];exact bodyPost_ret (by simp [results, Tryz.results63, go_sem, fltV, r0, r1]) rfl ⟨rfl, below_put (below_put HBW.out qr _ _) qr _ _⟩
def chkV (l : List Cm) : Value := fltV ((chkR l).1 : Nat) (chkR l).2
structure ChkI (N : Nat) (l : List Cm) (Y wr : World) (k : Nat) (v2 : Value) (st : List Int) (D : DataW Unit) : Prop where
 sof : Sof wr (N + 1) (N + 1 + 1) (N + 1) v2 st D k
 len : st.length <= 16
 labs : LabsIn D (l.take k)
 go : goR (l.take k) st.length (l.drop k) = goR [] 0 l
 op : xp7 (l.drop k) st.reverse = xp7 l []
 below : Below (N + 1) Y wr
theorem one_le {d : Nat} (hd : d <= 16) (h : (oneR pre d c).1 = 0) : (oneR pre d c).2 <= 16 := by
 unfold oneR at h ⊢;split
 ·exact hd
 ·rename_i h1;rw [if_neg h1] at h;split
  ·rename_i h2;rw [if_pos h2] at h;split at h
   ·cases h
   ·rw [if_neg (by assumption)];show d + 1 <= 16
    omega
  ·rename_i h2;rw [if_neg h2] at h;split
   ·split
    ·exact Nat.zero_le _
    ·show d - 1 <= 16
     omega
   ·split <;> exact hd
theorem one_fault {d : Nat} : (oneR pre d c).1 <= 23 := by
 unfold oneR adrR
 repeat' split
 all_goals (first | decide | omega | skip)
theorem check_any (hr : CRow W lv l) (hl : l.length <= 1000000000) : Calls Tryz.prog 41 #[lv] W fun e w' => e = .returned (chkV l) /\ Below W.heap.size W w' := by
 have HR := hideT hr;obtain ⟨a, cp, rfl, hrow⟩ := hr;obtain ⟨J, hJ⟩ : ∃ J, J = chkV l := ⟨_, rfl⟩;rw [<- hJ];have HJ := hideT hJ;have HROW := hideT hrow;clear hrow hJ;have hmk : ∀ V : World, (Instr.makeMap 134 none).run Tryz.prog V = .ok (.map (some V.heap.size)) (V.alloc (.map #[] 0)) := fun V => run_makeMap _ V;go_enter Tryz.func41, Tryz.ntmps41
 go_wp2_with fail
 have hA : Below W.heap.size W (((W.alloc (.cells #[.int .i64 0, .int .i64 0] 45)).alloc (.map #[] 0)).alloc (.cells #[.slice none 0 0, .map (some (W.heap.size + 1))] 137)) := (((Below.refl _ _).alloc qr _).alloc (by simp) _).alloc (by simp; omega) _;have hres : (((W.alloc (.cells #[.int .i64 0, .int .i64 0] 45)).alloc (.map #[] 0)).alloc (.cells #[.slice none 0 0, .map (some (W.heap.size + 1))] 137)).heap[W.heap.size]? = some (.cells #[.int .i64 0, .int .i64 0] 45) := (Below.heap_alloc _ _ _ (by simp; omega)).trans ((Below.heap_alloc _ _ _ (by simp)).trans (heap_alloc_new W _));have hmap : ((((W.alloc (.cells #[.int .i64 0, .int .i64 0] 45)).alloc (.map #[] 0)).alloc (.cells #[.slice none 0 0, .map (some (W.heap.size + 1))] 137))).ownsMap Tryz.prog 9 (unitElem (H := Unit)) (W.heap.size + 1) 0 (.map []) := by
  have h1 := (World.ownsMap_made (W.alloc (.cells #[.int .i64 0, .int .i64 0] 45)) Tryz.prog 9 (unitElem (H := Unit))).alloc (.cells #[.slice none 0 0, .map (some (W.heap.size + 1))] 137);rw [World.size_alloc] at h1;exact h1
 have hblk : (((W.alloc (.cells #[.int .i64 0, .int .i64 0] 45)).alloc (.map #[] 0)).alloc (.cells #[.slice none 0 0, .map (some (W.heap.size + 1))] 137)).heap[W.heap.size + 1 + 1]? = some (.cells #[.slice none 0 0, .map (some (W.heap.size + 1))] 137) := by
  have h1 := heap_alloc_new ((W.alloc (.cells #[.int .i64 0, .int .i64 0] 45)).alloc (.map #[] 0)) (.cells #[.slice none 0 0, .map (some (W.heap.size + 1))] 137);rw [World.size_alloc, World.size_alloc] at h1;exact h1
 have hsz : (((W.alloc (.cells #[.int .i64 0, .int .i64 0] 45)).alloc (.map #[] 0)).alloc (.cells #[.slice none 0 0, .map (some (W.heap.size + 1))] 137)).heap.size = W.heap.size + 1 + 1 + 1 := by rw [World.size_alloc, World.size_alloc, World.size_alloc]
 obtain ⟨N, hN⟩ : ∃ N, N = W.heap.size := ⟨_, rfl⟩;have HWN := hideT hN;rw [<- hN] at hA hres hmap hblk hsz ⊢;clear hN;obtain ⟨Y, hY⟩ : ∃ Y, Y = (((W.alloc (.cells #[.int .i64 0, .int .i64 0] 45)).alloc (.map #[] 0)).alloc (.cells #[.slice none 0 0, .map (some (N + 1))] 137)) := ⟨_, rfl⟩;rw [<- hY] at hA hres hmap hblk hsz ⊢;clear hY;have HAY := hideT hA;have HRES := hideT hres;have HSZ := hideT hsz;have H0 := hideT (show ChkI N l Y Y 0 (.slice none 0 0) [] (.map []) from ⟨⟨by omega, by omega, hblk, World.ownsRow_nil _ _ _ _, hmap⟩, by simp, fun s => rfl, rfl, rfl, Below.refl _ _⟩);clear hA hres hmap hblk hsz hmk
 go_loopw [10] (fun v wr => ∃ k : Nat, k <= l.length /\ v = .int .i64 k /\ Hid (∃ v2 st D, ChkI N l Y wr k v2 st D)) (fun v _ => l.length - (intOf v).toNat)
 case atStart => exact ⟨0, Nat.zero_le _, rfl, hideT ⟨_, _, _, H0.out⟩⟩
 case round =>
  obtain ⟨k, hk, rfl, HI⟩ := hrel;obtain ⟨v2, st, D, hI⟩ := HI.out;have HII := hideT hI;have HBW := hideT (HAY.out.trans (hI.below.mono (Nat.le_succ N)));clear HI hI;by_cases hlt : k < l.length
  ·have i1 : (k : Int) < (l.length : Int) := by omega
   have i2 : (0 : Int) <= (k : Int) := by omega
   have hkx : l[k]? = some (l[k]'hlt) := List.getElem?_eq_getElem hlt;obtain ⟨g, o, rfl, hcat, hlen⟩ := HROW.out k _ hkx;have hgo : goR (l.take k) st.length (l.drop k) = if (oneR (l.take k) st.length (l[k]'hlt)).1 ≠ 0 then .inl ((oneR (l.take k) st.length (l[k]'hlt)).1, (l[k]'hlt).pl) else goR (l.take (k + 1)) (oneR (l.take k) st.length (l[k]'hlt)).2 (l.drop (k + 1)) := by
    rw [List.drop_eq_getElem_cons hlt, goR, List.take_succ_eq_append_getElem hlt]
   have hop : xp7 (l.drop k) st.reverse = xp7 (l.drop (k + 1)) (if (l[k]'hlt).nm = 123 then (l[k]'hlt).pl :: st.reverse else if (l[k]'hlt).nm = 125 then st.reverse.tail else st.reverse) := by
    rw [List.drop_eq_getElem_cons hlt, xp7]
   have htk : l.take (k + 1) = l.take k ++ [l[k]'hlt] := List.take_succ_eq_append_getElem hlt;generalize (l[k]'hlt) = x at *;have hgN : g < N := by rw [HWN.out]; exact hcat.lt
   have hcw := hcat.keep (HBW.out.block g hgN);have HCW := hideT hcw;have HGO := hideT hgo;have HOP := hideT hop;have HTK := hideT htk;have HGN := hideT hgN;have HCM := hideT (xke HII.out.sof (by have := HII.out.below.size; rw [HSZ.out] at this; omega) HII.out.len (by omega) (l.take k) HII.out.labs x g (o + k * 19) hlen (by omega) hcw);clear hgo hop htk hkx hcat hcw hlen hgN;obtain ⟨E, hE⟩ : ∃ E, E = (oneR (l.take k) st.length x).1 := ⟨_, rfl⟩
   go_wp2_with fail
   refine HCM.out.mono ?_;rintro e w1 ⟨rfl, hb1, hp1⟩;have HB1 := hideT hb1;have HP1 := hideT hp1;clear hb1 hp1 HCM;rw [<- hE] at HGO HP1 ⊢;have HEE := hideT hE;have HEL := hideT (show E <= 23 by rw [hE]; exact one_fault);clear hE;have HYB := hideT (HII.out.below.trans HB1.out);have HWB := hideT (HAY.out.trans (HYB.out.mono (Nat.le_succ N)));by_cases he : E = 0
   ·have z1 : ((E : Int) != 0) = false := by rw [he]; rfl
    have HN := hideT (show ∃ v2 st D, ChkI N l Y w1 (k + 1) v2 st D by
     obtain ⟨v3, st3, D3, q1, q2, q3, q4⟩ := HP1.out he;refine ⟨v3, st3, D3, q1, ?_, by rw [HTK.out]; exact q4, ?_, ?_, HYB.out⟩
     ·rw [q2];exact one_le HII.out.len (by rw [<- HEE.out]; exact he)
     ·rw [q2, <- HII.out.go, HGO.out, if_neg (by simpa using he)]
     ·rw [q3, <- HII.out.op, HOP.out])
    subst he;go_wp2;exact ⟨⟨k + 1, by omega, by go_num, HN⟩, by simp [intOf]; omega⟩
   ·have z1 : ((E : Int) != 0) = true := qb;have HF := hideT (show J = fltV (E : Nat) x.pl by
     rw [HJ.out];have h1 : goR [] 0 l = .inl (E, x.pl) := by rw [<- HII.out.go, HGO.out, if_pos he]
     simp only [chkV, chkR, h1])
    have d0 := (HCW.out.keep (HB1.out.block g (by have := HGN.out; omega))).c0;have hrb : w1.heap[N]? = some (.cells #[.int .i64 0, .int .i64 0] 45) := (HYB.out.block N (Nat.lt_succ_self N)).trans HRES.out;have r0 := clq 0 hrb rfl;have r1 := clq 1 hrb rfl;have f0 := fzq 0 hrb;have f1 := fzq 1 hrb;have HZ := hideT he;clear hrb he;go_wp2;rw [HF.out];exact bodyPost_ret (by simp [results, Tryz.results41, go_sem, fltV, r0, r1]) rfl ⟨rfl, by rw [<- HWN.out]; exact below_put (below_put HWB.out qr _ _) qr _ _⟩
  ·obtain rfl : k = l.length := by omega
   have i1 : ((l.length : Int) < (l.length : Int)) = False := qg;have hgo : goR [] 0 l = .inr st.length := by
    have h1 := HII.out.go;rw [List.take_length, List.drop_of_length_le qr] at h1;exact h1.symm
   have hop : xp7 l [] = st.reverse := by
    have h1 := HII.out.op;rw [List.drop_of_length_le qr] at h1;exact h1.symm
   have hlb : LabsIn D l := by
    have h1 := HII.out.labs;rw [List.take_length] at h1;exact h1
   have hrb : wr.heap[N]? = some (.cells #[.int .i64 0, .int .i64 0] 45) := (HII.out.below.block N (Nat.lt_succ_self N)).trans HRES.out;have m0 := HII.out.sof.c0.1;have hown := HII.out.sof.own;rcases List.eq_nil_or_concat st with rfl | ⟨st1, p1, rfl⟩
   ·have HVV := hideT (show J = jmpV l by
     rw [HJ.out];simp only [chkV, chkR, hgo, List.length_nil, ne_eq, not_true, if_false, jmpV];cases xjw l l <;> rfl)
    have HUN := hideT (unknown_any HII.out.sof (HR.out.keep (fun k hk => HBW.out.block k (by rw [HWN.out]; exact hk))) hlb hl);have HRB := hideT hrb;have hv2 : v2 = .slice none 0 0 \/ ∃ g c, v2 = .slice (some ⟨g, 0, none⟩) 0 c := by
     rcases hown.2 with ⟨h1, _⟩ | ⟨g, c, cur, h1, _⟩
     ·exact .inl h1
     ·exact .inr ⟨g, c, h1⟩
    clear hgo hop hlb hrb hown;have key : ∀ w1, Below wr.heap.size wr w1 -> w1.heap[N]? = some (.cells #[.int .i64 0, .int .i64 0] 45) /\ Below N W w1 := fun w1 h1 => ⟨(h1.block N (Array.getElem?_eq_some_iff.1 HRB.out).1).trans HRB.out, HBW.out.trans (h1.mono (by have := HBW.out.size; rw [<- HWN.out] at this; exact this))⟩;have HKEY := hideT key;have hjs : ∃ ee pp, jmpV l = fltV ee pp := by
     unfold jmpV;cases xjw l l with
     | none => exact ⟨_, _, rfl⟩
     | some p => exact ⟨_, _, rfl⟩
    obtain ⟨ee, pp, hjv⟩ := hjs;rw [hjv] at HUN HVV;clear key hjv;rcases hv2 with rfl | ⟨g, c, rfl⟩
    all_goals
     go_wp2_with fail
     refine HUN.out.mono ?_;rintro e w1 ⟨rfl, hb1⟩;obtain ⟨hrb, hbw⟩ := HKEY.out w1 hb1;have r0 := clq 0 hrb rfl;have r1 := clq 1 hrb rfl;have f0 := fzq 0 hrb;have f1 := fzq 1 hrb;have HF := hideT hbw;clear hrb hbw hb1;unfold fltV;go_wp2;rw [HVV.out];exact bodyPost_ret (by simp [results, Tryz.results41, go_sem, fltV, r0, r1]) rfl ⟨rfl, by rw [<- HWN.out]; exact below_put (below_put HF.out qr _ _) qr _ _⟩
   ·rw [List.concat_eq_append] at hgo hop hown;have HVV := hideT (show J = fltV 23 p1 by
     rw [HJ.out];have hne : (st1 ++ [p1]).length ≠ 0 := by simp
     simp only [chkV, chkR, hgo];rw [if_pos hne, hop];simp)
    have HLEN := hideT HII.out.len;rw [List.concat_eq_append, List.length_append, List.length_singleton] at HLEN;rw [List.length_append, List.length_singleton, intsV_app] at hown;rcases hown.2 with ⟨h1, h2⟩ | ⟨g, c, cur, rfl, _⟩
    ·omega
    ·have hlast : wr.cell? ⟨g, st1.length, none⟩ = some (.int .i64 p1) := by
      have h1 := hown.cells (g := g) rfl st1.length (.int .i64 p1) (by rw [List.getElem?_append_right (by rw [intsV_len]; exact Nat.le_refl _), intsV_len]; simp);have hadd : (⟨g, 0, none⟩ : Addr).add st1.length = ⟨g, st1.length, none⟩ := by unfold Addr.add; split <;> simp_all
      rw [hadd] at h1;exact h1
     obtain ⟨M, hM⟩ : ∃ M : Nat, M = st1.length := ⟨_, rfl⟩;rw [<- hM] at hlast m0 HLEN;have r0 := clq 0 hrb rfl;have r1 := clq 1 hrb rfl;have f0 := fzq 0 hrb;have f1 := fzq 1 hrb;have j1 : (0 : Int) < (M : Int) + 1 := by omega
     have j2 : IntKind.i64.wrap ((M : Int) + 1 - 1) = (M : Int) := by have := HLEN.out; rw [IntKind.wrap_i64]; omega
     have j2' : IntKind.i64.wrap (M : Int) = (M : Int) := by have := HLEN.out; rw [IntKind.wrap_i64]; omega
     have j3 : (0 : Int) <= (M : Int) := by omega
     have j4 : (M : Int) < (M : Int) + 1 := by omega
     clear hgo hop hlb hrb hown hM;go_wp2;rw [HVV.out];exact bodyPost_ret (by simp [results, Tryz.results41, go_sem, fltV, r0, r1]) rfl ⟨rfl, by rw [<- HWN.out]; exact below_put (below_put HBW.out qr _ _) qr _ _⟩
end ckp
end Go.Proofs.YtcpokkpjeeblnaaGreatDoor
