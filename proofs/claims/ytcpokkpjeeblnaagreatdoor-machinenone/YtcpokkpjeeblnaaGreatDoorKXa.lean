/- script, pure: what Parse answers, over lists of bytes; G: what is known of a BRE (its error, its groups). -/
import Derived.Test.YtcpokkpjeeblnaaGreatDoorKBa
import Derived.Test.YtcpokkpjeeblnaaGreatDoorKUk
import Derived.Test.YtcpokkpjeeblnaaGreatDoorKSa
import Derived.Test.YtcpokkpjeeblnaaGreatDoorKTa
import Derived.Test.YtcpokkpjeeblnaaGreatDoorKYa
import Derived.Test.YtcpokkpjeeblnaaGreatDoorKZa
set_option maxRecDepth 100000
set_option maxHeartbeats 1000000
namespace Go.Proofs.YtcpokkpjeeblnaaGreatDoor
theorem bxa0 {P : Prop} (h : P := by
 go_enter Tryz.func204, Tryz.ntmps204
 go_wp2_with fail
 generalize w.alloc (.cells Zq 68) = X at *;have c0 := HR.out.c0;have c1 := HR.out.c1
 go_region_with (first | (go_at_call 254; refine (HU.out _).mono ?_; rintro x w1 ⟨rfl, rfl⟩))
 all_goals
  go_wp2_with fail
  refine (HG.out _).mono ?_;rintro x w2 ⟨rfl, rfl⟩;go_wp2;exact ⟨rfl, rfl, HT.out.more (Tch.drewN _ _ 1)⟩) : P := h
namespace scrP
open scanP tpl ytb
structure Adr where
 k : Nat
 ln : Nat
 re : List UInt8
structure Co where
 pl : Nat
 a : Adr
 b : Adr
 nt : Bool
 nm : UInt8
 lb : List UInt8
 tx : List UInt8
 fl : List UInt8
 re : List UInt8
 ps : List Pt
 nh : Nat
 an : Bool
 pr : Bool
 fr : List UInt8
 to : List UInt8
abbrev Rd (α : Type) := Except (Nat × Nat) α
abbrev Gr := List UInt8 -> Nat × Nat
def adr0 : Adr := ⟨0, 0, []⟩
def co0 : Co := ⟨0, adr0, adr0, false, 0, [], [], [], [], [], 0, false, false, [], []⟩
def mtB (l : List UInt8) (i : Nat) (S : List UInt8) : Bool := match l[i]? with
 | none => false
 | some b => S.contains b
def dgS : List UInt8 := [48, 49, 50, 51, 52, 53, 54, 55, 56, 57]
def delR (l : List UInt8) (i e p : Nat) : Rd (UInt8 × Nat) := match l[i]? with
 | none => .error (e, p)
 | some b => if b = 10 \/ b = 92 then .error (e, p) else .ok (b, i + 1)
def pieR (l : List UInt8) (i : Nat) (d : UInt8) (ln : Bool) (p : Nat) : Rd (List UInt8 × Nat) :=
 if (xau l i d ln).2.2 = 0 then .ok ((xau l i d ln).1, (xau l i d ln).2.1) else .error ((xau l i d ln).2.2, p)
def grpR (G : Gr) (re : List UInt8) (p : Nat) : Rd Nat := if (G re).1 = 0 then .ok (G re).2 else .error ((G re).1, p)
def matR (G : Gr) (l : List UInt8) (p i : Nat) : Rd (Adr × Nat) := match delR l i 17 p with
 | .error x => .error x
 | .ok (d, j) => match pieR l j d false p with
  | .error x => .error x
  | .ok (t, k) => match grpR G t p with
   | .error x => .error x
   | .ok _ => .ok (⟨3, 0, t⟩, k)
def linR (l : List UInt8) (i : Nat) : Rd (Adr × Nat) := if (numR l i).2.2 ≠ 0 \/ (numR l i).1 = 0 then .error (17, i) else .ok (⟨1, (numR l i).1, []⟩, (numR l i).2.1)
def oneA (G : Gr) (l : List UInt8) (i : Nat) : Rd (Adr × Nat) :=
 if mtB l i dgS then linR l i
 else if mtB l i [36] then .ok (⟨2, 0, []⟩, i + 1)
 else if mtB l i [47] then matR G l i i
 else if mtB l i [92] then matR G l i (i + 1)
 else .ok (adr0, i)
def twoA (G : Gr) (l : List UInt8) (i : Nat) : Rd (Adr × Adr × Nat) := match oneA G l i with
 | .error x => .error x
 | .ok (a, k) =>
  if a.k = 0 then .ok (a, adr0, k)
  else if mtB l (xab l k) [44] then
   (match oneA G l (xab l (xab l k + 1)) with
   | .error x => .error x
   | .ok (b, m) => if b.k = 0 then .error (17, m) else .ok (a, b, m))
  else .ok (a, adr0, xab l k)
def endR (l : List UInt8) (i : Nat) : Rd Nat := if xab l i = l.length \/ mtB l (xab l i) [10, 59, 125, 35] = true then .ok (xab l i) else .error (19, xab l i)
def filR (l : List UInt8) (p i : Nat) : Rd (List UInt8 × Nat) := if xfy (xbi l i).1 = true then .ok (xbi l i) else .error (3, p)
def labR (l : List UInt8) (nm : UInt8) (p i : Nat) : Rd (List UInt8 × Nat) := if 32 < (xcw l i).1.length \/ nm = 58 /\ (xcw l i).1 = [] then .error (22, p) else .ok (xcw l i)
def txtR (l : List UInt8) (p i : Nat) : Rd (List UInt8 × Nat) := if (textR l i).2.2 = 0 then .ok ((textR l i).1, (textR l i).2.1) else .error ((textR l i).2.2, p)
def txtC (l : List UInt8) (c : Co) (i : Nat) : Rd (Co × Nat) := match txtR l c.pl i with
 | .error x => .error x
 | .ok (t, k) => .ok ({ c with tx := t }, k)
def labC (l : List UInt8) (c : Co) (i : Nat) : Rd (Co × Nat) := match labR l c.nm c.pl i with
 | .error x => .error x
 | .ok (t, k) => .ok ({ c with lb := t }, k)
def filC (l : List UInt8) (c : Co) (i : Nat) : Rd (Co × Nat) := match filR l c.pl i with
 | .error x => .error x
 | .ok (t, k) => .ok ({ c with fl := t }, k)
def endC (l : List UInt8) (c : Co) (i : Nat) : Rd (Co × Nat) := match endR l i with
 | .error x => .error x
 | .ok k => .ok (c, k)
def flgR (l : List UInt8) : Nat -> Co -> Nat -> Rd (Co × Nat)
 | 0, c, i => .ok (c, i)
 | n + 1, c, i =>
  if mtB l i [103] then (if c.an = true then .error (20, i) else flgR l n { c with an := true } (i + 1))
  else if mtB l i [112] then (if c.pr = true then .error (20, i) else flgR l n { c with pr := true } (i + 1))
  else if mtB l i dgS then (if c.nh ≠ 0 \/ (numR l i).2.2 ≠ 0 \/ (numR l i).1 < 1 \/ 512 < (numR l i).1 then .error (20, i) else flgR l n { c with nh := (numR l i).1 } (numR l i).2.1)
  else if mtB l i [119] then filC l c (i + 1)
  else endC l c i
def sedR (G : Gr) (l : List UInt8) (c : Co) (i : Nat) : Rd (Co × Nat) := match delR l i 19 c.pl with
 | .error x => .error x
 | .ok (d, j) => match pieR l j d false c.pl with
  | .error x => .error x
  | .ok (t, k) => match pieR l k d true c.pl with
   | .error x => .error x
   | .ok (u, m) => match grpR G t c.pl with
    | .error x => .error x
    | .ok g =>
     if (xap u).2.1 ≠ 0 then .error ((xap u).2.1, c.pl)
     else if t ≠ [] /\ (g : Int) < xfz (xap u).1.ps 0 then .error (11, c.pl)
     else match flgR l (l.length + 1) { c with re := t, ps := (xap u).1.ps } m with
      | .error x => .error x
      | .ok (c, k) => .ok ({ c with nh := max c.nh 1 }, k)
def sidR (l : List UInt8) (d : UInt8) (p i : Nat) : Rd (List UInt8 × Nat) := match pieR l i d false p with
 | .error x => .error x
 | .ok (t, k) => if (xd7 t).2.1 = 0 then .ok ((xd7 t).1, k) else .error ((xd7 t).2.1, p)
def tabR (l : List UInt8) (c : Co) (i : Nat) : Rd (Co × Nat) := match delR l i 19 c.pl with
 | .error x => .error x
 | .ok (d, j) => match sidR l d c.pl j with
  | .error x => .error x
  | .ok (f, k) => match sidR l d c.pl k with
   | .error x => .error x
   | .ok (t, m) => if f.length ≠ t.length \/ twB f = true then .error (21, c.pl) else .ok ({ c with fr := f, to := t }, m)
def plnS : List UInt8 := [125, 61, 100, 68, 103, 71, 104, 72, 108, 110, 78, 112, 80, 113, 120]
def rstR (G : Gr) (l : List UInt8) (c : Co) (i : Nat) : Rd (Co × Nat) :=
 if c.nm = 123 then .ok (c, i)
 else if c.nm = 97 \/ c.nm = 105 \/ c.nm = 99 then txtC l c i
 else if c.nm = 58 \/ c.nm = 98 \/ c.nm = 116 then labC l c i
 else if c.nm = 114 \/ c.nm = 119 then filC l c i
 else if c.nm = 115 then sedR G l c i
 else if c.nm = 121 then (match tabR l c i with
  | .error x => .error x
  | .ok (c, k) => endC l c k)
 else if plnS.contains c.nm then endC l c i
 else .error (18, c.pl)
def notR (l : List UInt8) (i : Nat) : Bool × Nat := if mtB l (xab l i) [33] then (true, xab l (xab l i + 1)) else (false, xab l i)
def cmdR (G : Gr) (l : List UInt8) (i : Nat) : Rd (Co × Nat) := match twoA G l i with
 | .error x => .error x
 | .ok (a, b, k) => match l[(notR l k).2]? with
  | none => .error (18, (notR l k).2)
  | some nm => rstR G l { co0 with pl := (notR l k).2, a := a, b := b, nt := (notR l k).1, nm := nm } ((notR l k).2 + 1)
def cmsR (l : List UInt8) : Nat -> Nat -> Option Nat
 | 0, _ => none
 | n + 1, i =>
  if l.length <= i then none
  else if mtB l i [32, 9, 10, 59] then cmsR l n (i + 1)
  else if mtB l i [35] then cmsR l n (xbi l i).2
  else some i
def allR (G : Gr) (l : List UInt8) : Nat -> Nat -> List Co -> Rd (List Co)
 | 0, _, acc => .ok acc
 | n + 1, i, acc => match cmsR l (l.length + 1) i with
  | none => .ok acc
  | some k => match cmdR G l k with
   | .error x => .error x
   | .ok (c, m) => allR G l n m (acc ++ [c])
def quiB (l : List UInt8) : Bool := decide (l.take (lnN l) = [35, 110])
def scrR (G : Gr) (l : List UInt8) : List Co × Bool × Nat × Nat :=
 if 4096 < l.length then ([], false, 13, 0)
 else match allR G l (l.length + 1) 0 [] with
  | .error (e, p) => ([], false, e, p)
  | .ok cs => (cs, quiB l, 0, 0)
end scrP
end Go.Proofs.YtcpokkpjeeblnaaGreatDoor
namespace Go.Proofs.YtcpokkpjeeblnaaGreatDoor
open Go.RowKit
open scanP scrP tpl ytb
theorem put_size (W : World) (b k : Nat) (u : Value) : (W.setCell ⟨b, k, none⟩ u).heap.size = W.heap.size := by simp [World.setCell]
structure Tch (F : Nat -> Prop) (W W' : World) : Prop where
 os : W'.os = W.os
 tape : W'.tape = W.tape
 output : W'.output = W.output
 size : W.heap.size <= W'.heap.size
 block : ∀ k, k < W.heap.size -> ¬ F k -> W'.heap[k]? = W.heap[k]?
theorem Tch.refl (F : Nat -> Prop) (W : World) : Tch F W W := ⟨rfl, rfl, rfl, Nat.le_refl _, fun _ _ _ => rfl⟩
variable {F G : Nat -> Prop} {W W' W1 W2 w : World} {b i n p k : Nat} {s : ByteArray} {l t : List UInt8} {x y z : Value}
theorem Tch.of (h : Below W.heap.size W W') : Tch F W W' := ⟨h.os, h.tape, h.output, h.size, fun k hk _ => h.block k hk⟩
theorem Tch.trans (h : Tch F W W1) (k : Tch G W1 W2) (hs : ∀ j, G j -> F j \/ W.heap.size <= j) : Tch F W W2 :=
 ⟨k.os.trans h.os, k.tape.trans h.tape, k.output.trans h.output, Nat.le_trans h.size k.size, fun j hj hn => (k.block j (Nat.lt_of_lt_of_le hj h.size) (fun hg => (hs j hg).elim hn (fun e => absurd hj (Nat.not_lt.2 e)))).trans (h.block j hj hn)⟩
theorem Tch.more (h : Tch F W W1) (k : Tch F W1 W2) : Tch F W W2 := h.trans k (fun _ => .inl)
theorem Tch.mono (h : Tch F W W') (hs : ∀ j, F j -> G j) : Tch G W W' := ⟨h.os, h.tape, h.output, h.size, fun k hk hn => h.block k hk (fun hf => hn (hs k hf))⟩
theorem Tch.put (h : Tch F W W') (hb : F b) (k : Nat) (u : Value) : Tch F W (W'.setCell ⟨b, k, none⟩ u) :=
 ⟨h.os, h.tape, h.output, by rw [put_size]; exact h.size, fun j hj hn => (put_far W' b k u (j := j) (fun e => hn (by rw [e]; exact hb))).trans (h.block j hj hn)⟩
theorem Tch.below {B : Nat} (h : Tch F W W') (hF : ∀ k, F k -> B <= k) (hB : B <= W.heap.size) : Below B W W' := ⟨h.os, h.tape, h.output, h.size, fun k hk => h.block k (Nat.lt_of_lt_of_le hk hB) (fun hf => absurd hk (Nat.not_lt.2 (hF k hf)))⟩
theorem xah {o : Obj} (h : W.heap[b]? = some o) : b < W.heap.size := (Array.getElem?_eq_some_iff.1 h).1
def RAt (W : World) (b : Nat) (s : ByteArray) (i : Nat) : Prop := W.heap[b]? = some (.cells #[.string s, .int .i64 i] 131)
theorem RAt.c0 (h : RAt W b s i) : W.cell? ⟨b, 0, none⟩ = some (.string s) := by simp [World.cell?, show W.heap[b]? = _ from h]
theorem RAt.c1 (h : RAt W b s i) : W.cell? ⟨b, 1, none⟩ = some (.int .i64 i) := by simp [World.cell?, show W.heap[b]? = _ from h]
theorem RAt.fz (h : RAt W b s i) (k : Nat) : W.frozen? ⟨b, k, none⟩ = false := by simp [World.frozen?, show W.heap[b]? = _ from h]
theorem RAt.lt (h : RAt W b s i) : b < W.heap.size := xah h
theorem RAt.put (h : RAt W b s i) (k : Nat) (z : Int) (hz : z = (k : Int)) : RAt (W.setCell ⟨b, 1, none⟩ (.int .i64 z)) b s k := by
 subst hz;simp only [RAt, World.setCell, Array.getElem?_modify, if_true, show W.heap[b]? = _ from h, Option.map_some];rfl
theorem RAt.k0 (h : RAt W b s i) (z : Int) : (W.setCell ⟨b, 1, none⟩ (.int .i64 z)).cell? ⟨b, 0, none⟩ = some (.string s) := by rw [World.cell?_setCell_other _ _ _ _ (by simp)]; exact h.c0
theorem RAt.d (h : RAt W b s i) : RAt W.drew b s i := h
theorem Tch.und (h : Tch F W.drew W') : Tch F W W' := ⟨h.os, h.tape, h.output, h.size, h.block⟩
theorem Tch.put1 (h : Tch (· = b) W W') (k : Nat) (u : Value) : Tch (· = b) W (W'.setCell ⟨b, k, none⟩ u) := h.put (b := b) rfl k u
theorem RAt.drew (h : RAt W b s i) (m : Nat) : RAt (W.drewN m) b s i := h
theorem RAt.stay (h : RAt W b s i) (ht : Tch F W W') (hn : ¬ F b) : RAt W' b s i := (ht.block b h.lt hn).trans h
def gvV (e p : Nat) : Value := .iface 127 (.agg #[.int .i64 e, .int .i64 p])
abbrev gvX (x : Nat × Nat) : Ending := .panicked [{ v := gvV x.1 x.2, recovered := false }]
theorem xaz (w : World) (h : RAt w b s i) : Calls Tryz.prog 132 #[.pointer (some ⟨b, 0, none⟩)] w fun e w' => e = .returned (.bool (decide (i = s.size))) /\ ∃ m, w' = w.drewN m := by
 have c0 := h.c0;have c1 := h.c1;have E := hideT (show ((i : Int) == (s.size : Int)) = decide (i = s.size) by by_cases h : i = s.size <;> simp [h] <;> omega);go_enter Tryz.func132, Tryz.ntmps132
 go_wp2_with fail
 go_quiet (fail)
 go_wp2;go_ret;exact ⟨congrArg (fun z : Bool => Ending.returned (.bool z)) E.out, nq, rfl⟩
theorem mt_at (h : i < s.size) (S : List UInt8) : mtB s.data.toList i S = S.contains (s[i]'h) := by
 unfold mtB;rw [List.getElem?_eq_getElem (show i < s.data.toList.length from h)];rfl
theorem xe7 (h : s.size <= i) (S : List UInt8) : mtB s.data.toList i S = false := by
 unfold mtB;rw [List.getElem?_eq_none (show s.data.toList.length <= i from h)]
theorem xae (S : ByteArray) (w : World) (h : RAt w b s i) (hi : i <= s.size) : Calls Tryz.prog 133 #[.pointer (some ⟨b, 0, none⟩), .string S] w fun e w' => e = .returned (.bool (mtB s.data.toList i S.data.toList)) /\ ∃ m, w' = w.drewN m := by
 have c0 := h.c0;have c1 := h.c1;by_cases hlt : i < s.size
 ·have HE : Hid (∀ m, Calls Tryz.prog 132 #[.pointer (some ⟨b, 0, none⟩)] (w.drewN m) fun e w' => e = .returned (.bool false) /\ ∃ k, w' = (w.drewN m).drewN k) := hideT (fun m => by have := xaz (w.drewN m) (h.drew m); rwa [decide_eq_false (show ¬ i = s.size by omega)] at this);have H := hideT (Tryz.strings_IndexByte S ((s[i]'hlt).toNat : Nat));have ed : ((((s[i]'hlt).toNat : Nat) : Int).toNat.toUInt8) = s[i]'hlt := by simp
  rw [ed] at H;have E := hideT (show mtB s.data.toList i S.data.toList = decide (0 <= Lib.indexByte S.data.toList (s[i]'hlt)) from (mt_at hlt _).trans (Lib.contains_iff_indexByte _ _));clear ed;generalize Lib.indexByte S.data.toList (s[i]'hlt) = z at *;have i1 : (i : Int) < (s.size : Int) := by omega
  have i2 : (0 : Int) <= (i : Int) := by omega
  go_enter Tryz.func133, Tryz.ntmps133
  go_wp2_with fail
  go_quiet (first | with_reducible exact Calls.quiet_of (HE.out _) | with_reducible exact Calls.quiet_of_same (H.out _))
  go_wp2;go_ret;exact ⟨by rw [E.out]; rfl, nq, rfl⟩
 ·have HE : Hid (∀ m, Calls Tryz.prog 132 #[.pointer (some ⟨b, 0, none⟩)] (w.drewN m) fun e w' => e = .returned (.bool true) /\ ∃ k, w' = (w.drewN m).drewN k) := hideT (fun m => by have := xaz (w.drewN m) (h.drew m); rwa [decide_eq_true (show i = s.size by omega)] at this);have E := hideT (xe7 (s := s) (i := i) (by omega) S.data.toList);go_enter Tryz.func133, Tryz.ntmps133
  go_wp2_with fail
  go_quiet (with_reducible exact Calls.quiet_of (HE.out _))
  go_wp2;go_ret;exact ⟨by rw [E.out]; rfl, nq, rfl⟩
theorem xf1 (h : i <= n) : insN n (i : Nat) = i := by unfold insN; simp; omega
theorem xa0 (w : World) (h : RAt w b s i) (hi : i <= s.size) (hs : s.size <= 4096) : Calls Tryz.prog 136 #[.pointer (some ⟨b, 0, none⟩)] w fun e w' => e = .returned (.tuple #[]) /\ ∃ m, w' = (w.drewN m).setCell ⟨b, 1, none⟩ (.int .i64 (xab s.data.toList i : Nat)) := by
 have HB := hideT (prg.blanks_doc s (i : Nat) (by omega));rw [xf1 hi] at HB;have c0 := h.c0;have c1 := h.c1;have f1 := h.fz 1;go_enter Tryz.func136, Tryz.ntmps136
 go_wp2_with fail
 go_region_with (first | (go_at_call 169; refine (HB.out _).mono ?_; rintro e w1 ⟨rfl, rfl⟩))
 all_goals trace_state
 all_goals go_end0
 all_goals exact ⟨rfl, 1, rfl⟩
theorem xaw (e p : Nat) (w : World) : Calls Tryz.prog 137 #[.int .i64 e, .int .i64 p] w fun x w' => x = gvX (e, p) /\ w' = w := by
 go_enter Tryz.func137, Tryz.ntmps137;go_wp2;exact ⟨rfl, rfl, rfl⟩
theorem xdx (p : Nat) (w : World) : Calls Tryz.prog 209 #[.int .i64 0, .int .i64 p] w fun x w' => x = .returned (.tuple #[]) /\ w' = w := by
 go_enter Tryz.func209, Tryz.ntmps209;go_wp2
 go_end0
 exact ⟨rfl, rfl⟩
theorem xc4 (e p : Nat) (h : e ≠ 0) (w : World) : Calls Tryz.prog 209 #[.int .i64 e, .int .i64 p] w fun x w' => x = gvX (e, p) /\ w' = w := by
 have c1 : ((e : Int) != 0) = true := qb;have HG := hideT (xaw e p);go_enter Tryz.func209, Tryz.ntmps209
 go_wp2_with fail
 refine (HG.out _).mono ?_;rintro x w1 ⟨rfl, rfl⟩;go_wp2;exact ⟨rfl, rfl, rfl⟩
theorem Tch.drewN (F : Nat -> Prop) (W : World) (m : Nat) : Tch F W (W.drewN m) := ⟨rfl, rfl, rfl, Nat.le_refl _, fun _ _ _ => rfl⟩
def PR {α : Type} (b : Nat) (s : ByteArray) (w : World) (val : α -> Value) (r : Rd (α × Nat)) (e : Ending) (w' : World) : Prop := match r with
 | .error x => e = gvX x /\ Tch (· = b) w w'
 | .ok (a, k) => e = .returned (val a) /\ RAt w' b s k /\ Tch (· = b) w w'
theorem xcx (e p : Nat) (w : World) (h : RAt w b s i) (hi : i <= s.size) (hs : s.size <= 4096) : Calls Tryz.prog 211 #[.pointer (some ⟨b, 0, none⟩), .int .i64 e, .int .i64 p] w (PR b s w (fun d : UInt8 => .int .u8 (d.toNat : Nat)) (delR s.data.toList i e p)) := by
 have c0 := h.c0;have c1 := h.c1;have f1 := h.fz 1;have HG := hideT (xaw e p);by_cases hlt : i < s.size
 ·have E1 := hideT (decide_eq_false (show ¬ i = s.size by omega));have E2 := hideT (mt_at hlt [10, 92]);by_cases hb : s[i]'hlt = 10 \/ s[i]'hlt = 92
  ·rw [show delR s.data.toList i e p = .error (e, p) by
    unfold delR;rw [List.getElem?_eq_getElem (show i < s.data.toList.length from hlt)];exact if_pos hb]
   have E3 := hideT (show ([10, 92] : List UInt8).contains (s[i]'hlt) = true by rcases hb with h | h <;> rw [h] <;> rfl);clear hb;go_enter Tryz.func211, Tryz.ntmps211
   go_wp2_with fail
   refine (xaz w h).mono ?_;rintro x w1 ⟨rfl, m, rfl⟩;rw [E1.out]
   go_wp2_with fail
   refine (xae ⟨#[10, 92]⟩ _ (h.drew m) hi).mono ?_;rintro x w1 ⟨rfl, m2, rfl⟩;rw [show mtB s.data.toList i (⟨#[10, 92]⟩ : ByteArray).data.toList = true from E2.out.trans E3.out]
   go_wp2_with fail
   refine (HG.out _).mono ?_;rintro x w1 ⟨rfl, rfl⟩;go_wp2;exact ⟨rfl, rfl, Tch.drewN _ _ _⟩
  ·rw [show delR s.data.toList i e p = .ok (s[i]'hlt, i + 1) by
    unfold delR;rw [List.getElem?_eq_getElem (show i < s.data.toList.length from hlt)];exact if_neg hb]
   have E3 := hideT (show ([10, 92] : List UInt8).contains (s[i]'hlt) = false by
    rw [List.contains_eq_any_beq];simp only [List.any_cons, List.any_nil, Bool.or_false, Bool.or_eq_false_iff, beq_eq_false_iff_ne, ne_eq];exact ⟨fun h => hb (.inl h), fun h => hb (.inr h)⟩)
   clear hb;have i1 : (i : Int) < (s.size : Int) := by omega
   have i2 : (0 : Int) <= (i : Int) := by omega
   go_enter Tryz.func211, Tryz.ntmps211
   go_wp2_with fail
   refine (xaz w h).mono ?_;rintro x w1 ⟨rfl, m, rfl⟩;rw [E1.out]
   go_wp2_with fail
   refine (xae ⟨#[10, 92]⟩ _ (h.drew m) hi).mono ?_;rintro x w1 ⟨rfl, m2, rfl⟩;rw [show mtB s.data.toList i (⟨#[10, 92]⟩ : ByteArray).data.toList = false from E2.out.trans E3.out]
   go_wp2_with fail
   go_quiet (fail)
   go_wp2;go_ret;exact ⟨rfl, (h.drew _).put (i + 1) _ (by omega), ((Tch.drewN _ _ _).put1 _ _)⟩
 ·have E1 := hideT (decide_eq_true (show i = s.size by omega));rw [show delR s.data.toList i e p = .error (e, p) by
   unfold delR;rw [List.getElem?_eq_none (show s.data.toList.length <= i from Nat.le_of_not_lt hlt)]]
  go_enter Tryz.func211, Tryz.ntmps211
  go_wp2_with fail
  refine (xaz w h).mono ?_;rintro x w1 ⟨rfl, m, rfl⟩;rw [E1.out]
  go_wp2_with fail
  refine (HG.out _).mono ?_;rintro x w1 ⟨rfl, rfl⟩;go_wp2;exact ⟨rfl, rfl, Tch.drewN _ _ m⟩
theorem xb9 (d : UInt8) (ln : Bool) (p : Nat) (w : World) (h : RAt w b s i) (hs : s.size <= 4096) : Calls Tryz.prog 212 #[.pointer (some ⟨b, 0, none⟩), .int .u8 d.toNat, .bool ln, .int .i64 p] w (PR b s w (fun t : List UInt8 => .string (bst t)) (pieR s.data.toList i d ln p)) := by
 have c0 := h.c0;have c1 := h.c1;have HU := hideT (fun w => prg.until_doc s (i : Nat) d ln (by omega) w);unfold pieR;generalize hu : xau s.data.toList (i : Nat) d ln = u at *;obtain ⟨t, k, e⟩ := u;have HG := hideT h;by_cases he : e = 0
 ·subst he;have HN := hideT (xdx p);rw [if_pos rfl];go_enter Tryz.func212, Tryz.ntmps212
  go_wp2_with fail
  go_region_with (first | (go_at_call 257; refine (HU.out _).mono ?_; rintro x w1 ⟨rfl, hb1⟩))
  all_goals
   have R1 := hideT (h.d.stay (F := fun _ => False) (Tch.of hb1) (fun h => h));have T1 := hideT (Tch.of (F := (· = b)) hb1).und;clear hb1 c0 c1 hu HU;have f1 := R1.out.fz 1;have c1 := R1.out.c1
   go_wp2_with fail
   refine (HN.out _).mono ?_;rintro x w2 ⟨rfl, rfl⟩;go_wp2;go_ret;exact ⟨rfl, R1.out.put k _ rfl, T1.out.put1 _ _⟩
 ·have HN := hideT (xc4 e p he);rw [if_neg he];go_enter Tryz.func212, Tryz.ntmps212
  go_wp2_with fail
  go_region_with (first | (go_at_call 257; refine (HU.out _).mono ?_; rintro x w1 ⟨rfl, hb1⟩))
  all_goals
   have T1 := hideT (Tch.of (F := (· = b)) hb1).und;clear hb1 c0 c1 hu HU
   go_wp2_with fail
   refine (HN.out _).mono ?_;rintro x w2 ⟨rfl, rfl⟩;go_wp2;exact ⟨rfl, rfl, T1.out⟩
def Gl (w : World) : Prop := (∃ m : Int, w.cell? ⟨1, 0, none⟩ = some (.int .i64 m)) /\ w.cell? ⟨0, 0, none⟩ = some (.iface 220 (.agg #[.pointer (some ⟨7, 125, none⟩)]))
theorem Gl.lt (h : Gl w) : 1 < w.heap.size := by
 obtain ⟨⟨m, hm⟩, _⟩ := h;exact World.block_lt_of_cell? w _ hm
theorem Gl.stay {w' : World} (h : Gl w) (ht : Tch F w w') (hF : ∀ k, F k -> 1 < k) : Gl w' := by
 have h1 := h.lt;obtain ⟨⟨m, hm⟩, h0⟩ := h;exact ⟨⟨m, (World.cell?_of_block (ht.block 1 h1 (fun hf => absurd (hF _ hf) (by omega)))).trans hm⟩, (World.cell?_of_block (ht.block 0 (by omega) (fun hf => absurd (hF _ hf) (by omega)))).trans h0⟩
def xf2 (G : Gr) : Prop := ∀ (t : List UInt8) (w : World), t.length <= 4096 -> Gl w -> Calls Tryz.prog 72 #[.string (bst t)] w fun e w' => Below w.heap.size w w' /\
 (((G t).1 = 0 /\ ∃ g, e = .returned (.tuple #[.pointer (some ⟨g, 0, none⟩), .agg #[.int .i64 0, .int .i64 0]]) /\ w'.cell? ⟨g, 1, none⟩ = some (.int .i64 ((G t).2 : Nat))) \/
 ((G t).1 ≠ 0 /\ ∃ q : Nat, e = .returned (.tuple #[.pointer none, .agg #[.int .i64 ((G t).1 : Nat), .int .i64 q]])))
theorem xka {g : Nat} (w : World) (h : w.cell? ⟨g, 1, none⟩ = some (.int .i64 n)) : Calls Tryz.prog 125 #[.pointer (some ⟨g, 0, none⟩)] w fun e w' => e = .returned (.int .i64 n) /\ w' = w := by
 go_enter Tryz.func125, Tryz.ntmps125;go_wp2;go_ret;exact ⟨rfl, rfl⟩
def PW {α : Type} (w : World) (val : α -> Value) (r : Rd α) (e : Ending) (w' : World) : Prop := match r with
 | .error x => e = gvX x /\ Below w.heap.size w w'
 | .ok a => e = .returned (val a) /\ Below w.heap.size w w'
theorem xet {G : Gr} (hG : xf2 G) (t : List UInt8) (p : Nat) (w : World) (ht : t.length <= 4096) (hg : Gl w) : Calls Tryz.prog 213 #[.string (bst t), .int .i64 p] w (PW w (fun n : Nat => .int .i64 (n : Nat)) (grpR G t p)) := by
 have HN := hideT (hG t w ht hg);unfold grpR;by_cases h0 : (G t).1 = 0
 ·rw [if_pos h0];have HO := hideT (xdx p);go_enter Tryz.func213, Tryz.ntmps213
  go_wp2_with fail
  refine HN.out.mono ?_;rintro x w1 ⟨hb, ⟨_, g, rfl, hc⟩ | ⟨h1, _⟩⟩
  ·have hA := Bal w1 (.cells #[.int .i64 0, .int .i64 0] 45);have HC := hideT (keep_cell hA hc);have B := hideT (hb.trans (hA.mono hb.size));clear hc hb HN hA
   go_wp2_with fail
   refine (HO.out _).mono ?_;rintro x w2 ⟨rfl, rfl⟩
   go_wp2_with fail
   refine (xka _ HC.out).mono ?_;rintro x w2 ⟨rfl, rfl⟩;go_wp2;go_ret;exact ⟨rfl, B.out⟩
  ·exact absurd h0 h1
 ·rw [if_neg h0];have HO := hideT (xc4 (G t).1 p h0);go_enter Tryz.func213, Tryz.ntmps213
  go_wp2_with fail
  refine HN.out.mono ?_;rintro x w1 ⟨hb, ⟨h1, _⟩ | ⟨_, q, rfl⟩⟩
  ·exact absurd h1 h0
  ·have hA := Bal w1 (.cells #[.int .i64 ((G t).1 : Nat), .int .i64 q] 45);have B := hideT (hb.trans (hA.mono hb.size));clear hb HN hA
   go_wp2_with fail
   refine (HO.out _).mono ?_;rintro x w2 ⟨rfl, rfl⟩;go_wp2;exact ⟨rfl, rfl, B.out⟩
def adV (a : Adr) : Value := .agg #[.int .i64 a.k, .int .i64 a.ln, .string (bst a.re)]
theorem xog (d : UInt8) (ln : Bool) : ∀ (r : List UInt8) (p : Nat) (t : List UInt8), (unR d ln r p t).1.length <= t.length + r.length /\ ((unR d ln r p t).2.2 = 0 -> (unR d ln r p t).2.1 <= p + r.length)
 | [], p, t => by simp [unR]
 | [b], p, t => by
  unfold unR;split <;> simp
 | b :: c :: r, p, t => by
  have h1 := xog d ln (c :: r) (p + 1) (t ++ [b]);have h2 := xog d ln r (p + 2) (t ++ ((if xgp d c then [92] else []) ++ [c]));have h3 : (t ++ ((if xgp d c then [92] else []) ++ [c])).length <= t.length + 2 := by
   simp only [List.length_append, List.length_singleton];split <;> simp
  simp only [List.length_append, List.length_nil, List.length_cons] at h1 h2 h3 ⊢;unfold unR;split
  ·exact ⟨by simp only; omega, fun _ => by simp only; omega⟩
  ·split
   ·simp
   ·split
    ·exact ⟨by have := h1.1; omega, fun h => by have := h1.2 h; omega⟩
    ·split
     ·simp
     ·exact ⟨by have := h2.1; omega, fun h => by have := h2.2 h; omega⟩
theorem xoh (l : List UInt8) (i : Nat) (d : UInt8) (ln : Bool) (hi : i <= l.length) : (xau l (i : Nat) d ln).1.length <= l.length /\ ((xau l (i : Nat) d ln).2.2 = 0 -> (xau l (i : Nat) d ln).2.1 <= l.length) := by
 unfold xau;split
 ·simp
 ·rw [Int.toNat_natCast];have h := xog d ln (l.drop i) i [];simp only [List.length_nil, List.length_drop] at h;exact ⟨by have := h.1; omega, fun e => by have := h.2 e; omega⟩
theorem xbd {d : UInt8} {ln : Bool} (h : pieR l i d ln p = .ok (t, k)) (hi : i <= l.length) : t.length <= l.length /\ k <= l.length := by
 have hl := xoh l i d ln hi;unfold pieR at h;split at h
 ·rename_i he;cases h;exact ⟨hl.1, hl.2 he⟩
 ·cases h
theorem xb4 {e : Nat} {d : UInt8} (h : delR l i e p = .ok (d, k)) : k = i + 1 /\ k <= l.length /\ l[i]? = some d /\ d ≠ 10 /\ d ≠ 92 := by
 unfold delR at h;split at h
 ·cases h
 ·rename_i b hb;split at h
  ·cases h
  ·rename_i hn;cases h;exact ⟨rfl, (List.getElem?_eq_some_iff.1 hb).1, hb, fun h => hn (.inl h), fun h => hn (.inr h)⟩
theorem xeu (hi : i <= l.length) : (numR l i).2.2 = 0 -> (numR l i).2.1 <= l.length := by
 have h := dg_le (l.drop i);rw [List.length_drop] at h;unfold numR;simp only;split
 ·simp
 ·split
  ·simp
  ·intro _;simp only;omega
theorem RAt.move (h : RAt W b s i) (hb : Below W.heap.size W W') : RAt W' b s i := (hb.block b h.lt).trans h
theorem Tch.new (h : Tch F W W') (hn : W.heap.size <= n) (k : Nat) (u : Value) : Tch F W (W'.setCell ⟨n, k, none⟩ u) :=
 ⟨h.os, h.tape, h.output, by rw [put_size]; exact h.size, fun j hj hf => (put_far W' n k u (j := j) (by omega)).trans (h.block j hj hf)⟩
theorem RAt.far (h : RAt W b s i) (hn : b ≠ n) (k : Nat) (u : Value) : RAt (W.setCell ⟨n, k, none⟩ u) b s i := (put_far W n k u (j := b) hn).trans h
def AdAt (W : World) (n : Nat) (x y z : Value) : Prop := W.heap[n]? = some (.cells #[x, y, z] 68)
theorem AdAt.cs (h : AdAt W n x y z) : W.cell? ⟨n, 0, none⟩ = some x /\ W.cell? ⟨n, 1, none⟩ = some y /\ W.cell? ⟨n, 2, none⟩ = some z := by
 refine ⟨?_, ?_, ?_⟩ <;> simp [World.cell?, show W.heap[n]? = _ from h]
theorem AdAt.fz (h : AdAt W n x y z) (k : Nat) : W.frozen? ⟨n, k, none⟩ = false := by simp [World.frozen?, show W.heap[n]? = _ from h]
theorem AdAt.put (h : AdAt W n x y z) (x' y' z' : Value) : AdAt (((W.setCell ⟨n, 0, none⟩ x').setCell ⟨n, 1, none⟩ y').setCell ⟨n, 2, none⟩ z') n x' y' z' := by
 simp only [AdAt, World.setCell, Array.getElem?_modify, if_true, show W.heap[n]? = _ from h, Option.map_some];rfl
theorem AdAt.stay (h : AdAt W n x y z) (ht : Tch F W W') (hn : ¬ F n) : AdAt W' n x y z := (ht.block n (xah h) hn).trans h
theorem infoA : (Tryz.prog.info? 68).map (·.size) = some 3 := by kernel_rfl
theorem xbq {fn : Func} {r : Nat} {tmps : Array Value} (hf : fn.results = #[.cell r 68]) (hr : tmps[r]?.getD undef = .pointer (some ⟨b, 0, none⟩)) (h : AdAt W b x y z) : (results fn tmps).run Tryz.prog W = .ok (.agg #[x, y, z]) W := by
 have := run_loadVar_mid (P := Tryz.prog) W b 0 68 [x, y, z] _ (range_block h) Tryz.underlying68 rfl (by rw [infoA]; rfl);simp [results, hf, asAddr, hr, this]
theorem xlw (w : World) (h : RAt w b s i) (hi : i <= s.size) (hs : s.size <= 4096) : Calls Tryz.prog 204 #[.pointer (some ⟨b, 0, none⟩)] w (PR b s w adV (linR s.data.toList i)) := by
 have hA := Bal w (.cells Zq 68);have HR := hideT (h.move hA);have HN : Hid (AdAt (w.alloc (.cells Zq 68)) w.heap.size (.int .i64 0) (.int .i64 0) (.string ⟨#[]⟩)) := hideT (heap_alloc_new w _);have HT := hideT (Tch.of (F := (· = b)) hA);have hbn := Nat.ne_of_lt h.lt;have HU := hideT (fun w => prg.number_doc s (i : Nat) (by omega) w);rw [xf1 hi] at HU;clear hA h;unfold linR;generalize hu : numR s.data.toList i = u at *;obtain ⟨t, k, e⟩ := u;have HG := hideT (xaw 17 i);by_cases he : e = 0
 ·subst he;by_cases ht : t = 0
  ·subst ht;rw [if_pos (.inr rfl)];exact bxa0
  ·rw [if_neg (by rintro (h | h); exact h rfl; exact ht h)];have t1 : ((t : Int) == 0) = false := qn;go_enter Tryz.func204, Tryz.ntmps204
   go_wp2_with fail
   generalize w.alloc (.cells Zq 68) = X at *;have c0 := HR.out.c0;have c1 := HR.out.c1;have f1 := HR.out.fz 1;obtain ⟨n0, n1, n2⟩ := HN.out.cs;have g0 := HN.out.fz 0;have g1 := HN.out.fz 1;have g2 := HN.out.fz 2;obtain ⟨n, hnn⟩ : ∃ n, n = w.heap.size := ⟨_, rfl⟩;have hn : w.heap.size <= n := by omega
   rw [<- hnn] at n0 n1 n2 g0 g1 g2 hbn HN ⊢;clear hnn
   go_region_with (first | (go_at_call 254; refine (HU.out _).mono ?_; rintro x w1 ⟨rfl, rfl⟩))
   all_goals
    go_wp2;refine bodyPost_ret (xbq rfl rfl (AdAt.put (W := X.drew.setCell ⟨b, 1, none⟩ (.int .i64 k)) ((put_far X.drew b 1 _ (fun e => hbn e.symm)).trans HN.out) _ _ _)) rfl ?_;exact ⟨rfl, (((HR.out.d.put k _ rfl).far hbn _ _).far hbn _ _).far hbn _ _, ((((HT.out.more (Tch.drewN _ _ 1)).put1 _ _).new hn _ _).new hn _ _).new hn _ _⟩
 ·rw [if_pos (.inl he)];have t1 : ((e : Int) != 0) = true := qb;exact bxa0
theorem xir (h : t.length <= s.data.toList.length) (hs : s.size <= 4096) : t.length <= 4096 := Nat.le_trans h hs
theorem xd8 {G : Gr} (hG : xf2 G) (p : Nat) (w : World) (h : RAt w b s i) (hi : i <= s.size) (hs : s.size <= 4096) (hg : Gl w) (hb1 : 1 < b) : Calls Tryz.prog 205 #[.pointer (some ⟨b, 0, none⟩), .int .i64 p] w (PR b s w adV (matR G s.data.toList p i)) := by
 have hA := Bal w (.cells Zq 68);have HR := hideT (h.move hA);have HN : Hid (AdAt (w.alloc (.cells Zq 68)) w.heap.size (.int .i64 0) (.int .i64 0) (.string ⟨#[]⟩)) := hideT (heap_alloc_new w _);have HT := hideT (Tch.of (F := (· = b)) hA);have hbn := Nat.ne_of_lt h.lt;clear hA h;have HG := hideT hg;have HQ := hideT hG;clear hg hG;unfold matR;rcases hd : delR s.data.toList i 17 p with x | ⟨d, j⟩
 ·go_enter Tryz.func205, Tryz.ntmps205
  go_wp2_with fail
  generalize w.alloc (.cells Zq 68) = X at *;have HD := xcx 17 p X HR.out hi hs;rw [hd] at HD;refine HD.mono ?_;rintro y w1 ⟨rfl, ht⟩;have T := hideT (HT.out.more ht);clear ht HD hd;go_wp2;exact ⟨rfl, rfl, T.out⟩
 ·obtain ⟨rfl, hj, _, _⟩ := xb4 hd;simp only;rcases hp : pieR s.data.toList (i + 1) d false p with x | ⟨t, k⟩
  ·go_enter Tryz.func205, Tryz.ntmps205
   go_wp2_with fail
   generalize w.alloc (.cells Zq 68) = X at *;have HD := xcx 17 p X HR.out hi hs;rw [hd] at HD;refine HD.mono ?_;rintro y w1 ⟨rfl, hr, ht⟩;have HP := xb9 d false p w1 hr hs;rw [hp] at HP;have H1 := hideT HP;have T := hideT (HT.out.more ht);clear ht HD hd hp hr HP
   go_wp2_with fail
   refine H1.out.mono ?_;rintro y w2 ⟨rfl, ht⟩;have T2 := hideT (T.out.more ht);clear ht;go_wp2;exact ⟨rfl, rfl, T2.out⟩
  ·obtain ⟨htl, hkl⟩ := xbd hp hj;simp only;have htl2 := xir htl hs;rcases hq : grpR G t p with x | g
   ·go_enter Tryz.func205, Tryz.ntmps205
    go_wp2_with fail
    generalize w.alloc (.cells Zq 68) = X at *;have HD := xcx 17 p X HR.out hi hs;rw [hd] at HD;refine HD.mono ?_;rintro y w1 ⟨rfl, hr, ht⟩;have HP := xb9 d false p w1 hr hs;rw [hp] at HP;have H1 := hideT HP;have T := hideT (HT.out.more ht);clear ht HD hd hp hr HP
    go_wp2_with fail
    refine H1.out.mono ?_;rintro y w2 ⟨rfl, hr2, ht⟩;have T2 := hideT (T.out.more ht);have HS := xet HQ.out t p w2 htl2 (HG.out.stay T2.out (fun k e => by subst e; exact hb1));rw [hq] at HS;have H2 := hideT HS;clear ht hq HS hr2
    go_wp2_with fail
    refine H2.out.mono ?_;rintro y w3 ⟨rfl, hb⟩;have T3 := hideT (T2.out.more (Tch.of hb));clear hb;go_wp2;exact ⟨rfl, rfl, T3.out⟩
   ·go_enter Tryz.func205, Tryz.ntmps205
    go_wp2_with fail
    generalize w.alloc (.cells Zq 68) = X at *;have HD := xcx 17 p X HR.out hi hs;rw [hd] at HD;refine HD.mono ?_;rintro y w1 ⟨rfl, hr, ht⟩;have HP := xb9 d false p w1 hr hs;rw [hp] at HP;have H1 := hideT HP;have T := hideT (HT.out.more ht);have N1 := hideT (HN.out.stay ht (fun e => hbn e.symm));clear ht HD hd hp hr HP
    go_wp2_with fail
    refine H1.out.mono ?_;rintro y w2 ⟨rfl, hr2, ht⟩;have T2 := hideT (T.out.more ht);have HS := xet HQ.out t p w2 htl2 (HG.out.stay T2.out (fun k e => by subst e; exact hb1));rw [hq] at HS;have H2 := hideT HS;have N2 := hideT (N1.out.stay ht (fun e => hbn e.symm));have R2 := hideT hr2;clear ht hq HS hr2
    go_wp2_with fail
    refine H2.out.mono ?_;rintro y w3 ⟨rfl, hb⟩;have T3 := hideT (T2.out.more (Tch.of hb));have N3 := hideT (N2.out.stay (Tch.of (F := (· = b)) hb) (fun e => hbn e.symm));have R3 := hideT (R2.out.move hb);clear hb T T2 N1 N2 R2 H1 H2;obtain ⟨n0, n1, n2⟩ := N3.out.cs;have g0 := N3.out.fz 0;have g1 := N3.out.fz 1;have g2 := N3.out.fz 2;go_wp2;refine bodyPost_ret (xbq rfl rfl (N3.out.put _ _ _)) rfl ?_;exact ⟨rfl, ((R3.out.far hbn _ _).far hbn _ _).far hbn _ _, ((T3.out.new qr _ _).new qr _ _).new qr _ _⟩
end Go.Proofs.YtcpokkpjeeblnaaGreatDoor
