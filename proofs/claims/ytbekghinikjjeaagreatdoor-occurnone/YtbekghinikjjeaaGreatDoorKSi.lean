/- KSi -/
import Derived.Test.YtbekghinikjjeaaGreatDoorKA1
import Derived.Test.YtbekghinikjjeaaGreatDoorKPa
set_option maxRecDepth 100000
set_option maxHeartbeats 4000000
namespace Go.Proofs.YtbekghinikjjeaaGreatDoor.smt
open Go.RowKit Go.Proofs.YtbekghinikjjeaaGreatDoor.br
def memF : Nat -> Nat -> Nat -> List Nat
 | 0, _, _ => []
 | n + 1, i, w => bif Nat.beq w 0 then [] else bif Nat.beq (w % 2) 1 then i :: memF n (i + 1) (w / 2) else memF n (i + 1) (w / 2)
abbrev mem (n w : Nat) : List Nat := memF n 0 w
theorem memF_zero (n i : Nat) : memF n i 0 = [] := by cases n <;> rfl
theorem memF_eq : ∀ (n i w : Nat), memF n i w = (List.range' i n).filter fun j => w.testBit (j - i)
 | 0, _, _ => rfl
 | n + 1, i, w => by
  have e : (List.range' (i + 1) n).filter (fun j => w.testBit (j - i)) = (List.range' (i + 1) n).filter fun j => (w / 2).testBit (j - (i + 1)) :=
   List.filter_congr fun j hj => by
    have hj := List.mem_range'_1.1 hj
    rw [show j - i = (j - (i + 1)) + 1 by omega, Nat.testBit_succ]
  rw [memF, List.range'_succ, List.filter_cons, e, ← memF_eq n (i + 1) (w / 2), Nat.sub_self, Nat.testBit_zero]
  rcases Nat.eq_zero_or_pos w with rfl | hw
  · simp [memF_zero]
  · have h0 : Nat.beq w 0 = false := by cases h : Nat.beq w 0 with
     | false => rfl
     | true => exact absurd (Nat.eq_of_beq_eq_true h) (by omega)
    rw [h0, cond_false]
    rcases Nat.mod_two_eq_zero_or_one w with h | h
    · rw [h]; rfl
    · rw [h]; rfl
structure Bd where
 no : Bool
 fi : Nat
 la : Nat
inductive Pt where
 | mk (grp : Nat) (deep : Bool) (links : List (Pt × Nat × Bool)) (again closed : Bool) (bds : List Bd) (takes : List (Nat -> Bool)) (next : List Nat)
def Pt.grp : Pt -> Nat | .mk g _ _ _ _ _ _ _ => g
def Pt.deep : Pt -> Bool | .mk _ d _ _ _ _ _ _ => d
def Pt.links : Pt -> List (Pt × Nat × Bool) | .mk _ _ l _ _ _ _ _ => l
def Pt.again : Pt -> Bool | .mk _ _ _ a _ _ _ _ => a
def Pt.closed : Pt -> Bool | .mk _ _ _ _ c _ _ _ => c
def Pt.bds : Pt -> List Bd | .mk _ _ _ _ _ b _ _ => b
def Pt.takes : Pt -> List (Nat -> Bool) | .mk _ _ _ _ _ _ t _ => t
def Pt.next : Pt -> List Nat | .mk _ _ _ _ _ _ _ n => n
def optB (b : List Bd) : List Bd := b.map fun x => ⟨true, x.fi, x.la⟩
def joinB (a b : List Bd) : List Bd := List.zipWith (fun x y => ⟨x.no && y.no, bif x.no then x.fi ||| y.fi else x.fi, bif y.no then x.la ||| y.la else y.la⟩) a b
def anchB (w : Nat) : List Bd := [0, 1, 2, 3].map fun k => ⟨!Nat.beq (k &&& w) 0, 0, 0⟩
def zeroB : List Bd := List.replicate 4 ⟨false, 0, 0⟩
def lnB (l : Pt × Nat × Bool) : List Bd :=
 let own := l.1.bds.map fun x => (⟨x.no, up x.fi l.2.1, up x.la l.2.1⟩ : Bd)
 bif l.2.2 then optB own else own
structure Ac where
 deep : Bool
 links : List (Pt × Nat × Bool)
 takes : List (Nat -> Bool)
 next : List Nat
def Ac.add (a : Ac) (kid : Pt) (free : Bool) : Ac := ⟨a.deep || kid.deep, a.links ++ [(kid, a.takes.length, free)], a.takes ++ kid.takes, a.next ++ kid.next.map fun s => up s a.takes.length⟩
def orAt (l : List Nat) (i x : Nat) : List Nat := l.modify i (· ||| x)
def Bd0 : Bd := ⟨false, 0, 0⟩
def bat (b : List Bd) (k : Nat) : Bd := b.getD k Bd0
def tieStep (l : Pt × Nat × Bool) (s : List Nat × List Bd) : List Nat × List Bd :=
 let own := lnB l
 ((mem 256 (bat own 0).la).foldl (fun n i => orAt n i (bat s.2 0).fi) s.1, joinB own s.2)
def tie (grp : Nat) (again : Bool) (a : Ac) : Pt :=
 let b0 := bif again then optB ((a.links.getLast?.map lnB).getD zeroB) else optB zeroB
 let r := a.links.foldr tieStep (a.next, b0)
 .mk grp a.deep a.links again (match a.links with | [l] => again || l.1.closed | _ => false) r.2 a.takes r.1
def leafB : List Bd := List.replicate 4 ⟨false, 1, 1⟩
def addN (kid : Pt) (lo : Int) : Nat -> Nat -> Ac -> Ac
 | 0, _, a => a
 | n + 1, c, a => addN kid lo n (c + 1) (a.add kid (decide ((c : Int) >= lo)))
mutual
def layT : Tr -> Pt
 | .mk kind q lo hi grp kids =>
  match kind with
  | 1 => .mk 0 false [] false false leafB [q] [0]
  | 2 => .mk 0 false [] false false (anchB 1) [] []
  | 3 => .mk 0 false [] false false (anchB 2) [] []
  | 5 =>
   let again := decide (hi < 0)
   let wr := bif again then max lo.toNat 1 else hi.toNat
   bif Nat.beq wr 0 then tie 0 again ⟨false, [], [], []⟩ else
   match layL kids with
   | kid :: _ => tie 0 again (addN kid lo (bif Nat.beq kid.takes.length 0 then 1 else wr) 0 ⟨false, [], [], []⟩)
   | [] => tie 0 again ⟨false, [], [], []⟩
  | k => tie grp false ((layL kids).foldl (fun a kid => a.add kid false) ⟨Nat.beq k 4, [], [], []⟩)
def layL : List Tr -> List Pt
 | [] => []
 | t :: ts => layT t :: layL ts
end
def kindAt (n p : Nat) : Nat := (bif Nat.beq p 0 then 1 else 0) + (bif Nat.beq p n then 2 else 0)
def onward (p : Pt) (took : Nat) : Nat := (mem 256 took).foldl (fun a i => a ||| p.next.getD i 0) 0
def takers (p : Pt) (s : List Nat) (wait place : Nat) : Nat :=
 let c := s.getD place 0
 (mem 256 wait).foldl (fun a i => bif (p.takes.getD i (fun _ => false)) c then a ||| 1 <<< i else a) 0
def cnt (w : Nat) : Nat := (mem 256 w).length
def runF (p : Pt) (s : List Nat) : Nat -> Nat -> Nat -> Option Nat -> List Nat × Nat -> Option Nat × (List Nat × Nat)
 | 0, _, _, to, st => (to, st)
 | f + 1, wait, place, to, (tried, held) =>
  bif Nat.beq place s.length then (to, (tried, held)) else
  let t := tried.getD place 0
  let w := wait ^^^ (wait &&& t)
  bif Nat.beq w 0 then (to, (tried, held)) else
  let took := takers p s w place
  runF p s f (onward p took) (place + 1) (bif Nat.beq (took &&& (bat p.bds (kindAt s.length (place + 1))).la) 0 then to else some (place + 1)) (tried.set place (t ||| w), held + cnt w)
def findF (p : Pt) (s : List Nat) : Nat -> Nat -> List Nat × Nat -> Option (Nat × Nat) × Nat
 | 0, _, st => (none, st.2)
 | f + 1, at_, st =>
  let b := bat p.bds (kindAt s.length at_)
  match runF p s (s.length + 1) b.fi at_ (bif b.no then some at_ else none) st with
  | (some to, st') => (some (at_, to), st'.2)
  | (none, st') => findF p s f (at_ + 1) st'
def wanted (took : Nat) : List Nat -> Nat -> Nat
 | [], _ => 0
 | n :: ns, i => (bif Nat.beq (n &&& took) 0 then 0 else 1 <<< i) ||| wanted took ns (i + 1)
def traceF (p : Pt) (s : List Nat) (fr : Nat) : Nat -> Nat -> List Nat × Nat -> List Nat × Nat
 | 0, _, a => a
 | n + 1, w, (us, held) =>
  let took := takers p s w (fr + n)
  traceF p s fr n (wanted took p.next 0) (took :: us, held + cnt w)
def longF (l : Pt) (base : Nat) (us : List Nat) (fr to : Nat) : Nat -> Nat -> Nat -> Nat
 | 0, _, at_ => at_
 | f + 1, wait, at_ =>
  bif Nat.ble to at_ then at_ else
  let took := wait &&& (us.getD (at_ - fr) 0 >>> base)
  bif Nat.beq took 0 then at_ else longF l base us fr to f (onward l took) (at_ + 1)
abbrev Sp := List (Int × Int) × Nat
def shareW (rec : Pt -> Nat -> Nat -> Sp -> Option Sp) (p : Pt) (s us : List Nat) (fr to : Nat) : Nat -> Nat -> Nat -> Sp -> Option (Nat × Sp)
 | 0, c, at_, x => bif Nat.ble to at_ then some (c, x) else none
 | f + 1, c, at_, x =>
  bif Nat.ble to at_ then some (c, x) else
  match p.links.getD (min c (p.links.length - 1)) (.mk 0 false [] false false [] [] [], 0, false) with
  | (q, base, _) =>
   let e := longF q base us fr to (to - at_ + 1) (bat q.bds (kindAt s.length at_)).fi at_
   match rec q at_ e x with
   | some y => shareW rec p s us fr to f (c + 1) e y
   | none => none
def aloneP (p : Pt) : Bool := match p.links with | [l] => !p.again || l.1.closed | _ => false
def restW (rec : Pt -> Nat -> Nat -> Sp -> Option Sp) (to : Nat) : List (Pt × Nat × Bool) -> Sp -> Option Sp
 | [], x => some x
 | l :: ls, x => bif l.2.2 then restW rec to ls x else match rec l.1 to to x with | some y => restW rec to ls y | none => none
def settle (s : List Nat) : Nat -> Pt -> Nat -> Nat -> Sp -> Option Sp
 | 0, _, _, _, _ => none
 | f + 1, p, fr, to, x =>
  bif !p.deep then some x else
  let x1 : Sp := bif Nat.beq p.grp 0 then x else (x.1.set p.grp ((fr : Int), (to : Int)), x.2)
  let r : Option (Nat × Sp) := bif Nat.beq fr to then some (0, x1) else
   bif aloneP p then (match p.links with | l :: _ => (settle s f l.1 fr to x1).map fun y => (1, y) | [] => none) else
   let t := traceF p s fr (to - fr) (bat p.bds (kindAt s.length to)).la ([], x1.2)
   shareW (settle s f) p s t.1 fr to (to - fr + p.links.length) 0 fr (x1.1, t.2)
  match r with
  | some (c, y) => restW (settle s f) to (p.links.drop c) y
  | none => none
def matchT (groups : Nat) (ts : Tr) (s : List Nat) (fr : Nat) : Option (Option (List (Int × Int)) × Nat) :=
 let p := layT ts
 match findF p s (s.length + 1 - fr) fr (List.replicate s.length 0, 0) with
 | (none, h) => some (none, h)
 | (some (a, b), h) => (settle s 600 p a b ((List.replicate (groups + 1) (-1, -1)).set 0 ((a : Int), (b : Int)), h)).map fun x => (some x.1, x.2)
theorem mem_mr (w : Nat) : mem 256 w = mr w.testBit 0 := by
 rw [mem, memF_eq]; simp [mr]
theorem mem_lt {w x : Nat} (h : x ∈ mem 256 w) : x < 256 ∧ w.testBit x = true := by rw [mem_mr] at h; exact mr_lt h
theorem mem_len {w x L : Nat} (hw : w < 2 ^ L) (h : x ∈ mem 256 w) : x < L := by
 have := (mem_lt h).2
 apply Classical.byContradiction; intro hx
 rw [Nat.testBit_lt_two_pow (Nat.lt_of_lt_of_le hw (Nat.pow_le_pow_right (by omega) (by omega)))] at this
 cases this
theorem lt_mono {a L M : Nat} (h : a < 2 ^ L) (hl : L ≤ M) : a < 2 ^ M := Nat.lt_of_lt_of_le h (Nat.pow_le_pow_right (by omega) hl)
theorem up_lt {s b L M : Nat} (h : s < 2 ^ L) (hM : b + L ≤ M) : up s b < 2 ^ M := by
 refine Nat.lt_of_le_of_lt (Nat.mod_le _ _) (lt_mono ?_ hM)
 rw [Nat.shiftLeft_eq, Nat.mul_comm, Nat.pow_add]
 exact Nat.mul_lt_mul_of_pos_left h (Nat.pow_pos (by omega))
def BdOk (L : Nat) (b : List Bd) : Prop := b.length = 4 ∧ ∀ x ∈ b, x.fi < 2 ^ L ∧ x.la < 2 ^ L
theorem BdOk.mono {L M : Nat} {b : List Bd} (h : BdOk L b) (hl : L ≤ M) : BdOk M b := ⟨h.1, fun x hx => ⟨lt_mono (h.2 x hx).1 hl, lt_mono (h.2 x hx).2 hl⟩⟩
theorem BdOk.at {L : Nat} {b : List Bd} (h : BdOk L b) (k : Nat) : (bat b k).fi < 2 ^ L ∧ (bat b k).la < 2 ^ L := by
 unfold bat
 rw [List.getD_eq_getElem?_getD]
 cases e : b[k]? with
 | none => exact ⟨Nat.pow_pos (by omega), Nat.pow_pos (by omega)⟩
 | some x => exact h.2 x (List.mem_of_getElem? e)
theorem BdOk.opt {L : Nat} {b : List Bd} (h : BdOk L b) : BdOk L (optB b) := ⟨by simp [optB, h.1], fun x hx => by
 obtain ⟨y, hy, rfl⟩ := List.mem_map.1 hx
 exact h.2 y hy⟩
theorem BdOk.zero (L : Nat) : BdOk L zeroB := ⟨rfl, fun x hx => by
 obtain ⟨_, rfl⟩ := List.mem_replicate.1 hx
 exact ⟨Nat.pow_pos (by omega), Nat.pow_pos (by omega)⟩⟩
theorem BdOk.four {L : Nat} {b : List Bd} (h : BdOk L b) : b = [bat b 0, bat b 1, bat b 2, bat b 3] := by
 match b, h.1 with
 | [_, _, _, _], _ => rfl
theorem BdOk.join {L : Nat} {a b : List Bd} (ha : BdOk L a) (hb : BdOk L b) : BdOk L (joinB a b) := by
 rw [ha.four, hb.four]
 refine ⟨rfl, fun x hx => ?_⟩
 have o : ∀ (c : Bool) (u v : Nat), u < 2 ^ L → v < 2 ^ L → (bif c then u ||| v else u) < 2 ^ L ∧ (bif c then u ||| v else v) < 2 ^ L := fun c u v hu hv => by
  cases c
  · exact ⟨hu, hv⟩
  · exact ⟨Nat.or_lt_two_pow hu hv, Nat.or_lt_two_pow hu hv⟩
 simp only [joinB, List.zipWith_cons_cons, List.zipWith_nil_left, List.mem_cons, List.not_mem_nil, or_false] at hx
 rcases hx with rfl | rfl | rfl | rfl
 · exact ⟨(o _ _ _ (ha.at 0).1 (hb.at 0).1).1, (o _ _ _ (ha.at 0).2 (hb.at 0).2).2⟩
 · exact ⟨(o _ _ _ (ha.at 1).1 (hb.at 1).1).1, (o _ _ _ (ha.at 1).2 (hb.at 1).2).2⟩
 · exact ⟨(o _ _ _ (ha.at 2).1 (hb.at 2).1).1, (o _ _ _ (ha.at 2).2 (hb.at 2).2).2⟩
 · exact ⟨(o _ _ _ (ha.at 3).1 (hb.at 3).1).1, (o _ _ _ (ha.at 3).2 (hb.at 3).2).2⟩
inductive OkP : Pt → Prop where
 | mk (p : Pt) (len : p.takes.length ≤ 256) (nl : p.next.length = p.takes.length) (nx : ∀ s ∈ p.next, s < 2 ^ p.takes.length) (bd : BdOk p.takes.length p.bds) (ll : p.links.length ≤ 1000000)
   (lk : ∀ l ∈ p.links, l.2.1 + l.1.takes.length ≤ p.takes.length) (kid : ∀ l ∈ p.links, OkP l.1) : OkP p
theorem OkP.len {p : Pt} : OkP p → p.takes.length ≤ 256 | .mk _ h _ _ _ _ _ _ => h
theorem OkP.nl {p : Pt} : OkP p → p.next.length = p.takes.length | .mk _ _ h _ _ _ _ _ => h
theorem OkP.nx {p : Pt} : OkP p → ∀ s ∈ p.next, s < 2 ^ p.takes.length | .mk _ _ _ h _ _ _ _ => h
theorem OkP.bd {p : Pt} : OkP p → BdOk p.takes.length p.bds | .mk _ _ _ _ h _ _ _ => h
theorem OkP.ll {p : Pt} : OkP p → p.links.length ≤ 1000000 | .mk _ _ _ _ _ h _ _ => h
theorem OkP.lk {p : Pt} : OkP p → ∀ l ∈ p.links, l.2.1 + l.1.takes.length ≤ p.takes.length | .mk _ _ _ _ _ _ h _ => h
theorem OkP.kid {p : Pt} : OkP p → ∀ l ∈ p.links, OkP l.1 | .mk _ _ _ _ _ _ _ h => h
theorem OkP.bits {p : Pt} (h : OkP p) (k : Nat) : (bat p.bds k).fi < 2 ^ 256 ∧ (bat p.bds k).la < 2 ^ 256 := ⟨lt_mono (h.bd.at k).1 h.len, lt_mono (h.bd.at k).2 h.len⟩
structure OkA (a : Ac) : Prop where
 nl : a.next.length = a.takes.length
 nx : ∀ s ∈ a.next, s < 2 ^ a.takes.length
 lk : ∀ l ∈ a.links, l.2.1 + l.1.takes.length ≤ a.takes.length
 kid : ∀ l ∈ a.links, OkP l.1
theorem OkA.zero (d : Bool) : OkA ⟨d, [], [], []⟩ := ⟨rfl, (fun _ h => nomatch h), (fun _ h => nomatch h), (fun _ h => nomatch h)⟩
theorem OkA.add {a : Ac} (h : OkA a) {kid : Pt} (hk : OkP kid) (free : Bool) : OkA (a.add kid free) := by
 have e : (a.add kid free).takes.length = a.takes.length + kid.takes.length := by simp [Ac.add]
 refine ⟨?_, fun s hs => ?_, fun l hl => ?_, fun l hl => ?_⟩
 · rw [e]; simp [Ac.add, h.nl, hk.nl]
 · rw [e]
   rcases List.mem_append.1 (show s ∈ a.next ++ kid.next.map fun s => up s a.takes.length from hs) with h1 | h1
   · exact lt_mono (h.nx s h1) (by omega)
   · obtain ⟨y, hy, rfl⟩ := List.mem_map.1 h1
     exact up_lt (hk.nx y hy) (by omega)
 · rw [e]
   rcases List.mem_append.1 (show l ∈ a.links ++ [(kid, a.takes.length, free)] from hl) with h1 | h1
   · have := h.lk l h1; omega
   · rw [List.mem_singleton.1 h1]; exact Nat.le_refl _
 · rcases List.mem_append.1 (show l ∈ a.links ++ [(kid, a.takes.length, free)] from hl) with h1 | h1
   · exact h.kid l h1
   · rw [List.mem_singleton.1 h1]; exact hk
theorem lnB_ok {l : Pt × Nat × Bool} {L : Nat} (hk : OkP l.1) (hl : l.2.1 + l.1.takes.length ≤ L) : BdOk L (lnB l) := by
 have h1 : BdOk L (l.1.bds.map fun x => (⟨x.no, up x.fi l.2.1, up x.la l.2.1⟩ : Bd)) := ⟨by simp [hk.bd.1], fun x hx => by
  obtain ⟨y, hy, rfl⟩ := List.mem_map.1 hx
  exact ⟨up_lt (hk.bd.2 y hy).1 hl, up_lt (hk.bd.2 y hy).2 hl⟩⟩
 unfold lnB
 cases l.2.2
 · exact h1
 · exact h1.opt
theorem orAt_len (l : List Nat) (i x : Nat) : (orAt l i x).length = l.length := by simp [orAt]
theorem orAt_ok {L : Nat} {l : List Nat} (h : ∀ s ∈ l, s < 2 ^ L) (i x : Nat) (hx : x < 2 ^ L) : ∀ s ∈ orAt l i x, s < 2 ^ L := fun s hs => by
 obtain ⟨j, hj⟩ := List.getElem?_of_mem hs
 rw [orAt, List.getElem?_modify] at hj
 cases e : l[j]? with
 | none => rw [e] at hj; cases hj
 | some y =>
  rw [e] at hj
  have hy := h y (List.mem_of_getElem? e)
  split at hj
  · cases hj; exact Nat.or_lt_two_pow hy hx
  · cases hj; exact hy
theorem fold_ok {L x : Nat} (hx : x < 2 ^ L) : ∀ (m l : List Nat), (∀ s ∈ l, s < 2 ^ L) → (m.foldl (fun n i => orAt n i x) l).length = l.length ∧ ∀ s ∈ m.foldl (fun n i => orAt n i x) l, s < 2 ^ L
 | [], l, h => ⟨rfl, h⟩
 | i :: m, l, h => by
  have := fold_ok hx m (orAt l i x) (orAt_ok h i x hx)
  rw [orAt_len] at this
  exact this
theorem tie_ok {L : Nat} : ∀ (ls : List (Pt × Nat × Bool)) (nx : List Nat) (b0 : List Bd), (∀ l ∈ ls, l.2.1 + l.1.takes.length ≤ L) → (∀ l ∈ ls, OkP l.1) → (∀ s ∈ nx, s < 2 ^ L) → BdOk L b0 →
  (ls.foldr tieStep (nx, b0)).1.length = nx.length ∧ (∀ s ∈ (ls.foldr tieStep (nx, b0)).1, s < 2 ^ L) ∧ BdOk L (ls.foldr tieStep (nx, b0)).2
 | [], nx, b0, _, _, h, hb => ⟨rfl, h, hb⟩
 | l :: ls, nx, b0, hl, hk, h, hb => by
  obtain ⟨h1, h2, h3⟩ := tie_ok ls nx b0 (fun x hx => hl x (List.mem_cons_of_mem _ hx)) (fun x hx => hk x (List.mem_cons_of_mem _ hx)) h hb
  have hln := lnB_ok (hk l List.mem_cons_self) (hl l List.mem_cons_self)
  rw [List.foldr_cons]
  obtain ⟨f1, f2⟩ := fold_ok (h3.at 0).1 (mem 256 (bat (lnB l) 0).la) _ h2
  exact ⟨f1.trans h1, f2, hln.join h3⟩
def bhd (again : Bool) (ls : List (Pt × Nat × Bool)) : List Bd := bif again then optB ((ls.getLast?.map lnB).getD zeroB) else optB zeroB
theorem bhd_ok {L : Nat} {ls : List (Pt × Nat × Bool)} (hl : ∀ l ∈ ls, l.2.1 + l.1.takes.length ≤ L) (hk : ∀ l ∈ ls, OkP l.1) (again : Bool) : BdOk L (bhd again ls) := by
 unfold bhd
 cases again
 · exact (BdOk.zero L).opt
 · cases e : ls.getLast? with
   | none => exact (BdOk.zero L).opt
   | some l => exact (lnB_ok (hk l (List.mem_of_getLast? e)) (hl l (List.mem_of_getLast? e))).opt
theorem OkA.tie {a : Ac} (h : OkA a) (grp : Nat) (again : Bool) (hL : a.takes.length ≤ 256) (hll : a.links.length ≤ 1000000) : OkP (tie grp again a) := by
 obtain ⟨h1, h2, h3⟩ := tie_ok a.links a.next (bhd again a.links) h.lk h.kid h.nx (bhd_ok h.lk h.kid again)
 exact .mk _ hL (h1.trans h.nl) h2 h3 hll h.lk h.kid
end Go.Proofs.YtbekghinikjjeaaGreatDoor.smt
