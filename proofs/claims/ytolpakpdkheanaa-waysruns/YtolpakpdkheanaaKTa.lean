/- tally as pure functions: parts laid out by their positions, steps with numbers of ways, the table, the ways. tally: what holds of parts; steps, edges and parts as they lie in memory. tally: tools. -/
import Derived.Test.YtolpakpdkheanaaKPa
import Derived.Test.YtolpakpdkheanaaKUk
import Derived.Deep.MidRow
import Derived.Laws.AppendOwn
import Derived.Maps.AppendAt
import Derived.OwnWalk
import Derived.WalkKit
import Derived.OrdersIn
import Derived.OrdersHeld
import Derived.TacticsInMore
import Derived.OwnWalkIn
import Derived.LoopTactic
import Derived.BigQuiet
import Derived.IntWalk
import Derived.Deep.CutRange
import Derived.Deep.RegionHeld3
import Derived.Laws.OwnMore
import Derived.Laws.MakeOwn
set_option maxRecDepth 100000
set_option maxHeartbeats 4000000
namespace Go.Proofs.Ytolpakpdkheanaa.tly
open Go.RowKit Go.Proofs.Ytolpakpdkheanaa.br
abbrev Stp := List (Nat × Nat)
structure Ed where
 no : Bool
 fi : Stp
 la : Stp
inductive Tp where
 | mk (kind grp : Nat) (links : List (Tp × Nat × Bool × Stp)) (again : Bool) (set : Nat → Bool) (size : Nat) (eds : List Ed)
abbrev Lk := Tp × Nat × Bool × Stp
def Tp.kind : Tp → Nat | .mk k _ _ _ _ _ _ => k
def Tp.grp : Tp → Nat | .mk _ g _ _ _ _ _ => g
def Tp.links : Tp → List Lk | .mk _ _ l _ _ _ _ => l
def Tp.again : Tp → Bool | .mk _ _ _ a _ _ _ => a
def Tp.set : Tp → Nat → Bool | .mk _ _ _ _ s _ _ => s
def Tp.size : Tp → Nat | .mk _ _ _ _ _ n _ => n
def Tp.eds : Tp → List Ed | .mk _ _ _ _ _ _ e => e
def capN (x : Nat) : Nat := bif Nat.ble x 4097 then x else 4097
theorem capN_le (x : Nat) : capN x ≤ 4097 := by
 unfold capN
 cases h : Nat.ble x 4097
 · exact Nat.le_refl _
 · exact Nat.le_of_ble_eq_true h
def upS (l : Stp) (b : Nat) : Stp := l.map fun s => (s.1 + b, s.2)
def sumF : Nat → Stp → Stp → Stp
 | 0, _, _ => []
 | _ + 1, [], b => b
 | _ + 1, a, [] => a
 | f + 1, x :: a, y :: b => bif Nat.blt x.1 y.1 then x :: sumF f a (y :: b) else bif Nat.blt y.1 x.1 then y :: sumF f (x :: a) b else (x.1, capN (x.2 + y.2)) :: sumF f a b
def sumS (a b : Stp) : Stp := sumF (a.length + b.length + 1) a b
theorem sum_more : ∀ (f g : Nat) (a b : Stp), a.length + b.length < f → a.length + b.length < g → sumF f a b = sumF g a b
 | 0, _, _, _, h, _ => by omega
 | _, 0, _, _, _, h => by omega
 | f + 1, g + 1, [], b, _, _ => by cases b <;> rfl
 | f + 1, g + 1, x :: a, [], _, _ => rfl
 | f + 1, g + 1, x :: a, y :: b, hf, hg => by
  simp only [List.length_cons] at hf hg
  rw [sumF, sumF, sum_more f g a (y :: b) (by rw [List.length_cons]; omega) (by rw [List.length_cons]; omega), sum_more f g (x :: a) b (by rw [List.length_cons]; omega) (by rw [List.length_cons]; omega), sum_more f g a b (by omega) (by omega)]
theorem sum_step (x y : Nat × Nat) (a b : Stp) : sumS (x :: a) (y :: b) = bif Nat.blt x.1 y.1 then x :: sumS a (y :: b) else bif Nat.blt y.1 x.1 then y :: sumS (x :: a) b else (x.1, capN (x.2 + y.2)) :: sumS a b := by
 unfold sumS
 rw [show (x :: a).length + (y :: b).length + 1 = (a.length + b.length + 2) + 1 by simp only [List.length_cons]; omega, sumF]
 rw [sum_more (a.length + b.length + 2) (a.length + (y :: b).length + 1) a (y :: b) (by simp only [List.length_cons]; omega) (by omega), sum_more (a.length + b.length + 2) ((x :: a).length + b.length + 1) (x :: a) b (by simp only [List.length_cons]; omega) (by omega), sum_more (a.length + b.length + 2) (a.length + b.length + 1) a b (by omega) (by omega)]
theorem sum_nil (b : Stp) : sumS [] b = b := by cases b <;> rfl
theorem sum_nil2 (a : Stp) : sumS a [] = a := by cases a <;> rfl
def timesS (l : Stp) (w : Nat) : Stp := l.map fun s => (s.1, capN (s.2 * w))
def Ed0 : Ed := ⟨false, [], []⟩
def eat (l : List Ed) (k : Nat) : Ed := l.getD k Ed0
def noE : List Ed := List.replicate 4 ⟨true, [], []⟩
def zeroE : List Ed := List.replicate 4 Ed0
def anchE (w : Nat) : List Ed := [0, 1, 2, 3].map fun k => ⟨!Nat.beq (k &&& w) 0, [], []⟩
def leafE (no : Bool) : List Ed := List.replicate 4 ⟨no, [(0, 1)], [(0, 1)]⟩
def upE (l : Lk) : List Ed := l.1.eds.map fun e => ⟨e.no, upS e.fi l.2.1, upS e.la l.2.1⟩
def aheadE (free : Bool) (own rest : Ed) : Ed :=
 let la := sumS (bif rest.no then own.la else []) rest.la
 bif free then ⟨true, own.fi, la⟩ else ⟨own.no && rest.no, bif own.no then sumS own.fi rest.fi else own.fi, la⟩
def endE (again : Bool) (links : List Lk) : List Ed :=
 bif again then (match links.getLast? with | some l => (upE l).map fun e => ⟨true, e.fi, []⟩ | none => noE) else noE
def joinF (e0 : List Ed) : List Lk → List Lk × List Ed
 | [] => ([], e0)
 | l :: ls =>
  let r := joinF e0 ls
  ((l.1, l.2.1, l.2.2.1, (eat r.2 0).fi) :: r.1, List.zipWith (aheadE l.2.2.1) (upE l) r.2)
structure Ga where
 links : List Lk
 size : Nat
def Ga.add (a : Ga) (kid : Tp) (free : Bool) : Ga := ⟨a.links ++ [(kid, a.size, free, [])], a.size + kid.size⟩
def joinT (kind grp : Nat) (again : Bool) (a : Ga) : Tp :=
 .mk kind grp (joinF (endE again a.links) a.links).1 again xad a.size (joinF (endE again a.links) a.links).2
def addN (kid : Tp) (lo : Int) : Nat → Nat → Ga → Ga
 | 0, _, a => a
 | n + 1, c, a => addN kid lo n (c + 1) (a.add kid (decide ((c : Int) >= lo)))
def wrN (lo hi : Int) : Nat := bif decide (hi < 0) then max lo.toNat 1 else hi.toNat
mutual
def layT : Tr → Tp
 | .mk kind q lo hi grp kids =>
  match kind with
  | 1 => .mk 1 grp [] false q 1 (leafE false)
  | 6 => .mk 6 grp [] false (notP xad) 1 (leafE true)
  | 2 => .mk 2 grp [] false xad 0 (anchE 1)
  | 3 => .mk 3 grp [] false xad 0 (anchE 2)
  | 5 =>
   match layL kids with
   | kid :: _ =>
    bif decide (hi = 0) then joinT 5 grp false ⟨[], 0⟩ else
    bif Nat.beq kid.size 0 then joinT 5 grp false (bif decide (lo > 0) then Ga.add ⟨[], 0⟩ kid false else ⟨[], 0⟩) else
    joinT 5 grp (decide (hi < 0)) (addN kid lo (wrN lo hi) 0 ⟨[], 0⟩)
   | [] => joinT 5 grp false ⟨[], 0⟩
  | k => joinT k grp false ((layL kids).foldl (fun a kid => a.add kid false) ⟨[], 0⟩)
def layL : List Tr → List Tp
 | [] => []
 | t :: ts => layT t :: layL ts
end
structure Tb where
 takes : List (Nat → Bool)
 next : List Stp
 last : List (List Nat)
def lastR (n : Nat) (l : Stp) : List Nat := l.foldl (fun r s => r.set s.1 s.2) (List.replicate n 0)
abbrev TN := List (Nat → Bool) × List Stp
def tieH (p : Tp) (base : Nat) (a : TN) : TN :=
 (bif Nat.beq p.kind 1 || Nat.beq p.kind 6 then a.1.set base p.set else a.1, bif Nat.beq p.kind 6 then a.2.set base [(base, 1)] else a.2)
def tieB (base b : Nat) (bh : Stp) (la : Stp) (nx : List Stp) : List Stp :=
 la.foldl (fun nx s => nx.modify (base + b + s.1) fun o => sumS o (timesS (upS bh base) s.2)) nx
mutual
def tieF : Tp → Nat → TN → TN
 | .mk kind grp links ag set size eds, base, a => tieL links base (tieH (.mk kind grp [] ag set size eds) base a)
def tieL : List (Tp × Nat × Bool × Stp) → Nat → TN → TN
 | [], _, a => a
 | (p, b, _, bh) :: ls, base, a =>
  tieL ls base ((tieF p (base + b) a).1, tieB base b bh (eat p.eds 0).la (tieF p (base + b) a).2)
end
def tabT (p : Tp) : Tb :=
 let r := tieF p 0 (List.replicate p.size xad, List.replicate p.size [])
 ⟨r.1, r.2, [0, 1, 2, 3].map fun k => lastR p.size (eat p.eds k).la⟩
def kindAt (n p : Nat) : Nat := (bif Nat.beq p 0 then 1 else 0) + (bif Nat.beq p n then 2 else 0)
def lastAt (T : Tb) (n pl pos : Nat) : Nat := (T.last.getD (kindAt n pl) []).getD pos 0
def leadsF (row : List Bool) (l : Stp) (base : Nat) : Bool := l.any fun s => row.getD (base + s.1) false
def rowF (T : Tb) (s : List Nat) (pl : Nat) (nxt : List Bool) : List Bool :=
 (List.range T.takes.length).map fun p => (T.takes.getD p xad) (s.getD (pl - 1) 0) && (Nat.blt 0 (lastAt T s.length pl p) || (bif Nat.beq pl s.length then false else leadsF nxt (T.next.getD p []) 0))
def liveF (T : Tb) (s : List Nat) : Nat → List Bool
 | 0 => rowF T s s.length []
 | r + 1 => rowF T s (s.length - (r + 1)) (liveF T s r)
def moreF (live : Nat → Bool) (beh : Nat → Nat) : Stp → Nat → Nat
 | [], w => w
 | s :: l, w => bif Nat.blt 4096 w then w else moreF live beh l (bif live s.1 then capN (w + s.2 * beh s.1) else w)
def behF (T : Tb) (s : List Nat) : Nat → Nat → Nat
 | 0, pos => lastAt T s.length s.length pos
 | r + 1, pos => moreF (fun q => (liveF T s r).getD q false) (behF T s r) (T.next.getD pos []) (lastAt T s.length (s.length - (r + 1)) pos)
def waysF (p : Tp) (T : Tb) (s : List Nat) (at_ : Nat) : Nat :=
 let e := eat p.eds (kindAt s.length at_)
 let w := bif e.no then 1 else 0
 bif Nat.beq at_ s.length then w else moreF (fun q => (liveF T s (s.length - at_ - 1)).getD q false) (behF T s (s.length - at_ - 1)) e.fi w
def countT (t : Tr) (s : List Nat) (at_ : Nat) : Nat := waysF (layT t) (tabT (layT t)) s at_
end Go.Proofs.Ytolpakpdkheanaa.tly
namespace Go.Proofs.Ytolpakpdkheanaa.tly
open Go.RowKit Go.Proofs.Ytolpakpdkheanaa.br
structure StOk (n : Nat) (l : Stp) : Prop where
 up : l.Pairwise fun a b => a.1 < b.1
 lt : ∀ s ∈ l, s.1 < n ∧ s.2 ≤ 4097
theorem StOk.nil (n : Nat) : StOk n [] := ⟨.nil, fun _ h => nomatch h⟩
theorem StOk.mono {n m : Nat} {l : Stp} (h : StOk n l) (hm : n ≤ m) : StOk m l := ⟨h.up, fun s hs => ⟨Nat.lt_of_lt_of_le (h.lt s hs).1 hm, (h.lt s hs).2⟩⟩
theorem StOk.tail {n : Nat} {x : Nat × Nat} {l : Stp} (h : StOk n (x :: l)) : StOk n l := ⟨(List.pairwise_cons.1 h.up).2, fun s hs => h.lt s (List.mem_cons_of_mem _ hs)⟩
theorem StOk.len : ∀ {l : Stp} {n k : Nat}, l.Pairwise (fun a b => a.1 < b.1) → (∀ s ∈ l, k ≤ s.1 ∧ s.1 < n) → l.length ≤ n - k
 | [], _, _, _, _ => Nat.zero_le _
 | x :: l, n, k, h, hl => by
  have h1 := hl x List.mem_cons_self
  have := StOk.len (n := n) (k := x.1 + 1) (List.pairwise_cons.1 h).2 fun s hs => ⟨(List.pairwise_cons.1 h).1 s hs, (hl s (List.mem_cons_of_mem _ hs)).2⟩
  rw [List.length_cons]; omega
theorem StOk.length {l : Stp} {n : Nat} (h : StOk n l) : l.length ≤ n := StOk.len (k := 0) h.up fun s hs => ⟨Nat.zero_le _, (h.lt s hs).1⟩
theorem StOk.upS {l : Stp} {n m b : Nat} (h : StOk n l) (hm : b + n ≤ m) : StOk m (upS l b) := by
 refine ⟨List.pairwise_map.2 (h.up.imp fun h => by show _ + b < _ + b; omega), fun s hs => ?_⟩
 obtain ⟨x, hx, rfl⟩ := List.mem_map.1 hs
 exact ⟨by have := (h.lt x hx).1; show x.1 + b < m; omega, (h.lt x hx).2⟩
theorem StOk.times {l : Stp} {n : Nat} (h : StOk n l) (w : Nat) : StOk n (timesS l w) := by
 refine ⟨List.pairwise_map.2 (h.up.imp fun h => h), fun s hs => ?_⟩
 obtain ⟨x, hx, rfl⟩ := List.mem_map.1 hs
 exact ⟨(h.lt x hx).1, capN_le _⟩
theorem sum_mem : ∀ (a b : Stp) (s : Nat × Nat), s ∈ sumS a b → (∃ x ∈ a, s.1 = x.1) ∨ ∃ x ∈ b, s.1 = x.1
 | [], b, s, h => by rw [sum_nil] at h; exact .inr ⟨s, h, rfl⟩
 | a, [], s, h => by rw [sum_nil2] at h; exact .inl ⟨s, h, rfl⟩
 | x :: a, y :: b, s, h => by
  rw [sum_step] at h
  have l1 : ∀ {a' : Stp}, (∀ z ∈ a', z ∈ x :: a) → (∃ z ∈ a', s.1 = z.1) → ∃ z ∈ x :: a, s.1 = z.1 := fun h1 ⟨z, h2, h3⟩ => ⟨z, h1 z h2, h3⟩
  have l2 : ∀ {a' : Stp}, (∀ z ∈ a', z ∈ y :: b) → (∃ z ∈ a', s.1 = z.1) → ∃ z ∈ y :: b, s.1 = z.1 := fun h1 ⟨z, h2, h3⟩ => ⟨z, h1 z h2, h3⟩
  have t : ∀ {c : Nat × Nat} {l : Stp}, ∀ z ∈ l, z ∈ c :: l := fun z hz => List.mem_cons_of_mem _ hz
  cases c1 : Nat.blt x.1 y.1
  · rw [c1, cond_false] at h
    cases c2 : Nat.blt y.1 x.1
    · rw [c2, cond_false] at h
      rcases List.mem_cons.1 h with rfl | h
      · exact .inl ⟨x, List.mem_cons_self, rfl⟩
      · exact (sum_mem a b s h).imp (l1 t) (l2 t)
    · rw [c2, cond_true] at h
      rcases List.mem_cons.1 h with rfl | h
      · exact .inr ⟨_, List.mem_cons_self, rfl⟩
      · exact (sum_mem (x :: a) b s h).imp id (l2 t)
  · rw [c1, cond_true] at h
    rcases List.mem_cons.1 h with rfl | h
    · exact .inl ⟨_, List.mem_cons_self, rfl⟩
    · exact (sum_mem a (y :: b) s h).imp (l1 t) id
termination_by a b => a.length + b.length
theorem sum_up {n : Nat} : ∀ (a b : Stp), StOk n a → StOk n b → StOk n (sumS a b)
 | [], b, _, h => by rw [sum_nil]; exact h
 | a, [], h, _ => by rw [sum_nil2]; exact h
 | x :: a, y :: b, ha, hb => by
  have ax := (List.pairwise_cons.1 ha.up).1
  have bx := (List.pairwise_cons.1 hb.up).1
  rw [sum_step]
  cases c1 : Nat.blt x.1 y.1
  · rw [cond_false]
    have c1' : ¬ x.1 < y.1 := fun h => by rw [show Nat.blt x.1 y.1 = true from Nat.ble_eq_true_of_le h] at c1; cases c1
    cases c2 : Nat.blt y.1 x.1
    · rw [cond_false]
      have c2' : ¬ y.1 < x.1 := fun h => by rw [show Nat.blt y.1 x.1 = true from Nat.ble_eq_true_of_le h] at c2; cases c2
      have ih := sum_up a b ha.tail hb.tail
      refine ⟨List.pairwise_cons.2 ⟨fun s hs => ?_, ih.up⟩, fun s hs => ?_⟩
      · rcases sum_mem a b s hs with ⟨z, hz, e⟩ | ⟨z, hz, e⟩
        · rw [e]; exact ax z hz
        · rw [e]; have := bx z hz; show x.1 < z.1; omega
      · rcases List.mem_cons.1 hs with rfl | hs
        · exact ⟨(ha.lt x List.mem_cons_self).1, capN_le _⟩
        · exact ih.lt s hs
    · rw [cond_true]
      have c2' : y.1 < x.1 := Nat.le_of_ble_eq_true c2
      have ih := sum_up (x :: a) b ha hb.tail
      refine ⟨List.pairwise_cons.2 ⟨fun s hs => ?_, ih.up⟩, fun s hs => ?_⟩
      · rcases sum_mem (x :: a) b s hs with ⟨z, hz, e⟩ | ⟨z, hz, e⟩
        · rw [e]
          rcases List.mem_cons.1 hz with rfl | hz
          · exact c2'
          · exact Nat.lt_trans c2' (ax z hz)
        · rw [e]; exact bx z hz
      · rcases List.mem_cons.1 hs with rfl | hs
        · exact hb.lt _ List.mem_cons_self
        · exact ih.lt s hs
  · rw [cond_true]
    have c1' : x.1 < y.1 := Nat.le_of_ble_eq_true c1
    have ih := sum_up a (y :: b) ha.tail hb
    refine ⟨List.pairwise_cons.2 ⟨fun s hs => ?_, ih.up⟩, fun s hs => ?_⟩
    · rcases sum_mem a (y :: b) s hs with ⟨z, hz, e⟩ | ⟨z, hz, e⟩
      · rw [e]; exact ax z hz
      · rw [e]
        rcases List.mem_cons.1 hz with rfl | hz
        · exact c1'
        · exact Nat.lt_trans c1' (bx z hz)
    · rcases List.mem_cons.1 hs with rfl | hs
      · exact ha.lt _ List.mem_cons_self
      · exact ih.lt s hs
termination_by a b => a.length + b.length
def EdOk (n : Nat) (e : Ed) : Prop := StOk n e.fi ∧ StOk n e.la
structure EsOk (n : Nat) (es : List Ed) : Prop where
 len : es.length = 4
 ok : ∀ e ∈ es, EdOk n e
theorem EsOk.at {n : Nat} {es : List Ed} (h : EsOk n es) (k : Nat) : EdOk n (eat es k) := by
 unfold eat
 rw [List.getD_eq_getElem?_getD]
 cases e : es[k]? with
 | none => exact ⟨StOk.nil n, StOk.nil n⟩
 | some x => exact h.ok x (List.mem_of_getElem? e)
theorem EsOk.mono {n m : Nat} {es : List Ed} (h : EsOk n es) (hm : n ≤ m) : EsOk m es := ⟨h.len, fun e he => ⟨(h.ok e he).1.mono hm, (h.ok e he).2.mono hm⟩⟩
inductive OkP : Tp → Prop where
 | mk (p : Tp) (len : p.size ≤ 256) (ed : EsOk p.size p.eds) (ll : p.links.length ≤ 1000000)
   (lk : ∀ l ∈ p.links, l.2.1 + l.1.size ≤ p.size ∧ StOk p.size l.2.2.2) (kid : ∀ l ∈ p.links, OkP l.1) : OkP p
theorem OkP.len {p : Tp} : OkP p → p.size ≤ 256 | .mk _ h _ _ _ _ => h
theorem OkP.ed {p : Tp} : OkP p → EsOk p.size p.eds | .mk _ _ h _ _ _ => h
theorem OkP.ll {p : Tp} : OkP p → p.links.length ≤ 1000000 | .mk _ _ _ h _ _ => h
theorem OkP.lk {p : Tp} : OkP p → ∀ l ∈ p.links, l.2.1 + l.1.size ≤ p.size ∧ StOk p.size l.2.2.2 | .mk _ _ _ _ h _ => h
theorem OkP.kid {p : Tp} : OkP p → ∀ l ∈ p.links, OkP l.1 | .mk _ _ _ _ _ h => h
def stV : Stp → List Value
 | [] => []
 | s :: l => [.int .i64 (s.1 : Nat), .int .i64 (s.2 : Nat)] ++ stV l
theorem stV_len : ∀ l : Stp, (stV l).length = l.length * 2
 | [] => rfl
 | s :: l => by simp only [stV, List.length_append, List.length_cons, List.length_nil, stV_len l]; omega
theorem stV_app : ∀ a b : Stp, stV (a ++ b) = stV a ++ stV b
 | [], _ => rfl
 | s :: a, b => by simp only [List.cons_append, stV, stV_app a b, List.append_assoc]
theorem stV_get : ∀ {l : Stp} {i : Nat} {x : Nat × Nat}, l[i]? = some x → (stV l)[i * 2]? = some (.int .i64 (x.1 : Nat)) ∧ (stV l)[i * 2 + 1]? = some (.int .i64 (x.2 : Nat))
 | [], _, _, h => by simp at h
 | s :: l, 0, x, h => by cases h; exact ⟨rfl, rfl⟩
 | s :: l, i + 1, x, h => by
  have := stV_get (l := l) (i := i) (by simpa using h)
  rw [show (i + 1) * 2 = i * 2 + 1 + 1 by omega]
  exact this
theorem stV_one : ∀ (l : Stp), ∀ u ∈ stV l, u.oneCell' = true
 | [], _, h => nomatch h
 | s :: l, u, h => by
  simp only [stV, List.mem_append, List.mem_cons, List.not_mem_nil, or_false] at h
  rcases h with (rfl | rfl) | h
  · rfl
  · rfl
  · exact stV_one l u h
def StR (W : World) (S : Nat → Prop) (v : Value) (l : Stp) : Prop :=
 (v = .slice none 0 0 ∧ l = []) ∨ ∃ g o c, v = .slice (some ⟨g, o, none⟩) l.length c ∧ l.length ≤ c ∧ S g ∧ (∃ cur, W.heap[g]? = some (.cells cur 95 (0, 0))) ∧ ∀ (i : Nat) (x : Nat × Nat), l[i]? = some x → W.cell? ⟨g, o + i * 2, none⟩ = some (.int .i64 (x.1 : Nat)) ∧ W.cell? ⟨g, o + i * 2 + 1, none⟩ = some (.int .i64 (x.2 : Nat))
theorem StR.keep {W W' : World} {S S' : Nat → Prop} {v : Value} {l : Stp} (h : StR W S v l) (hk : ∀ g, S g → W'.heap[g]? = W.heap[g]?) (hm : ∀ g, S g → S' g) : StR W' S' v l := by
 rcases h with h | ⟨g, o, c, h1, h2, h3, ⟨cur, h5⟩, h4⟩
 · exact .inl h
 · exact .inr ⟨g, o, c, h1, h2, hm g h3, ⟨cur, (hk g h3).trans h5⟩, fun i x hi => ⟨(World.cell?_of_block (a := ⟨g, _, none⟩) (hk g h3)).trans (h4 i x hi).1, (World.cell?_of_block (a := ⟨g, _, none⟩) (hk g h3)).trans (h4 i x hi).2⟩⟩
theorem StR.shape {W : World} {S : Nat → Prop} {v : Value} {l : Stp} (h : StR W S v l) : ∃ a c, v = .slice a l.length c := by
 rcases h with ⟨rfl, rfl⟩ | ⟨g, o, c, h1, _⟩
 · exact ⟨_, _, rfl⟩
 · exact ⟨_, _, h1⟩
theorem StR.of_own {W : World} {B n : Nat} {v : Value} {l : Stp} (h : W.ownsRow B 95 2 v n (stV l)) (S : Nat → Prop) (hS : ∀ g, v.ownBlock = some g → S g) : StR W S v l := by
 obtain ⟨hl, h2⟩ := h
 rw [stV_len] at hl
 obtain rfl : n = l.length := by omega
 rcases h2 with ⟨rfl, e⟩ | ⟨g, cap, cur, rfl, hb, hh, hn, hc, hs, ht⟩
 · exact .inl ⟨rfl, List.eq_nil_of_length_eq_zero e⟩
 · refine .inr ⟨g, 0, cap, rfl, hn, hS g rfl, ⟨cur, hh⟩, fun i x hi => ?_⟩
   have hlt := (List.getElem?_eq_some_iff.1 hi).1
   have hc : ∀ k u, (stV l)[k]? = some u → W.cell? ⟨g, k, none⟩ = some u := fun k u hu => by
    have hk : k < l.length * 2 := by rw [← stV_len]; exact (List.getElem?_eq_some_iff.1 hu).1
    rw [← ht, List.getElem?_take_of_lt hk] at hu
    simp only [World.cell?, hh]
    simpa using hu
   rw [Nat.zero_add]
   exact ⟨hc _ _ (stV_get hi).1, hc _ _ (stV_get hi).2⟩
def lst12 (u : Nat → Value) : List Value := [u 0, u 1, u 2, u 3, u 4, u 5, u 6, u 7, u 8, u 9, u 10, u 11]
def setU (u : Nat → Value) (j : Nat) (v : Value) : Nat → Value := fun i => bif Nat.beq i j then v else u i
theorem setU_same (u : Nat → Value) (j : Nat) (v : Value) : setU u j v j = v := by unfold setU; rw [Nat.beq_refl]; rfl
theorem setU_other (u : Nat → Value) {j i : Nat} (v : Value) (h : i ≠ j) : setU u j v i = u i := by
 unfold setU
 cases e : Nat.beq i j
 · rfl
 · exact absurd (Nat.eq_of_beq_eq_true e) h
theorem lst12_set (u : Nat → Value) {j : Nat} (hj : j < 12) (v : Value) : (lst12 u).set j v = lst12 (setU u j v) := by
 match j, hj with
 | 0, _ => rfl
 | 1, _ => rfl
 | 2, _ => rfl
 | 3, _ => rfl
 | 4, _ => rfl
 | 5, _ => rfl
 | 6, _ => rfl
 | 7, _ => rfl
 | 8, _ => rfl
 | 9, _ => rfl
 | 10, _ => rfl
 | 11, _ => rfl
theorem lst12_get (u : Nat → Value) {j : Nat} (hj : j < 12) : (lst12 u)[j]? = some (u j) := by
 match j, hj with
 | 0, _ => rfl
 | 1, _ => rfl
 | 2, _ => rfl
 | 3, _ => rfl
 | 4, _ => rfl
 | 5, _ => rfl
 | 6, _ => rfl
 | 7, _ => rfl
 | 8, _ => rfl
 | 9, _ => rfl
 | 10, _ => rfl
 | 11, _ => rfl
structure EsR (W : World) (S : Nat → Prop) (u : Nat → Value) (es : List Ed) : Prop where
 no : ∀ k, k < 4 → u (k * 3) = .bool (eat es k).no
 fi : ∀ k, k < 4 → StR W S (u (k * 3 + 1)) (eat es k).fi
 la : ∀ k, k < 4 → StR W S (u (k * 3 + 2)) (eat es k).la
theorem EsR.keep {W W' : World} {S S' : Nat → Prop} {u : Nat → Value} {es : List Ed} (h : EsR W S u es) (hk : ∀ g, S g → W'.heap[g]? = W.heap[g]?) (hm : ∀ g, S g → S' g) : EsR W' S' u es :=
 ⟨h.no, fun k h4 => (h.fi k h4).keep hk hm, fun k h4 => (h.la k h4).keep hk hm⟩
def ptV (k g : Nat) (vl : Value) (ag : Bool) (q : Nat → Bool) (n : Nat) (u : Nat → Value) : List Value := [.int .i64 (k : Nat), .int .i64 (g : Nat), vl, .bool ag, .int .u64 (wd q 0 : Nat), .int .u64 (wd q 1 : Nat), .int .u64 (wd q 2 : Nat), .int .u64 (wd q 3 : Nat), .int .i64 (n : Nat)] ++ lst12 u
theorem ptV_len (k g : Nat) (vl : Value) (ag : Bool) (q : Nat → Bool) (n : Nat) (u : Nat → Value) : (ptV k g vl ag q n u).length = 21 := rfl
def lkV : List Lk → List Nat → List Value → List Value
 | l :: ls, c :: cs, v :: vs => [.pointer (some ⟨c, 0, none⟩), .int .i64 (l.2.1 : Nat), .bool l.2.2.1, v] ++ lkV ls cs vs
 | _, _, _ => []
theorem lkV_len : ∀ (ls : List Lk) (cs : List Nat) (vs : List Value), cs.length = ls.length → vs.length = ls.length → (lkV ls cs vs).length = ls.length * 4
 | [], [], [], _, _ => rfl
 | l :: ls, c :: cs, v :: vs, h, h' => by simp only [lkV, List.length_append, List.length_cons, List.length_nil, lkV_len ls cs vs (by simpa using h) (by simpa using h')]; omega
theorem lkV_app : ∀ (a : List Lk) (c : List Nat) (w : List Value) (l : Lk) (d : Nat) (v : Value), c.length = a.length → w.length = a.length → lkV (a ++ [l]) (c ++ [d]) (w ++ [v]) = lkV a c w ++ [.pointer (some ⟨d, 0, none⟩), .int .i64 (l.2.1 : Nat), .bool l.2.2.1, v]
 | [], [], [], l, d, v, _, _ => rfl
 | x :: a, y :: c, z :: w, l, d, v, h, h' => by simp only [List.cons_append, lkV, lkV_app a c w l d v (by simpa using h) (by simpa using h'), List.append_assoc]
theorem lkV_get : ∀ {ls : List Lk} {cs : List Nat} {vs : List Value} {i : Nat} {l : Lk} {c : Nat} {v : Value}, ls[i]? = some l → cs[i]? = some c → vs[i]? = some v → (lkV ls cs vs)[i * 4]? = some (.pointer (some ⟨c, 0, none⟩)) ∧ (lkV ls cs vs)[i * 4 + 1]? = some (.int .i64 (l.2.1 : Nat)) ∧ (lkV ls cs vs)[i * 4 + 2]? = some (.bool l.2.2.1) ∧ (lkV ls cs vs)[i * 4 + 3]? = some v
 | [], _, _, _, _, _, _, h, _, _ => by simp at h
 | _ :: _, [], _, _, _, _, _, _, h, _ => by simp at h
 | _ :: _, _ :: _, [], _, _, _, _, _, _, h => by simp at h
 | x :: ls, y :: cs, z :: vs, 0, l, c, v, h, k, m => by
  simp only [List.getElem?_cons_zero, Option.some.injEq] at h k m
  subst h; subst k; subst m
  exact ⟨rfl, rfl, rfl, rfl⟩
 | x :: ls, y :: cs, z :: vs, i + 1, l, c, v, h, k, m => by
  have := lkV_get (ls := ls) (cs := cs) (vs := vs) (i := i) (by simpa using h) (by simpa using k) (by simpa using m)
  rw [show (i + 1) * 4 = i * 4 + 1 + 1 + 1 + 1 by omega, show i * 4 + 1 + 1 + 1 + 1 + 1 = (i * 4 + 1) + 1 + 1 + 1 + 1 by omega, show i * 4 + 1 + 1 + 1 + 1 + 2 = (i * 4 + 2) + 1 + 1 + 1 + 1 by omega, show i * 4 + 1 + 1 + 1 + 1 + 3 = (i * 4 + 3) + 1 + 1 + 1 + 1 by omega]
  exact this
inductive PtAt (W : World) (S : Nat → Prop) : Nat → Tp → Prop where
 | mk (b : Nat) (p : Tp) (vl : Value) (u : Nat → Value) (cs : List Nat) (vs : List Value) (hS : S b) (blk : W.heap[b]? = some (.cells (ptV p.kind p.grp vl p.again p.set p.size u).toArray 87 (0, 0)))
   (hl : cs.length = p.links.length) (hv : vs.length = p.links.length) (ol : W.ownsRow 0 125 4 vl p.links.length (lkV p.links cs vs)) (es : EsR W S u p.eds)
   (sl : ∀ g, vl.ownBlock = some g → S g)
   (bh : ∀ (i : Nat) (l : Lk) (v : Value), p.links[i]? = some l → vs[i]? = some v → StR W S v l.2.2.2)
   (kids : ∀ (i : Nat) (l : Lk) (c : Nat), p.links[i]? = some l → cs[i]? = some c → PtAt W S c l.1) : PtAt W S b p
theorem row_keep {W W' : World} {B e size n : Nat} {v : Value} {xs : List Value} (h : W.ownsRow B e size v n xs) (hk : ∀ g, v.ownBlock = some g → W'.heap[g]? = W.heap[g]?) : W'.ownsRow B e size v n xs := by
 obtain ⟨hl, h⟩ := h
 refine ⟨hl, ?_⟩
 rcases h with h | ⟨g, cap, cur, hv, hg, hh, rest⟩
 · exact .inl h
 · exact .inr ⟨g, cap, cur, hv, hg, (hk g (by rw [hv]; rfl)).trans hh, rest⟩
theorem row_blk {W : World} {B e size n : Nat} {v : Value} {xs : List Value} (h : W.ownsRow B e size v n xs) {g : Nat} (hg : v.ownBlock = some g) : B ≤ g ∧ g < W.heap.size ∧ ∃ cur, W.heap[g]? = some (.cells cur e (0, 0)) := by
 rcases h.2 with ⟨rfl, _⟩ | ⟨g', cap', cur, rfl, hb, hh, _⟩
 · cases hg
 · cases hg
   exact ⟨hb, (Array.getElem?_eq_some_iff.1 hh).1, cur, hh⟩
theorem row_shape {W : World} {B e size n : Nat} {v : Value} {xs : List Value} (h : W.ownsRow B e size v n xs) : ∃ a c, v = .slice a n c := by
 rcases h.2 with ⟨rfl, rfl⟩ | ⟨g, cap, cur, rfl, _⟩
 · exact ⟨_, _, rfl⟩
 · exact ⟨_, _, rfl⟩
theorem row_mono {W : World} {B B' e size n : Nat} {v : Value} {xs : List Value} (h : W.ownsRow B e size v n xs) (hb : B' ≤ B) : W.ownsRow B' e size v n xs := by
 obtain ⟨hl, h⟩ := h
 refine ⟨hl, ?_⟩
 rcases h with h | ⟨g, cap, cur, hv, hg, rest⟩
 · exact .inl h
 · exact .inr ⟨g, cap, cur, hv, Nat.le_trans hb hg, rest⟩
theorem row_cell {W : World} {B e size n g cap : Nat} {xs : List Value} (h : W.ownsRow B e size (.slice (some ⟨g, 0, none⟩) n cap) n xs) (k : Nat) (u : Value) (hu : xs[k]? = some u) : W.cell? ⟨g, k, none⟩ = some u ∧ W.frozen? ⟨g, k, none⟩ = false := by
 obtain ⟨hl, h2⟩ := h
 rcases h2 with ⟨h2, _⟩ | ⟨g', cap', cur, he, hb, hh, hn, hc, hs, ht⟩
 · cases h2
 · cases he
   have hk : k < n * size := by rw [← hl]; exact (List.getElem?_eq_some_iff.1 hu).1
   rw [← ht, List.getElem?_take_of_lt hk] at hu
   exact ⟨by simp only [World.cell?, hh]; simpa using hu, by simp [World.frozen?, hh]⟩
theorem PtAt.keep {W W' : World} {S S' : Nat → Prop} {b : Nat} {p : Tp} (h : PtAt W S b p) (hk : ∀ g, S g → W'.heap[g]? = W.heap[g]?) (hm : ∀ g, S g → S' g) : PtAt W' S' b p := by
 induction h with
 | mk b p vl u cs vs hS blk hl hv ol es sl bh kids ih =>
  exact .mk b p vl u cs vs (hm _ hS) ((hk _ hS).trans blk) hl hv (row_keep ol fun g hg => hk g (sl g hg)) (es.keep hk hm) (fun g hg => hm g (sl g hg)) (fun i l v h1 h2 => (bh i l v h1 h2).keep hk hm) ih
end Go.Proofs.Ytolpakpdkheanaa.tly
namespace Go.Proofs.Ytolpakpdkheanaa.tly
open Go.RowKit Go.Proofs.Ytolpakpdkheanaa.br
theorem hideT {p : Prop} (h : p) : Hid p := h
theorem keep_cell {W w1 : World} {a : Addr} {v : Value} (hb : Below W.heap.size W w1) (h : W.cell? a = some v) : w1.cell? a = some v := (World.cell?_of_block (hb.block _ (World.block_lt_of_cell? W a h))).trans h
theorem keep_frozen {W w1 : World} {a : Addr} {f : Bool} (hb : Below W.heap.size W w1) (hl : a.block < W.heap.size) (h : W.frozen? a = f) : w1.frozen? a = f := by
 have e := hb.block a.block hl
 rw [← h]
 simp only [World.frozen?, e]
theorem wanted_none {o : Oper} (hg : o.guard = none) (l : Nat → Option Bool) : Region.wanted o l = true := by simp only [Region.wanted, hg]
theorem op_call {P : Program} {ops : Array Oper} {Q : Exit → Act → World → Prop} {i : Nat} {o : Oper} {K : Act → World → Prop} {a : Act} {w : World} {f : FuncId} {args : Array Value} {R : Value → World → Prop} (d : Option Tmp) (hi : ops[i]? = some o) (hd : o.dst = d) (hw : Region.wanted o (yielded ops a.tmps) = true) (hx : (execOp a.eval o).run P w = .ok (.enter f args) w) (hc : Calls P f args w fun e w' => ∃ v, e = .returned v ∧ R v w') (h : ∀ v w', R v w' → K (a.put d v) w') : wpOp P ops Q i K a w := by
  unfold wpOp
  rw [hi]
  dsimp only
  rw [if_pos hw]
  refine .inl ?_
  unfold Oper.wp
  rw [hx]
  refine Calls.mono hc ?_
  rintro e w' ⟨v, rfl, hR⟩
  show K (a.put o.dst v) w'
  rw [hd]
  exact h v w' hR
theorem op_value {P : Program} {ops : Array Oper} {Q : Exit → Act → World → Prop} {i : Nat} {o : Oper} {K : Act → World → Prop} {a : Act} {w w' : World} {v : Value} (d : Option Tmp) (hi : ops[i]? = some o) (hd : o.dst = d) (hw : Region.wanted o (yielded ops a.tmps) = true) (hx : (execOp a.eval o).run P w = .ok (.value v) w') (h : K (a.put d v) w') : wpOp P ops Q i K a w := by
  subst hd
  unfold wpOp
  rw [hi]
  dsimp only
  rw [if_pos hw]
  refine .inl ?_
  unfold Oper.wp
  rw [hx]
  exact h
theorem op_skip {P : Program} {ops : Array Oper} {Q : Exit → Act → World → Prop} {i : Nat} {o : Oper} {K : Act → World → Prop} {a : Act} {w w' : World} (hi : ops[i]? = some o) (hd : o.dst = none) (hw : Region.wanted o (yielded ops a.tmps) = true) (hx : (execOp a.eval o).run P w = .ok .skip w') (h : K (a.put none undef) w') : wpOp P ops Q i K a w := by
  rw [← hd] at h
  unfold wpOp
  rw [hi]
  dsimp only
  rw [if_pos hw]
  refine .inl ?_
  unfold Oper.wp
  rw [hx]
  exact h
theorem take_d {P : Program} {ops : Array Oper} {Q : Exit → Act → World → Prop} {S : World → Prop} {md : Region.Mode} (i : Nat) (d : Option Tmp) {oi : Oper} {v : Value} {fuel : Nat} {listed : Array Bool} {a : Act} {w : World} (hi : ops[i]? = some oi) (hd : oi.dst = d)
    (hs : Region.noSelect ops = true) (hf : Region.free md ops listed i = true) (hr : (Region.ready md ops listed).contains i = true)
    (hQ : ∀ c a w, Q (.panic c) (a.put d v) w → Q (.panic c) a w) (hw : Region.wanted oi (yielded ops a.tmps) = true) (hS : S w) (hy : ∀ w, S w → (execOp a.eval oi).run P w = .ok (.value v) w)
    (h : wpAnyH P md ops Q S fuel (listed.setIfInBounds i true) (a.put d v) w) : wpAnyH P md ops Q S (fuel + 1) listed a w := by
  subst hd
  exact wpAnyH_take hi hs hf hr hQ (Or.inl ⟨hw, hy⟩) hS h
theorem tq {P : Program} {ops : Array Oper} {Q : Exit → Act → World → Prop} {S : World → Prop} {md : Region.Mode} (i : Nat) (d : Tmp) {w : World} (hS : S w) {oi : Oper} {v : Value} {fuel : Nat} {listed : Array Bool} {a : Act} (h : wpAnyH P md ops Q S fuel (listed.setIfInBounds i true) (a.put (some d) v) w) (hi : ops[i]? = some oi := by rfl) (hd : oi.dst = some d := by rfl)
    (hs : Region.noSelect ops = true := by kernel_rfl) (hf : Region.free md ops listed i = true := by kernel_rfl) (hr : (Region.ready md ops listed).contains i = true := by kernel_rfl)
    (hQ : ∀ c a w, Q (.panic c) (a.put (some d) v) w → Q (.panic c) a w := by exact fun _ _ _ h => h) (hw : Region.wanted oi (yielded ops a.tmps) = true := by first | exact wanted_none rfl _ | rfl) (hy : ∀ w, S w → (execOp a.eval oi).run P w = .ok (.value v) w := by intro V hV; go_simp; (try with_reducible rfl)) : wpAnyH P md ops Q S (fuel + 1) listed a w :=
  take_d i (some d) hi hd hs hf hr hQ hw hS hy h
theorem op_of {P : Program} {ops : Array Oper} {Q : Exit → Act → World → Prop} {i : Nat} {o : Oper} {K : Act → World → Prop} {a : Act} {w : World} (hi : ops[i]? = some o) (hw : Region.wanted o (yielded ops a.tmps) = true) (h : o.wp P a w K Q) : wpOp P ops Q i K a w := by
  unfold wpOp
  rw [hi]
  dsimp only
  rw [if_pos hw]
  exact .inl h
theorem op_store {P : Program} {ops : Array Oper} {Q : Exit → Act → World → Prop} {i : Nat} {o : Oper} {K : Act → World → Prop} {a : Act} {w : World} (ty : TypeId) (r s b : Nat) (cs : List Value) (hi : ops[i]? = some o) (ho : o.op = .store ty (.tmp r) (.tmp s)) (hd : o.dst = none) (hg : o.guard = none) (hx : a.eval (.tmp r) = .pointer (some ⟨b, 0, none⟩)) (hy : a.eval (.tmp s) = .agg cs.toArray) (ht : w.there b 0 cs.length) (hz : (P.info? ty).map (·.size) = some cs.length) (h1 : cs.toArray.all (·.oneCell') = true) (h : K (a.put none undef) (w.setCells b 0 cs)) : wpOp P ops Q i K a w := by
  refine op_of hi (wanted_none hg _) (wp_store_mid ty _ _ ho b 0 cs.toArray hx hy (by rw [List.size_toArray]; exact ht) (by rw [List.size_toArray]; exact hz) h1 ?_)
  rw [hd]
  exact h
theorem wl_value {P : Program} {ops : Array Oper} {rest : List Oper} {Q : Exit → Act → World → Prop} {o : Oper} {a : Act} {w w' : World} {v : Value} (hg : o.guard = none) (hx : (execOp a.eval o).run P w = .ok (.value v) w') (h : wpList P ops Q rest (a.put o.dst v) w') : wpList P ops Q (o :: rest) a w :=
  wpList_plain hg fun K hK => by
    unfold Oper.wp
    rw [hx]
    exact hK _ _ h
theorem wl_call {P : Program} {ops : Array Oper} {rest : List Oper} {Q : Exit → Act → World → Prop} {o : Oper} {a : Act} {w : World} {f : FuncId} {args : Array Value} {R : Value → World → Prop} (hg : o.guard = none) (hx : (execOp a.eval o).run P w = .ok (.enter f args) w) (hc : Calls P f args w fun e w' => ∃ v, e = .returned v ∧ R v w') (h : ∀ v w', R v w' → wpList P ops Q rest (a.put o.dst v) w') : wpList P ops Q (o :: rest) a w :=
  wpList_plain hg fun K hK => by
    unfold Oper.wp
    rw [hx]
    refine Calls.mono hc ?_
    rintro e w' ⟨v, rfl, hR⟩
    exact hK _ _ (h v w' hR)
theorem range_block {W : World} {b : Nat} {cs : List Value} {t : TypeId} {fr : Nat × Nat} (h : W.heap[b]? = some (.cells cs.toArray t fr)) : W.rangeAt b 0 cs := fun j v hv => by
  simp only [World.cell?, h, Nat.zero_add]
  simpa using hv
theorem there_block {W : World} {b : Nat} {cs : List Value} {t : TypeId} (h : W.heap[b]? = some (.cells cs.toArray t (0, 0))) (n : Nat) (hn : cs.length = n) : W.there b 0 n := fun j hj => by
  have e : cs[j]? = some cs[j] := List.getElem?_eq_getElem (by omega)
  refine ⟨?_, ?_⟩
  · simp [World.cell?, h, e]
  · simp [World.frozen?, h]
theorem setCells_far (W : World) (b : Nat) {j : Nat} (h : j ≠ b) : ∀ (vs : List Value) (o : Nat), (W.setCells b o vs).heap[j]? = W.heap[j]? := by
  intro vs
  induction vs generalizing W with
  | nil => intro o; rfl
  | cons v vs ih =>
    intro o
    rw [World.setCells, ih]
    exact Below.heap_setCell W ⟨b, o, none⟩ v j h
theorem setCells_size (b : Nat) : ∀ (vs : List Value) (W : World) (o : Nat), (W.setCells b o vs).heap.size = W.heap.size
  | [], _, _ => rfl
  | v :: vs, W, o => by
    rw [World.setCells, setCells_size b vs]
    simp
theorem setCells_at (b : Nat) (t : TypeId) (fr : Nat × Nat) : ∀ (vs pre cs suf : List Value) (W : World) (o : Nat), W.heap[b]? = some (.cells (pre ++ (cs ++ suf)).toArray t fr) → pre.length = o → cs.length = vs.length → (W.setCells b o vs).heap[b]? = some (.cells (pre ++ (vs ++ suf)).toArray t fr)
  | [], pre, cs, suf, W, o, h, hp, hc => by
    obtain rfl : cs = [] := List.eq_nil_of_length_eq_zero hc
    exact h
  | v :: vs, pre, [], suf, W, o, h, hp, hc => by simp at hc
  | v :: vs, pre, c :: cs, suf, W, o, h, hp, hc => by
    rw [World.setCells]
    have h1 : (W.setCell ⟨b, o, none⟩ v).heap[b]? = some (.cells ((pre ++ [v]) ++ (cs ++ suf)).toArray t fr) := by
      obtain ⟨hlt, hk⟩ := Array.getElem?_eq_some_iff.1 h
      show (W.heap.modify b _)[b]? = _
      rw [Array.getElem?_eq_getElem (by rw [Array.size_modify]; exact hlt), Array.getElem_modify_self, hk]
      simp [hp.symm]
    have := setCells_at b t fr vs (pre ++ [v]) cs suf _ (o + 1) h1 (by simp [hp]) (by simpa using hc)
    simpa using this
theorem setCells_whole {W : World} {b : Nat} {t : TypeId} {fr : Nat × Nat} {cs : List Value} (vs : List Value) (h : W.heap[b]? = some (.cells cs.toArray t fr)) (hl : cs.length = vs.length) : (W.setCells b 0 vs).heap[b]? = some (.cells vs.toArray t fr) := by
  have := setCells_at b t fr vs [] cs [] W 0 (by simpa using h) rfl hl
  simpa using this
theorem below_setCells {B : Nat} {X : World} (b : Nat) (hb : B ≤ b) : ∀ (vs : List Value) (W : World) (o : Nat), Below B X W → Below B X (W.setCells b o vs)
  | [], _, _, h => h
  | v :: vs, W, o, h => by
    rw [World.setCells]
    exact below_setCells b hb vs _ _ (h.setCell (p := ⟨b, o, none⟩) hb v)
theorem wp_app {w : World} {o : Oper} {a : Act} {K : Act → World → Prop} {Q : Exit → Act → World → Prop} (s x : Operand) (t : TypeId) (ho : o.op = .call { callee := .builtin .append, args := #[s, x], argTypes := #[t, t] })
  (base : Nat) (e : TypeId) (i : TypeInfo) (z : Value) (size bytes : Nat) (ht : Try.prog.underlying t = some (.slice e)) (hi : Try.prog.info? e = some i) (hz : i.zero = some z) (hsize : i.size = size) (hby : i.bytes = bytes) (hzs : z.cells.size = size) (hsz : 0 < size)
  (v : Value) (n : Nat) (xs : List Value) (hs : a.eval s = v) (hown : w.ownsRow base e size v n xs) (xv : Value) (m : Nat) (ys : List Value) (hx : a.eval x = xv) (hxo : w.ownsRow 0 e size xv m ys) (h1 : ∀ u ∈ ys, u.oneCell' = true)
  (h63 : n + m ≤ 2000000) (hb : bytes ≤ 1000000) (hbase : base ≤ w.heap.size)
  (h : ∀ v' w', w'.ownsRow base e size v' (n + m) (xs ++ ys) → w.grownBy w' v.ownBlock → (v'.ownBlock = v.ownBlock ∨ v'.ownBlock = some w.heap.size) → K (a.put o.dst v') w') : o.wp Try.prog a w K Q := by
 have hbytes : (n + m) * bytes ≤ 140737488355328 := Nat.le_trans (Nat.mul_le_mul h63 hb) (by decide)
 have key : ∃ v' w', (Builtin.append_ #[t, t] o.type #[v, xv]).run Try.prog w = .ok v' w' ∧ w'.ownsRow base e size v' (n + m) (xs ++ ys) ∧ w.grownBy w' v.ownBlock ∧ (v'.ownBlock = v.ownBlock ∨ v'.ownBlock = some w.heap.size) := by
  rcases hxo.2 with ⟨rfl, rfl⟩ | ⟨g, cap, cur, rfl, _, _, _⟩
  · have hy : ys = [] := List.eq_nil_of_length_eq_zero (by rw [hxo.1, Nat.zero_mul])
    subst hy
    exact ⟨v, w, run_append_owned_none w base t o.type e i size ht hi v n xs hown, by rw [List.append_nil]; exact hown, ⟨rfl, rfl, rfl, Nat.le_refl _, fun _ _ _ => rfl⟩, .inl rfl⟩
  · obtain ⟨v', w', hr, h2, h3, _, h5⟩ := run_append_own_at (P := Try.prog) w base t o.type e i z size bytes ht hi hz hsize hby hzs hsz v n xs hown ⟨g, 0, none⟩ m cap ys hxo.1 (hxo.cells (g := g) rfl) h1 (by unfold maxLen; omega) hbytes hbase
    exact ⟨v', w', hr, h2, h3, h5⟩
 obtain ⟨v', w', hr, h2, h3, h5⟩ := key
 unfold Oper.wp execOp
 simp only [ho, resolve, invoke, builtin, Sem.run_bind, Sem.run_pure, Result.andThen_ok, List.map_toArray, List.map_cons, List.map_nil, hs, hx, hr]
 exact h v' w' h2 h3 h5
theorem grown_below {B : Nat} {w0 w w' : World} {row : Option Nat} (hb : Below B w0 w) (hB : B ≤ w.heap.size) (hg : w.grownBy w' row) (hr : ∀ g, row = some g → B ≤ g) : Below B w0 w' :=
 ⟨hg.os.trans hb.os, hg.tape.trans hb.tape, hg.output.trans hb.output, Nat.le_trans hb.size hg.size, fun k hk => (hg.block k (by omega) (fun e => by have := hr k e.symm; omega)).trans (hb.block k hk)⟩
theorem drew_below (B : Nat) (w : World) : Below B w w.drew := ⟨rfl, rfl, rfl, Nat.le_refl _, fun _ _ => rfl⟩
theorem wp_app_st {w : World} {S : Nat → Prop} {o : Oper} {a : Act} {K : Act → World → Prop} {Q : Exit → Act → World → Prop} (s x : Operand) (t : TypeId) (ho : o.op = .call { callee := .builtin .append, args := #[s, x], argTypes := #[t, t] })
  (base : Nat) (i : TypeInfo) (z : Value) (bytes : Nat) (ht : Try.prog.underlying t = some (.slice 95)) (hi : Try.prog.info? 95 = some i) (hz : i.zero = some z) (hsize : i.size = 2) (hby : i.bytes = bytes) (hzs : z.cells.size = 2)
  (v : Value) (pre : Stp) (hs : a.eval s = v) (hown : w.ownsRow base 95 2 v pre.length (stV pre)) (xv : Value) (l : Stp) (hx : a.eval x = xv) (hr : StR w S xv l)
  (h63 : pre.length + l.length ≤ 2000000) (hb : bytes ≤ 1000000) (hbase : base ≤ w.heap.size)
  (h : ∀ v' w', w'.ownsRow base 95 2 v' (pre ++ l).length (stV (pre ++ l)) → w.grownBy w' v.ownBlock → K (a.put o.dst v') w') : o.wp Try.prog a w K Q := by
 have hbytes : (pre.length + l.length) * bytes ≤ 140737488355328 := Nat.le_trans (Nat.mul_le_mul h63 hb) (by decide)
 have key : ∃ v' w', (Builtin.append_ #[t, t] o.type #[v, xv]).run Try.prog w = .ok v' w' ∧ w'.ownsRow base 95 2 v' (pre ++ l).length (stV (pre ++ l)) ∧ w.grownBy w' v.ownBlock := by
  rcases hr with ⟨rfl, rfl⟩ | ⟨g, off, c, rfl, hc, hS, _, hcell⟩
  · exact ⟨v, w, run_append_owned_none w base t o.type 95 i 2 ht hi v _ _ hown, by rw [List.append_nil]; exact hown, ⟨rfl, rfl, rfl, Nat.le_refl _, fun _ _ _ => rfl⟩⟩
  · obtain ⟨v', w', hr, h2, h3, _, h5⟩ := run_append_own_at (P := Try.prog) w base t o.type 95 i z 2 bytes ht hi hz hsize hby hzs (by decide) v _ _ hown ⟨g, off, none⟩ l.length c (stV l) (stV_len l) (fun j u hu => by
     have hj : j < l.length * 2 := by rw [← stV_len]; exact (List.getElem?_eq_some_iff.1 hu).1
     obtain ⟨y, hy⟩ : ∃ y, l[j / 2]? = some y := ⟨_, List.getElem?_eq_getElem (show j / 2 < l.length by omega)⟩
     have h1 := stV_get hy
     have h2 := hcell _ _ hy
     rw [show (⟨g, off, none⟩ : Addr).add j = ⟨g, off + j, none⟩ by unfold Addr.add; split <;> simp_all]
     rcases Nat.mod_two_eq_zero_or_one j with e | e
     · rw [show j = j / 2 * 2 by omega] at hu ⊢
       rw [h1.1] at hu
       rw [← hu]
       exact h2.1
     · rw [show j = j / 2 * 2 + 1 by omega] at hu ⊢
       rw [h1.2] at hu
       rw [← hu]
       exact h2.2) (stV_one l) (by unfold maxLen; omega) hbytes hbase
    exact ⟨v', w', hr, by rw [List.length_append, stV_app]; exact h2, h3⟩
 obtain ⟨v', w', hr, h2, h3⟩ := key
 unfold Oper.wp execOp
 simp only [ho, resolve, invoke, builtin, Sem.run_bind, Sem.run_pure, Result.andThen_ok, List.map_toArray, List.map_cons, List.map_nil, hs, hx, hr]
 exact h v' w' h2 h3
theorem op_app_st {w : World} {S : Nat → Prop} {ops : Array Oper} {j : Nat} {o : Oper} {a : Act} {K : Act → World → Prop} {Q : Exit → Act → World → Prop} (d : Tmp) (hi : ops[j]? = some o) (hd : o.dst = some d) (hgd : o.guard = none) (s x : Operand) (t : TypeId) (ho : o.op = .call { callee := .builtin .append, args := #[s, x], argTypes := #[t, t] })
  (base : Nat) (i : TypeInfo) (z : Value) (bytes : Nat) (ht : Try.prog.underlying t = some (.slice 95)) (hif : Try.prog.info? 95 = some i) (hz : i.zero = some z) (hsize : i.size = 2) (hby : i.bytes = bytes) (hzs : z.cells.size = 2)
  (v : Value) (pre : Stp) (hs : a.eval s = v) (hown : w.ownsRow base 95 2 v pre.length (stV pre)) (xv : Value) (l : Stp) (hx : a.eval x = xv) (hr : StR w S xv l)
  (h63 : pre.length + l.length ≤ 2000000) (hb : bytes ≤ 1000000) (hbase : base ≤ w.heap.size)
  (h : ∀ v' w', w'.ownsRow base 95 2 v' (pre ++ l).length (stV (pre ++ l)) → w.grownBy w' v.ownBlock → K (a.put (some d) v') w') : wpOp Try.prog ops Q j K a w :=
 op_of hi (wanted_none hgd _) (wp_app_st s x t ho base i z bytes ht hif hz hsize hby hzs v pre hs hown xv l hx hr h63 hb hbase (by rw [hd]; exact h))
end Go.Proofs.Ytolpakpdkheanaa.tly
