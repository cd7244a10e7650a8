/- WaysProducts: a part that takes one byte, ahead of others (pure). WaysProducts: the ways of one byte ahead of others (pure). WaysProducts: the tables of one byte ahead of others; their ways (pure). WaysProducts: the ways don't hang on the numbers of groups (pure). -/
import Derived.Test.YtolpakpdkheanaaKTj
set_option maxRecDepth 100000
set_option maxHeartbeats 4000000
namespace Go.Proofs.Ytolpakpdkheanaa.tly
open Go.RowKit Go.Proofs.Ytolpakpdkheanaa.br
abbrev u1 (l : Stp) : Stp := upS l 1
theorem upS_up (l : Stp) (a b : Nat) : upS (upS l a) b = upS l (a + b) := by simp [upS, Nat.add_assoc]
theorem u1_up (l : Stp) (b : Nat) : upS l (b + 1) = u1 (upS l b) := (upS_up l b 1).symm
theorem times_u1 (l : Stp) (w : Nat) : timesS (u1 l) w = u1 (timesS l w) := by simp [timesS, upS]
theorem sum_u1 : ∀ (a b : Stp), sumS (u1 a) (u1 b) = u1 (sumS a b)
 | [], b => by rw [show u1 [] = [] from rfl, sum_nil, sum_nil]
 | x :: a, [] => by rw [show u1 [] = [] from rfl, sum_nil2, sum_nil2]
 | x :: a, y :: b => by
  have e1 : Nat.blt (x.1 + 1) (y.1 + 1) = Nat.blt x.1 y.1 := by rw [Bool.eq_iff_iff, Nat.blt_eq, Nat.blt_eq]; omega
  have e2 : Nat.blt (y.1 + 1) (x.1 + 1) = Nat.blt y.1 x.1 := by rw [Bool.eq_iff_iff, Nat.blt_eq, Nat.blt_eq]; omega
  have i1 := sum_u1 a (y :: b)
  have i2 := sum_u1 (x :: a) b
  have i3 := sum_u1 a b
  rw [show u1 (x :: a) = (x.1 + 1, x.2) :: u1 a from rfl, show u1 (y :: b) = (y.1 + 1, y.2) :: u1 b from rfl, sum_step, sum_step, e1, e2]
  cases Nat.blt x.1 y.1
  · cases Nat.blt y.1 x.1
    · rw [cond_false, cond_false, cond_false, cond_false, i3]; rfl
    · rw [cond_false, cond_false, cond_true, cond_true]
      show (y.1 + 1, y.2) :: sumS (u1 (x :: a)) (u1 b) = _
      rw [i2]; rfl
  · rw [cond_true, cond_true]
    show (x.1 + 1, x.2) :: sumS (u1 a) (u1 (y :: b)) = _
    rw [i1]; rfl
termination_by a b => a.length + b.length
def shE (e : Ed) : Ed := ⟨e.no, u1 e.fi, u1 e.la⟩
def shL (l : Lk) : Lk := (l.1, l.2.1 + 1, l.2.2.1, u1 l.2.2.2)
theorem upE_sh (l : Lk) : upE (shL l) = (upE l).map shE := by
 simp only [upE, shL, List.map_map]
 refine List.map_congr_left fun e _ => ?_
 show (⟨e.no, upS e.fi (l.2.1 + 1), upS e.la (l.2.1 + 1)⟩ : Ed) = ⟨e.no, u1 (upS e.fi l.2.1), u1 (upS e.la l.2.1)⟩
 rw [u1_up, u1_up]
theorem ahead_sh (free : Bool) (a b : Ed) : aheadE free (shE a) (shE b) = shE (aheadE free a b) := by
 obtain ⟨n, f, l⟩ := a
 obtain ⟨m, g, k⟩ := b
 cases free <;> cases n <;> cases m <;> simp [aheadE, shE, sum_u1] <;> rfl
theorem zip_sh (free : Bool) : ∀ (a b : List Ed), List.zipWith (aheadE free) (a.map shE) (b.map shE) = (List.zipWith (aheadE free) a b).map shE
 | [], _ => by simp
 | _ :: _, [] => by simp
 | x :: a, y :: b => by simp only [List.map_cons, List.zipWith_cons_cons, zip_sh free a b, ahead_sh]
theorem eat_sh (l : List Ed) (k : Nat) : eat (l.map shE) k = shE (eat l k) := by
 unfold eat
 rw [List.getD_eq_getElem?_getD, List.getD_eq_getElem?_getD, List.getElem?_map]
 cases l[k]? <;> rfl
theorem join_sh (e0 : List Ed) : ∀ ls : List Lk, joinF (e0.map shE) (ls.map shL) = ((joinF e0 ls).1.map shL, (joinF e0 ls).2.map shE)
 | [] => rfl
 | l :: ls => by
  rw [List.map_cons, joinF, joinF, join_sh e0 ls]
  dsimp only
  rw [upE_sh, show (shL l).2.2.1 = l.2.2.1 from rfl, zip_sh, eat_sh]
  rfl
def shT1 (x : Nat → Bool) (y : Stp) (a : TN) : TN := (x :: a.1, y :: a.2.map u1)
theorem map_modify {α β : Type} (f : α → β) (g : α → α) (h : β → β) (hc : ∀ a, h (f a) = f (g a)) : ∀ (l : List α) (i : Nat), (l.map f).modify i h = (l.modify i g).map f
 | [], i => by simp
 | a :: l, 0 => by simp [hc]
 | a :: l, i + 1 => by simp [map_modify f g h hc l i]
theorem tieB_sh (base b : Nat) (bh : Stp) (y : Stp) : ∀ (la : Stp) (nx : List Stp), tieB (base + 1) b bh la (y :: nx.map u1) = y :: (tieB base b bh la nx).map u1
 | [], nx => rfl
 | s :: la, nx => by
  have e : (y :: nx.map u1).modify (base + 1 + b + s.1) (fun o => sumS o (timesS (upS bh (base + 1)) s.2)) = y :: (nx.modify (base + b + s.1) (fun o => sumS o (timesS (upS bh base) s.2))).map u1 := by
   rw [show base + 1 + b + s.1 = base + b + s.1 + 1 by omega, List.modify_succ_cons]
   rw [map_modify u1 (fun o => sumS o (timesS (upS bh base) s.2)) (fun o => sumS o (timesS (upS bh (base + 1)) s.2)) (fun a => by rw [u1_up, times_u1, sum_u1])]
  show tieB (base + 1) b bh la ((y :: nx.map u1).modify (base + 1 + b + s.1) (fun o => sumS o (timesS (upS bh (base + 1)) s.2))) = _
  rw [e, tieB_sh base b bh y la]
  rfl
theorem tieH_sh (p : Tp) (base : Nat) (x : Nat → Bool) (y : Stp) (a : TN) : tieH p (base + 1) (shT1 x y a) = shT1 x y (tieH p base a) := by
 unfold tieH shT1
 cases Nat.beq p.kind 1 <;> cases Nat.beq p.kind 6 <;> simp [upS]
mutual
theorem tieF_sh : ∀ (p : Tp) (base : Nat) (x : Nat → Bool) (y : Stp) (a : TN), tieF p (base + 1) (shT1 x y a) = shT1 x y (tieF p base a)
 | .mk kind grp links ag set size eds, base, x, y, a => by
  rw [tieF, tieF, tieH_sh, tieL_sh]
theorem tieL_sh : ∀ (ls : List (Tp × Nat × Bool × Stp)) (base : Nat) (x : Nat → Bool) (y : Stp) (a : TN), tieL ls (base + 1) (shT1 x y a) = shT1 x y (tieL ls base a)
 | [], _, _, _, _ => rfl
 | (p, b, fr, bh) :: ls, base, x, y, a => by
  rw [tieL, tieL, show base + 1 + b = (base + b) + 1 by omega, tieF_sh p (base + b) x y a]
  have e : ((shT1 x y (tieF p (base + b) a)).1, tieB (base + 1) b bh (eat p.eds 0).la (shT1 x y (tieF p (base + b) a)).2) = shT1 x y ((tieF p (base + b) a).1, tieB base b bh (eat p.eds 0).la (tieF p (base + b) a).2) := by
   unfold shT1
   dsimp only
   rw [tieB_sh]
  rw [e, tieL_sh ls base x y]
end
theorem tieL_mv : ∀ (ls : List Lk) (base : Nat) (a : TN), tieL (ls.map shL) base a = tieL ls (base + 1) a
 | [], _, _ => rfl
 | (p, b, fr, bh) :: ls, base, a => by
  have e : ∀ (la : Stp) (nx : List Stp), tieB base (b + 1) (u1 bh) la nx = tieB (base + 1) b bh la nx := fun la nx => by
   unfold tieB
   rw [upS_up, show 1 + base = base + 1 by omega, show base + (b + 1) = base + 1 + b by omega]
  rw [List.map_cons, show shL (p, b, fr, bh) = (p, b + 1, fr, u1 bh) from rfl, tieL, tieL, show base + (b + 1) = base + 1 + b by omega, e, tieL_mv ls base]
end Go.Proofs.Ytolpakpdkheanaa.tly
namespace Go.Proofs.Ytolpakpdkheanaa.tly
open Go.RowKit Go.Proofs.Ytolpakpdkheanaa.br
theorem g_eds (q : Nat → Bool) (g : Nat) : (layT (xbp g [byteT q])).eds = leafE false := by rfl
theorem g_size (q : Nat → Bool) (g : Nat) : (layT (xbp g [byteT q])).size = 1 := by rfl
theorem mod_id (l : List Stp) (i : Nat) : l.modify i (fun o => sumS o []) = l := by
 have : (fun o : Stp => sumS o []) = id := funext fun o => sum_nil2 o
 rw [this, List.modify_id]
theorem g_tie (q : Nat → Bool) (g : Nat) (a : TN) : tieF (layT (xbp g [byteT q])) 0 a = (a.1.set 0 q, a.2) := by
 show (a.1.set 0 q, ((a.2.modify 0 fun o => sumS o []).modify 0 fun o => sumS o [])) = _
 rw [mod_id, mod_id]
abbrev rowK (a : Ga) (l : List Tp) : Ga := l.foldl (fun a kid => a.add kid false) a
theorem rowK_sh (x : Lk) : ∀ (l : List Tp) (a : Ga), rowK ⟨x :: a.links.map shL, a.size + 1⟩ l = ⟨x :: (rowK a l).links.map shL, (rowK a l).size + 1⟩
 | [], _ => rfl
 | p :: l, a => by
  have h := rowK_sh x l (a.add p false)
  show rowK (Ga.add ⟨x :: a.links.map shL, a.size + 1⟩ p false) l = _
  have e : Ga.add ⟨x :: a.links.map shL, a.size + 1⟩ p false = ⟨x :: (a.add p false).links.map shL, (a.add p false).size + 1⟩ := by
   simp only [Ga.add, List.map_append, List.map_cons, List.map_nil, List.cons_append]
   rw [show shL (p, a.size, false, []) = (p, a.size + 1, false, []) from rfl, show a.size + 1 + p.size = a.size + p.size + 1 by omega]
  rw [e, h]; rfl
theorem lay_cat (ts : List Tr) : layT (catT ts) = joinT 0 0 false (rowK ⟨[], 0⟩ (layL ts)) := rfl
structure Two (q : Nat → Bool) (p1 p2 : Tp) : Prop where
 size : p1.size = p2.size + 1
 eds : p1.eds = List.zipWith (aheadE false) (leafE false) (p2.eds.map shE)
 tie : ∀ a b : TN, a = shT1 xad [] b → (∀ s ∈ (eat p2.eds 0).fi, s.2 ≤ 4097) → tieF p1 0 a = shT1 q (u1 (eat p2.eds 0).fi) (tieF p2 0 b)
theorem capN_id {x : Nat} (h : x ≤ 4097) : capN x = x := by
 unfold capN
 rw [show Nat.ble x 4097 = true from Nat.ble_eq_true_of_le h]; rfl
theorem times_one {l : Stp} (h : ∀ s ∈ l, s.2 ≤ 4097) : timesS l 1 = l := by
 unfold timesS
 conv => rhs; rw [← List.map_id l]
 refine List.map_congr_left fun s hs => ?_
 rw [Nat.mul_one, capN_id (h s hs)]; rfl
theorem two_of (q : Nat → Bool) (g : Nat) (ts : List Tr) : Two q (layT (catT (xbp g [byteT q] :: ts))) (layT (catT ts)) := by
 have hj := join_sh noE (rowK ⟨[], 0⟩ (layL ts)).links
 have hk := rowK_sh (layT (xbp g [byteT q]), 0, false, []) (layL ts) ⟨[], 0⟩
 have e1 : layT (catT (xbp g [byteT q] :: ts)) = joinT 0 0 false ⟨(layT (xbp g [byteT q]), 0, false, []) :: (rowK ⟨[], 0⟩ (layL ts)).links.map shL, (rowK ⟨[], 0⟩ (layL ts)).size + 1⟩ := by
  rw [← hk]; rfl
 rw [e1, lay_cat]
 generalize rowK ⟨[], 0⟩ (layL ts) = A at *
 clear hk e1
 have hj2 : joinF noE (A.links.map shL) = ((joinF noE A.links).1.map shL, (joinF noE A.links).2.map shE) := hj
 have e2 : joinF noE ((layT (xbp g [byteT q]), 0, false, []) :: A.links.map shL) = ((layT (xbp g [byteT q]), 0, false, u1 (eat (joinF noE A.links).2 0).fi) :: (joinF noE A.links).1.map shL, List.zipWith (aheadE false) (leafE false) ((joinF noE A.links).2.map shE)) := by
  rw [joinF, hj2]
  dsimp only
  rw [eat_sh]
  rfl
 refine ⟨rfl, ?_, fun a b hab hst => ?_⟩
 · show (joinF noE ((layT (xbp g [byteT q]), 0, false, []) :: A.links.map shL)).2 = _
   rw [e2]; rfl
 · show tieL (joinF noE ((layT (xbp g [byteT q]), 0, false, []) :: A.links.map shL)).1 0 a = shT1 q (u1 (eat (joinF noE A.links).2 0).fi) (tieL (joinF noE A.links).1 0 b)
   have hst' : ∀ s ∈ (eat (joinF noE A.links).2 0).fi, s.2 ≤ 4097 := hst
   rw [e2]
   dsimp only
   rw [tieL, g_tie, tieL_mv, hab, g_eds]
   have e3 : tieB 0 0 (u1 (eat (joinF noE A.links).2 0).fi) (eat (leafE false) 0).la (shT1 xad [] b).2 = u1 (eat (joinF noE A.links).2 0).fi :: b.2.map u1 := by
    show ((shT1 xad [] b).2.modify 0 fun o => sumS o (timesS (upS (u1 (eat (joinF noE A.links).2 0).fi) 0) 1)) = _
    have e4 : upS (u1 (eat (joinF noE A.links).2 0).fi) 0 = u1 (eat (joinF noE A.links).2 0).fi := by rw [upS_up]
    rw [e4, times_u1, times_one hst']
    show (([] : Stp) :: b.2.map u1).modify 0 _ = _
    simp [sum_nil]
   dsimp only
   rw [e3]
   exact tieL_sh _ 0 q _ b
end Go.Proofs.Ytolpakpdkheanaa.tly
namespace Go.Proofs.Ytolpakpdkheanaa.tly
open Go.RowKit Go.Proofs.Ytolpakpdkheanaa.br
theorem sum_one (l : Stp) : sumS [(0, 1)] (u1 l) = (0, 1) :: u1 l := by
 cases l with
 | nil => rfl
 | cons x l =>
  rw [show u1 (x :: l) = (x.1 + 1, x.2) :: u1 l from rfl, sum_step]
  rw [show Nat.blt 0 (x.1 + 1) = true from Nat.ble_eq_true_of_le (by omega), cond_true, sum_nil]
theorem lead_ed (e : Ed) : aheadE false ⟨false, [(0, 1)], [(0, 1)]⟩ (shE e) = ⟨false, [(0, 1)], bif e.no then (0, 1) :: u1 e.la else u1 e.la⟩ := by
 obtain ⟨n, f, l⟩ := e
 cases n with
 | false => simp [aheadE, shE, sum_nil]
 | true => simp [aheadE, shE, sum_one]
theorem Two.ed {q : Nat → Bool} {p1 p2 : Tp} (h : Two q p1 p2) (hl : p2.eds.length = 4) {k : Nat} (hk : k < 4) : eat p1.eds k = ⟨false, [(0, 1)], bif (eat p2.eds k).no then (0, 1) :: u1 (eat p2.eds k).la else u1 (eat p2.eds k).la⟩ := by
 rw [h.eds, ← lead_ed]
 have h1 : (leafE false)[k]? = some ⟨false, [(0, 1)], [(0, 1)]⟩ := by
  rw [leafE, List.getElem?_replicate, if_pos hk]
 have h2 : (p2.eds.map shE)[k]? = some (shE (eat p2.eds k)) := by
  rw [List.getElem?_map, eat, List.getD_eq_getElem?_getD, List.getElem?_eq_getElem (by omega)]; rfl
 unfold eat at h2 ⊢
 rw [List.getD_eq_getElem?_getD, List.getElem?_zipWith, h1, h2]; rfl
theorem foldl_u1 (n : Nat) : ∀ (l : Stp) (x : Nat) (r : List Nat), (u1 l).foldl (fun r s => r.set s.1 s.2) (x :: r) = x :: l.foldl (fun r s => r.set s.1 s.2) r
 | [], _, _ => rfl
 | s :: l, x, r => by
  show (u1 l).foldl _ ((x :: r).set (s.1 + 1) s.2) = _
  rw [List.set_cons_succ, foldl_u1 n l x (r.set s.1 s.2)]; rfl
theorem last_two (b : Bool) (n : Nat) (l : Stp) : lastR (n + 1) (bif b then (0, 1) :: u1 l else u1 l) = (bif b then 1 else 0) :: lastR n l := by
 unfold lastR
 cases b with
 | false => rw [cond_false, cond_false, List.replicate_succ, foldl_u1 n]
 | true =>
  rw [cond_true, cond_true, List.replicate_succ]
  show (u1 l).foldl _ ((0 :: List.replicate n 0).set 0 1) = _
  rw [List.set_cons_zero, foldl_u1 n]
structure TTwo (q : Nat → Bool) (T1 T2 : Tb) (f0 : Stp) (no : Nat → Bool) : Prop where
 tk : T1.takes = q :: T2.takes
 nx : T1.next = u1 f0 :: T2.next.map u1
 la : ∀ k, k < 4 → T1.last.getD k [] = (bif no k then 1 else 0) :: T2.last.getD k []
theorem Two.tab {q : Nat → Bool} {p1 p2 : Tp} (h : Two q p1 p2) (hl : p2.eds.length = 4) (hf : ∀ s ∈ (eat p2.eds 0).fi, s.2 ≤ 4097) : TTwo q (tabT p1) (tabT p2) (eat p2.eds 0).fi (fun k => (eat p2.eds k).no) := by
 have ht := h.tie (List.replicate p1.size xad, List.replicate p1.size []) (List.replicate p2.size xad, List.replicate p2.size []) (by rw [h.size, List.replicate_succ, List.replicate_succ]; simp [shT1, upS]) hf
 refine ⟨?_, ?_, fun k hk => ?_⟩
 · show (tieF p1 0 _).1 = _
   rw [ht]; rfl
 · show (tieF p1 0 _).2 = _
   rw [ht]; rfl
 · rw [tab_last p1 hk, tab_last p2 hk, h.ed hl hk, h.size]
   exact last_two _ _ _
variable {q : Nat → Bool} {T1 T2 : Tb} {f0 : Stp} {no : Nat → Bool}
theorem TTwo.last (h : TTwo q T1 T2 f0 no) (n pl j : Nat) : lastAt T1 n pl (j + 1) = lastAt T2 n pl j := by
 unfold lastAt
 rw [h.la _ (kind_lt n pl), List.getD_cons_succ]
theorem TTwo.last0 (h : TTwo q T1 T2 f0 no) (n pl : Nat) : lastAt T1 n pl 0 = bif no (kindAt n pl) then 1 else 0 := by
 unfold lastAt
 rw [h.la _ (kind_lt n pl), List.getD_cons_zero]
theorem leads_two (b : Bool) (row : List Bool) : ∀ l : Stp, leadsF (b :: row) (u1 l) 0 = leadsF row l 0
 | [] => rfl
 | s :: l => by
  have := leads_two b row l
  show ((b :: row).getD (0 + (s.1 + 1)) false || leadsF (b :: row) (u1 l) 0) = (row.getD (0 + s.1) false || leadsF row l 0)
  rw [this, show 0 + (s.1 + 1) = (0 + s.1) + 1 by omega, List.getD_cons_succ]
theorem TTwo.row (h : TTwo q T1 T2 f0 no) (s : List Nat) (pl : Nat) (nx1 nx2 : List Bool) (hn : (∃ b, nx1 = b :: nx2) ∨ pl = s.length) : rowF T1 s pl nx1 = (q (s.getD (pl - 1) 0) && (Nat.blt 0 (bif no (kindAt s.length pl) then 1 else 0) || (bif Nat.beq pl s.length then false else leadsF nx1 (u1 f0) 0))) :: rowF T2 s pl nx2 := by
 unfold rowF
 rw [h.tk, List.length_cons, List.range_succ_eq_map, List.map_cons, List.map_map]
 refine congr (congrArg _ ?_) ?_
 · rw [List.getD_cons_zero, h.last0, h.nx, List.getD_cons_zero]
 · refine List.map_congr_left fun j _ => ?_
   show ((q :: T2.takes).getD (j + 1) xad (s.getD (pl - 1) 0) && (Nat.blt 0 (lastAt T1 s.length pl (j + 1)) || _)) = _
   rw [List.getD_cons_succ, h.last]
   refine congrArg _ (congrArg _ ?_)
   rcases hn with ⟨b, rfl⟩ | rfl
   · have e : T1.next.getD (j + 1) [] = u1 (T2.next.getD j []) := by
      rw [h.nx, List.getD_cons_succ, List.getD_eq_getElem?_getD, List.getD_eq_getElem?_getD, List.getElem?_map]
      cases T2.next[j]? <;> rfl
     rw [show (Nat.succ j) = j + 1 from rfl, e, leads_two]
   · rw [Nat.beq_refl]; rfl
theorem TTwo.live (h : TTwo q T1 T2 f0 no) (s : List Nat) : ∀ r, ∃ b, liveF T1 s r = b :: liveF T2 s r
 | 0 => ⟨_, h.row s s.length [] [] (.inr rfl)⟩
 | r + 1 => ⟨_, h.row s _ _ _ (.inl (h.live s r))⟩
theorem more_two {l1 l2 : Nat → Bool} {b1 b2 : Nat → Nat} (hl : ∀ j, l1 (j + 1) = l2 j) (hb : ∀ j, b1 (j + 1) = b2 j) : ∀ (l : Stp) (w : Nat), moreF l1 b1 (u1 l) w = moreF l2 b2 l w
 | [], _ => rfl
 | x :: l, w => by
  show (bif Nat.blt 4096 w then w else moreF l1 b1 (u1 l) (bif l1 (x.1 + 1) then capN (w + x.2 * b1 (x.1 + 1)) else w)) = _
  rw [hl, hb, more_two hl hb l]; rfl
theorem TTwo.nextAt (h : TTwo q T1 T2 f0 no) (j : Nat) : T1.next.getD (j + 1) [] = u1 (T2.next.getD j []) := by
 rw [h.nx, List.getD_cons_succ, List.getD_eq_getElem?_getD, List.getD_eq_getElem?_getD, List.getElem?_map]
 cases T2.next[j]? <;> rfl
theorem TTwo.liveAt (h : TTwo q T1 T2 f0 no) (s : List Nat) (r j : Nat) : (liveF T1 s r).getD (j + 1) false = (liveF T2 s r).getD j false := by
 obtain ⟨b, e⟩ := h.live s r
 rw [e, List.getD_cons_succ]
theorem TTwo.beh (h : TTwo q T1 T2 f0 no) (s : List Nat) : ∀ r j, behF T1 s r (j + 1) = behF T2 s r j
 | 0, j => by rw [behF, behF, h.last]
 | r + 1, j => by
  rw [behF, behF, h.last, h.nextAt]
  exact more_two (h.liveAt s r) (h.beh s r) _ _
theorem TTwo.beh0 (h : TTwo q T1 T2 f0 no) (s : List Nat) (r : Nat) : behF T1 s r 0 = moreR T2 s r f0 (bif no (kindAt s.length (s.length - r)) then 1 else 0) := by
 cases r with
 | zero => rw [behF, h.last0, moreR, Nat.sub_zero]
 | succ r =>
  rw [behF, h.last0, h.nx, List.getD_cons_zero, moreR]
  exact more_two (h.liveAt s r) (h.beh s r) _ _
theorem more_dead {live : Nat → Bool} {beh : Nat → Nat} : ∀ (l : Stp), (∀ s ∈ l, live s.1 = false) → moreF live beh l 0 = 0
 | [], _ => rfl
 | x :: l, h => by
  rw [moreF, h x List.mem_cons_self]
  exact more_dead l fun s hs => h s (List.mem_cons_of_mem _ hs)
theorem more_dead_w {live : Nat → Bool} {beh : Nat → Nat} : ∀ (l : Stp) (w : Nat), (∀ s ∈ l, live s.1 = false) → moreF live beh l w = w
 | [], _, _ => rfl
 | x :: l, w, h => by
  rw [moreF, h x List.mem_cons_self, cond_false, more_dead_w l w fun s hs => h s (List.mem_cons_of_mem _ hs)]
  cases Nat.blt 4096 w <;> rfl
theorem leads_not {row : List Bool} {l : Stp} (h : leadsF row l 0 = false) : ∀ s ∈ l, row.getD s.1 false = false := fun s hs => by
 unfold leadsF at h
 rw [List.any_eq_false] at h
 have := h s hs
 rw [Nat.zero_add] at this
 simpa using this
theorem ways_two {p1 p2 : Tp} (h2 : Two q p1 p2) (hok : OkP p2) (hq : ∀ b, b < 256 → q b = true) {s : List Nat} (hs : ∀ b ∈ s, b < 256) {i : Nat} (hi : i < s.length) : waysF p1 (tabT p1) s i = waysF p2 (tabT p2) s (i + 1) := by
 have hl := hok.ed.len
 have hT := h2.tab hl (fun x hx => ((hok.ed.at 0).1.lt x hx).2)
 obtain ⟨r, hr⟩ : ∃ r, i + 1 + r = s.length := ⟨s.length - (i + 1), by omega⟩
 have hb1 : Nat.beq i s.length = false := by cases e' : Nat.beq i s.length with | false => rfl | true => exact absurd (Nat.eq_of_beq_eq_true e') (by omega)
 have hle : ∀ r, moreR (tabT p2) s r (eat p2.eds 0).fi (bif (eat p2.eds (kindAt s.length (s.length - r))).no then 1 else 0) ≤ 4097 := fun r => by
  have hw : (bif (eat p2.eds (kindAt s.length (s.length - r))).no then 1 else 0) ≤ 4097 := by cases (eat p2.eds (kindAt s.length (s.length - r))).no <;> decide
  cases r with
  | zero => exact hw
  | succ r => exact more_le _ _ _ _ hw
 have hqb : q (s.getD i 0) = true := by
  refine hq _ ?_
  rw [List.getD_eq_getElem?_getD, List.getElem?_eq_getElem hi]
  exact hs _ (List.getElem_mem hi)
 unfold waysF
 rw [h2.ed hl (kind_lt _ _)]
 dsimp only
 rw [hb1, cond_false, cond_false, show s.length - i - 1 = r by omega]
 rw [moreF, moreF, show Nat.blt 4096 0 = false from rfl, cond_false, hT.beh0, Nat.one_mul, Nat.zero_add]
 have hpl : s.length - r = i + 1 := by omega
 have hlr := hle r
 rw [hpl] at hlr ⊢
 rw [capN_id hlr]
 have hlive : (liveF (tabT p1) s r).getD 0 false = (Nat.blt 0 (bif (eat p2.eds (kindAt s.length (i + 1))).no then 1 else 0) || (bif Nat.beq (i + 1) s.length then false else leadsF (bif Nat.beq r 0 then [] else liveF (tabT p2) s (r - 1)) (eat p2.eds 0).fi 0)) := by
  cases r with
  | zero =>
   rw [liveF, hT.row s s.length [] [] (.inr rfl), List.getD_cons_zero, show s.length = i + 1 by omega, Nat.add_sub_cancel, hqb, Bool.true_and, Nat.beq_refl]
   rfl
  | succ r =>
   obtain ⟨b, e⟩ := hT.live s r
   rw [liveF, hT.row s _ _ _ (.inl ⟨b, e⟩), List.getD_cons_zero, hpl, Nat.add_sub_cancel, hqb, Bool.true_and, e, leads_two]
   rfl
 rw [hlive]
 cases r with
 | zero =>
  have e1 : i + 1 = s.length := by omega
  rw [e1, Nat.beq_refl, cond_true, cond_true, moreR]
  cases (eat p2.eds (kindAt s.length s.length)).no <;> rfl
 | succ r =>
  have hb2 : Nat.beq (i + 1) s.length = false := by cases e' : Nat.beq (i + 1) s.length with | false => rfl | true => exact absurd (Nat.eq_of_beq_eq_true e') (by omega)
  have hk : kindAt s.length (i + 1) = 0 := by
   unfold kindAt
   rw [hb2]; rfl
  rw [hb2, cond_false, cond_false, show s.length - (i + 1) - 1 = r by omega, hk, moreR]
  rw [show Nat.beq (r + 1) 0 = false from rfl, cond_false, Nat.add_sub_cancel]
  cases hno : (eat p2.eds 0).no with
  | true => rfl
  | false =>
   rw [cond_false, show Nat.blt 0 0 = false from rfl, Bool.false_or]
   cases hld : leadsF (liveF (tabT p2) s r) (eat p2.eds 0).fi 0 with
   | true => rfl
   | false =>
    rw [cond_false]
    exact (more_dead _ (leads_not hld)).symm
theorem ways_end {p1 p2 : Tp} (h2 : Two q p1 p2) (hl : p2.eds.length = 4) (s : List Nat) : waysF p1 (tabT p1) s s.length = 0 := by
 unfold waysF
 rw [h2.ed hl (kind_lt _ _)]
 dsimp only
 rw [Nat.beq_refl, cond_true]; rfl
end Go.Proofs.Ytolpakpdkheanaa.tly
namespace Go.Proofs.Ytolpakpdkheanaa.tly
open Go.RowKit Go.Proofs.Ytolpakpdkheanaa.br
mutual
def erT : Tr → Tr
 | .mk k q lo hi _ kids => .mk k q lo hi 0 (erL kids)
def erL : List Tr → List Tr
 | [] => []
 | t :: ts => erT t :: erL ts
end
mutual
def erP : Tp → Tp
 | .mk k _ links ag set size eds => .mk k 0 (erK links) ag set size eds
def erK : List (Tp × Nat × Bool × Stp) → List (Tp × Nat × Bool × Stp)
 | [] => []
 | (p, b, f, bh) :: ls => (erP p, b, f, bh) :: erK ls
end
theorem er_eds (p : Tp) : (erP p).eds = p.eds := by cases p; rfl
theorem er_size (p : Tp) : (erP p).size = p.size := by cases p; rfl
theorem er_kind (p : Tp) : (erP p).kind = p.kind := by cases p; rfl
theorem er_set (p : Tp) : (erP p).set = p.set := by cases p; rfl
def erl (l : Lk) : Lk := (erP l.1, l.2.1, l.2.2.1, l.2.2.2)
theorem erK_map : ∀ ls : List Lk, erK ls = ls.map erl
 | [] => rfl
 | (p, b, f, bh) :: ls => by rw [erK, erK_map ls]; rfl
theorem up_er (l : Lk) : upE (erl l) = upE l := by
 unfold upE
 rw [show (erl l).1.eds = l.1.eds from er_eds l.1]; rfl
theorem join_er (e0 : List Ed) : ∀ ls : List Lk, joinF e0 (ls.map erl) = ((joinF e0 ls).1.map erl, (joinF e0 ls).2)
 | [] => rfl
 | l :: ls => by
  rw [List.map_cons, joinF, joinF, join_er e0 ls]
  dsimp only
  rw [up_er]
  rfl
theorem end_er (ag : Bool) (ls : List Lk) : endE ag (ls.map erl) = endE ag ls := by
 unfold endE
 cases ag with
 | false => rfl
 | true =>
  rw [cond_true, cond_true, List.getLast?_map]
  cases ls.getLast? with
  | none => rfl
  | some l => show (upE (erl l)).map _ = _; rw [up_er]
def erG (a : Ga) : Ga := ⟨a.links.map erl, a.size⟩
theorem joinT_er (k g : Nat) (ag : Bool) (a : Ga) : joinT k 0 ag (erG a) = erP (joinT k g ag a) := by
 unfold joinT erP
 rw [erK_map]
 show Tp.mk k 0 (joinF (endE ag (a.links.map erl)) (a.links.map erl)).1 ag xad a.size (joinF (endE ag (a.links.map erl)) (a.links.map erl)).2 = _
 rw [end_er, join_er]
theorem add_er (a : Ga) (p : Tp) (f : Bool) : (erG a).add (erP p) f = erG (a.add p f) := by
 unfold erG Ga.add
 rw [er_size]
 simp [erl]
theorem addN_er (p : Tp) (lo : Int) : ∀ (n c : Nat) (a : Ga), addN (erP p) lo n c (erG a) = erG (addN p lo n c a)
 | 0, _, _ => rfl
 | n + 1, c, a => by rw [addN, addN, add_er, addN_er p lo n]
theorem rowK_er : ∀ (l : List Tp) (a : Ga), rowK (erG a) (l.map erP) = erG (rowK a l)
 | [], _ => rfl
 | p :: l, a => by
  show rowK ((erG a).add (erP p) false) (l.map erP) = _
  rw [add_er, rowK_er l]; rfl
theorem ga0_er : (⟨[], 0⟩ : Ga) = erG ⟨[], 0⟩ := rfl
mutual
theorem lay_er : ∀ t : Tr, layT (erT t) = erP (layT t)
 | .mk kind q lo hi grp kids => by
  have ih := layL_er kids
  unfold erT
  match kind with
  | 1 => rw [layT, layT]; simp only [erP, erK]
  | 6 => rw [layT, layT]; simp only [erP, erK]
  | 2 => rw [layT, layT]; simp only [erP, erK]
  | 3 => rw [layT, layT]; simp only [erP, erK]
  | 5 =>
   rw [layT, layT, ih]
   cases layL kids with
   | nil => exact joinT_er 5 grp false ⟨[], 0⟩
   | cons p ps =>
    rw [List.map_cons]
    dsimp only
    rw [er_size]
    cases decide (hi = 0) with
    | true => exact joinT_er 5 grp false ⟨[], 0⟩
    | false =>
     rw [cond_false, cond_false]
     cases Nat.beq p.size 0 with
     | true =>
      rw [cond_true, cond_true]
      cases decide (lo > 0) with
      | true => rw [cond_true, cond_true, ← joinT_er 5 grp, ← add_er]; rfl
      | false => exact joinT_er 5 grp false ⟨[], 0⟩
     | false => rw [cond_false, cond_false, ← joinT_er 5 grp, ← addN_er]; rfl
  | 0 => rw [layT, layT, ih, ← joinT_er 0 grp, ← rowK_er] <;> first | rfl | omega
  | 4 => rw [layT, layT, ih, ← joinT_er 4 grp, ← rowK_er] <;> first | rfl | omega
  | k + 7 => rw [layT, layT, ih, ← joinT_er (k + 7) grp, ← rowK_er] <;> first | rfl | omega
theorem layL_er : ∀ ts : List Tr, layL (erL ts) = (layL ts).map erP
 | [] => rfl
 | t :: ts => by
  rw [erL, layL, layL, lay_er t, layL_er ts, List.map_cons]
end
mutual
theorem tie_er : ∀ (p : Tp) (base : Nat) (a : TN), tieF (erP p) base a = tieF p base a
 | .mk kind grp links ag set size eds, base, a => by
  rw [erP, tieF, tieF, tieL_er links]; rfl
theorem tieL_er : ∀ (ls : List (Tp × Nat × Bool × Stp)) (base : Nat) (a : TN), tieL (erK ls) base a = tieL ls base a
 | [], _, _ => rfl
 | (p, b, f, bh) :: ls, base, a => by
  rw [erK, tieL, tieL, tie_er p, er_eds, tieL_er ls]
end
theorem tab_er (p : Tp) : tabT (erP p) = tabT p := by
 unfold tabT
 rw [er_size, tie_er, er_eds]
theorem ways_er (p : Tp) (T : Tb) (s : List Nat) (i : Nat) : waysF (erP p) T s i = waysF p T s i := by
 unfold waysF
 rw [er_eds]
theorem count_er (t : Tr) (s : List Nat) (i : Nat) : countT (erT t) s i = countT t s i := by
 unfold countT
 rw [lay_er, tab_er, ways_er]
theorem count_eq {t t' : Tr} (h : erT t = erT t') (s : List Nat) (i : Nat) : countT t s i = countT t' s i := by
 rw [← count_er t, h, count_er]
end Go.Proofs.Ytolpakpdkheanaa.tly
