/- KTa -/
import Derived.Test.YtbekghinikjjeaaGreatDoorKA3
import Derived.Test.YtbekghinikjjeaaGreatDoorKUk
import Derived.Maps.AppendAt
import Derived.Deep.AppendLies
set_option maxRecDepth 100000
set_option maxHeartbeats 4000000
namespace Go.Proofs.YtbekghinikjjeaaGreatDoor.smt
open Go.RowKit Go.Proofs.YtbekghinikjjeaaGreatDoor.br
theorem wp_app {w : World} {o : Oper} {a : Act} {K : Act → World → Prop} {Q : Exit → Act → World → Prop} (s x : Operand) (t : TypeId) (ho : o.op = .call { callee := .builtin .append, args := #[s, x], argTypes := #[t, t] })
  (base : Nat) (e : TypeId) (i : TypeInfo) (z : Value) (size bytes : Nat) (ht : Tryz.prog.underlying t = some (.slice e)) (hi : Tryz.prog.info? e = some i) (hz : i.zero = some z) (hsize : i.size = size) (hby : i.bytes = bytes) (hzs : z.cells.size = size) (hsz : 0 < size)
  (v : Value) (n : Nat) (xs : List Value) (hs : a.eval s = v) (hown : w.ownsRow base e size v n xs) (xv : Value) (m : Nat) (ys : List Value) (hx : a.eval x = xv) (hxo : w.ownsRow 0 e size xv m ys) (h1 : ∀ u ∈ ys, u.oneCell' = true)
  (h63 : n + m ≤ 2000000) (hb : bytes ≤ 1000000) (hbase : base ≤ w.heap.size)
  (h : ∀ v' w', w'.ownsRow base e size v' (n + m) (xs ++ ys) → w.grownBy w' v.ownBlock → (v'.ownBlock = v.ownBlock ∨ v'.ownBlock = some w.heap.size) → K (a.put o.dst v') w') : o.wp Tryz.prog a w K Q := by
 have hbytes : (n + m) * bytes ≤ 140737488355328 := Nat.le_trans (Nat.mul_le_mul h63 hb) (by decide)
 have key : ∃ v' w', (Builtin.append_ #[t, t] o.type #[v, xv]).run Tryz.prog w = .ok v' w' ∧ w'.ownsRow base e size v' (n + m) (xs ++ ys) ∧ w.grownBy w' v.ownBlock ∧ (v'.ownBlock = v.ownBlock ∨ v'.ownBlock = some w.heap.size) := by
  rcases hxo.2 with ⟨rfl, rfl⟩ | ⟨g, cap, cur, rfl, _, _, _⟩
  · have hy : ys = [] := List.eq_nil_of_length_eq_zero (by rw [hxo.1, Nat.zero_mul])
    subst hy
    exact ⟨v, w, run_append_owned_none w base t o.type e i size ht hi v n xs hown, by rw [List.append_nil]; exact hown, ⟨rfl, rfl, rfl, Nat.le_refl _, fun _ _ _ => rfl⟩, .inl rfl⟩
  · obtain ⟨v', w', hr, h2, h3, _, h5⟩ := run_append_own_at (P := Tryz.prog) w base t o.type e i z size bytes ht hi hz hsize hby hzs hsz v n xs hown ⟨g, 0, none⟩ m cap ys hxo.1 (hxo.cells (g := g) rfl) h1 (by unfold maxLen; omega) hbytes hbase
    exact ⟨v', w', hr, h2, h3, h5⟩
 obtain ⟨v', w', hr, h2, h3, h5⟩ := key
 unfold Oper.wp execOp
 simp only [ho, resolve, invoke, builtin, Sem.run_bind, Sem.run_pure, Result.andThen_ok, List.map_toArray, List.map_cons, List.map_nil, hs, hx, hr]
 exact h v' w' h2 h3 h5
theorem own_ne {W : World} {B1 B2 s1 s2 n1 n2 : Nat} {e1 e2 : TypeId} {v1 v2 : Value} {x1 x2 : List Value} (h1 : W.ownsRow B1 e1 s1 v1 n1 x1) (h2 : W.ownsRow B2 e2 s2 v2 n2 x2) (he : e1 ≠ e2) {g : Nat} (hg : v1.ownBlock = some g) : v2.ownBlock ≠ some g := fun h => by
 obtain ⟨_, _, c1, k1⟩ := owns_blk h1 hg
 obtain ⟨_, _, c2, k2⟩ := owns_blk h2 h
 rw [k1] at k2; cases k2; exact he rfl
theorem own_nb {W : World} {B1 s1 n1 b : Nat} {e1 t : TypeId} {v1 : Value} {x1 : List Value} {cs : Array Value} {fr : Nat × Nat} (h1 : W.ownsRow B1 e1 s1 v1 n1 x1) (hb : W.heap[b]? = some (.cells cs t fr)) (he : e1 ≠ t) : v1.ownBlock ≠ some b := fun h => by
 obtain ⟨_, _, c1, k1⟩ := owns_blk h1 h
 rw [k1] at hb; cases hb; exact he rfl
structure AcF (B : Nat) (S : Nat → Prop) (W W' : World) : Prop where
 os : W'.os = W.os
 tape : W'.tape = W.tape
 output : W'.output = W.output
 size : W.heap.size ≤ W'.heap.size
 low : ∀ k, k < B → W'.heap[k]? = W.heap[k]?
 s : ∀ k, S k → W'.heap[k]? = W.heap[k]?
theorem AcF.refl (B : Nat) (S : Nat → Prop) (W : World) : AcF B S W W := ⟨rfl, rfl, rfl, Nat.le_refl _, fun _ _ => rfl, fun _ _ => rfl⟩
theorem AcF.trans {B : Nat} {S : Nat → Prop} {X Y Z : World} (h : AcF B S X Y) (k : AcF B S Y Z) : AcF B S X Z := ⟨k.os.trans h.os, k.tape.trans h.tape, k.output.trans h.output, Nat.le_trans h.size k.size, fun i hi => (k.low i hi).trans (h.low i hi), fun i hi => (k.s i hi).trans (h.s i hi)⟩
theorem AcF.below {B : Nat} {S : Nat → Prop} {X Y : World} (h : AcF B S X Y) : Below B X Y := { os := h.os, tape := h.tape, output := h.output, size := h.size, block := h.low }
theorem AcF.of {B : Nat} {S : Nat → Prop} {X Y : World} (h : Below X.heap.size X Y) (hB : B ≤ X.heap.size) (hS : ∀ k, S k → k < X.heap.size) : AcF B S X Y := ⟨h.os, h.tape, h.output, h.size, fun k hk => h.block k (by omega), fun k hk => h.block k (hS k hk)⟩
theorem AcF.unset {B b k : Nat} {S : Nat → Prop} {u : Value} {X Y : World} (h : AcF B S X (Y.setCell ⟨b, k, none⟩ u)) (hb : B ≤ b) (hS : ¬ S b) : AcF B S X Y :=
 ⟨h.os, h.tape, h.output, by simpa using h.size, fun j hj => (Below.heap_setCell Y ⟨b, k, none⟩ u j (by show j ≠ b; omega)).symm.trans (h.low j hj), fun j hj => (Below.heap_setCell Y ⟨b, k, none⟩ u j (fun e => hS (by have e : j = b := e; rw [← e]; exact hj))).symm.trans (h.s j hj)⟩
def acP (g : Nat) (ag : Bool) (a : Ac) : Pt := .mk g a.deep a.links ag false zeroB a.takes a.next
structure AcV (W : World) (B b : Nat) (S : Nat → Prop) (g : Nat) (ag : Bool) (a : Ac) (vl vt vn : Value) (cs : List Nat) : Prop where
 hb : B ≤ b
 blk : W.heap[b]? = some (.cells (ptV (acP g ag a) vl vt vn).toArray 164 (0, 0))
 hl : cs.length = a.links.length
 ol : W.ownsRow B 177 3 vl a.links.length (lkV a.links cs)
 ot : W.ownsRow B 95 4 vt a.takes.length (tkV a.takes)
 on : W.ownsRow B 157 4 vn a.next.length (nxV a.next)
 nS : ∀ k, S k → k < W.heap.size ∧ k ≠ b ∧ vl.ownBlock ≠ some k ∧ vt.ownBlock ≠ some k ∧ vn.ownBlock ≠ some k
 kids : ∀ (i : Nat) (l : Pt × Nat × Bool) (c : Nat), a.links[i]? = some l → cs[i]? = some c → PtAt W S c l.1
theorem AcV.lt {W : World} {B b : Nat} {S : Nat → Prop} {g : Nat} {ag : Bool} {a : Ac} {vl vt vn : Value} {cs : List Nat} (h : AcV W B b S g ag a vl vt vn cs) : b < W.heap.size := (Array.getElem?_eq_some_iff.1 h.blk).1
theorem AcV.keep {W W' : World} {B b : Nat} {S : Nat → Prop} {g : Nat} {ag : Bool} {a : Ac} {vl vt vn : Value} {cs : List Nat} (h : AcV W B b S g ag a vl vt vn cs) (hb : Below W.heap.size W W') : AcV W' B b S g ag a vl vt vn cs :=
 ⟨h.hb, (hb.block b h.lt).trans h.blk, h.hl, owns_keep h.ol fun k hk => hb.block k (owns_blk h.ol hk).2.1, owns_keep h.ot fun k hk => hb.block k (owns_blk h.ot hk).2.1, owns_keep h.on fun k hk => hb.block k (owns_blk h.on hk).2.1, fun k hk => ⟨Nat.lt_of_lt_of_le (h.nS k hk).1 hb.size, (h.nS k hk).2⟩, fun i l c hi hc => (h.kids i l c hi hc).keep (fun k hk => hb.block k (h.nS k hk).1) (fun _ h => h)⟩
theorem AcV.cells {W : World} {B b : Nat} {S : Nat → Prop} {g : Nat} {ag : Bool} {a : Ac} {vl vt vn : Value} {cs : List Nat} (h : AcV W B b S g ag a vl vt vn cs) : W.cell? ⟨b, 1, none⟩ = some (.bool a.deep) ∧ W.cell? ⟨b, 2, none⟩ = some vl ∧ W.cell? ⟨b, 3, none⟩ = some (.bool ag) ∧ W.cell? ⟨b, 41, none⟩ = some vt ∧ W.cell? ⟨b, 42, none⟩ = some vn ∧ (∀ k, W.frozen? ⟨b, k, none⟩ = false) := by
 have e := h.blk
 refine ⟨?_, ?_, ?_, ?_, ?_, fun k => by simp [World.frozen?, e]⟩
 · simp only [World.cell?, e]; rfl
 · simp only [World.cell?, e]; rfl
 · simp only [World.cell?, e]; rfl
 · simp only [World.cell?, e]; rfl
 · simp only [World.cell?, e]; rfl
theorem AcV.core {W W1 : World} {B b : Nat} {S : Nat → Prop} {g : Nat} {ag : Bool} {a : Ac} {vl vt vn : Value} {cs : List Nat} (h : AcV W B b S g ag a vl vt vn cs) {row : Option Nat} (hgr : W.grownBy W1 row) (hrow : row = none ∨ row = vl.ownBlock ∨ row = vt.ownBlock ∨ row = vn.ownBlock) (k : Nat) (u : Value) :
  (∀ j, j < W.heap.size → j ≠ b → row ≠ some j → (W1.setCell ⟨b, k, none⟩ u).heap[j]? = W.heap[j]?) ∧ AcF B S W (W1.setCell ⟨b, k, none⟩ u) ∧ W1.heap[b]? = W.heap[b]? ∧ (∀ (i : Nat) (l : Pt × Nat × Bool) (c : Nat), a.links[i]? = some l → cs[i]? = some c → PtAt (W1.setCell ⟨b, k, none⟩ u) S c l.1) := by
 have hb1 : row ≠ some b := by
  rcases hrow with rfl | rfl | rfl | rfl
  · exact fun h => nomatch h
  · exact own_nb h.ol h.blk (by decide)
  · exact own_nb h.ot h.blk (by decide)
  · exact own_nb h.on h.blk (by decide)
 have hfar : ∀ j, j < W.heap.size → j ≠ b → row ≠ some j → (W1.setCell ⟨b, k, none⟩ u).heap[j]? = W.heap[j]? := fun j h1 h2 h3 => (Below.heap_setCell W1 ⟨b, k, none⟩ u j h2).trans (hgr.block j h1 (fun e => h3 e.symm))
 have hlow : ∀ j, row = some j → B ≤ j := fun j hj => by
  rcases hrow with rfl | rfl | rfl | rfl
  · cases hj
  · exact (owns_blk h.ol hj).1
  · exact (owns_blk h.ot hj).1
  · exact (owns_blk h.on hj).1
 have hS : ∀ j, S j → row ≠ some j := fun j hj => by
  rcases hrow with rfl | rfl | rfl | rfl
  · exact fun h => nomatch h
  · exact (h.nS j hj).2.2.1
  · exact (h.nS j hj).2.2.2.1
  · exact (h.nS j hj).2.2.2.2
 have hsS : ∀ j, S j → (W1.setCell ⟨b, k, none⟩ u).heap[j]? = W.heap[j]? := fun j hj => hfar j (h.nS j hj).1 (h.nS j hj).2.1 (hS j hj)
 refine ⟨hfar, ⟨hgr.os, hgr.tape, hgr.output, by simpa using hgr.size, fun j hj => hfar j (by have := h.hb; have := h.lt; omega) (by have := h.hb; omega) (fun e => by have := hlow j e; omega), hsS⟩, hgr.block b h.lt (fun e => hb1 e.symm), fun i l c hi hc => (h.kids i l c hi hc).keep hsS (fun _ h => h)⟩
theorem ac_put {W W1 : World} {b k : Nat} {p q : Pt} {vl vt vn vl' vt' vn' u x : Value} {pre suf : List Value} (hb : W.heap[b]? = some (.cells (ptV p vl vt vn).toArray 164 (0, 0))) (h1 : W1.heap[b]? = W.heap[b]?) (e1 : ptV p vl vt vn = pre ++ ([x] ++ suf)) (e2 : ptV q vl' vt' vn' = pre ++ ([u] ++ suf)) (hk : pre.length = k) : (W1.setCell ⟨b, k, none⟩ u).heap[b]? = some (.cells (ptV q vl' vt' vn').toArray 164 (0, 0)) := by
 rw [e2]
 exact setCells_at b 164 (0, 0) [u] pre [x] suf W1 k (by rw [h1, hb, e1]) hk rfl
theorem AcV.link {W W1 : World} {B b : Nat} {S : Nat → Prop} {g : Nat} {ag : Bool} {a : Ac} {vl vt vn : Value} {cs : List Nat} (h : AcV W B b S g ag a vl vt vn cs) (hgr : W.grownBy W1 vl.ownBlock) {l : Pt × Nat × Bool} {c : Nat} (hk : PtAt W S c l.1) {vl' : Value} (ho : W1.ownsRow B 177 3 vl' (a.links.length + 1) (lkV a.links cs ++ [.pointer (some ⟨c, 0, none⟩), .int .i64 (l.2.1 : Nat), .bool l.2.2])) (hat : vl'.ownBlock = vl.ownBlock ∨ vl'.ownBlock = some W.heap.size) :
  AcV (W1.setCell ⟨b, 2, none⟩ vl') B b S g ag ⟨a.deep, a.links ++ [l], a.takes, a.next⟩ vl' vt vn (cs ++ [c]) ∧ AcF B S W (W1.setCell ⟨b, 2, none⟩ vl') := by
 obtain ⟨hfar, hF, hb1, hkid⟩ := h.core hgr (.inr (.inl rfl)) 2 vl'
 have hnb : vl'.ownBlock ≠ some b := own_nb ho (hb1.trans h.blk) (by decide)
 refine ⟨⟨h.hb, ac_put (p := acP g ag a) (pre := [.int .i64 (g : Nat), .bool a.deep]) h.blk hb1 rfl rfl rfl, by simp [h.hl], ?_, owns_keep h.ot fun k hk => hfar k (owns_blk h.ot hk).2.1 (fun e => own_nb h.ot h.blk (by decide) (by rw [← e]; exact hk)) (own_ne h.ot h.ol (by decide) hk), owns_keep h.on fun k hk => hfar k (owns_blk h.on hk).2.1 (fun e => own_nb h.on h.blk (by decide) (by rw [← e]; exact hk)) (own_ne h.on h.ol (by decide) hk), fun k hk => ⟨Nat.lt_of_lt_of_le (h.nS k hk).1 hF.size, (h.nS k hk).2.1, ?_, (h.nS k hk).2.2.2⟩, ?_⟩, hF⟩
 · show World.ownsRow _ B 177 3 vl' (a.links ++ [l]).length (lkV (a.links ++ [l]) (cs ++ [c]))
   rw [List.length_append, lkV_app _ _ _ _ h.hl]
   exact owns_keep ho fun k hk => Below.heap_setCell W1 ⟨b, 2, none⟩ vl' k (fun e => hnb (by rw [hk, e]))
 · rcases hat with e | e
   · rw [e]; exact (h.nS k hk).2.2.1
   · rw [e]; intro e'; have := (h.nS k hk).1; simp at e'; omega
 · intro i l' c' hi hc
   rcases Nat.lt_or_ge i a.links.length with hlt | hge
   · have hi : (a.links ++ [l])[i]? = some l' := hi
     rw [List.getElem?_append_left hlt] at hi
     rw [List.getElem?_append_left (by rw [h.hl]; exact hlt)] at hc
     exact hkid i l' c' hi hc
   · have hi : (a.links ++ [l])[i]? = some l' := hi
     have h2 := (List.getElem?_eq_some_iff.1 hi).1
     rw [List.length_append, List.length_singleton] at h2
     rw [List.getElem?_append_right hge, show i - a.links.length = 0 by omega] at hi
     rw [List.getElem?_append_right (by rw [h.hl]; exact hge), show i - cs.length = 0 by rw [h.hl]; omega] at hc
     cases hi; cases hc
     exact hk.keep hF.s (fun _ h => h)
theorem AcV.dp {W : World} {B b : Nat} {S : Nat → Prop} {g : Nat} {ag : Bool} {a : Ac} {vl vt vn : Value} {cs : List Nat} (h : AcV W B b S g ag a vl vt vn cs) (d : Bool) :
  AcV (W.setCell ⟨b, 1, none⟩ (.bool d)) B b S g ag ⟨d, a.links, a.takes, a.next⟩ vl vt vn cs ∧ AcF B S W (W.setCell ⟨b, 1, none⟩ (.bool d)) := by
 obtain ⟨hfar, hF, hb1, hkid⟩ := h.core (row := none) (W1 := W) ⟨rfl, rfl, rfl, Nat.le_refl _, fun _ _ _ => rfl⟩ (.inl rfl) 1 (.bool d)
 exact ⟨⟨h.hb, ac_put (p := acP g ag a) (pre := [.int .i64 (g : Nat)]) h.blk hb1 rfl rfl rfl, h.hl, owns_keep h.ol fun k hk => hfar k (owns_blk h.ol hk).2.1 (fun e => own_nb h.ol h.blk (by decide) (by rw [← e]; exact hk)) (fun h => nomatch h), owns_keep h.ot fun k hk => hfar k (owns_blk h.ot hk).2.1 (fun e => own_nb h.ot h.blk (by decide) (by rw [← e]; exact hk)) (fun h => nomatch h), owns_keep h.on fun k hk => hfar k (owns_blk h.on hk).2.1 (fun e => own_nb h.on h.blk (by decide) (by rw [← e]; exact hk)) (fun h => nomatch h), fun k hk => ⟨Nat.lt_of_lt_of_le (h.nS k hk).1 hF.size, (h.nS k hk).2⟩, hkid⟩, hF⟩
theorem AcV.tks {W W1 : World} {B b : Nat} {S : Nat → Prop} {g : Nat} {ag : Bool} {a : Ac} {vl vt vn : Value} {cs : List Nat} (h : AcV W B b S g ag a vl vt vn cs) (hgr : W.grownBy W1 vt.ownBlock) {qs : List (Nat → Bool)} {vt' : Value} (ho : W1.ownsRow B 95 4 vt' (a.takes.length + qs.length) (tkV a.takes ++ tkV qs)) (hat : vt'.ownBlock = vt.ownBlock ∨ vt'.ownBlock = some W.heap.size) :
  AcV (W1.setCell ⟨b, 41, none⟩ vt') B b S g ag ⟨a.deep, a.links, a.takes ++ qs, a.next⟩ vl vt' vn cs ∧ AcF B S W (W1.setCell ⟨b, 41, none⟩ vt') := by
 obtain ⟨hfar, hF, hb1, hkid⟩ := h.core hgr (.inr (.inr (.inl rfl))) 41 vt'
 have hnb : vt'.ownBlock ≠ some b := own_nb ho (hb1.trans h.blk) (by decide)
 refine ⟨⟨h.hb, ac_put (p := acP g ag a) (pre := [.int .i64 (g : Nat), .bool a.deep, vl, .bool ag, .bool false] ++ bsV zeroB) (suf := [vn]) h.blk hb1 rfl rfl rfl, h.hl, owns_keep h.ol fun k hk => hfar k (owns_blk h.ol hk).2.1 (fun e => own_nb h.ol h.blk (by decide) (by rw [← e]; exact hk)) (own_ne h.ol h.ot (by decide) hk), ?_, owns_keep h.on fun k hk => hfar k (owns_blk h.on hk).2.1 (fun e => own_nb h.on h.blk (by decide) (by rw [← e]; exact hk)) (own_ne h.on h.ot (by decide) hk), fun k hk => ⟨Nat.lt_of_lt_of_le (h.nS k hk).1 hF.size, (h.nS k hk).2.1, (h.nS k hk).2.2.1, ?_, (h.nS k hk).2.2.2.2⟩, hkid⟩, hF⟩
 · show World.ownsRow _ B 95 4 vt' (a.takes ++ qs).length (tkV (a.takes ++ qs))
   rw [List.length_append, tkV_app]
   exact owns_keep ho fun k hk => Below.heap_setCell W1 ⟨b, 41, none⟩ vt' k (fun e => hnb (by rw [hk, e]))
 · rcases hat with e | e
   · rw [e]; exact (h.nS k hk).2.2.2.1
   · rw [e]; intro e'; have := (h.nS k hk).1; simp at e'; omega
theorem AcV.nxs {W W1 : World} {B b : Nat} {S : Nat → Prop} {g : Nat} {ag : Bool} {a : Ac} {vl vt vn : Value} {cs : List Nat} (h : AcV W B b S g ag a vl vt vn cs) (hgr : W.grownBy W1 vn.ownBlock) {ns : List Nat} {vn' : Value} (ho : W1.ownsRow B 157 4 vn' (a.next.length + ns.length) (nxV a.next ++ nxV ns)) (hat : vn'.ownBlock = vn.ownBlock ∨ vn'.ownBlock = some W.heap.size) :
  AcV (W1.setCell ⟨b, 42, none⟩ vn') B b S g ag ⟨a.deep, a.links, a.takes, a.next ++ ns⟩ vl vt vn' cs ∧ AcF B S W (W1.setCell ⟨b, 42, none⟩ vn') := by
 obtain ⟨hfar, hF, hb1, hkid⟩ := h.core hgr (.inr (.inr (.inr rfl))) 42 vn'
 have hnb : vn'.ownBlock ≠ some b := own_nb ho (hb1.trans h.blk) (by decide)
 refine ⟨⟨h.hb, ac_put (p := acP g ag a) (pre := [.int .i64 (g : Nat), .bool a.deep, vl, .bool ag, .bool false] ++ bsV zeroB ++ [vt]) (suf := []) h.blk hb1 rfl rfl rfl, h.hl, owns_keep h.ol fun k hk => hfar k (owns_blk h.ol hk).2.1 (fun e => own_nb h.ol h.blk (by decide) (by rw [← e]; exact hk)) (own_ne h.ol h.on (by decide) hk), owns_keep h.ot fun k hk => hfar k (owns_blk h.ot hk).2.1 (fun e => own_nb h.ot h.blk (by decide) (by rw [← e]; exact hk)) (own_ne h.ot h.on (by decide) hk), ?_, fun k hk => ⟨Nat.lt_of_lt_of_le (h.nS k hk).1 hF.size, (h.nS k hk).2.1, (h.nS k hk).2.2.1, (h.nS k hk).2.2.2.1, ?_⟩, hkid⟩, hF⟩
 · show World.ownsRow _ B 157 4 vn' (a.next ++ ns).length (nxV (a.next ++ ns))
   rw [List.length_append, nxV_app]
   exact owns_keep ho fun k hk => Below.heap_setCell W1 ⟨b, 42, none⟩ vn' k (fun e => hnb (by rw [hk, e]))
 · rcases hat with e | e
   · rw [e]; exact (h.nS k hk).2.2.2.2
   · rw [e]; intro e'; have := (h.nS k hk).1; simp at e'; omega
theorem info_lk : (Tryz.prog.info? 177).map (fun i => (i.zero, i.size, i.bytes)) = some (some (.agg #[.pointer none, .int .i64 0, .bool false]), 3, 24) := by kernel_rfl
theorem info_se : (Tryz.prog.info? 95).map (fun i => (i.zero, i.size, i.bytes)) = some (some (.agg #[.int .u64 0, .int .u64 0, .int .u64 0, .int .u64 0]), 4, 32) := by kernel_rfl
end Go.Proofs.YtbekghinikjjeaaGreatDoor.smt
