/- KA2 -/
import Derived.Test.YtbekghinikjjeaaGreatDoorKSi
import Derived.Test.YtbekghinikjjeaaGreatDoorKA9
import Derived.Deep.MidRow
import Derived.Laws.AppendOwn
import Derived.OwnWalk
import Derived.Deep.RegionHeld3
import Derived.Deep.Cut
set_option maxRecDepth 100000
set_option maxHeartbeats 4000000
namespace Go.Proofs.YtbekghinikjjeaaGreatDoor.smt
open Go.RowKit Go.Proofs.YtbekghinikjjeaaGreatDoor.br
theorem range_block {W : World} {b : Nat} {cs : List Value} {t : TypeId} {fr : Nat × Nat} (h : W.heap[b]? = some (.cells cs.toArray t fr)) : W.rangeAt b 0 cs := fun j v hv => by
  simp only [World.cell?, h, Nat.zero_add]
  simpa using hv
theorem there_block {W : World} {b : Nat} {cs : List Value} {t : TypeId} (h : W.heap[b]? = some (.cells cs.toArray t (0, 0))) (n : Nat) (hn : cs.length = n) : W.there b 0 n := fun j hj => by
  have e : cs[j]? = some cs[j] := List.getElem?_eq_getElem (by omega)
  refine ⟨?_, ?_⟩
  · simp [World.cell?, h, e]
  · simp [World.frozen?, h]
theorem setCells_far (W : World) (b : Nat) {j : Nat} (h : j ≠ b) : ∀ (vs : List Value) (o : Nat), (W.setCells b o vs).heap[j]? = W.heap[j]? := by
  intro vs
  induction vs generalizing W with
  | nil => intro o; rfl
  | cons v vs ih =>
    intro o
    rw [World.setCells, ih]
    exact Below.heap_setCell W ⟨b, o, none⟩ v j h
theorem setCells_size (b : Nat) : ∀ (vs : List Value) (W : World) (o : Nat), (W.setCells b o vs).heap.size = W.heap.size
  | [], _, _ => rfl
  | v :: vs, W, o => by
    rw [World.setCells, setCells_size b vs]
    simp
theorem setCells_at (b : Nat) (t : TypeId) (fr : Nat × Nat) : ∀ (vs pre cs suf : List Value) (W : World) (o : Nat), W.heap[b]? = some (.cells (pre ++ (cs ++ suf)).toArray t fr) → pre.length = o → cs.length = vs.length → (W.setCells b o vs).heap[b]? = some (.cells (pre ++ (vs ++ suf)).toArray t fr)
  | [], pre, cs, suf, W, o, h, hp, hc => by
    obtain rfl : cs = [] := List.eq_nil_of_length_eq_zero hc
    exact h
  | v :: vs, pre, [], suf, W, o, h, hp, hc => by simp at hc
  | v :: vs, pre, c :: cs, suf, W, o, h, hp, hc => by
    rw [World.setCells]
    have h1 : (W.setCell ⟨b, o, none⟩ v).heap[b]? = some (.cells ((pre ++ [v]) ++ (cs ++ suf)).toArray t fr) := by
      obtain ⟨hlt, hk⟩ := Array.getElem?_eq_some_iff.1 h
      show (W.heap.modify b _)[b]? = _
      rw [Array.getElem?_eq_getElem (by rw [Array.size_modify]; exact hlt), Array.getElem_modify_self, hk]
      simp [hp.symm]
    have := setCells_at b t fr vs (pre ++ [v]) cs suf _ (o + 1) h1 (by simp [hp]) (by simpa using hc)
    simpa using this
theorem setCells_whole {W : World} {b : Nat} {t : TypeId} {fr : Nat × Nat} {cs : List Value} (vs : List Value) (h : W.heap[b]? = some (.cells cs.toArray t fr)) (hl : cs.length = vs.length) : (W.setCells b 0 vs).heap[b]? = some (.cells vs.toArray t fr) := by
  have := setCells_at b t fr vs [] cs [] W 0 (by simpa using h) rfl hl
  simpa using this
theorem below_setCells {B : Nat} {X : World} (b : Nat) (hb : B ≤ b) : ∀ (vs : List Value) (W : World) (o : Nat), Below B X W → Below B X (W.setCells b o vs)
  | [], _, _, h => h
  | v :: vs, W, o, h => by
    rw [World.setCells]
    exact below_setCells b hb vs _ _ (h.setCell (p := ⟨b, o, none⟩) hb v)
theorem owns_blk {W : World} {B e size n : Nat} {v : Value} {xs : List Value} (h : W.ownsRow B e size v n xs) {g : Nat} (hg : v.ownBlock = some g) : B ≤ g ∧ g < W.heap.size ∧ ∃ cur, W.heap[g]? = some (.cells cur e (0, 0)) := by
 rcases h.2 with ⟨rfl, _⟩ | ⟨g', cap', cur, rfl, hb, hh, _⟩
 ·cases hg
 ·cases hg
  exact ⟨hb, (Array.getElem?_eq_some_iff.1 hh).1, cur, hh⟩
theorem owns_keep {W W' : World} {B e size n : Nat} {v : Value} {xs : List Value} (h : W.ownsRow B e size v n xs) (hk : ∀ g, v.ownBlock = some g → W'.heap[g]? = W.heap[g]?) : W'.ownsRow B e size v n xs := by
 obtain ⟨hl, h⟩ := h
 refine ⟨hl, ?_⟩
 rcases h with h | ⟨g, cap, cur, hv, hg, hh, rest⟩
 ·exact .inl h
 ·exact .inr ⟨g, cap, cur, hv, hg, (hk g (by rw [hv]; rfl)).trans hh, rest⟩
theorem owns_shape {W : World} {B e size n : Nat} {v : Value} {xs : List Value} (h : W.ownsRow B e size v n xs) : ∃ a c, v = .slice a n c := by
 rcases h.2 with ⟨rfl, rfl⟩ | ⟨g, cap, cur, rfl, _⟩
 ·exact ⟨_, _, rfl⟩
 ·exact ⟨_, _, rfl⟩
theorem owns_mono {W : World} {B B' e size n : Nat} {v : Value} {xs : List Value} (h : W.ownsRow B e size v n xs) (hb : B' ≤ B) : W.ownsRow B' e size v n xs := by
 obtain ⟨hl, h⟩ := h
 refine ⟨hl, ?_⟩
 rcases h with h | ⟨g, cap, cur, hv, hg, rest⟩
 ·exact .inl h
 ·exact .inr ⟨g, cap, cur, hv, Nat.le_trans hb hg, rest⟩
theorem owns_cell {W : World} {B e size n g cap : Nat} {xs : List Value} (h : W.ownsRow B e size (.slice (some ⟨g, 0, none⟩) n cap) n xs) (k : Nat) (u : Value) (hu : xs[k]? = some u) : W.cell? ⟨g, k, none⟩ = some u ∧ W.frozen? ⟨g, k, none⟩ = false := by
  obtain ⟨hl, h2⟩ := h
  rcases h2 with ⟨h2, _⟩ | ⟨g', cap', cur, he, hb, hh, hn, hc, hs, ht⟩
  · cases h2
  · cases he
    have hk : k < n * size := by rw [← hl]; exact (List.getElem?_eq_some_iff.1 hu).1
    rw [← ht, List.getElem?_take_of_lt hk] at hu
    exact ⟨by simp only [World.cell?, hh]; simpa using hu, by simp [World.frozen?, hh]⟩
def bdV (b : Bd) : List Value := .bool b.no :: ([.int .u64 (wd (Nat.testBit b.fi) 0 : Nat), .int .u64 (wd (Nat.testBit b.fi) 1 : Nat), .int .u64 (wd (Nat.testBit b.fi) 2 : Nat), .int .u64 (wd (Nat.testBit b.fi) 3 : Nat)] ++ [.int .u64 (wd (Nat.testBit b.la) 0 : Nat), .int .u64 (wd (Nat.testBit b.la) 1 : Nat), .int .u64 (wd (Nat.testBit b.la) 2 : Nat), .int .u64 (wd (Nat.testBit b.la) 3 : Nat)])
def bsV (b : List Bd) : List Value := bdV (bat b 0) ++ (bdV (bat b 1) ++ (bdV (bat b 2) ++ bdV (bat b 3)))
theorem bsV_len (b : List Bd) : (bsV b).length = 36 := rfl
theorem bsV_one (b : List Bd) : (bsV b).toArray.all (·.oneCell') = true := by simp [bsV, bdV, Value.oneCell']
def ptV (p : Pt) (vl vt vn : Value) : List Value := [.int .i64 (p.grp : Nat), .bool p.deep, vl, .bool p.again, .bool p.closed] ++ (bsV p.bds ++ [vt, vn])
theorem ptV_len (p : Pt) (vl vt vn : Value) : (ptV p vl vt vn).length = 43 := rfl
def lkV : List (Pt × Nat × Bool) → List Nat → List Value
 | l :: ls, c :: cs => [.pointer (some ⟨c, 0, none⟩), .int .i64 (l.2.1 : Nat), .bool l.2.2] ++ lkV ls cs
 | _, _ => []
def tkV : List (Nat → Bool) → List Value
 | [] => []
 | q :: qs => [.int .u64 (wd q 0 : Nat), .int .u64 (wd q 1 : Nat), .int .u64 (wd q 2 : Nat), .int .u64 (wd q 3 : Nat)] ++ tkV qs
def nxV : List Nat → List Value
 | [] => []
 | n :: ns => [.int .u64 (wd (Nat.testBit n) 0 : Nat), .int .u64 (wd (Nat.testBit n) 1 : Nat), .int .u64 (wd (Nat.testBit n) 2 : Nat), .int .u64 (wd (Nat.testBit n) 3 : Nat)] ++ nxV ns
theorem tkV_len : ∀ (qs : List (Nat → Bool)), (tkV qs).length = qs.length * 4
 | [] => rfl
 | q :: qs => by simp only [tkV, List.length_append, List.length_cons, List.length_nil, tkV_len qs]; omega
theorem nxV_len : ∀ (ns : List Nat), (nxV ns).length = ns.length * 4
 | [] => rfl
 | n :: ns => by simp only [nxV, List.length_append, List.length_cons, List.length_nil, nxV_len ns]; omega
theorem tkV_app : ∀ (a b : List (Nat → Bool)), tkV (a ++ b) = tkV a ++ tkV b
 | [], _ => rfl
 | q :: a, b => by simp only [List.cons_append, tkV, tkV_app a b, List.append_assoc]
theorem nxV_app : ∀ (a b : List Nat), nxV (a ++ b) = nxV a ++ nxV b
 | [], _ => rfl
 | q :: a, b => by simp only [List.cons_append, nxV, nxV_app a b, List.append_assoc]
theorem lkV_app : ∀ (a : List (Pt × Nat × Bool)) (c : List Nat) (l : Pt × Nat × Bool) (d : Nat), c.length = a.length → lkV (a ++ [l]) (c ++ [d]) = lkV a c ++ [.pointer (some ⟨d, 0, none⟩), .int .i64 (l.2.1 : Nat), .bool l.2.2]
 | [], [], l, d, _ => rfl
 | x :: a, y :: c, l, d, h => by simp only [List.cons_append, lkV, lkV_app a c l d (by simpa using h), List.append_assoc]
theorem nxV_split {ns : List Nat} {i n : Nat} (h : ns[i]? = some n) : nxV ns = nxV (ns.take i) ++ ([.int .u64 (wd (Nat.testBit n) 0 : Nat), .int .u64 (wd (Nat.testBit n) 1 : Nat), .int .u64 (wd (Nat.testBit n) 2 : Nat), .int .u64 (wd (Nat.testBit n) 3 : Nat)] ++ nxV (ns.drop (i + 1))) := by
 obtain ⟨hi, hn⟩ := List.getElem?_eq_some_iff.1 h
 have e : ns = ns.take i ++ (n :: ns.drop (i + 1)) := by rw [← hn, List.getElem_cons_drop, List.take_append_drop]
 conv => lhs; rw [e, nxV_app]
 rfl
theorem tkV_split {qs : List (Nat → Bool)} {i : Nat} {q : Nat → Bool} (h : qs[i]? = some q) : tkV qs = tkV (qs.take i) ++ ([.int .u64 (wd q 0 : Nat), .int .u64 (wd q 1 : Nat), .int .u64 (wd q 2 : Nat), .int .u64 (wd q 3 : Nat)] ++ tkV (qs.drop (i + 1))) := by
 obtain ⟨hi, hn⟩ := List.getElem?_eq_some_iff.1 h
 have e : qs = qs.take i ++ (q :: qs.drop (i + 1)) := by rw [← hn, List.getElem_cons_drop, List.take_append_drop]
 conv => lhs; rw [e, tkV_app]
 rfl
theorem split_get (a b c : List Value) (n k : Nat) (h : a.length = n) (hk : k < b.length) : (a ++ (b ++ c))[n + k]? = b[k]? := by
 rw [List.getElem?_append_right (by omega), List.getElem?_append_left (by omega)]; congr 1; omega
theorem take_len {α : Type} {l : List α} {i : Nat} {x : α} (h : l[i]? = some x) : (l.take i).length = i := by
 have := (List.getElem?_eq_some_iff.1 h).1
 rw [List.length_take]; omega
theorem nxV_get {ns : List Nat} {i n : Nat} (h : ns[i]? = some n) (k : Nat) (hk : k < 4) : (nxV ns)[i * 4 + k]? = some (.int .u64 (wd (Nat.testBit n) k : Nat)) := by
 rw [nxV_split h]
 refine (split_get _ _ _ (i * 4) k (by rw [nxV_len, take_len h]) (by simpa using hk)).trans ?_
 match k, hk with
 | 0, _ => rfl
 | 1, _ => rfl
 | 2, _ => rfl
 | 3, _ => rfl
theorem tkV_get {qs : List (Nat → Bool)} {i : Nat} {q : Nat → Bool} (h : qs[i]? = some q) (k : Nat) (hk : k < 4) : (tkV qs)[i * 4 + k]? = some (.int .u64 (wd q k : Nat)) := by
 rw [tkV_split h]
 refine (split_get _ _ _ (i * 4) k (by rw [tkV_len, take_len h]) (by simpa using hk)).trans ?_
 match k, hk with
 | 0, _ => rfl
 | 1, _ => rfl
 | 2, _ => rfl
 | 3, _ => rfl
theorem lkV_get : ∀ {ls : List (Pt × Nat × Bool)} {cs : List Nat} {i : Nat} {l : Pt × Nat × Bool} {c : Nat}, ls[i]? = some l → cs[i]? = some c → (lkV ls cs)[i * 3]? = some (.pointer (some ⟨c, 0, none⟩)) ∧ (lkV ls cs)[i * 3 + 1]? = some (.int .i64 (l.2.1 : Nat)) ∧ (lkV ls cs)[i * 3 + 2]? = some (.bool l.2.2)
 | [], _, _, _, _, h, _ => by simp at h
 | _ :: _, [], _, _, _, _, h => by simp at h
 | x :: ls, y :: cs, 0, l, c, h, k => by
  simp only [List.getElem?_cons_zero, Option.some.injEq] at h k
  subst h; subst k
  exact ⟨rfl, rfl, rfl⟩
 | x :: ls, y :: cs, i + 1, l, c, h, k => by
  have := lkV_get (ls := ls) (cs := cs) (i := i) (by simpa using h) (by simpa using k)
  rw [show (i + 1) * 3 = i * 3 + 1 + 1 + 1 by omega, show i * 3 + 1 + 1 + 1 + 1 = (i * 3 + 1) + 1 + 1 + 1 by omega, show i * 3 + 1 + 1 + 1 + 2 = (i * 3 + 2) + 1 + 1 + 1 by omega]
  exact this
inductive PtAt (W : World) (S : Nat → Prop) : Nat → Pt → Prop where
 | mk (b : Nat) (p : Pt) (vl vt vn : Value) (cs : List Nat) (hS : S b) (blk : W.heap[b]? = some (.cells (ptV p vl vt vn).toArray 164 (0, 0)))
   (hl : cs.length = p.links.length) (ol : W.ownsRow 0 177 3 vl p.links.length (lkV p.links cs)) (ot : W.ownsRow 0 95 4 vt p.takes.length (tkV p.takes)) (on : W.ownsRow 0 157 4 vn p.next.length (nxV p.next))
   (sl : ∀ g, vl.ownBlock = some g → S g) (st : ∀ g, vt.ownBlock = some g → S g) (sn : ∀ g, vn.ownBlock = some g → S g)
   (kids : ∀ (i : Nat) (l : Pt × Nat × Bool) (c : Nat), p.links[i]? = some l → cs[i]? = some c → PtAt W S c l.1) : PtAt W S b p
theorem PtAt.keep {W W' : World} {S S' : Nat → Prop} {b : Nat} {p : Pt} (h : PtAt W S b p) (hk : ∀ g, S g → W'.heap[g]? = W.heap[g]?) (hm : ∀ g, S g → S' g) : PtAt W' S' b p := by
 induction h with
 | mk b p vl vt vn cs hS blk hl ol ot on sl st sn kids ih =>
  exact .mk b p vl vt vn cs (hm _ hS) ((hk _ hS).trans blk) hl (owns_keep ol fun g hg => hk g (sl g hg)) (owns_keep ot fun g hg => hk g (st g hg)) (owns_keep on fun g hg => hk g (sn g hg)) (fun g hg => hm g (sl g hg)) (fun g hg => hm g (st g hg)) (fun g hg => hm g (sn g hg)) ih
abbrev PtB (W : World) (B b : Nat) (p : Pt) : Prop := PtAt W (fun g => g < B) b p
theorem PtB.below {W W' : World} {B b : Nat} {p : Pt} (h : PtB W B b p) (hb : Below B W W') : PtB W' B b p := h.keep (fun g hg => hb.block g hg) (fun _ h => h)
end Go.Proofs.YtbekghinikjjeaaGreatDoor.smt
namespace Go.Proofs.YtbekghinikjjeaaGreatDoor.smt
open Go.RowKit Go.Proofs.YtbekghinikjjeaaGreatDoor.br
theorem info_part : (Tryz.prog.info? 161).map (·.size) = some 36 := by kernel_rfl
theorem und_part : Tryz.prog.underlying 161 = some (.array 4 159) := by kernel_rfl
theorem part_result {fn : Func} {W : World} {r b : Nat} {tmps : Array Value} {cs : List Value} {fr : Nat × Nat} (hf : fn.results = #[.cell r 161]) (hr : tmps[r]?.getD undef = .pointer (some ⟨b, 0, none⟩)) (h : W.heap[b]? = some (.cells cs.toArray 161 fr)) (hl : cs.length = 36) : (results fn tmps).run Tryz.prog W = .ok (.agg cs.toArray) W := by
  have := run_loadVar_mid (P := Tryz.prog) W b 0 161 cs _ (range_block h) und_part rfl (by rw [info_part, hl])
  simp [results, hf, asAddr, hr, this]
theorem ret_part {fn : Func} {R : Ending → World → Prop} {id s d r b b' : Nat} {ps ps' : String} {af af' : Array Edge} {ty ty' : TypeId} {a : Act} {W : World} {cs zs : List Value} {K : Act → World → Prop} {Q : Exit → Act → World → Prop} (hQ : Q = bodyPost Tryz.prog fn R) (hK : ∀ a w, Code.ret.wp Tryz.prog Q a w → K a w) (hs : a.eval (.tmp s) = .pointer (some ⟨b, 0, none⟩)) (hr : a.eval (.tmp r) = .pointer (some ⟨b', 0, none⟩)) (hsr : r ≠ d) (hd : (a.put (some d) (.agg cs.toArray)).eval (.tmp d) = .agg cs.toArray) (h : W.heap[b]? = some (.cells cs.toArray 161 (0, 0))) (h' : W.heap[b']? = some (.cells zs.toArray 161 (0, 0))) (hl : cs.length = 36) (hz : zs.length = 36) (ho : cs.toArray.all (·.oneCell') = true) (hf : fn.results = #[.cell r 161]) (hdf : a.defers = []) (hR : R (.returned (.agg cs.toArray)) (W.setCells b' 0 cs)) :
    (Code.region id #[{ dst := some d, op := .load 161 (.tmp s), type := ty, pos := ps, after := af, guard := none }, { dst := none, op := .store 161 (.tmp r) (.tmp d), type := ty', pos := ps', after := af', guard := none }] false).wp Tryz.prog (Exit.then K Q) a W := by
  refine wp_region_lit (l := [_, _]) ?_
  refine wpList_load_mid rfl 161 _ rfl b 0 hs cs _ (range_block h) und_part rfl (by rw [info_part, hl]) ?_
  have hr2 : (a.put (some d) (.agg cs.toArray)).eval (.tmp r) = .pointer (some ⟨b', 0, none⟩) := by
    rw [← hr]
    exact Act.eval_put (fun e he hh => by cases he; cases hh; exact hsr rfl)
  refine wpList_store_mid rfl 161 _ _ rfl b' 0 cs.toArray hr2 hd (by rw [List.size_toArray]; exact there_block h' _ (by omega)) (by rw [info_part, List.size_toArray, hl]) ho ?_
  refine wpList_nil ?_
  refine hK _ _ (wp_ret ?_)
  rw [hQ]
  exact bodyPost_ret (part_result hf (by simpa [Act.eval, Act.put] using hr2) (setCells_whole cs h' (by omega)) hl) hdf hR
theorem store_part {ops : Array Oper} {op : Oper} {r d b : Nat} {a : Act} {W : World} {cs zs : List Value} {K : Act → World → Prop} {Q : Exit → Act → World → Prop} (hg : op.guard = none) (ho : op.op = .store 161 (.tmp r) (.tmp d)) (hr : a.eval (.tmp r) = .pointer (some ⟨b, 0, none⟩)) (hd : a.eval (.tmp d) = .agg cs.toArray) (h' : W.heap[b]? = some (.cells zs.toArray 161 (0, 0))) (hl : cs.length = 36) (hz : zs.length = 36) (h1 : cs.toArray.all (·.oneCell') = true) (h : K (a.put op.dst undef) (W.setCells b 0 cs)) : wpList Tryz.prog ops (Exit.then K Q) [op] a W := by
  refine wpList_store_mid hg 161 _ _ ho b 0 cs.toArray hr hd (by rw [List.size_toArray]; exact there_block h' _ (by omega)) (by rw [info_part, List.size_toArray, hl]) h1 ?_
  exact wpList_nil h
theorem optional_cells (b0 b1 b2 b3 : Bool) (i1 i2 i3 i4 i5 i6 i7 i8 i10 i11 i12 i13 i14 i15 i16 i17 i19 i20 i21 i22 i23 i24 i25 i26 i28 i29 i30 i31 i32 i33 i34 i35 : Int) (w : World) : Calls Tryz.prog 90 #[.agg #[.bool b0, .int .u64 i1, .int .u64 i2, .int .u64 i3, .int .u64 i4, .int .u64 i5, .int .u64 i6, .int .u64 i7, .int .u64 i8, .bool b1, .int .u64 i10, .int .u64 i11, .int .u64 i12, .int .u64 i13, .int .u64 i14, .int .u64 i15, .int .u64 i16, .int .u64 i17, .bool b2, .int .u64 i19, .int .u64 i20, .int .u64 i21, .int .u64 i22, .int .u64 i23, .int .u64 i24, .int .u64 i25, .int .u64 i26, .bool b3, .int .u64 i28, .int .u64 i29, .int .u64 i30, .int .u64 i31, .int .u64 i32, .int .u64 i33, .int .u64 i34, .int .u64 i35]] w fun e w' => e = .returned (.agg #[.bool true, .int .u64 i1, .int .u64 i2, .int .u64 i3, .int .u64 i4, .int .u64 i5, .int .u64 i6, .int .u64 i7, .int .u64 i8, .bool true, .int .u64 i10, .int .u64 i11, .int .u64 i12, .int .u64 i13, .int .u64 i14, .int .u64 i15, .int .u64 i16, .int .u64 i17, .bool true, .int .u64 i19, .int .u64 i20, .int .u64 i21, .int .u64 i22, .int .u64 i23, .int .u64 i24, .int .u64 i25, .int .u64 i26, .bool true, .int .u64 i28, .int .u64 i29, .int .u64 i30, .int .u64 i31, .int .u64 i32, .int .u64 i33, .int .u64 i34, .int .u64 i35]) ∧ Below w.heap.size w w' := by
  go_enter Tryz.func90, Tryz.ntmps90
  go_wp2
  refine wp_loop_rounds 5 ?_
  rw [rounds_succ]; go_wp2
  rw [rounds_succ]; go_wp2
  rw [rounds_succ]; go_wp2
  rw [rounds_succ]; go_wp2
  rw [rounds_succ]; go_upto_region 6 with fail
  refine ret_part (b := w.heap.size) (b' := w.heap.size + 1) (cs := [.bool true, .int .u64 i1, .int .u64 i2, .int .u64 i3, .int .u64 i4, .int .u64 i5, .int .u64 i6, .int .u64 i7, .int .u64 i8, .bool true, .int .u64 i10, .int .u64 i11, .int .u64 i12, .int .u64 i13, .int .u64 i14, .int .u64 i15, .int .u64 i16, .int .u64 i17, .bool true, .int .u64 i19, .int .u64 i20, .int .u64 i21, .int .u64 i22, .int .u64 i23, .int .u64 i24, .int .u64 i25, .int .u64 i26, .bool true, .int .u64 i28, .int .u64 i29, .int .u64 i30, .int .u64 i31, .int .u64 i32, .int .u64 i33, .int .u64 i34, .int .u64 i35]) (zs := [.bool false, .int .u64 0, .int .u64 0, .int .u64 0, .int .u64 0, .int .u64 0, .int .u64 0, .int .u64 0, .int .u64 0, .bool false, .int .u64 0, .int .u64 0, .int .u64 0, .int .u64 0, .int .u64 0, .int .u64 0, .int .u64 0, .int .u64 0, .bool false, .int .u64 0, .int .u64 0, .int .u64 0, .int .u64 0, .int .u64 0, .int .u64 0, .int .u64 0, .int .u64 0, .bool false, .int .u64 0, .int .u64 0, .int .u64 0, .int .u64 0, .int .u64 0, .int .u64 0, .int .u64 0, .int .u64 0]) rfl (by assumption) rfl rfl (by decide) rfl ?_ ?_ rfl rfl (by simp [Value.oneCell']) rfl rfl ⟨rfl, ?_⟩
  · exact (Below.heap_alloc _ _ _ (by simp)).trans (heap_alloc_new w _)
  · have h := heap_alloc_new (w.alloc (.cells #[.bool true, .int .u64 i1, .int .u64 i2, .int .u64 i3, .int .u64 i4, .int .u64 i5, .int .u64 i6, .int .u64 i7, .int .u64 i8, .bool true, .int .u64 i10, .int .u64 i11, .int .u64 i12, .int .u64 i13, .int .u64 i14, .int .u64 i15, .int .u64 i16, .int .u64 i17, .bool true, .int .u64 i19, .int .u64 i20, .int .u64 i21, .int .u64 i22, .int .u64 i23, .int .u64 i24, .int .u64 i25, .int .u64 i26, .bool true, .int .u64 i28, .int .u64 i29, .int .u64 i30, .int .u64 i31, .int .u64 i32, .int .u64 i33, .int .u64 i34, .int .u64 i35] 161)) (.cells #[.bool false, .int .u64 0, .int .u64 0, .int .u64 0, .int .u64 0, .int .u64 0, .int .u64 0, .int .u64 0, .int .u64 0, .bool false, .int .u64 0, .int .u64 0, .int .u64 0, .int .u64 0, .int .u64 0, .int .u64 0, .int .u64 0, .int .u64 0, .bool false, .int .u64 0, .int .u64 0, .int .u64 0, .int .u64 0, .int .u64 0, .int .u64 0, .int .u64 0, .int .u64 0, .bool false, .int .u64 0, .int .u64 0, .int .u64 0, .int .u64 0, .int .u64 0, .int .u64 0, .int .u64 0, .int .u64 0] 161)
    rw [World.size_alloc] at h
    exact h
  · exact below_setCells _ (by omega) _ _ _ (((Below.refl _ _).alloc (Nat.le_refl _) _).alloc (by simp) _)
theorem bat_opt {b : List Bd} (h : b.length = 4) (k : Nat) (hk : k < 4) : bat (optB b) k = ⟨true, (bat b k).fi, (bat b k).la⟩ := by
 match b, h, k, hk with
 | [_, _, _, _], _, 0, _ => rfl
 | [_, _, _, _], _, 1, _ => rfl
 | [_, _, _, _], _, 2, _ => rfl
 | [_, _, _, _], _, 3, _ => rfl
theorem optional_any {b : List Bd} (h : b.length = 4) (w : World) : Calls Tryz.prog 90 #[.agg (bsV b).toArray] w fun e w' => e = .returned (.agg (bsV (optB b)).toArray) ∧ Below w.heap.size w w' := by
 have e : bsV (optB b) = bdV ⟨true, (bat b 0).fi, (bat b 0).la⟩ ++ (bdV ⟨true, (bat b 1).fi, (bat b 1).la⟩ ++ (bdV ⟨true, (bat b 2).fi, (bat b 2).la⟩ ++ bdV ⟨true, (bat b 3).fi, (bat b 3).la⟩)) := by
  rw [bsV, bat_opt h 0 (by omega), bat_opt h 1 (by omega), bat_opt h 2 (by omega), bat_opt h 3 (by omega)]
 rw [e]
 exact optional_cells _ _ _ _ _ _ _ _ _ _ _ _ _ _ _ _ _ _ _ _ _ _ _ _ _ _ _ _ _ _ _ _ _ _ _ _ w
theorem anchor_bol (w : World) : Calls Tryz.prog 62 #[.int .i64 1] w fun e w' => e = .returned (.agg (bsV (anchB 1)).toArray) ∧ Below w.heap.size w w' := by
  have hV : Value.agg (bsV (anchB 1)).toArray = .agg #[.bool false, .int .u64 0, .int .u64 0, .int .u64 0, .int .u64 0, .int .u64 0, .int .u64 0, .int .u64 0, .int .u64 0, .bool true, .int .u64 0, .int .u64 0, .int .u64 0, .int .u64 0, .int .u64 0, .int .u64 0, .int .u64 0, .int .u64 0, .bool false, .int .u64 0, .int .u64 0, .int .u64 0, .int .u64 0, .int .u64 0, .int .u64 0, .int .u64 0, .int .u64 0, .bool true, .int .u64 0, .int .u64 0, .int .u64 0, .int .u64 0, .int .u64 0, .int .u64 0, .int .u64 0, .int .u64 0] := by rw [show anchB 1 = [⟨false, 0, 0⟩, ⟨true, 0, 0⟩, ⟨false, 0, 0⟩, ⟨true, 0, 0⟩] from rfl]; simp [bsV, bdV, bat, wd_zero]
  rw [hV]
  go_enter Tryz.func62, Tryz.ntmps62
  go_wp2
  refine wp_loop_rounds 5 ?_
  rw [rounds_succ]; go_wp2
  rw [rounds_succ]; go_wp2
  rw [rounds_succ]; go_wp2
  rw [rounds_succ]; go_wp2
  rw [rounds_succ]; go_upto_region 7 with fail
  refine ret_part (b := w.heap.size + 1) (b' := w.heap.size) (cs := [.bool false, .int .u64 0, .int .u64 0, .int .u64 0, .int .u64 0, .int .u64 0, .int .u64 0, .int .u64 0, .int .u64 0, .bool true, .int .u64 0, .int .u64 0, .int .u64 0, .int .u64 0, .int .u64 0, .int .u64 0, .int .u64 0, .int .u64 0, .bool false, .int .u64 0, .int .u64 0, .int .u64 0, .int .u64 0, .int .u64 0, .int .u64 0, .int .u64 0, .int .u64 0, .bool true, .int .u64 0, .int .u64 0, .int .u64 0, .int .u64 0, .int .u64 0, .int .u64 0, .int .u64 0, .int .u64 0]) (zs := [.bool false, .int .u64 0, .int .u64 0, .int .u64 0, .int .u64 0, .int .u64 0, .int .u64 0, .int .u64 0, .int .u64 0, .bool false, .int .u64 0, .int .u64 0, .int .u64 0, .int .u64 0, .int .u64 0, .int .u64 0, .int .u64 0, .int .u64 0, .bool false, .int .u64 0, .int .u64 0, .int .u64 0, .int .u64 0, .int .u64 0, .int .u64 0, .int .u64 0, .int .u64 0, .bool false, .int .u64 0, .int .u64 0, .int .u64 0, .int .u64 0, .int .u64 0, .int .u64 0, .int .u64 0, .int .u64 0]) rfl (by assumption) rfl rfl (by decide) rfl ?_ ?_ rfl rfl (by simp [Value.oneCell']) rfl rfl ⟨rfl, ?_⟩
  · have h := heap_alloc_new (w.alloc (.cells #[.bool false, .int .u64 0, .int .u64 0, .int .u64 0, .int .u64 0, .int .u64 0, .int .u64 0, .int .u64 0, .int .u64 0, .bool false, .int .u64 0, .int .u64 0, .int .u64 0, .int .u64 0, .int .u64 0, .int .u64 0, .int .u64 0, .int .u64 0, .bool false, .int .u64 0, .int .u64 0, .int .u64 0, .int .u64 0, .int .u64 0, .int .u64 0, .int .u64 0, .int .u64 0, .bool false, .int .u64 0, .int .u64 0, .int .u64 0, .int .u64 0, .int .u64 0, .int .u64 0, .int .u64 0, .int .u64 0] 161)) (.cells #[.bool false, .int .u64 0, .int .u64 0, .int .u64 0, .int .u64 0, .int .u64 0, .int .u64 0, .int .u64 0, .int .u64 0, .bool true, .int .u64 0, .int .u64 0, .int .u64 0, .int .u64 0, .int .u64 0, .int .u64 0, .int .u64 0, .int .u64 0, .bool false, .int .u64 0, .int .u64 0, .int .u64 0, .int .u64 0, .int .u64 0, .int .u64 0, .int .u64 0, .int .u64 0, .bool true, .int .u64 0, .int .u64 0, .int .u64 0, .int .u64 0, .int .u64 0, .int .u64 0, .int .u64 0, .int .u64 0] 161)
    rw [World.size_alloc] at h
    exact h
  · exact (Below.heap_alloc _ _ _ (by simp)).trans (heap_alloc_new w _)
  · exact below_setCells _ (by omega) _ _ _ (((Below.refl _ _).alloc (Nat.le_refl _) _).alloc (by simp) _)
theorem anchor_eol (w : World) : Calls Tryz.prog 62 #[.int .i64 2] w fun e w' => e = .returned (.agg (bsV (anchB 2)).toArray) ∧ Below w.heap.size w w' := by
  have hV : Value.agg (bsV (anchB 2)).toArray = .agg #[.bool false, .int .u64 0, .int .u64 0, .int .u64 0, .int .u64 0, .int .u64 0, .int .u64 0, .int .u64 0, .int .u64 0, .bool false, .int .u64 0, .int .u64 0, .int .u64 0, .int .u64 0, .int .u64 0, .int .u64 0, .int .u64 0, .int .u64 0, .bool true, .int .u64 0, .int .u64 0, .int .u64 0, .int .u64 0, .int .u64 0, .int .u64 0, .int .u64 0, .int .u64 0, .bool true, .int .u64 0, .int .u64 0, .int .u64 0, .int .u64 0, .int .u64 0, .int .u64 0, .int .u64 0, .int .u64 0] := by rw [show anchB 2 = [⟨false, 0, 0⟩, ⟨false, 0, 0⟩, ⟨true, 0, 0⟩, ⟨true, 0, 0⟩] from rfl]; simp [bsV, bdV, bat, wd_zero]
  rw [hV]
  go_enter Tryz.func62, Tryz.ntmps62
  go_wp2
  refine wp_loop_rounds 5 ?_
  rw [rounds_succ]; go_wp2
  rw [rounds_succ]; go_wp2
  rw [rounds_succ]; go_wp2
  rw [rounds_succ]; go_wp2
  rw [rounds_succ]; go_upto_region 7 with fail
  refine ret_part (b := w.heap.size + 1) (b' := w.heap.size) (cs := [.bool false, .int .u64 0, .int .u64 0, .int .u64 0, .int .u64 0, .int .u64 0, .int .u64 0, .int .u64 0, .int .u64 0, .bool false, .int .u64 0, .int .u64 0, .int .u64 0, .int .u64 0, .int .u64 0, .int .u64 0, .int .u64 0, .int .u64 0, .bool true, .int .u64 0, .int .u64 0, .int .u64 0, .int .u64 0, .int .u64 0, .int .u64 0, .int .u64 0, .int .u64 0, .bool true, .int .u64 0, .int .u64 0, .int .u64 0, .int .u64 0, .int .u64 0, .int .u64 0, .int .u64 0, .int .u64 0]) (zs := [.bool false, .int .u64 0, .int .u64 0, .int .u64 0, .int .u64 0, .int .u64 0, .int .u64 0, .int .u64 0, .int .u64 0, .bool false, .int .u64 0, .int .u64 0, .int .u64 0, .int .u64 0, .int .u64 0, .int .u64 0, .int .u64 0, .int .u64 0, .bool false, .int .u64 0, .int .u64 0, .int .u64 0, .int .u64 0, .int .u64 0, .int .u64 0, .int .u64 0, .int .u64 0, .bool false, .int .u64 0, .int .u64 0, .int .u64 0, .int .u64 0, .int .u64 0, .int .u64 0, .int .u64 0, .int .u64 0]) rfl (by assumption) rfl rfl (by decide) rfl ?_ ?_ rfl rfl (by simp [Value.oneCell']) rfl rfl ⟨rfl, ?_⟩
  · have h := heap_alloc_new (w.alloc (.cells #[.bool false, .int .u64 0, .int .u64 0, .int .u64 0, .int .u64 0, .int .u64 0, .int .u64 0, .int .u64 0, .int .u64 0, .bool false, .int .u64 0, .int .u64 0, .int .u64 0, .int .u64 0, .int .u64 0, .int .u64 0, .int .u64 0, .int .u64 0, .bool false, .int .u64 0, .int .u64 0, .int .u64 0, .int .u64 0, .int .u64 0, .int .u64 0, .int .u64 0, .int .u64 0, .bool false, .int .u64 0, .int .u64 0, .int .u64 0, .int .u64 0, .int .u64 0, .int .u64 0, .int .u64 0, .int .u64 0] 161)) (.cells #[.bool false, .int .u64 0, .int .u64 0, .int .u64 0, .int .u64 0, .int .u64 0, .int .u64 0, .int .u64 0, .int .u64 0, .bool false, .int .u64 0, .int .u64 0, .int .u64 0, .int .u64 0, .int .u64 0, .int .u64 0, .int .u64 0, .int .u64 0, .bool true, .int .u64 0, .int .u64 0, .int .u64 0, .int .u64 0, .int .u64 0, .int .u64 0, .int .u64 0, .int .u64 0, .bool true, .int .u64 0, .int .u64 0, .int .u64 0, .int .u64 0, .int .u64 0, .int .u64 0, .int .u64 0, .int .u64 0] 161)
    rw [World.size_alloc] at h
    exact h
  · exact (Below.heap_alloc _ _ _ (by simp)).trans (heap_alloc_new w _)
  · exact below_setCells _ (by omega) _ _ _ (((Below.refl _ _).alloc (Nat.le_refl _) _).alloc (by simp) _)
end Go.Proofs.YtbekghinikjjeaaGreatDoor.smt
