/- store: the program's store as it lies: a map of names to files, builders within. -/
import Derived.Test.YtbibfpgcnmocjaaSp
import Derived.Maps.OwnSet
import Derived.Shelf.Strconv.Clone
namespace Go.Proofs.Ytbibfpgcnmocjaa
open Go.RowKit

/-- How a pointer to a whole block reads. -/
def ptrR : Value → Option (DataW Unit × List MemPlace)
  | .pointer none => some (.lit (.int .i64 (-1)), [])
  | .pointer (some ⟨b, 0, none⟩) => some (.lit (.int .i64 (b : Nat)), [])
  | _ => none
def ptrD : Option Nat → DataW Unit
  | none => .lit (.int .i64 (-1))
  | some b => .lit (.int .i64 (b : Nat))
def ptrO : Option Nat → Value
  | none => .pointer none
  | some b => .pointer (some ⟨b, 0, none⟩)
theorem ptrR_mk (b : Nat) : ptrR (.pointer (some ⟨b, 0, none⟩)) = some (ptrD (some b), []) := rfl
theorem ptrR_inv {v : Value} {o : Option Nat} {ps : List MemPlace} (h : ptrR v = some (ptrD o, ps)) : v = ptrO o := by
  unfold ptrR at h
  split at h
  · cases o with
    | none => rfl
    | some b =>
      unfold ptrD at h
      simp only [Option.some.injEq, Prod.mk.injEq] at h
      have h1 := h.1
      injection h1 with h1
      injection h1 with _ h1
      omega
  · rename_i b
    cases o with
    | none =>
      unfold ptrD at h
      simp only [Option.some.injEq, Prod.mk.injEq] at h
      have h1 := h.1
      injection h1 with h1
      injection h1 with _ h1
      omega
    | some c =>
      unfold ptrD at h
      simp only [Option.some.injEq, Prod.mk.injEq] at h
      have h1 := h.1
      injection h1 with h1
      injection h1 with _ h1
      have : b = c := by omega
      rw [this]
      rfl
  · cases h
/-- A file: its block, its builder's two cells, what it holds. -/
structure Fb where
  b : Nat
  p : Value
  v : Value
  f : Fl
def cellsF (x : Fb) : Array Value := #[x.p, x.v, .bool x.f.op]
abbrev FA (W : World) (x : Fb) : Prop := BuA W x.b 0 68 (cellsF x) x.p x.v x.f.data
def cellsS (mb : Nat) (p v : Value) (n : Nat) : Array Value := #[.map (some mb), p, v, .int .i64 (n : Nat)]
def ft (b mb : Nat) (v : Value) (fm : List UInt8 → Option Fb) (k : Nat) : Prop := k = b ∨ k = mb ∨ v.ownBlock = some k ∨ ∃ m x, fm m = some x ∧ (k = x.b ∨ x.v.ownBlock = some k)
/-- The program's store at block b. -/
structure SA (W : World) (b mb : Nat) (p v : Value) (fm : List UInt8 → Option Fb) (D : DataW Unit) (S : Sr) : Prop where
  prt : BuA W b 1 66 (cellsS mb p v S.wr) p v S.out
  map : W.ownsMap Try.prog 9 ptrR mb S.fs.length D
  key : ∀ m, D.atKey (.string m) (ptrD none) = ptrD ((fm m).map (·.b))
  has : ∀ m, Maps.has D (.string m) = (fm m).isSome
  siz : Maps.size D = S.fs.length
  lk : ∀ m, look S.fs m = (fm m).map (·.f)
  fil : ∀ m x, fm m = some x → FA W x
  apb : ∀ m m' x y, fm m = some x → fm m' = some y → m ≠ m' → x.b ≠ y.b ∧ ∀ g, x.v.ownBlock = some g → y.v.ownBlock ≠ some g
  apo : ∀ m x, fm m = some x → ∀ g, x.v.ownBlock = some g → v.ownBlock ≠ some g
  ris : Ris S.fs
theorem ownF_lt {W : World} {B e size n : Nat} {v : Value} {xs : List Value} (h : W.ownsRowF B e size v n xs) {g : Nat} (hg : v.ownBlock = some g) : g < W.heap.size := (h.lt g hg).2
section
variable {W : World} {b mb : Nat} {p v : Value} {fm : List UInt8 → Option Fb} {D : DataW Unit} {S : Sr}
theorem map_blk (h : SA W b mb p v fm D S) : ∃ es cl, W.heap[mb]? = some (.map es cl) := by
  obtain ⟨es, cl, h1, _⟩ := h.map
  exact ⟨es, cl, h1⟩
theorem SA.mbne (h : SA W b mb p v fm D S) : mb ≠ b := by
  obtain ⟨es, cl, h1⟩ := map_blk h
  intro e
  have := h.prt.blk
  rw [← e, h1] at this
  cases this
theorem SA.mbrow (h : SA W b mb p v fm D S) {u : Value} {n : Nat} {xs : List Value} (hu : W.ownsRowF 0 5 1 u n xs) : u.ownBlock ≠ some mb := by
  obtain ⟨es, cl, h1⟩ := map_blk h
  rcases hu.2 with ⟨rfl, _⟩ | ⟨g, cap, cur, fz, rfl, _, hh, _⟩
  · simp [Value.ownBlock]
  · intro e
    cases e
    rw [h1] at hh
    cases hh
theorem SA.mbfile (h : SA W b mb p v fm D S) {m : List UInt8} {x : Fb} (hx : fm m = some x) : x.b ≠ mb := by
  obtain ⟨es, cl, h1⟩ := map_blk h
  intro e
  have := (h.fil m x hx).blk
  rw [e, h1] at this
  cases this
theorem SA.bfile (h : SA W b mb p v fm D S) {m : List UInt8} {x : Fb} (hx : fm m = some x) : x.b ≠ b := by
  intro e
  have h1 := (h.fil m x hx).blk
  have h2 := h.prt.blk
  rw [e, h2] at h1
  injection h1 with h1
  injection h1 with _ h1 _
  exact absurd h1 (by decide)
theorem SA.rowb (h : SA W b mb p v fm D S) {u : Value} {n : Nat} {xs : List Value} (hu : W.ownsRowF 0 5 1 u n xs) : u.ownBlock ≠ some b := fun e => ownF_ne hu h.prt.blk (by decide) e rfl
theorem SA.rowf (h : SA W b mb p v fm D S) {u : Value} {n : Nat} {xs : List Value} (hu : W.ownsRowF 0 5 1 u n xs) {m : List UInt8} {x : Fb} (hx : fm m = some x) : u.ownBlock ≠ some x.b := fun e => ownF_ne hu (h.fil m x hx).blk (by decide) e rfl
theorem SA.lt (h : SA W b mb p v fm D S) : ∀ k, ft b mb v fm k → k < W.heap.size := by
  rintro k (rfl | rfl | hk | ⟨m, x, hx, rfl | hk⟩)
  · exact h.prt.blt
  · exact h.map.lt
  · exact ownF_lt h.prt.own hk
  · exact (h.fil m x hx).blt
  · exact ownF_lt (h.fil m x hx).own hk
theorem SA.keep {W' : World} (h : SA W b mb p v fm D S) (hk : ∀ k, ft b mb v fm k → W'.heap[k]? = W.heap[k]?) : SA W' b mb p v fm D S where
  prt := h.prt.keep (hk b (.inl rfl)) (fun g hg => hk g (.inr (.inr (.inl hg))))
  map := by
    obtain ⟨es, cl, h1, h2⟩ := h.map
    exact ⟨es, cl, (hk mb (.inr (.inl rfl))).trans h1, h2⟩
  key := h.key
  has := h.has
  siz := h.siz
  lk := h.lk
  fil := fun m x hx => (h.fil m x hx).keep (hk x.b (.inr (.inr (.inr ⟨m, x, hx, .inl rfl⟩)))) (fun g hg => hk g (.inr (.inr (.inr ⟨m, x, hx, .inr hg⟩))))
  apb := h.apb
  apo := h.apo
  ris := h.ris
theorem SA.step {W' : World} (h : SA W b mb p v fm D S) (hb : Below W.heap.size W W') : SA W' b mb p v fm D S := h.keep (fun k hk => hb.block k (h.lt k hk))
theorem SA.cm (h : SA W b mb p v fm D S) : W.cell? ⟨b, 0, none⟩ = some (.map (some mb)) ∧ W.frozen? ⟨b, 0, none⟩ = false := by simp [World.cell?, World.frozen?, h.prt.blk, cellsS]
theorem SA.cw (h : SA W b mb p v fm D S) : W.cell? ⟨b, 3, none⟩ = some (.int .i64 (S.wr : Nat)) ∧ W.frozen? ⟨b, 3, none⟩ = false := by simp [World.cell?, World.frozen?, h.prt.blk, cellsS]
theorem FA.c2 {x : Fb} (h : FA W x) : W.cell? ⟨x.b, 2, none⟩ = some (.bool x.f.op) ∧ W.frozen? ⟨x.b, 2, none⟩ = false := by simp [World.cell?, World.frozen?, h.blk, cellsF]
theorem SA.find (h : SA W b mb p v fm D S) (m : ByteArray) (hm : m.size ≤ 140737488355328) : (Instr.lookup 60 (.map (some mb)) (.string m) false).run Try.prog W = .ok (ptrO ((fm m.data.toList).map (·.b))) W := by
  obtain ⟨u, ps, hrun, hR⟩ := h.map.lookup (Maps.string_keyed Try.underlying9) Try.underlying60 (z := .pointer none) (by kernel_rfl) (zd := ptrD none) (zp := []) rfl (WideMaps.keyOf_string_mk Try.underlying9 (s := m) (by unfold maxLen; omega))
  rw [h.key] at hR
  rw [hrun, ptrR_inv hR]
theorem SA.len (h : SA W b mb p v fm D S) (ty : TypeId) : (Builtin.len_ #[60] ty #[.map (some mb)]).run Try.prog W = .ok (.int .i64 (S.fs.length : Nat)) W := by
  rw [h.map.len Try.underlying60 ty, h.siz]
/-- The count was written. -/
theorem SA.setWr (h : SA W b mb p v fm D S) (n : Nat) : SA (W.setCell ⟨b, 3, none⟩ (.int .i64 (n : Nat))) b mb p v fm D ⟨S.fs, S.out, n⟩ where
  prt := ⟨put_same _ _ 3 _ h.prt.blk, h.prt.i0, h.prt.i1, h.prt.hp, ownF_keep h.prt.own (fun g hg => put_far _ _ _ _ (fun e => h.rowb h.prt.own (by rw [hg, e]))), h.prt.nil⟩
  map := by
    obtain ⟨es, cl, h1, h2⟩ := h.map
    exact ⟨es, cl, (put_far _ _ _ _ h.mbne).trans h1, h2⟩
  key := h.key
  has := h.has
  siz := h.siz
  lk := h.lk
  fil := fun m x hx => (h.fil m x hx).keep (put_far _ _ _ _ (h.bfile hx)) (fun g hg => put_far _ _ _ _ (fun e => h.rowb (h.fil m x hx).own (by rw [hg, e])))
  apb := h.apb
  apo := h.apo
  ris := h.ris
/-- Something was printed. -/
theorem SA.printed {W' : World} {p' v' : Value} {o : List UInt8} (h : SA W b mb p v fm D S) (hb : BuA W' b 1 66 (cellsS mb p' v' S.wr) p' v' o) (ht : Tch (bft b v) W W') (hg : ∀ g, v'.ownBlock = some g → v.ownBlock = some g ∨ W.heap.size ≤ g) : SA W' b mb p' v' fm D ⟨S.fs, o, S.wr⟩ where
  prt := hb
  map := by
    have hl := h.map.lt
    obtain ⟨es, cl, h1, h2⟩ := h.map
    exact ⟨es, cl, (ht.block mb hl (fun e => e.elim h.mbne (h.mbrow h.prt.own))).trans h1, h2⟩
  key := h.key
  has := h.has
  siz := h.siz
  lk := h.lk
  fil := fun m x hx => (h.fil m x hx).keep (ht.block _ (h.fil m x hx).blt (fun e => e.elim (h.bfile hx) (h.rowf h.prt.own hx))) (fun g hg2 => ht.block g (ownF_lt (h.fil m x hx).own hg2) (fun e => e.elim (fun e => h.rowb (h.fil m x hx).own (by rw [hg2, e])) (fun e => h.apo m x hx g hg2 e)))
  apb := h.apb
  apo := fun m x hx g hg2 e => by
    rcases hg g e with h1 | h1
    · exact h.apo m x hx g hg2 h1
    · have := ownF_lt (h.fil m x hx).own hg2
      omega
  ris := h.ris
def updF (fm : List UInt8 → Option Fb) (n : List UInt8) (x : Fb) (m : List UInt8) : Option Fb := if m = n then some x else fm m
/-- A file was changed. -/
theorem SA.changed {W' : World} {n : List UInt8} {x y : Fb} (h : SA W b mb p v fm D S) (hx : fm n = some x) (hb : y.b = x.b) (hy : FA W' y) (ht : Tch (bft x.b x.v) W W') (hg : ∀ g, y.v.ownBlock = some g → x.v.ownBlock = some g ∨ W.heap.size ≤ g) : SA W' b mb p v (updF fm n y) D ⟨setF S.fs n y.f, S.out, S.wr⟩ where
  prt := h.prt.keep (ht.block b h.prt.blt (fun e => e.elim (fun e => h.bfile hx e.symm) (h.rowb (h.fil n x hx).own))) (fun g hg2 => ht.block g (ownF_lt h.prt.own hg2) (fun e => e.elim (fun e => h.rowf h.prt.own hx (by rw [hg2, e])) (fun e => h.apo n x hx g e hg2)))
  map := by
    have hl := h.map.lt
    obtain ⟨es, cl, h1, h2, h3⟩ := h.map
    refine ⟨es, cl, (ht.block mb hl (fun e => e.elim (fun e => h.mbfile hx e.symm) (h.mbrow (h.fil n x hx).own))).trans h1, h2, ?_⟩
    show es.size ≤ (setF S.fs n y.f).length ∧ _
    rw [len_set]
    exact h3
  key := fun m => by
    rw [h.key]
    unfold updF
    split
    · rename_i e
      rw [e, hx]
      show ptrD (some x.b) = ptrD (some y.b)
      rw [hb]
    · rfl
  has := fun m => by
    rw [h.has]
    unfold updF
    split
    · rename_i e
      rw [e, hx]
      rfl
    · rfl
  siz := by
    show _ = (setF S.fs n y.f).length
    rw [len_set]
    exact h.siz
  lk := fun m => by
    show look (setF S.fs n y.f) m = _
    rw [look_set, h.lk, h.lk, hx]
    unfold updF
    split <;> rfl
  fil := fun m z hz => by
    unfold updF at hz
    split at hz
    · cases hz
      exact hy
    · rename_i hne
      have hd := h.apb m n z x hz hx hne
      exact (h.fil m z hz).keep (ht.block _ (h.fil m z hz).blt (fun e => e.elim hd.1 (h.rowf (h.fil n x hx).own hz))) (fun g hg2 => ht.block g (ownF_lt (h.fil m z hz).own hg2) (fun e => e.elim (fun e => h.rowf (h.fil m z hz).own hx (by rw [hg2, e])) (fun e => hd.2 g hg2 e)))
  apb := fun m m' z z' hz hz' hne => by
    unfold updF at hz hz'
    split at hz
    · rename_i e1
      cases hz
      split at hz'
      · rename_i e2
        exact absurd (e1.trans e2.symm) hne
      · rename_i e2
        have hd := h.apb m' n z' x hz' hx e2
        refine ⟨by rw [hb]; exact fun e => hd.1 e.symm, fun g hg2 hg3 => ?_⟩
        rcases hg g hg2 with h1 | h1
        · exact hd.2 g hg3 h1
        · have := ownF_lt (h.fil m' z' hz').own hg3
          omega
    · rename_i e1
      split at hz'
      · cases hz'
        have hd := h.apb m n z x hz hx e1
        refine ⟨by rw [hb]; exact hd.1, fun g hg2 hg3 => ?_⟩
        rcases hg g hg3 with h1 | h1
        · exact hd.2 g hg2 h1
        · have := ownF_lt (h.fil m z hz).own hg2
          omega
      · exact h.apb m m' z z' hz hz' hne
  apo := fun m z hz g hg2 e => by
    unfold updF at hz
    split at hz
    · cases hz
      rcases hg g hg2 with h1 | h1
      · exact h.apo n x hx g h1 e
      · have := ownF_lt h.prt.own e
        omega
    · exact h.apo m z hz g hg2 e
  ris := ris_set h.ris n y.f
/-- A new file, empty and not opened, was laid in. -/
theorem SA.added {W' : World} {n : List UInt8} {fb : Nat} {D' : DataW Unit} (h : SA W b mb p v fm D S) (hn : fm n = none) (hf : W.heap.size ≤ fb) (hfb : W'.heap[fb]? = some (.cells #[.pointer none, .slice none 0 0, .bool false] 68 (0, 0))) (ht : Tch (fun k => k = mb) W W') (hm : W'.ownsMap Try.prog 9 ptrR mb (S.fs.length + 1) (D.put (.string n) (ptrD (some fb)))) (hD : D' = D.put (.string n) (ptrD (some fb))) : SA W' b mb p v (updF fm n ⟨fb, .pointer none, .slice none 0 0, ⟨[], false⟩⟩) D' ⟨insF S.fs n ⟨[], false⟩, S.out, S.wr⟩ where
  prt := h.prt.keep (ht.block b h.prt.blt (fun e => h.mbne e.symm)) (fun g hg2 => ht.block g (ownF_lt h.prt.own hg2) (fun e => h.mbrow h.prt.own (by rw [hg2, e])))
  map := by
    rw [hD]
    show W'.ownsMap Try.prog 9 ptrR mb (insF S.fs n ⟨[], false⟩).length _
    rw [len_ins]
    exact hm
  key := fun m => by
    rw [hD]
    unfold updF
    split
    · rename_i e
      subst e
      rw [Maps.atKey_put_same h.map.isMap (by trivial)]
      rfl
    · rename_i e
      rw [Maps.atKey_put_other (fun h => e (by injection h))]
      exact h.key m
  has := fun m => by
    rw [hD]
    unfold updF
    split
    · rename_i e
      subst e
      rw [Maps.has_put_same h.map.isMap (by trivial)]
      rfl
    · rename_i e
      rw [Maps.has_put_other (fun h => e (by injection h))]
      exact h.has m
  siz := by
    rw [hD]
    show _ = (insF S.fs n ⟨[], false⟩).length
    rw [len_ins, Maps.size_put (h.map.tidy (Maps.string_keyed Try.underlying9)), h.siz]
    have hh : Maps.has D (.string n) = false := by rw [h.has, hn]; rfl
    rw [hh]
    rfl
  lk := fun m => by
    have hl : look S.fs n = none := by rw [h.lk, hn]; rfl
    show look (insF S.fs n ⟨[], false⟩) m = _
    rw [look_ins _ _ _ _ hl, h.lk]
    unfold updF
    split <;> rfl
  fil := fun m z hz => by
    unfold updF at hz
    split at hz
    · cases hz
      exact ⟨hfb, rfl, rfl, .inl rfl, World.ownsRowF_nil _ _ _ _, fun _ => rfl⟩
    · exact (h.fil m z hz).keep (ht.block _ (h.fil m z hz).blt (fun e => h.mbfile hz e)) (fun g hg2 => ht.block g (ownF_lt (h.fil m z hz).own hg2) (fun e => h.mbrow (h.fil m z hz).own (by rw [hg2, e])))
  apb := fun m m' z z' hz hz' hne => by
    unfold updF at hz hz'
    split at hz
    · rename_i e1
      cases hz
      split at hz'
      · rename_i e2
        exact absurd (e1.trans e2.symm) hne
      · have := (h.fil m' z' hz').blt
        exact ⟨by show fb ≠ _; omega, fun g hg2 => by cases hg2⟩
    · split at hz'
      · cases hz'
        have := (h.fil m z hz).blt
        exact ⟨by show _ ≠ fb; omega, fun g _ hg3 => by cases hg3⟩
      · exact h.apb m m' z z' hz hz' hne
  apo := fun m z hz g hg2 e => by
    unfold updF at hz
    split at hz
    · cases hz
      cases hg2
    · exact h.apo m z hz g hg2 e
  ris := ris_ins n _ S.fs h.ris (by rw [h.lk, hn]; rfl)
end
end Go.Proofs.Ytbibfpgcnmocjaa
