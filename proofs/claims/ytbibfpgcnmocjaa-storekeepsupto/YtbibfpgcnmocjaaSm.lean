/- store: the document's store: find, Read, Print, Write. -/
import Derived.Test.YtbibfpgcnmocjaaSx
import Derived.Test.YtbibfpgcnmocjaaSj
namespace Go.Proofs.Ytbibfpgcnmocjaa
open Go.RowKit

def idx : Fs → List UInt8 → Option Nat
  | [], _ => none
  | x :: r, n => if x.1 = n then some 0 else (idx r n).map (· + 1)
def findV : Option Nat → Int
  | none => -1
  | some k => (k : Nat)
def opsV (fs : Fs) : List Value := fs.map fun x => Value.bool x.2.op
def itF (fs : Fs) : List It := fs.map fun x => (x.1, x.2.data)
theorem idx_none {n : List UInt8} : ∀ {l : Fs}, idx l n = none → look l n = none
  | [], _ => rfl
  | x :: r, h => by
    unfold idx at h
    split at h
    · cases h
    · rename_i hne
      simp only [look, if_neg hne]
      exact idx_none (by simpa using h)
theorem idx_some {n : List UInt8} : ∀ {l : Fs} {k : Nat}, idx l n = some k → ∃ f, look l n = some f ∧ l[k]? = some (n, f) ∧ ∀ f', setF l n f' = l.set k (n, f')
  | [], k, h => by cases h
  | x :: r, k, h => by
    unfold idx at h
    split at h
    · rename_i e
      cases h
      refine ⟨x.2, by simp [look, e], by simp [← e], fun f' => by simp [setF, e]⟩
    · rename_i hne
      obtain ⟨j, hj, rfl⟩ := Option.map_eq_some_iff.1 h
      obtain ⟨f, h1, h2, h3⟩ := idx_some hj
      exact ⟨f, by simp [look, hne, h1], by simpa using h2, fun f' => by simp [setF, hne, h3 f']⟩
theorem idx_drop {n : List UInt8} {l : Fs} {k : Nat} (h : k < l.length) : idx (l.drop k) n = if (l[k]'h).1 = n then some 0 else (idx (l.drop (k + 1)) n).map (· + 1) := by
  rw [List.drop_eq_getElem_cons h]
  rfl
theorem flV_set : ∀ (l : List It) (k : Nat) (x : It) (d : List UInt8), l[k]? = some x → flV (l.set k (x.1, d)) = (flV l).set (k * 2 + 1) (.string ⟨d.toArray⟩)
  | [], k, x, d, h => by simp at h
  | y :: r, 0, x, d, h => by
    simp at h
    subst h
    rfl
  | y :: r, k + 1, x, d, h => by
    have ih := flV_set r k x d (by simpa using h)
    rw [show (k + 1) * 2 + 1 = (k * 2 + 1) + 1 + 1 by omega]
    simp [flV, ih]
/-- A cell of an own row written. -/
theorem owns_set {W : World} {B e size n g cap : Nat} {xs : List Value} (h : W.ownsRow B e size (.slice (some ⟨g, 0, none⟩) n cap) n xs) {j : Nat} (u : Value) : (W.setCell ⟨g, j, none⟩ u).ownsRow B e size (.slice (some ⟨g, 0, none⟩) n cap) n (xs.set j u) := by
  obtain ⟨hl, h2⟩ := h
  refine ⟨by rw [List.length_set]; exact hl, ?_⟩
  rcases h2 with ⟨h2, _⟩ | ⟨g', cap', cur, hv, hb, hh, h3, h4, h5, h6⟩
  · cases h2
  · cases hv
    refine .inr ⟨g, cap, cur.setIfInBounds j u, rfl, hb, put_same _ _ _ _ hh, h3, h4, by rw [Array.size_setIfInBounds]; exact h5, ?_⟩
    rw [Array.toList_setIfInBounds, List.take_set, h6]
/-- The document's store at block b. -/
structure DA (W : World) (B b : Nat) (lv ov : Value) (S : Sr) : Prop where
  hb : B ≤ b
  blk : W.heap[b]? = some (.cells #[lv, ov, .string ⟨S.out.toArray⟩, .int .i64 (S.wr : Nat)] 37 (0, 0))
  lst : W.ownsRow B 52 2 lv S.fs.length (flV (itF S.fs))
  opn : W.ownsRow B 4 1 ov S.fs.length (opsV S.fs)
section
variable {W : World} {B b : Nat} {lv ov : Value} {S : Sr}
theorem DA.blt (h : DA W B b lv ov S) : b < W.heap.size := (Array.getElem?_eq_some_iff.1 h.blk).1
theorem row_type {W : World} {B e size n : Nat} {v : Value} {xs : List Value} (h : W.ownsRow B e size v n xs) {g : Nat} (hg : v.ownBlock = some g) : ∃ cur, W.heap[g]? = some (.cells cur e (0, 0)) := (owns_blk h hg).2.2
theorem row_ne {W : World} {B e size n b : Nat} {v : Value} {xs : List Value} {cs : Array Value} {T : TypeId} {fr : Nat × Nat} (h : W.ownsRow B e size v n xs) (hb : W.heap[b]? = some (.cells cs T fr)) (hT : T ≠ e) {g : Nat} (hg : v.ownBlock = some g) : g ≠ b := by
  obtain ⟨cur, hh⟩ := row_type h hg
  intro e
  rw [← e, hh] at hb
  injection hb with hb
  injection hb with _ hb _
  exact hT hb.symm
theorem DA.ln (h : DA W B b lv ov S) {g : Nat} (hg : lv.ownBlock = some g) : g ≠ b := row_ne h.lst h.blk (by decide) hg
theorem DA.on (h : DA W B b lv ov S) {g : Nat} (hg : ov.ownBlock = some g) : g ≠ b := row_ne h.opn h.blk (by decide) hg
theorem DA.lo (h : DA W B b lv ov S) {g g' : Nat} (hg : lv.ownBlock = some g) (hg' : ov.ownBlock = some g') : g' ≠ g := by
  obtain ⟨cur, hh⟩ := row_type h.lst hg
  exact row_ne h.opn hh (by decide) hg'
/-- Its blocks. -/
def dft (b : Nat) (lv ov : Value) (k : Nat) : Prop := k = b ∨ lv.ownBlock = some k ∨ ov.ownBlock = some k
theorem DA.lt (h : DA W B b lv ov S) {k : Nat} (hk : dft b lv ov k) : B ≤ k ∧ k < W.heap.size := by
  rcases hk with rfl | hk | hk
  · exact ⟨h.hb, h.blt⟩
  · exact row_in h.lst hk
  · exact row_in h.opn hk
theorem DA.keep {W' : World} (h : DA W B b lv ov S) (hk : ∀ k, dft b lv ov k → W'.heap[k]? = W.heap[k]?) : DA W' B b lv ov S :=
  ⟨h.hb, (hk b (.inl rfl)).trans h.blk, owns_keep h.lst (fun g hg => hk g (.inr (.inl hg))), owns_keep h.opn (fun g hg => hk g (.inr (.inr hg)))⟩
theorem DA.c0 (h : DA W B b lv ov S) : W.cell? ⟨b, 0, none⟩ = some lv ∧ W.frozen? ⟨b, 0, none⟩ = false := by simp [World.cell?, World.frozen?, h.blk]
theorem DA.c1 (h : DA W B b lv ov S) : W.cell? ⟨b, 1, none⟩ = some ov ∧ W.frozen? ⟨b, 1, none⟩ = false := by simp [World.cell?, World.frozen?, h.blk]
theorem DA.c2 (h : DA W B b lv ov S) : W.cell? ⟨b, 2, none⟩ = some (.string ⟨S.out.toArray⟩) ∧ W.frozen? ⟨b, 2, none⟩ = false := by simp [World.cell?, World.frozen?, h.blk]
theorem DA.c3 (h : DA W B b lv ov S) : W.cell? ⟨b, 3, none⟩ = some (.int .i64 (S.wr : Nat)) ∧ W.frozen? ⟨b, 3, none⟩ = false := by simp [World.cell?, World.frozen?, h.blk]
/-- Its list. -/
theorem DA.list (h : DA W B b lv ov S) : ∃ a cap, lv = .slice a S.fs.length cap ∧ ∀ k x, S.fs[k]? = some x → ∃ g, a = some ⟨g, 0, none⟩ ∧ (W.cell? ⟨g, k * 2, none⟩ = some (.string ⟨x.1.toArray⟩) ∧ W.frozen? ⟨g, k * 2, none⟩ = false) ∧ W.cell? ⟨g, k * 2 + 1, none⟩ = some (.string ⟨x.2.data.toArray⟩) ∧ W.frozen? ⟨g, k * 2 + 1, none⟩ = false := by
  rcases h.lst.2 with ⟨rfl, h0⟩ | ⟨g, cap, cur, rfl, _, hh, _⟩
  · refine ⟨none, 0, by rw [h0], fun k x hx => ?_⟩
    have := (List.getElem?_eq_some_iff.1 hx).1
    omega
  · refine ⟨_, cap, rfl, fun k x hx => ⟨g, rfl, ?_⟩⟩
    obtain ⟨h1, h2⟩ := flV_at (itF S.fs) k (x.1, x.2.data) (by unfold itF; rw [List.getElem?_map, hx]; rfl)
    have c1 := h.lst.cells (g := g) rfl _ _ h1
    have c2 := h.lst.cells (g := g) rfl _ _ h2
    have hadd : ∀ j, (⟨g, 0, none⟩ : Addr).add j = ⟨g, j, none⟩ := fun j => by unfold Addr.add; split <;> simp_all
    rw [hadd] at c1 c2
    exact ⟨⟨c1, by simp [World.frozen?, hh]⟩, c2, by simp [World.frozen?, hh]⟩
theorem DA.opens (h : DA W B b lv ov S) : ∃ a cap, ov = .slice a S.fs.length cap ∧ ∀ k x, S.fs[k]? = some x → ∃ g, a = some ⟨g, 0, none⟩ ∧ W.cell? ⟨g, k, none⟩ = some (.bool x.2.op) ∧ W.frozen? ⟨g, k, none⟩ = false := by
  rcases h.opn.2 with ⟨rfl, h0⟩ | ⟨g, cap, cur, rfl, _, hh, _⟩
  · refine ⟨none, 0, by rw [h0], fun k x hx => ?_⟩
    have := (List.getElem?_eq_some_iff.1 hx).1
    omega
  · refine ⟨_, cap, rfl, fun k x hx => ⟨g, rfl, ?_⟩⟩
    have c1 := h.opn.cells (g := g) rfl k (.bool x.2.op) (by unfold opsV; rw [List.getElem?_map, hx]; rfl)
    have hadd : ∀ j, (⟨g, 0, none⟩ : Addr).add j = ⟨g, j, none⟩ := fun j => by unfold Addr.add; split <;> simp_all
    rw [hadd] at c1
    exact ⟨c1, by simp [World.frozen?, hh]⟩
end

set_option maxRecDepth 100000 in
set_option maxHeartbeats 1000000 in
theorem find_any {W : World} {B b : Nat} {lv ov : Value} {S : Sr} (h : DA W B b lv ov S) (hl : S.fs.length ≤ 1000) (n : ByteArray) : Calls Try.prog 28 #[ptrV b, .string n] W fun e w' => e = .returned (.int .i64 (findV (idx S.fs n.data.toList))) ∧ w' = W := by
  obtain ⟨c0, _⟩ := h.c0
  obtain ⟨a, cap, rfl, hrow⟩ := h.list
  have HR := hideT hrow
  obtain ⟨R, hR⟩ : ∃ R, R = idx S.fs n.data.toList := ⟨_, rfl⟩
  rw [← hR]
  have HRR := hideT hR
  clear h hrow hR
  go_enter Try.func28, Try.ntmps28
  go_wp2_with fail
  go_loopw [5] (fun iv wr => ∃ k : Nat, k ≤ S.fs.length ∧ iv = .int .i64 (k : Nat) ∧ Hid (R = (idx (S.fs.drop k) n.data.toList).map (· + k)) ∧ wr = W) (fun iv _ => S.fs.length - (intOf iv).toNat)
  case atStart => exact ⟨0, Nat.zero_le _, rfl, hideT (by rw [HRR.out]; simp), rfl⟩
  case round =>
    obtain ⟨k, hk, rfl, HI, rfl⟩ := hrel
    by_cases hlt : k < S.fs.length
    · have i1 : (k : Int) < (S.fs.length : Int) := by omega
      have i2 : (0 : Int) ≤ (k : Int) := by omega
      obtain ⟨g, rfl, ⟨p1, _⟩, _⟩ := HR.out k _ (List.getElem?_eq_getElem hlt)
      have hst := idx_drop (n := n.data.toList) hlt
      generalize (S.fs[k]'hlt) = x at p1 hst
      have w1 : IntKind.i64.wrap ((k : Int) + 1) = (k : Int) + 1 := by rw [IntKind.wrap_i64]; omega
      by_cases he : x.1 = n.data.toList
      · have e1 : (x.1 == n.toList) = true := by rw [ByteArray.toList_eq, he]; exact beq_self_eq_true _
        have HE := hideT (show R = some k by rw [HI.out, hst, if_pos he]; simp)
        clear he hst
        go_wp2
        go_ret
        exact ⟨by rw [HE.out]; rfl, rfl⟩
      · have e1 : (x.1 == n.toList) = false := by rw [ByteArray.toList_eq, beq_eq_false_iff_ne]; exact he
        have HE := hideT (show R = (idx (S.fs.drop (k + 1)) n.data.toList).map (· + (k + 1)) by
          rw [HI.out, hst, if_neg he, Option.map_map]
          congr 1
          funext z
          show z + 1 + k = z + (k + 1)
          omega)
        clear he hst
        go_wp2
        exact ⟨⟨k + 1, by omega, by go_num, HE, by first | rfl | trivial⟩, by simp [intOf]; omega⟩
    · obtain rfl : k = S.fs.length := by omega
      have i1 : ((S.fs.length : Int) < (S.fs.length : Int)) = False := by rw [eq_iff_iff, iff_false]; omega
      have HE := hideT (show R = none by rw [HI.out, List.drop_of_length_le (Nat.le_refl _)]; rfl)
      go_wp2
      go_ret
      exact ⟨by rw [HE.out]; rfl, rfl⟩

set_option maxRecDepth 100000 in
set_option maxHeartbeats 1000000 in
theorem docRead_any {W : World} {B b : Nat} {lv ov : Value} {S : Sr} (h : DA W B b lv ov S) (hl : S.fs.length ≤ 1000) (n : ByteArray) : Calls Try.prog 12 #[ptrV b, .string n] W fun e w' => e = .returned (.tuple #[.string ⟨(readD S n.data.toList).toArray⟩, .bool (look S.fs n.data.toList).isSome]) ∧ w' = W := by
  have HF := hideT (find_any h hl n)
  obtain ⟨c0, _⟩ := h.c0
  obtain ⟨a, cap, rfl, hrow⟩ := h.list
  have HR := hideT hrow
  unfold readD
  cases hx : idx S.fs n.data.toList with
  | none =>
    rw [hx] at HF
    rw [idx_none hx]
    clear h hrow hx
    go_enter Try.func12, Try.ntmps12
    go_wp2_with fail
    refine HF.out.mono ?_
    rintro e w1 ⟨rfl, rfl⟩
    unfold findV
    go_wp2
    go_ret2
    exact ⟨rfl, rfl⟩
  | some k =>
    rw [hx] at HF
    obtain ⟨f, h1, h2, _⟩ := idx_some hx
    rw [h1]
    have hlt := (List.getElem?_eq_some_iff.1 h2).1
    obtain ⟨g, rfl, _, p2, _⟩ := HR.out k _ h2
    have i1 : (k : Int) < (S.fs.length : Int) := by omega
    have i2 : (0 : Int) ≤ (k : Int) := by omega
    dsimp only at p2
    clear h hrow hx h1 h2
    go_enter Try.func12, Try.ntmps12
    go_wp2_with fail
    refine HF.out.mono ?_
    rintro e w1 ⟨rfl, rfl⟩
    unfold findV
    go_wp2
    go_ret2
    exact ⟨rfl, rfl⟩
/-- What a call of the document's leaves. -/
def Dst (W : World) (B b : Nat) (lv ov : Value) (S : Sr) (R : Value) (e : Ending) (w' : World) : Prop := e = .returned R ∧ Tch (dft b lv ov) W w' ∧ ∃ lv2 ov2, DA w' B b lv2 ov2 S ∧ ∀ k, dft b lv2 ov2 k → dft b lv ov k ∨ W.heap.size ≤ k

set_option maxRecDepth 100000 in
set_option maxHeartbeats 1000000 in
theorem docPrint_any {W : World} {B b : Nat} {lv ov : Value} {S : Sr} (h : DA W B b lv ov S) (ho : SOk S) (t : ByteArray) (ht : t.size ≤ 140737488300000) : Calls Try.prog 26 #[ptrV b, .string t] W (Dst W B b lv ov (S.print t.data.toList) (.int .i64 (printE S t.data.toList : Nat))) := by
  obtain ⟨c3, f3⟩ := h.c3
  obtain ⟨c2, f2⟩ := h.c2
  have hw := ho.wr
  have hou := ho.out
  have hlt : t.data.toList.length = t.size := rfl
  have w0 : IntKind.i64.wrap ((S.wr : Int) + (t.size : Int)) = (S.wr : Int) + (t.size : Int) := by rw [IntKind.wrap_i64]; omega
  rcases print_two S t.data.toList with ⟨q1, q2, q3⟩ | ⟨q1, q2, q3⟩
  · rw [q1, q3]
    have k1 : ((32768 : Int) < (S.wr : Int) + (t.size : Int)) = False := by rw [eq_iff_iff, iff_false]; omega
    have k2 : (32768 < S.wr + t.size) = False := by rw [eq_iff_iff, iff_false]; omega
    have z1 := big_false S.out t (by omega)
    have HP := hideT (show ∀ (x : Int) (y : ByteArray), x = ((S.wr + t.size : Nat) : Int) → y = ⟨(S.out ++ t.data.toList).toArray⟩ → DA ((W.setCell ⟨b, 3, none⟩ (.int .i64 x)).setCell ⟨b, 2, none⟩ (.string y)) B b lv ov ⟨S.fs, S.out ++ t.data.toList, S.wr + t.data.toList.length⟩ ∧ Tch (dft b lv ov) W ((W.setCell ⟨b, 3, none⟩ (.int .i64 x)).setCell ⟨b, 2, none⟩ (.string y)) from by
      rintro x y rfl rfl
      exact ⟨⟨h.hb, put_same _ _ 2 _ (put_same _ _ 3 _ h.blk), owns_keep h.lst (fun g hg => (put_far _ _ _ _ (h.ln hg)).trans (put_far _ _ _ _ (h.ln hg))), owns_keep h.opn (fun g hg => (put_far _ _ _ _ (h.on hg)).trans (put_far _ _ _ _ (h.on hg)))⟩, ((Tch.refl _ W).put (.inl rfl) _ _).put (.inl rfl) _ _⟩)
    have HA := hideT (show (⟨S.out.toArray⟩ : ByteArray) ++ t = ⟨(S.out ++ t.data.toList).toArray⟩ by apply ByteArray.ext; rw [ByteArray.data_append]; simp)
    clear h q1 q2 q3
    go_enter Try.func26, Try.ntmps26
    go_wp2
    go_ret
    have hz := HP.out _ _ (by first | rfl | omega) HA.out
    exact ⟨rfl, hz.2, lv, ov, hz.1, fun k hk => .inl hk⟩
  · rw [q1, q3]
    have k1 : (32768 : Int) < (S.wr : Int) + (t.size : Int) := by omega
    have HH := hideT h
    clear h q1 q2 q3
    go_enter Try.func26, Try.ntmps26
    go_wp2
    go_ret
    exact ⟨rfl, Tch.refl _ _, lv, ov, HH.out, fun k hk => .inl hk⟩
end Go.Proofs.Ytbibfpgcnmocjaa
