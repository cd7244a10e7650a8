/- store: the document's Write, and Open of a file that is there. -/
import Derived.Test.YtbibfpgcnmocjaaSm
namespace Go.Proofs.Ytbibfpgcnmocjaa
open Go.RowKit

theorem itF_set (fs : Fs) (k : Nat) (n : List UInt8) (f : Fl) : itF (fs.set k (n, f)) = (itF fs).set k (n, f.data) := by unfold itF; rw [List.map_set]
theorem opsV_set (fs : Fs) (k : Nat) (n : List UInt8) (f : Fl) : opsV (fs.set k (n, f)) = (opsV fs).set k (.bool f.op) := by unfold opsV; rw [List.map_set]
theorem set_at {α : Type} {l : List α} {k : Nat} {x : α} (h : l[k]? = some x) : l.set k x = l := by
  apply List.ext_getElem?
  intro j
  rw [List.getElem?_set]
  by_cases e : k = j
  · subst e
    obtain ⟨hl, _⟩ := List.getElem?_eq_some_iff.1 h
    rw [if_pos rfl, if_pos hl, h]
  · rw [if_neg e]
/-- A file's text was exchanged in the list. -/
theorem DA.data {W : World} {B b g cap k : Nat} {ov : Value} {S : Sr} {n : List UInt8} {f : Fl} (h : DA W B b (.slice (some ⟨g, 0, none⟩) S.fs.length cap) ov S) (hk : S.fs[k]? = some (n, f)) (d : List UInt8) : DA (W.setCell ⟨g, k * 2 + 1, none⟩ (.string ⟨d.toArray⟩)) B b (.slice (some ⟨g, 0, none⟩) S.fs.length cap) ov ⟨S.fs.set k (n, ⟨d, f.op⟩), S.out, S.wr⟩ := by
  have hgb : g ≠ b := h.ln rfl
  refine ⟨h.hb, (put_far _ _ _ _ (fun e => hgb e.symm)).trans h.blk, ?_, ?_⟩
  · show World.ownsRow _ B 52 2 _ (S.fs.set k (n, ⟨d, f.op⟩)).length (flV (itF (S.fs.set k (n, ⟨d, f.op⟩))))
    rw [List.length_set, itF_set, flV_set (itF S.fs) k (n, f.data) d (by unfold itF; rw [List.getElem?_map, hk]; rfl)]
    exact owns_set h.lst _
  · show World.ownsRow _ B 4 1 ov (S.fs.set k (n, ⟨d, f.op⟩)).length (opsV (S.fs.set k (n, ⟨d, f.op⟩)))
    rw [List.length_set, opsV_set, set_at (show (opsV S.fs)[k]? = some (.bool f.op) by unfold opsV; rw [List.getElem?_map, hk]; rfl)]
    exact owns_keep h.opn (fun g' hg' => put_far _ _ _ _ (h.lo rfl hg'))
/-- A file was opened in the list. -/
theorem DA.open1 {W : World} {B b g cap k : Nat} {lv : Value} {S : Sr} {n : List UInt8} {f : Fl} (h : DA W B b lv (.slice (some ⟨g, 0, none⟩) S.fs.length cap) S) (hk : S.fs[k]? = some (n, f)) : DA (W.setCell ⟨g, k, none⟩ (.bool true)) B b lv (.slice (some ⟨g, 0, none⟩) S.fs.length cap) ⟨S.fs.set k (n, ⟨f.data, true⟩), S.out, S.wr⟩ := by
  have hgb : g ≠ b := h.on rfl
  refine ⟨h.hb, (put_far _ _ _ _ (fun e => hgb e.symm)).trans h.blk, ?_, ?_⟩
  · show World.ownsRow _ B 52 2 lv (S.fs.set k (n, ⟨f.data, true⟩)).length (flV (itF (S.fs.set k (n, ⟨f.data, true⟩))))
    rw [List.length_set, itF_set, set_at (show (itF S.fs)[k]? = some (n, f.data) by unfold itF; rw [List.getElem?_map, hk]; rfl)]
    exact owns_keep h.lst (fun g' hg' => put_far _ _ _ _ (fun e => h.lo hg' rfl e.symm))
  · show World.ownsRow _ B 4 1 _ (S.fs.set k (n, ⟨f.data, true⟩)).length (opsV (S.fs.set k (n, ⟨f.data, true⟩)))
    rw [List.length_set, opsV_set]
    exact owns_set h.opn _
theorem DA.setWr {W : World} {B b : Nat} {lv ov : Value} {S : Sr} (h : DA W B b lv ov S) (x : Int) (n : Nat) (hx : x = (n : Nat)) : DA (W.setCell ⟨b, 3, none⟩ (.int .i64 x)) B b lv ov ⟨S.fs, S.out, n⟩ := by
  subst hx
  exact ⟨h.hb, put_same _ _ 3 _ h.blk, owns_keep h.lst (fun g hg => put_far _ _ _ _ (h.ln hg)), owns_keep h.opn (fun g hg => put_far _ _ _ _ (h.on hg))⟩

set_option maxRecDepth 100000 in
set_option maxHeartbeats 1000000 in
theorem docWrite_any {W : World} {B b : Nat} {lv ov : Value} {S : Sr} (h : DA W B b lv ov S) (ho : SOk S) (n t : ByteArray) (ht : t.size ≤ 140737488300000) : Calls Try.prog 25 #[ptrV b, .string n, .string t] W (Dst W B b lv ov (S.write n.data.toList t.data.toList) (.int .i64 (writeE S n.data.toList t.data.toList : Nat))) := by
  have hl16 := ho.len
  have HF := hideT (find_any h (by omega) n)
  have HH := hideT h
  obtain ⟨c1, _⟩ := h.c1
  obtain ⟨c0, _⟩ := h.c0
  obtain ⟨c3, f3⟩ := h.c3
  have hw := ho.wr
  have hlt : t.data.toList.length = t.size := rfl
  have w0 : IntKind.i64.wrap ((S.wr : Int) + (t.size : Int)) = (S.wr : Int) + (t.size : Int) := by rw [IntKind.wrap_i64]; omega
  cases hx : idx S.fs n.data.toList with
  | none =>
    rw [hx] at HF
    have hE : writeE S n.data.toList t.data.toList = 5 := by unfold writeE; rw [idx_none hx]
    have hS : S.write n.data.toList t.data.toList = S := by unfold Sr.write; rw [idx_none hx]
    rw [hE, hS]
    clear h hx hE hS
    go_enter Try.func25, Try.ntmps25
    go_wp2_with fail
    refine HF.out.mono ?_
    rintro e w1 ⟨rfl, rfl⟩
    unfold findV
    go_wp2
    go_ret
    exact ⟨rfl, Tch.refl _ _, lv, ov, HH.out, fun k hk => .inl hk⟩
  | some k =>
    rw [hx] at HF
    obtain ⟨f, h1, h2, h3⟩ := idx_some hx
    have hkl := (List.getElem?_eq_some_iff.1 h2).1
    obtain ⟨a2, cap2, rfl, ho2⟩ := h.opens
    obtain ⟨g2, rfl, p2, _⟩ := ho2 k _ h2
    obtain ⟨a1, cap1, rfl, hl2⟩ := h.list
    obtain ⟨g1, rfl, _, p1, q1⟩ := hl2 k _ h2
    dsimp only at p1 p2
    have i1 : (k : Int) < (S.fs.length : Int) := by omega
    have i2 : (0 : Int) ≤ (k : Int) := by omega
    have hda := ho.dat _ _ h1
    cases hop : f.op with
    | false =>
      rw [hop] at p2
      have hE : writeE S n.data.toList t.data.toList = 5 := by unfold writeE; rw [h1]; dsimp only; rw [hop, if_pos rfl]
      have hS : S.write n.data.toList t.data.toList = S := by unfold Sr.write; rw [hE, h1]; rfl
      rw [hE, hS]
      clear h hx hE hS h1 h2 h3 hl2 ho2 hop
      go_enter Try.func25, Try.ntmps25
      go_wp2_with fail
      refine HF.out.mono ?_
      rintro e w1 ⟨rfl, rfl⟩
      unfold findV
      go_wp2
      go_ret
      exact ⟨rfl, Tch.refl _ _, _, _, HH.out, fun k hk => .inl hk⟩
    | true =>
      rw [hop] at p2
      have hwE : writeE S n.data.toList t.data.toList = printE S t.data.toList := by unfold writeE; rw [h1]; dsimp only; rw [if_neg (by rw [hop]; decide)]
      rcases print_two S t.data.toList with ⟨q2, q3, _⟩ | ⟨q2, q3, _⟩
      · have hS : S.write n.data.toList t.data.toList = ⟨S.fs.set k (n.data.toList, ⟨f.data ++ t.data.toList, f.op⟩), S.out, S.wr + t.size⟩ := by unfold Sr.write; rw [hwE, q2, h1, ← h3]; rfl
        rw [hwE, q2, hS]
        have k1 : ((32768 : Int) < (S.wr : Int) + (t.size : Int)) = False := by rw [eq_iff_iff, iff_false]; omega
        have k2 : (32768 < S.wr + t.size) = False := by rw [eq_iff_iff, iff_false]; omega
        have z1 := big_false f.data t (by omega)
        have z2 : (9223372036854775807 < f.data.length + t.size) = False := by rw [eq_iff_iff, iff_false]; omega
        have HA := hideT (show (⟨f.data.toArray⟩ : ByteArray) ++ t = ⟨(f.data ++ t.data.toList).toArray⟩ by apply ByteArray.ext; rw [ByteArray.data_append]; simp)
        have HP := hideT (show ∀ (x : Int) (y : ByteArray), x = ((S.wr + t.size : Nat) : Int) → y = ⟨(f.data ++ t.data.toList).toArray⟩ → DA ((W.setCell ⟨b, 3, none⟩ (.int .i64 x)).setCell ⟨g1, k * 2 + 1, none⟩ (.string y)) B b (.slice (some ⟨g1, 0, none⟩) S.fs.length cap1) (.slice (some ⟨g2, 0, none⟩) S.fs.length cap2) ⟨S.fs.set k (n.data.toList, ⟨f.data ++ t.data.toList, f.op⟩), S.out, S.wr + t.size⟩ ∧ Tch (dft b (.slice (some ⟨g1, 0, none⟩) S.fs.length cap1) (.slice (some ⟨g2, 0, none⟩) S.fs.length cap2)) W ((W.setCell ⟨b, 3, none⟩ (.int .i64 x)).setCell ⟨g1, k * 2 + 1, none⟩ (.string y)) from by
          intro x y hx hy
          subst hy
          exact ⟨DA.data (S := ⟨S.fs, S.out, S.wr + t.size⟩) (h.setWr x _ hx) h2 _, ((Tch.refl _ W).put (.inl rfl) _ _).put (.inr (.inl rfl)) _ _⟩)
        have hgb : g1 ≠ b := h.ln rfl
        have hbg : b ≠ g1 := fun e => hgb e.symm
        clear h hx hS h1 h2 h3 hl2 ho2 hop hwE q2 q3 hda
        go_enter Try.func25, Try.ntmps25
        go_wp2_with fail
        refine HF.out.mono ?_
        rintro e w1 ⟨rfl, rfl⟩
        unfold findV
        go_wp2
        go_ret
        have hz := HP.out _ _ (by first | rfl | omega) HA.out
        exact ⟨rfl, hz.2, _, _, hz.1, fun k hk => .inl hk⟩
      · have hS : S.write n.data.toList t.data.toList = S := by unfold Sr.write; rw [hwE, q2, h1]; rfl
        rw [hwE, q2, hS]
        have k1 : (32768 : Int) < (S.wr : Int) + (t.size : Int) := by omega
        clear h hx hS h1 h2 h3 hl2 ho2 hop hwE q2 q3 hda
        go_enter Try.func25, Try.ntmps25
        go_wp2_with fail
        refine HF.out.mono ?_
        rintro e w1 ⟨rfl, rfl⟩
        unfold findV
        go_wp2
        go_ret
        exact ⟨rfl, Tch.refl _ _, _, _, HH.out, fun k hk => .inl hk⟩
end Go.Proofs.Ytbibfpgcnmocjaa
