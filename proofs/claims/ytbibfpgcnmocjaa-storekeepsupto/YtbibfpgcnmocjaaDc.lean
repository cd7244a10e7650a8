/- store: the document's Open. -/
import Derived.Test.YtbibfpgcnmocjaaDb
namespace Go.Proofs.Ytbibfpgcnmocjaa
open Go.RowKit

theorem arr_list (n : ByteArray) : (⟨n.data.toList.toArray⟩ : ByteArray) = n := by cases n; rfl

set_option maxRecDepth 100000 in
set_option maxHeartbeats 2000000 in
theorem docOpen_any {W : World} {B b : Nat} {lv ov : Value} {S : Sr} (h : DA W B b lv ov S) (ho : SOk S) (n : ByteArray) : Calls Try.prog 24 #[ptrV b, .string n] W (Dst W B b lv ov (S.openS n.data.toList) (.int .i64 (openE S n.data.toList : Nat))) := by
  have HNM := hideT (docName_any n)
  have hl16 := ho.len
  have HF := hideT (find_any h (by omega) n)
  have HH := hideT h
  obtain ⟨c0, _⟩ := h.c0
  obtain ⟨c1, _⟩ := h.c1
  have HSame := hideT (fun (E : Nat) (hE : openE S n.data.toList = E) (h0 : E ≠ 0) => show S.openS n.data.toList = S from by unfold Sr.openS; rw [hE, if_neg h0])
  cases hnb : nameB n.data.toList with
  | false =>
    have hE : openE S n.data.toList = 3 := by unfold openE; rw [hnb, if_pos rfl]
    rw [hnb] at HNM
    rw [HSame.out 3 hE (by decide), hE]
    clear h hE hnb HSame ho c0 c1
    go_enter Try.func24, Try.ntmps24
    go_wp2_with fail
    refine (HNM.out _).mono ?_
    rintro e w1 ⟨rfl, rfl⟩
    go_wp2
    go_ret
    exact ⟨rfl, Tch.refl _ _, lv, ov, HH.out, fun k hk => .inl hk⟩
  | true =>
    rw [hnb] at HNM
    cases hx : idx S.fs n.data.toList with
    | none =>
      rw [hx] at HF
      have hl' : (look S.fs n.data.toList).isSome = false := by rw [idx_none hx]; rfl
      obtain ⟨a1, cap1, rfl, _⟩ := h.list
      by_cases hfull : 16 ≤ S.fs.length
      · have k1 : (16 : Int) ≤ (S.fs.length : Int) := by omega
        have hE : openE S n.data.toList = 4 := by unfold openE; rw [hnb, if_neg (by decide), hl', if_neg (by decide), if_pos hfull]
        rw [HSame.out 4 hE (by decide), hE]
        clear h hE hl' hx hnb HSame ho hfull
        go_enter Try.func24, Try.ntmps24
        go_wp2_with fail
        refine (HNM.out _).mono ?_
        rintro e w1 ⟨rfl, rfl⟩
        go_wp2_with fail
        refine HF.out.mono ?_
        rintro e w1 ⟨rfl, rfl⟩
        unfold findV
        go_wp2
        go_ret
        exact ⟨rfl, Tch.refl _ _, _, ov, HH.out, fun k hk => .inl hk⟩
      · have k1 : ((16 : Int) ≤ (S.fs.length : Int)) = False := by rw [eq_iff_iff, iff_false]; omega
        have hE : openE S n.data.toList = 0 := by unfold openE; rw [hnb, if_neg (by decide), hl', if_neg (by decide), if_neg hfull]
        have hS : S.openS n.data.toList = ⟨insF S.fs n.data.toList ⟨[], true⟩, S.out, S.wr⟩ := by unfold Sr.openS; rw [hE, if_pos rfl, hl', if_neg (by decide)]
        rw [hE, hS]
        have hp := put_any h hl16 n.data.toList [] true
        rw [arr_list] at hp
        have HP := hideT hp
        clear h hE hl' hx hnb HSame ho hfull hp hS
        go_enter Try.func24, Try.ntmps24
        go_wp2_with fail
        refine (HNM.out _).mono ?_
        rintro e w1 ⟨rfl, rfl⟩
        go_wp2_with fail
        refine HF.out.mono ?_
        rintro e w1 ⟨rfl, rfl⟩
        unfold findV
        go_wp2_with fail
        refine HP.out.mono ?_
        rintro e w2 ⟨rfl, ht, lv2, ov2, hd, hg⟩
        have HT := hideT ht
        have HD := hideT hd
        have HG := hideT hg
        clear ht hd hg
        go_wp2
        go_ret
        exact ⟨rfl, HT.out.mono (fun j hj => .inl hj), lv2, ov2, HD.out, fun k hk => by
          rcases hk with hk | hk
          · exact .inl (.inl hk)
          · exact .inr (HG.out k hk)⟩
    | some k =>
      rw [hx] at HF
      obtain ⟨f, h1, h2, h3⟩ := idx_some hx
      have hkl := (List.getElem?_eq_some_iff.1 h2).1
      obtain ⟨a2, cap2, rfl, ho2⟩ := h.opens
      obtain ⟨g2, rfl, p2, q2⟩ := ho2 k _ h2
      obtain ⟨a1, cap1, rfl, hl2⟩ := h.list
      obtain ⟨g1, rfl, _, p1, q1⟩ := hl2 k _ h2
      dsimp only at p1 p2
      have i1 : (k : Int) < (S.fs.length : Int) := by omega
      have i2 : (0 : Int) ≤ (k : Int) := by omega
      have hl' : (look S.fs n.data.toList).isSome = true := by rw [h1]; rfl
      have hE : openE S n.data.toList = 0 := by unfold openE; rw [hnb, if_neg (by decide), if_pos hl']
      have hS : S.openS n.data.toList = ⟨S.fs.set k (n.data.toList, ⟨[], true⟩), S.out, S.wr⟩ := by unfold Sr.openS; rw [hE, if_pos rfl, if_pos hl', h3]
      rw [hE, hS]
      have HP := hideT (show DA ((W.setCell ⟨g1, k * 2 + 1, none⟩ (.string ⟨#[]⟩)).setCell ⟨g2, k, none⟩ (.bool true)) B b (.slice (some ⟨g1, 0, none⟩) S.fs.length cap1) (.slice (some ⟨g2, 0, none⟩) S.fs.length cap2) ⟨S.fs.set k (n.data.toList, ⟨[], true⟩), S.out, S.wr⟩ ∧ Tch (dft b (.slice (some ⟨g1, 0, none⟩) S.fs.length cap1) (.slice (some ⟨g2, 0, none⟩) S.fs.length cap2)) W ((W.setCell ⟨g1, k * 2 + 1, none⟩ (.string ⟨#[]⟩)).setCell ⟨g2, k, none⟩ (.bool true)) from by
        refine ⟨?_, ((Tch.refl _ W).put (.inr (.inl rfl)) _ _).put (.inr (.inr rfl)) _ _⟩
        have hz := h.data h2 []
        have hz2 := DA.open1 (g := g2) (cap := cap2) (k := k) (n := n.data.toList) (f := ⟨[], f.op⟩) (S := ⟨S.fs.set k (n.data.toList, ⟨[], f.op⟩), S.out, S.wr⟩) (by simpa only [List.length_set] using hz) (by rw [List.getElem?_set_self hkl])
        simpa only [List.length_set, List.set_set] using hz2)
      have hgb : g1 ≠ b := h.ln rfl
      have hgb2 : g2 ≠ b := h.on rfl
      have hgg : g2 ≠ g1 := h.lo rfl rfl
      have hbg : b ≠ g1 := fun e => hgb e.symm
      clear h hx hS h1 h2 h3 hl2 ho2 hE hl' hnb HSame
      go_enter Try.func24, Try.ntmps24
      go_wp2_with fail
      refine (HNM.out _).mono ?_
      rintro e w1 ⟨rfl, rfl⟩
      go_wp2_with fail
      refine HF.out.mono ?_
      rintro e w1 ⟨rfl, rfl⟩
      unfold findV
      go_wp2
      go_ret
      exact ⟨rfl, HP.out.2, _, _, HP.out.1, fun k hk => .inl hk⟩
end Go.Proofs.Ytbibfpgcnmocjaa
