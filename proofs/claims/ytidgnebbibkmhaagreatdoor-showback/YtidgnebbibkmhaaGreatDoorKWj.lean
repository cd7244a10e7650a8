/- show: between, word, address: the walks. -/
import Derived.Test.YtidgnebbibkmhaaGreatDoorKWi
set_option maxRecDepth 100000
set_option maxHeartbeats 4000000
namespace Go.Proofs.YtidgnebbibkmhaaGreatDoor
open Go.RowKit
open scanP scrP tpl ytb
namespace sho

theorem bws_app (d : UInt8) (x y : List (List UInt8)) : bws d (x ++ y) = bws d x ++ bws d y := by
  induction x with
  | nil => rfl
  | cons t x ih => simp only [List.cons_append, bws, ih, List.append_assoc]
/-- What between makes of what is written. -/
def btS (ts : List (List UInt8)) (x : List UInt8 × Bool) : List UInt8 × Bool := match btw ts with
  | none => (x.1, true)
  | some t => (x.1 ++ t, x.2)
def tsN (ts : List (List UInt8)) : Nat := (ts.map List.length).sum
theorem bws_len (d : UInt8) (ts : List (List UInt8)) : (bws d ts).length = tsN ts + ts.length := by
  induction ts with
  | nil => rfl
  | cons t r ih => simp only [bws, List.length_append, List.length_cons, ih, tsN, List.map_cons, List.sum_cons]; omega
theorem wr_st {W : World} {B b : Nat} {l : List UInt8} {st : Bool} (h : Wr W B b l st) (hB : B ≤ W.heap.size) : W.cell? ⟨b, 2, none⟩ = some (.bool st) ∧ W.frozen? ⟨b, 2, none⟩ = false ∧ WP W B b l true (W.setCell ⟨b, 2, none⟩ (.bool true)) := by
  obtain ⟨p, v, h⟩ := h
  refine ⟨by rw [Lib.cell_of_heap h.blk]; rfl, Lib.frozen_of_heap h.blk 2, ?_⟩
  have := h.put (k := 2) (u := .bool true) (grown_refl W _) h.own rfl (fun g hg => .inl hg) rfl h.hp hB
  exact ⟨⟨_, _, this.1⟩, this.2.1, this.2.2.1, this.2.2.2⟩
theorem between_any {W : World} {B b g : Nat} {l : List UInt8} {st : Bool} (h : Wr W B b l st) (hB : B ≤ W.heap.size) (ts : List (List UInt8)) (hT : TsR W g ts) (hN : NotW W b g) (hl : ts.length ≤ 2) (hb : l.length + tsN ts ≤ 1000000000) :
    Calls Tryz.prog 66 #[.pointer (some ⟨b, 0, none⟩), .slice (some ⟨g, 0, none⟩) ts.length ts.length] W fun e w' => e = .returned (.tuple #[]) ∧ WP W B b (btS ts (l, st)).1 (btS ts (l, st)).2 w' := by
  have HD := hideT (delimiter_any ts g W hT (by omega))
  have HW := hideT h
  have HT := hideT hT
  have HN := hideT hN
  obtain ⟨c2, f2, hs⟩ := wr_st h hB
  have HS := hideT hs
  clear h hT hN hs
  go_enter Tryz.func66, Tryz.ntmps66
  cases hd : dlm ts with
  | none =>
    have HR := hideT (show btS ts (l, st) = (l, true) by unfold btS btw; rw [hd])
    rw [hd] at HD
    clear hd
    unfold dlV at HD
    go_wp2_with fail
    refine HD.out.mono ?_
    rintro e w1 ⟨rfl, rfl⟩
    go_wp2
    refine bodyPost_ret (results_none rfl _ _ _) rfl ?_
    rw [HR.out]
    exact ⟨rfl, HS.out⟩
  | some d =>
    have HR := hideT (show btS ts (l, st) = (l ++ d :: bws d ts, st) by unfold btS btw; rw [hd])
    rw [hd] at HD
    clear hd HS c2 f2
    unfold dlV at HD
    have HX := hideT (rfl : (d.toNat : Int) = (d.toNat : Int))
    go_wp2_with fail
    refine HD.out.mono ?_
    rintro e w1 ⟨rfl, rfl⟩
    go_wp2_with fail
    refine (wrB HW.out hB d (by omega)).mono ?_
    rintro e w2 ⟨rfl, hp⟩
    have HP := hideT hp
    clear hp
    go_wp2_with fail
    go_loopw [25] (fun i wr => ∃ k : Nat, k ≤ ts.length ∧ i = .int .i64 k ∧ Hid (WP w1 B b (l ++ d :: bws d (ts.take k)) st wr)) (fun i _ => ts.length - (intOf i).toNat)
    case atStart => exact ⟨0, by omega, rfl, HP⟩
    case round =>
      obtain ⟨k, hk, rfl, HK⟩ := hrel
      by_cases hlt : k < ts.length
      · have c1 := (HT.out.keep (HK.out.2.2.1 g HN.out).2) k _ (List.getElem?_eq_getElem hlt)
        have i1 : (k : Int) < (ts.length : Int) := by omega
        have i2 : (0 : Int) ≤ (k : Int) := by omega
        have HT2 := hideT (show l ++ d :: bws d (ts.take (k + 1)) = (l ++ d :: bws d (ts.take k)) ++ ts[k] ++ [d] by rw [List.take_succ_eq_append_getElem hlt, bws_app]; simp [bws])
        have hL : (l ++ d :: bws d (ts.take (k + 1))).length ≤ 1000000005 := by
          have h1 := bws_len d (ts.take (k + 1))
          have h2 : tsN (ts.take (k + 1)) ≤ tsN ts := by
            have : tsN ts = tsN (ts.take (k + 1)) + tsN (ts.drop (k + 1)) := by unfold tsN; rw [← List.sum_append, ← List.map_append, List.take_append_drop]
            omega
          have h3 : (ts.take (k + 1)).length ≤ ts.length := by rw [List.length_take]; omega
          rw [List.length_append, List.length_cons, h1]; omega
        rw [HT2.out] at hL
        have HL := hideT hL
        clear hL
        generalize ts[k] = t at *
        generalize l ++ d :: bws d (ts.take k) = m at *
        have HB : Hid (B ≤ wr.heap.size) := hideT (Nat.le_trans hB HK.out.2.2.2)
        have hL2 : m.length + (bst t).size + 1 ≤ 1000000005 := by have := HL.out; rw [List.length_append, List.length_append] at this; rw [xbt]; simpa using this
        go_wp2_with fail
        refine (wrS HK.out.1 HB.out (bst t) (by omega)).mono ?_
        rintro e w3 ⟨rfl, hp3⟩
        rw [xbu] at hp3
        have H3 := hideT (HK.out.trans hp3)
        clear hp3
        go_wp2_with fail
        refine (wrB H3.out.1 (Nat.le_trans hB H3.out.2.2.2) d (by rw [List.length_append]; rw [xbt] at hL2; omega)).mono ?_
        rintro e w4 ⟨rfl, hp4⟩
        have H4 := hideT (H3.out.trans hp4)
        rw [← HT2.out] at H4
        clear hp4
        go_wp2
        exact ⟨⟨k + 1, by omega, by go_num, H4⟩, by simp [intOf]; omega⟩
      · obtain rfl : k = ts.length := by omega
        have i1 : ((ts.length : Int) < (ts.length : Int)) = False := by rw [eq_iff_iff, iff_false]; omega
        have HF := HK
        rw [List.take_length] at HF
        go_wp2
        go_end0
        rw [HR.out]
        exact ⟨rfl, HF.out⟩
theorem word_any {W : World} {B b : Nat} {l : List UInt8} {st : Bool} (h : Wr W B b l st) (hB : B ≤ W.heap.size) (t : List UInt8) (hb : l.length + t.length ≤ 1000000000) :
    Calls Tryz.prog 69 #[.pointer (some ⟨b, 0, none⟩), .string (bst t)] W fun e w' => e = .returned (.tuple #[]) ∧ WP W B b (l ++ woW t) st w' := by
  have HW := hideT h
  clear h
  go_enter Tryz.func69, Tryz.ntmps69
  by_cases ht : t = []
  · have HR := hideT (show l ++ woW t = l by unfold woW; rw [if_pos ht, List.append_nil])
    have e2 : (bst t).toList = [] := by rw [ByteArray.toList_eq]; exact (xbu t).trans ht
    have e1 : ((bst t).toList == []) = true := by rw [e2]; rfl
    have e3 : (bst t).toList.isEmpty = true := by rw [e2]; rfl
    clear ht
    go_wp2
    go_end0
    rw [HR.out]
    exact ⟨rfl, .refl HW.out⟩
  · have HR := hideT (show l ++ woW t = l ++ [32] ++ t by unfold woW; rw [if_neg ht]; simp)
    have e0 : (bst t).toList = t := by rw [ByteArray.toList_eq]; exact xbu t
    have e1 : ((bst t).toList == []) = false := by rw [e0]; simpa using ht
    have e2 : ((bst t).toList = []) = False := by rw [e0]; simpa using ht
    have e3 : (bst t).toList.isEmpty = false := by rw [e0]; simpa using ht
    clear ht e0
    go_wp2_with fail
    refine (wrB HW.out hB 32 (by omega)).mono ?_
    rintro e w1 ⟨rfl, hp⟩
    have H1 := hideT hp
    clear hp
    go_wp2_with fail
    refine (wrS H1.out.1 (Nat.le_trans hB H1.out.2.2.2) (bst t) (by rw [xbt, List.length_append]; simp; omega)).mono ?_
    rintro e w2 ⟨rfl, hp⟩
    rw [xbu] at hp
    have H2 := hideT (H1.out.trans hp)
    clear hp
    go_wp2
    go_end0
    rw [HR.out]
    exact ⟨rfl, H2.out⟩

end sho
end Go.Proofs.YtidgnebbibkmhaaGreatDoor
