/- listing: unescape. -/
import Derived.Test.YtiegmgcdfafhiaaDoorHi
import Derived.Test.YtiegmgcdfafhiaaDoorShelf
namespace Go.Proofs.YtiegmgcdfafhiaaDoor
open Go.RowKit

/-- The two errors of strconv lie there. -/
def Glob (W : World) : Prop := ∀ k, k = 1 ∨ k = 2 → ∃ ev, W.cell? ⟨k, 0, none⟩ = some ev ∧ (ev = .nilIface ∨ ∃ te pe, ev = .iface te pe)
theorem Glob.stay {W W' : World} (h : Glob W) (hb : Below W.heap.size W W') : Glob W' := fun k hk => by
  obtain ⟨ev, h1, h2⟩ := h k hk
  exact ⟨ev, keep_cell hb h1, h2⟩

set_option maxRecDepth 100000 in
set_option maxHeartbeats 1000000 in
theorem parseOk (s : ByteArray) (hs : s.size ≤ 1073741824) (h0 : s.size ≠ 0) (n : Nat) (h : puL s.data.toList 0 = (n, 0)) (w : World) :
    Calls Tryd.prog 33 #[.string s, .int .i64 8, .int .i64 8] w fun e w' => e = .returned (.tuple #[.int .u64 (n : Nat), .nilIface]) ∧ Below w.heap.size w w' := by
  have hp := parse8_any s hs h0 w
  rw [h] at hp
  have HP := hideT hp
  clear hp h
  go_enter Tryd.func33, Tryd.ntmps33
  go_wp2_with fail
  refine HP.out.mono ?_
  rintro e w1 ⟨rfl, hb1⟩
  have HB := hideT hb1
  clear hb1
  rw [show errV (n, 0).2 = .nilIface from rfl]
  go_wp2
  go_ret2
  exact ⟨rfl, HB.out⟩

set_option maxRecDepth 100000 in
set_option maxHeartbeats 1000000 in
theorem parseBad (s : ByteArray) (hs : s.size ≤ 1073741824) (h0 : s.size ≠ 0) (h : (puL s.data.toList 0).2 ≠ 0) (w : World) (hg : Glob w) :
    Calls Tryd.prog 33 #[.string s, .int .i64 8, .int .i64 8] w fun e w' => ∃ (m : Int) (N : Nat), e = .returned (.tuple #[.int .u64 m, .iface 71 (.pointer (some ⟨N, 0, none⟩))]) ∧ Below w.heap.size w w' := by
  have hp := parse8_any s hs h0 w
  rcases pu_code s.data.toList 0 with hc | hc | hc
  · exact absurd hc h
  · obtain ⟨m, hm⟩ : ∃ m, puL s.data.toList 0 = (m, 1) := ⟨_, Prod.ext rfl hc⟩
    rw [hm] at hp
    have HP := hideT hp
    clear hp h hc hm
    go_enter Tryd.func33, Tryd.ntmps33
    go_wp2_with fail
    refine HP.out.mono ?_
    rintro e w1 ⟨rfl, hb1⟩
    rw [show errV (m, 1).2 = .iface 69 (.int .i64 1) from rfl]
    have HB := hideT hb1
    obtain ⟨ev, hv, hev⟩ := (hg.stay hb1) 2 (.inr rfl)
    have HT := hideT (fun fn => Tryd.strconv_toError_range fn s 8 8 ev w1 (by omega) hv hev)
    clear hb1 hv hev
    go_wp2_with fail
    refine (HT.out _).mono ?_
    rintro e w2 ⟨N, rfl, -, -, hb2⟩
    have HB2 := hideT (HB.out.trans (hb2.mono HB.out.size))
    clear hb2
    go_wp2
    go_ret2
    exact ⟨_, N, rfl, HB2.out⟩
  · obtain ⟨m, hm⟩ : ∃ m, puL s.data.toList 0 = (m, 2) := ⟨_, Prod.ext rfl hc⟩
    rw [hm] at hp
    have HP := hideT hp
    clear hp h hc hm
    go_enter Tryd.func33, Tryd.ntmps33
    go_wp2_with fail
    refine HP.out.mono ?_
    rintro e w1 ⟨rfl, hb1⟩
    rw [show errV (m, 2).2 = .iface 69 (.int .i64 2) from rfl]
    have HB := hideT hb1
    obtain ⟨ev, hv, hev⟩ := (hg.stay hb1) 1 (.inl rfl)
    have HT := hideT (fun fn => Tryd.strconv_toError_syntax fn s 8 8 ev w1 (by omega) hv hev)
    clear hb1 hv hev
    go_wp2_with fail
    refine (HT.out _).mono ?_
    rintro e w2 ⟨N, rfl, -, -, hb2⟩
    have HB2 := hideT (HB.out.trans (hb2.mono HB.out.size))
    clear hb2
    go_wp2
    go_ret2
    exact ⟨_, N, rfl, HB2.out⟩

theorem idx_let (y : UInt8) : Lib.indexByte [97, 98, 116, 110, 118, 102, 114] y = if letN y < 7 then (letN y : Int) else -1 := by
  have h : ∀ n : Fin 256, Lib.indexByte [97, 98, 116, 110, 118, 102, 114] (UInt8.ofNat n.val) = if letN (UInt8.ofNat n.val) < 7 then (letN (UInt8.ofNat n.val) : Int) else -1 := by decide +kernel
  exact all_bytes (p := fun y => Lib.indexByte [97, 98, 116, 110, 118, 102, 114] y = if letN y < 7 then (letN y : Int) else -1) h y

theorem list_two (s : ByteArray) (h : 1 < s.size) : s.data.toList = s[0]'(by omega) :: s[1]'h :: s.data.toList.drop 2 := by
  have h1 := drop_at s 0 (by omega)
  have h2 := drop_at s 1 h
  rw [List.drop_zero] at h1
  exact h1.trans (congrArg _ h2)
theorem list_four (s : ByteArray) (h : 3 < s.size) : s.data.toList = s[0]'(by omega) :: s[1]'(by omega) :: s[2]'(by omega) :: s[3]'h :: s.data.toList.drop 4 := by
  exact (list_two s (by omega)).trans (congrArg _ (congrArg _ ((drop_at s 2 (by omega)).trans (congrArg _ (drop_at s 3 h)))))
theorem ext_three (s : ByteArray) (h : 3 < s.size) : (s.extract 1 4).data.toList = [s[1]'(by omega), s[2]'(by omega), s[3]'h] := by
  have h1 := list_four s h
  simp only [ByteArray.data_extract, Array.toList_extract, List.extract_eq_take_drop]
  rw [show s.data.toList.drop 1 = (s[1]'(by omega)) :: (s[2]'(by omega)) :: (s[3]'h) :: s.data.toList.drop 4 from by
    have e := congrArg (List.drop 1) h1
    exact e]
  simp

set_option maxRecDepth 100000 in
set_option maxHeartbeats 2000000 in
theorem unescape_any (s : ByteArray) (hs : s.size ≤ 1073741824) (h0 : s.size ≠ 0) (w : World) (hg : Glob w) :
    Calls Tryd.prog 28 #[.string s] w fun e w' => e = .returned (.tuple #[.int .u8 ((unesc s.data.toList).1.toNat : Nat), .int .i64 ((unesc s.data.toList).2 : Nat)]) ∧ Below w.heap.size w w' := by
  have hlen : s.data.toList.length = s.size := rfl
  have hlt0 : 0 < s.size := by omega
  have i0 : (0 : Int) < (s.size : Int) := by omega
  have hl1 := drop_at s 0 hlt0
  rw [List.drop_zero] at hl1
  by_cases h1 : s.size = 1
  · have hu : unesc s.data.toList = (s[0]'hlt0, 1) := by
      rw [hl1, show s.data.toList.drop 1 = [] by rw [List.drop_eq_nil_iff, hlen]; omega]
      rfl
    rw [hu]
    have e1 : ((s.size : Int) == 1) = true := by rw [beq_iff_eq]; omega
    clear hl1 hu h1
    by_cases hx : (s[0]'hlt0).toNat = 92
    · have e2 : (((s[0]'hlt0).toNat : Int) != 92) = false := by rw [bne_eq_false_iff_eq]; omega
      have HXX := hideT hx
      clear hx
      go_enter Tryd.func28, Tryd.ntmps28
      go_wp2
      go_ret2
      exact ⟨by rw [HXX.out]; rfl, Below.refl _ _⟩
    · have e2 : (((s[0]'hlt0).toNat : Int) != 92) = true := by rw [bne_iff_ne]; omega
      go_enter Tryd.func28, Tryd.ntmps28
      go_wp2
      go_ret2
      exact ⟨rfl, Below.refl _ _⟩
  have hlt1 : 1 < s.size := by omega
  have i1 : (1 : Int) < (s.size : Int) := by omega
  have e1 : ((s.size : Int) == 1) = false := by rw [beq_eq_false_iff_ne]; omega
  have hl2 := list_two s hlt1
  rcases Classical.em ((s[0]'hlt0).toNat = 92) with hx | hx
  rotate_left
  · have hu : unesc s.data.toList = (s[0]'hlt0, 1) := by
      rw [hl2, unesc.eq_def]
      dsimp only
      rw [if_pos hx]
    rw [hu]
    have e2 : (((s[0]'hlt0).toNat : Int) != 92) = true := by rw [bne_iff_ne]; omega
    clear hl1 hl2 hu
    go_enter Tryd.func28, Tryd.ntmps28
    go_wp2
    go_ret2
    exact ⟨rfl, Below.refl _ _⟩
  have e2 : (((s[0]'hlt0).toNat : Int) != 92) = false := by rw [bne_eq_false_iff_eq]; omega
  have HXX := hideT hx
  by_cases hy : (s[1]'hlt1).toNat = 92
  · have hu : unesc s.data.toList = (92, 2) := by
      rw [hl2, unesc.eq_def]
      dsimp only
      rw [if_neg (by omega), if_pos hy]
    rw [hu]
    have e3 : (((s[1]'hlt1).toNat : Int) == 92) = true := by rw [beq_iff_eq]; omega
    clear hl1 hl2 hu
    go_enter Tryd.func28, Tryd.ntmps28
    go_wp2
    go_ret2
    exact ⟨rfl, Below.refl _ _⟩
  have e3 : (((s[1]'hlt1).toNat : Int) == 92) = false := by rw [beq_eq_false_iff_ne]; omega
  have hix := Tryd.strings_IndexByte ⟨#[97, 98, 116, 110, 118, 102, 114]⟩ ((s[1]'hlt1).toNat : Int) w
  rw [show (((s[1]'hlt1).toNat : Int)).toNat.toUInt8 = s[1]'hlt1 by simp, show (⟨#[97, 98, 116, 110, 118, 102, 114]⟩ : ByteArray).data.toList = [97, 98, 116, 110, 118, 102, 114] from rfl, idx_let] at hix
  by_cases hl : letN (s[1]'hlt1) < 7
  · rw [if_pos hl] at hix
    have hu : unesc s.data.toList = (UInt8.ofNat (7 + letN (s[1]'hlt1)), 2) := by
      rw [hl2, unesc.eq_def]
      dsimp only
      rw [if_neg (by omega), if_neg hy, if_pos hl]
    rw [hu, show (UInt8.ofNat (7 + letN (s[1]'hlt1)), 2).1.toNat = 7 + letN (s[1]'hlt1) by rw [UInt8.toNat_ofNat', Nat.mod_eq_of_lt (by omega)]]
    have HX := hideT hix
    clear hl1 hl2 hu hix
    generalize letN (s[1]'hlt1) = k at *
    have j1 : (0 : Int) ≤ (k : Int) := by omega
    have j2 : IntKind.u8.wrap (k : Int) = (k : Int) := by rw [IntKind.wrap_u8]; omega
    have j3 : IntKind.u8.wrap (7 + (k : Int)) = ((7 + k : Nat) : Int) := by rw [IntKind.wrap_u8]; omega
    go_enter Tryd.func28, Tryd.ntmps28
    go_wp2_with fail
    refine HX.out.mono ?_
    rintro e w1 ⟨rfl, rfl⟩
    go_wp2
    go_ret2
    exact ⟨by first | rfl | (simp; omega), Below.refl _ _⟩
  rw [if_neg hl] at hix
  have HX := hideT hix
  clear hix
  by_cases h4 : s.size < 4
  · have hu : unesc s.data.toList = (92, 1) := by
      rw [hl2, unesc.eq_def]
      dsimp only
      rw [if_neg (by omega), if_neg hy, if_neg hl]
      have hd : (s.data.toList.drop 2).length ≤ 1 := by rw [List.length_drop, hlen]; omega
      match s.data.toList.drop 2, hd with
      | [], _ => rfl
      | [_], _ => rfl
      | _ :: _ :: _, h => simp at h
    rw [hu]
    have j1 : decide ((4 : Int) ≤ (s.size : Int)) = false := decide_eq_false (by omega)
    have j2 : ((4 : Int) ≤ (s.size : Int)) = False := by rw [eq_iff_iff, iff_false]; omega
    clear hl1 hl2 hu
    go_enter Tryd.func28, Tryd.ntmps28
    go_wp2_with fail
    refine HX.out.mono ?_
    rintro e w1 ⟨rfl, rfl⟩
    go_wp2
    go_ret2
    exact ⟨rfl, Below.refl _ _⟩
  · have h3 : 3 < s.size := by omega
    have j1 : (4 : Int) ≤ (s.size : Int) := by omega
    have hl4 := list_four s h3
    have hx3 := ext_three s h3
    have hts : (s.extract 1 4).size = 3 := by rw [ByteArray.size_extract]; omega
    obtain ⟨hp1, hp2⟩ := pu_oct (s[1]'hlt1) (s[2]'(by omega)) (s[3]'h3)
    rw [← hx3] at hp1 hp2
    have hu0 : unesc s.data.toList = (match octN (s[1]'hlt1) (s[2]'(by omega)) (s[3]'h3) with | some n => (UInt8.ofNat n, 4) | none => (92, 1)) := by
      rw [hl4, unesc.eq_def]
      dsimp only
      rw [if_neg (by omega), if_neg hy, if_neg hl]
      cases octN (s[1]'hlt1) (s[2]'(by omega)) (s[3]'h3) <;> rfl
    obtain ⟨t, ht⟩ : ∃ t, s.extract 1 4 = t := ⟨_, rfl⟩
    rw [ht] at hts hp1 hp2
    cases ho : octN (s[1]'hlt1) (s[2]'(by omega)) (s[3]'h3) with
    | some n =>
      rw [ho] at hu0 hp1 hp2
      have hR : puL t.data.toList 0 = (n, 0) := Prod.ext (hp2 n rfl) (hp1.2 rfl)
      have hn : n ≤ 255 := by
        unfold octN at ho
        split at ho
        · dsimp only at ho
          split at ho
          · have := Option.some.inj ho
            omega
          · cases ho
        · cases ho
      rw [hu0, show ((match some n with | some n => (UInt8.ofNat n, 4) | none => ((92 : UInt8), 1)) : UInt8 × Nat) = (UInt8.ofNat n, 4) from rfl, show (UInt8.ofNat n, 4).1.toNat = n by rw [UInt8.toNat_ofNat', Nat.mod_eq_of_lt (by omega)]]
      have HP := hideT (parseOk t (by omega) (by omega) n hR)
      have j2 : IntKind.u8.wrap (n : Int) = (n : Int) := by rw [IntKind.wrap_u8]; omega
      clear hl1 hl2 hl4 hx3 hu0 hp1 hp2 hR ho hts
      go_enter Tryd.func28, Tryd.ntmps28
      go_wp2_with fail
      refine HX.out.mono ?_
      rintro e w1 ⟨rfl, rfl⟩
      go_wp2_with fail
      refine (HP.out _).mono ?_
      rintro e w2 ⟨rfl, hb2⟩
      have HB := hideT hb2
      clear hb2
      go_wp2
      go_ret2
      exact ⟨rfl, HB.out⟩
    | none =>
      rw [ho] at hu0 hp1
      have hR : (puL t.data.toList 0).2 ≠ 0 := fun e => by have := hp1.1 e; simp at this
      rw [hu0]
      have HP := hideT (parseBad t (by omega) (by omega) hR w hg)
      clear hl1 hl2 hl4 hx3 hu0 hp1 hp2 hR ho hts
      go_enter Tryd.func28, Tryd.ntmps28
      go_wp2_with fail
      refine HX.out.mono ?_
      rintro e w1 ⟨rfl, rfl⟩
      go_wp2_with fail
      refine HP.out.mono ?_
      rintro e w2 ⟨m, N, rfl, hb2⟩
      have HB := hideT hb2
      clear hb2
      go_wp2
      go_ret2
      exact ⟨rfl, HB.out⟩

end Go.Proofs.YtiegmgcdfafhiaaDoor
