/- show: isFree, delimiter, between, word: the walks. -/
import Derived.Test.YtidgnebbibkmhaaGreatDoorKWh
set_option maxRecDepth 100000
set_option maxHeartbeats 4000000
namespace Go.Proofs.YtidgnebbibkmhaaGreatDoor
open Go.RowKit
open scanP scrP tpl ytb
namespace sho

/-- Texts, one behind the other in a block. -/
def TsR (W : World) (g : Nat) (ts : List (List UInt8)) : Prop := ∀ k t, ts[k]? = some t → W.cell? ⟨g, k, none⟩ = some (.string (bst t))
theorem TsR.keep {W W' : World} {g : Nat} {ts : List (List UInt8)} (h : TsR W g ts) (hk : W'.heap[g]? = W.heap[g]?) : TsR W' g ts := fun k t ht => (World.cell?_of_block (a := ⟨g, k, none⟩) hk).trans (h k t ht)
theorem idx_mem (c : UInt8) : ∀ l : List UInt8, (0 ≤ Lib.indexByte l c) ↔ l.contains c = true
  | [] => by simp [Lib.indexByte]
  | b :: l => by
    have ih := idx_mem c l
    have hg := Lib.indexByte_ge l c
    rw [Lib.indexByte, List.contains_cons]
    by_cases h : b = c
    · simp [h]
    · have h1 : (b == c) = false := by simpa using h
      have h2 : (c == b) = false := by simpa using Ne.symm h
      rw [h1, h2, Bool.false_or, ← ih]
      simp only [Bool.false_eq_true, if_false]
      split
      · rename_i h3
        have h3 : Lib.indexByte l c = -1 := by simpa using h3
        rw [h3]
      · rename_i h3
        have h3 : Lib.indexByte l c ≠ -1 := by simpa using h3
        omega
theorem isFree_any (d : UInt8) (x : Int) (hx : (d.toNat : Int) = x) (ts : List (List UInt8)) (g : Nat) (W : World) (h : TsR W g ts) (hl : ts.length ≤ 1000) :
    Calls Tryz.prog 65 #[.int .u8 x, .slice (some ⟨g, 0, none⟩) ts.length ts.length] W fun e w' => e = .returned (.bool (frB d ts)) ∧ w' = W := by
  have HH := hideT h
  have HX := hideT hx
  clear h hx
  go_enter Tryz.func65, Tryz.ntmps65
  go_wp2_with fail
  go_loopw [9] (fun i wr => ∃ k : Nat, k ≤ ts.length ∧ i = .int .i64 k ∧ Hid (frB d (ts.take k) = true) ∧ wr = W) (fun i _ => ts.length - (intOf i).toNat)
  case atStart => exact ⟨0, by omega, rfl, hideT (by simp [frB]), rfl⟩
  case round =>
    obtain ⟨k, hk, rfl, HN, rfl⟩ := hrel
    by_cases hlt : k < ts.length
    · have c1 := HH.out k _ (List.getElem?_eq_getElem hlt)
      have i1 : (k : Int) < (ts.length : Int) := by omega
      have i2 : (0 : Int) ≤ (k : Int) := by omega
      have hI := Tryz.strings_IndexByte (bst ts[k]) x wr
      have e1 : x.toNat.toUInt8 = d := by rw [← HX.out]; simp
      rw [e1, xbu] at hI
      have hm := idx_mem d ts[k]
      have HT := hideT (show ts.take (k + 1) = ts.take k ++ [ts[k]] from List.take_succ_eq_append_getElem hlt)
      have HD := hideT (show ts = ts.take k ++ ts[k] :: ts.drop (k + 1) by rw [← List.drop_eq_getElem_cons hlt, List.take_append_drop])
      generalize ts[k] = t at *
      generalize Lib.indexByte t d = z at *
      have HI := hideT hI
      clear hI e1
      cases hc : t.contains d with
      | true =>
        have hz : (0 : Int) ≤ z := hm.2 hc
        have HF := hideT (show frB d ts = false by rw [HD.out]; unfold frB; rw [List.all_append, List.all_cons, hc]; simp)
        clear hm hc
        go_wp2_with fail
        refine HI.out.mono ?_
        rintro e w1 ⟨rfl, rfl⟩
        go_wp2
        go_ret
        rw [HF.out]
        exact ⟨rfl, rfl⟩
      | false =>
        have hz : ((0 : Int) ≤ z) = False := by rw [eq_iff_iff, iff_false]; intro e; rw [hm.1 e] at hc; cases hc
        have HF := hideT (show frB d (ts.take (k + 1)) = true by rw [HT.out]; have := HN.out; unfold frB at this ⊢; rw [List.all_append, this, List.all_cons, hc]; rfl)
        clear hm hc
        go_wp2_with fail
        refine HI.out.mono ?_
        rintro e w1 ⟨rfl, rfl⟩
        go_wp2
        exact ⟨⟨k + 1, by omega, by go_num, HF, trivial⟩, by simp [intOf]; omega⟩
    · obtain rfl : k = ts.length := by omega
      have i1 : ((ts.length : Int) < (ts.length : Int)) = False := by rw [eq_iff_iff, iff_false]; omega
      have HF := HN
      rw [List.take_length] at HF
      go_wp2
      go_ret
      rw [HF.out]
      exact ⟨rfl, rfl⟩
/-- What delimiter answers. -/
def dlV : Option UInt8 → Value
  | none => .tuple #[.int .u8 0, .bool false]
  | some d => .tuple #[.int .u8 (d.toNat : Int), .bool true]
theorem delimiter_any (ts : List (List UInt8)) (g : Nat) (W : World) (h : TsR W g ts) (hl : ts.length ≤ 1000) :
    Calls Tryz.prog 84 #[.slice (some ⟨g, 0, none⟩) ts.length ts.length] W fun e w' => e = .returned (dlV (dlm ts)) ∧ w' = W := by
  have HI := hideT (fun d x hx => isFree_any d x hx ts g W h hl)
  clear h
  go_enter Tryz.func84, Tryz.ntmps84
  go_wp2_with fail
  refine (HI.out 47 47 rfl).mono ?_
  rintro e w1 ⟨rfl, rfl⟩
  cases hf : frB 47 ts with
  | true =>
    have HF := hideT (show dlV (dlm ts) = .tuple #[.int .u8 47, .bool true] by unfold dlm; rw [hf]; rfl)
    clear hf
    go_wp2
    go_ret2
    rw [HF.out]
    exact ⟨rfl, rfl⟩
  | false =>
    have HF := hideT (show dlm ts = dlF ts 94 33 by unfold dlm; rw [hf]; rfl)
    clear hf
    go_wp2_with fail
    go_loopw [4] (fun v wr => ∃ k : Nat, 33 ≤ k ∧ k ≤ 127 ∧ v = .int .u8 k ∧ Hid (dlF ts (127 - k) k = dlF ts 94 33) ∧ wr = w1) (fun v _ => 127 - (intOf v).toNat)
    case atStart => exact ⟨33, by omega, by omega, rfl, hideT rfl, rfl⟩
    case round =>
      obtain ⟨k, hk1, hk2, rfl, HN, rfl⟩ := hrel
      by_cases hlt : k ≤ 126
      · have i1 : (k : Int) ≤ 126 := by omega
        obtain ⟨m, hm⟩ : ∃ m, 127 - k = m + 1 := ⟨126 - k, by omega⟩
        have hm2 : 127 - (k + 1) = m := by omega
        have hu : ((UInt8.ofNat k).toNat : Int) = (k : Int) := by
          have : (UInt8.ofNat k).toNat = k % 256 := rfl
          omega
        have HS := hideT (show dlF ts (127 - k) k = if k ≠ 92 ∧ frB (UInt8.ofNat k) ts = true then some (UInt8.ofNat k) else dlF ts (127 - (k + 1)) (k + 1) by rw [hm, hm2]; rfl)
        have HU := hideT (HI.out (UInt8.ofNat k) k hu)
        have HV := hideT hu
        have i3 : IntKind.u8.wrap ((k : Int) + 1) = (k : Int) + 1 := by rw [IntKind.wrap_u8]; omega
        clear hu hm hm2
        by_cases h92 : k = 92
        · subst h92
          have HN2 := hideT (show dlF ts (127 - (92 + 1)) (92 + 1) = dlF ts 94 33 by rw [← HN.out, HS.out, if_neg (by simp)])
          clear HS HU HV i3
          go_wp2
          exact ⟨⟨93, by omega, by omega, rfl, HN2, trivial⟩, by simp [intOf]⟩
        · have i2 : ((k : Int) != 92) = true := by simp; omega
          have i4 : ((k : Int) == 92) = false := by simp; omega
          cases hf : frB (UInt8.ofNat k) ts with
          | true =>
            have HR := hideT (show dlV (dlm ts) = .tuple #[.int .u8 (k : Int), .bool true] by rw [HF.out, ← HN.out, HS.out, if_pos ⟨h92, hf⟩]; show Value.tuple #[.int .u8 ((UInt8.ofNat k).toNat : Int), .bool true] = _; rw [HV.out])
            rw [hf] at HU
            clear hf HS HV i3 h92
            go_wp2_with fail
            refine HU.out.mono ?_
            rintro e w2 ⟨rfl, rfl⟩
            go_wp2
            go_ret2
            rw [HR.out]
            exact ⟨rfl, rfl⟩
          | false =>
            have HN2 := hideT (show dlF ts (127 - (k + 1)) (k + 1) = dlF ts 94 33 by rw [← HN.out, HS.out, if_neg (by rw [hf]; simp)])
            rw [hf] at HU
            clear hf HS HV h92
            go_wp2_with fail
            refine HU.out.mono ?_
            rintro e w2 ⟨rfl, rfl⟩
            go_wp2
            exact ⟨⟨k + 1, by omega, by omega, by simp, HN2, trivial⟩, by simp [intOf]; omega⟩
      · obtain rfl : k = 127 := by omega
        have HR := hideT (show dlV (dlm ts) = .tuple #[.int .u8 0, .bool false] by rw [HF.out, ← HN.out]; rfl)
        go_wp2
        go_ret2
        rw [HR.out]
        exact ⟨rfl, rfl⟩

end sho
end Go.Proofs.YtidgnebbibkmhaaGreatDoor
