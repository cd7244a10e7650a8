/- ytab: Apply, and the document's. -/
import Derived.Test.YtgcjjfidcadlgaaYd
namespace Go.Proofs.Ytgcjjfidcadlgaa
open Go.RowKit

/-- A table of bytes. -/
def btF (T : Nat → UInt8) (i : Nat) : Value := .int .u8 ((T i).toNat : Nat)
/-- Each byte turned. -/
def appL (T : Nat → UInt8) (l : List UInt8) : List UInt8 := l.map fun b => T b.toNat

theorem app_set (T : Nat → UInt8) (l : List UInt8) (k : Nat) (h : k < l.length) : (Lib.byteCells (appL T (l.take k) ++ l.drop k)).set k (.int .u8 ((T (l[k]).toNat).toNat : Nat)) = Lib.byteCells (appL T (l.take (k + 1)) ++ l.drop (k + 1)) := by
  have e1 : (appL T (l.take k)).length = k := by simp [appL]; omega
  rw [List.take_succ_eq_append_getElem h, List.drop_eq_getElem_cons h]
  unfold Lib.byteCells appL
  simp only [List.map_append, List.map_cons, List.map_nil, List.append_assoc, List.cons_append, List.nil_append]
  rw [List.set_append_right _ _ (by simp; omega)]
  have e2 : k - (List.map (fun b : UInt8 => Value.int .u8 (b.toNat : Nat)) (List.map (fun b => T b.toNat) (l.take k))).length = 0 := by simp; omega
  rw [e2]
  rfl

/-- A text's own bytes in memory. -/
def ByAt (W : World) (b : Nat) (l : List UInt8) : Prop := ∃ cur : Array Value, W.heap[b]? = some (.cells cur 5 (cur.size, cur.size + 1)) ∧ l.length ≤ cur.size ∧ cur.toList.take l.length = Lib.byteCells l
theorem ByAt.cell {W : World} {b : Nat} {l : List UInt8} (h : ByAt W b l) (k : Nat) (hk : k < l.length) : W.cell? ⟨b, k, none⟩ = some (.int .u8 ((l[k]).toNat : Nat)) := by
  obtain ⟨cur, h0, h1, h2⟩ := h
  have h3 : (cur.toList.take l.length)[k]? = (Lib.byteCells l)[k]? := by rw [h2]
  rw [List.getElem?_take, if_pos hk] at h3
  simp only [World.cell?, h0]
  rw [← Array.getElem?_toList, h3]
  simp [Lib.byteCells, hk]
theorem ByAt.frozen {W : World} {b : Nat} {l : List UInt8} (h : ByAt W b l) (k : Nat) (hk : k < l.length) : W.frozen? ⟨b, k, none⟩ = false := by
  obtain ⟨cur, h0, h1, h2⟩ := h
  simp [World.frozen?, h0]
  omega
theorem ByAt.set {W : World} {b : Nat} {l m : List UInt8} (h : ByAt W b l) (k : Nat) (v : Value) (hl : m.length = l.length) (hm : (Lib.byteCells l).set k v = Lib.byteCells m) : ByAt (W.setCell ⟨b, k, none⟩ v) b m := by
  obtain ⟨cur, h0, h1, h2⟩ := h
  refine ⟨cur.setIfInBounds k v, ?_, ?_, ?_⟩
  · simp only [World.setCell, Array.getElem?_modify, if_true, h0, Option.map_some, Array.size_setIfInBounds]
    rfl
  · rw [Array.size_setIfInBounds]; omega
  · rw [hl, ← hm, ← h2, Array.toList_setIfInBounds, List.take_set]
theorem ByAt.far {W W' : World} {b : Nat} {l : List UInt8} (h : ByAt W b l) (hb : W'.heap[b]? = W.heap[b]?) : ByAt W' b l := by
  obtain ⟨cur, h0, h1⟩ := h
  exact ⟨cur, hb.trans h0, h1⟩
theorem ByAt.new (W : World) (s : ByteArray) : ByAt (Lib.bytesWorld W 5 s) W.heap.size s.data.toList := by
  have hsz : s.size ≤ (Lib.bytesCells W 5 s).size := by
    rcases Nat.lt_or_ge (Lib.bytesCells W 5 s).size s.size with h | h
    · have hc := Lib.bytesWorld_cell W 5 s (Lib.bytesCells W 5 s).size h
      rw [World.cell?, Lib.bytesWorld_at_new] at hc
      simp at hc
    · exact h
  refine ⟨_, Lib.bytesWorld_at_new W 5 s, hsz, ?_⟩
  apply List.ext_getElem?
  intro j
  rw [List.getElem?_take]
  by_cases hj : j < s.size
  · have hc := Lib.bytesWorld_cell W 5 s j hj
    rw [World.cell?, Lib.bytesWorld_at_new] at hc
    simp only at hc
    rw [if_neg (by simp)] at hc
    rw [if_pos (by simpa using hj), Array.getElem?_toList, hc, getD_byte s j hj]
    rw [Lib.byteCells, List.getElem?_map, List.getElem?_eq_getElem (by simpa using hj)]
    rfl
  · rw [if_neg (by simpa using hj), List.getElem?_eq_none (by simp [Lib.byteCells]; omega)]
theorem ByAt.conv {W : World} {b cap : Nat} {l : List UInt8} (h : ByAt W b l) : (convert 42 9 (.slice (some ⟨b, 0, none⟩) l.length cap)).run Try.prog W = .ok (.string (bst l)) W := by
  have hc : ∀ i, i < l.length → W.cell? ⟨b, 0 + i, none⟩ = some (.int .u8 ((l.map fun (b : UInt8) => (b.toNat : Int)).getD i 0)) := by
    intro i hi
    rw [Nat.zero_add, h.cell i hi]
    simp [List.getD_eq_getElem?_getD, List.getElem?_eq_getElem hi]
  have h3 := run_convert_bytes_arg (P := Try.prog) W 42 5 Try.underlying42 Try.underlying5 b 0 l.length cap (l.map fun (b : UInt8) => (b.toNat : Int)) (by simp) hc 9 Try.underlying9
  rw [h3]
  have e : (l.map fun (b : UInt8) => (b.toNat : Int)).map (fun n => UInt8.ofNat n.toNat) = l := by
    rw [List.map_map]
    exact (List.map_congr_left (g := id) (fun b _ => by simp)).trans (List.map_id l)
  simp only [strOfNums, e, bst]

set_option maxRecDepth 100000 in
set_option maxHeartbeats 2000000 in
theorem apply_any (T : Nat → UInt8) (s : ByteArray) (hs : s.size ≤ 140737488355000) (w : World) :
    Calls Try.prog 12 #[.agg (arV (btF T)).toArray, .string s] w fun e w' => e = .returned (.string (bst (appL T s.data.toList))) ∧ Below w.heap.size w w' := by
  have hlen : s.data.toList.length = s.size := rfl
  have hA0 := (Below.refl w.heap.size w).alloc (Nat.le_refl _) (.cells (arV (btF T)).toArray 31)
  have hN0 := ArAt.new w 31 (btF T)
  obtain ⟨Z, hZ⟩ : ∃ Z, Z = (arV (btF T)).toArray := ⟨_, rfl⟩
  rw [← hZ] at hA0 hN0 ⊢
  have hZs : Z.size = 256 := by rw [hZ]; simp [arV_len]
  obtain ⟨X, hX⟩ : ∃ X, X = w.alloc (.cells Z 31) := ⟨_, rfl⟩
  have hconv := Lib.run_convert_string_bytes (P := Try.prog) (w.alloc (.cells Z 31)) 9 42 5 s Try.underlying9 undB Try.underlying5
  have hY := ByAt.new (w.alloc (.cells Z 31)) s
  have hYb := conv_below (w.alloc (.cells Z 31)) s
  have hT := hN0.stay hYb
  rw [World.size_alloc] at hconv hY
  have H0 := hideT (And.intro hT (And.intro hY (hA0.trans (hYb.mono hA0.size))))
  clear hA0 hN0 hYb hT hY hX hZ
  go_enter Try.func12, Try.ntmps12
  go_wp2_with fail
  clear hconv
  generalize Lib.bytesWorld (w.alloc (.cells Z 31)) 5 s = Y at *
  generalize grownCap (w.alloc (.cells Z 31)) s.size 0 5 = cp at *
  go_loopw [12] (fun i wr => ∃ k : Nat, k ≤ s.size ∧ i = .int .i64 k ∧ ArAt wr w.heap.size 31 (btF T) ∧ ByAt wr (w.heap.size + 1) (appL T (s.data.toList.take k) ++ s.data.toList.drop k) ∧ Below w.heap.size w wr) (fun i _ => s.size - (intOf i).toNat)
  case atStart => exact ⟨0, by omega, rfl, H0.out.1, by simpa [appL] using H0.out.2.1, H0.out.2.2⟩
  case round =>
    obtain ⟨k, hk, rfl, hT, hY, hB⟩ := hrel
    by_cases hlt : k < s.size
    · have i1 : (k : Int) < (s.size : Int) := by omega
      have i2 : (0 : Int) ≤ (k : Int) := by omega
      have hl2 : (appL T (s.data.toList.take k) ++ s.data.toList.drop k).length = s.size := by simp [appL]; omega
      have ek : (appL T (s.data.toList.take k) ++ s.data.toList.drop k)[k]'(by rw [hl2]; exact hlt) = s[k]'hlt := by
        rw [List.getElem_append_right (by simp [appL]; omega)]
        simp only [List.getElem_drop]
        have e : k + (k - (appL T (s.data.toList.take k)).length) = k := by simp [appL]; omega
        simp only [e]
        rfl
      have c1 := hY.cell k (by rw [hl2]; exact hlt)
      rw [ek] at c1
      have f1 := hY.frozen k (by rw [hl2]; exact hlt)
      have hcl := (s[k]'hlt).toNat_lt
      have c2 := hT.cell (s[k]'hlt).toNat hcl
      have j1 : (0 : Int) ≤ ((s[k]'hlt).toNat : Int) := by omega
      have j2 : ((s[k]'hlt).toNat : Int) < 256 := by omega
      unfold btF at c2
      have hS := hY.set (m := appL T (s.data.toList.take (k + 1)) ++ s.data.toList.drop (k + 1)) k (.int .u8 ((T (s[k]'hlt).toNat).toNat : Nat)) (by rw [hl2]; simp [appL]; omega) (app_set T s.data.toList k hlt)
      have HS := hideT (And.intro (show ArAt (wr.setCell ⟨w.heap.size + 1, k, none⟩ (.int .u8 ((T (s[k]'hlt).toNat).toNat : Nat))) w.heap.size 31 (btF T) from (put_far wr (w.heap.size + 1) k _ (by omega)).trans hT) (And.intro hS (hB.setCell (p := ⟨w.heap.size + 1, k, none⟩) (by show w.heap.size ≤ w.heap.size + 1; omega) (.int .u8 ((T (s[k]'hlt).toNat).toNat : Nat)))))
      clear hS hT hY hB ek hl2
      generalize T (s[k]'hlt).toNat = tv at *
      go_wp2
      exact ⟨⟨k + 1, by omega, by go_num, HS.out.1, HS.out.2.1, HS.out.2.2⟩, by simp [intOf]; omega⟩
    · obtain rfl : k = s.size := by omega
      have i1 : (((s.size : Nat) : Int) < (s.size : Int)) = False := by simp
      rw [List.take_of_length_le (by rw [hlen]; omega), List.drop_eq_nil_of_le (by rw [hlen]; omega), List.append_nil] at hY
      have hcv := hY.conv (cap := cp)
      rw [show (appL T s.data.toList).length = s.size by simp [appL]] at hcv
      have HB := hideT hB
      clear hT hY hB
      obtain ⟨bl, hbl⟩ : ∃ bl, bl = bst (appL T s.data.toList) := ⟨_, rfl⟩
      rw [← hbl] at hcv
      have HL := hideT hbl
      clear hbl
      go_wp2
      go_ret
      exact ⟨by rw [← HL.out]; rfl, HB.out⟩

set_option maxRecDepth 100000 in
set_option maxHeartbeats 2000000 in
theorem docApply_any (T : Nat → UInt8) (s : ByteArray) (hs : s.size ≤ 140737488355000) (w : World) :
    Calls Try.prog 13 #[.agg (arV (btF T)).toArray, .string s] w fun e w' => e = .returned (.string (bst (appL T s.data.toList))) ∧ Below w.heap.size w w' := by
  have hlen : s.data.toList.length = s.size := rfl
  obtain ⟨i0, hi, hz0, hz1, hz2⟩ := info_parts info5
  have hA0 := (Below.refl w.heap.size w).alloc (Nat.le_refl _) (.cells (arV (btF T)).toArray 31)
  have hN0 := ArAt.new w 31 (btF T)
  obtain ⟨Z, hZ⟩ : ∃ Z, Z = (arV (btF T)).toArray := ⟨_, rfl⟩
  rw [← hZ] at hA0 hN0 ⊢
  have hZs : Z.size = 256 := by rw [hZ]; simp [arV_len]
  have H0 := hideT (And.intro hN0 hA0)
  clear hA0 hN0 hZ
  go_enter Try.func13, Try.ntmps13
  go_wp2_with fail
  go_loopw [5, 6] (fun v i wr => ∃ k : Nat, k ≤ s.size ∧ i = .int .i64 k ∧ ArAt wr w.heap.size 31 (btF T) ∧ wr.ownsRow (w.heap.size + 1) 5 1 v k (Lib.byteCells (appL T (s.data.toList.take k))) ∧ Below (w.heap.size + 1) (w.alloc (.cells Z 31)) wr) (fun _ i _ => s.size - (intOf i).toNat)
  case atStart => exact ⟨0, by omega, rfl, H0.out.1, World.ownsRow_nil _ _ _ _, Below.refl _ _⟩
  case round =>
    obtain ⟨k, hk, rfl, hT, hO, hB⟩ := hrel
    obtain ⟨va, vc, rfl⟩ := owns_shape hO
    have HO := hideT (And.intro hO (And.intro hB hT))
    by_cases hlt : k < s.size
    · have i1 : (k : Int) < (s.size : Int) := by omega
      have i2 : (0 : Int) ≤ (k : Int) := by omega
      have hcl := (s[k]'hlt).toNat_lt
      have c2 := hT.cell (s[k]'hlt).toNat hcl
      unfold btF at c2
      have j1 : (0 : Int) ≤ ((s[k]'hlt).toNat : Int) := by omega
      have j2 : ((s[k]'hlt).toNat : Int) < 256 := by omega
      have HE := hideT (show appL T (s.data.toList.take (k + 1)) = appL T (s.data.toList.take k) ++ [T (s[k]'hlt).toNat] by rw [take_snocB s k hlt]; simp [appL])
      clear hO hB hT
      generalize T (s[k]'hlt).toNat = tv at *
      have HA := hideT ((Below.refl wr.heap.size wr).alloc (Nat.le_refl _) (.cells #[.int .u8 (tv.toNat : Nat)] 5))
      have HN := hideT (new_cells wr [.int .u8 (tv.toNat : Nat)] 5)
      have HZ0 := hideT (show w.heap.size + 1 ≤ wr.heap.size by have := HO.out.2.1.size; simpa using this)
      go_wp2_with (at_builtin; refine wpList_append_lies _ rfl _ _ 42 rfl (w.heap.size + 1) 5 i0 _ 1 1 undB hi hz0 hz1 hz2 rfl (by omega) (.slice va k vc) k (Lib.byteCells (appL T (s.data.toList.take k))) rfl (owns_below HO.out.1 HA.out) ⟨wr.heap.size, 0, none⟩ 1 1 [.int .u8 (tv.toNat : Nat)] rfl rfl (fun j u hj => HN.out j u hj) (by simp [Value.oneCell']) (by omega) (by unfold maxLen; omega) (by omega) (by have := HZ0.out; simp; omega) _ rfl ?_)
      intro g gc w2 hown' hgrow hat hglt
      have hT2 : ArAt w2 w.heap.size 31 (btF T) := by
        refine (hgrow.block w.heap.size (by have := HZ0.out; simp; omega) (fun e => ?_)).trans (HO.out.2.2.stay HA.out)
        have := ((owns_below HO.out.1 HA.out).lt w.heap.size e.symm).1
        omega
      have HF := hideT (And.intro hown' (And.intro hT2 ((HO.out.2.1.trans (HA.out.mono HZ0.out)).grown hgrow (by have := HZ0.out; simp; omega) (fun k hk => (HO.out.1.lt k hk).1))))
      clear hown' hgrow hat hglt hT2
      go_wp2
      refine ⟨⟨k + 1, by omega, by go_num, HF.out.2.1, ?_, HF.out.2.2⟩, by simp [intOf]; omega⟩
      rw [HE.out, cells_app]
      exact HF.out.1
    · obtain rfl : k = s.size := by omega
      have i1 : (((s.size : Nat) : Int) < (s.size : Int)) = False := by simp
      rw [List.take_of_length_le (by rw [hlen]; omega)] at hO
      have hcv := conv_bytes (l := appL T s.data.toList) (by rw [show (appL T s.data.toList).length = s.size by simp [appL]]; exact hO)
      have HB := hideT (H0.out.2.trans (hB.mono (by omega)))
      clear hT hO hB
      obtain ⟨bl, hbl⟩ : ∃ bl, bl = bst (appL T s.data.toList) := ⟨_, rfl⟩
      rw [← hbl] at hcv
      have HL := hideT hbl
      clear hbl
      go_wp2
      go_ret
      exact ⟨by rw [← HL.out]; rfl, HB.out⟩

end Go.Proofs.Ytgcjjfidcadlgaa
