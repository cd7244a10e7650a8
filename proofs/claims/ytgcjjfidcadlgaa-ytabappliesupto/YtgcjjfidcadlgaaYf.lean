/- ytab: the document's New. -/
import Derived.Test.YtgcjjfidcadlgaaYe
namespace Go.Proofs.Ytgcjjfidcadlgaa
open Go.RowKit

/-- The document's table, up to byte b. -/
def docF (l m : List UInt8) (b i : Nat) : Value := if i < b then tabF l m i else .int .u8 0
/-- And at byte b, up to place k. -/
def docG (l m : List UInt8) (b k i : Nat) : Value := if i = b then .int .u8 ((valL (l.take k) (m.take k) b (UInt8.ofNat b)).toNat : Nat) else docF l m b i
theorem docF_zero (l m : List UInt8) : docF l m 0 = fun _ => .int .u8 0 := by funext i; simp [docF]
theorem docF_full (l m : List UInt8) : arV (docF l m 256) = arV (tabF l m) := arV_congr fun i hi => by unfold docF; rw [if_pos hi]
theorem docG_zero (l m : List UInt8) (b : Nat) (hb : b < 256) : (fun j => if j = b then Value.int .u8 (b : Nat) else docF l m b j) = docG l m b 0 := by
  funext i
  unfold docG
  simp only [List.take_zero, valL, UInt8.toNat_ofNat']
  rw [Nat.mod_eq_of_lt (by omega)]
theorem docG_hit (l m : List UInt8) (b k : Nat) (a c : UInt8) (h : l.take (k + 1) = l.take k ++ [a]) (h2 : m.take (k + 1) = m.take k ++ [c]) (hl : (l.take k).length = (m.take k).length) (ha : a.toNat = b) : (fun j => if j = b then Value.int .u8 (c.toNat : Nat) else docG l m b k j) = docG l m b (k + 1) := by
  funext i
  unfold docG
  rw [h, h2, val_snoc _ _ _ _ _ _ hl, if_pos ha]
  by_cases e : i = b
  · rw [if_pos e, if_pos e]
  · rw [if_neg e, if_neg e, if_neg e]
theorem docG_miss (l m : List UInt8) (b k : Nat) (a c : UInt8) (h : l.take (k + 1) = l.take k ++ [a]) (h2 : m.take (k + 1) = m.take k ++ [c]) (hl : (l.take k).length = (m.take k).length) (ha : a.toNat ≠ b) : docG l m b k = docG l m b (k + 1) := by
  funext i
  unfold docG
  rw [h, h2, val_snoc _ _ _ _ _ _ hl, if_neg ha]
theorem docG_full (l m : List UInt8) (b k : Nat) (hk : l.length ≤ k) (hk2 : m.length ≤ k) : docG l m b k = docF l m (b + 1) := by
  funext i
  unfold docG docF
  rw [List.take_of_length_le hk, List.take_of_length_le hk2]
  by_cases e : i = b
  · subst e
    rw [if_pos rfl, if_pos (by omega)]
    rfl
  · rw [if_neg e]
    by_cases h : i < b
    · rw [if_pos h, if_pos (by omega)]
    · rw [if_neg h, if_neg (by omega)]

theorem take_mem_nodup {s : ByteArray} {k j : Nat} (hk : k < s.size) (hj : j < k) (h : s[j]'(by omega) = s[k]'hk) : twB s.data.toList = true :=
  take_nodup_mem (take_snocB s k hk) (by
    rw [← h]
    have : s.data.toList[j]'(by simp; omega) = s[j]'(by omega) := rfl
    rw [← this]
    exact List.mem_take_iff_getElem.2 ⟨j, by simp; omega, rfl⟩)
theorem notin_take {s : ByteArray} {k : Nat} (hk : k < s.size) (h : ∀ j (hj : j < k), (s[j]'(by omega)).toNat ≠ (s[k]'hk).toNat) : s[k]'hk ∉ s.data.toList.take k := fun hm => by
  obtain ⟨j, hj, e⟩ := List.mem_take_iff_getElem.1 hm
  have hj2 : j < k := by simp at hj; omega
  exact h j hj2 (by rw [← e]; rfl)

/-- The result's block, the table's block behind it. -/
def DnR (w : World) (f : Nat → Value) (W : World) : Prop := ArAt W w.heap.size 31 (fun _ => .int .u8 0) ∧ ArAt W (w.heap.size + 1) 31 f ∧ Below w.heap.size w W

theorem dn_set {w W : World} {f : Nat → Value} (h : DnR w f W) (i : Nat) (v : Value) : DnR w (fun j => if j = i then v else f j) (W.setCell ⟨w.heap.size + 1, i, none⟩ v) :=
  ⟨(put_far W (w.heap.size + 1) i v (by omega)).trans h.1, h.2.1.set i v, h.2.2.setCell (p := ⟨w.heap.size + 1, i, none⟩) (by show w.heap.size ≤ w.heap.size + 1; omega) v⟩

set_option maxRecDepth 100000 in
set_option maxHeartbeats 4000000 in
theorem docNew_any (f t : ByteArray) (hs : f.size ≤ 140737488355000) (w : World) :
    Calls Try.prog 11 #[.string f, .string t] w fun e w' => e = .returned (.tuple #[.agg (arV (newR f.data.toList t.data.toList).1).toArray, .int .i64 ((newR f.data.toList t.data.toList).2 : Nat)]) ∧ Below w.heap.size w w' := by
  have hlf : f.data.toList.length = f.size := rfl
  have hlt : t.data.toList.length = t.size := rfl
  have hz := (zero_of_info inf31).1
  have hA0 := (Below.refl w.heap.size w).alloc (Nat.le_refl _) (.cells (arV fun _ => .int .u8 0).toArray 31)
  have hN0 := ArAt.new w 31 (fun _ => .int .u8 0)
  have hN1 := ArAt.new (w.alloc (.cells (arV fun _ => .int .u8 0).toArray 31)) 31 (fun _ => .int .u8 0)
  have hA1 := hA0.alloc (by simp) (.cells (arV fun _ => .int .u8 0).toArray 31)
  have hN2 : ArAt ((w.alloc (.cells (arV fun _ => .int .u8 0).toArray 31)).alloc (.cells (arV fun _ => .int .u8 0).toArray 31)) w.heap.size 31 (fun _ => .int .u8 0) := (Below.heap_alloc _ _ _ (by simp)).trans hN0
  rw [World.size_alloc] at hN1
  have hD : DnR w (fun _ => .int .u8 0) ((w.alloc (.cells (arV fun _ => .int .u8 0).toArray 31)).alloc (.cells (arV fun _ => .int .u8 0).toArray 31)) := ⟨hN2, hN1, hA1⟩
  obtain ⟨Z, hZ⟩ : ∃ Z, Z = (arV (fun _ => .int .u8 0)).toArray := ⟨_, rfl⟩
  have HE := hideT (fun W (h : DnR w (fun _ => .int .u8 0) W) => table_store (g := fun _ => .int .u8 0) h.1 zero_one hZ)
  rw [← hZ] at hD hz
  have HD := hideT hD
  have HZ := hideT hZ
  have hZs : Z.size = 256 := by rw [hZ]; simp [arV_len]
  clear hA0 hN0 hN1 hA1 hN2 hD hZ
  by_cases h1 : f.size = t.size
  · have e1 : ((f.size : Int) != (t.size : Int)) = false := by rw [bne_eq_false_iff_eq]; omega
    have H1 := hideT h1
    clear h1
    go_enter Try.func11, Try.ntmps11
    go_wp2_with fail
    clear e1 hz
    go_loopw [7] (fun i wr => ∃ k : Nat, k ≤ f.size ∧ i = .int .i64 k ∧ DnR w (fun _ => .int .u8 0) wr ∧ (f.data.toList.take k).Nodup) (fun i _ => f.size - (intOf i).toNat)
    case atStart => exact ⟨0, by omega, rfl, HD.out, by simp⟩
    case round =>
      obtain ⟨k, hk, rfl, hQ, hn⟩ := hrel
      have HN := hideT hn
      have HQ := hideT hQ
      clear hQ hn
      by_cases hlt2 : k < f.size
      · have i1 : (k : Int) < (f.size : Int) := by omega
        have i2 : (0 : Int) ≤ (k : Int) := by omega
        go_wp2_with fail
        go_loopw [8] (fun i wr => ∃ j : Nat, j ≤ k ∧ i = .int .i64 j ∧ DnR w (fun _ => .int .u8 0) wr ∧ ∀ j' (hj : j' < j) (h2 : j' < f.size), (f[j']'h2).toNat ≠ (f[k]'hlt2).toNat) (fun i _ => k - (intOf i).toNat)
        case atStart => exact ⟨0, by omega, rfl, HQ.out, fun j' hj => by omega⟩
        case round =>
          obtain ⟨j, hj, rfl, hQ, hd⟩ := hrel
          have HQ2 := hideT hQ
          have HD2 := hideT hd
          clear hQ hd
          by_cases hlt3 : j < k
          · have hj4 : j < f.size := by omega
            have i3 : (j : Int) < (k : Int) := by omega
            have i4 : (0 : Int) ≤ (j : Int) := by omega
            have i5 : (j : Int) < (f.size : Int) := by omega
            by_cases h2 : (f[j]'hj4).toNat = (f[k]'hlt2).toNat
            · have e2 : (((f[k]'hlt2).toNat : Int) == ((f[j]'hj4).toNat : Int)) = true := by rw [beq_iff_eq]; omega
              have HR := hideT (show newR f.data.toList t.data.toList = (fun _ => .int .u8 0, 21) by unfold newR; rw [if_pos (.inr (take_mem_nodup hlt2 hlt3 (UInt8.toNat_inj.1 h2)))])
              clear h2
              go_wp2_with fail
              go_quiet (fail)
              obtain ⟨X, hX⟩ : ∃ X, X = wr.drewN nq := ⟨_, rfl⟩
              have hQX : DnR w (fun _ => .int .u8 0) X := by rw [hX]; exact ⟨HQ2.out.1, HQ2.out.2.1, HQ2.out.2.2.trans (below_drewN _ _ _)⟩
              rw [← hX]
              clear hX
              obtain ⟨W2, hst, hW2, -, -, hbel⟩ := HE.out X hQX
              have HF := hideT (And.intro hW2 (hbel w.heap.size w (Nat.le_refl _) hQX.2.2))
              have HL := hideT hQX.2.1
              clear hQX hW2 hbel
              go_wp2_with fail
              refine wp_load_mid 31 _ rfl (w.heap.size + 1) 0 rfl _ _ (range_block HL.out) und31 rfl (by rw [info31, arV_len]) ?_
              rw [← HZ.out]
              go_wp2
              refine bodyPost_ret (table_result rfl rfl HF.out.1) rfl ?_
              exact ⟨by rw [HR.out]; rfl, HF.out.2⟩
            · have e2 : (((f[k]'hlt2).toNat : Int) == ((f[j]'hj4).toNat : Int)) = false := by rw [beq_eq_false_iff_ne]; omega
              have HD3 := hideT (fun j' (hj' : j' < j + 1) (h3 : j' < f.size) => show (f[j']'h3).toNat ≠ (f[k]'hlt2).toNat by
                by_cases e : j' = j
                · subst e; exact h2
                · exact HD2.out j' (by omega) h3)
              clear h2
              go_wp2_with fail
              go_quiet (fail)
              obtain ⟨X, hX⟩ : ∃ X, X = wr.drewN nq := ⟨_, rfl⟩
              have HX := hideT (show DnR w (fun _ => .int .u8 0) X by rw [hX]; exact ⟨HQ2.out.1, HQ2.out.2.1, HQ2.out.2.2.trans (below_drewN _ _ _)⟩)
              rw [← hX]
              clear hX
              go_wp2
              exact ⟨⟨j + 1, by omega, by go_num, HX.out, HD3.out⟩, by simp [intOf]; omega⟩
          · have i3 : ((j : Int) < (k : Int)) = False := by rw [eq_iff_iff, iff_false]; omega
            have HM := hideT (take_nodup_snoc (take_snocB f k hlt2) (notin_take hlt2 fun j' hj' => HD2.out j' (by omega) (by omega)) HN.out)
            go_wp2
            exact ⟨⟨k + 1, by omega, by go_num, HQ2.out, HM.out⟩, by simp [intOf]; omega⟩
      · have i1 : ((k : Int) < (f.size : Int)) = False := by rw [eq_iff_iff, iff_false]; omega
        have hn : f.data.toList.Nodup := by
          have h := HN.out
          rwa [List.take_of_length_le (by rw [hlf]; omega)] at h
        have HR := hideT (show newR f.data.toList t.data.toList = (tabF f.data.toList t.data.toList, 0) by unfold newR twB; rw [if_neg (by rw [hlf, hlt]; simp [H1.out, hn])])
        have H5 := hideT (And.intro hlf hlt)
        clear hn hlf hlt
        go_wp2_with fail
        clear i1
        go_loopw [9] (fun i wr => ∃ b : Nat, b ≤ 256 ∧ i = .int .i64 b ∧ DnR w (docF f.data.toList t.data.toList b) wr) (fun i _ => 256 - (intOf i).toNat)
        case atStart => exact ⟨0, by omega, rfl, by rw [docF_zero]; exact HQ.out⟩
        case round =>
          obtain ⟨b, hb, rfl, hQ⟩ := hrel
          by_cases hb2 : b < 256
          · have i1 : (b : Int) < 256 := by omega
            have i2 : (0 : Int) ≤ (b : Int) := by omega
            have i3 : IntKind.u8.wrap (b : Int) = (b : Int) := by rw [IntKind.wrap_u8]; omega
            have hc := hQ.2.1.cell b hb2
            have hf := hQ.2.1.frozen b
            generalize docF f.data.toList t.data.toList b b = vold at hc
            have hS := dn_set hQ b (.int .u8 (b : Nat))
            rw [docG_zero _ _ _ hb2] at hS
            have HS := hideT hS
            clear hS hQ
            go_wp2_with fail
            clear hc hf
            go_loopw [10] (fun i wr => ∃ k : Nat, k ≤ f.size ∧ i = .int .i64 k ∧ DnR w (docG f.data.toList t.data.toList b k) wr) (fun i _ => f.size - (intOf i).toNat)
            case atStart => exact ⟨0, by omega, rfl, HS.out⟩
            case round =>
              obtain ⟨k, hk, rfl, hQ⟩ := hrel
              by_cases hlt2 : k < f.size
              · have hlt3 : k < t.size := by rw [← H1.out]; exact hlt2
                have i4 : (k : Int) < (f.size : Int) := by omega
                have i5 : (0 : Int) ≤ (k : Int) := by omega
                have i6 : (k : Int) < (t.size : Int) := by omega
                have hcl := (f[k]'hlt2).toNat_lt
                have hcl2 := (t[k]'hlt3).toNat_lt
                have i7 : IntKind.i64.wrap ((f[k]'hlt2).toNat : Int) = ((f[k]'hlt2).toNat : Int) := by rw [IntKind.wrap_i64]; omega
                have hll : (f.data.toList.take k).length = (t.data.toList.take k).length := by rw [List.length_take, List.length_take, H5.out.1, H5.out.2, H1.out]
                by_cases h2 : (f[k]'hlt2).toNat = b
                · have e2 : (((f[k]'hlt2).toNat : Int) == (b : Int)) = true := by rw [beq_iff_eq]; omega
                  have hc := hQ.2.1.cell b hb2
                  have hf := hQ.2.1.frozen b
                  generalize docG f.data.toList t.data.toList b k b = vold2 at hc
                  have hS := dn_set hQ b (.int .u8 ((t[k]'hlt3).toNat : Nat))
                  rw [docG_hit _ _ _ _ _ _ (take_snocB f k hlt2) (take_snocB t k hlt3) hll h2] at hS
                  have HS2 := hideT hS
                  clear hS hQ hll h2
                  go_wp2
                  exact ⟨⟨k + 1, by omega, by go_num, HS2.out⟩, by simp [intOf]; omega⟩
                · have e2 : (((f[k]'hlt2).toNat : Int) == (b : Int)) = false := by rw [beq_eq_false_iff_ne]; omega
                  rw [docG_miss _ _ _ _ _ _ (take_snocB f k hlt2) (take_snocB t k hlt3) hll h2] at hQ
                  have HS2 := hideT hQ
                  clear hQ hll h2
                  go_wp2
                  exact ⟨⟨k + 1, by omega, by go_num, HS2.out⟩, by simp [intOf]; omega⟩
              · have i4 : ((k : Int) < (f.size : Int)) = False := by rw [eq_iff_iff, iff_false]; omega
                rw [docG_full _ _ _ _ (by rw [H5.out.1]; omega) (by rw [H5.out.2, ← H1.out]; omega)] at hQ
                have HS2 := hideT hQ
                clear hQ
                go_wp2
                exact ⟨⟨b + 1, by omega, by go_num, HS2.out⟩, by simp [intOf]; omega⟩
          · obtain rfl : b = 256 := by omega
            have i1 : (((256 : Nat) : Int) < 256) = False := by simp
            have hT2 : ArAt wr (w.heap.size + 1) 31 (tabF f.data.toList t.data.toList) := by
              have h := hQ.2.1
              unfold ArAt at h ⊢
              rw [← docF_full]
              exact h
            obtain ⟨A, hA⟩ : ∃ A, A = (arV (tabF f.data.toList t.data.toList)).toArray := ⟨_, rfl⟩
            obtain ⟨W2, hst, hW2, -, -, hbel⟩ := table_store (g := tabF f.data.toList t.data.toList) hQ.1 (tab_one _ _) hA
            have HF := hideT (And.intro hW2 (hbel w.heap.size w (Nat.le_refl _) hQ.2.2))
            have hAs : A.size = 256 := by rw [hA]; simp [arV_len]
            have HA := hideT hA
            have HL := hideT hT2
            clear hT2 hQ hW2 hbel hA
            go_wp2_with fail
            refine wp_load_mid 31 _ rfl (w.heap.size + 1) 0 rfl _ _ (range_block HL.out) und31 rfl (by rw [info31, arV_len]) ?_
            rw [← HA.out]
            go_wp2
            obtain rfl := HA.out
            refine bodyPost_ret (table_result rfl rfl HF.out.1) rfl ?_
            exact ⟨by rw [HR.out]; rfl, HF.out.2⟩
  · have e1 : ((f.size : Int) != (t.size : Int)) = true := by rw [bne_iff_ne]; omega
    have hR : newR f.data.toList t.data.toList = (fun _ => .int .u8 0, 21) := by unfold newR; rw [if_pos (.inl (by rw [hlf, hlt]; exact h1))]
    rw [hR]
    obtain ⟨W2, hst, hW2, -, -, hbel⟩ := HE.out _ HD.out
    have HF := hideT (And.intro hW2 (hbel w.heap.size w (Nat.le_refl _) HD.out.2.2))
    clear hR hW2 hbel
    go_enter Try.func11, Try.ntmps11
    go_wp2_with fail
    refine wp_load_mid 31 _ rfl (w.heap.size + 1) 0 rfl _ _ (range_block HD.out.2.1) und31 rfl (by rw [info31, arV_len]) ?_
    rw [← HZ.out]
    go_wp2
    refine bodyPost_ret (table_result rfl rfl HF.out.1) rfl ?_
    exact ⟨rfl, HF.out.2⟩

end Go.Proofs.Ytgcjjfidcadlgaa
