/- store: StoreFiles. -/
import Derived.Test.YtbibfpgcnmocjaaSxa
namespace Go.Proofs.Ytbibfpgcnmocjaa
open Go.RowKit

theorem frow_take {W : World} {a : Option Addr} {n cap m : Nat} {l : List (ByteArray × ByteArray)} (h : FRow W (.slice a n cap) l) (hm : m ≤ l.length) (cp : Nat) : FRow W (.slice a m cp) (l.take m) := by
  obtain ⟨a', c', hv, hc⟩ := h
  cases hv
  refine ⟨a, cp, by rw [List.length_take, Nat.min_eq_left hm], fun k x hx => ?_⟩
  rw [List.getElem?_take] at hx
  split at hx
  · exact hc k x hx
  · cases hx
theorem row_slice {W : World} {B n : Nat} {v : Value} {xs : List Value} (h : W.ownsRow B 52 2 v n xs) : ∃ a cap, v = .slice a n cap ∧ n ≤ cap := by
  rcases h.2 with ⟨rfl, rfl⟩ | ⟨g, cap, cur, rfl, _, _, h1, _⟩
  · exact ⟨none, 0, rfl, Nat.le_refl _⟩
  · exact ⟨_, cap, rfl, h1⟩
theorem row_at {W : World} {B cap : Nat} {a : Option Addr} {l : List It} (h : W.ownsRow B 52 2 (.slice a l.length cap) l.length (flV l)) {k : Nat} (hk : k < l.length) : ∃ g, a = some ⟨g, 0, none⟩ ∧ ∀ (j : Nat) (x : It), l[j]? = some x → W.cell? ⟨g, j * 2, none⟩ = some (.string ⟨x.1.toArray⟩) ∧ W.cell? ⟨g, j * 2 + 1, none⟩ = some (.string ⟨x.2.toArray⟩) := by
  rcases h.2 with ⟨h1, h0⟩ | ⟨g, cap', cur, hv, _⟩
  · omega
  · cases hv
    refine ⟨g, rfl, fun j x hx => ?_⟩
    obtain ⟨h1, h2⟩ := flV_at l j x hx
    have c1 := h.cells (g := g) rfl _ _ h1
    have c2 := h.cells (g := g) rfl _ _ h2
    have hadd : ∀ j, (⟨g, 0, none⟩ : Addr).add j = ⟨g, j, none⟩ := fun j => by unfold Addr.add; split <;> simp_all
    rw [hadd] at c1 c2
    exact ⟨c1, c2⟩
theorem ris_at {S : Sr} (h : Ris S.fs) {k : Nat} {x1 x2 : It} (h1 : (itemsL S)[k]? = some x1) (h2 : (itemsL S)[k + 1]? = some x2) : Op.bytesLess x1.1 x2.1 = true := by
  rw [bytesLess_eq]
  refine decide_eq_true ?_
  unfold Ris at h
  have h3 := List.pairwise_iff_getElem.1 h
  unfold itemsL at h1 h2
  rw [List.getElem?_map] at h1 h2
  obtain ⟨y1, e1, rfl⟩ := Option.map_eq_some_iff.1 h1
  obtain ⟨y2, e2, rfl⟩ := Option.map_eq_some_iff.1 h2
  obtain ⟨l1, rfl⟩ := List.getElem?_eq_some_iff.1 e1
  obtain ⟨l2, rfl⟩ := List.getElem?_eq_some_iff.1 e2
  have := h3 k (k + 1) (by simpa using l1) (by simpa using l2) (by omega)
  simpa using this
theorem FrP.ris {W0 W : World} {b : Nat} {S : Sr} {P : Nat → Prop} (h : FrP W0 W b S P) : Ris S.fs := by
  obtain ⟨F, ⟨mb, p, v, fm, D, hSA, rfl⟩, _⟩ := h
  exact hSA.ris
theorem FrP.drew {W0 W : World} {b : Nat} {S : Sr} {P : Nat → Prop} (h : FrP W0 W b S P) (n : Nat) : FrP W0 (W.drewN n) b S P := (h.step (below_drewN _ _ _)).1
theorem bytes_eq {a b : ByteArray} (h : a.data.toList = b.data.toList) : a = b := ByteArray.ext (Array.toList_inj.1 h)
theorem bytes_ne {a b : ByteArray} (h : ¬ a = b) : (a.toList == b.toList) = false ∧ ¬ a.data.toList = b.data.toList := by
  refine ⟨?_, fun e => h (bytes_eq e)⟩
  rw [beq_eq_false_iff_ne, ByteArray.toList_eq, ByteArray.toList_eq]
  exact fun e => h (bytes_eq e)
theorem few_take {items pre : List It} {m : Nat} (h : pre = items ∧ (m : Int) ≠ 0 ∧ (∀ j : Nat, 0 < j → j ≤ pre.length → (j : Int) ≠ (m : Int)) ∨ (pre <+: items ∧ (pre.length : Int) = (m : Int))) : pre = items.take pre.length ∧ pre.length = min m items.length := by
  rcases h with ⟨rfl, h0, hj⟩ | ⟨hp, hl⟩
  · refine ⟨by rw [List.take_length], ?_⟩
    by_cases hm : m ≤ pre.length
    · exact absurd rfl (hj m (by omega) hm)
    · omega
  · have := hp.length_le
    exact ⟨(List.prefix_iff_eq_take.1 hp), by omega⟩

set_option maxRecDepth 100000 in
set_option maxHeartbeats 8000000 in
theorem files_walk (W : World) (v : Value) (l : List (ByteArray × ByteArray)) (hv : FRow W v l) (hll : l.length ≤ 1000000000) (hs : ∀ x ∈ l, x.1.size ≤ 140737488355000 ∧ x.2.size ≤ 140737488355000) (m : ByteArray) (hm : m.size ≤ 140737488355000) (c : UInt8) : Calls Try.prog 5 #[v, .string m, .int .u8 (c.toNat : Nat)] W fun e w' => e = .returned (.bool true) ∧ Below W.heap.size W w' := by
  have HV := hideT hv
  have HS := hideT hs
  obtain ⟨a, cp, rfl, hrow⟩ := hv
  have HROW := hideT hrow
  clear hrow hs
  go_enter Try.func5, Try.ntmps5
  go_wp2_with fail
  refine (awake_any _).mono ?_
  rintro e w1 ⟨rfl, hb1⟩
  have HB1 := hideT hb1
  clear hb1
  go_wp2_with fail
  refine (new_any w1 _ l (HV.out.step HB1.out) HS.out).mono ?_
  rintro e w2 ⟨hb2, h2⟩
  rcases h2 with ⟨hne, rfl⟩ | ⟨hz, b, F, rfl, hI, hF⟩
  · have e1 : (((newR l).1 : Nat) : Int) != 0 := by rw [bne_iff_ne]; omega
    have e2 : ((((newR l).1 : Nat) : Int) == 0) = false := by rw [beq_eq_false_iff_ne]; omega
    have HB := hideT (HB1.out.trans (hb2.mono HB1.out.size))
    clear hne hb2
    go_wp2
    go_ret
    exact ⟨rfl, HB.out⟩
  · have H2 := hideT ((show Fr W w2 b ⟨(newR l).2, [], 0⟩ from ⟨F, hI, HB1.out.trans (hb2.mono HB1.out.size), fun k hk => Nat.le_trans HB1.out.size (hF k hk)⟩).prot)
    have HO1 := hideT (newR_ok hz)
    have HOPD := hideT (newR_opd hz m.data.toList)
    clear hb2 hI hF HB1 hz
    go_wp2_with fail
    refine (H2.out.call (fun F hI => openS_any hI HO1.out m hm)).mono ?_
    rintro e w3 ⟨rfl, h3, -⟩
    have H3 := hideT h3
    clear h3 H2 HO1
    generalize openE ⟨(newR l).2, [], 0⟩ m.data.toList = E at *
    generalize (⟨(newR l).2, [], 0⟩ : Sr).openS m.data.toList = S at *
    by_cases hE : E = 0
    · subst hE
      go_wp2_with fail
      refine (H3.out.all HOPD.out.ok (-1)).mono ?_
      rintro e w4 ⟨v1, pre1, rfl, hr1, h4, -, hp1⟩
      obtain rfl : pre1 = itemsL S := by
        rcases hp1 with h | h
        · exact h.1
        · omega
      obtain ⟨a1, cap1, rfl, hc1⟩ := row_slice hr1
      have H4 := hideT (And.intro h4 hr1)
      clear h4 hr1 hp1 H3
      obtain ⟨mm, hmm⟩ : ∃ mm : Nat, mm = c.toNat % 20 := ⟨_, rfl⟩
      have hmm20 : mm < 20 := by omega
      have t1 : (c.toNat : Int).tmod 20 = (mm : Int) := by rw [hmm, Int.tmod_eq_emod_of_nonneg (by omega)]; omega
      have t2 : IntKind.u8.wrap (mm : Int) = (mm : Int) := by rw [IntKind.wrap_u8]; omega
      have t3 : IntKind.i64.wrap (mm : Int) = (mm : Int) := by rw [IntKind.wrap_i64]; omega
      clear hmm
      go_wp2_with fail
      refine (H4.out.1.all HOPD.out.ok (mm : Int)).mono ?_
      rintro e w5 ⟨v2, pre2, rfl, hr2, h5, hst5, hp2⟩
      obtain ⟨hpt, hpl⟩ := few_take hp2
      have HPL := hideT hpl
      clear hpl
      obtain ⟨a2, cap2, rfl, hc2⟩ := row_slice hr2
      have H5 := hideT (And.intro h5 (And.intro (stay_row hst5 H4.out.2 (fun g hg => .inr hg)) (And.intro hr2 hpt)))
      clear h5 hst5 hr2 hp2 hpt H4
      go_wp2_with fail
      refine (H5.out.1.all HOPD.out.ok (-1)).mono ?_
      rintro e w6 ⟨v3, pre3, rfl, hr3, h6, hst6, hp3⟩
      obtain rfl : pre3 = itemsL S := by
        rcases hp3 with h | h
        · exact h.1
        · omega
      obtain ⟨a3, cap3, rfl, hc3⟩ := row_slice hr3
      have H6 := hideT (And.intro h6 (And.intro (stay_row hst6 H5.out.2.1 (fun g hg => .inl (.inr hg))) (And.intro (stay_row hst6 H5.out.2.2.1 (fun g hg => .inr hg)) (And.intro hr3 H5.out.2.2.2))))
      clear h6 hst6 hr3 hp3 H5
      go_wp2_with fail
      refine (H6.out.1.files HOPD.out.ok).mono ?_
      rintro e w7 ⟨v4, rfl, hr4, h7, hst7⟩
      obtain ⟨a4, cap4, rfl, hc4⟩ := row_slice hr4
      have H7 := hideT (And.intro h7 (And.intro (stay_row hst7 H6.out.2.1 (fun g hg => .inl (.inl (.inr hg)))) (And.intro (stay_row hst7 H6.out.2.2.1 (fun g hg => .inl (.inr hg))) (And.intro (stay_row hst7 H6.out.2.2.2.1 (fun g hg => .inr hg)) (And.intro hr4 H6.out.2.2.2.2)))))
      clear h7 hst7 hr4 H6
      have hN16 : (itemsL S).length ≤ 16 := by rw [items_len]; exact HOPD.out.ok.len
      go_wp2_with fail
      refine (same_any w7 _ _ ((itemsL S).map bFl) (frow_owns H7.out.2.1) (frow_owns H7.out.2.2.2.2.1) (by simp; omega)).mono ?_
      rintro e w8 ⟨rfl, hb8⟩
      obtain ⟨h8, hst8⟩ := H7.out.1.step hb8
      have H8 := hideT (And.intro h8 (And.intro (stay_row hst8 H7.out.2.1 (fun g hg => .inl (.inl (.inl (.inr hg))))) (And.intro (stay_row hst8 H7.out.2.2.1 (fun g hg => .inl (.inl (.inr hg)))) (And.intro (stay_row hst8 H7.out.2.2.2.1 (fun g hg => .inl (.inr hg))) H7.out.2.2.2.2.2))))
      clear h8 hst8 hb8 H7
      go_wp2_with fail
      refine (same_any w8 _ _ ((itemsL S).map bFl) (frow_owns H8.out.2.1) (frow_owns H8.out.2.2.2.1) (by simp; omega)).mono ?_
      rintro e w9 ⟨rfl, hb9⟩
      obtain ⟨h9, hst9⟩ := H8.out.1.step hb9
      have H9 := hideT (And.intro h9 (And.intro (stay_row hst9 H8.out.2.1 (fun g hg => .inl (.inl (.inl (.inr hg))))) (And.intro (stay_row hst9 H8.out.2.2.1 (fun g hg => .inl (.inl (.inr hg)))) H8.out.2.2.2.2)))
      clear h9 hst9 hb9 H8
      have u1 : min (mm : Int) ((itemsL S).length : Int) = (pre2.length : Int) := by have := HPL.out; omega
      have u2 : (0 : Int) ≤ (pre2.length : Int) := by omega
      have u3 : (pre2.length : Int) ≤ (cap1 : Int) := by have := HPL.out; omega
      go_wp2_with fail
      refine (same_any w9 _ _ (pre2.map bFl) (frow_owns H9.out.2.2.1) (by
        have h := frow_take (frow_owns H9.out.2.1) (m := pre2.length) (by rw [List.length_map]; have := HPL.out; omega) cap1
        rw [← List.map_take, ← H9.out.2.2.2] at h
        exact h) (by rw [List.length_map]; have := HPL.out; omega)).mono ?_
      rintro e w10 ⟨rfl, hb10⟩
      obtain ⟨h10, hst10⟩ := H9.out.1.step hb10
      have H10 := hideT (show FrP W w10 b S (fun k => (Value.slice a1 (itemsL S).length cap1).ownBlock = some k) ∧ w10.ownsRow w3.heap.size 52 2 (.slice a1 (itemsL S).length cap1) (itemsL S).length (flV (itemsL S)) from ⟨h10.less (fun k hk => .inl (.inl (.inl (.inr hk)))), stay_row hst10 H9.out.2.1 (fun g hg => .inl (.inl (.inl (.inr hg))))⟩)
      clear h10 hst10 hb10 H9 u1 u2 u3 HPL hc2 hc3 hc4
      go_wp2_with fail
      go_loopw [102] (fun iv wr => ∃ k : Nat, k ≤ (itemsL S).length ∧ iv = .int .i64 (k : Nat) ∧ Hid (FrP W wr b S (fun k => (Value.slice a1 (itemsL S).length cap1).ownBlock = some k) ∧ wr.ownsRow w3.heap.size 52 2 (.slice a1 (itemsL S).length cap1) (itemsL S).length (flV (itemsL S)))) (fun iv _ => (itemsL S).length - (intOf iv).toNat)
      case atStart => exact ⟨0, Nat.zero_le _, rfl, H10⟩
      case round =>
        obtain ⟨k, hk, rfl, HI⟩ := hrel
        by_cases hlt : k < (itemsL S).length
        · have i1 : (k : Int) < ((itemsL S).length : Int) := by omega
          have i2 : (0 : Int) ≤ (k : Int) := by omega
          cases k with
          | zero =>
            go_wp2_with fail
            go_quiet (fail)
            go_wp2
            exact ⟨⟨1, by omega, rfl, hideT ⟨HI.out.1.drew _, owns_keep HI.out.2 (fun _ _ => rfl)⟩⟩, by simp [intOf]; omega⟩
          | succ k =>
            have i3 : (0 : Int) < (k : Int) + 1 := by omega
            have i4 : IntKind.i64.wrap ((k : Int) + 1 - 1) = (k : Int) := by rw [IntKind.wrap_i64]; omega
            have i5 : (0 : Int) ≤ (k : Int) := by omega
            have i6 : (k : Int) < ((itemsL S).length : Int) := by omega
            obtain ⟨g1, rfl, hca⟩ := row_at HI.out.2 hlt
            have hx1 := List.getElem?_eq_getElem (show k < (itemsL S).length by omega)
            have hx2 := List.getElem?_eq_getElem hlt
            have p1 := (hca k _ hx1).1
            have p2 := (hca (k + 1) _ hx2).1
            generalize ((itemsL S)[k]'(by omega)) = x1 at hx1 p1
            generalize ((itemsL S)[k + 1]'hlt) = x2 at hx2 p2
            have HX := hideT (And.intro hx1 hx2)
            clear hx1 hx2 hca
            have hbl := ris_at HI.out.1.ris HX.out.1 HX.out.2
            have i7 : IntKind.i64.wrap ((k : Int) + 1 + 1) = (k : Int) + 1 + 1 := by rw [IntKind.wrap_i64]; omega
            go_wp2_with fail
            go_quiet (fail)
            go_wp2
            exact ⟨⟨k + 1 + 1, by omega, by go_num, hideT ⟨HI.out.1.drew _, owns_keep HI.out.2 (fun _ _ => rfl)⟩⟩, by simp [intOf]; omega⟩
        · obtain rfl : k = (itemsL S).length := by omega
          have i1 : (((itemsL S).length : Int) < ((itemsL S).length : Int)) = False := by rw [eq_iff_iff, iff_false]; omega
          have H20 := hideT (HI.out.1.less (Q := fun _ => False) (fun k h => h.elim))
          have HNL := hideT (show (itemsL S).length = l.length + (if 0 = 0 ∧ ¬ (∃ x ∈ l, x.1.data.toList = m.data.toList) then 1 else 0) by rw [items_len]; exact HOPD.out.len)
          clear HI H10 i1
          generalize (itemsL S).length = N at *
          go_wp2_with fail
          go_loopw [17, 124] (fun fv iv wr => ∃ (k f : Nat), k ≤ l.length ∧ iv = .int .i64 (k : Nat) ∧ fv = .int .i64 (f : Nat) ∧ f ≤ 1 ∧ Hid ((f = 1 ↔ ∃ x ∈ l.take k, x.1.data.toList = m.data.toList) ∧ FrP W wr b S (fun _ => False))) (fun _ iv _ => l.length - (intOf iv).toNat)
          case atStart => exact ⟨0, 0, Nat.zero_le _, rfl, rfl, Nat.zero_le _, hideT ⟨by simp, H20.out⟩⟩
          case round =>
            obtain ⟨k, f, hk, rfl, rfl, hf1, HI⟩ := hrel
            by_cases hlt : k < l.length
            · have i1 : (k : Int) < (l.length : Int) := by omega
              have i2 : (0 : Int) ≤ (k : Int) := by omega
              have hx := List.getElem?_eq_getElem hlt
              have hmem := List.getElem_mem hlt
              have htk : l.take (k + 1) = l.take k ++ [l[k]'hlt] := by rw [List.take_add_one, hx]; rfl
              obtain ⟨gb, o, rfl, r0, r1⟩ := HROW.out k _ hx
              have e0 := keep_cell HI.out.2.bel r0
              have e1 := keep_cell HI.out.2.bel r1
              have hsz := HS.out _ hmem
              have hhit := HOPD.out.hit _ hmem
              generalize (l[k]'hlt) = x at htk e0 e1 hsz hhit
              obtain ⟨nm, dt⟩ := x
              dsimp only at e0 e1 hsz hhit
              have HTK := hideT htk
              have HHIT := hideT hhit
              clear r0 r1 hx hmem htk hhit
              have w1' : IntKind.i64.wrap ((k : Int) + 1) = (k : Int) + 1 := by rw [IntKind.wrap_i64]; omega
              obtain ⟨hX, -⟩ := HI.out.2.more (W' := wr.alloc (.cells #[.string nm, .string dt] 52)) ((Below.refl _ wr).alloc (Nat.le_refl _) _) (Q := fun k => k = wr.heap.size) (fun k hk => by rw [World.size_alloc, hk]; omega)
              have hXn := heap_alloc_new wr (.cells #[.string nm, .string dt] 52)
              have HX := hideT (And.intro hX hXn)
              have HF := hideT HI.out.1
              clear hX hXn HI
              have HFN := hideT (fun (f' : Nat) (h : f' = 1 ↔ f = 1 ∨ nm.data.toList = m.data.toList) => show f' = 1 ↔ ∃ x ∈ l.take (k + 1), x.1.data.toList = m.data.toList from by
                rw [h, HF.out, HTK.out]
                simp only [List.mem_append, List.mem_singleton]
                constructor
                · rintro (⟨x, hx, e⟩ | e)
                  · exact ⟨x, .inl hx, e⟩
                  · exact ⟨_, .inr rfl, e⟩
                · rintro ⟨x, hx | rfl, e⟩
                  · exact .inl ⟨x, hx, e⟩
                  · exact .inr e)
              have HREAD := hideT (show ∀ D : List UInt8, look S.fs nm.data.toList = some ⟨D, decide (0 = 0 ∧ nm.data.toList = m.data.toList)⟩ → ∀ V ob, FrP W V b S (fun k => False ∨ k = ob) → Calls Try.prog 11 #[ptrV b, .string nm] V fun e w' => e = .returned (.tuple #[.string ⟨D.toArray⟩, .bool true]) ∧ FrP W w' b S (fun k => False ∨ k = ob) ∧ Stay (fun k => False ∨ k = ob) V w' from fun D hD V ob hV => hV.call (fun F hI => by
                have h := read_any hI nm (by omega)
                have h1 : readD S nm.data.toList = D := by unfold readD; rw [hD]
                have h2 : (look S.fs nm.data.toList).isSome = true := by rw [hD]; rfl
                rw [h1, h2] at h
                exact h))
              go_wp2_with fail
              obtain ⟨X, hXX⟩ : ∃ X, X = wr.alloc (.cells #[.string nm, .string dt] 52) := ⟨_, rfl⟩
              obtain ⟨ob, hob⟩ : ∃ ob, ob = wr.heap.size := ⟨_, rfl⟩
              rw [← hXX, ← hob] at HX
              rw [← hXX, ← hob]
              clear hXX hob e0 e1
              by_cases hnm : nm = m
              · subst hnm
                have g1 : Hid (∀ w' : World, w'.heap[ob]? = X.heap[ob]? → w'.cell? ⟨ob, 0, none⟩ = some (.string nm) ∧ w'.cell? ⟨ob, 1, none⟩ = some (.string dt)) := hideT (fun w' h => by
                  have h' := h.trans HX.out.2
                  simp [World.cell?, h'])
                refine (HREAD.out [] (by rw [HHIT.out]; simp) X ob HX.out.1).mono ?_
                rintro e w3 ⟨rfl, h3, hst3⟩
                obtain ⟨d0, d1⟩ := g1.out w3 (hst3 ob (.inr rfl))
                have H3 := hideT (h3.less (Q := fun _ => False) (fun _ h => h.elim))
                clear h3 hst3 HX HREAD
                go_wp2
                exact ⟨⟨k + 1, 1, by omega, by go_num, by go_num, Nat.le_refl _, hideT ⟨HFN.out 1 (by simp), H3.out⟩⟩, by simp [intOf]; omega⟩
              · obtain ⟨hn1, hn2⟩ := bytes_ne hnm
                have g1 : Hid (∀ w' : World, w'.heap[ob]? = X.heap[ob]? → w'.cell? ⟨ob, 0, none⟩ = some (.string nm) ∧ w'.cell? ⟨ob, 1, none⟩ = some (.string dt)) := hideT (fun w' h => by
                  have h' := h.trans HX.out.2
                  simp [World.cell?, h'])
                have hn3 : (nm.toList = m.toList) = False := by rw [eq_iff_iff, iff_false]; rw [beq_eq_false_iff_ne] at hn1; exact hn1
                have HN2 := hideT hn2
                clear hn2
                have HFF := hideT (HFN.out f (by simp [HN2.out]))
                refine (HREAD.out dt.data.toList (by rw [HHIT.out]; simp [HN2.out]) X ob HX.out.1).mono ?_
                rintro e w3 ⟨rfl, h3, hst3⟩
                obtain ⟨d0, d1⟩ := g1.out w3 (hst3 ob (.inr rfl))
                have H3 := hideT (h3.less (Q := fun _ => False) (fun _ h => h.elim))
                clear h3 hst3 HX HREAD
                go_wp2
                exact ⟨⟨k + 1, f, by omega, by go_num, rfl, hf1, hideT ⟨HFF.out, H3.out⟩⟩, by simp [intOf]; omega⟩
            · obtain rfl : k = l.length := by omega
              have i1 : ((l.length : Int) < (l.length : Int)) = False := by rw [eq_iff_iff, iff_false]; omega
              have HF := hideT (show f = 1 ↔ ∃ x ∈ l, x.1.data.toList = m.data.toList by have := HI.out.1; rwa [List.take_length] at this)
              have HB := hideT HI.out.2.bel
              clear HI
              have HL := hideT (show (N : Int) = (l.length : Int) + (1 - (f : Int)) by
                have h := HNL.out
                by_cases hm2 : ∃ x ∈ l, x.1.data.toList = m.data.toList
                · rw [if_neg (fun e => e.2 hm2)] at h
                  have := HF.out.2 hm2
                  omega
                · rw [if_pos ⟨by trivial, hm2⟩] at h
                  have : f ≠ 1 := fun e => hm2 (HF.out.1 e)
                  omega)
              have z1 : IntKind.i64.wrap ((1 : Int) - (f : Int)) = 1 - (f : Int) := by rw [IntKind.wrap_i64]; omega
              have z2 : IntKind.i64.wrap ((l.length : Int) + (1 - (f : Int))) = (N : Int) := by rw [HL.out, IntKind.wrap_i64]; omega
              clear HL
              go_wp2
              go_ret
              exact ⟨by first | rfl | simp, HB.out⟩
    · have E1 : ((E : Int) == 0) = false := by rw [beq_eq_false_iff_ne]; omega
      go_wp2_with fail
      refine (H3.out.all HOPD.out.ok (-1)).mono ?_
      rintro e w4 ⟨v1, pre1, rfl, hr1, h4, -, hp1⟩
      obtain rfl : pre1 = itemsL S := by
        rcases hp1 with h | h
        · exact h.1
        · omega
      obtain ⟨a1, cap1, rfl, hc1⟩ := row_slice hr1
      have H4 := hideT (And.intro h4 hr1)
      clear h4 hr1 hp1 H3
      obtain ⟨mm, hmm⟩ : ∃ mm : Nat, mm = c.toNat % 20 := ⟨_, rfl⟩
      have hmm20 : mm < 20 := by omega
      have t1 : (c.toNat : Int).tmod 20 = (mm : Int) := by rw [hmm, Int.tmod_eq_emod_of_nonneg (by omega)]; omega
      have t2 : IntKind.u8.wrap (mm : Int) = (mm : Int) := by rw [IntKind.wrap_u8]; omega
      have t3 : IntKind.i64.wrap (mm : Int) = (mm : Int) := by rw [IntKind.wrap_i64]; omega
      clear hmm
      go_wp2_with fail
      refine (H4.out.1.all HOPD.out.ok (mm : Int)).mono ?_
      rintro e w5 ⟨v2, pre2, rfl, hr2, h5, hst5, hp2⟩
      obtain ⟨hpt, hpl⟩ := few_take hp2
      have HPL := hideT hpl
      clear hpl
      obtain ⟨a2, cap2, rfl, hc2⟩ := row_slice hr2
      have H5 := hideT (And.intro h5 (And.intro (stay_row hst5 H4.out.2 (fun g hg => .inr hg)) (And.intro hr2 hpt)))
      clear h5 hst5 hr2 hp2 hpt H4
      go_wp2_with fail
      refine (H5.out.1.all HOPD.out.ok (-1)).mono ?_
      rintro e w6 ⟨v3, pre3, rfl, hr3, h6, hst6, hp3⟩
      obtain rfl : pre3 = itemsL S := by
        rcases hp3 with h | h
        · exact h.1
        · omega
      obtain ⟨a3, cap3, rfl, hc3⟩ := row_slice hr3
      have H6 := hideT (And.intro h6 (And.intro (stay_row hst6 H5.out.2.1 (fun g hg => .inl (.inr hg))) (And.intro (stay_row hst6 H5.out.2.2.1 (fun g hg => .inr hg)) (And.intro hr3 H5.out.2.2.2))))
      clear h6 hst6 hr3 hp3 H5
      go_wp2_with fail
      refine (H6.out.1.files HOPD.out.ok).mono ?_
      rintro e w7 ⟨v4, rfl, hr4, h7, hst7⟩
      obtain ⟨a4, cap4, rfl, hc4⟩ := row_slice hr4
      have H7 := hideT (And.intro h7 (And.intro (stay_row hst7 H6.out.2.1 (fun g hg => .inl (.inl (.inr hg)))) (And.intro (stay_row hst7 H6.out.2.2.1 (fun g hg => .inl (.inr hg))) (And.intro (stay_row hst7 H6.out.2.2.2.1 (fun g hg => .inr hg)) (And.intro hr4 H6.out.2.2.2.2)))))
      clear h7 hst7 hr4 H6
      have hN16 : (itemsL S).length ≤ 16 := by rw [items_len]; exact HOPD.out.ok.len
      go_wp2_with fail
      refine (same_any w7 _ _ ((itemsL S).map bFl) (frow_owns H7.out.2.1) (frow_owns H7.out.2.2.2.2.1) (by simp; omega)).mono ?_
      rintro e w8 ⟨rfl, hb8⟩
      obtain ⟨h8, hst8⟩ := H7.out.1.step hb8
      have H8 := hideT (And.intro h8 (And.intro (stay_row hst8 H7.out.2.1 (fun g hg => .inl (.inl (.inl (.inr hg))))) (And.intro (stay_row hst8 H7.out.2.2.1 (fun g hg => .inl (.inl (.inr hg)))) (And.intro (stay_row hst8 H7.out.2.2.2.1 (fun g hg => .inl (.inr hg))) H7.out.2.2.2.2.2))))
      clear h8 hst8 hb8 H7
      go_wp2_with fail
      refine (same_any w8 _ _ ((itemsL S).map bFl) (frow_owns H8.out.2.1) (frow_owns H8.out.2.2.2.1) (by simp; omega)).mono ?_
      rintro e w9 ⟨rfl, hb9⟩
      obtain ⟨h9, hst9⟩ := H8.out.1.step hb9
      have H9 := hideT (And.intro h9 (And.intro (stay_row hst9 H8.out.2.1 (fun g hg => .inl (.inl (.inl (.inr hg))))) (And.intro (stay_row hst9 H8.out.2.2.1 (fun g hg => .inl (.inl (.inr hg)))) H8.out.2.2.2.2)))
      clear h9 hst9 hb9 H8
      have u1 : min (mm : Int) ((itemsL S).length : Int) = (pre2.length : Int) := by have := HPL.out; omega
      have u2 : (0 : Int) ≤ (pre2.length : Int) := by omega
      have u3 : (pre2.length : Int) ≤ (cap1 : Int) := by have := HPL.out; omega
      go_wp2_with fail
      refine (same_any w9 _ _ (pre2.map bFl) (frow_owns H9.out.2.2.1) (by
        have h := frow_take (frow_owns H9.out.2.1) (m := pre2.length) (by rw [List.length_map]; have := HPL.out; omega) cap1
        rw [← List.map_take, ← H9.out.2.2.2] at h
        exact h) (by rw [List.length_map]; have := HPL.out; omega)).mono ?_
      rintro e w10 ⟨rfl, hb10⟩
      obtain ⟨h10, hst10⟩ := H9.out.1.step hb10
      have H10 := hideT (show FrP W w10 b S (fun k => (Value.slice a1 (itemsL S).length cap1).ownBlock = some k) ∧ w10.ownsRow w3.heap.size 52 2 (.slice a1 (itemsL S).length cap1) (itemsL S).length (flV (itemsL S)) from ⟨h10.less (fun k hk => .inl (.inl (.inl (.inr hk)))), stay_row hst10 H9.out.2.1 (fun g hg => .inl (.inl (.inl (.inr hg))))⟩)
      clear h10 hst10 hb10 H9 u1 u2 u3 HPL hc2 hc3 hc4
      go_wp2_with fail
      go_loopw [102] (fun iv wr => ∃ k : Nat, k ≤ (itemsL S).length ∧ iv = .int .i64 (k : Nat) ∧ Hid (FrP W wr b S (fun k => (Value.slice a1 (itemsL S).length cap1).ownBlock = some k) ∧ wr.ownsRow w3.heap.size 52 2 (.slice a1 (itemsL S).length cap1) (itemsL S).length (flV (itemsL S)))) (fun iv _ => (itemsL S).length - (intOf iv).toNat)
      case atStart => exact ⟨0, Nat.zero_le _, rfl, H10⟩
      case round =>
        obtain ⟨k, hk, rfl, HI⟩ := hrel
        by_cases hlt : k < (itemsL S).length
        · have i1 : (k : Int) < ((itemsL S).length : Int) := by omega
          have i2 : (0 : Int) ≤ (k : Int) := by omega
          cases k with
          | zero =>
            go_wp2_with fail
            go_quiet (fail)
            go_wp2
            exact ⟨⟨1, by omega, rfl, hideT ⟨HI.out.1.drew _, owns_keep HI.out.2 (fun _ _ => rfl)⟩⟩, by simp [intOf]; omega⟩
          | succ k =>
            have i3 : (0 : Int) < (k : Int) + 1 := by omega
            have i4 : IntKind.i64.wrap ((k : Int) + 1 - 1) = (k : Int) := by rw [IntKind.wrap_i64]; omega
            have i5 : (0 : Int) ≤ (k : Int) := by omega
            have i6 : (k : Int) < ((itemsL S).length : Int) := by omega
            obtain ⟨g1, rfl, hca⟩ := row_at HI.out.2 hlt
            have hx1 := List.getElem?_eq_getElem (show k < (itemsL S).length by omega)
            have hx2 := List.getElem?_eq_getElem hlt
            have p1 := (hca k _ hx1).1
            have p2 := (hca (k + 1) _ hx2).1
            generalize ((itemsL S)[k]'(by omega)) = x1 at hx1 p1
            generalize ((itemsL S)[k + 1]'hlt) = x2 at hx2 p2
            have HX := hideT (And.intro hx1 hx2)
            clear hx1 hx2 hca
            have hbl := ris_at HI.out.1.ris HX.out.1 HX.out.2
            have i7 : IntKind.i64.wrap ((k : Int) + 1 + 1) = (k : Int) + 1 + 1 := by rw [IntKind.wrap_i64]; omega
            go_wp2_with fail
            go_quiet (fail)
            go_wp2
            exact ⟨⟨k + 1 + 1, by omega, by go_num, hideT ⟨HI.out.1.drew _, owns_keep HI.out.2 (fun _ _ => rfl)⟩⟩, by simp [intOf]; omega⟩
        · obtain rfl : k = (itemsL S).length := by omega
          have i1 : (((itemsL S).length : Int) < ((itemsL S).length : Int)) = False := by rw [eq_iff_iff, iff_false]; omega
          have H20 := hideT (HI.out.1.less (Q := fun _ => False) (fun k h => h.elim))
          have HNL := hideT (show (itemsL S).length = l.length + (if E = 0 ∧ ¬ (∃ x ∈ l, x.1.data.toList = m.data.toList) then 1 else 0) by rw [items_len]; exact HOPD.out.len)
          clear HI H10 i1
          generalize (itemsL S).length = N at *
          go_wp2_with fail
          go_loopw [17, 124] (fun fv iv wr => ∃ (k f : Nat), k ≤ l.length ∧ iv = .int .i64 (k : Nat) ∧ fv = .int .i64 (f : Nat) ∧ f ≤ 1 ∧ Hid ((f = 1 ↔ ∃ x ∈ l.take k, x.1.data.toList = m.data.toList) ∧ FrP W wr b S (fun _ => False))) (fun _ iv _ => l.length - (intOf iv).toNat)
          case atStart => exact ⟨0, 0, Nat.zero_le _, rfl, rfl, Nat.zero_le _, hideT ⟨by simp, H20.out⟩⟩
          case round =>
            obtain ⟨k, f, hk, rfl, rfl, hf1, HI⟩ := hrel
            by_cases hlt : k < l.length
            · have i1 : (k : Int) < (l.length : Int) := by omega
              have i2 : (0 : Int) ≤ (k : Int) := by omega
              have hx := List.getElem?_eq_getElem hlt
              have hmem := List.getElem_mem hlt
              have htk : l.take (k + 1) = l.take k ++ [l[k]'hlt] := by rw [List.take_add_one, hx]; rfl
              obtain ⟨gb, o, rfl, r0, r1⟩ := HROW.out k _ hx
              have e0 := keep_cell HI.out.2.bel r0
              have e1 := keep_cell HI.out.2.bel r1
              have hsz := HS.out _ hmem
              have hhit := HOPD.out.hit _ hmem
              generalize (l[k]'hlt) = x at htk e0 e1 hsz hhit
              obtain ⟨nm, dt⟩ := x
              dsimp only at e0 e1 hsz hhit
              have HTK := hideT htk
              have HHIT := hideT hhit
              clear r0 r1 hx hmem htk hhit
              have w1' : IntKind.i64.wrap ((k : Int) + 1) = (k : Int) + 1 := by rw [IntKind.wrap_i64]; omega
              obtain ⟨hX, -⟩ := HI.out.2.more (W' := wr.alloc (.cells #[.string nm, .string dt] 52)) ((Below.refl _ wr).alloc (Nat.le_refl _) _) (Q := fun k => k = wr.heap.size) (fun k hk => by rw [World.size_alloc, hk]; omega)
              have hXn := heap_alloc_new wr (.cells #[.string nm, .string dt] 52)
              have HX := hideT (And.intro hX hXn)
              have HF := hideT HI.out.1
              clear hX hXn HI
              have HFN := hideT (fun (f' : Nat) (h : f' = 1 ↔ f = 1 ∨ nm.data.toList = m.data.toList) => show f' = 1 ↔ ∃ x ∈ l.take (k + 1), x.1.data.toList = m.data.toList from by
                rw [h, HF.out, HTK.out]
                simp only [List.mem_append, List.mem_singleton]
                constructor
                · rintro (⟨x, hx, e⟩ | e)
                  · exact ⟨x, .inl hx, e⟩
                  · exact ⟨_, .inr rfl, e⟩
                · rintro ⟨x, hx | rfl, e⟩
                  · exact .inl ⟨x, hx, e⟩
                  · exact .inr e)
              have HREAD := hideT (show ∀ D : List UInt8, look S.fs nm.data.toList = some ⟨D, decide (E = 0 ∧ nm.data.toList = m.data.toList)⟩ → ∀ V ob, FrP W V b S (fun k => False ∨ k = ob) → Calls Try.prog 11 #[ptrV b, .string nm] V fun e w' => e = .returned (.tuple #[.string ⟨D.toArray⟩, .bool true]) ∧ FrP W w' b S (fun k => False ∨ k = ob) ∧ Stay (fun k => False ∨ k = ob) V w' from fun D hD V ob hV => hV.call (fun F hI => by
                have h := read_any hI nm (by omega)
                have h1 : readD S nm.data.toList = D := by unfold readD; rw [hD]
                have h2 : (look S.fs nm.data.toList).isSome = true := by rw [hD]; rfl
                rw [h1, h2] at h
                exact h))
              go_wp2_with fail
              obtain ⟨X, hXX⟩ : ∃ X, X = wr.alloc (.cells #[.string nm, .string dt] 52) := ⟨_, rfl⟩
              obtain ⟨ob, hob⟩ : ∃ ob, ob = wr.heap.size := ⟨_, rfl⟩
              rw [← hXX, ← hob] at HX
              rw [← hXX, ← hob]
              clear hXX hob e0 e1
              by_cases hnm : nm = m
              · subst hnm
                have g1 : Hid (∀ w' : World, w'.heap[ob]? = X.heap[ob]? → w'.cell? ⟨ob, 0, none⟩ = some (.string nm) ∧ w'.cell? ⟨ob, 1, none⟩ = some (.string dt)) := hideT (fun w' h => by
                  have h' := h.trans HX.out.2
                  simp [World.cell?, h'])
                refine (HREAD.out dt.data.toList (by rw [HHIT.out]; simp [hE]) X ob HX.out.1).mono ?_
                rintro e w3 ⟨rfl, h3, hst3⟩
                obtain ⟨d0, d1⟩ := g1.out w3 (hst3 ob (.inr rfl))
                have H3 := hideT (h3.less (Q := fun _ => False) (fun _ h => h.elim))
                clear h3 hst3 HX HREAD
                go_wp2
                exact ⟨⟨k + 1, 1, by omega, by go_num, by go_num, Nat.le_refl _, hideT ⟨HFN.out 1 (by simp), H3.out⟩⟩, by simp [intOf]; omega⟩
              · obtain ⟨hn1, hn2⟩ := bytes_ne hnm
                have g1 : Hid (∀ w' : World, w'.heap[ob]? = X.heap[ob]? → w'.cell? ⟨ob, 0, none⟩ = some (.string nm) ∧ w'.cell? ⟨ob, 1, none⟩ = some (.string dt)) := hideT (fun w' h => by
                  have h' := h.trans HX.out.2
                  simp [World.cell?, h'])
                have hn3 : (nm.toList = m.toList) = False := by rw [eq_iff_iff, iff_false]; rw [beq_eq_false_iff_ne] at hn1; exact hn1
                have HN2 := hideT hn2
                clear hn2
                have HFF := hideT (HFN.out f (by simp [HN2.out]))
                refine (HREAD.out dt.data.toList (by rw [HHIT.out]; simp [HN2.out]) X ob HX.out.1).mono ?_
                rintro e w3 ⟨rfl, h3, hst3⟩
                obtain ⟨d0, d1⟩ := g1.out w3 (hst3 ob (.inr rfl))
                have H3 := hideT (h3.less (Q := fun _ => False) (fun _ h => h.elim))
                clear h3 hst3 HX HREAD
                go_wp2
                exact ⟨⟨k + 1, f, by omega, by go_num, rfl, hf1, hideT ⟨HFF.out, H3.out⟩⟩, by simp [intOf]; omega⟩
            · obtain rfl : k = l.length := by omega
              have i1 : ((l.length : Int) < (l.length : Int)) = False := by rw [eq_iff_iff, iff_false]; omega
              have HF := hideT (show f = 1 ↔ ∃ x ∈ l, x.1.data.toList = m.data.toList by have := HI.out.1; rwa [List.take_length] at this)
              have HB := hideT HI.out.2.bel
              clear HI
              obtain rfl : N = l.length := by
                have h := HNL.out
                rw [if_neg (fun e => hE e.1)] at h
                exact h
              go_wp2
              go_ret
              exact ⟨by first | rfl | simp, HB.out⟩
end Go.Proofs.Ytbibfpgcnmocjaa
