/- script: matcher.New out of measure.Of. -/
import Derived.Test.YtjfkhlmoppbbgaaGreatDoorKXv1
import Derived.Test.YtjfkhlmoppbbgaaGreatDoorKMf
import Derived.Laws.EntriesVeiled
namespace Go.Proofs.YtjfkhlmoppbbgaaGreatDoor
open Go.RowKit
open scanP scrP tpl ytb

theorem two_obj (w : World) (o1 o2 : Obj) : Below w.heap.size w ((w.alloc o1).alloc o2) ∧ ((w.alloc o1).alloc o2).heap[w.heap.size]? = some o1 ∧ ((w.alloc o1).alloc o2).heap[w.heap.size + 1]? = some o2 := by
  have e1 : (w.alloc o1).heap.size = w.heap.size + 1 := by simp
  have hA := (Below.refl w.heap.size w).alloc (Nat.le_refl _) o1
  have hA2 := (Below.refl (w.alloc o1).heap.size (w.alloc o1)).alloc (Nat.le_refl _) o2
  refine ⟨hA.trans (hA2.mono hA.size), (hA2.block _ (by rw [e1]; omega)).trans (heap_alloc_new w o1), ?_⟩
  rw [← e1]
  exact heap_alloc_new _ _
/-- What is known of a BRE: its error, its groups. -/
noncomputable def gM : Gr := fun t => ((br.ofM (bst t)).2.1.toNat, (br.ofM (bst t)).1.groups.toNat)
theorem of_groups (s : ByteArray) : 0 ≤ (br.ofM s).1.groups := by
  unfold br.ofM
  cases h : br.parseT s with
  | ok ts => exact (br.parse_measure s ts h).2.2.1
  | error x => exact Int.le_refl 0
set_option maxRecDepth 100000 in
set_option maxHeartbeats 4000000 in
theorem newOk (hpos : ∀ s, 0 ≤ (br.ofM s).2.1) : NewOk gM := by
  intro t w ht hg
  have hmf : ∀ (fn : Fn) (first cap : Array Value) (w : World), (Instr.makeFunc fn first cap).run Tryz.prog w = .ok (.func fn first cap) w := fun _ _ _ _ => rfl
  have hA := (Below.refl w.heap.size w).alloc (Nat.le_refl _) (.cells #[.int .i64 0, .int .i64 0] 25)
  have hN := heap_alloc_new w (.cells #[.int .i64 0, .int .i64 0] 25)
  have HO := hideT (br.mOf_any (bst t) (w.alloc (.cells #[.int .i64 0, .int .i64 0] 25)) (show br.Glob _ from (hg.stay (Tch.of (F := fun _ => False) hA) (fun _ h => h.elim)).1))
  have hp := hpos (bst t)
  have hgr := of_groups (bst t)
  have HE : gM t = ((br.ofM (bst t)).2.1.toNat, (br.ofM (bst t)).1.groups.toNat) := rfl
  rw [HE]
  clear HE hpos
  generalize br.ofM (bst t) = M at *
  obtain ⟨⟨m1, m2, m3, m4, m5, m6, m7⟩, e, p⟩ := M
  simp only at hp hgr HO ⊢
  obtain ⟨en, rfl⟩ := Int.eq_ofNat_of_zero_le hp
  obtain ⟨gn, rfl⟩ := Int.eq_ofNat_of_zero_le hgr
  simp only [Int.toNat_natCast]
  have HA := hideT (And.intro hA hN)
  have HC := hideT (fun w => prg.clone_any (bst t) w (by rw [bst_size]; omega))
  clear hA hN hp hgr hg
  by_cases he : en = 0
  · subst he
    go_enter Tryz.func110, Tryz.ntmps110
    go_wp2_with fail
    generalize w.alloc (.cells #[.int .i64 0, .int .i64 0] 25) = Y at *
    refine HO.out.mono ?_
    rintro x w1 ⟨rfl, hb⟩
    have N1 := (hb.block _ (blk_lt HA.out.2)).trans HA.out.2
    have B1 := HA.out.1.trans (hb.mono HA.out.1.size)
    obtain ⟨hB2, k1, k2⟩ := two_obj w1 (.cells #[.int .i64 m1, .int .i64 (gn : Nat), .int .i64 m3, .int .i64 m4, .bool m5, .bool m6, .bool m7] 190) (.cells #[.int .i64 ((0 : Nat) : Int), .int .i64 (p : Nat)] 25)
    have hw1 := blk_lt N1
    have N2 := (hB2.block _ hw1).trans N1
    have B2 := B1.trans (hB2.mono B1.size)
    have K := hideT (And.intro N2 (And.intro k1 (And.intro k2 B2)))
    clear hb HO HA N1 B1 hB2 k1 k2 N2 B2
    simp only [br.Ms.arr]
    go_wp2_with fail
    generalize (w1.alloc (.cells #[.int .i64 m1, .int .i64 (gn : Nat), .int .i64 m3, .int .i64 m4, .bool m5, .bool m6, .bool m7] 190)).alloc (.cells #[.int .i64 ((0 : Nat) : Int), .int .i64 (p : Nat)] 25) = V at *
    refine (HC.out V).mono ?_
    rintro x w2 ⟨rfl, hb2⟩
    obtain ⟨h0, h1, h2, h3⟩ := K.out
    have g1 := (hb2.block _ (blk_lt h1)).trans h1
    have g0 := (hb2.block _ (blk_lt h0)).trans h0
    have B3 := h3.trans (hb2.mono h3.size)
    have hA := (Below.refl w2.heap.size w2).alloc (Nat.le_refl _)
    have q1 : w2.cell? ⟨w1.heap.size, 1, none⟩ = some (.int .i64 (gn : Nat)) := by simp [World.cell?, g1]
    have hlt1 := blk_lt g1
    have hlt0 := blk_lt g0
    have q4 : ∀ o, (w2.alloc o).cell? ⟨w1.heap.size, 4, none⟩ = some (.bool m5) := fun o => by rw [World.cell?_alloc_lt _ _ _ hlt1]; simp [World.cell?, g1]
    have r0 : ∀ o, (w2.alloc o).cell? ⟨w.heap.size, 0, none⟩ = some (.int .i64 0) := fun o => by rw [World.cell?_alloc_lt _ _ _ hlt0]; simp [World.cell?, g0]
    have r1 : ∀ o, (w2.alloc o).cell? ⟨w.heap.size, 1, none⟩ = some (.int .i64 0) := fun o => by rw [World.cell?_alloc_lt _ _ _ hlt0]; simp [World.cell?, g0]
    have z0 : ∀ o, (w2.alloc o).frozen? ⟨w.heap.size, 0, none⟩ = false := fun o => by rw [World.frozen?_alloc_old _ _ _ (Nat.ne_of_lt hlt0)]; simp [World.frozen?, g0]
    have z1 : ∀ o, (w2.alloc o).frozen? ⟨w.heap.size, 1, none⟩ = false := fun o => by rw [World.frozen?_alloc_old _ _ _ (Nat.ne_of_lt hlt0)]; simp [World.frozen?, g0]
    have KN : ∀ fv, Hid ((w2.alloc (.cells #[.string (bst t), .int .i64 (gn : Nat), fv, .int .i64 0] 197)).heap[w.heap.size]? = some (.cells #[.int .i64 0, .int .i64 0] 25 (0, 0)) ∧ (w2.alloc (.cells #[.string (bst t), .int .i64 (gn : Nat), fv, .int .i64 0] 197)).heap[w2.heap.size]? = some (.cells #[.string (bst t), .int .i64 (gn : Nat), fv, .int .i64 0] 197 (0, 0)) ∧ Below w.heap.size w (w2.alloc (.cells #[.string (bst t), .int .i64 (gn : Nat), fv, .int .i64 0] 197))) := fun fv => by
      have hX := (Below.refl w2.heap.size w2).alloc (Nat.le_refl _) (.cells #[.string (bst t), .int .i64 (gn : Nat), fv, .int .i64 0] 197)
      exact hideT ⟨(hX.block _ hlt0).trans g0, heap_alloc_new w2 _, B3.trans (hX.mono B3.size)⟩
    have hne : w2.heap.size ≠ w.heap.size := by omega
    have HNE := hideT hne
    clear h0 h1 h2 h3 g0 g1 B3 K hb2 HC hA hlt0 hlt1 hw1 hne
    cases m5 with
    | false =>
      go_wp2
      obtain ⟨u0, u1, u2⟩ := (KN (.func (.func 131) #[.string (bst t)] #[])).out
      have u3 := ytb.put2 u0 (.int .i64 0) (.int .i64 0)
      refine bodyPost_ret (tpl.fault_result (b := w.heap.size) (fr := (0, 0)) rfl rfl u3) rfl ?_
      refine ⟨(u2.setCell (p := ⟨w.heap.size, 0, none⟩) (Nat.le_refl _) _).setCell (p := ⟨w.heap.size, 1, none⟩) (Nat.le_refl _) _, .inl ⟨trivial, w2.heap.size, rfl, ?_⟩⟩
      refine (World.cell?_of_block ((put_far _ w.heap.size 1 _ HNE.out).trans (put_far _ w.heap.size 0 _ HNE.out))).trans ?_
      simp only [World.cell?, u1]; rfl
    | true =>
      go_wp2
      obtain ⟨u0, u1, u2⟩ := (KN (.func (.func 132) #[.string (bst t)] #[])).out
      have u3 := ytb.put2 u0 (.int .i64 0) (.int .i64 0)
      refine bodyPost_ret (tpl.fault_result (b := w.heap.size) (fr := (0, 0)) rfl rfl u3) rfl ?_
      refine ⟨(u2.setCell (p := ⟨w.heap.size, 0, none⟩) (Nat.le_refl _) _).setCell (p := ⟨w.heap.size, 1, none⟩) (Nat.le_refl _) _, .inl ⟨trivial, w2.heap.size, rfl, ?_⟩⟩
      refine (World.cell?_of_block ((put_far _ w.heap.size 1 _ HNE.out).trans (put_far _ w.heap.size 0 _ HNE.out))).trans ?_
      simp only [World.cell?, u1]; rfl
  · have c1 : ((en : Int) != 0) = true := by rw [bne_iff_ne]; omega
    go_enter Tryz.func110, Tryz.ntmps110
    go_wp2_with fail
    generalize w.alloc (.cells #[.int .i64 0, .int .i64 0] 25) = Y at *
    refine HO.out.mono ?_
    rintro x w1 ⟨rfl, hb⟩
    have N1 := (hb.block _ (blk_lt HA.out.2)).trans HA.out.2
    have B1 := HA.out.1.trans (hb.mono HA.out.1.size)
    obtain ⟨hB2, k1, k2⟩ := two_obj w1 (.cells #[.int .i64 m1, .int .i64 (gn : Nat), .int .i64 m3, .int .i64 m4, .bool m5, .bool m6, .bool m7] 190) (.cells #[.int .i64 ((en : Nat) : Int), .int .i64 (p : Nat)] 25)
    have hw1 := blk_lt N1
    have N2 := (hB2.block _ hw1).trans N1
    have B2 := B1.trans (hB2.mono B1.size)
    have K := hideT (And.intro N2 (And.intro k1 (And.intro k2 B2)))
    clear hb HO HA N1 B1 hB2 k1 k2 N2 B2
    simp only [br.Ms.arr]
    go_wp2_with fail
    generalize hV : (w1.alloc (.cells #[.int .i64 m1, .int .i64 (gn : Nat), .int .i64 m3, .int .i64 m4, .bool m5, .bool m6, .bool m7] 190)).alloc (.cells #[.int .i64 ((en : Nat) : Int), .int .i64 (p : Nat)] 25) = V at *
    clear hV
    obtain ⟨h0, h1, h2, h3⟩ := K.out
    have a0 : V.cell? ⟨w1.heap.size + 1, 0, none⟩ = some (.int .i64 (en : Nat)) := by simp [World.cell?, h2]
    have a1 : V.cell? ⟨w1.heap.size + 1, 1, none⟩ = some (.int .i64 (p : Nat)) := by simp [World.cell?, h2]
    have b0 : V.cell? ⟨w.heap.size, 0, none⟩ = some (.int .i64 0) := by simp [World.cell?, h0]
    have b1 : V.cell? ⟨w.heap.size, 1, none⟩ = some (.int .i64 0) := by simp [World.cell?, h0]
    have z0 : V.frozen? ⟨w.heap.size, 0, none⟩ = false := by simp [World.frozen?, h0]
    have z1 : V.frozen? ⟨w.heap.size, 1, none⟩ = false := by simp [World.frozen?, h0]
    have HF := hideT (ytb.put2 h0 (.int .i64 (en : Nat)) (.int .i64 (p : Nat)))
    have B3 := hideT ((h3.setCell (p := ⟨w.heap.size, 0, none⟩) (Nat.le_refl _) (.int .i64 (en : Nat))).setCell (p := ⟨w.heap.size, 1, none⟩) (Nat.le_refl _) (.int .i64 (p : Nat)))
    clear h0 h1 h2 h3 K
    go_region
    all_goals
      go_wp2
      generalize (V.setCell ⟨w.heap.size, 0, none⟩ (.int .i64 (en : Nat))).setCell ⟨w.heap.size, 1, none⟩ (.int .i64 (p : Nat)) = V2 at *
      refine bodyPost_ret (tpl.fault_result (b := w.heap.size) (fr := (0, 0)) rfl rfl HF.out) rfl ?_
      exact ⟨B3.out.drew, .inr ⟨he, p, rfl⟩⟩

end Go.Proofs.YtjfkhlmoppbbgaaGreatDoor

/- script: an error of a BRE isn't below nothing; matcher.New. -/
namespace Go.Proofs.YtjfkhlmoppbbgaaGreatDoor
open Go.RowKit
open scanP scrP tpl ytb

namespace br
theorem err_e (e : Int) : (It.err e).e = e := rfl
theorem fault_e (e : Int) (i : Nat) : (faultT e i).e = e := rfl
theorem class_pos (s : ByteArray) : 0 ≤ classC s := by
  unfold classC ccF
  repeat' split
  all_goals decide
theorem mark_pos (s : ByteArray) (i : Nat) : 0 ≤ (markS s i).e := by
  unfold markS
  split
  · show (0 : Int) ≤ 6; decide
  · split
    · exact class_pos _
    · split
      · exact Int.le_refl 0
      · show (0 : Int) ≤ 8; decide
theorem item_pos (s : ByteArray) (i : Nat) : 0 ≤ (itemS s i).e := by
  unfold itemS
  split
  · split
    · exact mark_pos s i
    · exact Int.le_refl 0
  · show (0 : Int) ≤ 6; decide
theorem range_pos (s : ByteArray) (a : It) : 0 ≤ (rangeS s a).e := by
  have h := item_pos s (a.next + 1)
  unfold rangeS
  split
  · show (0 : Int) ≤ 6; decide
  · split
    · show (0 : Int) ≤ 7; decide
    · split
      · exact h
      · split
        · show (0 : Int) ≤ 7; decide
        · exact Int.le_refl 0
theorem entry_pos (s : ByteArray) (i : Nat) : 0 ≤ (entryS s i).e := by
  have h := item_pos s i
  unfold entryS
  split
  · exact h
  · split
    · exact range_pos s _
    · exact Int.le_refl 0
theorem loop_pos (s : ByteArray) : ∀ (f : Nat) (b : Bool) (q : Nat → Bool) (i : Nat), 0 ≤ (loopS s f b q i).e
  | 0, b, q, i => by rw [loopS]; show (0 : Int) ≤ 6; decide
  | f + 1, b, q, i => by
    have h := entry_pos s i
    rw [loopS]
    split
    · exact Int.le_refl 0
    · split
      · exact h
      · exact loop_pos s f _ _ _
theorem parseS_pos (s : ByteArray) (i : Nat) : 0 ≤ (parseS s i).e := by
  have h1 := loop_pos s (s.size + 2) true noneP (i + 1)
  have h2 := loop_pos s (s.size + 2) true noneP (i + 2)
  unfold parseS
  split
  · split
    · split
      · exact h2
      · exact Int.le_refl 0
    · split
      · exact h1
      · exact Int.le_refl 0
  · show (0 : Int) ≤ 1; decide
theorem parseX_pos (s : ByteArray) (x : Int) : 0 ≤ (parseX s x).e := by
  unfold parseX
  split
  · exact parseS_pos s _
  · show (0 : Int) ≤ 1; decide
theorem bracket_pos (s : ByteArray) (i : Nat) : 0 ≤ (bracketT s i).e := by
  have h := parseX_pos s i
  unfold bracketT
  split
  · exact h
  · exact Int.le_refl 0
theorem interval_pos (s : ByteArray) (i : Nat) : 0 ≤ (intervalT s i).e := by
  unfold intervalT ivlT
  dsimp only
  repeat' split
  all_goals first | exact Int.le_refl 0 | (show (0 : Int) ≤ 9; decide)
theorem escape_pos (s : ByteArray) (i k : Nat) : 0 ≤ (escapeT s i k).e := by
  have h := interval_pos s i
  unfold escapeT
  split
  · show (0 : Int) ≤ 6; decide
  · unfold escB
    repeat' split
    all_goals first | exact h | exact Int.le_refl 0 | (show (0 : Int) ≤ 9; decide) | (show (0 : Int) ≤ 12; decide)
theorem token_pos (s : ByteArray) (i k : Nat) : 0 ≤ (tokenT s i k).e := by
  have h1 := escape_pos s i k
  have h2 := bracket_pos s i
  unfold tokenT
  split
  · exact h1
  · split
    · exact h2
    · repeat' split
      all_goals exact Int.le_refl 0
theorem grown_pos (P : Ps) : 0 ≤ P.grown.1 := by
  show 0 ≤ bigE P.size
  unfold bigE
  split <;> decide
theorem take_pos (P : Ps) (t : Tk) (h : 0 ≤ t.e) : 0 ≤ (P.take t).1 := by
  unfold Ps.take
  split
  · exact h
  · exact grown_pos _
  · exact grown_pos _
  · exact grown_pos _
  · split
    · show (0 : Int) ≤ 4; decide
    · exact Int.le_refl 0
  · split
    · show (0 : Int) ≤ 10; decide
    · exact Int.le_refl 0
  · split
    · exact grown_pos _
    · show (0 : Int) ≤ 11; decide
  · split
    · exact Int.le_refl 0
    · exact grown_pos _
theorem run_pos (s : ByteArray) : ∀ (f i k : Nat) (P : Ps) (e : Int) (p : Nat), runT s f i k P = .error (e, p) → 0 ≤ e
  | 0, i, k, P, e, p, h => by rw [runT] at h; cases h
  | f + 1, i, k, P, e, p, h => by
    rw [runT] at h
    split at h
    · split at h
      · exact run_pos s f _ _ _ e p h
      · cases h; exact take_pos P _ (token_pos s i k)
    · cases h
theorem parse_epos (s : ByteArray) (e : Int) (p : Nat) (h : parseT s = .error (e, p)) : 0 ≤ e := by
  unfold parseT at h
  split at h
  · cases h; decide
  · split at h
    · rename_i x hx
      cases h
      exact run_pos s _ _ _ _ e p hx
    · split at h
      · cases h
      · cases h; decide
theorem of_pos (s : ByteArray) : 0 ≤ (ofM s).2.1 := by
  unfold ofM
  cases h : parseT s with
  | ok ts => exact Int.le_refl 0
  | error x => obtain ⟨e, p⟩ := x; exact parse_epos s e p h
end br

/-- matcher.New keeps its answers. -/
theorem new_ok : NewOk gM := newOk br.of_pos
end Go.Proofs.YtjfkhlmoppbbgaaGreatDoor
