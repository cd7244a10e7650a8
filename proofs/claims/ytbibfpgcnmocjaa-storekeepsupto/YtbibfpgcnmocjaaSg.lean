/- store: the program's New. -/
import Derived.Test.YtbibfpgcnmocjaaSe
namespace Go.Proofs.Ytbibfpgcnmocjaa
open Go.RowKit

/-- A list of files, as it lies. -/
def FRow (W : World) (v : Value) (l : List (ByteArray × ByteArray)) : Prop := ∃ a cp, v = .slice a l.length cp ∧ ∀ (k : Nat) (x : ByteArray × ByteArray), l[k]? = some x → ∃ g o, a = some ⟨g, o, none⟩ ∧ W.cell? ⟨g, o + k * 2, none⟩ = some (.string x.1) ∧ W.cell? ⟨g, o + k * 2 + 1, none⟩ = some (.string x.2)
theorem FRow.step {W W' : World} {v : Value} {l : List (ByteArray × ByteArray)} (h : FRow W v l) (hb : Below W.heap.size W W') : FRow W' v l := by
  obtain ⟨a, cp, hv, hc⟩ := h
  refine ⟨a, cp, hv, fun k x hx => ?_⟩
  obtain ⟨g, o, ha, h1, h2⟩ := hc k x hx
  exact ⟨g, o, ha, keep_cell hb h1, keep_cell hb h2⟩
def newGo : List (ByteArray × ByteArray) → Nat → Fs → Nat × Fs
  | [], _, fs => (0, fs)
  | x :: r, g, fs => if nameB x.1.data.toList = false then (3, fs) else if (look fs x.1.data.toList).isSome then (1, fs) else if 32768 < g + x.2.size then (2, fs) else newGo r (g + x.2.size) (insF fs x.1.data.toList ⟨x.2.data.toList, false⟩)
def newR (l : List (ByteArray × ByteArray)) : Nat × Fs := if 16 < l.length then (4, []) else newGo l 0 []
theorem newGo_ok : ∀ (l : List (ByteArray × ByteArray)) (g : Nat) (fs : Fs), fs.length + l.length ≤ 16 → (∀ n f, look fs n = some f → f.data.length ≤ 32768) → (∀ n, n ∈ fs.map (·.1) → n.length ≤ 64) → (newGo l g fs).1 = 0 → SOk ⟨(newGo l g fs).2, [], 0⟩
  | [], g, fs, h1, h2, h3, _ => ⟨Nat.zero_le _, Nat.le_refl _, by show fs.length ≤ 16; simpa using h1, fun n f hf => by have := h2 n f hf; show _ ≤ 32768 + 0; omega, h3⟩
  | x :: r, g, fs, h1, h2, h3, h0 => by
    unfold newGo at h0 ⊢
    split at h0
    · cases h0
    · rename_i hn
      split at h0
      · cases h0
      · rename_i hk
        split at h0
        · cases h0
        · rename_i hb
          rw [if_neg hn, if_neg hk, if_neg hb]
          refine newGo_ok r _ _ (by rw [len_ins]; simp only [List.length_cons] at h1; omega) (fun n f hf => ?_) (fun n hn2 => ?_) h0
          · rw [look_ins _ _ _ _ (by simpa using hk)] at hf
            split at hf
            · cases hf
              show x.2.size ≤ 32768
              omega
            · exact h2 n f hf
          · rcases mem_ins _ _ n fs hn2 with rfl | hn2
            · exact nameB_len (by simpa using hn)
            · exact h3 n hn2
theorem newR_ok {l : List (ByteArray × ByteArray)} (h : (newR l).1 = 0) : SOk ⟨(newR l).2, [], 0⟩ := by
  unfold newR at h ⊢
  split at h
  · cases h
  · rename_i h1
    rw [if_neg h1]
    exact newGo_ok l 0 [] (by simp; omega) (fun n f hf => by cases hf) (fun n hn => by simp at hn) h
/-- What New leaves. -/
def NewPost (W : World) (R : Nat × Fs) (e : Ending) (w' : World) : Prop := Below W.heap.size W w' ∧ ((R.1 ≠ 0 ∧ e = .returned (.tuple #[.pointer none, .int .i64 (R.1 : Nat)])) ∨ (R.1 = 0 ∧ ∃ b F, e = .returned (.tuple #[ptrV b, .int .i64 0]) ∧ I0 w' F b ⟨R.2, [], 0⟩ ∧ ∀ k, F k → W.heap.size ≤ k))
theorem newGo_step {l : List (ByteArray × ByteArray)} {k : Nat} (h : k < l.length) (g : Nat) (fs : Fs) : newGo (l.drop k) g fs = if nameB (l[k]'h).1.data.toList = false then (3, fs) else if (look fs (l[k]'h).1.data.toList).isSome then (1, fs) else if 32768 < g + (l[k]'h).2.size then (2, fs) else newGo (l.drop (k + 1)) (g + (l[k]'h).2.size) (insF fs (l[k]'h).1.data.toList ⟨(l[k]'h).2.data.toList, false⟩) := by
  rw [List.drop_eq_getElem_cons h]
  rfl
/-- The store while it is made. -/
structure Mk (W w : World) (b : Nat) (fs : Fs) : Prop where
  sa : ∃ F, I0 w F b ⟨fs, [], 0⟩ ∧ ∀ k, F k → W.heap.size ≤ k
  bel : Below W.heap.size W w
theorem Mk.step {W w w' : World} {b : Nat} {fs : Fs} (h : Mk W w b fs) (hb : Below w.heap.size w w') : Mk W w' b fs := by
  obtain ⟨⟨F, hI, hF⟩, hB⟩ := h
  exact ⟨⟨F, hI.keep (fun k hk => hb.block k (hI.lt k hk)), hF⟩, hB.trans (hb.mono hB.size)⟩
/-- A new file with what it holds. -/
theorem filled {W w1 w2 : World} {b mb fb : Nat} {p v v' : Value} {fm : List UInt8 → Option Fb} {D' : DataW Unit} {fs : Fs} {n : List UInt8} {t : ByteArray} (hn : look fs n = none) (h1 : SA w1 b mb p v (updF fm n ⟨fb, .pointer none, .slice none 0 0, ⟨[], false⟩⟩) D' ⟨insF fs n ⟨[], false⟩, [], 0⟩) (h2 : BuA w2 fb 0 68 (((cellsF ⟨fb, .pointer none, .slice none 0 0, ⟨[], false⟩⟩).setIfInBounds 0 (.pointer (some ⟨fb, 0, none⟩))).setIfInBounds (0 + 1) v') (.pointer (some ⟨fb, 0, none⟩)) v' ([] ++ t.data.toList)) (ht : Tch (bft fb (.slice none 0 0)) w1 w2) (hg : ∀ g, v'.ownBlock = some g → (Value.slice none 0 0).ownBlock = some g ∨ w1.heap.size ≤ g) (hW : W.heap.size ≤ w1.heap.size) (hF : ∀ k, ft b mb v fm k → W.heap.size ≤ k) (hfb : W.heap.size ≤ fb) :
    ∃ F, I0 w2 F b ⟨insF fs n ⟨t.data.toList, false⟩, [], 0⟩ ∧ ∀ k, F k → W.heap.size ≤ k := by
  have hu : updF fm n ⟨fb, .pointer none, .slice none 0 0, ⟨[], false⟩⟩ n = some ⟨fb, .pointer none, .slice none 0 0, ⟨[], false⟩⟩ := by unfold updF; rw [if_pos rfl]
  have h3 := h1.changed hu (y := ⟨fb, .pointer (some ⟨fb, 0, none⟩), v', ⟨t.data.toList, false⟩⟩) rfl h2 ht hg
  rw [upd_upd] at h3
  have h4 : SA w2 b mb p v (updF fm n ⟨fb, .pointer (some ⟨fb, 0, none⟩), v', ⟨t.data.toList, false⟩⟩) D' ⟨setF (insF fs n ⟨[], false⟩) n ⟨t.data.toList, false⟩, [], 0⟩ := h3
  rw [set_ins _ _ _ _ hn] at h4
  refine ⟨_, ⟨mb, p, v, _, D', h4, rfl⟩, fun k hk => ?_⟩
  rcases ft_add (W := W) (y := ⟨fb, .pointer (some ⟨fb, 0, none⟩), v', ⟨t.data.toList, false⟩⟩) rfl hfb (fun g hg2 => by
    rcases hg g hg2 with h | h
    · cases h
    · omega) hk with h | h
  · exact hF k h
  · exact h

theorem mk_start (W : World) : Mk W ((W.alloc (.map #[] 0)).alloc (.cells #[.map (some W.heap.size), .pointer none, .slice none 0 0, .int .i64 0] 66)) (W.heap.size + 1) [] := by
  have h1 := (World.ownsMap_made W Try.prog 9 ptrR).alloc (.cells #[.map (some W.heap.size), .pointer none, .slice none 0 0, .int .i64 0] 66)
  have h2 := heap_alloc_new (W.alloc (.map #[] 0)) (.cells #[.map (some W.heap.size), .pointer none, .slice none 0 0, .int .i64 0] 66)
  rw [World.size_alloc] at h2
  refine ⟨⟨_, ⟨W.heap.size, .pointer none, .slice none 0 0, fun _ => none, .map [], ⟨⟨h2, rfl, rfl, .inl rfl, World.ownsRowF_nil _ _ _ _, fun _ => rfl⟩, h1, fun _ => rfl, fun _ => rfl, rfl, fun _ => rfl, fun _ _ h => (by cases h), fun _ _ _ _ h => (by cases h), fun _ _ h => (by cases h), List.Pairwise.nil⟩, rfl⟩, ?_⟩, ((Below.refl _ W).alloc (Nat.le_refl _) _).alloc (by rw [World.size_alloc]; omega) _⟩
  rintro k (rfl | rfl | h | ⟨_, _, h, _⟩)
  · omega
  · exact Nat.le_refl _
  · cases h
  · cases h

set_option maxRecDepth 100000 in
set_option maxHeartbeats 4000000 in
theorem new_any (W : World) (v : Value) (l : List (ByteArray × ByteArray)) (hv : FRow W v l) (hs : ∀ x ∈ l, x.1.size ≤ 140737488355000 ∧ x.2.size ≤ 140737488355000) : Calls Try.prog 17 #[v] W (NewPost W (newR l)) := by
  obtain ⟨a, cp, rfl, hrow⟩ := hv
  by_cases hbig : 16 < l.length
  · have k1 : (16 : Int) < (l.length : Int) := by omega
    have hR : newR l = (4, []) := by unfold newR; rw [if_pos hbig]
    rw [hR]
    clear hbig hrow hR
    go_enter Try.func17, Try.ntmps17
    go_wp2
    go_ret2
    exact ⟨Below.refl _ _, .inl ⟨by decide, rfl⟩⟩
  · have k1 : ((16 : Int) < (l.length : Int)) = False := by rw [eq_iff_iff, iff_false]; omega
    have k2 : (16 < l.length) = False := by rw [eq_iff_iff, iff_false]; exact hbig
    have hl16 : l.length ≤ 16 := by omega
    have hR : newR l = newGo l 0 [] := by unfold newR; rw [if_neg hbig]
    rw [hR]
    clear hbig hR
    obtain ⟨R, hRR⟩ : ∃ R, R = newGo l 0 [] := ⟨_, rfl⟩
    rw [← hRR]
    have HRR := hideT hRR
    clear hRR
    have HROW := hideT hrow
    have HS := hideT hs
    clear hrow hs
    have hmk : ∀ V : World, (Instr.makeMap 60 none).run Try.prog V = .ok (.map (some V.heap.size)) (V.alloc (.map #[] 0)) := fun V => run_makeMap _ V
    go_enter Try.func17, Try.ntmps17
    go_wp2_with fail
    have HM0 := hideT (mk_start W)
    obtain ⟨b, hb⟩ : ∃ b, b = W.heap.size + 1 := ⟨_, rfl⟩
    rw [← hb] at HM0 ⊢
    obtain ⟨Y, hY⟩ : ∃ Y, Y = ((W.alloc (.map #[] 0)).alloc (.cells #[.map (some W.heap.size), .pointer none, .slice none 0 0, .int .i64 0] 66)) := ⟨_, rfl⟩
    rw [← hY] at HM0 ⊢
    clear hb hY hmk
    go_loopw [5, 16] (fun gv iv wr => ∃ (k g : Nat) (fs : Fs), k ≤ l.length ∧ iv = .int .i64 (k : Nat) ∧ gv = .int .i64 (g : Nat) ∧ g ≤ 32768 ∧ Hid (R = newGo (l.drop k) g fs ∧ fs.length ≤ k ∧ Mk W wr b fs)) (fun _ iv _ => l.length - (intOf iv).toNat)
    case atStart => exact ⟨0, 0, [], Nat.zero_le _, rfl, rfl, Nat.zero_le _, hideT ⟨HRR.out, Nat.le_refl _, HM0.out⟩⟩
    case round =>
      obtain ⟨k, g, fs, hk, rfl, rfl, hg, HI⟩ := hrel
      by_cases hlt : k < l.length
      · have i1 : (k : Int) < (l.length : Int) := by omega
        have i2 : (0 : Int) ≤ (k : Int) := by omega
        have hst := newGo_step hlt g fs
        have hsz := HS.out _ (List.getElem_mem hlt)
        obtain ⟨gb, o, rfl, r1, r2⟩ := HROW.out k _ (List.getElem?_eq_getElem hlt)
        have e1 := keep_cell HI.out.2.2.bel r1
        have e2 := keep_cell HI.out.2.2.bel r2
        generalize (l[k]'hlt) = x at hst hsz e1 e2
        obtain ⟨nm, dt⟩ := x
        dsimp only at hst hsz e1 e2
        have g1 : IntKind.i64.wrap ((g : Int) + (dt.size : Int)) = ((g + dt.size : Nat) : Int) := by rw [IntKind.wrap_i64]; omega
        have HNM := hideT (name_any nm)
        clear r1 r2
        go_wp2_with fail
        refine (HNM.out _).mono ?_
        rintro e w1 ⟨rfl, rfl⟩
        have hX : Below wr.heap.size wr (wr.alloc (.cells #[.string nm, .string dt] 52)) := (Below.refl _ wr).alloc (Nat.le_refl _) _
        have hXn := heap_alloc_new wr (.cells #[.string nm, .string dt] 52)
        have hXs := World.size_alloc wr (.cells #[.string nm, .string dt] 52)
        generalize wr.alloc (.cells #[.string nm, .string dt] 52) = X at *
        have HMX := hideT (HI.out.2.2.step hX)
        have HFX := hideT (show ∃ F, I0 X F b ⟨fs, [], 0⟩ ∧ ∀ j, F j → W.heap.size ≤ j ∧ j ≠ wr.heap.size from by
          obtain ⟨F, hI, hF⟩ := HI.out.2.2.sa
          exact ⟨F, hI.keep (fun j hj => hX.block j (hI.lt j hj)), fun j hj => ⟨hF j hj, by have := hI.lt j hj; omega⟩⟩)
        have HWo := hideT (show W.heap.size ≤ wr.heap.size ∧ wr.heap.size < X.heap.size from ⟨HI.out.2.2.bel.size, by omega⟩)
        have HRE := hideT (HI.out.1.trans hst)
        have HLE := hideT HI.out.2.1
        generalize wr.heap.size = ob at *
        have x0 : X.cell? ⟨ob, 0, none⟩ = some (.string nm) := by simp [World.cell?, hXn]
        have x1 : X.cell? ⟨ob, 1, none⟩ = some (.string dt) := by simp [World.cell?, hXn]
        clear hX hXs hst HI HRR HROW HS e1 e2 HNM
        cases hnb : nameB nm.data.toList with
        | false =>
          have HR := hideT (show R = (3, fs) by rw [HRE.out, hnb, if_pos rfl])
          clear hnb
          go_wp2
          go_ret2
          exact ⟨HMX.out.bel, .inl ⟨by rw [HR.out]; exact (by decide : (3 : Nat) ≠ 0), by rw [HR.out]; rfl⟩⟩
        | true =>
          have HR := hideT (show R = _ from HRE.out.trans (by rw [hnb, if_neg (by decide)]))
          clear hnb HRE
          obtain ⟨F, ⟨mb, p, v, fm, D, hSA, rfl⟩, hF⟩ := HFX.out
          have hf := (hSA.keep (W' := X.drew) (fun _ _ => rfl)).find nm (by omega)
          have hlk := hSA.lk nm.data.toList
          obtain ⟨cm, _⟩ := hSA.cm
          have HSA := hideT (And.intro hSA hF)
          clear hSA hF HFX
          go_wp2_with fail
          cases hx : fm nm.data.toList with
          | some y =>
            rw [hx] at hf hlk
            have hf' : (Instr.lookup 60 (.map (some mb)) (.string nm) false).run Try.prog X.drew = .ok (.pointer (some ⟨y.b, 0, none⟩)) X.drew := hf
            have HR1 := hideT (show R = (1, fs) from HR.out.trans (by rw [show look fs nm.data.toList = _ from hlk, if_pos (by rfl)]))
            clear hx hlk hf HR
            refine wp_region_held (S := fun V => V = X.drew) (by kernel_rfl) ?_
            have s0 : X.drew = X.drew := rfl
            refine' take_d 0 (some 31) rfl rfl (by kernel_rfl) (by kernel_rfl) (by kernel_rfl) (fun _ _ _ h => h) (wanted_none rfl _) s0 ?tk1 ?rs1
            case tk1 => intro V hV; subst hV; go_simp; (try with_reducible rfl)
            refine' take_d 1 (some 32) rfl rfl (by kernel_rfl) (by kernel_rfl) (by kernel_rfl) (fun _ _ _ h => h) (wanted_none rfl _) s0 ?tk2 ?rs2
            case tk2 => intro V hV; subst hV; go_simp; (try with_reducible rfl)
            refine' take_d 2 (some 33) rfl rfl (by kernel_rfl) (by kernel_rfl) (by kernel_rfl) (fun _ _ _ h => h) (wanted_none rfl _) s0 ?tk3 ?rs3
            case tk3 => intro V hV; subst hV; go_simp; (try with_reducible rfl)
            refine' take_d 3 (some 34) rfl rfl (by kernel_rfl) (by kernel_rfl) (by kernel_rfl) (fun _ _ _ h => h) (wanted_none rfl _) s0 ?tk4 ?rs4
            case tk4 => intro V hV; subst hV; go_simp; (try with_reducible rfl)
            refine' take_d 4 (some 35) rfl rfl (by kernel_rfl) (by kernel_rfl) (by kernel_rfl) (fun _ _ _ h => h) (wanted_none rfl _) s0 ?tk5 ?rs5
            case tk5 => intro V hV; subst hV; go_simp; (try with_reducible rfl)
            refine' take_d 5 (some 36) rfl rfl (by kernel_rfl) (by kernel_rfl) (by kernel_rfl) (fun _ _ _ h => h) (wanted_none rfl _) s0 ?tk6 ?rs6
            case tk6 => intro V hV; subst hV; go_simp; (try with_reducible rfl)
            refine' take_d 6 (some 37) rfl rfl (by kernel_rfl) (by kernel_rfl) (by kernel_rfl) (fun _ _ _ h => h) (wanted_none rfl _) s0 ?tk7 ?rs7
            case tk7 => intro V hV; subst hV; go_simp; (try with_reducible rfl)
            refine' take_d 7 (some 38) rfl rfl (by kernel_rfl) (by kernel_rfl) (by kernel_rfl) (fun _ _ _ h => h) (wanted_none rfl _) s0 ?tk8 ?rs8
            case tk8 => intro V hV; subst hV; go_simp; (try with_reducible rfl)
            refine' take_d 8 (some 30) rfl rfl (by kernel_rfl) (by kernel_rfl) (by kernel_rfl) (fun _ _ _ h => h) (wanted_none rfl _) s0 ?tk9 ?rs9
            case tk9 => intro V hV; subst hV; go_simp; (try with_reducible rfl)
            simp only [Act.put, List.setIfInBounds_toArray, List.set_cons_zero, List.set_cons_succ]
            refine wpAnyH_done (by kernel_rfl) ?_ _
            go_wp2
            go_ret2
            exact ⟨(HMX.out.step ((Below.refl _ X).drew)).bel, .inl ⟨by rw [HR1.out]; exact (by decide : (1 : Nat) ≠ 0), by rw [HR1.out]; rfl⟩⟩
          | none =>
            rw [hx] at hf hlk
            have hf' : (Instr.lookup 60 (.map (some mb)) (.string nm) false).run Try.prog X.drew = .ok (.pointer none) X.drew := hf
            have hlk0 : look fs nm.data.toList = none := hlk
            have HR1 := hideT (show R = _ from HR.out.trans (by rw [hlk0, if_neg (by decide)]))
            have HX := hideT (And.intro hx hlk0)
            clear hx hlk hf HR hlk0
            refine wp_region_held (S := fun V => V = X.drew) (by kernel_rfl) ?_
            have s0 : X.drew = X.drew := rfl
            refine' take_d 0 (some 31) rfl rfl (by kernel_rfl) (by kernel_rfl) (by kernel_rfl) (fun _ _ _ h => h) (wanted_none rfl _) s0 ?tk10 ?rs10
            case tk10 => intro V hV; subst hV; go_simp; (try with_reducible rfl)
            refine' take_d 1 (some 32) rfl rfl (by kernel_rfl) (by kernel_rfl) (by kernel_rfl) (fun _ _ _ h => h) (wanted_none rfl _) s0 ?tk11 ?rs11
            case tk11 => intro V hV; subst hV; go_simp; (try with_reducible rfl)
            refine' take_d 2 (some 33) rfl rfl (by kernel_rfl) (by kernel_rfl) (by kernel_rfl) (fun _ _ _ h => h) (wanted_none rfl _) s0 ?tk12 ?rs12
            case tk12 => intro V hV; subst hV; go_simp; (try with_reducible rfl)
            refine' take_d 3 (some 34) rfl rfl (by kernel_rfl) (by kernel_rfl) (by kernel_rfl) (fun _ _ _ h => h) (wanted_none rfl _) s0 ?tk13 ?rs13
            case tk13 => intro V hV; subst hV; go_simp; (try with_reducible rfl)
            refine' take_d 4 (some 35) rfl rfl (by kernel_rfl) (by kernel_rfl) (by kernel_rfl) (fun _ _ _ h => h) (wanted_none rfl _) s0 ?tk14 ?rs14
            case tk14 => intro V hV; subst hV; go_simp; (try with_reducible rfl)
            refine' take_d 5 (some 36) rfl rfl (by kernel_rfl) (by kernel_rfl) (by kernel_rfl) (fun _ _ _ h => h) (wanted_none rfl _) s0 ?tk15 ?rs15
            case tk15 => intro V hV; subst hV; go_simp; (try with_reducible rfl)
            refine' take_d 6 (some 37) rfl rfl (by kernel_rfl) (by kernel_rfl) (by kernel_rfl) (fun _ _ _ h => h) (wanted_none rfl _) s0 ?tk16 ?rs16
            case tk16 => intro V hV; subst hV; go_simp; (try with_reducible rfl)
            refine' take_d 7 (some 38) rfl rfl (by kernel_rfl) (by kernel_rfl) (by kernel_rfl) (fun _ _ _ h => h) (wanted_none rfl _) s0 ?tk17 ?rs17
            case tk17 => intro V hV; subst hV; go_simp; (try with_reducible rfl)
            refine' take_d 8 (some 30) rfl rfl (by kernel_rfl) (by kernel_rfl) (by kernel_rfl) (fun _ _ _ h => h) (wanted_none rfl _) s0 ?tk18 ?rs18
            case tk18 => intro V hV; subst hV; go_simp; (try with_reducible rfl)
            simp only [Act.put, List.setIfInBounds_toArray, List.set_cons_zero, List.set_cons_succ]
            refine wpAnyH_done (by kernel_rfl) ?_ _
            clear hf' s0
            by_cases hbig : 32768 < g + dt.size
            · have j1 : (32768 : Int) < (g : Int) + (dt.size : Int) := by omega
              have HR2 := hideT (show R = (2, fs) from HR1.out.trans (by rw [if_pos hbig]))
              clear hbig
              go_wp2
              go_ret2
              exact ⟨(HMX.out.step ((Below.refl _ X).drew)).bel, .inl ⟨by rw [HR2.out]; exact (by decide : (2 : Nat) ≠ 0), by rw [HR2.out]; rfl⟩⟩
            · have j1 : ((32768 : Int) < (g : Int) + (dt.size : Int)) = False := by rw [eq_iff_iff, iff_false]; omega
              have HR2 := hideT (show R = _ from HR1.out.trans (by rw [if_neg hbig]))
              have hgd : g + dt.size ≤ 32768 := by omega
              have HXX := hideT (show (X.drew.cell? ⟨ob, 0, none⟩ = some (.string nm) ∧ X.drew.cell? ⟨ob, 1, none⟩ = some (.string dt)) from ⟨x0, x1⟩)
              clear hbig HR1 cm
              go_wp2_with fail
              have HADD := hideT (add_any (HSA.out.1.keep (W' := X.drew.drew) (fun _ _ => rfl)) nm hsz.1 HX.out.1 (by have := HLE.out; show fs.length ≤ 1000; omega))
              have hobm : ob ≠ mb := fun e => (HSA.out.2 mb (.inr (.inl rfl))).2 e.symm
              have s0 : X.drew.drew.cell? ⟨ob, 0, none⟩ = some (.string nm) ∧ X.drew.drew.cell? ⟨ob, 1, none⟩ = some (.string dt) := HXX.out
              refine wp_region_held (S := fun V => V.cell? ⟨ob, 0, none⟩ = some (.string nm) ∧ V.cell? ⟨ob, 1, none⟩ = some (.string dt)) (by kernel_rfl) ?_
              refine' take_d 0 (some 42) rfl rfl (by kernel_rfl) (by kernel_rfl) (by kernel_rfl) (fun _ _ _ h => h) (wanted_none rfl _) s0 ?tk19 ?rs19
              case tk19 => intro V hV; go_simp; (try with_reducible rfl)
              refine' take_d 1 (some 43) rfl rfl (by kernel_rfl) (by kernel_rfl) (by kernel_rfl) (fun _ _ _ h => h) (wanted_none rfl _) s0 ?tk20 ?rs20
              case tk20 => intro V hV; go_simp; (try with_reducible rfl)
              refine' take_d 2 (some 44) rfl rfl (by kernel_rfl) (by kernel_rfl) (by kernel_rfl) (fun _ _ _ h => h) (wanted_none rfl _) s0 ?tk21 ?rs21
              case tk21 => intro V hV; have hc := hV.1; go_simp; (try with_reducible rfl)
              refine' take_d 6 (some 48) rfl rfl (by kernel_rfl) (by kernel_rfl) (by kernel_rfl) (fun _ _ _ h => h) (wanted_none rfl _) s0 ?tk22 ?rs22
              case tk22 => intro V hV; go_simp; (try with_reducible rfl)
              refine' take_d 7 (some 49) rfl rfl (by kernel_rfl) (by kernel_rfl) (by kernel_rfl) (fun _ _ _ h => h) (wanted_none rfl _) s0 ?tk23 ?rs23
              case tk23 => intro V hV; have hc := hV.2; go_simp; (try with_reducible rfl)
              simp only [Act.put, List.setIfInBounds_toArray, List.set_cons_zero, List.set_cons_succ]
              refine wpAnyH_all (rs := [3]) (by kernel_rfl) (by simp) (fun i hi => ?_)
              obtain rfl : i = 3 := List.mem_singleton.1 hi
              clear hi
              refine op_call (some 45) rfl rfl (wanted_none rfl _) (by go_simp; (try with_reducible rfl)) (R := fun u w' => ∃ fb D', u = ptrV fb ∧ X.drew.drew.heap.size ≤ fb ∧ Tch (fun k => k = mb) X.drew.drew w' ∧ SA w' b mb p v (updF fm nm.data.toList ⟨fb, .pointer none, .slice none 0 0, ⟨[], false⟩⟩) D' ⟨insF fs nm.data.toList ⟨[], false⟩, [], 0⟩) (HADD.out.mono (fun e w' h => by obtain ⟨fb, D', rfl, h1, h2, h3⟩ := h; exact ⟨_, rfl, fb, D', rfl, h1, h2, h3⟩)) ?_
              rintro u w2 ⟨fb, D', rfl, hfb, ht2, h2⟩
              have hfb' : X.heap.size ≤ fb := hfb
              have hob2 : w2.heap[ob]? = X.heap[ob]? := ht2.block ob HWo.out.2 hobm
              have s2 : w2.cell? ⟨ob, 0, none⟩ = some (.string nm) ∧ w2.cell? ⟨ob, 1, none⟩ = some (.string dt) := ⟨(World.cell?_of_block (a := ⟨ob, 0, none⟩) hob2).trans x0, (World.cell?_of_block (a := ⟨ob, 1, none⟩) hob2).trans x1⟩
              have hu : updF fm nm.data.toList ⟨fb, .pointer none, .slice none 0 0, ⟨[], false⟩⟩ nm.data.toList = some ⟨fb, .pointer none, .slice none 0 0, ⟨[], false⟩⟩ := by unfold updF; rw [if_pos rfl]
              have HWR := hideT (write_any (h2.fil _ _ hu) (by decide) lyF dt (by show 0 + dt.size ≤ _; omega))
              have H2 := hideT (And.intro h2 (And.intro ht2 hfb'))
              clear hfb ht2 h2 hu HADD s0
              refine And.intro s2 ?_
              simp only [Act.put, List.setIfInBounds_toArray, List.set_cons_zero, List.set_cons_succ]
              refine' take_d 4 (some 46) rfl rfl (by kernel_rfl) (by kernel_rfl) (by kernel_rfl) (fun _ _ _ h => h) (wanted_none rfl _) s2 ?tk24 ?rs24
              case tk24 => intro V hV; go_simp; (try with_reducible rfl)
              refine' take_d 5 (some 47) rfl rfl (by kernel_rfl) (by kernel_rfl) (by kernel_rfl) (fun _ _ _ h => h) (wanted_none rfl _) s2 ?tk25 ?rs25
              case tk25 => intro V hV; go_simp; (try with_reducible rfl)
              simp only [Act.put, List.setIfInBounds_toArray, List.set_cons_zero, List.set_cons_succ]
              refine wpAnyH_all (rs := [8]) (by kernel_rfl) (by simp) (fun i hi => ?_)
              obtain rfl : i = 8 := List.mem_singleton.1 hi
              clear hi
              refine op_call (some 50) rfl rfl (wanted_none rfl _) (by go_simp; (try with_reducible rfl)) (R := fun u w' => u = .tuple #[.int .i64 dt.size, .nilIface] ∧ ∃ v', BuA w' fb 0 68 (((cellsF ⟨fb, .pointer none, .slice none 0 0, ⟨[], false⟩⟩).setIfInBounds 0 (.pointer (some ⟨fb, 0, none⟩))).setIfInBounds (0 + 1) v') (.pointer (some ⟨fb, 0, none⟩)) v' ([] ++ dt.data.toList) ∧ Tch (bft fb (.slice none 0 0)) w2 w' ∧ ∀ g, v'.ownBlock = some g → (Value.slice none 0 0).ownBlock = some g ∨ w2.heap.size ≤ g) (HWR.out.mono (fun e w' h => ⟨_, h.1, rfl, h.2⟩)) ?_
              rintro u w3 ⟨rfl, v', h3, ht3, hg3⟩
              have hsw : X.heap.size ≤ w2.heap.size := H2.out.2.1.size
              have hob3 : w3.heap[ob]? = w2.heap[ob]? := ht3.block ob (by have := HWo.out.2; omega) (fun e => by
                rcases e with e | e
                · have := HWo.out.2
                  omega
                · cases e)
              have s3 : w3.cell? ⟨ob, 0, none⟩ = some (.string nm) ∧ w3.cell? ⟨ob, 1, none⟩ = some (.string dt) := ⟨(World.cell?_of_block (a := ⟨ob, 0, none⟩) hob3).trans s2.1, (World.cell?_of_block (a := ⟨ob, 1, none⟩) hob3).trans s2.2⟩
              refine And.intro s3 ?_
              simp only [Act.put, List.setIfInBounds_toArray, List.set_cons_zero, List.set_cons_succ]
              refine wpAnyH_done (by kernel_rfl) ?_ _
              have HFN := hideT (show Mk W w3 b (insF fs nm.data.toList ⟨dt.data.toList, false⟩) from by
                have hWX := HMX.out.bel.size
                refine ⟨filled HX.out.2 H2.out.1 h3 ht3 hg3 (by omega) (fun k hk => (HSA.out.2 k hk).1) (by have := H2.out.2.2; omega), ?_⟩
                have t1 : Below W.heap.size W w2 := (HMX.out.bel.drew.drew).trans (H2.out.2.1.below (fun k hk => by rw [hk]; exact (HSA.out.2 mb (.inr (.inl rfl))).1) (show W.heap.size ≤ X.heap.size from hWX))
                exact t1.trans (ht3.below (fun k hk => by
                  rcases hk with hk | hk
                  · have := H2.out.2.2
                    omega
                  · cases hk) t1.size))
              have HLL := hideT (show (insF fs nm.data.toList ⟨dt.data.toList, false⟩).length ≤ k + 1 by rw [len_ins]; have := HLE.out; omega)
              clear h3 ht3 hg3 hsw hob3 s3 s2 hob2 H2 HWR HSA HMX HX HXX x0 x1 hobm hXn HLE hfb'
              go_wp2
              exact ⟨⟨k + 1, g + dt.size, _, by omega, by go_num, by go_num, hgd, hideT ⟨HR2.out, HLL.out, HFN.out⟩⟩, by simp [intOf]; omega⟩
      · obtain rfl : k = l.length := by omega
        have i1 : ((l.length : Int) < (l.length : Int)) = False := by rw [eq_iff_iff, iff_false]; omega
        have HR := hideT (show R = (0, fs) by
          have := HI.out.1
          rw [List.drop_of_length_le (Nat.le_refl _)] at this
          exact this)
        have HM := hideT HI.out.2.2
        clear HI
        go_wp2
        go_ret2
        obtain ⟨F, hI, hF⟩ := HM.out.sa
        exact ⟨HM.out.bel, .inr ⟨by rw [HR.out], b, F, rfl, by rw [HR.out]; exact hI, hF⟩⟩
end Go.Proofs.Ytbibfpgcnmocjaa
