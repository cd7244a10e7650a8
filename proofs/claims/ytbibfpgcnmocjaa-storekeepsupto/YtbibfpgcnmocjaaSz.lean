/- store: StoreKeeps. -/
import Derived.Test.YtbibfpgcnmocjaaSza
namespace Go.Proofs.Ytbibfpgcnmocjaa
open Go.RowKit

theorem Bf.filesS {W0 W : World} {b d : Nat} {lv ov : Value} {S : Sr} {Q : Nat → Prop} (h : Bf W0 W b d lv ov S Q) (ho : SOk S) : Calls Try.prog 16 #[ptrV b] W fun e w' => ∃ v, e = .returned v ∧ FRow w' v ((itF S.fs).map bFl) ∧ Bf W0 w' b d lv ov S Q ∧ Stay Q W w' := by
  refine (h.fr.files ho).mono ?_
  rintro e w' ⟨v, rfl, hr, h1, h2⟩
  exact ⟨v, rfl, frow_owns hr, h.stay (h1.less (fun k hk => .inl hk)) h2, fun k hk => h2 k (.inr hk)⟩
theorem Bf.sameS {W0 W : World} {b d : Nat} {lv ov : Value} {S : Sr} {Q : Nat → Prop} (h : Bf W0 W b d lv ov S Q) (ho : SOk S) {v : Value} (hv : FRow W v ((itF S.fs).map bFl)) : Calls Try.prog 15 #[v, lv] W fun e w' => e = .returned (.bool true) ∧ Bf W0 w' b d lv ov S Q ∧ Stay Q W w' := by
  have hl := ho.len
  refine (same_any W v lv _ hv h.da.frow (by simp [itF]; omega)).mono ?_
  rintro e w' ⟨rfl, hb⟩
  exact ⟨rfl, h.step hb, fun k hk => (h.fr.step hb).2 k (.inr hk)⟩
theorem row_some {W : World} {B n cap : Nat} {a : Option Addr} {xs : List Value} (h : W.ownsRow B 52 2 (.slice a n cap) n xs) (hn : 0 < n) : ∃ g, a = some ⟨g, 0, none⟩ := by
  rcases h.2 with ⟨_, h0⟩ | ⟨g, cap', cur, hv, _⟩
  · omega
  · cases hv
    exact ⟨g, rfl⟩

/-- Both stores beside two lists of one's own. -/
def Qv (va vb : Value) (k : Nat) : Prop := va.ownBlock = some k ∨ vb.ownBlock = some k
structure Kp (W w : World) (b d : Nat) (S : Sr) (va vb : Value) (n : Nat) (xs : List Value) (m : Nat) (ys : List Value) : Prop where
  ra : w.ownsRow W.heap.size 52 2 va n xs
  rb : w.ownsRow W.heap.size 52 2 vb m ys
  bo : Bo W w b d S S (Qv va vb)
  ne : ∀ j, va.ownBlock = some j → vb.ownBlock ≠ some j
section
variable {W w w' : World} {b d n m : Nat} {S : Sr} {va vb : Value} {xs ys : List Value}
theorem Kp.swap (h : Kp W w b d S va vb n xs m ys) : Kp W w b d S vb va m ys n xs := ⟨h.rb, h.ra, h.bo.less (fun _ hk => hk.elim .inr .inl), fun j h1 h2 => h.ne j h2 h1⟩
theorem Kp.step (h : Kp W w b d S va vb n xs m ys) (hb : Below w.heap.size w w') : Kp W w' b d S va vb n xs m ys := ⟨owns_keep h.ra (fun j hj => hb.block j (row_in h.ra hj).2), owns_keep h.rb (fun j hj => hb.block j (row_in h.rb hj).2), (h.bo.step hb).1, h.ne⟩
theorem Kp.put {g cap : Nat} (h : Kp W w b d S (.slice (some ⟨g, 0, none⟩) n cap) vb n xs m ys) (j0 j1 : Nat) (y0 y1 : Value) : Kp W ((w.setCell ⟨g, j0, none⟩ y0).setCell ⟨g, j1, none⟩ y1) b d S (.slice (some ⟨g, 0, none⟩) n cap) vb n ((xs.set j0 y0).set j1 y1) m ys := by
  have ht := (((Tch.refl (fun j => j = g) w).put (b := g) rfl j0 y0).put (b := g) rfl j1 y1)
  have hg := row_in h.ra (g := g) rfl
  refine ⟨owns_set (owns_set h.ra _) _, owns_keep h.rb (fun j hj => ht.block j (row_in h.rb hj).2 (fun e => h.ne g rfl (e ▸ hj))), h.bo.grow ht (fun k hk => by rw [hk]; exact ⟨.inl rfl, hg.1⟩) (fun k hk => ⟨.inl hk, ?_⟩), h.ne⟩
  rcases hk with hk | hk
  · exact Nat.lt_of_lt_of_le (row_in h.ra hk).2 ht.size
  · exact Nat.lt_of_lt_of_le (row_in h.rb hk).2 ht.size
theorem Kp.more (h : Kp W w b d S va vb n xs m ys) {eb q c : Nat} {cs : Array Value} (zs : List It) (he : w.heap[eb]? = some (.cells cs 52 (0, 0))) (hcs : cs.toList = flV zs) (hq : zs.length = q) (hp : 0 < q) (hl : n + q ≤ 2000000) (ty : TypeId) : ∃ g cap w', (Builtin.append_ #[22, 22] ty #[va, .slice (some ⟨eb, 0, none⟩) q c]).run Try.prog w = .ok (.slice (some ⟨g, 0, none⟩) (n + q) cap) w' ∧ Kp W w' b d S (.slice (some ⟨g, 0, none⟩) (n + q) cap) vb (n + q) (xs ++ flV zs) m ys := by
  obtain ⟨g, cap, w', hr, ho, ht, hg, hlt⟩ := more_run (c := c) h.ra h.bo.bel.size zs he hcs hq hp hl ty
  refine ⟨g, cap, w', hr, ho, owns_keep h.rb (fun j hj => ht.block j (row_in h.rb hj).2 (fun e => h.ne j e hj)), h.bo.grow ht (fun k hk => ⟨.inl hk, (row_in h.ra hk).1⟩) (fun k hk => ?_), fun j hj => ?_⟩
  · rcases hk with hk | hk
    · have e : some g = some k := hk
      injection e with e
      subst e
      rcases hg with hg | hg
      · exact ⟨.inl (.inl hg), hlt⟩
      · exact ⟨.inr (by omega), hlt⟩
    · exact ⟨.inl (.inr hk), Nat.lt_of_lt_of_le (row_in h.rb hk).2 ht.size⟩
  · have e : some g = some j := hj
    injection e with e
    subst e
    rcases hg with hg | hg
    · exact h.ne g hg
    · intro hb
      have := (row_in h.rb hb).2
      omega
end

set_option maxRecDepth 100000 in
set_option maxHeartbeats 8000000 in
theorem keeps_walk (W : World) (v0 v1 : Value) (l0 : List (ByteArray × ByteArray)) (l1 : List Op4) (row0 : FRow W v0 l0) (row1 : ORow W v1 l1) (hl0 : l0.length ≤ 1048576) (hl1 : l1.length ≤ 1048576) (hs0 : ∀ x ∈ l0, x.1.size ≤ 1048576 ∧ x.2.size ≤ 1048576) (hs1 : ∀ x ∈ l1, x.nm.size ≤ 1048576 ∧ x.tx.size ≤ 1048576) : Calls Try.prog 7 #[v0, v1] W fun e w' => e = .returned (.bool true) ∧ Below W.heap.size W w' := by
  have HR0 := hideT row0
  obtain ⟨a0, cp0, rfl, _⟩ := row0
  obtain ⟨u1, w1, hrun1, hown1, hb1⟩ := copy_run HR0.out hl0 22
  have hX1n := heap_alloc_new w1 (.cells #[.string ⟨#[98, 101, 104, 105, 110, 100]⟩, .string ⟨#[105, 116]⟩] 52)
  have hX1 : Below w1.heap.size w1 (w1.alloc (.cells #[.string ⟨#[98, 101, 104, 105, 110, 100]⟩, .string ⟨#[105, 116]⟩] 52)) := (Below.refl _ w1).alloc (Nat.le_refl _) _
  obtain ⟨g, cap, w2, hrun2, hown2, ht2, _, hg2⟩ := more_run (owns_keep hown1 (fun j hj => hX1.block j (row_in hown1 hj).2)) (by have := hb1.size; have := hX1.size; omega) (m := 1) (c := 1) [([98, 101, 104, 105, 110, 100], [105, 116])] hX1n rfl rfl (by decide) (by omega) 22
  have hb2 : Below W.heap.size W w2 := below_of_tch (hb1.trans (hX1.mono hb1.size)) ht2 (fun k hk => (row_in hown1 hk).1)
  obtain ⟨_, _, hsh, hcap⟩ := row_slice hown2
  cases hsh
  have hgW := (row_in hown2 rfl).1
  have HOW := hideT hown2
  have HR1 := hideT hrun1
  have HR2 := hideT hrun2
  have HB2 := hideT hb2
  have HFR := hideT (show FRow w2 (.slice (some ⟨g, 0, none⟩) l0.length cap) l0 from by
    have h1 := hown2
    rw [show flV (tI l0) ++ flV [([98, 101, 104, 105, 110, 100], [105, 116])] = flV (tI l0 ++ [([98, 101, 104, 105, 110, 100], [105, 116])]) from (flV_app _ _).symm] at h1
    rw [show l0.length + 1 = (tI l0 ++ [([98, 101, 104, 105, 110, 100], [105, 116])]).length by simp [tI]] at h1
    have h2 := frow_take (frow_owns h1) (m := l0.length) (by simp [tI]) cap
    rw [List.map_append, tI_back, List.take_left' rfl] at h2
    exact h2)
  have cn : w2.cell? ⟨g, l0.length * 2, none⟩ = some (.string ⟨#[98, 101, 104, 105, 110, 100]⟩) := by
    rw [hown2.cellAt (l0.length * 2) (by omega), List.getElem?_append_right (by rw [flV_len, tI_len]; omega), flV_len, tI_len, Nat.sub_self]
    rfl
  have HST := hideT (stores_any w2 _ l0 HFR.out (fun x hx => by have := hs0 x hx; omega))
  have HOK := hideT (fun h => newR_ok (l := l0) h)
  obtain ⟨a, cp, rfl, hrow⟩ := row1
  have HROW := hideT hrow
  have HS := hideT hs1
  have HGW := hideT (And.intro hgW hg2)
  have i0 : (0 : Int) ≤ (l0.length : Int) := by omega
  have i1 : (l0.length : Int) ≤ (cap : Int) := by omega
  have i2 : (l0.length : Int) < (l0.length : Int) + 1 := by omega
  clear hrow hs1 hs0 hrun1 hrun2 hown1 hown2 hb1 hb2 ht2 hX1 hX1n hgW hg2
  go_enter Try.func7, Try.ntmps7
  go_wp2_with (first | (at_builtin; refine wpList_run rfl _ _ _ _ rfl HR1.out ?_) | (at_builtin; refine wpList_run rfl _ _ _ _ rfl HR2.out ?_))
  refine HST.out.mono ?_
  rintro e w3 ⟨hb3, hr⟩
  have HB3 := hideT hb3
  rcases hr with ⟨h0, rfl⟩ | ⟨h0, b, d, rfl, hbo⟩
  · clear HST hb3 h0 HR1 HR2
    go_wp2_with fail
    refine (awake_any _).mono ?_
    rintro e w4 ⟨rfl, hb4⟩
    have hb24 : Below w2.heap.size w2 w4 := HB3.out.trans (hb4.mono HB3.out.size)
    have HSM := hideT (same_any w4 (.slice (some ⟨g, 0, none⟩) l0.length cap) _ l0 (HFR.out.step hb24) (HR0.out.step (HB2.out.trans (hb24.mono HB2.out.size))) (by omega))
    have cn4 := keep_cell hb24 cn
    have HB24 := hideT hb24
    have HB4 := hideT hb4
    clear hb4 hb24
    go_wp2_with fail
    refine HSM.out.mono ?_
    rintro e w5 ⟨rfl, hb5⟩
    have cn5 := keep_cell hb5 cn4
    have HB5 := hideT hb5
    clear hb5 HSM cn4
    go_wp2
    go_ret
    exact ⟨rfl, HB2.out.trans ((HB24.out.trans (HB5.out.mono HB24.out.size)).mono HB2.out.size)⟩
  · have HK0 := hideT (HOK.out h0)
    have HBO := hideT hbo
    clear HST hb3 h0 hbo HOK HR1 HR2
    go_wp2_with fail
    refine (awake_any _).mono ?_
    rintro e w4 ⟨rfl, hb4⟩
    have hb24 : Below w2.heap.size w2 w4 := HB3.out.trans (hb4.mono HB3.out.size)
    have HSM := hideT (same_any w4 (.slice (some ⟨g, 0, none⟩) l0.length cap) _ l0 (HFR.out.step hb24) (HR0.out.step (HB2.out.trans (hb24.mono HB2.out.size))) (by omega))
    have cn4 := keep_cell hb24 cn
    have HB24 := hideT hb24
    have HB4 := hideT hb4
    clear hb4 hb24
    go_wp2_with fail
    refine HSM.out.mono ?_
    rintro e w5 ⟨rfl, hb5⟩
    have cn5 := keep_cell hb5 cn4
    have HB5 := hideT hb5
    clear hb5 HSM cn4
    have HI0 := hideT (show SOk _ ∧ Bo W w5 b d _ _ (fun k => W.heap.size ≤ k ∧ k < w2.heap.size) from And.intro HK0.out (((HBO.out.step HB4.out).1.step HB5.out).1.elder HB2.out))
    generalize (⟨(newR l0).2, [], 0⟩ : Sr) = S0 at *
    have HOW5 := hideT (show w5.ownsRow W.heap.size 52 2 (.slice (some ⟨g, 0, none⟩) (l0.length + 1) cap) (l0.length + 1) _ ∧ w2.heap.size ≤ w5.heap.size from ⟨owns_keep HOW.out (fun j hj => (HB24.out.trans (HB5.out.mono HB24.out.size)).block j (row_in HOW.out hj).2), (HB24.out.trans (HB5.out.mono HB24.out.size)).size⟩)
    clear HK0 HBO HB4 HB5 HB24 HB3 HFR HR0 HOW cn
    go_wp2_with fail
    clear cn5 i0 i1 i2
    go_loopw [59] (fun iv wr => ∃ (k : Nat) (xs : List Value), k ≤ l0.length + 1 ∧ iv = .int .i64 (k : Nat) ∧ Hid (wr.ownsRow W.heap.size 52 2 (.slice (some ⟨g, 0, none⟩) (l0.length + 1) cap) (l0.length + 1) xs ∧ w2.heap.size ≤ wr.heap.size ∧ Bo W wr b d S0 S0 (fun k => W.heap.size ≤ k ∧ k < w2.heap.size))) (fun iv _ => l0.length + 1 - (intOf iv).toNat)
    case atStart => exact ⟨0, _, Nat.zero_le _, rfl, hideT ⟨HOW5.out.1, HOW5.out.2, HI0.out.2⟩⟩
    case round =>
      obtain ⟨k, xs, hk, rfl, HI⟩ := hrel
      by_cases hlt : k < l0.length + 1
      · have i1 : (k : Int) < (l0.length : Int) + 1 := by omega
        have i2 : (0 : Int) ≤ (k : Int) := by omega
        have w1' : IntKind.i64.wrap ((k : Int) + 1) = (k : Int) + 1 := by rw [IntKind.wrap_i64]; omega
        obtain ⟨⟨z0, c0⟩, f0⟩ := row_cell HI.out.1 (j := k * 2) (by omega)
        obtain ⟨⟨z1, c1⟩, f1⟩ := row_cell HI.out.1 (j := k * 2 + 1) (by omega)
        have HN := hideT (show ∀ y0 y1 : Value, ((wr.setCell ⟨g, k * 2, none⟩ y0).setCell ⟨g, k * 2 + 1, none⟩ y1).ownsRow W.heap.size 52 2 (.slice (some ⟨g, 0, none⟩) (l0.length + 1) cap) (l0.length + 1) ((xs.set (k * 2) y0).set (k * 2 + 1) y1) ∧ w2.heap.size ≤ ((wr.setCell ⟨g, k * 2, none⟩ y0).setCell ⟨g, k * 2 + 1, none⟩ y1).heap.size ∧ Bo W ((wr.setCell ⟨g, k * 2, none⟩ y0).setCell ⟨g, k * 2 + 1, none⟩ y1) b d S0 S0 (fun k => W.heap.size ≤ k ∧ k < w2.heap.size) from fun y0 y1 => by
          have ht := (((Tch.refl (fun j => j = g) wr).put (b := g) rfl (k * 2) y0).put (b := g) rfl (k * 2 + 1) y1)
          have hsz := ht.size
          have h2 := HI.out.2.1
          exact ⟨owns_set (owns_set HI.out.1 _) _, by omega, HI.out.2.2.grow ht (fun j hj => by rw [hj]; exact ⟨HGW.out, HGW.out.1⟩) (fun j hj => ⟨.inl hj, by omega⟩)⟩)
        clear HI HOW5
        go_wp2
        exact ⟨⟨k + 1, _, by omega, by go_num, hideT (HN.out _ _)⟩, by simp [intOf]; omega⟩
      · obtain rfl : k = l0.length + 1 := by omega
        have i1 : ((l0.length : Int) + 1 < (l0.length : Int) + 1) = False := by rw [eq_iff_iff, iff_false]; omega
        have HI1 := hideT (show SOk S0 ∧ Bo W wr b d S0 S0 (fun _ => False) from ⟨HI0.out.1, HI.out.2.2.less (fun _ hj => hj.elim)⟩)
        clear HI HI0 HOW5 hlt hk
        go_wp2_with fail
        go_loopw [69] (fun iv wr => ∃ (k : Nat) (S : Sr), k ≤ l1.length ∧ iv = .int .i64 (k : Nat) ∧ Hid (SOk S ∧ Bo W wr b d S S (fun _ => False))) (fun iv _ => l1.length - (intOf iv).toNat)
        case atStart => exact ⟨0, S0, Nat.zero_le _, rfl, HI1⟩
        case round =>
          obtain ⟨k, S, hk, rfl, HI⟩ := hrel
          by_cases hlt : k < l1.length
          · have j1 : (k : Int) < (l1.length : Int) := by omega
            have j2 : (0 : Int) ≤ (k : Int) := by omega
            have w1' : IntKind.i64.wrap ((k : Int) + 1) = (k : Int) + 1 := by rw [IntKind.wrap_i64]; omega
            have hsz := HS.out _ (List.getElem_mem hlt)
            obtain ⟨gb, o, rfl, r0, r1, r2, r3⟩ := HROW.out k _ (List.getElem?_eq_getElem hlt)
            have e0 := keep_cell HI.out.2.bel r0
            have e1 := keep_cell HI.out.2.bel r1
            have e2 := keep_cell HI.out.2.bel r2
            have e3 := keep_cell HI.out.2.bel r3
            generalize (l1[k]'hlt) = x at hsz e0 e1 e2 e3
            clear r0 r1 r2 r3
            go_wp2_with fail
            have hX : Below wr.heap.size wr (wr.alloc (.cells #[.int .i64 x.kd, .string x.nm, .string x.tx, .int .u8 (x.tm.toNat : Nat)] 30)) := (Below.refl _ wr).alloc (Nat.le_refl _) _
            generalize wr.alloc (.cells #[.int .i64 x.kd, .string x.nm, .string x.tx, .int .u8 (x.tm.toNat : Nat)] 30) = X at *
            have HBX := hideT (HI.out.2.step hX).1
            have HO0 := hideT HI.out.1
            refine (play_any HBX.out HO0.out x (by omega) (by omega)).mono ?_
            rintro e w6 ⟨rfl, hb6, _⟩
            have HN := hideT (And.intro (HO0.out.play x) hb6)
            clear hX HBX HO0 HI e0 e1 e2 e3 hb6
            go_wp2
            go_roundw
            case rel =>
              (repeat apply Exists.intro)
              refine ⟨⟨k + 1, S.play x, ?_, ?_, HN⟩, rfl⟩
              · omega
              · go_num
            case measure => simp [intOf]; omega
          · obtain rfl : k = l1.length := by omega
            have j1 : ((l1.length : Int) < (l1.length : Int)) = False := by rw [eq_iff_iff, iff_false]; omega
            have HO := hideT HI.out.1
            have HBO := hideT HI.out.2
            clear HI hlt hk HI1 HS HROW
            go_wp2_with fail
            refine (HBO.out.files HO.out).mono ?_
            rintro e w6 ⟨va, rfl, hra, hba, _⟩
            have HRA := hideT hra
            have HBA := hideT hba
            clear hra hba
            go_wp2_with fail
            refine (HBA.out.files HO.out).mono ?_
            rintro e w7 ⟨vb, rfl, hrb, hbb, hsb⟩
            have hl16 := HO.out.len
            have hKp : Kp W w7 b d S va vb S.fs.length (flV (itF S.fs)) S.fs.length (flV (itF S.fs)) := ⟨owns_mono (owns_keep HRA.out (fun j hj => hsb j (.inr hj))) HBO.out.bel.size, owns_mono hrb HBA.out.bel.size, hbb.less (fun k hk => hk.elim (fun h => .inl (.inr h)) .inr), fun j h1 h2 => by have := (row_in HRA.out h1).2; have := (row_in hrb h2).1; omega⟩
            obtain ⟨N, hN⟩ : ∃ N, N = S.fs.length := ⟨_, rfl⟩
            rw [← hN] at hKp hl16
            have HN := hideT hN
            obtain ⟨aa, ca, rfl, _⟩ := row_slice hKp.ra
            have HK := hideT hKp
            clear hKp hrb hbb hsb hN HBO HBA HRA
            go_wp2_with fail
            go_loopw [85] (fun iv wr => ∃ (k : Nat) (xs : List Value), k ≤ N ∧ iv = .int .i64 (k : Nat) ∧ Hid (Kp W wr b d S (.slice aa N ca) vb N xs N (flV (itF S.fs)))) (fun iv _ => N - (intOf iv).toNat)
            case atStart => exact ⟨0, _, Nat.zero_le _, rfl, HK⟩
            case round =>
              obtain ⟨k, xs, hk, rfl, HI⟩ := hrel
              by_cases hlt : k < N
              · have j1 : (k : Int) < (N : Int) := by omega
                have j2 : (0 : Int) ≤ (k : Int) := by omega
                have w1' : IntKind.i64.wrap ((k : Int) + 1) = (k : Int) + 1 := by rw [IntKind.wrap_i64]; omega
                obtain ⟨ga, rfl⟩ := row_some HI.out.ra (by omega)
                obtain ⟨⟨z0, c0⟩, f0⟩ := row_cell HI.out.ra (j := k * 2) (by omega)
                obtain ⟨⟨z1, c1⟩, f1⟩ := row_cell HI.out.ra (j := k * 2 + 1) (by omega)
                have HP := hideT (fun y0 y1 => HI.out.put (k * 2) (k * 2 + 1) y0 y1)
                clear HI HK
                go_wp2
                exact ⟨⟨k + 1, _, by omega, by go_num, hideT (HP.out _ _)⟩, by simp [intOf]; omega⟩
              · obtain rfl : k = N := by omega
                have j1 : ((k : Int) < (k : Int)) = False := by rw [eq_iff_iff, iff_false]; omega
                have hX1n := heap_alloc_new wr (.cells #[.string ⟨#[97, 49]⟩, .string ⟨#[]⟩] 52)
                have hX1 : Below wr.heap.size wr (wr.alloc (.cells #[.string ⟨#[97, 49]⟩, .string ⟨#[]⟩] 52)) := (Below.refl _ wr).alloc (Nat.le_refl _) _
                obtain ⟨ga, ca2, w8, hr8, hk8⟩ := (HI.out.step hX1).more (q := 1) (c := 1) [([97, 49], [])] hX1n rfl rfl (by decide) (by omega) 22
                have HR8 := hideT hr8
                have HK8 := hideT hk8
                obtain ⟨lv, ov, hbf⟩ := hk8.bo.fix
                have HBF := hideT hbf
                obtain ⟨c0, _⟩ := hbf.da.c0
                have HSM := hideT (same_any w8 vb lv _ (frow_owns (show w8.ownsRow W.heap.size 52 2 vb (itF S.fs).length (flV (itF S.fs)) by have := hk8.rb; rw [show (itF S.fs).length = k by rw [HN.out]; simp [itF]]; exact this)) hbf.da.frow (by simp [itF]; have := HO.out.len; omega))
                clear hX1 hX1n hr8 hk8 hbf HI HK hlt hk
                go_wp2_with (at_builtin; refine wpList_run rfl _ _ _ _ rfl HR8.out ?_)
                refine HSM.out.mono ?_
                rintro e w9 ⟨rfl, hb9⟩
                have hk9 := HK8.out.step hb9
                have hX2n := heap_alloc_new w9 (.cells #[.string ⟨#[98, 49]⟩, .string ⟨#[]⟩, .string ⟨#[98, 50]⟩, .string ⟨#[]⟩] 52)
                have hX2 : Below w9.heap.size w9 (w9.alloc (.cells #[.string ⟨#[98, 49]⟩, .string ⟨#[]⟩, .string ⟨#[98, 50]⟩, .string ⟨#[]⟩] 52)) := (Below.refl _ w9).alloc (Nat.le_refl _) _
                obtain ⟨gb, cb2, X9, hr9, hk9b⟩ := (hk9.step hX2).swap.more (q := 2) (c := 2) [([98, 49], []), ([98, 50], [])] hX2n rfl rfl (by decide) (by omega) 22
                have HR9 := hideT hr9
                have HK9 := hideT hk9b.swap
                clear hb9 hk9 hX2 hX2n hr9 hk9b HK8 HBF HSM HR8 c0
                go_wp2_with (at_builtin; refine wpList_run rfl _ _ _ _ rfl HR9.out ?_)
                obtain ⟨lv, ov, hbf⟩ := HK9.out.bo.fix
                have ca9 : X9.cell? ⟨ga, k * 2, none⟩ = some (.string ⟨#[97, 49]⟩) := by
                  have hln : xs.length = k * 2 := by
                    have := HK9.out.ra.1
                    simp [flV] at this
                    omega
                  rw [HK9.out.ra.cellAt (k * 2) (by omega), List.getElem?_append_right (by omega), hln, Nat.sub_self]
                  rfl
                have cb9 : X9.cell? ⟨gb, (k + 1) * 2, none⟩ = some (.string ⟨#[98, 50]⟩) := by
                  have hln : (flV (itF S.fs)).length = k * 2 := by rw [flV_len, HN.out]; simp [itF]
                  rw [HK9.out.rb.cellAt ((k + 1) * 2) (by omega), List.getElem?_append_right (by omega), hln, show (k + 1) * 2 - k * 2 = 2 by omega]
                  rfl
                obtain ⟨Q9, hQ9⟩ : ∃ Q, Q = Qv (.slice (some ⟨ga, 0, none⟩) (k + 1) ca2) (.slice (some ⟨gb, 0, none⟩) (k + 2) cb2) := ⟨_, rfl⟩
                rw [← hQ9] at hbf
                have HR0 := hideT (hbf.step ((Below.refl _ X9).drew))
                have HINV := hideT (show ∀ V : World, V.heap[d]? = some (dO lv ov S) → Stay Q9 X9.drew V → V.heap[d]? = some (dO lv ov S) ∧ V.cell? ⟨ga, k * 2, none⟩ = some (.string ⟨#[97, 49]⟩) ∧ V.cell? ⟨gb, (k + 1) * 2, none⟩ = some (.string ⟨#[98, 50]⟩) from fun V h1 h2 => ⟨h1, (World.cell?_of_block (a := ⟨ga, k * 2, none⟩) (h2 ga (by rw [hQ9]; exact .inl rfl))).trans ca9, (World.cell?_of_block (a := ⟨gb, (k + 1) * 2, none⟩) (h2 gb (by rw [hQ9]; exact .inr rfl))).trans cb9⟩)
                have s0 := HINV.out X9.drew HR0.out.blk (fun _ _ => rfl)
                have n1 : IntKind.i64.wrap ((k : Int) + 1 - 1) = (k : Int) := by rw [IntKind.wrap_i64]; omega
                have n2 : IntKind.i64.wrap ((k : Int) + 2 - 1) = (k : Int) + 1 := by rw [IntKind.wrap_i64]; omega
                have n3 : IntKind.i64.wrap (k : Int) = (k : Int) := by rw [IntKind.wrap_i64]; omega
                have n5 : (0 : Int) ≤ (k : Int) := by omega
                have n6 : (k : Int) < (k : Int) + 1 := by omega
                have n7 : (0 : Int) ≤ (k : Int) + 1 := by omega
                have n8 : (k : Int) + 1 < (k : Int) + 2 := by omega
                clear hbf ca9 cb9 HK9 HR9 hQ9
                refine wp_region_held (S := fun V => V.heap[d]? = some (dO lv ov S) ∧ V.cell? ⟨ga, k * 2, none⟩ = some (.string ⟨#[97, 49]⟩) ∧ V.cell? ⟨gb, (k + 1) * 2, none⟩ = some (.string ⟨#[98, 50]⟩)) (by kernel_rfl) ?_
                refine' take_d 0 (some 109) rfl rfl (by kernel_rfl) (by kernel_rfl) (by kernel_rfl) (fun _ _ _ h => h) (wanted_none rfl _) s0 ?tk39 ?rs39
                case tk39 => intro V hV; go_simp; (try with_reducible rfl)
                simp only [Act.put, List.setIfInBounds_toArray, List.set_cons_zero, List.set_cons_succ]
                refine' take_d 2 (some 111) rfl rfl (by kernel_rfl) (by kernel_rfl) (by kernel_rfl) (fun _ _ _ h => h) (wanted_none rfl _) s0 ?tk40 ?rs40
                case tk40 => intro V hV; go_simp; (try with_reducible rfl)
                simp only [Act.put, List.setIfInBounds_toArray, List.set_cons_zero, List.set_cons_succ]
                refine' take_d 3 (some 112) rfl rfl (by kernel_rfl) (by kernel_rfl) (by kernel_rfl) (fun _ _ _ h => h) (wanted_none rfl _) s0 ?tk41 ?rs41
                case tk41 => intro V hV; go_simp; (try with_reducible rfl)
                simp only [Act.put, List.setIfInBounds_toArray, List.set_cons_zero, List.set_cons_succ]
                refine' take_d 4 (some 113) rfl rfl (by kernel_rfl) (by kernel_rfl) (by kernel_rfl) (fun _ _ _ h => h) (wanted_none rfl _) s0 ?tk42 ?rs42
                case tk42 => intro V hV; go_simp; (try with_reducible rfl)
                simp only [Act.put, List.setIfInBounds_toArray, List.set_cons_zero, List.set_cons_succ]
                refine' take_d 5 (some 114) rfl rfl (by kernel_rfl) (by kernel_rfl) (by kernel_rfl) (fun _ _ _ h => h) (wanted_none rfl _) s0 ?tk43 ?rs43
                case tk43 => intro V hV; obtain ⟨hc0, hc2, hc3⟩ := dO_cells hV.1; go_simp; (try with_reducible rfl)
                simp only [Act.put, List.setIfInBounds_toArray, List.set_cons_zero, List.set_cons_succ]
                refine wpAnyH_all (rs := [1]) (by kernel_rfl) (by simp) (fun i hi => ?_)
                obtain rfl : i = 1 := List.mem_singleton.1 hi
                clear hi
                refine op_call (some 110) rfl rfl (wanted_none rfl _) (by go_simp; (try with_reducible rfl)) (R := fun u w' => FRow w' u ((itF S.fs).map bFl) ∧ Bf W w' b d lv ov S Q9 ∧ Stay Q9 X9.drew w') ((HR0.out.filesS HO.out).mono (fun e w' h => by obtain ⟨v, rfl, h1, h2⟩ := h; exact ⟨_, rfl, h1, h2⟩)) ?_
                rintro fv w10 ⟨hf, h10, t10⟩
                have s1 := HINV.out w10 h10.blk t10
                have H10 := hideT h10
                have HF10 := hideT hf
                clear h10 hf
                refine And.intro s1 ?_
                simp only [Act.put, List.setIfInBounds_toArray, List.set_cons_zero, List.set_cons_succ]
                refine wpAnyH_all (rs := [6]) (by kernel_rfl) (by simp) (fun i hi => ?_)
                obtain rfl : i = 6 := List.mem_singleton.1 hi
                clear hi
                refine op_call (some 115) rfl rfl (wanted_none rfl _) (by go_simp; (try with_reducible rfl)) (R := fun u w' => u = .bool true ∧ Bf W w' b d lv ov S Q9 ∧ Stay Q9 w10 w') ((H10.out.sameS HO.out HF10.out).mono (fun e w' h => ⟨_, h.1, rfl, h.2⟩)) ?_
                rintro u w11 ⟨rfl, h11, t11⟩
                have s2 := HINV.out w11 h11.blk (t10.trans t11)
                have H11 := hideT h11
                clear h11 t10 t11 s0 s1
                refine And.intro s2 ?_
                simp only [Act.put, List.setIfInBounds_toArray, List.set_cons_zero, List.set_cons_succ]
                refine' take_d 7 (some 116) rfl rfl (by kernel_rfl) (by kernel_rfl) (by kernel_rfl) (fun _ _ _ h => h) (wanted_none rfl _) s2 ?tk44 ?rs44
                case tk44 => intro V hV; go_simp; (try with_reducible rfl)
                simp only [Act.put, List.setIfInBounds_toArray, List.set_cons_zero, List.set_cons_succ]
                refine' take_d 8 (some 117) rfl rfl (by kernel_rfl) (by kernel_rfl) (by kernel_rfl) (fun _ _ _ h => h) (by rfl) s2 ?tk45 ?rs45
                case tk45 => intro V hV; go_simp; (try with_reducible rfl)
                simp only [Act.put, List.setIfInBounds_toArray, List.set_cons_zero, List.set_cons_succ]
                refine' take_d 9 (some 118) rfl rfl (by kernel_rfl) (by kernel_rfl) (by kernel_rfl) (fun _ _ _ h => h) (by rfl) s2 ?tk46 ?rs46
                case tk46 => intro V hV; go_simp; (try with_reducible rfl)
                simp only [Act.put, List.setIfInBounds_toArray, List.set_cons_zero, List.set_cons_succ]
                refine' take_d 10 (some 119) rfl rfl (by kernel_rfl) (by kernel_rfl) (by kernel_rfl) (fun _ _ _ h => h) (by rfl) s2 ?tk47 ?rs47
                case tk47 => intro V hV; go_simp; (try with_reducible rfl)
                simp only [Act.put, List.setIfInBounds_toArray, List.set_cons_zero, List.set_cons_succ]
                refine' take_d 11 (some 120) rfl rfl (by kernel_rfl) (by kernel_rfl) (by kernel_rfl) (fun _ _ _ h => h) (by rfl) s2 ?tk48 ?rs48
                case tk48 => intro V hV; go_simp; (try with_reducible rfl)
                simp only [Act.put, List.setIfInBounds_toArray, List.set_cons_zero, List.set_cons_succ]
                refine' take_d 12 (some 121) rfl rfl (by kernel_rfl) (by kernel_rfl) (by kernel_rfl) (fun _ _ _ h => h) (by rfl) s2 ?tk49 ?rs49
                case tk49 => intro V hV; go_simp; (try with_reducible rfl)
                simp only [Act.put, List.setIfInBounds_toArray, List.set_cons_zero, List.set_cons_succ]
                refine' take_d 13 (some 122) rfl rfl (by kernel_rfl) (by kernel_rfl) (by kernel_rfl) (fun _ _ _ h => h) (by rfl) s2 ?tk50 ?rs50
                case tk50 => intro V hV; go_simp; (try with_reducible rfl)
                simp only [Act.put, List.setIfInBounds_toArray, List.set_cons_zero, List.set_cons_succ]
                refine' take_d 14 (some 123) rfl rfl (by kernel_rfl) (by kernel_rfl) (by kernel_rfl) (fun _ _ _ h => h) (by rfl) s2 ?tk51 ?rs51
                case tk51 => intro V hV; have hc := hV.2.1; go_simp; (try with_reducible rfl)
                simp only [Act.put, List.setIfInBounds_toArray, List.set_cons_zero, List.set_cons_succ]
                refine' take_d 15 (some 124) rfl rfl (by kernel_rfl) (by kernel_rfl) (by kernel_rfl) (fun _ _ _ h => h) (by rfl) s2 ?tk52 ?rs52
                case tk52 => intro V hV; go_simp; (try with_reducible rfl)
                simp only [Act.put, List.setIfInBounds_toArray, List.set_cons_zero, List.set_cons_succ]
                refine' take_d 16 (some 125) rfl rfl (by kernel_rfl) (by kernel_rfl) (by kernel_rfl) (fun _ _ _ h => h) (wanted_none rfl _) s2 ?tk53 ?rs53
                case tk53 => intro V hV; go_simp; (try with_reducible rfl)
                simp only [Act.put, List.setIfInBounds_toArray, List.set_cons_zero, List.set_cons_succ]
                refine' take_d 17 (some 126) rfl rfl (by kernel_rfl) (by kernel_rfl) (by kernel_rfl) (fun _ _ _ h => h) (wanted_none rfl _) s2 ?tk54 ?rs54
                case tk54 => intro V hV; go_simp; (try with_reducible rfl)
                simp only [Act.put, List.setIfInBounds_toArray, List.set_cons_zero, List.set_cons_succ]
                refine' take_d 18 (some 127) rfl rfl (by kernel_rfl) (by kernel_rfl) (by kernel_rfl) (fun _ _ _ h => h) (by rfl) s2 ?tk55 ?rs55
                case tk55 => intro V hV; go_simp; (try with_reducible rfl)
                simp only [Act.put, List.setIfInBounds_toArray, List.set_cons_zero, List.set_cons_succ]
                refine' take_d 19 (some 128) rfl rfl (by kernel_rfl) (by kernel_rfl) (by kernel_rfl) (fun _ _ _ h => h) (by rfl) s2 ?tk56 ?rs56
                case tk56 => intro V hV; go_simp; (try with_reducible rfl)
                simp only [Act.put, List.setIfInBounds_toArray, List.set_cons_zero, List.set_cons_succ]
                refine' take_d 20 (some 129) rfl rfl (by kernel_rfl) (by kernel_rfl) (by kernel_rfl) (fun _ _ _ h => h) (by rfl) s2 ?tk57 ?rs57
                case tk57 => intro V hV; go_simp; (try with_reducible rfl)
                simp only [Act.put, List.setIfInBounds_toArray, List.set_cons_zero, List.set_cons_succ]
                refine' take_d 21 (some 130) rfl rfl (by kernel_rfl) (by kernel_rfl) (by kernel_rfl) (fun _ _ _ h => h) (by rfl) s2 ?tk58 ?rs58
                case tk58 => intro V hV; go_simp; (try with_reducible rfl)
                simp only [Act.put, List.setIfInBounds_toArray, List.set_cons_zero, List.set_cons_succ]
                refine' take_d 22 (some 131) rfl rfl (by kernel_rfl) (by kernel_rfl) (by kernel_rfl) (fun _ _ _ h => h) (by rfl) s2 ?tk59 ?rs59
                case tk59 => intro V hV; go_simp; (try with_reducible rfl)
                simp only [Act.put, List.setIfInBounds_toArray, List.set_cons_zero, List.set_cons_succ]
                refine' take_d 23 (some 132) rfl rfl (by kernel_rfl) (by kernel_rfl) (by kernel_rfl) (fun _ _ _ h => h) (by rfl) s2 ?tk60 ?rs60
                case tk60 => intro V hV; go_simp; (try with_reducible rfl)
                simp only [Act.put, List.setIfInBounds_toArray, List.set_cons_zero, List.set_cons_succ]
                refine' take_d 24 (some 133) rfl rfl (by kernel_rfl) (by kernel_rfl) (by kernel_rfl) (fun _ _ _ h => h) (by rfl) s2 ?tk61 ?rs61
                case tk61 => intro V hV; have hc := hV.2.2; go_simp; (try with_reducible rfl)
                simp only [Act.put, List.setIfInBounds_toArray, List.set_cons_zero, List.set_cons_succ]
                refine' take_d 25 (some 134) rfl rfl (by kernel_rfl) (by kernel_rfl) (by kernel_rfl) (fun _ _ _ h => h) (by rfl) s2 ?tk62 ?rs62
                case tk62 => intro V hV; go_simp; (try with_reducible rfl)
                simp only [Act.put, List.setIfInBounds_toArray, List.set_cons_zero, List.set_cons_succ]
                refine' take_d 26 (some 135) rfl rfl (by kernel_rfl) (by kernel_rfl) (by kernel_rfl) (fun _ _ _ h => h) (wanted_none rfl _) s2 ?tk63 ?rs63
                case tk63 => intro V hV; go_simp; (try with_reducible rfl)
                simp only [Act.put, List.setIfInBounds_toArray, List.set_cons_zero, List.set_cons_succ]
                refine' take_d 27 (some 4) rfl rfl (by kernel_rfl) (by kernel_rfl) (by kernel_rfl) (fun _ _ _ h => h) (wanted_none rfl _) s2 ?tk64 ?rs64
                case tk64 => intro V hV; go_simp; (try with_reducible rfl)
                simp only [Act.put, List.setIfInBounds_toArray, List.set_cons_zero, List.set_cons_succ]
                refine wpAnyH_done (by kernel_rfl) ?_ _
                clear s2
                go_wp2
                go_ret
                exact ⟨rfl, H11.out.fr.bel⟩
end Go.Proofs.Ytbibfpgcnmocjaa
