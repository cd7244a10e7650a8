/- The document's Text: the mathematics of its loops. -/
import Derived.Test.YtaapmphdnholaaaGreatDoorKTextC
import Derived.BigQuiet
import Derived.Deep.QuietTactic
set_option maxRecDepth 100000
set_option maxHeartbeats 2000000
namespace Go.Proofs.YtaapmphdnholaaaGreatDoor
open Go.RowKit
theorem textSt_snoc (l : List Nat) (b : Nat) : xfd (l ++ [b]) = tstep (xfd l) b := by simp [xfd]
theorem textSt_take (l : List Nat) (k : Nat) (h : k < l.length) : xfd (l.take (k + 1)) = tstep (xfd (l.take k)) l[k] := by
 rw [List.take_succ_eq_append_getElem h, textSt_snoc]
theorem flush_nil (o : List Nat) : flush (o, []) = o := by simp [flush]
theorem tstep_special (p : List Nat × List Nat) (b : Nat) (h : xfa b = true) : tstep p b = (flush p ++ [91, 46, b, 46, 93], []) := by simp [tstep, h]
theorem tstep_start (p : List Nat × List Nat) (b : Nat) (h : xfa b = false) (hb : p.2 = [] ∨ ¬ p.2.getLastD 0 + 1 = b) : tstep p b = (flush p, [b]) := by
 obtain ⟨o, r⟩ := p
 rcases hb with hb | hb
 ·simp only at hb
  subst hb
  simp [tstep, h, flush_nil]
 ·by_cases hr : r = []
  ·subst hr
   simp [tstep, h, flush_nil]
  ·rw [tstep, if_neg (by simp [h]), if_neg (by rintro (x | x); exact hr x; exact hb x)]
theorem tstep_on (p : List Nat × List Nat) (b : Nat) (h : xfa b = false) (hl : p.2.getLastD 0 + 1 = b) : tstep p b = (p.1, p.2 ++ [b]) := by
 rw [tstep, if_neg (by simp [h]), if_pos (.inr hl)]
theorem special_any (n : Nat) (w : World) :
  Calls Tryz.prog 62 #[.int .u8 (n : Int)] w fun e w' => e = .returned (.bool (xfa n)) ∧ w' = w := by
 have e : xfa n = ((n : Int) == 93 || (n : Int) == 94 || (n : Int) == 45 || (n : Int) == 91) := by
  unfold xfa
  have h : ∀ k : Nat, ((n : Int) == (k : Int)) = (n == k) := fun k => by rw [Bool.eq_iff_iff, beq_iff_eq, beq_iff_eq]; omega
  exact (by rw [h 93, h 94, h 45, h 91] : (((n : Int) == ((93 : Nat) : Int)) || ((n : Int) == ((94 : Nat) : Int)) || ((n : Int) == ((45 : Nat) : Int)) || ((n : Int) == ((91 : Nat) : Int))) = _).symm
 rw [e]
 by_cases h1 : (n : Int) = 93
 ·rw [h1]
  go_enter Tryz.func62, Tryz.ntmps62
  go_wp2
  go_ret
  exact ⟨by simp, rfl⟩
 ·by_cases h2 : (n : Int) = 94
  ·rw [h2]
   go_enter Tryz.func62, Tryz.ntmps62
   go_wp2
   go_ret
   exact ⟨by simp, rfl⟩
  ·by_cases h3 : (n : Int) = 45
   ·rw [h3]
    go_enter Tryz.func62, Tryz.ntmps62
    go_wp2
    go_ret
    exact ⟨by simp, rfl⟩
   ·have b1 : ((n : Int) == 93) = false := by simp [h1]
    have b2 : ((n : Int) == 94) = false := by simp [h2]
    have b3 : ((n : Int) == 45) = false := by simp [h3]
    clear h1 h2 h3
    go_enter Tryz.func62, Tryz.ntmps62
    go_wp2
    go_ret
    exact ⟨by simp [b1, b2, b3], rfl⟩
def Bd (L : List Nat) (k : Nat) : Prop := ∀ b, L[k]? = some b → xfa b = true ∨ (xfd (L.take k)).2 = [] ∨ ¬ (xfd (L.take k)).2.getLastD 0 + 1 = b
theorem bd_zero (L : List Nat) : Bd L 0 := fun b _ => .inr (.inl (by simp [xfd]))
theorem bd_special (L : List Nat) (k b : Nat) (h : L[k]? = some b) (hs : xfa b = true) : xfd (L.take (k + 1)) = (flush (xfd (L.take k)) ++ [91, 46, b, 46, 93], []) ∧ Bd L (k + 1) := by
 have hk : k < L.length := (List.getElem?_eq_some_iff.1 h).1
 have e : L[k] = b := (List.getElem?_eq_some_iff.1 h).2
 have h1 : xfd (L.take (k + 1)) = (flush (xfd (L.take k)) ++ [91, 46, b, 46, 93], []) := by rw [textSt_take L k hk, e, tstep_special _ _ hs]
 exact ⟨h1, fun c _ => .inr (.inl (by rw [h1]))⟩
def Run (L : List Nat) (k m : Nat) : Prop := k < m ∧ m ≤ L.length ∧ (∀ b, L[k]? = some b → xfa b = false) ∧ ∀ q, k < q → q < m → ∀ b, L[q]? = some b → xfa b = false ∧ L[q - 1]? = some (b - 1) ∧ 1 ≤ b
theorem run_st (L : List Nat) (k m : Nat) (hb : Bd L k) (h : Run L k m) : xfd (L.take m) = (flush (xfd (L.take k)), (L.drop k).take (m - k)) := by
 obtain ⟨h1, h2, h3, h4⟩ := h
 induction m with
 | zero => omega
 | succ m ih =>
  have hm : m < L.length := by omega
  by_cases e : m = k
  ·subst e
   have hs := h3 L[m] (List.getElem?_eq_getElem hm)
   rw [textSt_take L m hm]
   rw [tstep_start _ _ hs (by rcases hb L[m] (List.getElem?_eq_getElem hm) with x | x | x; rw [hs] at x; cases x; exact .inl x; exact .inr x)]
   have : (L.drop m).take (m + 1 - m) = [L[m]] := by
    rw [show m + 1 - m = 1 from by omega, List.take_one, List.head?_drop, List.getElem?_eq_getElem hm]; rfl
   rw [this]
  ·have hi := ih (by omega) (by omega) (fun q a b => h4 q a (by omega))
   obtain ⟨hs, hp, hp1⟩ := h4 m (by omega) (by omega) L[m] (List.getElem?_eq_getElem hm)
   have hl : ((L.drop k).take (m - k)).getLastD 0 + 1 = L[m] := by
    have h5 : ((L.drop k).take (m - k))[m - k - 1]? = some (L[m] - 1) := by
     rw [List.getElem?_take, if_pos (by omega), List.getElem?_drop, show k + (m - k - 1) = m - 1 from by omega, hp]
    have h6 : ((L.drop k).take (m - k)).length = m - k := by simp; omega
    have h7 : ((L.drop k).take (m - k)).getLast? = some (L[m] - 1) := by rw [List.getLast?_eq_getElem?, h6, h5]
    rw [List.getLastD_eq_getLast?, h7]
    simp only [Option.getD_some]
    omega
   rw [textSt_take L m hm, tstep_on _ _ hs (by rw [hi]; exact hl), hi]
   have : (L.drop k).take (m + 1 - k) = (L.drop k).take (m - k) ++ [L[m]] := by
    rw [show m + 1 - k = (m - k) + 1 from by omega, List.take_add_one, List.getElem?_drop, show k + (m - k) = m from by omega, List.getElem?_eq_getElem hm]; rfl
   rw [this]
theorem run_bd (L : List Nat) (k m : Nat) (hb : Bd L k) (h : Run L k m) (he : ∀ b, L[m]? = some b → xfa b = true ∨ ∀ a, L[m - 1]? = some a → ¬ a + 1 = b) : Bd L m := by
 have hs := run_st L k m hb h
 obtain ⟨h1, h2, h3, h4⟩ := h
 intro b hbm
 rcases he b hbm with x | x
 ·exact .inl x
 ·refine .inr (.inr ?_)
  have hm : m - 1 < L.length := by omega
  have h5 : ((L.drop k).take (m - k))[m - k - 1]? = some L[m - 1] := by
   rw [List.getElem?_take, if_pos (by omega), List.getElem?_drop, show k + (m - k - 1) = m - 1 from by omega, List.getElem?_eq_getElem hm]
  have h6 : ((L.drop k).take (m - k)).length = m - k := by simp; omega
  have h7 : ((L.drop k).take (m - k)).getLast? = some L[m - 1] := by rw [List.getLast?_eq_getElem?, h6, h5]
  rw [hs, List.getLastD_eq_getLast?, h7]
  exact x _ (List.getElem?_eq_getElem hm)
theorem run_one (L : List Nat) (k b : Nat) (h : L[k]? = some b) (hs : xfa b = false) : Run L k (k + 1) := by
 have hk : k < L.length := (List.getElem?_eq_some_iff.1 h).1
 exact ⟨by omega, by omega, fun c hc => by rw [h] at hc; cases hc; exact hs, fun q a b => by omega⟩
theorem run_more (L : List Nat) (k m a b : Nat) (h : Run L k m) (hm : L[m]? = some b) (ha : L[m - 1]? = some a) (hs : xfa b = false) (he : a + 1 = b) : Run L k (m + 1) := by
 obtain ⟨h1, h2, h3, h4⟩ := h
 have hk : m < L.length := (List.getElem?_eq_some_iff.1 hm).1
 refine ⟨by omega, by omega, h3, fun q a1 a2 c hc => ?_⟩
 by_cases e : q = m
 ·subst e
  rw [hm] at hc
  cases hc
  exact ⟨hs, by rw [ha]; congr 1; omega, by omega⟩
 ·exact h4 q a1 (by omega) c hc
theorem run_flush (L : List Nat) (k m x y : Nat) (hb : Bd L k) (h : Run L k m) (hx : L[k]? = some x) (hy : L[m - 1]? = some y) :
  flush (xfd (L.take m)) = flush (xfd (L.take k)) ++ (if m - k < 3 then (L.drop k).take (m - k) else [x, 45, y]) := by
 rw [run_st L k m hb h]
 obtain ⟨h1, h2, h3, h4⟩ := h
 have h6 : ((L.drop k).take (m - k)).length = m - k := by simp; omega
 unfold flush
 simp only [h6]
 have hm : m - 1 < L.length := by omega
 have h5 : ((L.drop k).take (m - k))[m - k - 1]? = some y := by
  rw [List.getElem?_take, if_pos (by omega), List.getElem?_drop, show k + (m - k - 1) = m - 1 from by omega, hy]
 have h7 : ((L.drop k).take (m - k)).getLastD 0 = y := by rw [List.getLastD_eq_getLast?, List.getLast?_eq_getElem?, h6, h5]; rfl
 have h8 : ((L.drop k).take (m - k)).headD 0 = x := by
  rw [List.headD_eq_head?_getD, List.head?_take, if_neg (by omega), List.head?_drop, hx]; rfl
 rw [h7, h8]
open Go.RowKit
theorem cellL {W : World} {base gl cl n k b : Nat} {tv : Value} {T L : List Nat} (h : brows.Rows W base [(tv, T), (.slice (some ⟨gl, 0, none⟩) n cl, L)]) (hk : L[k]? = some b) : W.cell? ⟨gl, k, none⟩ = some (.int .u8 b) := by
 have h1 := h.1 (.slice (some ⟨gl, 0, none⟩) n cl, L) (by simp)
 have h2 := h1.cells (g := gl) rfl k (.int .u8 b) (by simp [xam, hk])
 have hadd : (⟨gl, 0, none⟩ : Addr).add k = ⟨gl, k, none⟩ := by unfold Addr.add; split <;> simp_all
 rwa [hadd] at h2
theorem below_grown {W w1 : World} {base g : Nat} {tmp : Obj} (hg : (W.alloc tmp).grownBy w1 (some g)) (hb : base ≤ g) (hW : base ≤ W.heap.size) : Below base W w1 :=
 ⟨hg.os, hg.tape, hg.output, by have := hg.size; simp at this; omega, fun k hk => by
  rw [hg.block k (by simp; omega) (by simp; omega)]
  exact Below.heap_alloc W _ k (by omega)⟩
theorem rows_app {W w1 : World} {tmp : Obj} {base gt ct gt' ct' m m' gl n cl : Nat} {T L l : List Nat} (hm : T.length = m) (h : brows.Rows W base [(.slice (some ⟨gt, 0, none⟩) m ct, T), (.slice (some ⟨gl, 0, none⟩) n cl, L)])
  (hown : w1.ownsRow base 5 1 (.slice (some ⟨gt', 0, none⟩) m' ct') m' (xam T ++ xam l)) (hm' : m' = m + l.length) (hg : (W.alloc tmp).grownBy w1 (some gt))
  (hat : (Value.slice (some ⟨gt', 0, none⟩) m' ct').ownBlock = (Value.slice (some ⟨gt, 0, none⟩) m ct).ownBlock ∨ (Value.slice (some ⟨gt', 0, none⟩) m' ct').ownBlock = some (W.alloc tmp).heap.size) :
  brows.Rows w1 base [(.slice (some ⟨gt', 0, none⟩) m' ct', T ++ l), (.slice (some ⟨gl, 0, none⟩) n cl, L)] := by
 subst hm
 have el : (T ++ l).length = m' := by rw [List.length_append, hm']
 refine brows.Rows.grown (h.alloc tmp) ?_ hg hat
 rw [el]
 have e : xam (T ++ l) = xam T ++ xam l := by simp [xam]
 rw [e]
 exact hown
theorem below_grown0 {W w1 : World} {base g : Nat} (hg : W.grownBy w1 (some g)) (hb : base ≤ g) (hW : base ≤ W.heap.size) : Below base W w1 :=
 ⟨hg.os, hg.tape, hg.output, hg.size, fun k hk => hg.block k (by omega) (by simp; omega)⟩
theorem rows_app0 {W w1 : World} {base gt ct gt' ct' m m' gl n cl : Nat} {T L l : List Nat} (hm : T.length = m) (h : brows.Rows W base [(.slice (some ⟨gt, 0, none⟩) m ct, T), (.slice (some ⟨gl, 0, none⟩) n cl, L)])
  (hown : w1.ownsRow base 5 1 (.slice (some ⟨gt', 0, none⟩) m' ct') m' (xam T ++ xam l)) (hm' : m' = m + l.length) (hg : W.grownBy w1 (some gt))
  (hat : (Value.slice (some ⟨gt', 0, none⟩) m' ct').ownBlock = (Value.slice (some ⟨gt, 0, none⟩) m ct).ownBlock ∨ (Value.slice (some ⟨gt', 0, none⟩) m' ct').ownBlock = some W.heap.size) :
  brows.Rows w1 base [(.slice (some ⟨gt', 0, none⟩) m' ct', T ++ l), (.slice (some ⟨gl, 0, none⟩) n cl, L)] := by
 subst hm
 have el : (T ++ l).length = m' := by rw [List.length_append, hm']
 refine brows.Rows.grown h ?_ hg hat
 rw [el]
 have e : xam (T ++ l) = xam T ++ xam l := by simp [xam]
 rw [e]
 exact hown
theorem refText_some (p : Nat → Bool) (hp : eqB p xad = false) (w : World) :
  Calls Tryz.prog 39 #[.agg #[.int .u64 (wd p 0), .int .u64 (wd p 1), .int .u64 (wd p 2), .int .u64 (wd p 3)]] w fun e w' => e = .returned (.string (bstr (flush (xfd (mem p 256)) ++ [93]))) ∧ Below w.heap.size w w' := by
 obtain ⟨i0, hi, hz0, hz1, hz2⟩ := info_parts xid
 have hne := mem_some hp
 have hml := xoc p 256
 have hby := xqm p 256
 go_enter Tryz.func39, Tryz.ntmps39
 go_wp2_with fail
 refine (xie p _).mono ?_
 rintro e w1 ⟨lv, rfl, hrow, hb1⟩
 have hcard : card p = (mem p 256).length := by have := hrow.1; simp [xam] at this; omega
 rw [hcard] at hrow
 clear hcard
 generalize hL : mem p 256 = L at *
 have HL := brows.hide2 hL
 clear hL
 have hn0 : 0 < L.length := List.length_pos_iff.2 hne
 obtain ⟨n, hn⟩ : ∃ n, L.length = n := ⟨_, rfl⟩
 obtain ⟨gl, cl, rfl⟩ : ∃ g c, lv = .slice (some ⟨g, 0, none⟩) n c := by
  rcases hrow.2 with ⟨rfl, h0⟩ | ⟨g, cap, cur, rfl, _⟩
  ·omega
  ·exact ⟨g, cap, by rw [hn]⟩
 have hnb : ((n : Int) == 0) = false := by rw [beq_eq_false_iff_ne]; omega
 rw [hn] at hn0 hml
 have hbw : Below w.heap.size w w1 := ((Below.refl _ w).alloc (Nat.le_refl _) _).trans (hb1.mono (by simp))
 have hrow' := brows.xsl hrow (base' := w.heap.size) (by simp)
 have hR0 : brows.Rows (w1.alloc (.cells #[.int .u8 91] 5)) w.heap.size [(.slice (some ⟨w1.heap.size, 0, none⟩) 1 1, [91]), (.slice (some ⟨gl, 0, none⟩) n cl, L)] := by
  have h0 : brows.Rows w1 w.heap.size [(.slice (some ⟨gl, 0, none⟩) n cl, L)] := ⟨fun r hr => by rw [List.mem_singleton] at hr; subst hr; exact hrow', by simp⟩
  refine brows.Rows.add h0 ((Below.refl _ _).alloc (Nat.le_refl _) _) hbw.size ⟨rfl, .inr ⟨w1.heap.size, 1, #[.int .u8 91], rfl, Nat.le_refl _, World.alloc_heap_new w1 _, Nat.le_refl _, by unfold maxLen; omega, rfl, rfl⟩⟩
 have hb0 : Below w.heap.size w (w1.alloc (.cells #[.int .u8 91] 5)) := hbw.alloc hbw.size _
 have HN := brows.hide2 hn
 clear hrow hrow' hb1 hn hne
 go_wp2_with fail
 generalize w1.alloc (.cells #[.int .u8 91] 5) = W1 at *
 go_loopw [4, 5] (fun t i wr => ∃ (k gt ct m : Nat) (T : List Nat), k ≤ n ∧ i = .int .i64 k ∧ t = .slice (some ⟨gt, 0, none⟩) m ct ∧ T.length = m ∧ 1 ≤ m ∧ m ≤ 1 + 5 * k ∧ Hid (T = flush (xfd (L.take k))) ∧ Hid (Bd L k) ∧ Hid (brows.Rows wr w.heap.size [(.slice (some ⟨gt, 0, none⟩) m ct, T), (.slice (some ⟨gl, 0, none⟩) n cl, L)]) ∧ Below w.heap.size w wr) (fun _ i _ => (n - intOf i).toNat)
 case atStart => exact ⟨0, _, _, 1, [91], by omega, rfl, rfl, rfl, by omega, by omega, brows.hide2 (by simp [xfd, flush]), brows.hide2 (bd_zero L), brows.hide2 hR0, hb0⟩
 case round =>
  obtain ⟨k, gt, ct, m, T, hk, rfl, rfl, hTm, hm1, hm5, HT, HB, HR, hB⟩ := hrel
  have HTm := brows.hide2 hTm
  clear hTm
  by_cases hlt : k < n
  ·obtain ⟨b, hb⟩ : ∃ b, L[k]? = some b := ⟨_, List.getElem?_eq_getElem (by rw [HN.out]; exact hlt)⟩
   have hb256 : b < 256 := hby b (List.mem_of_getElem? hb)
   have hck := cellL HR.out hb
   have Hb := brows.hide2 hb
   clear hb
   have k1 : (0 : Int) ≤ (k : Int) := by omega
   have k2 : (k : Int) < (n : Int) := by omega
   have e1 := HR.out.head
   rw [HTm.out] at e1
   have hsz := hB.size
   have hspc := special_any b wr
   have hbase := (brows.row_base e1).1
   cases hs : xfa b
   ·rw [hs] at hspc
    have HRun := brows.hide2 (run_one L k b Hb.out hs)
    go_wp2_with (go_at_call 62; refine hspc.mono ?_; rintro e w' ⟨rfl, rfl⟩)
    go_loopw [6] (fun j wq => ∃ q : Nat, k < q ∧ q ≤ n ∧ j = .int .i64 q ∧ Hid (Run L k q) ∧ Hid (brows.Rows wq w.heap.size [(.slice (some ⟨gt, 0, none⟩) m ct, T), (.slice (some ⟨gl, 0, none⟩) n cl, L)]) ∧ Below w.heap.size w wq) (fun j _ => (n - intOf j).toNat)
    case atStart => exact ⟨k + 1, by omega, by omega, by go_num, HRun, HR, hB⟩
    case round =>
     clear hck hspc HRun HR
     obtain ⟨q, hkq, hqn, rfl, HRun, HR, hBq⟩ := hrel
     obtain ⟨y, hy⟩ : ∃ y, L[q - 1]? = some y := ⟨_, List.getElem?_eq_getElem (by rw [HN.out]; omega)⟩
     have hy256 : y < 256 := hby y (List.mem_of_getElem? hy)
     have hcy := cellL HR.out hy
     obtain ⟨j, hj⟩ : ∃ j, q - 1 = j := ⟨_, rfl⟩
     rw [hj] at hcy
     have q3 : (0 : Int) ≤ (j : Int) := by omega
     have q4 : (j : Int) < (n : Int) := by omega
     have q5 : IntKind.i64.wrap ((q : Int) - 1) = (j : Int) := by rw [IntKind.wrap_i64]; omega
     have Hj := brows.hide2 hj
     clear hj
     have Hy := brows.hide2 hy
     clear hy
     by_cases hqlt : q < n
     ·obtain ⟨c, hc⟩ : ∃ c, L[q]? = some c := ⟨_, List.getElem?_eq_getElem (by rw [HN.out]; exact hqlt)⟩
      have hc256 : c < 256 := hby c (List.mem_of_getElem? hc)
      have hcc := cellL HR.out hc
      have Hc := brows.hide2 hc
      clear hc
      have q1 : (0 : Int) ≤ (q : Int) := by omega
      have q2 : (q : Int) < (n : Int) := by omega
      have q6 : IntKind.i64.wrap ((y : Int) + 1) = (y : Int) + 1 := by rw [IntKind.wrap_i64]; omega
      have q7 : IntKind.i64.wrap (c : Int) = (c : Int) := by rw [IntKind.wrap_i64]; omega
      have q8 : IntKind.i64.wrap (y : Int) = (y : Int) := by rw [IntKind.wrap_i64]; omega
      have hq := fun W => special_any c W
      cases hs2 : xfa c
      ·rw [hs2] at hq
       by_cases hyc : y + 1 = c
       ·have q9 : ((c : Int) == (y : Int) + 1) = true := by rw [beq_iff_eq]; omega
        have HRun2 := brows.hide2 (run_more L k q y c HRun.out Hc.out Hy.out hs2 hyc)
        clear hyc
        go_wp2_with fail
        go_quiet ((go_at_call 62; exact Calls.quiet_of_same (hq _)))
        go_wp2
        exact ⟨⟨q + 1, by omega, by omega, by go_num, HRun2, HR, hBq.trans ⟨rfl, rfl, rfl, Nat.le_refl _, fun _ _ => rfl⟩⟩, by simp [intOf]; omega⟩
       ·have q9 : ((c : Int) == (y : Int) + 1) = false := by rw [beq_eq_false_iff_ne]; omega
        have HE : Hid (∀ b, L[q]? = some b → xfa b = true ∨ ∀ a, L[q - 1]? = some a → ¬ a + 1 = b) := brows.hide2 (fun b' hb' => by rw [Hc.out] at hb'; cases hb'; refine .inr fun a ha => ?_; rw [Hy.out] at ha; cases ha; exact hyc)
        clear hyc
        go_wp2_with fail
        go_quiet ((go_at_call 62; exact Calls.quiet_of_same (hq _)))
        have HRz : Hid (brows.Rows (wr.drewN nq) w.heap.size [(.slice (some ⟨gt, 0, none⟩) m ct, T), (.slice (some ⟨gl, 0, none⟩) n cl, L)]) := HR
        have hBz : Below w.heap.size w (wr.drewN nq) := hBq.trans ⟨rfl, rfl, rfl, Nat.le_refl _, fun _ _ => rfl⟩
        clear HR hBq
        generalize wr.drewN nq = wz at *
        have HFl := brows.hide2 (run_flush L k q b y HB.out HRun.out Hb.out Hy.out)
        have HBd := brows.hide2 (run_bd L k q HB.out HRun.out HE.out)
        have e2 := HRz.out.head
        rw [HTm.out] at e2
        have hszz := hBz.size
        have hlr := HRz.out.1 (.slice (some ⟨gl, 0, none⟩) n cl, L) (by simp)
        have hcl : n ≤ cl := by
         rcases hlr.2 with ⟨h', _⟩ | ⟨g', cap', cur, h', _, _, hn', _⟩
         ·simp at h'
         ·simp only [Value.slice.injEq] at h'
          obtain ⟨-, h2, h3⟩ := h'
          have := HN.out
          simp only [] at hn'
          omega
        have hne2 : some gl ≠ (Value.slice (some ⟨gt, 0, none⟩) m ct).ownBlock := brows.xqi HRz.out
        by_cases h3 : q - k < 3
        ·have t1 : ¬ (3 : Int) ≤ (q : Int) - (k : Int) := by omega
         have t2 : IntKind.i64.wrap ((q : Int) - (k : Int)) = (q : Int) - (k : Int) := by rw [IntKind.wrap_i64]; omega
         have t3 : (k : Int) ≤ (q : Int) := by omega
         have t4 : (q : Int) ≤ (cl : Int) := by omega
         have t5 : ¬ cl = k := by omega
         have t6 : (0 : Int) ≤ (q : Int) := by omega
         have HNEW : Hid (∀ (j : Nat) u, (xam ((L.drop k).take (q - k)))[j]? = some u → wz.cell? ((⟨gl, k, none⟩ : Addr).add j) = some u) := brows.hide2 (fun j u hu => by
          simp only [xam, List.getElem?_map] at hu
          cases hx : ((L.drop k).take (q - k))[j]? with
          | none => rw [hx] at hu; cases hu
          | some x =>
           rw [hx] at hu
           have hlt2 : j < q - k := by
            by_cases h : j < q - k
            ·exact h
            ·rw [List.getElem?_take, if_neg h] at hx; cases hx
           rw [List.getElem?_take, if_pos hlt2, List.getElem?_drop] at hx
           have := cellL HRz.out hx
           have hadd : (⟨gl, k, none⟩ : Addr).add j = ⟨gl, k + j, none⟩ := by unfold Addr.add; split <;> simp_all
           rw [hadd, this]
           simpa using hu)
         go_wp2_with (at_builtin; refine wpList_append_own_at _ rfl _ _ 43 rfl w.heap.size 5 i0 (.int .u8 0) 1 1 Tryz.underlying43 hi hz0 hz1 hz2 rfl (by decide) _ _ _ rfl e2 ⟨gl, k, none⟩ (q - k) (cl - k) (xam ((L.drop k).take (q - k))) rfl (by simp [xam, HN.out]; omega) HNEW.out (by intro u hu; simp only [xam, List.mem_map] at hu; obtain ⟨z, -, rfl⟩ := hu; rfl) (by unfold maxLen; omega) (by omega) hszz ?_; intro vo w2 hown hg _ hat; obtain ⟨gt2, ct2, rfl⟩ : ∃ g c, vo = .slice (some ⟨g, 0, none⟩) (m + (q - k)) c := (by obtain ⟨z, hz⟩ : ∃ z, m + (q - k) = z + 1 := ⟨m + (q - k) - 1, by omega⟩; rw [hz] at hown ⊢; exact ownsRow_succ hown); have hg2 : wz.grownBy w2 (some gt) := hg; have HR2 := brows.hide2 (rows_app0 (l := (L.drop k).take (q - k)) HTm.out HRz.out hown (by simp [HN.out]; omega) hg2 hat); have hb2 := below_grown0 hg2 hbase hszz; clear hown hg hg2 hat)
         refine ⟨⟨q, gt2, ct2, m + (q - k), T ++ (L.drop k).take (q - k), by omega, rfl, rfl, by rw [List.length_append, HTm.out]; simp [HN.out]; omega, by omega, by omega, brows.hide2 ?_, HBd, HR2, hBz.trans hb2⟩, by simp [intOf]; omega⟩
         rw [HFl.out, if_pos h3, HT.out]
        ·have t1 : (3 : Int) ≤ (q : Int) - (k : Int) := by omega
         have t2 : IntKind.i64.wrap ((q : Int) - (k : Int)) = (q : Int) - (k : Int) := by rw [IntKind.wrap_i64]; omega
         have hck2 := cellL HRz.out Hb.out
         have hcy2 := cellL (k := j) HRz.out (by rw [← Hj.out]; exact Hy.out)
         have lgl := World.block_lt_of_cell? wz _ hck2
         go_wp2_with fail
         have hS : wz.drew.cell? ⟨gl, k, none⟩ = some (.int .u8 b) ∧ wz.drew.cell? ⟨gl, j, none⟩ = some (.int .u8 y) := ⟨hck2, hcy2⟩
         have hS2 : ∀ ob, (wz.alloc ob).drew.cell? ⟨gl, k, none⟩ = some (.int .u8 b) ∧ (wz.alloc ob).drew.cell? ⟨gl, j, none⟩ = some (.int .u8 y) := fun ob => ⟨(World.cell?_of_block (a := ⟨gl, k, none⟩) (Below.heap_alloc wz ob gl lgl)).trans hck2, (World.cell?_of_block (a := ⟨gl, j, none⟩) (Below.heap_alloc wz ob gl lgl)).trans hcy2⟩
         have hS3 : ∀ ob w2, (wz.alloc ob).drew.grownBy w2 (some gt) → w2.cell? ⟨gl, k, none⟩ = some (.int .u8 b) ∧ w2.cell? ⟨gl, j, none⟩ = some (.int .u8 y) := fun ob w2 h => ⟨((brows.xns h).cell_far ⟨gl, k, none⟩ lgl hne2).trans hck2, ((brows.xns h).cell_far ⟨gl, j, none⟩ lgl hne2).trans hcy2⟩
         go_region_held3 (fun W' => W'.cell? ⟨gl, k, none⟩ = some (.int .u8 b) ∧ W'.cell? ⟨gl, j, none⟩ = some (.int .u8 y)) (first | with_reducible exact hS | with_reducible exact hS2 _ | with_reducible exact hS3 _ _ (by assumption)) ((refine step_append_lies _ (by rfl) _ _ _ (by rfl) w.heap.size 5 i0 (.int .u8 0) 1 1 Tryz.underlying43 hi hz0 hz1 hz2 rfl (by omega) _ _ _ (by rfl) ((e2.alloc _).drew) ⟨wz.heap.size, 0, none⟩ 3 3 [.int .u8 b, .int .u8 45, .int .u8 y] (by rfl) (by rfl) (World.news_of_block (cs := #[.int .u8 b, .int .u8 45, .int .u8 y]) (t := 5) (fr := (0, 0)) (heap_alloc_new wz _)) (by simp [Value.oneCell']) (by omega) (by unfold maxLen; omega) (by omega) (by simp; omega) (wz.heap.size + 1) (by simp) ?_; intro gt2 ct2 w2 hown1 hgrow hat hlt3; have hgr2 : (wz.alloc (.cells #[.int .u8 b, .int .u8 45, .int .u8 y] 5)).drew.grownBy w2 (some gt) := hgrow))
         clear hS hS2 hS3
         have hgr3 : (wz.alloc (.cells #[.int .u8 b, .int .u8 45, .int .u8 y] 5)).grownBy w2 (some gt) := ⟨hgr2.os, hgr2.tape, hgr2.output, hgr2.size, hgr2.block⟩
         have hat2 : (Value.slice (some ⟨gt2, 0, none⟩) (m + 3) ct2).ownBlock = (Value.slice (some ⟨gt, 0, none⟩) m ct).ownBlock ∨ (Value.slice (some ⟨gt2, 0, none⟩) (m + 3) ct2).ownBlock = some (wz.alloc (.cells #[.int .u8 b, .int .u8 45, .int .u8 y] 5)).heap.size := by
          rcases hat with h | h
          ·exact .inl h.symm
          ·refine .inr ?_
           rw [World.size_alloc, ← h]; rfl
         have HR2 := brows.hide2 (rows_app (l := [b, 45, y]) HTm.out HRz.out hown1 rfl hgr3 hat2)
         have hb2 := below_grown hgr3 hbase hszz
         clear hown1 hgrow hgr2 hgr3 hat hat2 hlt3
         go_wp2
         refine ⟨⟨q, gt2, ct2, m + 3, T ++ [b, 45, y], by omega, rfl, rfl, by rw [List.length_append, HTm.out]; rfl, by omega, by omega, brows.hide2 ?_, HBd, HR2, hBz.trans hb2⟩, by simp [intOf]; omega⟩
         rw [HFl.out, if_neg h3, HT.out]
      ·rw [hs2] at hq
       have HE : Hid (∀ b, L[q]? = some b → xfa b = true ∨ ∀ a, L[q - 1]? = some a → ¬ a + 1 = b) := brows.hide2 (fun b' hb' => by rw [Hc.out] at hb'; cases hb'; exact .inl hs2)
       go_wp2_with fail
       go_quiet ((go_at_call 62; exact Calls.quiet_of_same (hq _)))
       have HRz : Hid (brows.Rows (wr.drewN nq) w.heap.size [(.slice (some ⟨gt, 0, none⟩) m ct, T), (.slice (some ⟨gl, 0, none⟩) n cl, L)]) := HR
       have hBz : Below w.heap.size w (wr.drewN nq) := hBq.trans ⟨rfl, rfl, rfl, Nat.le_refl _, fun _ _ => rfl⟩
       clear HR hBq
       generalize wr.drewN nq = wz at *
       have HFl := brows.hide2 (run_flush L k q b y HB.out HRun.out Hb.out Hy.out)
       have HBd := brows.hide2 (run_bd L k q HB.out HRun.out HE.out)
       have e2 := HRz.out.head
       rw [HTm.out] at e2
       have hszz := hBz.size
       have hlr := HRz.out.1 (.slice (some ⟨gl, 0, none⟩) n cl, L) (by simp)
       have hcl : n ≤ cl := by
        rcases hlr.2 with ⟨h', _⟩ | ⟨g', cap', cur, h', _, _, hn', _⟩
        ·simp at h'
        ·simp only [Value.slice.injEq] at h'
         obtain ⟨-, h2, h3⟩ := h'
         have := HN.out
         simp only [] at hn'
         omega
       have hne2 : some gl ≠ (Value.slice (some ⟨gt, 0, none⟩) m ct).ownBlock := brows.xqi HRz.out
       by_cases h3 : q - k < 3
       ·have t1 : ¬ (3 : Int) ≤ (q : Int) - (k : Int) := by omega
        have t2 : IntKind.i64.wrap ((q : Int) - (k : Int)) = (q : Int) - (k : Int) := by rw [IntKind.wrap_i64]; omega
        have t3 : (k : Int) ≤ (q : Int) := by omega
        have t4 : (q : Int) ≤ (cl : Int) := by omega
        have t5 : ¬ cl = k := by omega
        have t6 : (0 : Int) ≤ (q : Int) := by omega
        have HNEW : Hid (∀ (j : Nat) u, (xam ((L.drop k).take (q - k)))[j]? = some u → wz.cell? ((⟨gl, k, none⟩ : Addr).add j) = some u) := brows.hide2 (fun j u hu => by
         simp only [xam, List.getElem?_map] at hu
         cases hx : ((L.drop k).take (q - k))[j]? with
         | none => rw [hx] at hu; cases hu
         | some x =>
          rw [hx] at hu
          have hlt2 : j < q - k := by
           by_cases h : j < q - k
           ·exact h
           ·rw [List.getElem?_take, if_neg h] at hx; cases hx
          rw [List.getElem?_take, if_pos hlt2, List.getElem?_drop] at hx
          have := cellL HRz.out hx
          have hadd : (⟨gl, k, none⟩ : Addr).add j = ⟨gl, k + j, none⟩ := by unfold Addr.add; split <;> simp_all
          rw [hadd, this]
          simpa using hu)
        go_wp2_with (at_builtin; refine wpList_append_own_at _ rfl _ _ 43 rfl w.heap.size 5 i0 (.int .u8 0) 1 1 Tryz.underlying43 hi hz0 hz1 hz2 rfl (by decide) _ _ _ rfl e2 ⟨gl, k, none⟩ (q - k) (cl - k) (xam ((L.drop k).take (q - k))) rfl (by simp [xam, HN.out]; omega) HNEW.out (by intro u hu; simp only [xam, List.mem_map] at hu; obtain ⟨z, -, rfl⟩ := hu; rfl) (by unfold maxLen; omega) (by omega) hszz ?_; intro vo w2 hown hg _ hat; obtain ⟨gt2, ct2, rfl⟩ : ∃ g c, vo = .slice (some ⟨g, 0, none⟩) (m + (q - k)) c := (by obtain ⟨z, hz⟩ : ∃ z, m + (q - k) = z + 1 := ⟨m + (q - k) - 1, by omega⟩; rw [hz] at hown ⊢; exact ownsRow_succ hown); have hg2 : wz.grownBy w2 (some gt) := hg; have HR2 := brows.hide2 (rows_app0 (l := (L.drop k).take (q - k)) HTm.out HRz.out hown (by simp [HN.out]; omega) hg2 hat); have hb2 := below_grown0 hg2 hbase hszz; clear hown hg hg2 hat)
        refine ⟨⟨q, gt2, ct2, m + (q - k), T ++ (L.drop k).take (q - k), by omega, rfl, rfl, by rw [List.length_append, HTm.out]; simp [HN.out]; omega, by omega, by omega, brows.hide2 ?_, HBd, HR2, hBz.trans hb2⟩, by simp [intOf]; omega⟩
        rw [HFl.out, if_pos h3, HT.out]
       ·have t1 : (3 : Int) ≤ (q : Int) - (k : Int) := by omega
        have t2 : IntKind.i64.wrap ((q : Int) - (k : Int)) = (q : Int) - (k : Int) := by rw [IntKind.wrap_i64]; omega
        have hck2 := cellL HRz.out Hb.out
        have hcy2 := cellL (k := j) HRz.out (by rw [← Hj.out]; exact Hy.out)
        have lgl := World.block_lt_of_cell? wz _ hck2
        go_wp2_with fail
        have hS : wz.drew.cell? ⟨gl, k, none⟩ = some (.int .u8 b) ∧ wz.drew.cell? ⟨gl, j, none⟩ = some (.int .u8 y) := ⟨hck2, hcy2⟩
        have hS2 : ∀ ob, (wz.alloc ob).drew.cell? ⟨gl, k, none⟩ = some (.int .u8 b) ∧ (wz.alloc ob).drew.cell? ⟨gl, j, none⟩ = some (.int .u8 y) := fun ob => ⟨(World.cell?_of_block (a := ⟨gl, k, none⟩) (Below.heap_alloc wz ob gl lgl)).trans hck2, (World.cell?_of_block (a := ⟨gl, j, none⟩) (Below.heap_alloc wz ob gl lgl)).trans hcy2⟩
        have hS3 : ∀ ob w2, (wz.alloc ob).drew.grownBy w2 (some gt) → w2.cell? ⟨gl, k, none⟩ = some (.int .u8 b) ∧ w2.cell? ⟨gl, j, none⟩ = some (.int .u8 y) := fun ob w2 h => ⟨((brows.xns h).cell_far ⟨gl, k, none⟩ lgl hne2).trans hck2, ((brows.xns h).cell_far ⟨gl, j, none⟩ lgl hne2).trans hcy2⟩
        go_region_held3 (fun W' => W'.cell? ⟨gl, k, none⟩ = some (.int .u8 b) ∧ W'.cell? ⟨gl, j, none⟩ = some (.int .u8 y)) (first | with_reducible exact hS | with_reducible exact hS2 _ | with_reducible exact hS3 _ _ (by assumption)) ((refine step_append_lies _ (by rfl) _ _ _ (by rfl) w.heap.size 5 i0 (.int .u8 0) 1 1 Tryz.underlying43 hi hz0 hz1 hz2 rfl (by omega) _ _ _ (by rfl) ((e2.alloc _).drew) ⟨wz.heap.size, 0, none⟩ 3 3 [.int .u8 b, .int .u8 45, .int .u8 y] (by rfl) (by rfl) (World.news_of_block (cs := #[.int .u8 b, .int .u8 45, .int .u8 y]) (t := 5) (fr := (0, 0)) (heap_alloc_new wz _)) (by simp [Value.oneCell']) (by omega) (by unfold maxLen; omega) (by omega) (by simp; omega) (wz.heap.size + 1) (by simp) ?_; intro gt2 ct2 w2 hown1 hgrow hat hlt3; have hgr2 : (wz.alloc (.cells #[.int .u8 b, .int .u8 45, .int .u8 y] 5)).drew.grownBy w2 (some gt) := hgrow))
        clear hS hS2 hS3
        have hgr3 : (wz.alloc (.cells #[.int .u8 b, .int .u8 45, .int .u8 y] 5)).grownBy w2 (some gt) := ⟨hgr2.os, hgr2.tape, hgr2.output, hgr2.size, hgr2.block⟩
        have hat2 : (Value.slice (some ⟨gt2, 0, none⟩) (m + 3) ct2).ownBlock = (Value.slice (some ⟨gt, 0, none⟩) m ct).ownBlock ∨ (Value.slice (some ⟨gt2, 0, none⟩) (m + 3) ct2).ownBlock = some (wz.alloc (.cells #[.int .u8 b, .int .u8 45, .int .u8 y] 5)).heap.size := by
         rcases hat with h | h
         ·exact .inl h.symm
         ·refine .inr ?_
          rw [World.size_alloc, ← h]; rfl
        have HR2 := brows.hide2 (rows_app (l := [b, 45, y]) HTm.out HRz.out hown1 rfl hgr3 hat2)
        have hb2 := below_grown hgr3 hbase hszz
        clear hown1 hgrow hgr2 hgr3 hat hat2 hlt3
        go_wp2
        refine ⟨⟨q, gt2, ct2, m + 3, T ++ [b, 45, y], by omega, rfl, rfl, by rw [List.length_append, HTm.out]; rfl, by omega, by omega, brows.hide2 ?_, HBd, HR2, hBz.trans hb2⟩, by simp [intOf]; omega⟩
        rw [HFl.out, if_neg h3, HT.out]
     ·have q9 : ¬ (q : Int) < (n : Int) := by omega
      have HE : Hid (∀ b, L[q]? = some b → xfa b = true ∨ ∀ a, L[q - 1]? = some a → ¬ a + 1 = b) := brows.hide2 (fun b' hb' => by have := (List.getElem?_eq_some_iff.1 hb').1; rw [HN.out] at this; exact absurd this hqlt)
      go_wp2_with fail
      go_quiet (fail)
      have HRz : Hid (brows.Rows (wr.drewN nq) w.heap.size [(.slice (some ⟨gt, 0, none⟩) m ct, T), (.slice (some ⟨gl, 0, none⟩) n cl, L)]) := HR
      have hBz : Below w.heap.size w (wr.drewN nq) := hBq.trans ⟨rfl, rfl, rfl, Nat.le_refl _, fun _ _ => rfl⟩
      clear HR hBq
      generalize wr.drewN nq = wz at *
      have HFl := brows.hide2 (run_flush L k q b y HB.out HRun.out Hb.out Hy.out)
      have HBd := brows.hide2 (run_bd L k q HB.out HRun.out HE.out)
      have e2 := HRz.out.head
      rw [HTm.out] at e2
      have hszz := hBz.size
      have hlr := HRz.out.1 (.slice (some ⟨gl, 0, none⟩) n cl, L) (by simp)
      have hcl : n ≤ cl := by
       rcases hlr.2 with ⟨h', _⟩ | ⟨g', cap', cur, h', _, _, hn', _⟩
       ·simp at h'
       ·simp only [Value.slice.injEq] at h'
        obtain ⟨-, h2, h3⟩ := h'
        have := HN.out
        simp only [] at hn'
        omega
      have hne2 : some gl ≠ (Value.slice (some ⟨gt, 0, none⟩) m ct).ownBlock := brows.xqi HRz.out
      by_cases h3 : q - k < 3
      ·have t1 : ¬ (3 : Int) ≤ (q : Int) - (k : Int) := by omega
       have t2 : IntKind.i64.wrap ((q : Int) - (k : Int)) = (q : Int) - (k : Int) := by rw [IntKind.wrap_i64]; omega
       have t3 : (k : Int) ≤ (q : Int) := by omega
       have t4 : (q : Int) ≤ (cl : Int) := by omega
       have t5 : ¬ cl = k := by omega
       have t6 : (0 : Int) ≤ (q : Int) := by omega
       have HNEW : Hid (∀ (j : Nat) u, (xam ((L.drop k).take (q - k)))[j]? = some u → wz.cell? ((⟨gl, k, none⟩ : Addr).add j) = some u) := brows.hide2 (fun j u hu => by
        simp only [xam, List.getElem?_map] at hu
        cases hx : ((L.drop k).take (q - k))[j]? with
        | none => rw [hx] at hu; cases hu
        | some x =>
         rw [hx] at hu
         have hlt2 : j < q - k := by
          by_cases h : j < q - k
          ·exact h
          ·rw [List.getElem?_take, if_neg h] at hx; cases hx
         rw [List.getElem?_take, if_pos hlt2, List.getElem?_drop] at hx
         have := cellL HRz.out hx
         have hadd : (⟨gl, k, none⟩ : Addr).add j = ⟨gl, k + j, none⟩ := by unfold Addr.add; split <;> simp_all
         rw [hadd, this]
         simpa using hu)
       go_wp2_with (at_builtin; refine wpList_append_own_at _ rfl _ _ 43 rfl w.heap.size 5 i0 (.int .u8 0) 1 1 Tryz.underlying43 hi hz0 hz1 hz2 rfl (by decide) _ _ _ rfl e2 ⟨gl, k, none⟩ (q - k) (cl - k) (xam ((L.drop k).take (q - k))) rfl (by simp [xam, HN.out]; omega) HNEW.out (by intro u hu; simp only [xam, List.mem_map] at hu; obtain ⟨z, -, rfl⟩ := hu; rfl) (by unfold maxLen; omega) (by omega) hszz ?_; intro vo w2 hown hg _ hat; obtain ⟨gt2, ct2, rfl⟩ : ∃ g c, vo = .slice (some ⟨g, 0, none⟩) (m + (q - k)) c := (by obtain ⟨z, hz⟩ : ∃ z, m + (q - k) = z + 1 := ⟨m + (q - k) - 1, by omega⟩; rw [hz] at hown ⊢; exact ownsRow_succ hown); have hg2 : wz.grownBy w2 (some gt) := hg; have HR2 := brows.hide2 (rows_app0 (l := (L.drop k).take (q - k)) HTm.out HRz.out hown (by simp [HN.out]; omega) hg2 hat); have hb2 := below_grown0 hg2 hbase hszz; clear hown hg hg2 hat)
       refine ⟨⟨q, gt2, ct2, m + (q - k), T ++ (L.drop k).take (q - k), by omega, rfl, rfl, by rw [List.length_append, HTm.out]; simp [HN.out]; omega, by omega, by omega, brows.hide2 ?_, HBd, HR2, hBz.trans hb2⟩, by simp [intOf]; omega⟩
       rw [HFl.out, if_pos h3, HT.out]
      ·have t1 : (3 : Int) ≤ (q : Int) - (k : Int) := by omega
       have t2 : IntKind.i64.wrap ((q : Int) - (k : Int)) = (q : Int) - (k : Int) := by rw [IntKind.wrap_i64]; omega
       have hck2 := cellL HRz.out Hb.out
       have hcy2 := cellL (k := j) HRz.out (by rw [← Hj.out]; exact Hy.out)
       have lgl := World.block_lt_of_cell? wz _ hck2
       go_wp2_with fail
       have hS : wz.drew.cell? ⟨gl, k, none⟩ = some (.int .u8 b) ∧ wz.drew.cell? ⟨gl, j, none⟩ = some (.int .u8 y) := ⟨hck2, hcy2⟩
       have hS2 : ∀ ob, (wz.alloc ob).drew.cell? ⟨gl, k, none⟩ = some (.int .u8 b) ∧ (wz.alloc ob).drew.cell? ⟨gl, j, none⟩ = some (.int .u8 y) := fun ob => ⟨(World.cell?_of_block (a := ⟨gl, k, none⟩) (Below.heap_alloc wz ob gl lgl)).trans hck2, (World.cell?_of_block (a := ⟨gl, j, none⟩) (Below.heap_alloc wz ob gl lgl)).trans hcy2⟩
       have hS3 : ∀ ob w2, (wz.alloc ob).drew.grownBy w2 (some gt) → w2.cell? ⟨gl, k, none⟩ = some (.int .u8 b) ∧ w2.cell? ⟨gl, j, none⟩ = some (.int .u8 y) := fun ob w2 h => ⟨((brows.xns h).cell_far ⟨gl, k, none⟩ lgl hne2).trans hck2, ((brows.xns h).cell_far ⟨gl, j, none⟩ lgl hne2).trans hcy2⟩
       go_region_held3 (fun W' => W'.cell? ⟨gl, k, none⟩ = some (.int .u8 b) ∧ W'.cell? ⟨gl, j, none⟩ = some (.int .u8 y)) (first | with_reducible exact hS | with_reducible exact hS2 _ | with_reducible exact hS3 _ _ (by assumption)) ((refine step_append_lies _ (by rfl) _ _ _ (by rfl) w.heap.size 5 i0 (.int .u8 0) 1 1 Tryz.underlying43 hi hz0 hz1 hz2 rfl (by omega) _ _ _ (by rfl) ((e2.alloc _).drew) ⟨wz.heap.size, 0, none⟩ 3 3 [.int .u8 b, .int .u8 45, .int .u8 y] (by rfl) (by rfl) (World.news_of_block (cs := #[.int .u8 b, .int .u8 45, .int .u8 y]) (t := 5) (fr := (0, 0)) (heap_alloc_new wz _)) (by simp [Value.oneCell']) (by omega) (by unfold maxLen; omega) (by omega) (by simp; omega) (wz.heap.size + 1) (by simp) ?_; intro gt2 ct2 w2 hown1 hgrow hat hlt3; have hgr2 : (wz.alloc (.cells #[.int .u8 b, .int .u8 45, .int .u8 y] 5)).drew.grownBy w2 (some gt) := hgrow))
       clear hS hS2 hS3
       have hgr3 : (wz.alloc (.cells #[.int .u8 b, .int .u8 45, .int .u8 y] 5)).grownBy w2 (some gt) := ⟨hgr2.os, hgr2.tape, hgr2.output, hgr2.size, hgr2.block⟩
       have hat2 : (Value.slice (some ⟨gt2, 0, none⟩) (m + 3) ct2).ownBlock = (Value.slice (some ⟨gt, 0, none⟩) m ct).ownBlock ∨ (Value.slice (some ⟨gt2, 0, none⟩) (m + 3) ct2).ownBlock = some (wz.alloc (.cells #[.int .u8 b, .int .u8 45, .int .u8 y] 5)).heap.size := by
        rcases hat with h | h
        ·exact .inl h.symm
        ·refine .inr ?_
         rw [World.size_alloc, ← h]; rfl
       have HR2 := brows.hide2 (rows_app (l := [b, 45, y]) HTm.out HRz.out hown1 rfl hgr3 hat2)
       have hb2 := below_grown hgr3 hbase hszz
       clear hown1 hgrow hgr2 hgr3 hat hat2 hlt3
       go_wp2
       refine ⟨⟨q, gt2, ct2, m + 3, T ++ [b, 45, y], by omega, rfl, rfl, by rw [List.length_append, HTm.out]; rfl, by omega, by omega, brows.hide2 ?_, HBd, HR2, hBz.trans hb2⟩, by simp [intOf]; omega⟩
       rw [HFl.out, if_neg h3, HT.out]
   ·rw [hs] at hspc
    have hbd := bd_special L k b Hb.out hs
    go_wp2_with (first | (go_at_call 62; refine hspc.mono ?_; rintro e w' ⟨rfl, rfl⟩) | (at_builtin; refine wpList_append_own_at _ rfl _ _ 43 rfl w.heap.size 5 i0 (.int .u8 0) 1 1 Tryz.underlying43 hi hz0 hz1 hz2 rfl (by decide) _ _ _ rfl (e1.alloc _) ⟨w'.heap.size, 0, none⟩ 5 5 [.int .u8 91, .int .u8 46, .int .u8 b, .int .u8 46, .int .u8 93] rfl rfl (World.news_of_block (cs := #[.int .u8 91, .int .u8 46, .int .u8 b, .int .u8 46, .int .u8 93]) (t := 5) (fr := (0, 0)) (heap_alloc_new w' _)) (by simp [Value.oneCell']) (by unfold maxLen; omega) (by omega) (by simp; omega) ?_; intro vo w2 hown hg _ hat; obtain ⟨gt2, ct2, rfl⟩ : ∃ g c, vo = .slice (some ⟨g, 0, none⟩) (m + 5) c := ownsRow_succ hown; have HR2 := brows.hide2 (rows_app (l := [91, 46, b, 46, 93]) HTm.out HR.out hown rfl hg hat); have hb2 := below_grown hg hbase hsz; clear hown hg hat))
    refine ⟨⟨k + 1, gt2, ct2, m + 5, T ++ [91, 46, b, 46, 93], by omega, by go_num, rfl, by rw [List.length_append, HTm.out]; rfl, by omega, by omega, brows.hide2 ?_, brows.hide2 hbd.2, HR2, hB.trans hb2⟩, by simp [intOf]; omega⟩
    rw [hbd.1, flush_nil, HT.out]
  ·obtain rfl : k = n := by omega
   have e1 := HR.out.head
   rw [HTm.out] at e1
   have hsz := hB.size
   have hbase := (brows.row_base e1).1
   go_wp2_with (at_builtin; refine wpList_append_own_at _ rfl _ _ 43 rfl w.heap.size 5 i0 (.int .u8 0) 1 1 Tryz.underlying43 hi hz0 hz1 hz2 rfl (by decide) _ _ _ rfl (e1.alloc _) ⟨wr.heap.size, 0, none⟩ 1 1 [.int .u8 93] rfl rfl (World.news_of_block (cs := #[.int .u8 93]) (t := 5) (fr := (0, 0)) (heap_alloc_new wr _)) (by simp [Value.oneCell']) (by unfold maxLen; omega) (by omega) (by simp; omega) ?_; intro vo w2 hown hg _ hat; have hconv := xf4 (W := w2) (v := vo) (l := T ++ [93]) (by rw [List.length_append, xfr, HTm.out]; exact hown); have hb2 := below_grown hg hbase hsz)
   go_ret
   refine ⟨?_, hB.trans hb2⟩
   rw [HL.out, HT.out, List.take_of_length_le (by rw [HN.out]; exact Nat.le_refl _)]; rfl
open Go.RowKit
theorem refText_none (p : Nat → Bool) (hp : eqB p xad = true) (w : World) :
  Calls Tryz.prog 39 #[.agg #[.int .u64 (wd p 0), .int .u64 (wd p 1), .int .u64 (wd p 2), .int .u64 (wd p 3)]] w fun e w' => e = .returned (.string (bstr [91, 94, 0, 45, 255, 93])) ∧ Below w.heap.size w w' := by
 have hne := mem_none hp
 go_enter Tryz.func39, Tryz.ntmps39
 go_wp2_with fail
 refine (xie p _).mono ?_
 rintro e w1 ⟨lv, rfl, hrow, hb1⟩
 have hcard : card p = 0 := by have := hrow.1; simp [xam, hne] at this; omega
 rw [hcard] at hrow
 have hbw : Below w.heap.size w w1 := ((Below.refl _ w).alloc (Nat.le_refl _) _).trans (hb1.mono (by simp))
 have hown : (w1.alloc (.cells #[.int .u8 91, .int .u8 94, .int .u8 0, .int .u8 45, .int .u8 255, .int .u8 93] 5)).ownsRow w1.heap.size 5 1 (.slice (some ⟨w1.heap.size, 0, none⟩) 6 6) ([91, 94, 0, 45, 255, 93] : List Nat).length (xam [91, 94, 0, 45, 255, 93]) :=
  ⟨rfl, .inr ⟨w1.heap.size, 6, _, rfl, Nat.le_refl _, World.alloc_heap_new w1 _, Nat.le_refl _, by unfold maxLen; omega, rfl, rfl⟩⟩
 have hconv := xf4 hown
 clear hown
 rcases hrow.2 with ⟨rfl, -⟩ | ⟨g, cap, cur, rfl, -⟩
 ·go_wp2
  go_ret
  exact ⟨rfl, hbw.alloc hbw.size _⟩
 ·go_wp2
  go_ret
  exact ⟨rfl, hbw.alloc hbw.size _⟩
theorem refText_any (p : Nat → Bool) (w : World) :
  Calls Tryz.prog 39 #[.agg #[.int .u64 (wd p 0), .int .u64 (wd p 1), .int .u64 (wd p 2), .int .u64 (wd p 3)]] w fun e w' => e = .returned (.string (bstr (xde (mem p 256)))) ∧ Below w.heap.size w w' := by
 cases hp : eqB p xad
 ·rw [xde, if_neg (mem_some hp)]
  exact refText_some p hp w
 ·rw [xde, if_pos (mem_none hp)]
  exact refText_none p hp w
end Go.Proofs.YtaapmphdnholaaaGreatDoor
