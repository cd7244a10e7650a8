/- reach: ends. -/
import Derived.Test.YtiedliahmjiadaaKGf
import Derived.Test.YtiedliahmjiadaaKIe
import Derived.Test.YtiedliahmjiadaaKId
import Derived.Test.YtiedliahmjiadaaKIo
import Derived.Test.YtiedliahmjiadaaKIs
set_option maxRecDepth 100000
set_option maxHeartbeats 4000000
namespace Go.Proofs.Ytiedliahmjiadaa
open Go.RowKit Go.Shelf
def sbN (s : ByteArray) (i : Nat) : Nat := (s.data.toList.getD i 0).toNat
theorem sb_at (s : ByteArray) (i : Nat) (h : i < s.size) : sbN s i = (s[i]'h).toNat := by
 unfold sbN
 rw [List.getD_eq_getElem?_getD, List.getElem?_eq_getElem (show i < s.data.toList.length from h)]
 rfl
theorem kd_lt (n i : Nat) : kdG n i < 4 := by unfold kdG; split <;> split <;> omega
theorem web_range {W : World} {B b : Nat} {ps : List PosB} {a : PaB} (h : WebAt W B b ps (paV a)) (k : Nat) (hk : k < 4) : W.rangeAt b (1 + k * 9) (bdV (a k)) := fun j v hv => web_border h k hk j v hv
theorem web_last {W : World} {B b : Nat} {ps : List PosB} {a : PaB} (h : WebAt W B b ps (paV a)) (k : Nat) (hk : k < 4) : W.rangeAt b (1 + k * 9 + 5) [.int .u64 (wd (a k).ls 0 : Nat), .int .u64 (wd (a k).ls 1 : Nat), .int .u64 (wd (a k).ls 2 : Nat), .int .u64 (wd (a k).ls 3 : Nat)] := fun j v hv => by
 have := web_border h k hk (5 + j) v (by
  have e : (bdV (a k))[5 + j]? = ([.int .u64 (wd (a k).ls 0 : Nat), .int .u64 (wd (a k).ls 1 : Nat), .int .u64 (wd (a k).ls 2 : Nat), .int .u64 (wd (a k).ls 3 : Nat)] : List Value)[j]? := by
   unfold bdV
   match j with
   | 0 => rfl
   | 1 => rfl
   | 2 => rfl
   | 3 => rfl
   | n + 4 => rw [List.getElem?_eq_none (by simp; omega), List.getElem?_eq_none (by simp)]
  rw [e]; exact hv)
 rw [Nat.add_assoc]
 rw [Nat.add_assoc] at this
 rw [Nat.add_assoc]
 exact this
theorem und_set : ∃ d, Try.prog.underlying 45 = some d ∧ d.isRow = true := ⟨_, Try.underlying45, rfl⟩
theorem info_set : (Try.prog.info? 45).map (·.size) = some 4 := by kernel_rfl
theorem info_int : (Try.prog.info? 3).map (fun i => (i.zero, i.size, i.bytes)) = some (some (.int .i64 0), 1, 8) := by kernel_rfl
theorem und_ints : Try.prog.underlying 31 = some (.slice 3) := by kernel_rfl
theorem new_cells (W : World) (cs : List Value) (t : TypeId) (j : Nat) (u : Value) (h : cs[j]? = some u) : (W.alloc (.cells cs.toArray t)).cell? ((⟨W.heap.size, 0, none⟩ : Addr).add j) = some u := by
 have hplain : (⟨W.heap.size, 0, none⟩ : Addr).add j = ⟨W.heap.size, 0 + j, none⟩ := by unfold Addr.add; split <;> simp_all
 rw [hplain, World.cell?, heap_alloc_new W (.cells cs.toArray t)]
 simpa using h
theorem wrap_small (x : Int) (h1 : -9223372036854775808 ≤ x) (h2 : x ≤ 9223372036854775807) : IntKind.i64.wrap x = x := by
 rw [IntKind.wrap_i64]
 omega
def inL (l : List Nat) : List Value := l.map fun (n : Nat) => .int .i64 (n : Int)
theorem inL_app (l : List Nat) (n : Nat) : inL (l ++ [n]) = inL l ++ [.int .i64 (n : Int)] := by simp [inL]
theorem inL_len (l : List Nat) : (inL l).length = l.length := by simp [inL]
structure EnR (w wr : World) (Q : Nat) (fv : Value) (l : List Nat) (wt : Nat → Bool) : Prop where
 own : wr.ownsRow w.heap.size 3 1 fv l.length (inL l)
 bel : Below w.heap.size w wr
 set : Set4 wr Q wt
 ne : fv.ownBlock ≠ some Q
 base : w.heap.size ≤ Q
theorem EnR.step {w W W' : World} {Q : Nat} {fv : Value} {l : List Nat} {wt : Nat → Bool} (h : EnR w W Q fv l wt) (hb : Below W.heap.size W W') : EnR w W' Q fv l wt :=
 ⟨owns_below h.own hb, h.bel.trans (hb.mono h.bel.size), h.set.below hb h.set.lt, h.ne, h.base⟩
theorem EnR.put {w W : World} {Q : Nat} {fv : Value} {l : List Nat} {wt : Nat → Bool} (h : EnR w W Q fv l wt) (q : Nat → Bool) : EnR w (W.setCells Q 0 [.int .u64 (wd q 0 : Nat), .int .u64 (wd q 1 : Nat), .int .u64 (wd q 2 : Nat), .int .u64 (wd q 3 : Nat)]) Q fv l q :=
 ⟨owns_keep h.own (fun g hg => setCells_far W _ (fun e => h.ne (by rw [hg, e])) _ _), below_setCells _ h.base _ _ _ h.bel, setCells_whole _ (cs := [.int .u64 (wd wt 0 : Nat), .int .u64 (wd wt 1 : Nat), .int .u64 (wd wt 2 : Nat), .int .u64 (wd wt 3 : Nat)]) h.set rfl, h.ne, h.base⟩
theorem EnR.app {w W W2 : World} {Q n g gc : Nat} {fv : Value} {l : List Nat} {wt : Nat → Bool} {o : Obj} (h : EnR w W Q fv l wt) (hgr : (W.alloc o).grownBy W2 fv.ownBlock) (hown : W2.ownsRow w.heap.size 3 1 (.slice (some ⟨g, 0, none⟩) (l.length + 1) gc) (l.length + 1) (inL l ++ [.int .i64 (n : Int)])) (hat : fv.ownBlock = some g ∨ g = (W.alloc o).heap.size) : EnR w W2 Q (.slice (some ⟨g, 0, none⟩) (l.length + 1) gc) (l ++ [n]) wt := by
 have hA := (Below.refl W.heap.size W).alloc (Nat.le_refl _) o
 have h1 := h.step hA
 refine ⟨?_, h1.bel.grown hgr h1.bel.size (fun k hk => (h1.own.lt k hk).1), (hgr.block _ h1.set.lt (fun e => h1.ne e.symm)).trans h1.set, ne_own (fun e => ?_), h.base⟩
 ·rw [inL_app, List.length_append]
  exact hown
 ·rcases hat with hat | hat
  ·exact h.ne (by rw [hat, e])
  ·have := h1.set.lt
   omega
theorem en_len (n : Nat) (sb : Nat → Nat) (a : PaB) (ps : List PosB) : ∀ (k i : Nat) (wt : Nat → Bool), (enB n sb a ps k i wt).length ≤ k
 | 0, _, _ => Nat.le_refl _
 | k + 1, i, wt => by
  have h := en_len n sb a ps k (i + 1) (bhB ps (tkB ps wt (sb i)))
  unfold enB
  rw [List.length_append]
  split <;> simp <;> omega
theorem ends_len (n : Nat) (sb : Nat → Nat) (a : PaB) (ps : List PosB) (at_ : Nat) (hn : n ≤ 1024) : (endsB n sb a ps at_).length ≤ 1025 := by
 have h := en_len n sb a ps (n - at_) at_ (a (kdG n at_)).fs
 unfold endsB
 rw [List.length_append]
 split <;> simp <;> omega
theorem ends_any {B b : Nat} {ps : List PosB} {a : PaB} (s : ByteArray) (at_ : Nat) (ha : at_ ≤ s.size) (hs : s.size ≤ 1024) (w : World) (hw : WebAt w B b ps (paV a)) (hI : InB a ps.length) (hN : NxB ps ps.length) :
  Calls Try.prog 16 #[.pointer (some ⟨b, 0, none⟩), .string s, .int .i64 (at_ : Nat)] w fun e w' => ∃ v, e = .returned v ∧ w'.ownsRow w.heap.size 3 1 v (endsB s.size (sbN s) a ps at_).length (inL (endsB s.size (sbN s) a ps at_)) ∧ Below w.heap.size w w' := by
 obtain ⟨ud, hud, hur⟩ := und_border
 obtain ⟨uS, huS, huR⟩ := und_set
 obtain ⟨i0, hi0, hz0, hz1, hz2⟩ := info_parts info_int
 obtain ⟨RR, hRR⟩ : ∃ R, R = endsB s.size (sbN s) a ps at_ := ⟨_, rfl⟩
 rw [← hRR]
 have HRR := hideT (show RR.length ≤ 1025 by rw [hRR]; exact ends_len _ _ _ _ _ hs)
 have HRX := hideT hRR
 clear hRR
 have HK := hideT (fun i w => kindOf_any s i w)
 have HW := hideT hw
 have HI := hideT hI
 have HN := hideT hN
 have hk4 := kd_lt s.size at_
 have k1 : (0 : Int) ≤ (kdG s.size at_ : Nat) := by omega
 have k2 : ((kdG s.size at_ : Nat) : Int) < 4 := by omega
 have hS0 : Below w.heap.size w w.drew := (Below.refl _ _).drew
 have hA1 : Below w.heap.size w (w.drew.alloc (.cells #[.bool false, .int .u64 0, .int .u64 0, .int .u64 0, .int .u64 0, .int .u64 0, .int .u64 0, .int .u64 0, .int .u64 0] 78)) := hS0.alloc (Nat.le_refl _) _
 have zb : (w.drew.alloc (.cells #[.bool false, .int .u64 0, .int .u64 0, .int .u64 0, .int .u64 0, .int .u64 0, .int .u64 0, .int .u64 0, .int .u64 0] 78)).heap[w.heap.size]? = some (.cells z9.toArray 78 (0, 0)) := World.alloc_heap_new w.drew _
 clear hw hI hN
 go_enter Try.func16, Try.ntmps16
 go_wp2_with fail
 rename_i K2 hK2
 have key : K2 ⟨#[.pointer (some ⟨b, 0, none⟩), .string s, .int .i64 (at_ : Nat), undef, undef, undef, .slice none 0 0, .slice none 0 0, .pointer (some ⟨w.heap.size, 0, none⟩), undef, undef, undef, .pointer (some ⟨b, 0, none⟩), .int .i64 (at_ : Nat), .string s, .int .i64 (kdG s.size at_ : Nat), .pointer (some ⟨b, 0, none⟩), .pointer (some ⟨b, 1, none⟩), .pointer (some ⟨b, 1 + kdG s.size at_ * 9, none⟩), .agg (bdV (a (kdG s.size at_))).toArray, undef, undef, undef, undef, undef, undef, undef, undef, undef, undef, undef, undef, undef, undef, undef, undef, undef, undef, undef, undef, undef, undef, undef, undef, undef, undef, undef, undef, undef, undef, undef, undef, undef, undef, undef, undef, undef, undef, undef, undef, undef, undef], []⟩ ((w.drew.alloc (.cells #[.bool false, .int .u64 0, .int .u64 0, .int .u64 0, .int .u64 0, .int .u64 0, .int .u64 0, .int .u64 0, .int .u64 0] 78)).setCells w.heap.size 0 (bdV (a (kdG s.size at_)))) := by
  refine hK2 _ _ ?_
  have xN := setCells_whole (bdV (a (kdG s.size at_))) zb rfl
  have xB := below_setCells w.heap.size (Nat.le_refl _) (bdV (a (kdG s.size at_))) _ 0 hA1
  clear hS0 hA1 zb hK2
  generalize (w.drew.alloc (.cells #[.bool false, .int .u64 0, .int .u64 0, .int .u64 0, .int .u64 0, .int .u64 0, .int .u64 0, .int .u64 0, .int .u64 0] 78)).setCells w.heap.size 0 (bdV (a (kdG s.size at_))) = X at *
  have hX1 : w.heap.size < X.heap.size := (Array.getElem?_eq_some_iff.1 xN).1
  have c0 : X.cell? ⟨w.heap.size, 0, none⟩ = some (.bool (a (kdG s.size at_)).no) := by simp [World.cell?, xN, bdV]
  have hRR := HRX.out
  cases hno : (a (kdG s.size at_)).no with
  | true =>
   have HE0 := hideT (show [at_] ++ enB s.size (sbN s) a ps (s.size - at_) at_ (a (kdG s.size at_)).fs = RR by rw [hRR]; unfold endsB; rw [hno]; rfl)
   rw [hno] at c0
   have HX := hideT (And.intro xN xB)
   clear xN xB hRR hno
   go_wp2_with (at_builtin; refine wpList_append_lies _ rfl _ _ 31 rfl w.heap.size 3 i0 _ 1 8 und_ints hi0 hz0 hz1 hz2 rfl (by omega) _ (([] : List Nat)).length (inL (([] : List Nat))) rfl (World.ownsRow_nil _ _ _ _) ⟨X.heap.size, 0, none⟩ 1 1 [.int .i64 (at_ : Nat)] rfl rfl (fun j u hj => new_cells X [.int .i64 (at_ : Nat)] 3 j u hj) (by simp [Value.oneCell']) (by omega) (by unfold maxLen; simp only [List.length_nil]; omega) (by simp only [List.length_nil]; omega) (by rw [World.size_alloc]; omega) _ rfl ?_)
   intro g gc W1 hown hgr hat _
   have n1 : W1.heap[w.heap.size]? = some (.cells (bdV (a (kdG s.size at_))).toArray 78 (0, 0)) := (hgr.block _ (by rw [World.size_alloc]; omega) (fun e => by cases e)).trans ((Below.heap_alloc _ _ _ hX1).trans HX.out.1)
   have b1 : Below w.heap.size w W1 := (HX.out.2.alloc HX.out.2.size _).grown hgr (by rw [World.size_alloc]; omega) (fun k hk => by cases hk)
   have c1 : W1.cell? ⟨w.heap.size, 1, none⟩ = some (.int .u64 (wd (a (kdG s.size at_)).fs 0 : Nat)) := by simp [World.cell?, n1, bdV]
   have c2 : W1.cell? ⟨w.heap.size, 2, none⟩ = some (.int .u64 (wd (a (kdG s.size at_)).fs 1 : Nat)) := by simp [World.cell?, n1, bdV]
   have c3 : W1.cell? ⟨w.heap.size, 3, none⟩ = some (.int .u64 (wd (a (kdG s.size at_)).fs 2 : Nat)) := by simp [World.cell?, n1, bdV]
   have c4 : W1.cell? ⟨w.heap.size, 4, none⟩ = some (.int .u64 (wd (a (kdG s.size at_)).fs 3 : Nat)) := by simp [World.cell?, n1, bdV]
   have RB := (Below.refl W1.heap.size W1).alloc (Nat.le_refl _) (.cells #[.int .u64 (wd (a (kdG s.size at_)).fs 0 : Nat), .int .u64 (wd (a (kdG s.size at_)).fs 1 : Nat), .int .u64 (wd (a (kdG s.size at_)).fs 2 : Nat), .int .u64 (wd (a (kdG s.size at_)).fs 3 : Nat)] 45)
   have HR0 := hideT (show EnR w (W1.alloc (.cells #[.int .u64 (wd (a (kdG s.size at_)).fs 0 : Nat), .int .u64 (wd (a (kdG s.size at_)).fs 1 : Nat), .int .u64 (wd (a (kdG s.size at_)).fs 2 : Nat), .int .u64 (wd (a (kdG s.size at_)).fs 3 : Nat)] 45)) W1.heap.size (.slice (some ⟨g, 0, none⟩) 1 gc) [at_] (a (kdG s.size at_)).fs from
    ⟨owns_below (show W1.ownsRow w.heap.size 3 1 (.slice (some ⟨g, 0, none⟩) 1 gc) 1 (inL [at_]) from hown) RB, b1.trans (RB.mono b1.size), Set4.new W1 _, ne_own (fun e => by
     obtain ⟨_, h2, _⟩ := owns_blk (show W1.ownsRow w.heap.size 3 1 (.slice (some ⟨g, 0, none⟩) 1 gc) 1 (inL [at_]) from hown) rfl
     omega), b1.size⟩)
   clear hown hgr hat n1 b1 RB c0 HX
   go_wp2_with fail
   clear c1 c2 c3 c4
   obtain ⟨Q, hQ⟩ : ∃ Q, Q = W1.heap.size := ⟨_, rfl⟩
   have HR1 := hideT (show EnR w (W1.alloc (.cells #[.int .u64 (wd (a (kdG s.size at_)).fs 0 : Nat), .int .u64 (wd (a (kdG s.size at_)).fs 1 : Nat), .int .u64 (wd (a (kdG s.size at_)).fs 2 : Nat), .int .u64 (wd (a (kdG s.size at_)).fs 3 : Nat)] 45)) Q (.slice (some ⟨g, 0, none⟩) 1 gc) [at_] (a (kdG s.size at_)).fs from by rw [hQ]; exact HR0.out)
   rw [← hQ]
   generalize W1.alloc (.cells #[.int .u64 (wd (a (kdG s.size at_)).fs 0 : Nat), .int .u64 (wd (a (kdG s.size at_)).fs 1 : Nat), .int .u64 (wd (a (kdG s.size at_)).fs 2 : Nat), .int .u64 (wd (a (kdG s.size at_)).fs 3 : Nat)] 45) = Y at *
   clear hQ
   go_loopw [7, 10] (fun fv v wr => ∃ (i : Nat) (l : List Nat) (wt : Nat → Bool), at_ ≤ i ∧ i ≤ s.size ∧ v = .int .i64 (i : Nat) ∧ EnR w wr Q fv l wt ∧ (∀ x, x < 256 → wt x = true → x < ps.length) ∧ Hid (l ++ enB s.size (sbN s) a ps (s.size - i) i wt = RR)) (fun _ v _ => s.size - (intOf v).toNat)
   case atStart => exact ⟨at_, [at_], _, Nat.le_refl _, ha, rfl, HR1.out, fun x _ h => (HI.out _ x).1 h, HE0⟩
   case round =>
    obtain ⟨i, l, wt, hia, hin, rfl, hR, hwt, HE⟩ := hrel
    have hll : l.length ≤ 1025 := by
     have h := congrArg List.length HE.out
     rw [List.length_append] at h
     have := HRR.out
     omega
    by_cases hlt : i < s.size
    ·have i1 : (i : Int) < (s.size : Int) := by omega
     have i2 : (0 : Int) ≤ (i : Int) := by omega
     obtain ⟨tk1, htk1⟩ : ∃ t, t = tkB ps wt (s[i]'hlt).toNat := ⟨_, rfl⟩
     have HEN := hideT (show enB s.size (sbN s) a ps (s.size - i) i wt = (if meetB tk1 (a (kdG s.size (i + 1))).ls then [i + 1] else []) ++ enB s.size (sbN s) a ps (s.size - (i + 1)) (i + 1) (bhB ps tk1) by
      rw [show s.size - i = (s.size - (i + 1)) + 1 by omega, htk1, ← sb_at s i hlt]; rfl)
     have HT := hideT (fun W hW => by
      have h := takers_any wt (s[i]'hlt).toNat (s[i]'hlt).toNat_lt W hW hwt
      rw [← htk1] at h
      exact h : ∀ W, WebAt W B b ps (paV a) → _)
     have HTI := hideT (show ∀ x, x < 256 → tk1 x = true → x < ps.length by rw [htk1]; exact tk_in hwt)
     clear htk1
     have HK1 := hideT (fun w => by
      have h := kindOf_any s (i + 1) w
      rw [Int.natCast_succ] at h
      exact h : ∀ w, _)
     have hk5 := kd_lt s.size (i + 1)
     have k3 : (0 : Int) ≤ (kdG s.size (i + 1) : Nat) := by omega
     have k4 : ((kdG s.size (i + 1) : Nat) : Int) < 4 := by omega
     have kw : IntKind.i64.wrap ((i : Int) + 1) = (i : Int) + 1 := wrap_small _ (by omega) (by omega)
     have R0 := hideT hR
     clear hR
     go_wp2_with fail
     rename_i K3 hK3
     have hSa : Below wr.heap.size wr wr.drew := (Below.refl _ _).drew
     refine wp_region_held (S := fun V => Below wr.heap.size wr V) (by kernel_rfl) ?_
     refine' take_d 0 (some 35) rfl rfl (by kernel_rfl) (by kernel_rfl) (by kernel_rfl) (fun _ _ _ h => h) (by rfl) hSa ?hy9 ?rest9
     case hy9 => intro V _; go_simp; (try with_reducible rfl)
     refine take_y 1 (some 36) rfl rfl (by kernel_rfl) (by kernel_rfl) (by kernel_rfl) (fun _ _ _ h => h) hSa (yieldsIf_load_mid (by rfl) 45 _ rfl Q 0 rfl [.int .u64 (wd wt 0 : Nat), .int .u64 (wd wt 1 : Nat), .int .u64 (wd wt 2 : Nat), .int .u64 (wd wt 3 : Nat)] uS (fun V hV => range_block (cs := [.int .u64 (wd wt 0 : Nat), .int .u64 (wd wt 1 : Nat), .int .u64 (wd wt 2 : Nat), .int .u64 (wd wt 3 : Nat)]) (R0.out.set.below hV R0.out.set.lt)) huS huR (by rw [info_set]; rfl)) ?_
     refine' take_d 2 (some 37) rfl rfl (by kernel_rfl) (by kernel_rfl) (by kernel_rfl) (fun _ _ _ h => h) (by rfl) hSa ?hy10 ?rest10
     case hy10 => intro V _; go_simp; (try with_reducible rfl)
     refine' take_d 3 (some 38) rfl rfl (by kernel_rfl) (by kernel_rfl) (by kernel_rfl) (fun _ _ _ h => h) (by rfl) hSa ?hy11 ?rest11
     case hy11 => intro V _; go_simp; (try with_reducible rfl)
     refine' take_d 4 (some 39) rfl rfl (by kernel_rfl) (by kernel_rfl) (by kernel_rfl) (fun _ _ _ h => h) (by rfl) hSa ?hy12 ?rest12
     case hy12 => intro V _; go_simp; (try with_reducible rfl)
     (try simp only [Act.put, List.setIfInBounds_toArray, List.set_cons_zero, List.set_cons_succ])
     refine wpAnyH_all (rs := [5, 6]) (by kernel_rfl) (by simp) (fun i hi => ?_)
     have hc2 : i = 5 ∨ i = 6 := by simpa using hi
     rcases hc2 with rfl | rfl
     ·refine op_call (some 40) rfl rfl (by rfl) (by go_simp; (try with_reducible rfl)) (R := fun v w' => v = .agg #[.int .u64 (wd tk1 0 : Nat), .int .u64 (wd tk1 1 : Nat), .int .u64 (wd tk1 2 : Nat), .int .u64 (wd tk1 3 : Nat)] ∧ Below wr.drew.heap.size wr.drew w') ((HT.out wr.drew (HW.out.below (R0.out.bel.trans (hSa.mono R0.out.bel.size)))).mono (fun e w' h => ⟨_, h.1, rfl, h.2⟩)) ?_
      rintro v W1 ⟨rfl, hb1⟩
      have hb1' : Below wr.heap.size wr W1 := hSa.trans (hb1.mono hSa.size)
      refine And.intro hb1' ?_
      (try simp only [Act.put, List.setIfInBounds_toArray, List.set_cons_zero, List.set_cons_succ])
      refine wpAnyH_all (rs := [6]) (by kernel_rfl) (by simp) (fun i hi => ?_)
      obtain rfl : i = 6 := List.mem_singleton.1 hi
      have hb1a : Below wr.heap.size wr (W1.alloc (.cells #[.int .u64 0, .int .u64 0, .int .u64 0, .int .u64 0] 45)) := hb1'.alloc hb1'.size _
      have zt : (W1.alloc (.cells #[.int .u64 0, .int .u64 0, .int .u64 0, .int .u64 0] 45)).heap[W1.heap.size]? = some (.cells ([.int .u64 0, .int .u64 0, .int .u64 0, .int .u64 0] : List Value).toArray 45 (0, 0)) := World.alloc_heap_new W1 _
      refine op_value (some 11) rfl rfl (by rfl) (v := .pointer (some ⟨W1.heap.size, 0, none⟩)) (w' := W1.alloc (.cells #[.int .u64 0, .int .u64 0, .int .u64 0, .int .u64 0] 45)) (by go_simp; (try with_reducible rfl)) ⟨hb1a, ?_⟩
      (try simp only [Act.put, List.setIfInBounds_toArray, List.set_cons_zero, List.set_cons_succ])
      refine wpAnyH_all (rs := [7]) (by kernel_rfl) (by simp) (fun i hi => ?_)
      obtain rfl : i = 7 := List.mem_singleton.1 hi
      refine op_store 45 11 40 W1.heap.size [.int .u64 (wd tk1 0 : Nat), .int .u64 (wd tk1 1 : Nat), .int .u64 (wd tk1 2 : Nat), .int .u64 (wd tk1 3 : Nat)] rfl rfl rfl rfl rfl rfl (there_block zt _ rfl) (by rw [info_set]; rfl) (by simp [Value.oneCell']) ?_
      have hb2 : Below wr.heap.size wr ((W1.alloc (.cells #[.int .u64 0, .int .u64 0, .int .u64 0, .int .u64 0] 45)).setCells W1.heap.size 0 [.int .u64 (wd tk1 0 : Nat), .int .u64 (wd tk1 1 : Nat), .int .u64 (wd tk1 2 : Nat), .int .u64 (wd tk1 3 : Nat)]) := below_setCells _ hb1'.size _ _ _ hb1a
      refine And.intro hb2 ?_
      have hT : Set4 ((W1.alloc (.cells #[.int .u64 0, .int .u64 0, .int .u64 0, .int .u64 0] 45)).setCells W1.heap.size 0 [.int .u64 (wd tk1 0 : Nat), .int .u64 (wd tk1 1 : Nat), .int .u64 (wd tk1 2 : Nat), .int .u64 (wd tk1 3 : Nat)]) W1.heap.size tk1 := setCells_whole _ zt rfl
      have hTge : wr.heap.size ≤ W1.heap.size := hb1'.size
      refine wpAnyH_done (by kernel_rfl) ?_ _
      refine hK3 _ _ ?_
      simp only [Act.put]
      clear zt hb1 hb1a hb1' hK3
      generalize hWW : (W1.alloc (.cells #[.int .u64 0, .int .u64 0, .int .u64 0, .int .u64 0] 45)).setCells W1.heap.size 0 [.int .u64 (wd tk1 0 : Nat), .int .u64 (wd tk1 1 : Nat), .int .u64 (wd tk1 2 : Nat), .int .u64 (wd tk1 3 : Nat)] = W2 at *
      clear hWW
      have hb2w : Below w.heap.size w W2 := R0.out.bel.trans (hb2.mono R0.out.bel.size)
      have hSb : Below W2.heap.size W2 W2.drew := (Below.refl _ _).drew
      have HB2 := hideT (And.intro hb2 hb2w)
      clear hb2 hb2w
      go_wp2_with fail
      rename_i K4 hK4
      refine wp_region_held (S := fun V => Below W2.heap.size W2 V) (by kernel_rfl) ?_
      refine take_y 0 (some 41) rfl rfl (by kernel_rfl) (by kernel_rfl) (by kernel_rfl) (fun _ _ _ h => h) hSb (yieldsIf_load_mid (by rfl) 45 _ rfl W1.heap.size 0 rfl [.int .u64 (wd tk1 0 : Nat), .int .u64 (wd tk1 1 : Nat), .int .u64 (wd tk1 2 : Nat), .int .u64 (wd tk1 3 : Nat)] uS (fun V hV => range_block (cs := [.int .u64 (wd tk1 0 : Nat), .int .u64 (wd tk1 1 : Nat), .int .u64 (wd tk1 2 : Nat), .int .u64 (wd tk1 3 : Nat)]) (hT.below hV hT.lt)) huS huR (by rw [info_set]; rfl)) ?_
      refine' take_d 1 (some 42) rfl rfl (by kernel_rfl) (by kernel_rfl) (by kernel_rfl) (fun _ _ _ h => h) (by rfl) hSb ?hy13 ?rest13
      case hy13 => intro V _; go_simp; (try with_reducible rfl)
      refine' take_d 2 (some 43) rfl rfl (by kernel_rfl) (by kernel_rfl) (by kernel_rfl) (fun _ _ _ h => h) (by rfl) hSb ?hy14 ?rest14
      case hy14 => intro V _; go_simp; (try with_reducible rfl)
      refine' take_d 3 (some 44) rfl rfl (by kernel_rfl) (by kernel_rfl) (by kernel_rfl) (fun _ _ _ h => h) (by rfl) hSb ?hy15 ?rest15
      case hy15 => intro V _; go_simp; (try with_reducible rfl)
      refine' take_d 4 (some 45) rfl rfl (by kernel_rfl) (by kernel_rfl) (by kernel_rfl) (fun _ _ _ h => h) (by rfl) hSb ?hy16 ?rest16
      case hy16 => intro V _; go_simp; (try with_reducible rfl)
      refine' take_d 6 (some 47) rfl rfl (by kernel_rfl) (by kernel_rfl) (by kernel_rfl) (fun _ _ _ h => h) (by rfl) hSb ?hy17 ?rest17
      case hy17 => intro V _; go_simp; (try with_reducible rfl)
      refine' take_d 7 (some 48) rfl rfl (by kernel_rfl) (by kernel_rfl) (by kernel_rfl) (fun _ _ _ h => h) (by rfl) hSb ?hy18 ?rest18
      case hy18 => intro V _; go_simp; (try with_reducible rfl)
      (try simp only [Act.put, List.setIfInBounds_toArray, List.set_cons_zero, List.set_cons_succ])
      refine wpAnyH_all (rs := [5]) (by kernel_rfl) (by simp) (fun i hi => ?_)
      obtain rfl : i = 5 := List.mem_singleton.1 hi
      refine op_call (some 46) rfl rfl (by rfl) (by go_simp; (try with_reducible rfl)) (R := fun v w' => v = .int .i64 (kdG s.size (i + 1) : Nat) ∧ w' = W2.drew) ((HK1.out _).mono (fun e w' h => ⟨_, h.1, rfl, h.2⟩)) ?_
      rintro v w' ⟨rfl, rfl⟩
      refine And.intro hSb ?_
      refine' take_d 8 (some 49) rfl rfl (by kernel_rfl) (by kernel_rfl) (by kernel_rfl) (fun _ _ _ h => h) (by rfl) hSb ?hy19 ?rest19
      case hy19 => intro V _; go_simp; (try with_reducible rfl)
      refine' take_d 9 (some 50) rfl rfl (by kernel_rfl) (by kernel_rfl) (by kernel_rfl) (fun _ _ _ h => h) (by rfl) hSb ?hy20 ?rest20
      case hy20 => intro V _; go_simp; (try with_reducible rfl)
      refine take_y 10 (some 51) rfl rfl (by kernel_rfl) (by kernel_rfl) (by kernel_rfl) (fun _ _ _ h => h) hSb (yieldsIf_load_mid (by rfl) 45 _ rfl b (1 + kdG s.size (i + 1) * 9 + 5) rfl [.int .u64 (wd (a (kdG s.size (i + 1))).ls 0 : Nat), .int .u64 (wd (a (kdG s.size (i + 1))).ls 1 : Nat), .int .u64 (wd (a (kdG s.size (i + 1))).ls 2 : Nat), .int .u64 (wd (a (kdG s.size (i + 1))).ls 3 : Nat)] uS (fun V hV => web_last (HW.out.below (HB2.out.2.trans (hV.mono HB2.out.2.size))) _ (kd_lt _ _)) huS huR (by rw [info_set]; rfl)) ?_
      (try simp only [Act.put, List.setIfInBounds_toArray, List.set_cons_zero, List.set_cons_succ])
      refine wpAnyH_all (rs := [11]) (by kernel_rfl) (by simp) (fun i hi => ?_)
      obtain rfl : i = 11 := List.mem_singleton.1 hi
      refine op_call (some 52) rfl rfl (by rfl) (by go_simp; (try with_reducible rfl)) (R := fun v w' => v = .bool (meetB tk1 (a (kdG s.size (i + 1))).ls) ∧ Below W2.heap.size W2 w') ((meet_any tk1 (a (kdG s.size (i + 1))).ls _).mono (fun e w' h => ⟨_, h.1, rfl, hSb.trans (h.2.mono hSb.size)⟩)) ?_
      rintro v W3 ⟨rfl, hb3⟩
      refine And.intro hb3 ?_
      refine wpAnyH_done (by kernel_rfl) ?_ _
      refine hK4 _ _ ?_
      simp only [Act.put, List.setIfInBounds_toArray, List.set_cons_zero, List.set_cons_succ]
      have R3 := (R0.out.step HB2.out.1).step hb3
      have W3T : Set4 W3 W1.heap.size tk1 := hT.below hb3 hT.lt
      have hT3 : W1.heap.size < W3.heap.size := W3T.lt
      have HB3 := hideT (And.intro R3.bel (And.intro W3T R3))
      clear hb3 hT hSb HB2 hK4
      cases hm : meetB tk1 (a (kdG s.size (i + 1))).ls with
      | true =>
       have HE2 := hideT (show (l ++ [i + 1]) ++ enB s.size (sbN s) a ps (s.size - (i + 1)) (i + 1) (bhB ps tk1) = RR by
        rw [← HE.out, HEN.out, hm, List.append_assoc]; rfl)
       clear hm R3 W3T
       go_wp2_with (at_builtin; refine wpList_append_lies _ rfl _ _ 31 rfl w.heap.size 3 i0 _ 1 8 und_ints hi0 hz0 hz1 hz2 rfl (by omega) _ (l).length (inL (l)) rfl (owns_below HB3.out.2.2.own ((Below.refl W3.heap.size W3).alloc (Nat.le_refl _) _)) ⟨W3.heap.size, 0, none⟩ 1 1 [.int .i64 ((i : Int) + 1)] rfl rfl (fun j u hj => new_cells W3 [.int .i64 ((i : Int) + 1)] 3 j u hj) (by simp [Value.oneCell']) (by omega) (by unfold maxLen; omega) (by omega) (by rw [World.size_alloc]; have := HB3.out.1.size; omega) _ rfl ?_)
       intro g4 gc4 W4 hown4 hgr4 hat4 _
       have R4 : EnR w W4 Q (.slice (some ⟨g4, 0, none⟩) (l.length + 1) gc4) (l ++ [i + 1]) wt := HB3.out.2.2.app (n := i + 1) hgr4 (by rw [Int.natCast_succ]; exact hown4) (hat4.imp id (fun e => by rw [World.size_alloc]; exact e))
       have W4T : Set4 W4 W1.heap.size tk1 := by
        refine (hgr4.block W1.heap.size (by rw [World.size_alloc]; omega) (fun e => ?_)).trans ((HB3.out.2.1).below ((Below.refl W3.heap.size W3).alloc (Nat.le_refl _) _) HB3.out.2.1.lt)
        have := (R0.out.own.lt _ e.symm).2
        omega
       clear hown4 hgr4 hat4
       have T1 := W4T
       obtain ⟨⟨t0, t1, t2, t3⟩, -⟩ := Set4.holds T1
       have HBH := hideT (behind_any tk1 W4 (HW.out.below R4.bel) HTI.out)
       have HR5 := hideT R4
       clear T1
       go_wp2_with fail
       refine (HBH.out).mono ?_
       rintro e W5 ⟨rfl, hb5⟩
       have R5 := HR5.out.step hb5
       obtain ⟨⟨q0, q1, q2, q3⟩, ⟨f0, f1, f2, f3⟩⟩ := Set4.holds R5.set
       have HR6 := hideT (R5.put (bhB ps tk1))
       clear R5 hb5 HBH HR5 t0 t1 t2 t3
       go_wp2
       exact ⟨⟨i + 1, l ++ [i + 1], bhB ps tk1, by omega, by omega, by go_num, HR6.out, bh_in (fun p hp q => (HN.out p hp q).1), HE2⟩, by simp [intOf]; omega⟩
      | false =>
       have HE2 := hideT (show l ++ enB s.size (sbN s) a ps (s.size - (i + 1)) (i + 1) (bhB ps tk1) = RR by
        rw [← HE.out, HEN.out, hm]; rfl)
       clear hm
       have T1 := W3T
       obtain ⟨⟨t0, t1, t2, t3⟩, -⟩ := Set4.holds T1
       have HBH := hideT (behind_any tk1 W3 (HW.out.below R3.bel) HTI.out)
       have HR5 := hideT R3
       clear T1
       go_wp2_with fail
       refine (HBH.out).mono ?_
       rintro e W5 ⟨rfl, hb5⟩
       have R5 := HR5.out.step hb5
       obtain ⟨⟨q0, q1, q2, q3⟩, ⟨f0, f1, f2, f3⟩⟩ := Set4.holds R5.set
       have HR6 := hideT (R5.put (bhB ps tk1))
       clear R5 hb5 HBH HR5 t0 t1 t2 t3
       go_wp2
       exact ⟨⟨i + 1, l, bhB ps tk1, by omega, by omega, by go_num, HR6.out, bh_in (fun p hp q => (HN.out p hp q).1), HE2⟩, by simp [intOf]; omega⟩
     ·have hba : Below wr.heap.size wr (wr.drew.alloc (.cells #[.int .u64 0, .int .u64 0, .int .u64 0, .int .u64 0] 45)) := hSa.alloc (Nat.le_refl _) _
      have zt : (wr.drew.alloc (.cells #[.int .u64 0, .int .u64 0, .int .u64 0, .int .u64 0] 45)).heap[wr.heap.size]? = some (.cells ([.int .u64 0, .int .u64 0, .int .u64 0, .int .u64 0] : List Value).toArray 45 (0, 0)) := World.alloc_heap_new wr.drew _
      refine op_value (some 11) rfl rfl (by rfl) (v := .pointer (some ⟨wr.heap.size, 0, none⟩)) (w' := wr.drew.alloc (.cells #[.int .u64 0, .int .u64 0, .int .u64 0, .int .u64 0] 45)) (by go_simp; (try with_reducible rfl)) ⟨hba, ?_⟩
      (try simp only [Act.put, List.setIfInBounds_toArray, List.set_cons_zero, List.set_cons_succ])
      refine wpAnyH_all (rs := [5]) (by kernel_rfl) (by simp) (fun i hi => ?_)
      obtain rfl : i = 5 := List.mem_singleton.1 hi
      refine op_call (some 40) rfl rfl (by rfl) (by go_simp; (try with_reducible rfl)) (R := fun v w' => v = .agg #[.int .u64 (wd tk1 0 : Nat), .int .u64 (wd tk1 1 : Nat), .int .u64 (wd tk1 2 : Nat), .int .u64 (wd tk1 3 : Nat)] ∧ Below (wr.drew.alloc (.cells #[.int .u64 0, .int .u64 0, .int .u64 0, .int .u64 0] 45)).heap.size (wr.drew.alloc (.cells #[.int .u64 0, .int .u64 0, .int .u64 0, .int .u64 0] 45)) w') ((HT.out (wr.drew.alloc (.cells #[.int .u64 0, .int .u64 0, .int .u64 0, .int .u64 0] 45)) (HW.out.below (R0.out.bel.trans (hba.mono R0.out.bel.size)))).mono (fun e w' h => ⟨_, h.1, rfl, h.2⟩)) ?_
      rintro v W1 ⟨rfl, hb1⟩
      have hb1' : Below wr.heap.size wr W1 := hba.trans (hb1.mono hba.size)
      have zt1 : W1.heap[wr.heap.size]? = some (.cells ([.int .u64 0, .int .u64 0, .int .u64 0, .int .u64 0] : List Value).toArray 45 (0, 0)) := (hb1.block _ (by rw [World.size_alloc]; exact Nat.lt_succ_self _)).trans zt
      refine And.intro hb1' ?_
      (try simp only [Act.put, List.setIfInBounds_toArray, List.set_cons_zero, List.set_cons_succ])
      refine wpAnyH_all (rs := [7]) (by kernel_rfl) (by simp) (fun i hi => ?_)
      obtain rfl : i = 7 := List.mem_singleton.1 hi
      refine op_store 45 11 40 wr.heap.size [.int .u64 (wd tk1 0 : Nat), .int .u64 (wd tk1 1 : Nat), .int .u64 (wd tk1 2 : Nat), .int .u64 (wd tk1 3 : Nat)] rfl rfl rfl rfl rfl rfl (there_block zt1 _ rfl) (by rw [info_set]; rfl) (by simp [Value.oneCell']) ?_
      have hb2 : Below wr.heap.size wr (W1.setCells wr.heap.size 0 [.int .u64 (wd tk1 0 : Nat), .int .u64 (wd tk1 1 : Nat), .int .u64 (wd tk1 2 : Nat), .int .u64 (wd tk1 3 : Nat)]) := below_setCells _ (Nat.le_refl _) _ _ _ hb1'
      refine And.intro hb2 ?_
      have hT : Set4 (W1.setCells wr.heap.size 0 [.int .u64 (wd tk1 0 : Nat), .int .u64 (wd tk1 1 : Nat), .int .u64 (wd tk1 2 : Nat), .int .u64 (wd tk1 3 : Nat)]) wr.heap.size tk1 := setCells_whole _ zt1 rfl
      have hTge : wr.heap.size ≤ wr.heap.size := Nat.le_refl _
      refine wpAnyH_done (by kernel_rfl) ?_ _
      refine hK3 _ _ ?_
      simp only [Act.put]
      clear zt zt1 hb1 hba hb1' hK3
      generalize hWW : W1.setCells wr.heap.size 0 [.int .u64 (wd tk1 0 : Nat), .int .u64 (wd tk1 1 : Nat), .int .u64 (wd tk1 2 : Nat), .int .u64 (wd tk1 3 : Nat)] = W2 at *
      clear hWW
      have hb2w : Below w.heap.size w W2 := R0.out.bel.trans (hb2.mono R0.out.bel.size)
      have hSb : Below W2.heap.size W2 W2.drew := (Below.refl _ _).drew
      have HB2 := hideT (And.intro hb2 hb2w)
      clear hb2 hb2w
      go_wp2_with fail
      rename_i K4 hK4
      refine wp_region_held (S := fun V => Below W2.heap.size W2 V) (by kernel_rfl) ?_
      refine take_y 0 (some 41) rfl rfl (by kernel_rfl) (by kernel_rfl) (by kernel_rfl) (fun _ _ _ h => h) hSb (yieldsIf_load_mid (by rfl) 45 _ rfl wr.heap.size 0 rfl [.int .u64 (wd tk1 0 : Nat), .int .u64 (wd tk1 1 : Nat), .int .u64 (wd tk1 2 : Nat), .int .u64 (wd tk1 3 : Nat)] uS (fun V hV => range_block (cs := [.int .u64 (wd tk1 0 : Nat), .int .u64 (wd tk1 1 : Nat), .int .u64 (wd tk1 2 : Nat), .int .u64 (wd tk1 3 : Nat)]) (hT.below hV hT.lt)) huS huR (by rw [info_set]; rfl)) ?_
      refine' take_d 1 (some 42) rfl rfl (by kernel_rfl) (by kernel_rfl) (by kernel_rfl) (fun _ _ _ h => h) (by rfl) hSb ?hy21 ?rest21
      case hy21 => intro V _; go_simp; (try with_reducible rfl)
      refine' take_d 2 (some 43) rfl rfl (by kernel_rfl) (by kernel_rfl) (by kernel_rfl) (fun _ _ _ h => h) (by rfl) hSb ?hy22 ?rest22
      case hy22 => intro V _; go_simp; (try with_reducible rfl)
      refine' take_d 3 (some 44) rfl rfl (by kernel_rfl) (by kernel_rfl) (by kernel_rfl) (fun _ _ _ h => h) (by rfl) hSb ?hy23 ?rest23
      case hy23 => intro V _; go_simp; (try with_reducible rfl)
      refine' take_d 4 (some 45) rfl rfl (by kernel_rfl) (by kernel_rfl) (by kernel_rfl) (fun _ _ _ h => h) (by rfl) hSb ?hy24 ?rest24
      case hy24 => intro V _; go_simp; (try with_reducible rfl)
      refine' take_d 6 (some 47) rfl rfl (by kernel_rfl) (by kernel_rfl) (by kernel_rfl) (fun _ _ _ h => h) (by rfl) hSb ?hy25 ?rest25
      case hy25 => intro V _; go_simp; (try with_reducible rfl)
      refine' take_d 7 (some 48) rfl rfl (by kernel_rfl) (by kernel_rfl) (by kernel_rfl) (fun _ _ _ h => h) (by rfl) hSb ?hy26 ?rest26
      case hy26 => intro V _; go_simp; (try with_reducible rfl)
      (try simp only [Act.put, List.setIfInBounds_toArray, List.set_cons_zero, List.set_cons_succ])
      refine wpAnyH_all (rs := [5]) (by kernel_rfl) (by simp) (fun i hi => ?_)
      obtain rfl : i = 5 := List.mem_singleton.1 hi
      refine op_call (some 46) rfl rfl (by rfl) (by go_simp; (try with_reducible rfl)) (R := fun v w' => v = .int .i64 (kdG s.size (i + 1) : Nat) ∧ w' = W2.drew) ((HK1.out _).mono (fun e w' h => ⟨_, h.1, rfl, h.2⟩)) ?_
      rintro v w' ⟨rfl, rfl⟩
      refine And.intro hSb ?_
      refine' take_d 8 (some 49) rfl rfl (by kernel_rfl) (by kernel_rfl) (by kernel_rfl) (fun _ _ _ h => h) (by rfl) hSb ?hy27 ?rest27
      case hy27 => intro V _; go_simp; (try with_reducible rfl)
      refine' take_d 9 (some 50) rfl rfl (by kernel_rfl) (by kernel_rfl) (by kernel_rfl) (fun _ _ _ h => h) (by rfl) hSb ?hy28 ?rest28
      case hy28 => intro V _; go_simp; (try with_reducible rfl)
      refine take_y 10 (some 51) rfl rfl (by kernel_rfl) (by kernel_rfl) (by kernel_rfl) (fun _ _ _ h => h) hSb (yieldsIf_load_mid (by rfl) 45 _ rfl b (1 + kdG s.size (i + 1) * 9 + 5) rfl [.int .u64 (wd (a (kdG s.size (i + 1))).ls 0 : Nat), .int .u64 (wd (a (kdG s.size (i + 1))).ls 1 : Nat), .int .u64 (wd (a (kdG s.size (i + 1))).ls 2 : Nat), .int .u64 (wd (a (kdG s.size (i + 1))).ls 3 : Nat)] uS (fun V hV => web_last (HW.out.below (HB2.out.2.trans (hV.mono HB2.out.2.size))) _ (kd_lt _ _)) huS huR (by rw [info_set]; rfl)) ?_
      (try simp only [Act.put, List.setIfInBounds_toArray, List.set_cons_zero, List.set_cons_succ])
      refine wpAnyH_all (rs := [11]) (by kernel_rfl) (by simp) (fun i hi => ?_)
      obtain rfl : i = 11 := List.mem_singleton.1 hi
      refine op_call (some 52) rfl rfl (by rfl) (by go_simp; (try with_reducible rfl)) (R := fun v w' => v = .bool (meetB tk1 (a (kdG s.size (i + 1))).ls) ∧ Below W2.heap.size W2 w') ((meet_any tk1 (a (kdG s.size (i + 1))).ls _).mono (fun e w' h => ⟨_, h.1, rfl, hSb.trans (h.2.mono hSb.size)⟩)) ?_
      rintro v W3 ⟨rfl, hb3⟩
      refine And.intro hb3 ?_
      refine wpAnyH_done (by kernel_rfl) ?_ _
      refine hK4 _ _ ?_
      simp only [Act.put, List.setIfInBounds_toArray, List.set_cons_zero, List.set_cons_succ]
      have R3 := (R0.out.step HB2.out.1).step hb3
      have W3T : Set4 W3 wr.heap.size tk1 := hT.below hb3 hT.lt
      have hT3 : wr.heap.size < W3.heap.size := W3T.lt
      have HB3 := hideT (And.intro R3.bel (And.intro W3T R3))
      clear hb3 hT hSb HB2 hK4
      cases hm : meetB tk1 (a (kdG s.size (i + 1))).ls with
      | true =>
       have HE2 := hideT (show (l ++ [i + 1]) ++ enB s.size (sbN s) a ps (s.size - (i + 1)) (i + 1) (bhB ps tk1) = RR by
        rw [← HE.out, HEN.out, hm, List.append_assoc]; rfl)
       clear hm R3 W3T
       go_wp2_with (at_builtin; refine wpList_append_lies _ rfl _ _ 31 rfl w.heap.size 3 i0 _ 1 8 und_ints hi0 hz0 hz1 hz2 rfl (by omega) _ (l).length (inL (l)) rfl (owns_below HB3.out.2.2.own ((Below.refl W3.heap.size W3).alloc (Nat.le_refl _) _)) ⟨W3.heap.size, 0, none⟩ 1 1 [.int .i64 ((i : Int) + 1)] rfl rfl (fun j u hj => new_cells W3 [.int .i64 ((i : Int) + 1)] 3 j u hj) (by simp [Value.oneCell']) (by omega) (by unfold maxLen; omega) (by omega) (by rw [World.size_alloc]; have := HB3.out.1.size; omega) _ rfl ?_)
       intro g4 gc4 W4 hown4 hgr4 hat4 _
       have R4 : EnR w W4 Q (.slice (some ⟨g4, 0, none⟩) (l.length + 1) gc4) (l ++ [i + 1]) wt := HB3.out.2.2.app (n := i + 1) hgr4 (by rw [Int.natCast_succ]; exact hown4) (hat4.imp id (fun e => by rw [World.size_alloc]; exact e))
       have W4T : Set4 W4 wr.heap.size tk1 := by
        refine (hgr4.block wr.heap.size (by rw [World.size_alloc]; omega) (fun e => ?_)).trans ((HB3.out.2.1).below ((Below.refl W3.heap.size W3).alloc (Nat.le_refl _) _) HB3.out.2.1.lt)
        have := (R0.out.own.lt _ e.symm).2
        omega
       clear hown4 hgr4 hat4
       have T1 := W4T
       obtain ⟨⟨t0, t1, t2, t3⟩, -⟩ := Set4.holds T1
       have HBH := hideT (behind_any tk1 W4 (HW.out.below R4.bel) HTI.out)
       have HR5 := hideT R4
       clear T1
       go_wp2_with fail
       refine (HBH.out).mono ?_
       rintro e W5 ⟨rfl, hb5⟩
       have R5 := HR5.out.step hb5
       obtain ⟨⟨q0, q1, q2, q3⟩, ⟨f0, f1, f2, f3⟩⟩ := Set4.holds R5.set
       have HR6 := hideT (R5.put (bhB ps tk1))
       clear R5 hb5 HBH HR5 t0 t1 t2 t3
       go_wp2
       exact ⟨⟨i + 1, l ++ [i + 1], bhB ps tk1, by omega, by omega, by go_num, HR6.out, bh_in (fun p hp q => (HN.out p hp q).1), HE2⟩, by simp [intOf]; omega⟩
      | false =>
       have HE2 := hideT (show l ++ enB s.size (sbN s) a ps (s.size - (i + 1)) (i + 1) (bhB ps tk1) = RR by
        rw [← HE.out, HEN.out, hm]; rfl)
       clear hm
       have T1 := W3T
       obtain ⟨⟨t0, t1, t2, t3⟩, -⟩ := Set4.holds T1
       have HBH := hideT (behind_any tk1 W3 (HW.out.below R3.bel) HTI.out)
       have HR5 := hideT R3
       clear T1
       go_wp2_with fail
       refine (HBH.out).mono ?_
       rintro e W5 ⟨rfl, hb5⟩
       have R5 := HR5.out.step hb5
       obtain ⟨⟨q0, q1, q2, q3⟩, ⟨f0, f1, f2, f3⟩⟩ := Set4.holds R5.set
       have HR6 := hideT (R5.put (bhB ps tk1))
       clear R5 hb5 HBH HR5 t0 t1 t2 t3
       go_wp2
       exact ⟨⟨i + 1, l, bhB ps tk1, by omega, by omega, by go_num, HR6.out, bh_in (fun p hp q => (HN.out p hp q).1), HE2⟩, by simp [intOf]; omega⟩
    ·have i1 : ((i : Int) < (s.size : Int)) = False := by rw [eq_iff_iff, iff_false]; omega
     have hx : l = RR := by
      rw [← HE.out, show s.size - i = 0 by omega]
      simp [enB]
     have R0 := hideT hR
     clear hR
     subst hx
     go_wp2
     go_ret
     exact ⟨_, rfl, R0.out.own, R0.out.bel⟩
  | false =>
   have HE0 := hideT (show [] ++ enB s.size (sbN s) a ps (s.size - at_) at_ (a (kdG s.size at_)).fs = RR by rw [hRR]; unfold endsB; rw [hno]; rfl)
   rw [hno] at c0
   have c1 : X.cell? ⟨w.heap.size, 1, none⟩ = some (.int .u64 (wd (a (kdG s.size at_)).fs 0 : Nat)) := by simp [World.cell?, xN, bdV]
   have c2 : X.cell? ⟨w.heap.size, 2, none⟩ = some (.int .u64 (wd (a (kdG s.size at_)).fs 1 : Nat)) := by simp [World.cell?, xN, bdV]
   have c3 : X.cell? ⟨w.heap.size, 3, none⟩ = some (.int .u64 (wd (a (kdG s.size at_)).fs 2 : Nat)) := by simp [World.cell?, xN, bdV]
   have c4 : X.cell? ⟨w.heap.size, 4, none⟩ = some (.int .u64 (wd (a (kdG s.size at_)).fs 3 : Nat)) := by simp [World.cell?, xN, bdV]
   have RB := (Below.refl X.heap.size X).alloc (Nat.le_refl _) (.cells #[.int .u64 (wd (a (kdG s.size at_)).fs 0 : Nat), .int .u64 (wd (a (kdG s.size at_)).fs 1 : Nat), .int .u64 (wd (a (kdG s.size at_)).fs 2 : Nat), .int .u64 (wd (a (kdG s.size at_)).fs 3 : Nat)] 45)
   have HR0 := hideT (show EnR w (X.alloc (.cells #[.int .u64 (wd (a (kdG s.size at_)).fs 0 : Nat), .int .u64 (wd (a (kdG s.size at_)).fs 1 : Nat), .int .u64 (wd (a (kdG s.size at_)).fs 2 : Nat), .int .u64 (wd (a (kdG s.size at_)).fs 3 : Nat)] 45)) X.heap.size (.slice none 0 0) [] (a (kdG s.size at_)).fs from
    ⟨World.ownsRow_nil _ _ _ _, xB.trans (RB.mono xB.size), Set4.new X _, (fun e => by cases e), xB.size⟩)
   clear xN xB hRR hno RB
   go_wp2_with fail
   clear c1 c2 c3 c4
   obtain ⟨Q, hQ⟩ : ∃ Q, Q = X.heap.size := ⟨_, rfl⟩
   have HR1 := hideT (show EnR w (X.alloc (.cells #[.int .u64 (wd (a (kdG s.size at_)).fs 0 : Nat), .int .u64 (wd (a (kdG s.size at_)).fs 1 : Nat), .int .u64 (wd (a (kdG s.size at_)).fs 2 : Nat), .int .u64 (wd (a (kdG s.size at_)).fs 3 : Nat)] 45)) Q (.slice none 0 0) [] (a (kdG s.size at_)).fs from by rw [hQ]; exact HR0.out)
   rw [← hQ]
   generalize X.alloc (.cells #[.int .u64 (wd (a (kdG s.size at_)).fs 0 : Nat), .int .u64 (wd (a (kdG s.size at_)).fs 1 : Nat), .int .u64 (wd (a (kdG s.size at_)).fs 2 : Nat), .int .u64 (wd (a (kdG s.size at_)).fs 3 : Nat)] 45) = Y at *
   clear hQ
   go_loopw [7, 10] (fun fv v wr => ∃ (i : Nat) (l : List Nat) (wt : Nat → Bool), at_ ≤ i ∧ i ≤ s.size ∧ v = .int .i64 (i : Nat) ∧ EnR w wr Q fv l wt ∧ (∀ x, x < 256 → wt x = true → x < ps.length) ∧ Hid (l ++ enB s.size (sbN s) a ps (s.size - i) i wt = RR)) (fun _ v _ => s.size - (intOf v).toNat)
   case atStart => exact ⟨at_, [], _, Nat.le_refl _, ha, rfl, HR1.out, fun x _ h => (HI.out _ x).1 h, HE0⟩
   case round =>
    obtain ⟨i, l, wt, hia, hin, rfl, hR, hwt, HE⟩ := hrel
    have hll : l.length ≤ 1025 := by
     have h := congrArg List.length HE.out
     rw [List.length_append] at h
     have := HRR.out
     omega
    by_cases hlt : i < s.size
    ·have i1 : (i : Int) < (s.size : Int) := by omega
     have i2 : (0 : Int) ≤ (i : Int) := by omega
     obtain ⟨tk1, htk1⟩ : ∃ t, t = tkB ps wt (s[i]'hlt).toNat := ⟨_, rfl⟩
     have HEN := hideT (show enB s.size (sbN s) a ps (s.size - i) i wt = (if meetB tk1 (a (kdG s.size (i + 1))).ls then [i + 1] else []) ++ enB s.size (sbN s) a ps (s.size - (i + 1)) (i + 1) (bhB ps tk1) by
      rw [show s.size - i = (s.size - (i + 1)) + 1 by omega, htk1, ← sb_at s i hlt]; rfl)
     have HT := hideT (fun W hW => by
      have h := takers_any wt (s[i]'hlt).toNat (s[i]'hlt).toNat_lt W hW hwt
      rw [← htk1] at h
      exact h : ∀ W, WebAt W B b ps (paV a) → _)
     have HTI := hideT (show ∀ x, x < 256 → tk1 x = true → x < ps.length by rw [htk1]; exact tk_in hwt)
     clear htk1
     have HK1 := hideT (fun w => by
      have h := kindOf_any s (i + 1) w
      rw [Int.natCast_succ] at h
      exact h : ∀ w, _)
     have hk5 := kd_lt s.size (i + 1)
     have k3 : (0 : Int) ≤ (kdG s.size (i + 1) : Nat) := by omega
     have k4 : ((kdG s.size (i + 1) : Nat) : Int) < 4 := by omega
     have kw : IntKind.i64.wrap ((i : Int) + 1) = (i : Int) + 1 := wrap_small _ (by omega) (by omega)
     have R0 := hideT hR
     clear hR
     go_wp2_with fail
     rename_i K3 hK3
     have hSa : Below wr.heap.size wr wr.drew := (Below.refl _ _).drew
     refine wp_region_held (S := fun V => Below wr.heap.size wr V) (by kernel_rfl) ?_
     refine' take_d 0 (some 35) rfl rfl (by kernel_rfl) (by kernel_rfl) (by kernel_rfl) (fun _ _ _ h => h) (by rfl) hSa ?hy29 ?rest29
     case hy29 => intro V _; go_simp; (try with_reducible rfl)
     refine take_y 1 (some 36) rfl rfl (by kernel_rfl) (by kernel_rfl) (by kernel_rfl) (fun _ _ _ h => h) hSa (yieldsIf_load_mid (by rfl) 45 _ rfl Q 0 rfl [.int .u64 (wd wt 0 : Nat), .int .u64 (wd wt 1 : Nat), .int .u64 (wd wt 2 : Nat), .int .u64 (wd wt 3 : Nat)] uS (fun V hV => range_block (cs := [.int .u64 (wd wt 0 : Nat), .int .u64 (wd wt 1 : Nat), .int .u64 (wd wt 2 : Nat), .int .u64 (wd wt 3 : Nat)]) (R0.out.set.below hV R0.out.set.lt)) huS huR (by rw [info_set]; rfl)) ?_
     refine' take_d 2 (some 37) rfl rfl (by kernel_rfl) (by kernel_rfl) (by kernel_rfl) (fun _ _ _ h => h) (by rfl) hSa ?hy30 ?rest30
     case hy30 => intro V _; go_simp; (try with_reducible rfl)
     refine' take_d 3 (some 38) rfl rfl (by kernel_rfl) (by kernel_rfl) (by kernel_rfl) (fun _ _ _ h => h) (by rfl) hSa ?hy31 ?rest31
     case hy31 => intro V _; go_simp; (try with_reducible rfl)
     refine' take_d 4 (some 39) rfl rfl (by kernel_rfl) (by kernel_rfl) (by kernel_rfl) (fun _ _ _ h => h) (by rfl) hSa ?hy32 ?rest32
     case hy32 => intro V _; go_simp; (try with_reducible rfl)
     (try simp only [Act.put, List.setIfInBounds_toArray, List.set_cons_zero, List.set_cons_succ])
     refine wpAnyH_all (rs := [5, 6]) (by kernel_rfl) (by simp) (fun i hi => ?_)
     have hc2 : i = 5 ∨ i = 6 := by simpa using hi
     rcases hc2 with rfl | rfl
     ·refine op_call (some 40) rfl rfl (by rfl) (by go_simp; (try with_reducible rfl)) (R := fun v w' => v = .agg #[.int .u64 (wd tk1 0 : Nat), .int .u64 (wd tk1 1 : Nat), .int .u64 (wd tk1 2 : Nat), .int .u64 (wd tk1 3 : Nat)] ∧ Below wr.drew.heap.size wr.drew w') ((HT.out wr.drew (HW.out.below (R0.out.bel.trans (hSa.mono R0.out.bel.size)))).mono (fun e w' h => ⟨_, h.1, rfl, h.2⟩)) ?_
      rintro v W1 ⟨rfl, hb1⟩
      have hb1' : Below wr.heap.size wr W1 := hSa.trans (hb1.mono hSa.size)
      refine And.intro hb1' ?_
      (try simp only [Act.put, List.setIfInBounds_toArray, List.set_cons_zero, List.set_cons_succ])
      refine wpAnyH_all (rs := [6]) (by kernel_rfl) (by simp) (fun i hi => ?_)
      obtain rfl : i = 6 := List.mem_singleton.1 hi
      have hb1a : Below wr.heap.size wr (W1.alloc (.cells #[.int .u64 0, .int .u64 0, .int .u64 0, .int .u64 0] 45)) := hb1'.alloc hb1'.size _
      have zt : (W1.alloc (.cells #[.int .u64 0, .int .u64 0, .int .u64 0, .int .u64 0] 45)).heap[W1.heap.size]? = some (.cells ([.int .u64 0, .int .u64 0, .int .u64 0, .int .u64 0] : List Value).toArray 45 (0, 0)) := World.alloc_heap_new W1 _
      refine op_value (some 11) rfl rfl (by rfl) (v := .pointer (some ⟨W1.heap.size, 0, none⟩)) (w' := W1.alloc (.cells #[.int .u64 0, .int .u64 0, .int .u64 0, .int .u64 0] 45)) (by go_simp; (try with_reducible rfl)) ⟨hb1a, ?_⟩
      (try simp only [Act.put, List.setIfInBounds_toArray, List.set_cons_zero, List.set_cons_succ])
      refine wpAnyH_all (rs := [7]) (by kernel_rfl) (by simp) (fun i hi => ?_)
      obtain rfl : i = 7 := List.mem_singleton.1 hi
      refine op_store 45 11 40 W1.heap.size [.int .u64 (wd tk1 0 : Nat), .int .u64 (wd tk1 1 : Nat), .int .u64 (wd tk1 2 : Nat), .int .u64 (wd tk1 3 : Nat)] rfl rfl rfl rfl rfl rfl (there_block zt _ rfl) (by rw [info_set]; rfl) (by simp [Value.oneCell']) ?_
      have hb2 : Below wr.heap.size wr ((W1.alloc (.cells #[.int .u64 0, .int .u64 0, .int .u64 0, .int .u64 0] 45)).setCells W1.heap.size 0 [.int .u64 (wd tk1 0 : Nat), .int .u64 (wd tk1 1 : Nat), .int .u64 (wd tk1 2 : Nat), .int .u64 (wd tk1 3 : Nat)]) := below_setCells _ hb1'.size _ _ _ hb1a
      refine And.intro hb2 ?_
      have hT : Set4 ((W1.alloc (.cells #[.int .u64 0, .int .u64 0, .int .u64 0, .int .u64 0] 45)).setCells W1.heap.size 0 [.int .u64 (wd tk1 0 : Nat), .int .u64 (wd tk1 1 : Nat), .int .u64 (wd tk1 2 : Nat), .int .u64 (wd tk1 3 : Nat)]) W1.heap.size tk1 := setCells_whole _ zt rfl
      have hTge : wr.heap.size ≤ W1.heap.size := hb1'.size
      refine wpAnyH_done (by kernel_rfl) ?_ _
      refine hK3 _ _ ?_
      simp only [Act.put]
      clear zt hb1 hb1a hb1' hK3
      generalize hWW : (W1.alloc (.cells #[.int .u64 0, .int .u64 0, .int .u64 0, .int .u64 0] 45)).setCells W1.heap.size 0 [.int .u64 (wd tk1 0 : Nat), .int .u64 (wd tk1 1 : Nat), .int .u64 (wd tk1 2 : Nat), .int .u64 (wd tk1 3 : Nat)] = W2 at *
      clear hWW
      have hb2w : Below w.heap.size w W2 := R0.out.bel.trans (hb2.mono R0.out.bel.size)
      have hSb : Below W2.heap.size W2 W2.drew := (Below.refl _ _).drew
      have HB2 := hideT (And.intro hb2 hb2w)
      clear hb2 hb2w
      go_wp2_with fail
      rename_i K4 hK4
      refine wp_region_held (S := fun V => Below W2.heap.size W2 V) (by kernel_rfl) ?_
      refine take_y 0 (some 41) rfl rfl (by kernel_rfl) (by kernel_rfl) (by kernel_rfl) (fun _ _ _ h => h) hSb (yieldsIf_load_mid (by rfl) 45 _ rfl W1.heap.size 0 rfl [.int .u64 (wd tk1 0 : Nat), .int .u64 (wd tk1 1 : Nat), .int .u64 (wd tk1 2 : Nat), .int .u64 (wd tk1 3 : Nat)] uS (fun V hV => range_block (cs := [.int .u64 (wd tk1 0 : Nat), .int .u64 (wd tk1 1 : Nat), .int .u64 (wd tk1 2 : Nat), .int .u64 (wd tk1 3 : Nat)]) (hT.below hV hT.lt)) huS huR (by rw [info_set]; rfl)) ?_
      refine' take_d 1 (some 42) rfl rfl (by kernel_rfl) (by kernel_rfl) (by kernel_rfl) (fun _ _ _ h => h) (by rfl) hSb ?hy33 ?rest33
      case hy33 => intro V _; go_simp; (try with_reducible rfl)
      refine' take_d 2 (some 43) rfl rfl (by kernel_rfl) (by kernel_rfl) (by kernel_rfl) (fun _ _ _ h => h) (by rfl) hSb ?hy34 ?rest34
      case hy34 => intro V _; go_simp; (try with_reducible rfl)
      refine' take_d 3 (some 44) rfl rfl (by kernel_rfl) (by kernel_rfl) (by kernel_rfl) (fun _ _ _ h => h) (by rfl) hSb ?hy35 ?rest35
      case hy35 => intro V _; go_simp; (try with_reducible rfl)
      refine' take_d 4 (some 45) rfl rfl (by kernel_rfl) (by kernel_rfl) (by kernel_rfl) (fun _ _ _ h => h) (by rfl) hSb ?hy36 ?rest36
      case hy36 => intro V _; go_simp; (try with_reducible rfl)
      refine' take_d 6 (some 47) rfl rfl (by kernel_rfl) (by kernel_rfl) (by kernel_rfl) (fun _ _ _ h => h) (by rfl) hSb ?hy37 ?rest37
      case hy37 => intro V _; go_simp; (try with_reducible rfl)
      refine' take_d 7 (some 48) rfl rfl (by kernel_rfl) (by kernel_rfl) (by kernel_rfl) (fun _ _ _ h => h) (by rfl) hSb ?hy38 ?rest38
      case hy38 => intro V _; go_simp; (try with_reducible rfl)
      (try simp only [Act.put, List.setIfInBounds_toArray, List.set_cons_zero, List.set_cons_succ])
      refine wpAnyH_all (rs := [5]) (by kernel_rfl) (by simp) (fun i hi => ?_)
      obtain rfl : i = 5 := List.mem_singleton.1 hi
      refine op_call (some 46) rfl rfl (by rfl) (by go_simp; (try with_reducible rfl)) (R := fun v w' => v = .int .i64 (kdG s.size (i + 1) : Nat) ∧ w' = W2.drew) ((HK1.out _).mono (fun e w' h => ⟨_, h.1, rfl, h.2⟩)) ?_
      rintro v w' ⟨rfl, rfl⟩
      refine And.intro hSb ?_
      refine' take_d 8 (some 49) rfl rfl (by kernel_rfl) (by kernel_rfl) (by kernel_rfl) (fun _ _ _ h => h) (by rfl) hSb ?hy39 ?rest39
      case hy39 => intro V _; go_simp; (try with_reducible rfl)
      refine' take_d 9 (some 50) rfl rfl (by kernel_rfl) (by kernel_rfl) (by kernel_rfl) (fun _ _ _ h => h) (by rfl) hSb ?hy40 ?rest40
      case hy40 => intro V _; go_simp; (try with_reducible rfl)
      refine take_y 10 (some 51) rfl rfl (by kernel_rfl) (by kernel_rfl) (by kernel_rfl) (fun _ _ _ h => h) hSb (yieldsIf_load_mid (by rfl) 45 _ rfl b (1 + kdG s.size (i + 1) * 9 + 5) rfl [.int .u64 (wd (a (kdG s.size (i + 1))).ls 0 : Nat), .int .u64 (wd (a (kdG s.size (i + 1))).ls 1 : Nat), .int .u64 (wd (a (kdG s.size (i + 1))).ls 2 : Nat), .int .u64 (wd (a (kdG s.size (i + 1))).ls 3 : Nat)] uS (fun V hV => web_last (HW.out.below (HB2.out.2.trans (hV.mono HB2.out.2.size))) _ (kd_lt _ _)) huS huR (by rw [info_set]; rfl)) ?_
      (try simp only [Act.put, List.setIfInBounds_toArray, List.set_cons_zero, List.set_cons_succ])
      refine wpAnyH_all (rs := [11]) (by kernel_rfl) (by simp) (fun i hi => ?_)
      obtain rfl : i = 11 := List.mem_singleton.1 hi
      refine op_call (some 52) rfl rfl (by rfl) (by go_simp; (try with_reducible rfl)) (R := fun v w' => v = .bool (meetB tk1 (a (kdG s.size (i + 1))).ls) ∧ Below W2.heap.size W2 w') ((meet_any tk1 (a (kdG s.size (i + 1))).ls _).mono (fun e w' h => ⟨_, h.1, rfl, hSb.trans (h.2.mono hSb.size)⟩)) ?_
      rintro v W3 ⟨rfl, hb3⟩
      refine And.intro hb3 ?_
      refine wpAnyH_done (by kernel_rfl) ?_ _
      refine hK4 _ _ ?_
      simp only [Act.put, List.setIfInBounds_toArray, List.set_cons_zero, List.set_cons_succ]
      have R3 := (R0.out.step HB2.out.1).step hb3
      have W3T : Set4 W3 W1.heap.size tk1 := hT.below hb3 hT.lt
      have hT3 : W1.heap.size < W3.heap.size := W3T.lt
      have HB3 := hideT (And.intro R3.bel (And.intro W3T R3))
      clear hb3 hT hSb HB2 hK4
      cases hm : meetB tk1 (a (kdG s.size (i + 1))).ls with
      | true =>
       have HE2 := hideT (show (l ++ [i + 1]) ++ enB s.size (sbN s) a ps (s.size - (i + 1)) (i + 1) (bhB ps tk1) = RR by
        rw [← HE.out, HEN.out, hm, List.append_assoc]; rfl)
       clear hm R3 W3T
       go_wp2_with (at_builtin; refine wpList_append_lies _ rfl _ _ 31 rfl w.heap.size 3 i0 _ 1 8 und_ints hi0 hz0 hz1 hz2 rfl (by omega) _ (l).length (inL (l)) rfl (owns_below HB3.out.2.2.own ((Below.refl W3.heap.size W3).alloc (Nat.le_refl _) _)) ⟨W3.heap.size, 0, none⟩ 1 1 [.int .i64 ((i : Int) + 1)] rfl rfl (fun j u hj => new_cells W3 [.int .i64 ((i : Int) + 1)] 3 j u hj) (by simp [Value.oneCell']) (by omega) (by unfold maxLen; omega) (by omega) (by rw [World.size_alloc]; have := HB3.out.1.size; omega) _ rfl ?_)
       intro g4 gc4 W4 hown4 hgr4 hat4 _
       have R4 : EnR w W4 Q (.slice (some ⟨g4, 0, none⟩) (l.length + 1) gc4) (l ++ [i + 1]) wt := HB3.out.2.2.app (n := i + 1) hgr4 (by rw [Int.natCast_succ]; exact hown4) (hat4.imp id (fun e => by rw [World.size_alloc]; exact e))
       have W4T : Set4 W4 W1.heap.size tk1 := by
        refine (hgr4.block W1.heap.size (by rw [World.size_alloc]; omega) (fun e => ?_)).trans ((HB3.out.2.1).below ((Below.refl W3.heap.size W3).alloc (Nat.le_refl _) _) HB3.out.2.1.lt)
        have := (R0.out.own.lt _ e.symm).2
        omega
       clear hown4 hgr4 hat4
       have T1 := W4T
       obtain ⟨⟨t0, t1, t2, t3⟩, -⟩ := Set4.holds T1
       have HBH := hideT (behind_any tk1 W4 (HW.out.below R4.bel) HTI.out)
       have HR5 := hideT R4
       clear T1
       go_wp2_with fail
       refine (HBH.out).mono ?_
       rintro e W5 ⟨rfl, hb5⟩
       have R5 := HR5.out.step hb5
       obtain ⟨⟨q0, q1, q2, q3⟩, ⟨f0, f1, f2, f3⟩⟩ := Set4.holds R5.set
       have HR6 := hideT (R5.put (bhB ps tk1))
       clear R5 hb5 HBH HR5 t0 t1 t2 t3
       go_wp2
       exact ⟨⟨i + 1, l ++ [i + 1], bhB ps tk1, by omega, by omega, by go_num, HR6.out, bh_in (fun p hp q => (HN.out p hp q).1), HE2⟩, by simp [intOf]; omega⟩
      | false =>
       have HE2 := hideT (show l ++ enB s.size (sbN s) a ps (s.size - (i + 1)) (i + 1) (bhB ps tk1) = RR by
        rw [← HE.out, HEN.out, hm]; rfl)
       clear hm
       have T1 := W3T
       obtain ⟨⟨t0, t1, t2, t3⟩, -⟩ := Set4.holds T1
       have HBH := hideT (behind_any tk1 W3 (HW.out.below R3.bel) HTI.out)
       have HR5 := hideT R3
       clear T1
       go_wp2_with fail
       refine (HBH.out).mono ?_
       rintro e W5 ⟨rfl, hb5⟩
       have R5 := HR5.out.step hb5
       obtain ⟨⟨q0, q1, q2, q3⟩, ⟨f0, f1, f2, f3⟩⟩ := Set4.holds R5.set
       have HR6 := hideT (R5.put (bhB ps tk1))
       clear R5 hb5 HBH HR5 t0 t1 t2 t3
       go_wp2
       exact ⟨⟨i + 1, l, bhB ps tk1, by omega, by omega, by go_num, HR6.out, bh_in (fun p hp q => (HN.out p hp q).1), HE2⟩, by simp [intOf]; omega⟩
     ·have hba : Below wr.heap.size wr (wr.drew.alloc (.cells #[.int .u64 0, .int .u64 0, .int .u64 0, .int .u64 0] 45)) := hSa.alloc (Nat.le_refl _) _
      have zt : (wr.drew.alloc (.cells #[.int .u64 0, .int .u64 0, .int .u64 0, .int .u64 0] 45)).heap[wr.heap.size]? = some (.cells ([.int .u64 0, .int .u64 0, .int .u64 0, .int .u64 0] : List Value).toArray 45 (0, 0)) := World.alloc_heap_new wr.drew _
      refine op_value (some 11) rfl rfl (by rfl) (v := .pointer (some ⟨wr.heap.size, 0, none⟩)) (w' := wr.drew.alloc (.cells #[.int .u64 0, .int .u64 0, .int .u64 0, .int .u64 0] 45)) (by go_simp; (try with_reducible rfl)) ⟨hba, ?_⟩
      (try simp only [Act.put, List.setIfInBounds_toArray, List.set_cons_zero, List.set_cons_succ])
      refine wpAnyH_all (rs := [5]) (by kernel_rfl) (by simp) (fun i hi => ?_)
      obtain rfl : i = 5 := List.mem_singleton.1 hi
      refine op_call (some 40) rfl rfl (by rfl) (by go_simp; (try with_reducible rfl)) (R := fun v w' => v = .agg #[.int .u64 (wd tk1 0 : Nat), .int .u64 (wd tk1 1 : Nat), .int .u64 (wd tk1 2 : Nat), .int .u64 (wd tk1 3 : Nat)] ∧ Below (wr.drew.alloc (.cells #[.int .u64 0, .int .u64 0, .int .u64 0, .int .u64 0] 45)).heap.size (wr.drew.alloc (.cells #[.int .u64 0, .int .u64 0, .int .u64 0, .int .u64 0] 45)) w') ((HT.out (wr.drew.alloc (.cells #[.int .u64 0, .int .u64 0, .int .u64 0, .int .u64 0] 45)) (HW.out.below (R0.out.bel.trans (hba.mono R0.out.bel.size)))).mono (fun e w' h => ⟨_, h.1, rfl, h.2⟩)) ?_
      rintro v W1 ⟨rfl, hb1⟩
      have hb1' : Below wr.heap.size wr W1 := hba.trans (hb1.mono hba.size)
      have zt1 : W1.heap[wr.heap.size]? = some (.cells ([.int .u64 0, .int .u64 0, .int .u64 0, .int .u64 0] : List Value).toArray 45 (0, 0)) := (hb1.block _ (by rw [World.size_alloc]; exact Nat.lt_succ_self _)).trans zt
      refine And.intro hb1' ?_
      (try simp only [Act.put, List.setIfInBounds_toArray, List.set_cons_zero, List.set_cons_succ])
      refine wpAnyH_all (rs := [7]) (by kernel_rfl) (by simp) (fun i hi => ?_)
      obtain rfl : i = 7 := List.mem_singleton.1 hi
      refine op_store 45 11 40 wr.heap.size [.int .u64 (wd tk1 0 : Nat), .int .u64 (wd tk1 1 : Nat), .int .u64 (wd tk1 2 : Nat), .int .u64 (wd tk1 3 : Nat)] rfl rfl rfl rfl rfl rfl (there_block zt1 _ rfl) (by rw [info_set]; rfl) (by simp [Value.oneCell']) ?_
      have hb2 : Below wr.heap.size wr (W1.setCells wr.heap.size 0 [.int .u64 (wd tk1 0 : Nat), .int .u64 (wd tk1 1 : Nat), .int .u64 (wd tk1 2 : Nat), .int .u64 (wd tk1 3 : Nat)]) := below_setCells _ (Nat.le_refl _) _ _ _ hb1'
      refine And.intro hb2 ?_
      have hT : Set4 (W1.setCells wr.heap.size 0 [.int .u64 (wd tk1 0 : Nat), .int .u64 (wd tk1 1 : Nat), .int .u64 (wd tk1 2 : Nat), .int .u64 (wd tk1 3 : Nat)]) wr.heap.size tk1 := setCells_whole _ zt1 rfl
      have hTge : wr.heap.size ≤ wr.heap.size := Nat.le_refl _
      refine wpAnyH_done (by kernel_rfl) ?_ _
      refine hK3 _ _ ?_
      simp only [Act.put]
      clear zt zt1 hb1 hba hb1' hK3
      generalize hWW : W1.setCells wr.heap.size 0 [.int .u64 (wd tk1 0 : Nat), .int .u64 (wd tk1 1 : Nat), .int .u64 (wd tk1 2 : Nat), .int .u64 (wd tk1 3 : Nat)] = W2 at *
      clear hWW
      have hb2w : Below w.heap.size w W2 := R0.out.bel.trans (hb2.mono R0.out.bel.size)
      have hSb : Below W2.heap.size W2 W2.drew := (Below.refl _ _).drew
      have HB2 := hideT (And.intro hb2 hb2w)
      clear hb2 hb2w
      go_wp2_with fail
      rename_i K4 hK4
      refine wp_region_held (S := fun V => Below W2.heap.size W2 V) (by kernel_rfl) ?_
      refine take_y 0 (some 41) rfl rfl (by kernel_rfl) (by kernel_rfl) (by kernel_rfl) (fun _ _ _ h => h) hSb (yieldsIf_load_mid (by rfl) 45 _ rfl wr.heap.size 0 rfl [.int .u64 (wd tk1 0 : Nat), .int .u64 (wd tk1 1 : Nat), .int .u64 (wd tk1 2 : Nat), .int .u64 (wd tk1 3 : Nat)] uS (fun V hV => range_block (cs := [.int .u64 (wd tk1 0 : Nat), .int .u64 (wd tk1 1 : Nat), .int .u64 (wd tk1 2 : Nat), .int .u64 (wd tk1 3 : Nat)]) (hT.below hV hT.lt)) huS huR (by rw [info_set]; rfl)) ?_
      refine' take_d 1 (some 42) rfl rfl (by kernel_rfl) (by kernel_rfl) (by kernel_rfl) (fun _ _ _ h => h) (by rfl) hSb ?hy41 ?rest41
      case hy41 => intro V _; go_simp; (try with_reducible rfl)
      refine' take_d 2 (some 43) rfl rfl (by kernel_rfl) (by kernel_rfl) (by kernel_rfl) (fun _ _ _ h => h) (by rfl) hSb ?hy42 ?rest42
      case hy42 => intro V _; go_simp; (try with_reducible rfl)
      refine' take_d 3 (some 44) rfl rfl (by kernel_rfl) (by kernel_rfl) (by kernel_rfl) (fun _ _ _ h => h) (by rfl) hSb ?hy43 ?rest43
      case hy43 => intro V _; go_simp; (try with_reducible rfl)
      refine' take_d 4 (some 45) rfl rfl (by kernel_rfl) (by kernel_rfl) (by kernel_rfl) (fun _ _ _ h => h) (by rfl) hSb ?hy44 ?rest44
      case hy44 => intro V _; go_simp; (try with_reducible rfl)
      refine' take_d 6 (some 47) rfl rfl (by kernel_rfl) (by kernel_rfl) (by kernel_rfl) (fun _ _ _ h => h) (by rfl) hSb ?hy45 ?rest45
      case hy45 => intro V _; go_simp; (try with_reducible rfl)
      refine' take_d 7 (some 48) rfl rfl (by kernel_rfl) (by kernel_rfl) (by kernel_rfl) (fun _ _ _ h => h) (by rfl) hSb ?hy46 ?rest46
      case hy46 => intro V _; go_simp; (try with_reducible rfl)
      (try simp only [Act.put, List.setIfInBounds_toArray, List.set_cons_zero, List.set_cons_succ])
      refine wpAnyH_all (rs := [5]) (by kernel_rfl) (by simp) (fun i hi => ?_)
      obtain rfl : i = 5 := List.mem_singleton.1 hi
      refine op_call (some 46) rfl rfl (by rfl) (by go_simp; (try with_reducible rfl)) (R := fun v w' => v = .int .i64 (kdG s.size (i + 1) : Nat) ∧ w' = W2.drew) ((HK1.out _).mono (fun e w' h => ⟨_, h.1, rfl, h.2⟩)) ?_
      rintro v w' ⟨rfl, rfl⟩
      refine And.intro hSb ?_
      refine' take_d 8 (some 49) rfl rfl (by kernel_rfl) (by kernel_rfl) (by kernel_rfl) (fun _ _ _ h => h) (by rfl) hSb ?hy47 ?rest47
      case hy47 => intro V _; go_simp; (try with_reducible rfl)
      refine' take_d 9 (some 50) rfl rfl (by kernel_rfl) (by kernel_rfl) (by kernel_rfl) (fun _ _ _ h => h) (by rfl) hSb ?hy48 ?rest48
      case hy48 => intro V _; go_simp; (try with_reducible rfl)
      refine take_y 10 (some 51) rfl rfl (by kernel_rfl) (by kernel_rfl) (by kernel_rfl) (fun _ _ _ h => h) hSb (yieldsIf_load_mid (by rfl) 45 _ rfl b (1 + kdG s.size (i + 1) * 9 + 5) rfl [.int .u64 (wd (a (kdG s.size (i + 1))).ls 0 : Nat), .int .u64 (wd (a (kdG s.size (i + 1))).ls 1 : Nat), .int .u64 (wd (a (kdG s.size (i + 1))).ls 2 : Nat), .int .u64 (wd (a (kdG s.size (i + 1))).ls 3 : Nat)] uS (fun V hV => web_last (HW.out.below (HB2.out.2.trans (hV.mono HB2.out.2.size))) _ (kd_lt _ _)) huS huR (by rw [info_set]; rfl)) ?_
      (try simp only [Act.put, List.setIfInBounds_toArray, List.set_cons_zero, List.set_cons_succ])
      refine wpAnyH_all (rs := [11]) (by kernel_rfl) (by simp) (fun i hi => ?_)
      obtain rfl : i = 11 := List.mem_singleton.1 hi
      refine op_call (some 52) rfl rfl (by rfl) (by go_simp; (try with_reducible rfl)) (R := fun v w' => v = .bool (meetB tk1 (a (kdG s.size (i + 1))).ls) ∧ Below W2.heap.size W2 w') ((meet_any tk1 (a (kdG s.size (i + 1))).ls _).mono (fun e w' h => ⟨_, h.1, rfl, hSb.trans (h.2.mono hSb.size)⟩)) ?_
      rintro v W3 ⟨rfl, hb3⟩
      refine And.intro hb3 ?_
      refine wpAnyH_done (by kernel_rfl) ?_ _
      refine hK4 _ _ ?_
      simp only [Act.put, List.setIfInBounds_toArray, List.set_cons_zero, List.set_cons_succ]
      have R3 := (R0.out.step HB2.out.1).step hb3
      have W3T : Set4 W3 wr.heap.size tk1 := hT.below hb3 hT.lt
      have hT3 : wr.heap.size < W3.heap.size := W3T.lt
      have HB3 := hideT (And.intro R3.bel (And.intro W3T R3))
      clear hb3 hT hSb HB2 hK4
      cases hm : meetB tk1 (a (kdG s.size (i + 1))).ls with
      | true =>
       have HE2 := hideT (show (l ++ [i + 1]) ++ enB s.size (sbN s) a ps (s.size - (i + 1)) (i + 1) (bhB ps tk1) = RR by
        rw [← HE.out, HEN.out, hm, List.append_assoc]; rfl)
       clear hm R3 W3T
       go_wp2_with (at_builtin; refine wpList_append_lies _ rfl _ _ 31 rfl w.heap.size 3 i0 _ 1 8 und_ints hi0 hz0 hz1 hz2 rfl (by omega) _ (l).length (inL (l)) rfl (owns_below HB3.out.2.2.own ((Below.refl W3.heap.size W3).alloc (Nat.le_refl _) _)) ⟨W3.heap.size, 0, none⟩ 1 1 [.int .i64 ((i : Int) + 1)] rfl rfl (fun j u hj => new_cells W3 [.int .i64 ((i : Int) + 1)] 3 j u hj) (by simp [Value.oneCell']) (by omega) (by unfold maxLen; omega) (by omega) (by rw [World.size_alloc]; have := HB3.out.1.size; omega) _ rfl ?_)
       intro g4 gc4 W4 hown4 hgr4 hat4 _
       have R4 : EnR w W4 Q (.slice (some ⟨g4, 0, none⟩) (l.length + 1) gc4) (l ++ [i + 1]) wt := HB3.out.2.2.app (n := i + 1) hgr4 (by rw [Int.natCast_succ]; exact hown4) (hat4.imp id (fun e => by rw [World.size_alloc]; exact e))
       have W4T : Set4 W4 wr.heap.size tk1 := by
        refine (hgr4.block wr.heap.size (by rw [World.size_alloc]; omega) (fun e => ?_)).trans ((HB3.out.2.1).below ((Below.refl W3.heap.size W3).alloc (Nat.le_refl _) _) HB3.out.2.1.lt)
        have := (R0.out.own.lt _ e.symm).2
        omega
       clear hown4 hgr4 hat4
       have T1 := W4T
       obtain ⟨⟨t0, t1, t2, t3⟩, -⟩ := Set4.holds T1
       have HBH := hideT (behind_any tk1 W4 (HW.out.below R4.bel) HTI.out)
       have HR5 := hideT R4
       clear T1
       go_wp2_with fail
       refine (HBH.out).mono ?_
       rintro e W5 ⟨rfl, hb5⟩
       have R5 := HR5.out.step hb5
       obtain ⟨⟨q0, q1, q2, q3⟩, ⟨f0, f1, f2, f3⟩⟩ := Set4.holds R5.set
       have HR6 := hideT (R5.put (bhB ps tk1))
       clear R5 hb5 HBH HR5 t0 t1 t2 t3
       go_wp2
       exact ⟨⟨i + 1, l ++ [i + 1], bhB ps tk1, by omega, by omega, by go_num, HR6.out, bh_in (fun p hp q => (HN.out p hp q).1), HE2⟩, by simp [intOf]; omega⟩
      | false =>
       have HE2 := hideT (show l ++ enB s.size (sbN s) a ps (s.size - (i + 1)) (i + 1) (bhB ps tk1) = RR by
        rw [← HE.out, HEN.out, hm]; rfl)
       clear hm
       have T1 := W3T
       obtain ⟨⟨t0, t1, t2, t3⟩, -⟩ := Set4.holds T1
       have HBH := hideT (behind_any tk1 W3 (HW.out.below R3.bel) HTI.out)
       have HR5 := hideT R3
       clear T1
       go_wp2_with fail
       refine (HBH.out).mono ?_
       rintro e W5 ⟨rfl, hb5⟩
       have R5 := HR5.out.step hb5
       obtain ⟨⟨q0, q1, q2, q3⟩, ⟨f0, f1, f2, f3⟩⟩ := Set4.holds R5.set
       have HR6 := hideT (R5.put (bhB ps tk1))
       clear R5 hb5 HBH HR5 t0 t1 t2 t3
       go_wp2
       exact ⟨⟨i + 1, l, bhB ps tk1, by omega, by omega, by go_num, HR6.out, bh_in (fun p hp q => (HN.out p hp q).1), HE2⟩, by simp [intOf]; omega⟩
    ·have i1 : ((i : Int) < (s.size : Int)) = False := by rw [eq_iff_iff, iff_false]; omega
     have hx : l = RR := by
      rw [← HE.out, show s.size - i = 0 by omega]
      simp [enB]
     have R0 := hideT hR
     clear hR
     subst hx
     go_wp2
     go_ret
     exact ⟨_, rfl, R0.out.own, R0.out.bel⟩
 have HKEY := hideT key
 clear key hK2
 refine wp_region_held (S := fun V => Below w.heap.size w V) (by kernel_rfl) ?_
 refine' take_d 0 (some 12) rfl rfl (by kernel_rfl) (by kernel_rfl) (by kernel_rfl) (fun _ _ _ h => h) (by rfl) hS0 ?hy2 ?rest2
 case hy2 => intro V _; go_simp; (try with_reducible rfl)
 refine' take_d 1 (some 13) rfl rfl (by kernel_rfl) (by kernel_rfl) (by kernel_rfl) (fun _ _ _ h => h) (by rfl) hS0 ?hy3 ?rest3
 case hy3 => intro V _; go_simp; (try with_reducible rfl)
 refine' take_d 2 (some 14) rfl rfl (by kernel_rfl) (by kernel_rfl) (by kernel_rfl) (fun _ _ _ h => h) (by rfl) hS0 ?hy4 ?rest4
 case hy4 => intro V _; go_simp; (try with_reducible rfl)
 refine' take_d 4 (some 16) rfl rfl (by kernel_rfl) (by kernel_rfl) (by kernel_rfl) (fun _ _ _ h => h) (by rfl) hS0 ?hy5 ?rest5
 case hy5 => intro V _; go_simp; (try with_reducible rfl)
 refine' take_d 5 (some 17) rfl rfl (by kernel_rfl) (by kernel_rfl) (by kernel_rfl) (fun _ _ _ h => h) (by rfl) hS0 ?hy6 ?rest6
 case hy6 => intro V _; go_simp; (try with_reducible rfl)
 (try simp only [Act.put, List.setIfInBounds_toArray, List.set_cons_zero, List.set_cons_succ])
 refine wpAnyH_all (rs := [3, 8]) (by kernel_rfl) (by simp) (fun i hi => ?_)
 have hc2 : i = 3 ∨ i = 8 := by simpa using hi
 rcases hc2 with rfl | rfl
 ·refine op_call (some 15) rfl rfl (by rfl) (by go_simp; (try with_reducible rfl)) (R := fun v w' => v = .int .i64 (kdG s.size at_ : Nat) ∧ w' = w.drew) ((HK.out _ _).mono (fun e w' h => ⟨_, h.1, rfl, h.2⟩)) ?_
  rintro v w' ⟨rfl, rfl⟩
  refine And.intro hS0 ?_
  refine' take_d 6 (some 18) rfl rfl (by kernel_rfl) (by kernel_rfl) (by kernel_rfl) (fun _ _ _ h => h) (by rfl) hS0 ?hy7 ?rest7
  case hy7 => intro V _; go_simp; (try with_reducible rfl)
  refine take_y 7 (some 19) rfl rfl (by kernel_rfl) (by kernel_rfl) (by kernel_rfl) (fun _ _ _ h => h) hS0 (yieldsIf_load_mid (by rfl) 78 _ rfl b (1 + kdG s.size at_ * 9) rfl (bdV (a (kdG s.size at_))) ud (fun V hV => web_range (HW.out.below hV) _ (kd_lt _ _)) hud hur (by rw [info_border]; rfl)) ?_
  (try simp only [Act.put, List.setIfInBounds_toArray, List.set_cons_zero, List.set_cons_succ])
  refine wpAnyH_all (rs := [8]) (by kernel_rfl) (by simp) (fun i hi => ?_)
  obtain rfl : i = 8 := List.mem_singleton.1 hi
  refine op_value (some 8) rfl rfl (by rfl) (v := .pointer (some ⟨w.heap.size, 0, none⟩)) (w' := w.drew.alloc (.cells #[.bool false, .int .u64 0, .int .u64 0, .int .u64 0, .int .u64 0, .int .u64 0, .int .u64 0, .int .u64 0, .int .u64 0] 78)) (by go_simp; (try with_reducible rfl)) ⟨hA1, ?_⟩
  (try simp only [Act.put, List.setIfInBounds_toArray, List.set_cons_zero, List.set_cons_succ])
  refine wpAnyH_all (rs := [9]) (by kernel_rfl) (by simp) (fun i hi => ?_)
  obtain rfl : i = 9 := List.mem_singleton.1 hi
  refine op_store 78 8 19 w.heap.size (bdV (a (kdG s.size at_))) rfl rfl rfl rfl rfl rfl (there_block zb _ rfl) (by rw [info_border]; rfl) (bdV_one _) ?_
  refine And.intro (below_setCells _ (Nat.le_refl _) _ _ _ hA1) ?_
  refine wpAnyH_done (by kernel_rfl) ?_ _
  simp only [Act.put]
  exact HKEY.out
 ·refine op_value (some 8) rfl rfl (by rfl) (v := .pointer (some ⟨w.heap.size, 0, none⟩)) (w' := w.drew.alloc (.cells #[.bool false, .int .u64 0, .int .u64 0, .int .u64 0, .int .u64 0, .int .u64 0, .int .u64 0, .int .u64 0, .int .u64 0] 78)) (by go_simp; (try with_reducible rfl)) ⟨hA1, ?_⟩
  (try simp only [Act.put, List.setIfInBounds_toArray, List.set_cons_zero, List.set_cons_succ])
  refine wpAnyH_all (rs := [3]) (by kernel_rfl) (by simp) (fun i hi => ?_)
  obtain rfl : i = 3 := List.mem_singleton.1 hi
  refine op_call (some 15) rfl rfl (by rfl) (by go_simp; (try with_reducible rfl)) (R := fun v w' => v = .int .i64 (kdG s.size at_ : Nat) ∧ w' = w.drew.alloc (.cells #[.bool false, .int .u64 0, .int .u64 0, .int .u64 0, .int .u64 0, .int .u64 0, .int .u64 0, .int .u64 0, .int .u64 0] 78)) ((HK.out _ _).mono (fun e w' h => ⟨_, h.1, rfl, h.2⟩)) ?_
  rintro v w' ⟨rfl, rfl⟩
  refine And.intro hA1 ?_
  refine' take_d 6 (some 18) rfl rfl (by kernel_rfl) (by kernel_rfl) (by kernel_rfl) (fun _ _ _ h => h) (by rfl) hA1 ?hy8 ?rest8
  case hy8 => intro V _; go_simp; (try with_reducible rfl)
  refine take_y 7 (some 19) rfl rfl (by kernel_rfl) (by kernel_rfl) (by kernel_rfl) (fun _ _ _ h => h) hA1 (yieldsIf_load_mid (by rfl) 78 _ rfl b (1 + kdG s.size at_ * 9) rfl (bdV (a (kdG s.size at_))) ud (fun V hV => web_range (HW.out.below hV) _ (kd_lt _ _)) hud hur (by rw [info_border]; rfl)) ?_
  (try simp only [Act.put, List.setIfInBounds_toArray, List.set_cons_zero, List.set_cons_succ])
  refine wpAnyH_all (rs := [9]) (by kernel_rfl) (by simp) (fun i hi => ?_)
  obtain rfl : i = 9 := List.mem_singleton.1 hi
  refine op_store 78 8 19 w.heap.size (bdV (a (kdG s.size at_))) rfl rfl rfl rfl rfl rfl (there_block zb _ rfl) (by rw [info_border]; rfl) (bdV_one _) ?_
  refine And.intro (below_setCells _ (Nat.le_refl _) _ _ _ hA1) ?_
  refine wpAnyH_done (by kernel_rfl) ?_ _
  simp only [Act.put]
  exact HKEY.out
end Go.Proofs.Ytiedliahmjiadaa
