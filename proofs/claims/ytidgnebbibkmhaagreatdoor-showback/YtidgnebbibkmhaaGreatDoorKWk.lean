/- show: address: the walk. -/
import Derived.Test.YtidgnebbibkmhaaGreatDoorKWj
import Derived.Deep.RegionHeld3
set_option maxRecDepth 100000
set_option maxHeartbeats 4000000
namespace Go.Proofs.YtidgnebbibkmhaaGreatDoor
open Go.RowKit
open scanP scrP tpl ytb
namespace sho

theorem itoa_any (n : Nat) (hn : n ≤ 1000000000) (w : World) (ht : Tab w) : Calls Tryz.prog 64 #[.int .i64 (n : Int)] w fun e w' => e = .returned (.string (bst (Lib.decDigits n))) ∧ Below w.heap.size w w' := by
  refine (Tryz.strconv_Itoa (n : Int) (by omega) (by omega) w ht).mono ?_
  rintro e w' ⟨rfl, k, os, rfl⟩
  exact ⟨by rw [Lib.itoa_nonneg]; rfl, below_growN w k os⟩
theorem dec_lt (n : Nat) (h : n < 10000000000) : (Lib.decDigits n).length ≤ 10 := dec_len 9 n h
def adS (a : Adr) (x : List UInt8 × Bool) : List UInt8 × Bool :=
  if a.k = 1 then (x.1 ++ Lib.decDigits a.ln, x.2)
  else if a.k = 2 then (x.1 ++ [36], x.2)
  else if a.k = 3 then btS [a.re] (x.1 ++ (if frB 47 [a.re] = true then [] else [92]), x.2)
  else x
def adV (a : Adr) : Array Value := #[.int .i64 (a.k : Int), .int .i64 (a.ln : Int), .string (bst a.re)]
/-- A box of three cells. -/
structure B3 (W : World) (x : Nat) (u0 u1 u2 : Value) : Prop where
  c0 : W.cell? ⟨x, 0, none⟩ = some u0
  c1 : W.cell? ⟨x, 1, none⟩ = some u1
  c2 : W.cell? ⟨x, 2, none⟩ = some u2
theorem B3.new (W : World) (u0 u1 u2 : Value) (t : TypeId) : B3 (W.alloc (.cells #[u0, u1, u2] t)) W.heap.size u0 u1 u2 := by
  constructor <;> (rw [Lib.cell_of_heap (heap_alloc_new W _)]; rfl)
theorem B3.keep {W W' : World} {x : Nat} {u0 u1 u2 : Value} (h : B3 W x u0 u1 u2) (hk : W'.heap[x]? = W.heap[x]?) : B3 W' x u0 u1 u2 :=
  ⟨(World.cell?_of_block (a := ⟨x, 0, none⟩) hk).trans h.c0, (World.cell?_of_block (a := ⟨x, 1, none⟩) hk).trans h.c1, (World.cell?_of_block (a := ⟨x, 2, none⟩) hk).trans h.c2⟩
theorem notW_new {W : World} {B b : Nat} {l : List UInt8} {st : Bool} (h : Wr W B b l st) (o : Obj) : NotW (W.alloc o) b W.heap.size := by
  obtain ⟨p, v, h⟩ := h
  have hlt := h.lt
  refine ⟨by simp, fun e => by omega, fun p1 v1 s1 h1 e => ?_⟩
  have hb : (W.alloc o).heap[b]? = W.heap[b]? := ((Below.refl W.heap.size W).alloc (Nat.le_refl _) o).block b hlt
  rw [hb, h.blk] at h1
  injection h1 with h1
  injection h1 with h1
  injection h1 with h1
  injection h1 with _ h1
  injection h1 with h1
  subst h1
  have := (h.own.lt _ e).2
  omega
theorem WP.al {W : World} {B b : Nat} {l : List UInt8} {st : Bool} (h : Wr W B b l st) (hB : B ≤ W.heap.size) (o : Obj) : WP W B b l st (W.alloc o) := (WP.refl h).stay hB ((Below.refl _ _).alloc (Nat.le_refl _) o)
theorem tsR_one (W : World) (t : List UInt8) (ty : TypeId) : TsR (W.alloc (.cells #[.string (bst t)] ty)) W.heap.size [t] := fun k u hu => by
  cases k with
  | zero => cases hu; rw [Lib.cell_of_heap (heap_alloc_new W _)]; rfl
  | succ k => simp at hu
theorem xa5 {W : World} {B b : Nat} {l : List UInt8} {st : Bool} (h : Wr W B b l st) (hB : B ≤ W.heap.size) (hB2 : 2 < B) (hg : Gs W) (a : Adr) (hk : a.k ≤ 3) (hn : a.ln ≤ 1000000000) (hb : l.length + a.re.length ≤ 900000000) :
    Calls Tryz.prog 43 #[.pointer (some ⟨b, 0, none⟩), .agg (adV a)] W fun e w' => e = .returned (.tuple #[]) ∧ WP W B b (adS a (l, st)).1 (adS a (l, st)).2 w' := by
  obtain ⟨k, ln, re⟩ := a
  simp only at hk hn hb
  unfold adV
  simp only
  have hw0 := WP.al h hB (.cells #[.int .i64 (k : Int), .int .i64 (ln : Int), .string (bst re)] 36)
  have hx0 := B3.new W (.int .i64 (k : Int)) (.int .i64 (ln : Int)) (.string (bst re)) 36
  have hn0 := notW_new h (.cells #[.int .i64 (k : Int), .int .i64 (ln : Int), .string (bst re)] 36)
  have H0 := hideT (And.intro hw0 (And.intro hx0 (And.intro hn0 (hg.below hw0.2.1 hB2))))
  clear h hg hw0 hx0 hn0
  generalize hAS : adS ⟨k, ln, re⟩ (l, st) = R
  unfold adS at hAS
  simp only at hAS
  go_enter Tryz.func43, Tryz.ntmps43
  go_upto_region 1 with fail
  generalize W.alloc (.cells #[.int .i64 (k : Int), .int .i64 (ln : Int), .string (bst re)] 36) = X at *
  have HX : Hid (B ≤ X.heap.size) := hideT (Nat.le_trans hB H0.out.1.2.2.2)
  have HB0 := hideT hB
  have c0 := H0.out.2.1.c0
  clear hB
  by_cases k1 : k = 1
  · have e1 : ((k : Int) == 1) = true := by simp; omega
    rw [if_pos k1] at hAS
    have HAS := hideT hAS
    clear hAS k1
    go_wp2_with fail
    have c1 : X.drew.cell? ⟨W.heap.size, 1, none⟩ = some (.int .i64 (ln : Int)) := H0.out.2.1.c1
    have HI := hideT (fun V (hV : Below X.heap.size X V) => itoa_any ln hn V (H0.out.2.2.2.keep (hV.block 1 (by have := HX.out; omega)) (hV.block 2 (by have := HX.out; omega))).t)
    have HL := hideT (dec_lt ln (by omega))
    go_region_with (first | (go_at_call 64; go_must (refine (HI.out _ ((Below.refl _ _).drew)).mono ?_; rintro e w1 ⟨rfl, hb1⟩; have H1 := hideT (H0.out.1.stay HB0.out (((Below.refl X.heap.size X).drew).trans hb1)); clear hb1)) | (go_at_call 25; go_must (refine (wrS H1.out.1 (Nat.le_trans HB0.out H1.out.2.2.2) (bst (Lib.decDigits ln)) (by rw [xbt]; have := HL.out; omega)).mono ?_; rintro e w2 ⟨rfl, hp2⟩; have H2 := hideT (H1.out.trans hp2); clear hp2)))
    go_wp2
    go_end0
    rw [← HAS.out]
    rw [xbu] at H2
    exact ⟨rfl, H2.out⟩
  have e1 : ((k : Int) == 1) = false := by simp; omega
  rw [if_neg k1] at hAS
  by_cases k2 : k = 2
  · have e2 : ((k : Int) == 2) = true := by simp; omega
    rw [if_pos k2] at hAS
    have HAS := hideT hAS
    clear hAS k1 k2
    go_wp2_with fail
    refine (wrB H0.out.1.1 HX.out 36 (by omega)).mono ?_
    rintro e w2 ⟨rfl, hp2⟩
    have H2 := hideT (H0.out.1.trans hp2)
    clear hp2
    go_wp2
    go_end0
    rw [← HAS.out]
    exact ⟨rfl, H2.out⟩
  have e2 : ((k : Int) == 2) = false := by simp; omega
  rw [if_neg k2] at hAS
  by_cases k3 : k = 3
  · have e3 : ((k : Int) == 3) = true := by simp; omega
    rw [if_pos k3] at hAS
    have HAS := hideT hAS
    clear hAS k1 k2 k3
    have c2 := H0.out.2.1.c2
    go_wp2_with fail
    refine (isFree_any 47 47 rfl [re] X.heap.size _ (tsR_one X re 9) (by simp)).mono ?_
    rintro e w1 ⟨rfl, rfl⟩
    have key : ∀ m (V : World), Hid (btS [re] (m, st) = R) → Hid (m.length ≤ l.length + 1) → Hid (WP W B b m st V) → Hid (B ≤ V.heap.size) → Calls Tryz.prog 66 #[.pointer (some ⟨b, 0, none⟩), .slice (some ⟨V.heap.size, 0, none⟩) 1 1] (V.alloc (.cells #[.string (bst re)] 9)) fun e w' => e = .returned (.tuple #[]) ∧ WP W B b R.1 R.2 w' := fun m V h1 h2 h3 h4 => by
      refine (between_any (WP.al h3.out.1 h4.out _).1 (Nat.le_trans h4.out (by simp)) [re] (tsR_one V re 9) (notW_new h3.out.1 _) (by simp) (by have := h2.out; simp [tsN]; omega)).mono ?_
      rintro e w' ⟨rfl, hp⟩
      rw [h1.out] at hp
      exact ⟨rfl, (h3.out.trans (WP.al h3.out.1 h4.out _)).trans hp⟩
    have KEY := hideT key
    clear key
    cases hf : frB 47 [re] with
    | true =>
      rw [hf, if_pos rfl, List.append_nil] at HAS
      have H1 := hideT (H0.out.1.trans (WP.al H0.out.1.1 HX.out (.cells #[.string (bst re)] 9)))
      have c3 : (X.alloc (.cells #[.string (bst re)] 9)).cell? ⟨W.heap.size, 2, none⟩ = some (.string (bst re)) := (World.cell?_of_block (a := ⟨W.heap.size, 2, none⟩) (((Below.refl X.heap.size X).alloc (Nat.le_refl _) (.cells #[.string (bst re)] 9)).block W.heap.size H0.out.2.2.1.1)).trans c2
      have HXA : Hid (B ≤ (X.alloc (.cells #[.string (bst re)] 9)).heap.size) := hideT (Nat.le_trans HX.out (by simp))
      clear c2 hf
      go_upto_region 9 with fail
      generalize X.alloc (.cells #[.string (bst re)] 9) = Y at *
      go_wp2_with fail
      refine (KEY.out l Y HAS (hideT (by omega)) H1 HXA).mono ?_
      rintro e w2 ⟨rfl, hp⟩
      have H2 := hideT hp
      clear hp
      go_wp2
      go_end0
      exact ⟨rfl, H2.out⟩
    | false =>
      rw [hf, if_neg (by simp)] at HAS
      have H1 := hideT (WP.al H0.out.1.1 HX.out (.cells #[.string (bst re)] 9))
      have hN := H1.out.2.2.1 W.heap.size H0.out.2.2.1
      have HXA : Hid (B ≤ (X.alloc (.cells #[.string (bst re)] 9)).heap.size) := hideT (Nat.le_trans HX.out (by simp))
      have c3 : (X.alloc (.cells #[.string (bst re)] 9)).cell? ⟨W.heap.size, 2, none⟩ = some (.string (bst re)) := (World.cell?_of_block (a := ⟨W.heap.size, 2, none⟩) hN.2).trans c2
      have HN := hideT hN
      clear c2 hf hN
      go_upto_region 8 with fail
      generalize X.alloc (.cells #[.string (bst re)] 9) = Y at *
      go_wp2_with fail
      refine (wrB H1.out.1 HXA.out 92 (by omega)).mono ?_
      rintro e w2 ⟨rfl, hp⟩
      have H2 := hideT ((H0.out.1.trans H1.out).trans hp)
      have c4 : w2.cell? ⟨W.heap.size, 2, none⟩ = some (.string (bst re)) := (World.cell?_of_block (a := ⟨W.heap.size, 2, none⟩) (hp.2.2.1 W.heap.size HN.out.1).2).trans c3
      have HB2 : Hid (B ≤ w2.heap.size) := hideT (Nat.le_trans HXA.out hp.2.2.2)
      clear hp c3
      go_wp2_with fail
      refine (KEY.out _ w2 HAS (hideT (by simp)) H2 HB2).mono ?_
      rintro e w3 ⟨rfl, hp⟩
      have H3 := hideT hp
      clear hp
      go_wp2
      go_end0
      exact ⟨rfl, H3.out⟩
  have e3 : ((k : Int) == 3) = false := by simp; omega
  rw [if_neg k3] at hAS
  have HAS := hideT hAS
  clear hAS k1 k2 k3
  go_wp2
  go_end0
  rw [← HAS.out]
  exact ⟨rfl, H0.out.1⟩

end sho
end Go.Proofs.YtidgnebbibkmhaaGreatDoor
