/- show: numbers, addresses, templates, substitutions, a command, Text. -/
import Derived.Test.YtidgnebbibkmhaaGreatDoorKBa
import Derived.Test.YtidgnebbibkmhaaGreatDoorKSw2
import Derived.Deep.RegionHeld3
import Derived.Test.YtidgnebbibkmhaaGreatDoorKSw1
import Derived.Test.YtidgnebbibkmhaaGreatDoorKTd
import Derived.Lib.ConvBytes
import Derived.Test.YtidgnebbibkmhaaGreatDoorKXw1
import Derived.Lib.UnsafeStr
set_option maxRecDepth 100000
set_option maxHeartbeats 8000000
namespace Go.Proofs.YtidgnebbibkmhaaGreatDoor
open Go.RowKit
open scanP scrP tpl ytb
variable {P : Prop}
theorem bsw30 (h : P := by
 go_wp2_with fail
 refine (xb6 _ _ _ _ _ HB.out.1 (by have := HB.out.2.2.2; omega) (by have := HB.out.2.1.size; omega)).mono ?_;rintro e w1 ⟨rfl, h1, hb1, hk1⟩;have HF1 := hideT (And.intro h1 (And.intro (HB.out.2.1.trans hb1) (HB.out.2.2.1.trans hk1)));clear h1 hb1 hk1 ck
 go_wp2_with fail
 refine (xb6 _ _ _ _ _ (.inr HF1.out.1) (by rw [List.length_append]; have := HB.out.2.2.2; simp only [List.length_singleton]; omega) (by have := HF1.out.2.1.size; omega)).mono ?_;rintro e w2 ⟨rfl, h1, hb1, hk1⟩;have HF := hideT (And.intro h1 (And.intro (HF1.out.2.1.trans hb1) (HF1.out.2.2.trans hk1)));clear h1 hb1 hk1;go_wp2;refine ⟨⟨k + 1, by omega, by go_num, .inr ?_, HF.out.2.1, HF.out.2.2⟩, by simp [intOf]; omega⟩;rw [HE.out, <- List.append_assoc, cells_app _ [92, c], show Lib.byteCells [92, c] = [.int .u8 92] ++ [.int .u8 (c.toNat : Nat)] from rfl, <- List.append_assoc, c2];exact HF.out.1) : P := h
theorem bsw31 (h : P := by
 go_wp2;refine ⟨⟨k + 1, l ++ oneT p, by omega, by go_num, ?_, HF.out.2, ?_, ?_⟩, by simp [intOf]; omega⟩
 ·rw [HO1.out];exact HF.out.1
 ·rw [HD.out, <- hres];exact HR.out
 ·rw [HD.out, List.length_append];have := HL.out;omega) : P := h
theorem bsw32 (h : P := by
 exact ⟨fun u e l st => (by cases e; rfl), fun e => (by cases e), fun _ => rfl⟩) : P := h
theorem bsw33 (h : P := by
 rintro e w1 ⟨rfl, hp⟩;have H1 := hideT hp;clear hp;go_wp2
 go_end0
 rw [<- HR.out];exact ⟨rfl, H0.out.2.trans H1.out⟩) : P := h
theorem bsw34 (h : P := by
 split <;> simp only [List.length_cons, List.length_nil] <;> omega) : P := h
namespace sho
theorem itoa_any (n : Nat) (hn : n <= 1000000000) (w : World) (ht : Tab w) : Calls Tryz.prog 64 #[.int .i64 (n : Int)] w fun e w' => e = .returned (.string (bst (Lib.decDigits n))) /\ Below w.heap.size w w' := by
 refine (Tryz.strconv_Itoa (n : Int) (by omega) (by omega) w ht).mono ?_;rintro e w' ⟨rfl, k, os, rfl⟩;exact ⟨by rw [Lib.itoa_nonneg]; rfl, below_growN w k os⟩
theorem dec_lt (n : Nat) (h : n < 10000000000) : (Lib.decDigits n).length <= 10 := dec_len 9 n h
def adS (a : Adr) (x : List UInt8 × Bool) : List UInt8 × Bool :=
 if a.k = 1 then (x.1 ++ Lib.decDigits a.ln, x.2)
 else if a.k = 2 then (x.1 ++ [36], x.2)
 else if a.k = 3 then btS [a.re] (x.1 ++ (if frB 47 [a.re] = true then [] else [92]), x.2)
 else x
def adV (a : Adr) : Array Value := #[.int .i64 (a.k : Int), .int .i64 (a.ln : Int), .string (bst a.re)]
structure B3 (W : World) (x : Nat) (u0 u1 u2 : Value) : Prop where
 c0 : W.cell? ⟨x, 0, none⟩ = some u0
 c1 : W.cell? ⟨x, 1, none⟩ = some u1
 c2 : W.cell? ⟨x, 2, none⟩ = some u2
theorem B3.new (W : World) (u0 u1 u2 : Value) (t : TypeId) : B3 (W.alloc (.cells #[u0, u1, u2] t)) W.heap.size u0 u1 u2 := by
 constructor <;> (rw [Lib.cell_of_heap (heap_alloc_new W _)]; rfl)
variable {W : World} {B b : Nat} {l : List UInt8} {st : Bool}
theorem B3.keep {W' : World} {x : Nat} {u0 u1 u2 : Value} (h : B3 W x u0 u1 u2) (hk : W'.heap[x]? = W.heap[x]?) : B3 W' x u0 u1 u2 :=
 ⟨(World.cell?_of_block (a := ⟨x, 0, none⟩) hk).trans h.c0, (World.cell?_of_block (a := ⟨x, 1, none⟩) hk).trans h.c1, (World.cell?_of_block (a := ⟨x, 2, none⟩) hk).trans h.c2⟩
theorem notW_new (h : Wr W B b l st) (o : Obj) : NotW (W.alloc o) b W.heap.size := by
 obtain ⟨p, v, h⟩ := h;have hlt := h.lt;refine ⟨by simp, fun e => by omega, fun p1 v1 s1 h1 e => ?_⟩;have hb : (W.alloc o).heap[b]? = W.heap[b]? := (Bal W o).block b hlt;rw [hb, h.blk] at h1;injection h1 with h1
 injection h1 with h1
 injection h1 with h1
 injection h1 with _ h1
 injection h1 with h1
 subst h1;have := (h.own.lt _ e).2;omega
theorem WP.al (h : Wr W B b l st) (hB : B <= W.heap.size) (o : Obj) : WP W B b l st (W.alloc o) := (WP.refl h).stay hB ((Below.refl _ _).alloc qr o)
theorem tsR_one (W : World) (t : List UInt8) (ty : TypeId) : TsR (W.alloc (.cells #[.string (bst t)] ty)) W.heap.size [t] := fun k u hu => by
 cases k with
 | zero => cases hu; rw [Lib.cell_of_heap (heap_alloc_new W _)]; rfl
 | succ k => simp at hu
theorem xa5 (h : Wr W B b l st) (hB : B <= W.heap.size) (hB2 : 2 < B) (hg : Gs W) (a : Adr) (hk : a.k <= 3) (hn : a.ln <= 1000000000) (hb : l.length + a.re.length <= 900000000) :
  Calls Tryz.prog 43 #[.pointer (some ⟨b, 0, none⟩), .agg (adV a)] W fun e w' => e = .returned (.tuple #[]) /\ WP W B b (adS a (l, st)).1 (adS a (l, st)).2 w' := by
 obtain ⟨k, ln, re⟩ := a;simp only at hk hn hb;unfold adV;simp only;have hw0 := WP.al h hB (.cells #[.int .i64 (k : Int), .int .i64 (ln : Int), .string (bst re)] 36);have hx0 := B3.new W (.int .i64 (k : Int)) (.int .i64 (ln : Int)) (.string (bst re)) 36;have hn0 := notW_new h (.cells #[.int .i64 (k : Int), .int .i64 (ln : Int), .string (bst re)] 36);have H0 := hideT (And.intro hw0 (And.intro hx0 (And.intro hn0 (hg.below hw0.2.1 hB2))));clear h hg hw0 hx0 hn0;generalize hAS : adS ⟨k, ln, re⟩ (l, st) = R;unfold adS at hAS;simp only at hAS;go_enter Tryz.func43, Tryz.ntmps43;go_upto_region 1 with fail
 generalize W.alloc (.cells #[.int .i64 (k : Int), .int .i64 (ln : Int), .string (bst re)] 36) = X at *;have HX : Hid (B <= X.heap.size) := hideT (Nat.le_trans hB H0.out.1.2.2.2);have HB0 := hideT hB;have c0 := H0.out.2.1.c0;clear hB;by_cases k1 : k = 1
 ·have e1 : ((k : Int) == 1) = true := by simp; omega
  rw [if_pos k1] at hAS;have HAS := hideT hAS;clear hAS k1
  go_wp2_with fail
  have c1 : X.drew.cell? ⟨W.heap.size, 1, none⟩ = some (.int .i64 (ln : Int)) := H0.out.2.1.c1;have HI := hideT (fun V (hV : Below X.heap.size X V) => itoa_any ln hn V (H0.out.2.2.2.keep (hV.block 1 (by have := HX.out; omega)) (hV.block 2 (by have := HX.out; omega))).t);have HL := hideT (dec_lt ln (by omega))
  go_region_with (first | (go_at_call 64; go_must (refine (HI.out _ ((Below.refl _ _).drew)).mono ?_; rintro e w1 ⟨rfl, hb1⟩; have H1 := hideT (H0.out.1.stay HB0.out (((Below.refl X.heap.size X).drew).trans hb1)); clear hb1)) | (go_at_call 25; go_must (refine (wrS H1.out.1 (Nat.le_trans HB0.out H1.out.2.2.2) (bst (Lib.decDigits ln)) (by rw [xbt]; have := HL.out; omega)).mono ?_; rintro e w2 ⟨rfl, hp2⟩; have H2 := hideT (H1.out.trans hp2); clear hp2)))
  go_wp2
  go_end0
  rw [<- HAS.out];rw [xbu] at H2;exact ⟨rfl, H2.out⟩
 have e1 : ((k : Int) == 1) = false := by simp; omega
 rw [if_neg k1] at hAS;by_cases k2 : k = 2
 ·have e2 : ((k : Int) == 2) = true := by simp; omega
  rw [if_pos k2] at hAS;have HAS := hideT hAS;clear hAS k1 k2
  go_wp2_with fail
  refine (wrB H0.out.1.1 HX.out 36 (by omega)).mono ?_;rintro e w2 ⟨rfl, hp2⟩;have H2 := hideT (H0.out.1.trans hp2);clear hp2;go_wp2
  go_end0
  rw [<- HAS.out];exact ⟨rfl, H2.out⟩
 have e2 : ((k : Int) == 2) = false := by simp; omega
 rw [if_neg k2] at hAS;by_cases k3 : k = 3
 ·have e3 : ((k : Int) == 3) = true := by simp; omega
  rw [if_pos k3] at hAS;have HAS := hideT hAS;clear hAS k1 k2 k3;have c2 := H0.out.2.1.c2
  go_wp2_with fail
  refine (isFree_any 47 47 rfl [re] X.heap.size _ (tsR_one X re 9) (by simp)).mono ?_;rintro e w1 ⟨rfl, rfl⟩;have key : ∀ m (V : World), Hid (btS [re] (m, st) = R) -> Hid (m.length <= l.length + 1) -> Hid (WP W B b m st V) -> Hid (B <= V.heap.size) -> Calls Tryz.prog 66 #[.pointer (some ⟨b, 0, none⟩), .slice (some ⟨V.heap.size, 0, none⟩) 1 1] (V.alloc (.cells #[.string (bst re)] 9)) fun e w' => e = .returned (.tuple #[]) /\ WP W B b R.1 R.2 w' := fun m V h1 h2 h3 h4 => by
   refine (between_any (WP.al h3.out.1 h4.out _).1 (Nat.le_trans h4.out (by simp)) [re] (tsR_one V re 9) (notW_new h3.out.1 _) (by simp) (by have := h2.out; simp [tsN]; omega)).mono ?_;rintro e w' ⟨rfl, hp⟩;rw [h1.out] at hp;exact ⟨rfl, (h3.out.trans (WP.al h3.out.1 h4.out _)).trans hp⟩
  have KEY := hideT key;clear key;cases hf : frB 47 [re] with
  | true =>
   rw [hf, if_pos rfl, List.append_nil] at HAS;have H1 := hideT (H0.out.1.trans (WP.al H0.out.1.1 HX.out (.cells #[.string (bst re)] 9)));have c3 : (X.alloc (.cells #[.string (bst re)] 9)).cell? ⟨W.heap.size, 2, none⟩ = some (.string (bst re)) := (World.cell?_of_block (a := ⟨W.heap.size, 2, none⟩) ((Bal X (.cells #[.string (bst re)] 9)).block W.heap.size H0.out.2.2.1.1)).trans c2;have HXA : Hid (B <= (X.alloc (.cells #[.string (bst re)] 9)).heap.size) := hideT (Nat.le_trans HX.out (by simp));clear c2 hf;go_upto_region 9 with fail
   generalize X.alloc (.cells #[.string (bst re)] 9) = Y at *
   go_wp2_with fail
   refine (KEY.out l Y HAS (hideT (by omega)) H1 HXA).mono ?_;rintro e w2 ⟨rfl, hp⟩;have H2 := hideT hp;clear hp;go_wp2
   go_end0
   exact ⟨rfl, H2.out⟩
  | false =>
   rw [hf, if_neg (by simp)] at HAS;have H1 := hideT (WP.al H0.out.1.1 HX.out (.cells #[.string (bst re)] 9));have hN := H1.out.2.2.1 W.heap.size H0.out.2.2.1;have HXA : Hid (B <= (X.alloc (.cells #[.string (bst re)] 9)).heap.size) := hideT (Nat.le_trans HX.out (by simp));have c3 : (X.alloc (.cells #[.string (bst re)] 9)).cell? ⟨W.heap.size, 2, none⟩ = some (.string (bst re)) := (World.cell?_of_block (a := ⟨W.heap.size, 2, none⟩) hN.2).trans c2;have HN := hideT hN;clear c2 hf hN;go_upto_region 8 with fail
   generalize X.alloc (.cells #[.string (bst re)] 9) = Y at *
   go_wp2_with fail
   refine (wrB H1.out.1 HXA.out 92 (by omega)).mono ?_;rintro e w2 ⟨rfl, hp⟩;have H2 := hideT ((H0.out.1.trans H1.out).trans hp);have c4 : w2.cell? ⟨W.heap.size, 2, none⟩ = some (.string (bst re)) := (World.cell?_of_block (a := ⟨W.heap.size, 2, none⟩) (hp.2.2.1 W.heap.size HN.out.1).2).trans c3;have HB2 : Hid (B <= w2.heap.size) := hideT (Nat.le_trans HXA.out hp.2.2.2);clear hp c3
   go_wp2_with fail
   refine (KEY.out _ w2 HAS (hideT (by simp)) H2 HB2).mono ?_;rintro e w3 ⟨rfl, hp⟩;have H3 := hideT hp;clear hp;go_wp2
   go_end0
   exact ⟨rfl, H3.out⟩
 have e3 : ((k : Int) == 3) = false := by simp; omega
 rw [if_neg k3] at hAS;have HAS := hideT hAS;clear hAS k1 k2 k3;go_wp2
 go_end0
 rw [<- HAS.out];exact ⟨rfl, H0.out.1⟩
end sho
end Go.Proofs.YtidgnebbibkmhaaGreatDoor
namespace Go.Proofs.YtidgnebbibkmhaaGreatDoor
open Go.RowKit
open scanP scrP tpl ytb
namespace sho
variable {W W' : World} {B b T e : Nat} {bs : List Value}
theorem keep_gr2 {W2 : World} {n : Nat} {p v v' : Value} (hbk : W.heap[b]? = some (.cells #[p, v] 68 (0, 0))) (hown : W.ownsRow B 5 1 v n bs) (hg : W.grownBy W2 v.ownBlock) (hv : ∀ g, v'.ownBlock = some g -> v.ownBlock = some g \/ W.heap.size <= g) : KeepB W (W2.setCell ⟨b, 1, none⟩ v') b := fun r hr => by
 have e := hr.2.2 _ _ hbk;have hb2 : W2.heap[b]? = some (.cells #[p, v] 68 (0, 0)) := by
  rw [hg.block b (Array.getElem?_eq_some_iff.1 hbk).1 (fun e2 => by
   obtain ⟨_, _, cur, h3⟩ := owns_blk hown e2.symm;rw [hbk] at h3;cases h3)]
  exact hbk
 refine ⟨⟨?_, hr.2.1, fun p1 v1 h1 => ?_⟩, (put_far _ _ _ _ hr.2.1).trans (hg.block r hr.1 (fun e2 => e e2.symm))⟩
 ·have := hg.size;have := hr.1;simp;omega
 ·simp only [World.setCell, Array.getElem?_modify, if_true, hb2, Option.map_some] at h1;cases h1;have := hr.1;intro e3;rcases hv r e3 with h2 | h2
  ·exact e h2
  ·omega
theorem strCells_app (l : List UInt8) (s : ByteArray) : Lib.byteCells l ++ Lib.strCells s = Lib.byteCells (l ++ s.data.toList) := by rw [cells_app]; rfl
theorem writeString_any (B b : Nat) (l : List UInt8) (s : ByteArray) (w : World) (h : Lib.IsBuilder 68 5 B b (Lib.byteCells l) w) (hlen : l.length + s.size <= 140737488355328) (hBw : B <= w.heap.size) :
  Calls Tryz.prog 25 #[.pointer (some ⟨b, 0, none⟩), .string s] w fun e w' => e = .returned (.tuple #[.int .i64 s.size, .nilIface]) /\ (Lib.BuilderAt 68 5 B b (.pointer (some ⟨b, 0, none⟩)) (Lib.byteCells (l ++ s.data.toList)) w' /\ Below B w w' /\ KeepB w w' b) := by
 go_enter Tryz.func25, Tryz.ntmps25
 go_wp2_with (go_at_call 42; refine (xhf B b _ _ h).mono ?_)
 rintro e w1 ⟨rfl, h1, hb1, hk1⟩;obtain ⟨hB, v, hbk, hown, hne⟩ := h1;rw [Lib.byteCells_length] at hown;have c0 : w1.cell? ⟨b, 0, none⟩ = some (.pointer (some ⟨b, 0, none⟩)) := by rw [Lib.cell_of_heap hbk]; rfl
 have c1 : w1.cell? ⟨b, 1, none⟩ = some v := by rw [Lib.cell_of_heap hbk]; rfl
 obtain ⟨v', w2, hrun, hown', hgrow, hv'⟩ := app_str hown (by have := hb1.size; omega) s hlen 44;obtain ⟨ao, n', cap, rfl⟩ : ∃ ao n' cap, v' = .slice ao n' cap := by
  rcases hown'.2 with ⟨hv, _⟩ | ⟨g, cap, cur, hv, _⟩
  ·exact ⟨_, _, _, hv⟩
  ·exact ⟨_, _, _, hv⟩
 have hlt : b < w1.heap.size := (Array.getElem?_eq_some_iff.1 hbk).1;have hb2 : w2.heap[b]? = some (.cells #[.pointer (some ⟨b, 0, none⟩), v] 68 (0, 0)) := by
  rw [hgrow.block b hlt (fun e => hne e.symm)];exact hbk
 have d0 : w2.cell? ⟨b, 0, none⟩ = some (.pointer (some ⟨b, 0, none⟩)) := by rw [Lib.cell_of_heap hb2]; rfl
 have d1 : w2.cell? ⟨b, 1, none⟩ = some v := by rw [Lib.cell_of_heap hb2]; rfl
 have f1 : w2.frozen? ⟨b, 1, none⟩ = false := Lib.frozen_of_heap hb2 1;have HK := hideT (hk1.trans (keep_gr2 hbk hown hgrow (v' := .slice ao n' cap) hv'));have HP := hideT (Lib.BuilderAt.put (T := 68) (e := 5) hB hb2 (bs' := Lib.byteCells (l ++ s.data.toList)) (by rw [Lib.byteCells_length, List.length_append]; exact hown') (by decide));have HB := hideT ((hb1.grown hgrow (by have := hb1.size; omega) (fun k hk => (hown.lt k hk).1)).setCell (p := ⟨b, 1, none⟩) hB (.slice ao n' cap));have HR := hideT hrun;clear hrun hown' hgrow hv' hb2 hown hlt
 go_wp2_with (at_builtin; refine wpList_run rfl _ _ _ _ rfl HR.out ?_)
 go_wp2
 go_ret2
 exact ⟨rfl, HP.out, HB.out, HK.out⟩
theorem escL_app (l m : List UInt8) : escL (l ++ m) = escL l ++ escL m := by
 induction l with
 | nil => rfl
 | cons b r ih => simp only [List.cons_append, escL, ih, List.append_assoc]
theorem escL_len (l : List UInt8) : (escL l).length <= 2 * l.length := by
 induction l with
 | nil => simp [escL]
 | cons b r ih =>
  simp only [escL, List.length_append, List.length_cons];split
  ·simp only [List.length_cons, List.length_nil]; omega
  ·exact bsw34
theorem bu_stay (h : Lib.IsBuilder T e B b bs W) (hb : Below W.heap.size W W') : Lib.IsBuilder T e B b bs W' := by
 rcases h with ⟨h0, v, h1, h2, h3⟩ | ⟨h0, v, h1, h2, h3⟩
 ·exact .inl ⟨h0, v, (hb.block b (Array.getElem?_eq_some_iff.1 h1).1).trans h1, owns_below h2 hb, h3⟩
 ·exact .inr ⟨h0, v, (hb.block b (Array.getElem?_eq_some_iff.1 h1).1).trans h1, owns_below h2 hb, h3⟩
theorem esc_take (s : ByteArray) (k : Nat) (h : k < s.size) : escL (s.data.toList.take (k + 1)) = escL (s.data.toList.take k) ++ (if (s[k]'h).toNat = 10 then [92, 110] else if (s[k]'h).toNat = 92 \/ (s[k]'h).toNat = 38 then [92, s[k]'h] else [s[k]'h]) := by
 rw [take_snocB s k h, escL_app];simp only [escL, List.append_nil]
theorem bu_blk (h : Lib.IsBuilder T e B b bs W) : ∃ p v, W.heap[b]? = some (.cells #[p, v] T (0, 0)) /\ W.ownsRow B e 1 v bs.length bs := by
 rcases h with ⟨h0, v, h1, h2, h3⟩ | ⟨h0, v, h1, h2, h3⟩
 ·exact ⟨_, v, h1, h2⟩
 ·exact ⟨_, v, h1, h2⟩
theorem keep_below (hlt : b < W.heap.size) (hb : Below W.heap.size W W') : KeepB W W' b := fun r hr =>
 ⟨⟨Nat.lt_of_lt_of_le hr.1 hb.size, hr.2.1, fun p v hv => hr.2.2 p v ((hb.block b hlt).symm.trans hv)⟩, hb.block r hr.1⟩
theorem notB_new (h : Lib.IsBuilder 68 5 B b bs W) (hb : Below W.heap.size W W') (hs : W.heap.size < W'.heap.size) : NotB W' b W.heap.size := by
 obtain ⟨p, v, h1, h2⟩ := bu_blk h;have hlt := (Array.getElem?_eq_some_iff.1 h1).1;refine ⟨hs, by omega, fun p' v' hv => ?_⟩;rw [hb.block b hlt, h1] at hv;cases hv;intro e;have := (owns_blk h2 e).2.1;omega
theorem conv_below (w : World) (s : ByteArray) : Below w.heap.size w (Lib.bytesWorld w 5 s) := { os := rfl, tape := rfl, output := rfl, size := by rw [Lib.bytesWorld_size]; omega, block := fun k hk => Lib.bytesWorld_at_old w 5 s k hk }
theorem getD_byte (s : ByteArray) (k : Nat) (h : k < s.size) : (s.data.toList.getD k 0) = s[k]'h := by
 rw [List.getD_eq_getElem?_getD, List.getElem?_eq_getElem (by simpa using h)];rfl
theorem escape_any (B b : Nat) (l : List UInt8) (s : ByteArray) (w : World) (h : Lib.IsBuilder 68 5 B b (Lib.byteCells l) w) (hlen : l.length + 2 * s.size <= 140737488355328) (hBw : B <= w.heap.size) :
  Calls Tryz.prog 112 #[.pointer (some ⟨b, 0, none⟩), .string s] w fun e w' => e = .returned (.tuple #[]) /\ Lib.IsBuilder 68 5 B b (Lib.byteCells (l ++ escL s.data.toList)) w' /\ Below B w w' := by
 have hconv := Lib.run_convert_string_bytes (P := Tryz.prog) w 9 44 5 s Tryz.underlying9 undB Tryz.underlying5;have hX := conv_below w s;have hXs := Lib.bytesWorld_size w 5 s;have hXc := Lib.bytesWorld_cell w 5 s;have hNot := notB_new h hX (by rw [hXs]; omega);have hI := bu_stay h hX;have HX := hideT (And.intro hX (And.intro hXs (And.intro hXc (And.intro hNot hI))));have hlist : s.data.toList.length = s.size := rfl;clear hX hXs hXc hNot hI h;go_enter Tryz.func112, Tryz.ntmps112
 go_wp2_with fail
 generalize Lib.bytesWorld w 5 s = X at *;clear hconv;generalize grownCap w s.size 0 5 = cp at *
 go_loopw [9] (fun i wr => ∃ k : Nat, k <= s.size /\ i = .int .i64 k /\ Lib.IsBuilder 68 5 B b (Lib.byteCells (l ++ escL (s.data.toList.take k))) wr /\ Below B w wr /\ KeepB X wr b) (fun i _ => s.size - (intOf i).toNat)
 case atStart => exact ⟨0, by omega, rfl, by simpa [escL] using HX.out.2.2.2.2, HX.out.1.mono hBw, KeepB.refl _ _⟩
 case round =>
  obtain ⟨k, hk, rfl, hb, hB, hK⟩ := hrel;by_cases hlt : k < s.size
  ·obtain ⟨hn, hrow⟩ := hK _ HX.out.2.2.2.1;have ck : wr.cell? ⟨w.heap.size, k, none⟩ = some (.int .u8 ((s[k]'hlt).toNat : Nat)) := by
    rw [World.cell?_of_block (a := ⟨w.heap.size, k, none⟩) hrow, HX.out.2.2.1 k hlt, getD_byte s k hlt]
   have i1 : (k : Int) < (s.size : Int) := by omega
   have i2 : (0 : Int) <= (k : Int) := by omega
   have hel := escL_len (s.data.toList.take k);rw [List.length_take, hlist] at hel;have hel2 : (Lib.byteCells (l ++ escL (s.data.toList.take k))).length + 2 <= 140737488355328 := by rw [Lib.byteCells_length, List.length_append]; omega
   have HE := hideT (esc_take s k hlt);have hc := (s[k]'hlt).toNat_lt;have HB := hideT (And.intro hb (And.intro hB (And.intro hK hel2)));clear hb hB hK hel hn hrow hel2;generalize hbyte : s[k]'hlt = c at *;clear hbyte;by_cases c1 : c.toNat = 10
   ·have e1 : ((c.toNat : Int) == 10) = true := by rw [beq_iff_eq]; omega
    rw [if_pos c1] at HE
    go_wp2_with fail
    refine (writeString_any _ _ _ _ _ HB.out.1 (by have := HB.out.2.2.2; rw [Lib.byteCells_length] at this; exact this) (by have := HB.out.2.1.size; omega)).mono ?_;rintro e w1 ⟨rfl, h1, hb1, hk1⟩;have HF := hideT (And.intro h1 (And.intro (HB.out.2.1.trans hb1) (HB.out.2.2.1.trans hk1)));clear h1 hb1 hk1 ck;go_wp2;refine ⟨⟨k + 1, by omega, by go_num, .inr ?_, HF.out.2.1, HF.out.2.2⟩, by simp [intOf]; omega⟩;rw [HE.out, <- List.append_assoc];exact HF.out.1
   ·have e1 : ((c.toNat : Int) == 10) = false := qn;rw [if_neg c1] at HE;by_cases c2 : c.toNat = 92 \/ c.toNat = 38
    ·rw [if_pos c2] at HE;rcases c2 with c2 | c2
     ·have e2 : ((c.toNat : Int) == 92) = true := by rw [beq_iff_eq]; omega
      exact bsw30
     ·have e2 : ((c.toNat : Int) == 92) = false := qn;have e3 : ((c.toNat : Int) == 38) = true := by rw [beq_iff_eq]; omega
      exact bsw30
    ·rw [if_neg c2] at HE;have e2 : ((c.toNat : Int) == 92) = false := qn;have e3 : ((c.toNat : Int) == 38) = false := qn
     go_wp2_with fail
     refine (xb6 _ _ _ _ _ HB.out.1 (by have := HB.out.2.2.2; omega) (by have := HB.out.2.1.size; omega)).mono ?_;rintro e w1 ⟨rfl, h1, hb1, hk1⟩;have HF := hideT (And.intro h1 (And.intro (HB.out.2.1.trans hb1) (HB.out.2.2.1.trans hk1)));clear h1 hb1 hk1 ck;go_wp2;refine ⟨⟨k + 1, by omega, by go_num, .inr ?_, HF.out.2.1, HF.out.2.2⟩, by simp [intOf]; omega⟩;rw [HE.out, <- List.append_assoc, cells_app _ [c]];exact HF.out.1
  ·obtain rfl : k = s.size := by omega
   rw [show s.data.toList.take s.size = s.data.toList from List.take_length] at hb;have HF := hideT (And.intro hb hB);clear hb hB hK;go_wp2
   go_end0
   exact ⟨rfl, HF.out.1, HF.out.2⟩
theorem oneT_len (p : Pt) : (oneT p).length <= 2 * (p.t.size + 3) := by
 unfold oneT;split
 ·have := escL_len p.t.data.toList;rw [show p.t.data.toList.length = p.t.size from rfl] at this;omega
 ·exact bsw34
def txO (r : Option (List UInt8)) : List UInt8 × Nat := match r with | some l => (l, 0) | none => ([], 1)
theorem text_any (v : Value) (ps : List Pt) (w : World) (hv : PRow w v ps) (hn : bulkP ps <= 1048576) :
  Calls Tryz.prog 87 #[v] w fun e w' => e = .returned (.tuple #[.string (bst (txO (tpl.textR ps [])).1), .int .i64 ((txO (tpl.textR ps [])).2 : Nat)]) /\ Below w.heap.size w w' := by
 obtain ⟨pa, ca, rfl⟩ := hv.shape;have hpl := bulkP_len ps;generalize hR : tpl.textR ps [] = R;have HR0 := hideT hR;clear hR;have hF := Lib.fresh_isBuilder 68 5 w;have hB0 := Bal w (.cells #[.pointer none, .slice none 0 0] 68);go_enter Tryz.func87, Tryz.ntmps87
 go_wp2_with fail
 go_loopw [9] (fun i wr => ∃ (k : Nat) (l : List UInt8), k <= ps.length /\ i = .int .i64 k /\ Lib.IsBuilder 68 5 w.heap.size w.heap.size (Lib.byteCells l) wr /\ Below w.heap.size w wr /\ tpl.textR (ps.drop k) l = R /\ l.length + 2 * bulkP (ps.drop k) <= 2097152) (fun i _ => ps.length - (intOf i).toNat)
 case atStart => exact ⟨0, [], by omega, rfl, hF, hB0, by rw [List.drop_zero]; exact HR0.out, by rw [List.drop_zero]; simp; omega⟩
 case round =>
  obtain ⟨k, l, hk, rfl, hb, hB, hrun, hl⟩ := hrel;clear hF hB0 HR0;by_cases hlt : k < ps.length
  ·rcases hv with ⟨rfl, -⟩ | ⟨gb, off, c, e1, ha⟩
   ·simp at hlt
   cases e1;obtain ⟨a1, a2⟩ := ha k hlt;have c1 := (hB.cell (p := ⟨gb, off + k * 2, none⟩) (cell_lt a1)).trans a1;have c2 := (hB.cell (p := ⟨gb, off + k * 2 + 1, none⟩) (cell_lt a2)).trans a2;have i1 : (k : Int) < (ps.length : Int) := by omega
   have i2 : (0 : Int) <= (k : Int) := by omega
   rw [List.drop_eq_getElem_cons hlt] at hrun hl;generalize ps[k] = p at *;obtain ⟨r, hr⟩ : ∃ r, ps.drop (k + 1) = r := ⟨_, rfl⟩;have HD := hideT hr;rw [hr] at hrun hl;have HR := hideT hrun;have h1T := oneT_len p;simp only [bulkP] at hl;have HL := hideT (show l.length + (oneT p).length + 2 * bulkP r <= 2097152 by omega);have hl2 : l.length + 2 * p.t.size + 2 <= 140737488355328 := by omega
   clear hrun hr ha a1 a2 h1T hl;have hA := Bal wr (.cells #[.int .i64 p.g, .string p.t] 116);have HBA := hideT (And.intro (hB.trans (hA.mono hB.size)) (bu_stay hb hA));have HW := hideT hb;clear hB hA hb;by_cases hg1 : p.g < -1
   ·have hres := text_bad p r l (.inl hg1);have HBB := HBA;go_wp2
    go_ret2
    exact ⟨by rw [<- HR.out, hres]; rfl, HBB.out.1⟩
   ·by_cases hg9 : 9 < p.g
    ·have hres := text_bad p r l (.inr hg9);have HBB := HBA;go_wp2
     go_ret2
     exact ⟨by rw [<- HR.out, hres]; rfl, HBB.out.1⟩
    ·have hres := text_ok p r l (fun h => h.elim hg1 hg9);by_cases hg2 : p.g = -1
     ·have e2 : (p.g == -1) = true := by rw [beq_iff_eq]; exact hg2
      have HO1 := hideT (show oneT p = escL p.t.data.toList by unfold oneT; rw [if_pos hg2]);rw [hg2] at HBA c1;have HG2 := hideT hg2;clear hg2 hg1 hg9 e2;generalize hgg : p.g = pg at *;clear hgg
      go_wp2_with fail
      refine (escape_any _ _ l p.t _ HBA.out.2 (by omega) (by have := HBA.out.1.size; omega)).mono ?_;rintro e w1 ⟨rfl, h1, hb1⟩;have HF := hideT (And.intro h1 (HBA.out.1.trans hb1));clear h1 hb1;exact bsw31
     ·by_cases hg0 : p.g = 0
      ·have HO1 := hideT (show oneT p = [38] by unfold oneT; rw [if_neg hg2, if_pos hg0]);rw [hg0] at HBA c1;clear hg2 hg1 hg9 hg0;generalize hgg : p.g = pg at *;clear hgg
       go_wp2_with fail
       refine (xb6 _ _ _ _ _ HBA.out.2 (by rw [Lib.byteCells_length]; omega) (by have := HBA.out.1.size; omega)).mono ?_;rintro e w1 ⟨rfl, h1, hb1, -⟩;have HF := hideT (And.intro (show Lib.IsBuilder 68 5 w.heap.size w.heap.size (Lib.byteCells (l ++ [38])) w1 by rw [cells_app]; exact .inr h1) (HBA.out.1.trans hb1));clear h1 hb1;exact bsw31
      ·obtain ⟨n, hn0⟩ : ∃ n : Nat, p.g = (n : Int) := ⟨p.g.toNat, by omega⟩;have HO1 := hideT (show oneT p = [92, UInt8.ofNat (48 + n)] by unfold oneT; rw [if_neg hg2, if_neg hg0, hn0, Int.toNat_natCast]);have hn9 : n <= 9 := by omega
       have hn1 : 1 <= n := by omega
       rw [hn0] at HBA c1;clear hg2 hg1 hg9 hg0;generalize hgg : p.g = pg at *;clear hgg hn0;have j1 : ((n : Int) < -1) = False := qg;have j2 : ((9 : Int) < (n : Int)) = False := qg;have j3 : ((n : Int) == -1) = false := qn;have j4 : ((n : Int) == 0) = false := qn;have j5 : IntKind.u8.wrap (n : Int) = (n : Int) := by rw [IntKind.wrap_u8]; omega
       have j6 : IntKind.u8.wrap (48 + (n : Int)) = ((48 + n : Nat) : Int) := by rw [IntKind.wrap_u8]; omega
       go_wp2_with fail
       refine (xb6 _ _ _ _ _ HBA.out.2 (by rw [Lib.byteCells_length]; omega) (by have := HBA.out.1.size; omega)).mono ?_;rintro e w1 ⟨rfl, h1, hb1, hk1⟩;have bk : NotB (wr.alloc (.cells #[.int .i64 (n : Int), .string p.t] 116)) w.heap.size wr.heap.size := notB_new HW.out (Bal wr _) (by simp);have bn := (hk1 _ bk).2;have b0 : w1.cell? ⟨wr.heap.size, 0, none⟩ = some (.int .i64 (n : Int)) := by
        rw [World.cell?_of_block (a := ⟨wr.heap.size, 0, none⟩) bn];exact new_cell wr [.int .i64 (n : Int), .string p.t] 116 0 _ rfl
       have HF1 := hideT (And.intro h1 (HBA.out.1.trans hb1));clear h1 hb1 hk1 bk bn
       go_wp2_with fail
       refine (xb6 _ _ _ _ _ (.inr HF1.out.1) (by rw [List.length_append, Lib.byteCells_length]; simp only [List.length_singleton]; omega) (by have := HF1.out.2.size; omega)).mono ?_;rintro e w2 ⟨rfl, h1, hb1, -⟩;have e8 : (UInt8.ofNat (48 + n)).toNat = 48 + n := by have e9 : (UInt8.ofNat (48 + n)).toNat = (48 + n) % 256 := rfl; omega
       have HF := hideT (And.intro (show Lib.IsBuilder 68 5 w.heap.size w.heap.size (Lib.byteCells (l ++ [92, UInt8.ofNat (48 + n)])) w2 by
        rw [cells_app, show Lib.byteCells [92, UInt8.ofNat (48 + n)] = [.int .u8 92] ++ [.int .u8 ((UInt8.ofNat (48 + n)).toNat : Nat)] from rfl, e8, <- List.append_assoc];exact .inr h1) (HF1.out.2.trans hb1))
       clear h1 hb1 e8 b0;exact bsw31
  ·obtain rfl : k = ps.length := by omega
   rw [List.drop_length] at hrun;have hres : R = some l := hrun.symm;subst hres;have HC := hideT hB
   go_wp2_with fail
   refine (xcv _ _ _ _ hb hB.size).mono ?_;rintro e w1 ⟨rfl, hb1⟩;have HF := hideT (hB.trans hb1);clear hb1 HC;go_wp2
   go_ret2
   exact ⟨rfl, HF.out⟩
end sho
end Go.Proofs.YtidgnebbibkmhaaGreatDoor
namespace Go.Proofs.YtidgnebbibkmhaaGreatDoor
open Go.RowKit
open scanP scrP tpl ytb
namespace sho
theorem txO_len : ∀ (ps : List Pt) (l L : List UInt8), tpl.textR ps l = some L -> L.length <= l.length + 2 * bulkP ps
 | [], l, L, h => by cases h; simp [bulkP]
 | p :: r, l, L, h => by
  by_cases hb : p.g < -1 \/ 9 < p.g
  ·rw [text_bad p r l hb] at h; cases h
  ·rw [text_ok p r l hb] at h;have h1 := txO_len r _ L h;have h2 := oneT_len p;rw [List.length_append] at h1;simp only [bulkP];omega
theorem psW_len (ps : List Pt) : (psW ps).length <= 2 * bulkP ps := by
 unfold psW;cases h : tpl.textR ps [] with
 | none => simp
 | some L => have := txO_len ps [] L h; simpa using this
theorem txO_eq (ps : List Pt) : (txO (tpl.textR ps [])).1 = psW ps := by
 unfold psW txO;cases tpl.textR ps [] <;> rfl
theorem cm_new (W : World) (xs : List Value) : CmAt (W.alloc (.cells xs.toArray 39)) W.heap.size xs := heap_alloc_new W _
variable {W V X : World} {g B b : Nat} {m l : List UInt8} {st su : Bool} {c : Co} {pv : Value}
theorem cm_keep {W' : World} {xs : List Value} (h : CmAt W g xs) (hk : W'.heap[g]? = W.heap[g]?) : CmAt W' g xs := hk.trans h
theorem tsR_two (W : World) (t u : List UInt8) (ty : TypeId) : TsR (W.alloc (.cells #[.string (bst t), .string (bst u)] ty)) W.heap.size [t, u] := fun k v hv => by
 match k, hv with
 | 0, hv => cases hv; rw [Lib.cell_of_heap (heap_alloc_new W _)]; rfl
 | 1, hv => cases hv; rw [Lib.cell_of_heap (heap_alloc_new W _)]; rfl
 | k + 2, hv => simp at hv
theorem bt2 (h : WP W B b m st V) (hB : B <= W.heap.size) (t u : List UInt8) (hl : m.length + t.length + u.length <= 1000000000) :
  Calls Tryz.prog 66 #[.pointer (some ⟨b, 0, none⟩), .slice (some ⟨V.heap.size, 0, none⟩) 2 2] (V.alloc (.cells #[.string (bst t), .string (bst u)] 9)) fun e w' => e = .returned (.tuple #[]) /\ WP W B b (btS [t, u] (m, st)).1 (btS [t, u] (m, st)).2 w' := by
 have hV := Nat.le_trans hB h.2.2.2;refine (between_any (WP.al h.1 hV _).1 (Nat.le_trans hV (by simp)) [t, u] (tsR_two V t u 9) (notW_new h.1 _) (by simp) (by simp [tsN]; omega)).mono ?_;rintro e w' ⟨rfl, hp⟩;exact ⟨rfl, (h.trans (WP.al h.1 hV _)).trans hp⟩
theorem btS_len (ts : List (List UInt8)) (l : List UInt8) (st : Bool) : (btS ts (l, st)).1.length <= l.length + tsN ts + ts.length + 1 := by
 unfold btS btw;cases dlm ts with
 | none => simp only; omega
 | some d => simp only [List.length_append, List.length_cons, bws_len]; omega
theorem nil_test {t : List UInt8} : (t = [] -> ((bst t).toList == []) = true /\ (bst t).toList = [] /\ (bst t).toList.isEmpty = true) /\ (t ≠ [] -> ((bst t).toList == []) = false /\ ((bst t).toList = []) = False /\ (bst t).toList.isEmpty = false) := by
 have e0 : (bst t).toList = t := by rw [ByteArray.toList_eq]; exact xbu t
 rw [e0];refine ⟨fun h => by rw [h]; simp, fun h => by simp [h]⟩
def sbS (c : Co) (x : List UInt8 × Bool) : List UInt8 × Bool := ((btS [c.re, psW c.ps] x).1 ++ flW c, (btS [c.re, psW c.ps] x).2)
structure CmH (W : World) (B b : Nat) (c : Co) (pv : Value) (l : List UInt8) (st : Bool) : Prop where
 w : Wr W B b l st
 hB : B <= W.heap.size
 hB2 : 2 < B
 g : Gs W
 p : ∀ V, Below B W V -> PRow V pv c.ps
 z : SzC c
 ll : l.length <= 900000000
structure CmX (X : World) (B b g : Nat) (c : Co) (pv : Value) (l : List UInt8) (st : Bool) : Prop where
 h : CmH X B b c pv l st
 c : CmAt X g (coV c pv)
 n : NotW X b g
theorem CmX.at (h : CmX X B b g c pv l st) (hV : WP X B b m su V) (j : Nat) {v : Value} (hj : (coV c pv)[j]? = some v) : V.cell? ⟨g, j, none⟩ = some v := (cm_keep h.c (hV.2.2.1 g h.n).2).cell j hj
theorem CmX.gs (h : CmX X B b g c pv l st) (hV : WP X B b m su V) : Gs V := h.h.g.below hV.2.1 h.h.hB2
theorem CmX.le (h : CmX X B b g c pv l st) (hV : WP X B b m su V) : B <= V.heap.size := Nat.le_trans h.h.hB hV.2.2.2
theorem CmH.box (h : CmH W B b c pv l st) : CmX (W.alloc (.cells (coV c pv).toArray 39)) B b W.heap.size c pv l st /\ WP W B b l st (W.alloc (.cells (coV c pv).toArray 39)) := by
 have hw := WP.al h.w h.hB (.cells (coV c pv).toArray 39);exact ⟨⟨⟨hw.1, Nat.le_trans h.hB hw.2.2.2, h.hB2, h.g.below hw.2.1 h.hB2, fun V hV => h.p V (hw.2.1.trans hV), h.z, h.ll⟩, cm_new W _, notW_new h.w _⟩, hw⟩
theorem itoaW (h : CmX X B b g c pv l st) (hV : WP X B b m su V) (n : Nat) (hn : n <= 1000000000) : Calls Tryz.prog 64 #[.int .i64 (n : Int)] V.drew fun e w' => e = .returned (.string (bst (Lib.decDigits n))) /\ WP X B b m su w' := by
 have hd : Below V.heap.size V V.drew := (Below.refl _ _).drew;refine (itoa_any n hn V.drew (h.gs (hV.stay h.h.hB hd)).t).mono ?_;rintro e w' ⟨rfl, hb⟩;exact ⟨rfl, hV.stay h.h.hB (hd.trans hb)⟩
theorem sub_w (h : CmH W B b c pv l st) :
  Calls Tryz.prog 70 #[.pointer (some ⟨b, 0, none⟩), .agg (coV c pv).toArray] W fun e w' => e = .returned (.tuple #[]) /\ WP W B b (sbS c (l, st)).1 (sbS c (l, st)).2 w' := by
 have H0 := hideT h.box;generalize hR : sbS c (l, st) = R;unfold sbS flW at hR;have HR := hideT hR;have hy := btS_len [c.re, psW c.ps] l st;have hpw := psW_len c.ps;have hyl : (btS [c.re, psW c.ps] (l, st)).1.length <= 900100000 := by
  have h1 := h.z.re; have h2 := h.z.ps; have h3 := h.ll;simp only [tsN, List.map_cons, List.map_nil, List.sum_cons, List.sum_nil, List.length_cons, List.length_nil] at hy;omega
 have HY := hideT hyl;have HPW := hideT hpw;clear h hR hy hpw hyl;go_enter Tryz.func70, Tryz.ntmps70;go_upto_region 1 with fail
 generalize W.alloc (.cells (coV c pv).toArray 39) = X at *;generalize hg : W.heap.size = g at *;have HG := hideT hg;clear hg;have c13 := H0.out.1.c.cell 13 (v := pv) rfl;have HT := hideT (text_any pv c.ps X (H0.out.1.h.p X (Below.refl _ _)) (by have := H0.out.1.h.z.ps; omega));rw [txO_eq] at HT
 go_wp2_with fail
 refine HT.out.mono ?_;rintro e w1 ⟨rfl, hb1⟩;have H1 := hideT ((WP.refl H0.out.1.h.w).stay H0.out.1.h.hB hb1);clear hb1 HT c13;have c12 := H0.out.1.at H1.out 12 (v := .string (bst c.re)) rfl
 go_wp2_with fail
 refine (bt2 H1.out H0.out.1.h.hB c.re (psW c.ps) (by have := H0.out.1.h.z.re; have := H0.out.1.h.z.ps; have := H0.out.1.h.ll; have := HPW.out; omega)).mono ?_;rintro e w2 ⟨rfl, hp⟩;have H2 := hideT hp;clear hp H1 c12;generalize btS [c.re, psW c.ps] (l, st) = y at *;obtain ⟨y1, y2⟩ := y;simp only at H2 HR HY;have c14 := H0.out.1.at H2.out 14 (v := .int .i64 (c.nh : Nat)) rfl;have key : ∃ m3, m3 = y1 ++ (if c.nh = 1 then [] else Lib.decDigits c.nh) := ⟨_, rfl⟩;obtain ⟨m3, hm3⟩ := key;have HM3 := hideT hm3;have hml : m3.length <= 900100010 := by
  have h1 := HY.out;have h2 := dec_lt c.nh (by have := H0.out.1.h.z.nh; omega);rw [hm3, List.length_append];split
  ·simp only [List.length_nil]; omega
  ·omega
 have HL3 := hideT hml;clear hm3 hml;have c15 : ∀ V m su, WP X B b m su V -> V.cell? ⟨g, 15, none⟩ = some (.bool c.an) := fun V m su hV => H0.out.1.at hV 15 rfl;have c16 : ∀ V m su, WP X B b m su V -> V.cell? ⟨g, 16, none⟩ = some (.bool c.pr) := fun V m su hV => H0.out.1.at hV 16 rfl;have HC := hideT (And.intro c15 c16);have HF := hideT (fun V m su (hV : WP X B b m su V) => H0.out.1.at hV 11 (v := .string (bst c.fl)) rfl);clear c15 c16;have fin : ∀ (m : List UInt8) (V : World), Hid (m = y1 ++ ((if c.nh = 1 then [] else Lib.decDigits c.nh) ++ ((if c.an = true then [103] else []) ++ ((if c.pr = true then [112] else []) ++ (if c.fl = [] then [] else 119 :: woW c.fl))))) -> Hid (WP X B b m y2 V) -> WP W B b R.1 R.2 V := fun m V h1 h2 => by
  have := H0.out.2.trans h2.out;rw [<- HR.out];rw [h1.out] at this;exact this
 have FIN := hideT fin;clear fin;rcases Decidable.em (c.nh = 1) with k1 | k1
 case' inl =>
  have e1 : (((c.nh : Nat) : Int) != 1) = false := by simp; omega
  have e2 : (((c.nh : Nat) : Int) == 1) = true := by simp; omega
  obtain ⟨w3, hw3⟩ : ∃ w3, w3 = w2 := ⟨_, rfl⟩;have H3 : Hid (WP X B b m3 y2 w3) := hideT (by rw [HM3.out, if_pos k1, List.append_nil, hw3]; exact H2.out);go_upto_region 5 with fail
  rw [<- hw3];clear k1 H2 c14 hw3 e1 e2
 case' inr =>
  have e1 : (((c.nh : Nat) : Int) != 1) = true := by simp; omega
  have e2 : (((c.nh : Nat) : Int) == 1) = false := by simp; omega
  have c14d : w2.drew.cell? ⟨g, 14, none⟩ = some (.int .i64 (c.nh : Nat)) := c14
  go_wp2_with fail
  go_region_with (first | (go_at_call 64; go_must (refine (itoaW H0.out.1 H2.out c.nh H0.out.1.h.z.nh).mono ?_; rintro e w4 ⟨rfl, hp4⟩; have H4 := hideT hp4; clear hp4)) | (go_at_call 25; go_must (refine (wrS H4.out.1 (H0.out.1.le H4.out) (bst (Lib.decDigits c.nh)) (by rw [xbt]; have := HY.out; have := dec_lt c.nh (by have := H0.out.1.h.z.nh; omega); omega)).mono ?_; rintro e w3 ⟨rfl, hp3⟩; have H3 : Hid (WP X B b m3 y2 w3) := hideT (by rw [HM3.out, if_neg k1]; rw [xbu] at hp3; exact H4.out.trans hp3); clear hp3)))
  clear k1 H2 c14 H4 e1 e2 c14d;go_upto_region 5 with fail
 all_goals
  have cc := HC.out.1 w3 _ _ H3.out;obtain ⟨m4, hm⟩ : ∃ m4, m4 = m3 ++ (if c.an = true then [103] else []) := ⟨_, rfl⟩;have HM4 := hideT hm;have hl : m4.length <= 900100011 := by
   have := HL3.out;rw [hm, List.length_append];exact bsw34
  have HL4 := hideT hl;clear hm hl;cases hf : c.an
  case' true =>
   rw [hf] at cc
   go_wp2_with fail
   refine (wrB H3.out.1 (H0.out.1.le H3.out) 103 (by have := HL3.out; omega)).mono ?_;rintro e w4 ⟨rfl, hp⟩;have H4 : Hid (WP X B b m4 y2 w4) := hideT (by rw [HM4.out, if_pos hf]; exact H3.out.trans hp);clear hp cc hf H3;go_upto_region 7 with fail
  case' false =>
   rw [hf] at cc;obtain ⟨w4, hw⟩ : ∃ w4, w4 = w3 := ⟨_, rfl⟩;have H4 : Hid (WP X B b m4 y2 w4) := hideT (by rw [HM4.out, if_neg (by rw [hf]; simp), List.append_nil, hw]; exact H3.out);go_upto_region 7 with fail
   rw [<- hw];clear cc hf H3 hw
 all_goals
  have cc := HC.out.2 w4 _ _ H4.out;obtain ⟨m5, hm⟩ : ∃ m5, m5 = m4 ++ (if c.pr = true then [112] else []) := ⟨_, rfl⟩;have HM5 := hideT hm;have hl : m5.length <= 900100012 := by
   have := HL4.out;rw [hm, List.length_append];exact bsw34
  have HL5 := hideT hl;clear hm hl;cases hf : c.pr
  case' true =>
   rw [hf] at cc
   go_wp2_with fail
   refine (wrB H4.out.1 (H0.out.1.le H4.out) 112 (by have := HL4.out; omega)).mono ?_;rintro e w5 ⟨rfl, hp⟩;have H5 : Hid (WP X B b m5 y2 w5) := hideT (by rw [HM5.out, if_pos hf]; exact H4.out.trans hp);clear hp cc hf H4;go_upto_region 9 with fail
  case' false =>
   rw [hf] at cc;obtain ⟨w5, hw⟩ : ∃ w5, w5 = w4 := ⟨_, rfl⟩;have H5 : Hid (WP X B b m5 y2 w5) := hideT (by rw [HM5.out, if_neg (by rw [hf]; simp), List.append_nil, hw]; exact H4.out);go_upto_region 9 with fail
   rw [<- hw];clear cc hf H4 hw
 all_goals
  have cc := HF.out w5 _ _ H5.out;by_cases hf : c.fl = []
  ·obtain ⟨e1, e2, e3⟩ := nil_test.1 hf;have H6 := hideT (FIN.out m5 w5 (hideT (by rw [HM5.out, HM4.out, HM3.out, if_pos hf]; simp only [List.append_assoc, List.append_nil])) H5);clear hf;go_wp2
   go_end0
   exact ⟨rfl, H6.out⟩
  ·obtain ⟨e1, e2, e3⟩ := nil_test.2 hf
   go_wp2_with fail
   refine (wrB H5.out.1 (H0.out.1.le H5.out) 119 (by have := HL5.out; omega)).mono ?_;rintro e w6 ⟨rfl, hp⟩;have H6 := hideT (H5.out.trans hp);clear hp cc;have cc := HF.out w6 _ _ H6.out
   go_wp2_with fail
   refine (word_any H6.out.1 (H0.out.1.le H6.out) c.fl (by have := HL5.out; have := H0.out.1.h.z.fl; rw [List.length_append, List.length_singleton]; omega)).mono ?_;rintro e w7 ⟨rfl, hp⟩;have H7 := hideT (FIN.out _ w7 (hideT (by rw [HM5.out, HM4.out, HM3.out, if_neg hf]; simp only [List.append_assoc, List.cons_append, List.nil_append])) (hideT (H6.out.trans hp)));clear hf hp;go_wp2
   go_end0
   exact ⟨rfl, H7.out⟩
end sho
end Go.Proofs.YtidgnebbibkmhaaGreatDoor
namespace Go.Proofs.YtidgnebbibkmhaaGreatDoor
open Go.RowKit
open scanP scrP tpl ytb
namespace sho
def rsS (c : Co) (x : List UInt8 × Bool) : List UInt8 × Bool :=
 if c.nm = 97 \/ c.nm = 105 \/ c.nm = 99 then (x.1 ++ 92 :: 10 :: eN [92, 10] (trN c.tx), x.2)
 else if c.nm = 58 \/ c.nm = 98 \/ c.nm = 116 then (x.1 ++ woW c.lb, x.2)
 else if c.nm = 114 \/ c.nm = 119 then (x.1 ++ woW c.fl, x.2)
 else if c.nm = 115 then sbS c x
 else if c.nm = 121 then btS [eN [92, 110] c.fr, eN [92, 110] c.to] x
 else x
theorem trim_one (y : List UInt8) : Lib.trimSuffix (y ++ [10]) [10] = y := by
 unfold Lib.trimSuffix;rw [if_pos (by simp [Lib.hasSuffix])];simp
theorem eN_len (nl : List UInt8) (h : nl.length = 2) : ∀ t : List UInt8, (eN nl t).length <= 2 * t.length
 | [] => Nat.le_refl _
 | b :: r => by
  have ih := eN_len nl h r;unfold eN;rw [List.length_append, List.length_cons];split
  ·simp only [List.length_cons, List.length_nil]; omega
  ·split
   ·omega
   ·simp only [List.length_cons, List.length_nil]; omega
variable {B b : Nat} {c : Co} {pv : Value} {l : List UInt8} {st : Bool}
theorem escW {X V : World} {g : Nat} {m : List UInt8} {su : Bool} (h : CmX X B b g c pv l st) (hV : WP X B b m su V) (t : List UInt8) (nl : ByteArray) (hn : nl.size = 2) (ht : t.length <= 5000) : Calls Tryz.prog 67 #[.string (bst t), .string nl] V fun e w' => e = .returned (.string (bst (eN nl.data.toList t))) /\ WP X B b m su w' := by
 have hs := h.le hV;have h2 := h.h.hB2;refine (xkb (bst t) nl V (by rw [xbt]; omega) hn (h.gs hV) (by omega)).mono ?_;rintro e w' ⟨rfl, hb⟩;rw [xbu];exact ⟨rfl, hV.stay h.h.hB hb⟩
theorem load_co {ops : Array Oper} {rest : List Oper} {op : Oper} {a : Act} {w : World} {Q : Exit -> Act -> World -> Prop} (hgd : op.guard = none) (x : Operand) (ho : op.op = .load 39 x) (g : Nat) (hx : a.eval x = .pointer (some ⟨g, 0, none⟩)) (c : Co) (pv : Value) (hc : CmAt w g (coV c pv)) (h : wpList Tryz.prog ops Q rest (a.put op.dst (.agg (coV c pv).toArray)) w) : wpList Tryz.prog ops Q (op :: rest) a w :=
 wpList_load_mid hgd 39 x ho g 0 hx (coV c pv) _ (fun j v hv => by rw [Nat.zero_add]; exact hc.cell j hv) xc9 rfl (by rw [xcm]; rfl) h
theorem rest_w {W : World} (h : CmH W B b c pv l st) (hl : l.length <= 800000000) (hT : c.nm = 97 \/ c.nm = 105 \/ c.nm = 99 -> ∃ y, c.tx = y ++ [10]) :
  Calls Tryz.prog 45 #[.pointer (some ⟨b, 0, none⟩), .agg (coV c pv).toArray] W fun e w' => e = .returned (.tuple #[]) /\ WP W B b (rsS c (l, st)).1 (rsS c (l, st)).2 w' := by
 have H0 := hideT h.box;generalize hR : rsS c (l, st) = R;unfold rsS at hR;simp only at hR;clear h;go_enter Tryz.func45, Tryz.ntmps45;go_upto_region 1 with fail
 generalize W.alloc (.cells (coV c pv).toArray 39) = X at *;generalize hg : W.heap.size = g at *;have HG := hideT hg;clear hg;have c8 := H0.out.1.c.cell 8 (v := .int .u8 (c.nm.toNat : Nat)) rfl;have HX := hideT (WP.refl H0.out.1.h.w);have HC := hideT (fun V m su (hV : WP X B b m su V) j v hj => H0.out.1.at hV j (v := v) hj);by_cases h2 : c.nm = 97 \/ c.nm = 105 \/ c.nm = 99
 ·rw [if_pos h2] at hR;obtain ⟨y, hy⟩ := hT h2;have ey : trN c.tx = y := by unfold trN; rw [hy]; simp
  rw [ey] at hR;have HR := hideT hR;have hyl : y.length <= 5000 := by have := H0.out.1.h.z.tx; rw [hy, List.length_append] at this; omega
  have HYL := hideT hyl;have HTS := hideT (fun V => Tryz.strings_TrimSuffix (bst (y ++ [10])) ⟨#[10]⟩ V (by rw [xbt, List.length_append]; simp; omega));rw [show (bst (y ++ [10])).data.toList = y ++ [10] from xbu _, show (⟨#[10]⟩ : ByteArray).data.toList = [10] from rfl, trim_one] at HTS;have HY := hideT hy;clear hT hy ey hR hyl;rcases h2 with e | e | e
  all_goals
   rw [show ((c.nm.toNat : Nat) : Int) = _ from congrArg (fun x : UInt8 => ((x.toNat : Nat) : Int)) e] at c8;clear e
   go_wp2_with fail
   refine (wrS H0.out.1.h.w H0.out.1.h.hB ⟨#[92, 10]⟩ (by show l.length + 2 <= _; omega)).mono ?_;rintro e w1 ⟨rfl, hp⟩;have H1 := hideT hp;clear hp;have c10 : w1.drew.cell? ⟨g, 10, none⟩ = some (.string (bst (y ++ [10]))) := by rw [<- HY.out]; exact HC.out w1 _ _ H1.out 10 _ rfl
   have HD := hideT (H1.out.stay H0.out.1.h.hB ((Below.refl w1.heap.size w1).drew))
   go_wp2_with fail
   go_region_with (first | (go_at_call 68; go_must (refine (HTS.out _).mono ?_; rintro e w2 ⟨rfl, rfl⟩)) | (go_at_call 67; go_must (refine (escW H0.out.1 HD.out y ⟨#[92, 10]⟩ rfl HYL.out).mono ?_; rintro e w3 ⟨rfl, hp3⟩; have H3 := hideT hp3; clear hp3)) | (go_at_call 25; go_must (refine (wrS H3.out.1 (H0.out.1.le H3.out) (bst (eN [92, 10] y)) (by have := eN_len [92, 10] rfl y; have := HYL.out; rw [xbt, List.length_append]; show l.length + 2 + _ <= _; omega)).mono ?_; rintro e w4 ⟨rfl, hp4⟩; have H4 := hideT (H3.out.trans hp4); clear hp4)))
   go_wp2
   go_end0
   rw [xbu] at H4;refine ⟨rfl, ?_⟩;rw [<- HR.out];have := H0.out.2.trans H4.out;rw [List.append_assoc] at this;exact this
 rw [if_neg h2] at hR;clear hT;by_cases h3 : c.nm = 58 \/ c.nm = 98 \/ c.nm = 116
 ·rw [if_pos h3] at hR;have HR := hideT hR;have c9 := H0.out.1.c.cell 9 (v := .string (bst c.lb)) rfl;clear hR h2;rcases h3 with e | e | e
  all_goals
   rw [show ((c.nm.toNat : Nat) : Int) = _ from congrArg (fun x : UInt8 => ((x.toNat : Nat) : Int)) e] at c8;clear e
   go_wp2_with fail
   refine (word_any H0.out.1.h.w H0.out.1.h.hB c.lb (by have := H0.out.1.h.z.lb; omega)).mono ?_;exact bsw33
 rw [if_neg h3] at hR;by_cases h4 : c.nm = 114 \/ c.nm = 119
 ·rw [if_pos h4] at hR;have HR := hideT hR;have c11 := H0.out.1.c.cell 11 (v := .string (bst c.fl)) rfl;clear hR h2 h3;rcases h4 with e | e
  all_goals
   rw [show ((c.nm.toNat : Nat) : Int) = _ from congrArg (fun x : UInt8 => ((x.toNat : Nat) : Int)) e] at c8;clear e
   go_wp2_with fail
   refine (word_any H0.out.1.h.w H0.out.1.h.hB c.fl (by have := H0.out.1.h.z.fl; omega)).mono ?_;exact bsw33
 rw [if_neg h4] at hR;by_cases h5 : c.nm = 115
 ·rw [if_pos h5] at hR;have HR := hideT hR;rw [show ((c.nm.toNat : Nat) : Int) = _ from congrArg (fun x : UInt8 => ((x.toNat : Nat) : Int)) h5] at c8;have HM := hideT H0.out.1.c;clear hR h2 h3 h4 h5
  go_wp2_with (refine load_co rfl _ rfl g rfl c pv HM.out ?_)
  refine (sub_w H0.out.1.h).mono ?_;exact bsw33
 rw [if_neg h5] at hR;by_cases h6 : c.nm = 121
 ·rw [if_pos h6] at hR;have HR := hideT hR;rw [show ((c.nm.toNat : Nat) : Int) = _ from congrArg (fun x : UInt8 => ((x.toNat : Nat) : Int)) h6] at c8;clear hR h2 h3 h4 h5 h6;have c17 : X.drew.cell? ⟨g, 17, none⟩ = some (.string (bst c.fr)) := H0.out.1.c.cell 17 rfl;have c18 : X.drew.cell? ⟨g, 18, none⟩ = some (.string (bst c.to)) := H0.out.1.c.cell 18 rfl;have HD := hideT (HX.out.stay H0.out.1.h.hB ((Below.refl X.heap.size X).drew));have hf1 := eN_len [92, 110] rfl c.fr;have hf2 := eN_len [92, 110] rfl c.to;have HLN := hideT (show l.length + (eN [92, 110] c.fr).length + (eN [92, 110] c.to).length <= 900000000 by have := H0.out.1.h.z.fr; have := H0.out.1.h.z.to; omega);clear hf1 hf2
  go_wp2_with fail
  go_region_with (first | (go_at_call 67; go_must (first | (refine (escW H0.out.1 HD.out c.fr ⟨#[92, 110]⟩ rfl H0.out.1.h.z.fr).mono ?_; rintro e w3 ⟨rfl, hp3⟩; have H3 := hideT hp3; have c18 := HC.out w3 _ _ H3.out 18 _ rfl; clear hp3) | (refine (escW H0.out.1 H3.out c.to ⟨#[92, 110]⟩ rfl H0.out.1.h.z.to).mono ?_; rintro e w4 ⟨rfl, hp4⟩; have H4 := hideT hp4; clear hp4))) | (go_at_call 66; go_must (refine (bt2 H4.out H0.out.1.h.hB (eN [92, 110] c.fr) (eN [92, 110] c.to) (by have := HLN.out; omega)).mono ?_; rintro e w5 ⟨rfl, hp5⟩; have H5 := hideT hp5; clear hp5)))
  all_goals
   go_wp2
   go_end0
   rw [<- HR.out];exact ⟨rfl, H0.out.2.trans H5.out⟩
 rw [if_neg h6] at hR;have HR := hideT hR;have ne : ∀ k : UInt8, c.nm ≠ k -> (((c.nm.toNat : Nat) : Int) == ((k.toNat : Nat) : Int)) = false := fun k hk => by
  rw [beq_eq_false_iff_ne];intro e;exact hk (UInt8.toNat_inj.1 (by omega))
 have n1 : (((c.nm.toNat : Nat) : Int) == 97) = false := ne 97 (fun e => h2 (.inl e));have n2 : (((c.nm.toNat : Nat) : Int) == 105) = false := ne 105 (fun e => h2 (.inr (.inl e)));have n3 : (((c.nm.toNat : Nat) : Int) == 99) = false := ne 99 (fun e => h2 (.inr (.inr e)));have n4 : (((c.nm.toNat : Nat) : Int) == 58) = false := ne 58 (fun e => h3 (.inl e));have n5 : (((c.nm.toNat : Nat) : Int) == 98) = false := ne 98 (fun e => h3 (.inr (.inl e)));have n6 : (((c.nm.toNat : Nat) : Int) == 116) = false := ne 116 (fun e => h3 (.inr (.inr e)));have n7 : (((c.nm.toNat : Nat) : Int) == 114) = false := ne 114 (fun e => h4 (.inl e));have n8 : (((c.nm.toNat : Nat) : Int) == 119) = false := ne 119 (fun e => h4 (.inr e));have n9 : (((c.nm.toNat : Nat) : Int) == 115) = false := ne 115 h5;have n10 : (((c.nm.toNat : Nat) : Int) == 121) = false := ne 121 h6;clear ne hR h2 h3 h4 h5 h6;generalize ((c.nm.toNat : Nat) : Int) = x at *;go_wp2
 go_end0
 rw [<- HR.out];exact ⟨rfl, H0.out.2⟩
end sho
end Go.Proofs.YtidgnebbibkmhaaGreatDoor
namespace Go.Proofs.YtidgnebbibkmhaaGreatDoor
open Go.RowKit
open scanP scrP tpl ytb
namespace sho
def x2S (c : Co) (x : List UInt8 × Bool) : List UInt8 × Bool := if c.b.k = 0 then adS c.a x else adS c.b ((adS c.a x).1 ++ [44], (adS c.a x).2)
def x4S (c : Co) (x : List UInt8 × Bool) : List UInt8 × Bool := ((x2S c x).1 ++ (ntW c ++ [c.nm]), (x2S c x).2)
def cmS (c : Co) (x : List UInt8 × Bool) : List UInt8 × Bool := ((rsS c (x4S c x)).1 ++ [10], (rsS c (x4S c x)).2)
theorem adS_len (a : Adr) (x : List UInt8 × Bool) (hl : a.ln <= 1000000000) : (adS a x).1.length <= x.1.length + a.re.length + 12 := by
 unfold adS;split
 ·have := dec_lt a.ln (by omega); simp only [List.length_append]; omega
 ·split
  ·simp only [List.length_append, List.length_singleton]; omega
  ·split
   ·have := btS_len [a.re] (x.1 ++ (if frB 47 [a.re] = true then [] else [92])) x.2;have h2 : (if frB 47 [a.re] = true then ([] : List UInt8) else [92]).length <= 1 := by split <;> simp
    simp only [tsN, List.map_cons, List.map_nil, List.sum_cons, List.sum_nil, List.length_cons, List.length_nil, List.length_append] at this;omega
   ·omega
theorem x2S_len (c : Co) (x : List UInt8 × Bool) (z : SzC c) : (x2S c x).1.length <= x.1.length + 10030 := by
 have h1 := adS_len c.a x z.al;have := z.ar; have := z.br;unfold x2S;split
 ·omega
 ·have h2 := adS_len c.b ((adS c.a x).1 ++ [44], (adS c.a x).2) z.bl;simp only [List.length_append, List.length_singleton] at h2;omega
theorem woW_len (t : List UInt8) : (woW t).length <= t.length + 1 := by
 unfold woW;split
 ·simp
 ·simp
theorem flW_len (c : Co) (z : SzC c) : (flW c).length <= 6000 := by
 have h1 := dec_lt c.nh (by have := z.nh; omega);have h2 := woW_len c.fl;have := z.fl;unfold flW;simp only [List.length_append];have a1 : (if c.nh = 1 then [] else Lib.decDigits c.nh).length <= 10 := by
  split
  ·simp
  ·omega
 have a2 : (if c.an = true then ([103] : List UInt8) else []).length <= 1 := by split <;> simp
 have a3 : (if c.pr = true then ([112] : List UInt8) else []).length <= 1 := by split <;> simp
 have a4 : (if c.fl = [] then [] else 119 :: woW c.fl).length <= 5002 := by
  split
  ·simp
  ·rw [List.length_cons]; omega
 omega
theorem rsS_len (c : Co) (x : List UInt8 × Bool) (z : SzC c) : (rsS c x).1.length <= x.1.length + 90000 := by
 obtain ⟨l, st⟩ := x;unfold rsS;simp only;split
 ·have h1 := eN_len [92, 10] rfl (trN c.tx);have h2 : (trN c.tx).length <= c.tx.length := by unfold trN; split <;> simp
  have := z.tx;simp only [List.length_append, List.length_cons]; omega
 ·split
  ·have := woW_len c.lb; have := z.lb; simp only [List.length_append]; omega
  ·split
   ·have := woW_len c.fl; have := z.fl; simp only [List.length_append]; omega
   ·split
    ·have h1 := btS_len [c.re, psW c.ps] l st;have h2 := psW_len c.ps;have h3 := flW_len c z;have := z.re; have := z.ps;unfold sbS;simp only [tsN, List.map_cons, List.map_nil, List.sum_cons, List.sum_nil, List.length_cons, List.length_nil] at h1;simp only [List.length_append];omega
    ·split
     ·have h1 := btS_len [eN [92, 110] c.fr, eN [92, 110] c.to] l st;have h2 := eN_len [92, 110] rfl c.fr;have h3 := eN_len [92, 110] rfl c.to;have := z.fr; have := z.to;simp only [tsN, List.map_cons, List.map_nil, List.sum_cons, List.sum_nil, List.length_cons, List.length_nil] at h1;omega
     ·show l.length <= _; omega
variable {B b : Nat} {c : Co} {pv : Value} {l : List UInt8} {st : Bool}
theorem CmX.to {X V : World} {g : Nat} {m : List UInt8} {su : Bool} (h : CmX X B b g c pv l st) (hV : WP X B b m su V) (hm : m.length <= 900000000) : CmH V B b c pv m su :=
 ⟨hV.1, h.le hV, h.h.hB2, h.gs hV, fun U hU => h.h.p U (hV.2.1.trans hU), h.h.z, hm⟩
theorem command_w {W : World} (h : CmH W B b c pv l st) (hl : l.length <= 700000000) (hT : c.nm = 97 \/ c.nm = 105 \/ c.nm = 99 -> ∃ y, c.tx = y ++ [10]) :
  Calls Tryz.prog 26 #[.pointer (some ⟨b, 0, none⟩), .agg (coV c pv).toArray] W fun e w' => e = .returned (.tuple #[]) /\ WP W B b (cmS c (l, st)).1 (cmS c (l, st)).2 w' := by
 have H0 := hideT h.box;have HT := hideT hT;generalize hR : cmS c (l, st) = R;have HR := hideT hR;have hx2 := x2S_len c (l, st) h.z;have HX2 := hideT hx2;clear h hT hR hx2;go_enter Tryz.func26, Tryz.ntmps26;go_upto_region 1 with fail
 generalize W.alloc (.cells (coV c pv).toArray 39) = X at *;generalize hg : W.heap.size = g at *;have HG := hideT hg;clear hg;have HC := hideT (fun V m su (hV : WP X B b m su V) j v hj => H0.out.1.at hV j (v := v) hj);have HX := hideT (WP.refl H0.out.1.h.w);have a0 := HC.out X _ _ HX.out 1 (.int .i64 (c.a.k : Nat)) rfl;have a1 := HC.out X _ _ HX.out 2 (.int .i64 (c.a.ln : Nat)) rfl;have a2 := HC.out X _ _ HX.out 3 (.string (bst c.a.re)) rfl
 go_wp2_with fail
 refine (xa5 H0.out.1.h.w H0.out.1.h.hB H0.out.1.h.hB2 H0.out.1.h.g c.a H0.out.1.h.z.ak H0.out.1.h.z.al (by have := H0.out.1.h.z.ar; omega)).mono ?_;rintro e w1 ⟨rfl, hp⟩;have H1 := hideT hp;have hy := adS_len c.a (l, st) H0.out.1.h.z.al;have HYL := hideT hy;have HE := hideT (show x2S c (l, st) = if c.b.k = 0 then adS c.a (l, st) else adS c.b ((adS c.a (l, st)).1 ++ [44], (adS c.a (l, st)).2) from rfl);unfold cmS x4S at HR;clear hp a0 a1 a2 hy;generalize adS c.a (l, st) = y at *;generalize x2S c (l, st) = z at *;obtain ⟨y1, y2⟩ := y;obtain ⟨z1, z2⟩ := z;simp only at H1 HE HR HYL HX2;have b0 := HC.out w1 _ _ H1.out 4 (.int .i64 (c.b.k : Nat)) rfl;rcases Decidable.em (c.b.k = 0) with k1 | k1
 case' inl =>
  have e1 : (((c.b.k : Nat) : Int) != 0) = false := by simp; omega
  have e2 : (((c.b.k : Nat) : Int) == 0) = true := by simp; omega
  obtain ⟨w2, hw2⟩ : ∃ w2, w2 = w1 := ⟨_, rfl⟩;have H2 : Hid (WP X B b z1 z2 w2) := hideT (by have := HE.out; rw [if_pos k1] at this; cases this; rw [hw2]; exact H1.out);go_upto_region 5 with fail
  rw [<- hw2];clear k1 H1 b0 hw2 e1 e2
 case' inr =>
  have e1 : (((c.b.k : Nat) : Int) != 0) = true := by simp; omega
  have e2 : (((c.b.k : Nat) : Int) == 0) = false := by simp; omega
  go_wp2_with fail
  refine (wrB H1.out.1 (H0.out.1.le H1.out) 44 (by have := HYL.out; have := H0.out.1.h.z.ar; omega)).mono ?_;rintro e w3 ⟨rfl, hp⟩;have H3 := hideT (H1.out.trans hp);clear hp b0 e1 e2;have d0 := HC.out w3 _ _ H3.out 4 (.int .i64 (c.b.k : Nat)) rfl;have d1 := HC.out w3 _ _ H3.out 5 (.int .i64 (c.b.ln : Nat)) rfl;have d2 := HC.out w3 _ _ H3.out 6 (.string (bst c.b.re)) rfl
  go_wp2_with fail
  refine (xa5 H3.out.1 (H0.out.1.le H3.out) H0.out.1.h.hB2 (H0.out.1.gs H3.out) c.b H0.out.1.h.z.bk H0.out.1.h.z.bl (by have := HYL.out; have := H0.out.1.h.z.ar; have := H0.out.1.h.z.br; rw [List.length_append, List.length_singleton]; omega)).mono ?_;rintro e w2 ⟨rfl, hp⟩;have H2 : Hid (WP X B b z1 z2 w2) := hideT (by have := HE.out; rw [if_neg k1] at this; rw [<- this] at hp; exact H3.out.trans hp);clear hp k1 H1 H3 d0 d1 d2;go_upto_region 5 with fail
 all_goals
  have cc := HC.out w2 _ _ H2.out 7 (.bool c.nt) rfl;have HZL : Hid (z1.length <= 700020000) := hideT (by have := HX2.out; omega);cases hf : c.nt
  case' true =>
   rw [hf] at cc
   go_wp2_with fail
   refine (wrB H2.out.1 (H0.out.1.le H2.out) 33 (by have := HZL.out; omega)).mono ?_;rintro e w3 ⟨rfl, hp⟩;have H3 : Hid (WP X B b (z1 ++ ntW c) z2 w3) := hideT (by unfold ntW; rw [if_pos hf]; exact H2.out.trans hp);clear hp cc hf H2;go_upto_region 7 with fail
  case' false =>
   rw [hf] at cc;obtain ⟨w3, hw⟩ : ∃ w3, w3 = w2 := ⟨_, rfl⟩;have H3 : Hid (WP X B b (z1 ++ ntW c) z2 w3) := hideT (by unfold ntW; rw [if_neg (by rw [hf]; simp), List.append_nil, hw]; exact H2.out);go_upto_region 7 with fail
   rw [<- hw];clear cc hf H2 hw
 all_goals
  have hnl : (ntW c).length <= 1 := by unfold ntW; split <;> simp
  have HNL := hideT hnl;clear hnl;have c8 : w3.drew.cell? ⟨g, 8, none⟩ = some (.int .u8 (c.nm.toNat : Nat)) := HC.out w3 _ _ H3.out 8 _ rfl;have HD := hideT (H3.out.stay H0.out.1.h.hB ((Below.refl w3.heap.size w3).drew))
  go_region_with (first | (go_at_call 44; go_must (refine (wrB HD.out.1 (H0.out.1.le HD.out) c.nm (by have := HZL.out; have := HNL.out; rw [List.length_append]; omega)).mono ?_; rintro e w4 ⟨rfl, hp4⟩; have H4 := hideT (HD.out.trans hp4); clear hp4)))
  clear c8 HD H3;have HM := hideT (cm_keep H0.out.1.c (H4.out.2.2.1 g H0.out.1.n).2);have HL4 : Hid ((z1 ++ ntW c ++ [c.nm]).length <= 700020002) := hideT (by have := HZL.out; have := HNL.out; simp only [List.length_append, List.length_singleton]; omega)
  go_wp2_with (refine load_co rfl _ rfl g rfl c pv HM.out ?_)
  refine (rest_w (H0.out.1.to H4.out (by have := HL4.out; omega)) (by have := HL4.out; omega) HT.out).mono ?_;rintro e w5 ⟨rfl, hp5⟩;have H5 := hideT (H4.out.trans hp5);clear hp5 HM H4;have HR5 := hideT (rsS_len c (z1 ++ ntW c ++ [c.nm], z2) H0.out.1.h.z);rw [<- List.append_assoc] at HR;generalize rsS c (z1 ++ ntW c ++ [c.nm], z2) = v at *
  go_wp2_with fail
  refine (wrB H5.out.1 (H0.out.1.le H5.out) 10 (by have := HR5.out; have := HL4.out; omega)).mono ?_;rintro e w6 ⟨rfl, hp6⟩;have H6 := hideT (H5.out.trans hp6);clear hp6;go_wp2
  go_end0
  rw [<- HR.out];exact ⟨rfl, H0.out.2.trans H6.out⟩
end sho
end Go.Proofs.YtidgnebbibkmhaaGreatDoor
namespace Go.Proofs.YtidgnebbibkmhaaGreatDoor
open Go.RowKit
open scanP scrP tpl ytb
namespace sho
structure Wt (S : List UInt8 × Bool -> List UInt8 × Bool) (o : Option (List UInt8)) : Prop where
 ok : ∀ t, o = some t -> ∀ l st, S (l, st) = (l ++ t, st)
 no : o = none -> ∀ x, (S x).2 = true
 up : ∀ l, (S (l, true)).2 = true
theorem Wt.bt (ts : List (List UInt8)) : Wt (btS ts) (btw ts) := by
 unfold btS;cases btw ts with
 | none => exact ⟨fun t e => (by cases e), fun _ _ => rfl, fun _ => rfl⟩
 | some t => exact ⟨fun u e l st => (by cases e; rfl), fun e => (by cases e), fun _ => rfl⟩
theorem Wt.ad (a : Adr) : Wt (adS a) (adW a) := by
 unfold adS adW;split
 ·exact bsw32
 ·split
  ·exact bsw32
  ·split
   ·have h := Wt.bt [a.re];cases hb : btw [a.re] with
    | none => exact ⟨fun t e => (by cases e), fun _ x => h.no hb _, fun l => h.no hb _⟩
    | some t =>
     refine ⟨fun u e l st => ?_, fun e => (by cases e), fun l => h.up _⟩;cases e;rw [h.ok t hb];simp
   ·exact ⟨fun u e l st => (by cases e; simp), fun e => (by cases e), fun _ => rfl⟩
theorem Wt.rs (c : Co) : Wt (rsS c) (rsW c) := by
 unfold rsS rsW;split
 ·exact bsw32
 ·split
  ·exact bsw32
  ·split
   ·exact bsw32
   ·split
    ·have h := Wt.bt [c.re, psW c.ps];unfold sbS;cases hb : btw [c.re, psW c.ps] with
     | none => exact ⟨fun t e => (by cases e), fun _ x => h.no hb _, fun l => h.no hb _⟩
     | some t =>
      refine ⟨fun u e l st => ?_, fun e => (by cases e), fun l => h.up _⟩;cases e;rw [h.ok t hb];simp
    ·split
     ·exact Wt.bt _
     ·exact ⟨fun u e l st => (by cases e; simp), fun e => (by cases e), fun _ => rfl⟩
theorem Wt.x2 (c : Co) : (∀ x y, adW c.a = some x -> abW c = some y -> ∀ l st, x2S c (l, st) = (l ++ (x ++ y), st)) /\ (adW c.a = none \/ abW c = none -> ∀ x, (x2S c x).2 = true) /\ ∀ l, (x2S c (l, true)).2 = true := by
 have ha := Wt.ad c.a;have hb := Wt.ad c.b;have up2 : ∀ x : List UInt8 × Bool, x.2 = true -> (adS c.b x).2 = true := fun ⟨l, st⟩ e => by cases e; exact hb.up l
 have up1 : ∀ x : List UInt8 × Bool, x.2 = true -> (adS c.a x).2 = true := fun ⟨l, st⟩ e => by cases e; exact ha.up l
 unfold x2S abW;split
 ·refine ⟨fun x y hx hy l st => ?_, fun h x => ?_, fun l => ha.up l⟩
  ·cases hy; rw [ha.ok x hx, List.append_nil]
  ·rcases h with h | h
   ·exact ha.no h x
   ·cases h
 ·refine ⟨fun x y hx hy l st => ?_, fun h x => ?_, fun l => up2 _ (up1 _ rfl)⟩
  ·cases hz : adW c.b with
   | none => rw [hz] at hy; cases hy
   | some z =>
    rw [hz] at hy;cases hy;rw [ha.ok x hx, hb.ok z hz];simp
  ·rcases h with h | h
   ·exact up2 _ (ha.no h x)
   ·cases hz : adW c.b with
    | none => exact hb.no hz _
    | some z => rw [hz] at h; cases h
theorem Wt.cm (c : Co) : Wt (cmS c) (cmW c) := by
 have hr := Wt.rs c;obtain ⟨x1, x2, x3⟩ := Wt.x2 c;have up : ∀ x : List UInt8 × Bool, x.2 = true -> (rsS c x).2 = true := fun ⟨l, st⟩ e => by cases e; exact hr.up l
 refine ⟨fun t e l st => ?_, fun e x => ?_, fun l => up _ (x3 l)⟩
 ·unfold cmW at e;split at e
  ·rename_i x y z hx hy hz;cases e;unfold cmS x4S;rw [x1 x y hx hy];simp only;rw [hr.ok z hz];simp
  ·cases e
 ·unfold cmW at e;split at e
  ·cases e
  ·rename_i hn;show (rsS c (x4S c x)).2 = true
   cases hx : adW c.a with
   | none => exact up _ (x2 (.inl hx) x)
   | some u =>
    cases hy : abW c with
    | none => exact up _ (x2 (.inr hy) x)
    | some v =>
     cases hz : rsW c with
     | none => exact hr.no hz _
     | some z => exact absurd hz (hn u v z hx hy)
theorem cmS_len (c : Co) (x : List UInt8 × Bool) (z : SzC c) : (cmS c x).1.length <= x.1.length + 100040 := by
 have h1 := x2S_len c x z;have h2 := rsS_len c (x4S c x) z;have h3 : (ntW c).length <= 1 := by unfold ntW; split <;> simp
 unfold cmS;have h4 : (x4S c x).1.length = (x2S c x).1.length + ((ntW c).length + 1) := by unfold x4S; simp
 simp only [List.length_append, List.length_singleton];omega
theorem infoB1 : Tryz.prog.cellsOf 5 = 1 := by kernel_rfl
variable {B : Nat}
theorem freeze_below (W : World) (g n : Nat) (hB : B <= g) : Below B W (W.freeze ⟨g, 0, none⟩ n) := by
 unfold World.freeze;split
 ·exact Below.refl _ _
 ·refine ⟨rfl, rfl, rfl, by simp, fun j hj => ?_⟩;simp only [Array.getElem?_modify];rw [if_neg (by omega)]
theorem wrT {W : World} {b : Nat} {l : List UInt8} {st : Bool} (h : Wr W B b l st) (hn : l = [] -> W.cell? ⟨b, 1, none⟩ = some (.slice none 0 0)) :
  Calls Tryz.prog 27 #[.pointer (some ⟨b, 0, none⟩)] W fun e w' => e = .returned (.string (bst l)) /\ Below B W w' := by
 obtain ⟨p, v, h⟩ := h;have c1 : W.drew.cell? ⟨b, 1, none⟩ = some v := by show W.cell? _ = _; rw [Lib.cell_of_heap h.blk]; rfl
 have hd : Below B W W.drew := (Below.refl _ W).drew;by_cases h0 : l = []
 ·have hv : v = .slice none 0 0 := Option.some.inj ((show W.drew.cell? ⟨b, 1, none⟩ = some v from c1).symm.trans (hn h0));subst hv;subst h0;have hSD : (Builtin.unsafeSliceData_ #[44] 107 #[.slice none 0 0]).run Tryz.prog W.drew = .ok (.pointer none) W.drew := rfl;have hUS := Lib.run_unsafeString_none (P := Tryz.prog) W.drew 107 3 9 none;have HB := hideT hd;clear h hn;go_enter Tryz.func27, Tryz.ntmps27;go_wp2;go_region
  all_goals (go_wp2; go_ret; exact ⟨rfl, HB.out⟩)
 ·have hl0 : l.length ≠ 0 := by simpa using h0
  obtain ⟨g, cap, cur, rfl, hbg, hg, hnc, hcm, hcs, htake⟩ : ∃ g cap cur, v = .slice (some ⟨g, 0, none⟩) l.length cap /\ B <= g /\ W.heap[g]? = some (.cells cur 5 (0, 0)) /\ l.length <= cap /\ cap <= maxLen /\ cur.size = cap * 1 /\ cur.toList.take (l.length * 1) = Lib.byteCells l := by
   rcases h.own.2 with ⟨_, hz⟩ | ⟨g, cap, cur, hv, r⟩
   ·exact absurd hz hl0
   ·exact ⟨g, cap, cur, hv, r⟩
  have hSD : (Builtin.unsafeSliceData_ #[44] 107 #[.slice (some ⟨g, 0, none⟩) l.length cap]).run Tryz.prog W.drew = .ok (.pointer (some ⟨g, 0, none⟩)) W.drew := Lib.run_unsafeSliceData_row _ _ _ _ _ _ (by omega);have hUS : (Builtin.unsafeString_ #[107, 3] 9 #[.pointer (some ⟨g, 0, none⟩), .int .i64 l.length]).run Tryz.prog W.drew = .ok (.string (bst l)) (W.drew.freeze ⟨g, 0, none⟩ l.length) := by
   refine Lib.run_unsafeString_row W.drew 107 3 9 5 Tryz.underlying107 infoB1 g cur.size (by have hg' : W.drew.heap[g]? = some (.cells cur 5 (0, 0)) := hg; simp [World.shape?, hg']) l h0 (by omega) (by unfold maxLen at hcm; omega) ?_;intro j x hx;exact h.own.cells (g := g) rfl j (.int .u8 x.toNat) (by simp [Lib.byteCells, hx])
  have HF := hideT (hd.trans (freeze_below W.drew g l.length hbg));clear h htake hcs hnc hg hcm hn;go_enter Tryz.func27, Tryz.ntmps27;go_wp2;go_region
  all_goals (go_wp2; go_ret; exact ⟨rfl, HF.out⟩)
end sho
end Go.Proofs.YtidgnebbibkmhaaGreatDoor
namespace Go.Proofs.YtidgnebbibkmhaaGreatDoor
open Go.RowKit
open scanP scrP tpl ytb
theorem LsAt.crow {W : World} {B : Nat} {v : Value} {L : List (Co × Value)} (h : LsAt W B v L) : CRow W v (L.map (·.1)) := by
 rcases h.own.2 with ⟨rfl, h0⟩ | ⟨g, cap, cur, rfl, hg, hh, hrest⟩
 ·have : L = [] := List.eq_nil_of_length_eq_zero h0;subst this;exact ⟨none, 0, rfl, fun k c hc => by simp at hc⟩
 ·refine ⟨some ⟨g, 0, none⟩, cap, by rw [List.length_map], fun k c hc => ?_⟩;rw [List.getElem?_map] at hc;cases hx : L[k]? with
  | none => rw [hx] at hc; cases hc
  | some x =>
   rw [hx] at hc;cases hc;refine ⟨g, 0, x.2, rfl, fun j u hu => ?_, PRow.of_owns (h.pa x (List.mem_of_getElem? hx))⟩;have h1 := h.own.cells (g := g) rfl (k * 19 + j) _ (coX_at L k x hx j u hu);have hplain : ∀ k, (⟨g, 0, none⟩ : Addr).add k = ⟨g, 0 + k, none⟩ := fun k => by unfold Addr.add; split <;> simp_all
   rw [hplain] at h1;rw [Nat.add_assoc];exact h1
theorem parse_reads (s : ByteArray) (hs : s.size <= 140737488355000) (w : World) (hg : Gl w) : Calls Tryz.prog 11 #[.string s] w fun e w' => ∃ v, e = .returned (.tuple #[v, .bool (scrR gM s.data.toList).2.1, .agg #[.int .i64 ((scrR gM s.data.toList).2.2.1 : Nat), .int .i64 ((scrR gM s.data.toList).2.2.2 : Nat)]]) /\ CRow w' v (scrR gM s.data.toList).1 /\ Below w.heap.size w w' := by
 refine (parse_ok s hs w hg).mono ?_;rintro e w' ⟨v, L, rfl, hL, hm, hb⟩;exact ⟨v, rfl, hm ▸ hL.crow, hb⟩
namespace sho
theorem set_bel (b : Nat) : ∀ (vs : List Value) (W : World) (o : Nat), Below b W (W.setCells b o vs)
 | [], W, _ => Below.refl _ _
 | v :: vs, W, o => by
  rw [World.setCells];exact ((Below.refl b W).setCell (p := ⟨b, o, none⟩) qr v).trans (set_bel b vs _ _)
variable {ops : Array Oper} {op : Oper} {a : Act} {w : World} {Q : Exit -> Act -> World -> Prop}
theorem store_co {rest : List Oper} (hgd : op.guard = none) (x y : Operand) (ho : op.op = .store 39 x y) (b : Nat) (c : Co) (pv : Value) (hx : a.eval x = .pointer (some ⟨b, 0, none⟩)) (hy : a.eval y = .agg (coV c pv).toArray) (zs : List Value) (hz : zs.length = 19) (hb : w.heap[b]? = some (.cells zs.toArray 39 (0, 0))) (hp : pv.oneCell' = true)
  (h : ∀ w', CmAt w' b (coV c pv) -> Below b w w' -> wpList Tryz.prog ops Q rest (a.put op.dst undef) w') : wpList Tryz.prog ops Q (op :: rest) a w := by
 refine wpList_store_mid hgd 39 x y ho b 0 (coV c pv).toArray hx hy (by rw [List.size_toArray]; exact xcd hb _ (by rw [hz]; rfl)) (by rw [xcm]; rfl) (xd0 c pv hp) ?_;exact h _ (xcs (coV c pv) hb (by rw [hz]; rfl)) (set_bel b _ _ _)
theorem notW_set {A A' : World} {b r : Nat} (h : NotW A b r) (hs : A.heap.size <= A'.heap.size) (hb : A'.heap[b]? = A.heap[b]?) : NotW A' b r :=
 ⟨Nat.lt_of_lt_of_le h.1 hs, h.2.1, fun p v s e => h.2.2 p v s (hb.symm.trans e)⟩
theorem load_row {rest : List Oper} (hgd : op.guard = none) (x : Operand) (ho : op.op = .load 39 x) (g o : Nat) (hx : a.eval x = .pointer (some ⟨g, o, none⟩)) (c : Co) (pv : Value) (hc : w.rangeAt g o (coV c pv)) (h : wpList Tryz.prog ops Q rest (a.put op.dst (.agg (coV c pv).toArray)) w) : wpList Tryz.prog ops Q (op :: rest) a w :=
 wpList_load_mid hgd 39 x ho g o hx (coV c pv) _ hc xc9 rfl (by rw [xcm]; rfl) h
def hdOf : Code -> Nat
 | .region i _ _ => i
 | .seq a _ => hdOf a
 | _ => 1000
def tlOf (n : Nat) : Code -> Option Code
 | .seq a b => if hdOf a = n then some (.seq a b) else tlOf n b
 | _ => none
noncomputable def tl7 : Code := (Tryz.f14.body.bind (tlOf 7)).getD .skip
theorem show_loop (u0 u1 u2 u5 u6 u8 u9 u10 u11 u12 u13 u14 u15 u16 u17 u18 u19 u20 u21 u22 u23 u24 u25 u26 u27 u28 u29 u30 u31 u32 u33 u34 u35 u36 u37 u38 u39 : Value) (w Z w2 : World) (b r cp : Nat) (pa : Option Addr) (cs : List Co) (l0 : List UInt8) (R : List UInt8 × Nat × Nat) (H2 : Hid (WP Z b b l0 false w2 /\ (l0 = [] -> w2.cell? ⟨b, 1, none⟩ = some (.slice none 0 0)))) (HL3 : Hid (l0.length <= 3)) (HR : Hid ((match alW cs l0 with | .error p => ([], 5, p) | .ok t => (t, 0, 0)) = R)) (HL : Hid (r < b)) (HB2 : Hid (2 < b)) (HRZ : Hid (Z.heap[r]? = some (.cells #[.int .i64 0, .int .i64 0] 29 (0, 0)))) (HWZ : Hid (Below r w Z)) (HGZ : Hid (Gs Z)) (HZB : Hid (b <= Z.heap.size)) (HRW : Hid (∀ k c, cs[k]? = some c -> ∃ g o pv, pa = some ⟨g, o, none⟩ /\ ∀ V, Below b Z V -> V.rangeAt g (o + k * 19) (coV c pv) /\ PRow V pv c.ps)) (HS : Hid (((∀ c ∈ cs, SzC c) /\ cs.length <= 4097) /\ ∀ c ∈ cs, WfC gM c)) :
  Code.wp Tryz.prog tl7 (bodyPost Tryz.prog Tryz.f14 fun e w' => e = .returned (.tuple #[.string (bst R.1), .agg #[.int .i64 (R.2.1 : Nat), .int .i64 (R.2.2 : Nat)]]) /\ Below r w w') ⟨#[u0, u1, u2, .pointer (some ⟨r, 0, none⟩), .slice pa cs.length cp, u5, u6, .pointer (some ⟨b, 0, none⟩), u8, u9, u10, u11, u12, u13, u14, u15, u16, u17, u18, u19, u20, u21, u22, u23, u24, u25, u26, u27, u28, u29, u30, u31, u32, u33, u34, u35, u36, u37, u38, u39], []⟩ w2 := by
 conv => arg 2; whnf
 go_wp2_with fail
 go_loopw [25] (fun i wr => ∃ (k : Nat) (l : List UInt8), k <= cs.length /\ i = .int .i64 k /\ Hid (WP Z b b l false wr) /\ Hid (alW (cs.drop k) l = alW cs l0) /\ Hid (l.length <= 3 + k * 100040) /\ Hid (l = [] -> wr.cell? ⟨b, 1, none⟩ = some (.slice none 0 0))) (fun i _ => cs.length - (intOf i).toNat)
 case atStart => exact ⟨0, l0, by omega, rfl, hideT H2.out.1, hideT rfl, hideT (by have := HL3.out; omega), hideT H2.out.2⟩
 case round =>
  obtain ⟨k, l, hk, rfl, HV, HA, HLN, HE⟩ := hrel;have HBW : Hid (b <= wr.heap.size) := hideT (Nat.le_trans HZB.out HV.out.2.2.2);have HRB := hideT ((HV.out.2.1.block r HL.out).trans HRZ.out);have HWW : Hid (Below r w wr) := hideT (HWZ.out.trans (HV.out.2.1.mono (Nat.le_of_lt HL.out)));have hcl : cs.length <= 4097 := HS.out.1.2;clear H2;by_cases hlt : k < cs.length
  ·obtain ⟨g, o, pv, rfl, hrp⟩ := HRW.out k _ (List.getElem?_eq_getElem hlt);have hsz := HS.out.1.1 _ (List.getElem_mem hlt);have hwf := HS.out.2 _ (List.getElem_mem hlt);have HDR := hideT (show cs.drop k = cs[k] :: cs.drop (k + 1) from List.drop_eq_getElem_cons hlt);generalize (cs[k]'hlt) = c at *;have HSZ := hideT hsz;have HWF := hideT hwf;have i1 : (k : Int) < (cs.length : Int) := by omega
   have i2 : (0 : Int) <= (k : Int) := by omega
   have HQ := hideT (hrp wr HV.out.2.1).1;have hpr := (hrp wr HV.out.2.1).2;have HPR := hideT (show ∀ U, Below b wr U -> PRow U pv c.ps from fun U hU => (hrp U (HV.out.2.1.trans hU)).2);obtain ⟨pq, pc, rfl⟩ := hpr.shape;have HK97 : Hid (l.length <= 600000000) := hideT (by have := HLN.out; have := HS.out.1.2; omega);clear hsz hwf hrp hpr
   go_wp2_with (first | (refine load_row rfl _ rfl g (o + k * 19) rfl c _ HQ.out ?_) | (refine store_co rfl _ _ rfl wr.heap.size c _ rfl rfl _ (by rfl) (heap_alloc_new wr _) rfl ?_))
   intro w4 hcm hb4;have hZb := HZB.out;have hblt : b < wr.heap.size := by obtain ⟨_, _, h⟩ := HV.out.1; exact h.lt
   have hW4 : Below wr.heap.size wr w4 := ((Below.refl _ _).alloc qr _).trans hb4;have hN4 := notW_set (notW_new HV.out.1 _) hb4.size (hb4.block b hblt);have H4 := hideT (HV.out.stay hZb hW4);have HH4 := hideT (show CmH w4 b b c (.slice pq c.ps.length pc) l false from ⟨H4.out.1, Nat.le_trans hZb H4.out.2.2.2, HB2.out, HGZ.out.below H4.out.2.1 HB2.out, fun U hU => HPR.out U ((hW4.mono HBW.out).trans hU), HSZ.out, by have := HK97.out; omega⟩);have HC4 := hideT (And.intro hcm hN4);clear hcm hb4 hZb hblt hW4 hN4 HQ HPR
   go_wp2_with (refine load_co rfl _ rfl wr.heap.size rfl c _ HC4.out.1 ?_)
   refine (command_w HH4.out (by have := HK97.out; omega) HWF.out.fo.te).mono ?_;rintro e w5 ⟨rfl, hp⟩;have H5 := hideT (H4.out.trans hp);have HCL := hideT (cmS_len c (l, false) HSZ.out);obtain ⟨c2, -, -⟩ := wr_st hp.1 (Nat.le_trans HZB.out H5.out.2.2.2);have HK := hideT (cm_keep HC4.out.1 (hp.2.2.1 wr.heap.size HC4.out.2).2);have HR5 := hideT ((H5.out.2.1.block r HL.out).trans HRZ.out);have HW5 : Hid (Below r w w5) := hideT (HWZ.out.trans (H5.out.2.1.mono (Nat.le_of_lt HL.out)));clear hp HC4 HH4 H4;cases hc : cmW c with
   | some t =>
    have ec := (Wt.cm c).ok t hc l false;rw [ec] at c2 H5 HCL;have HA2 := hideT (show alW (cs.drop (k + 1)) (l ++ t) = alW cs l0 by rw [<- HA.out, HDR.out, alW, hc]);have HE2 := hideT (show l ++ t = [] -> w5.cell? ⟨b, 1, none⟩ = some (.slice none 0 0) from fun e => by
     have := (cmS c (l, false)).1;have h2 : (cmS c (l, false)).1 = [] := by rw [ec]; exact e
     unfold cmS at h2;simp at h2)
    clear ec hc HK HR5 HW5;go_wp2;exact ⟨⟨k + 1, l ++ t, by omega, by go_num, H5, HA2, hideT (by have h1 : (l ++ t).length <= l.length + 100040 := HCL.out; have := HLN.out; omega), HE2⟩, by simp [intOf]; omega⟩
   | none =>
    have e2 := (Wt.cm c).no hc (l, false);rw [e2] at c2;have HRR := hideT (show R = ([], 5, c.pl) by rw [<- HR.out, <- HA.out, HDR.out, alW, hc]);have k0 : w5.drew.cell? ⟨wr.heap.size, 0, none⟩ = some (.int .i64 (c.pl : Nat)) := HK.out.cell 0 rfl;have r0 : w5.cell? ⟨r, 0, none⟩ = some (.int .i64 0) := by rw [Lib.cell_of_heap HR5.out]; rfl
    have r1 : w5.cell? ⟨r, 1, none⟩ = some (.int .i64 0) := by rw [Lib.cell_of_heap HR5.out]; rfl
    have f0 := Lib.frozen_of_heap HR5.out 0;have f1 := Lib.frozen_of_heap HR5.out 1;have HF := hideT (tpl.put2 HR5.out (.int .i64 5) (.int .i64 (c.pl : Nat)));have HB := hideT ((HW5.out.setCell (p := ⟨r, 0, none⟩) qr (.int .i64 5)).setCell (p := ⟨r, 1, none⟩) qr (.int .i64 (c.pl : Nat)));clear hc e2
    go_wp2_with fail
    go_region
    all_goals
     go_wp2;refine bodyPost_ret (tpl.fault_result (b := r) (fr := (0, 0)) rfl rfl HF.out) rfl ?_;rw [HRR.out];exact ⟨rfl, HB.out.drew⟩
  ·obtain rfl : k = cs.length := by omega
   have i1 : ((cs.length : Int) < (cs.length : Int)) = False := qg;have HRR := hideT (show R = (l, 0, 0) by have := HA.out; rw [List.drop_length, alW] at this; rw [<- HR.out, <- this])
   go_wp2_with fail
   refine (wrT HV.out.1 HE.out).mono ?_;rintro e w5 ⟨rfl, hb5⟩;have HR5 := hideT ((hb5.block r HL.out).trans HRB.out);have HW5 : Hid (Below r w w5) := hideT (HWW.out.trans (hb5.mono (Nat.le_of_lt HL.out)));have r0 : w5.cell? ⟨r, 0, none⟩ = some (.int .i64 0) := by rw [Lib.cell_of_heap HR5.out]; rfl
   have r1 : w5.cell? ⟨r, 1, none⟩ = some (.int .i64 0) := by rw [Lib.cell_of_heap HR5.out]; rfl
   have f0 := Lib.frozen_of_heap HR5.out 0;have f1 := Lib.frozen_of_heap HR5.out 1;have HF := hideT (tpl.put2 HR5.out (.int .i64 0) (.int .i64 0));have HB := hideT ((HW5.out.setCell (p := ⟨r, 0, none⟩) qr (.int .i64 0)).setCell (p := ⟨r, 1, none⟩) qr (.int .i64 0));clear hb5;go_wp2;refine bodyPost_ret (tpl.fault_result (b := r) (fr := (0, 0)) rfl rfl HF.out) rfl ?_;rw [HRR.out];exact ⟨rfl, HB.out⟩
theorem show_any (s : ByteArray) (hs : s.size <= 140737488355000) (w : World) (hg : Gl w) (hG : Gs w) (hw : 2 < w.heap.size) :
  Calls Tryz.prog 14 #[.string s] w fun e w' => e = .returned (.tuple #[.string (bst (shR gM s.data.toList).1), .agg #[.int .i64 ((shR gM s.data.toList).2.1 : Nat), .int .i64 ((shR gM s.data.toList).2.2 : Nat)]]) /\ Below w.heap.size w w' := by
 generalize hR : shR gM s.data.toList = R;unfold shR at hR;have hX := Bal w (.cells #[.int .i64 0, .int .i64 0] 29);have HP := hideT (parse_reads s hs (w.alloc (.cells #[.int .i64 0, .int .i64 0] 29)) (hg.stay (F := fun _ => False) (Tch.of hX) (fun k h => h.elim)));have HG := hideT hG;have HX := hideT hX;have hn := heap_alloc_new w (.cells #[.int .i64 0, .int .i64 0] 29);clear hg hG hX;go_enter Tryz.func14, Tryz.ntmps14;go_upto_region 1 with fail
 generalize w.alloc (.cells #[.int .i64 0, .int .i64 0] 29) = X at *;have HS := hideT (fun h0 : (scrR gM s.data.toList).2.2.1 = 0 => And.intro (scr_sz h0) (scr_wf h0));generalize scrR gM s.data.toList = P at *;obtain ⟨cs, q, e, p⟩ := P;simp only at hR HP HS
 go_wp2_with fail
 refine HP.out.mono ?_;rintro e1 w1 ⟨v, rfl, hC, hb1⟩;have HC := hideT (And.intro hC hb1);clear hC hb1 HP;go_upto_region 2 with fail
 have hY := Bal w1 (.cells #[.int .i64 (e : Nat), .int .i64 (p : Nat)] 29);have hlt : w.heap.size < X.heap.size := (Array.getElem?_eq_some_iff.1 hn).1;have hYn := heap_alloc_new w1 (.cells #[.int .i64 (e : Nat), .int .i64 (p : Nat)] 29);have hXY : Below X.heap.size X (w1.alloc (.cells #[.int .i64 (e : Nat), .int .i64 (p : Nat)] 29)) := HC.out.2.trans (hY.mono HC.out.2.size);have HCY := hideT (And.intro HC.out.1 (And.intro hY hXY));generalize w1.alloc (.cells #[.int .i64 (e : Nat), .int .i64 (p : Nat)] 29) = Y at *;have hr := (hXY.block w.heap.size hlt).trans hn;have r0 : Y.cell? ⟨w.heap.size, 0, none⟩ = some (.int .i64 0) := by rw [Lib.cell_of_heap hr]; rfl
 have r1 : Y.cell? ⟨w.heap.size, 1, none⟩ = some (.int .i64 0) := by rw [Lib.cell_of_heap hr]; rfl
 have f0 := Lib.frozen_of_heap hr 0;have f1 := Lib.frozen_of_heap hr 1;have y0 : Y.cell? ⟨w1.heap.size, 0, none⟩ = some (.int .i64 (e : Nat)) := by rw [Lib.cell_of_heap hYn]; rfl
 have y1 : Y.cell? ⟨w1.heap.size, 1, none⟩ = some (.int .i64 (p : Nat)) := by rw [Lib.cell_of_heap hYn]; rfl
 have HR0 := hideT hr;have HW : Hid (Below w.heap.size w Y) := hideT (HX.out.trans (hXY.mono HX.out.size));clear hY hXY hYn hr hn hlt;by_cases he : e = 0
 ·subst he;rw [if_neg (by simp)] at hR;have HR := hideT hR;replace HS := hideT (HS.out rfl);have hYs := (Array.getElem?_eq_some_iff.1 HR0.out).1;have hWn := heap_alloc_new Y (.cells #[.pointer none, .slice none 0 0, .bool false] 70);have hYZ := Bal Y (.cells #[.pointer none, .slice none 0 0, .bool false] 70);have HZ := hideT (show Wr (Y.alloc (.cells #[.pointer none, .slice none 0 0, .bool false] 70)) Y.heap.size Y.heap.size [] false /\ (Y.alloc (.cells #[.pointer none, .slice none 0 0, .bool false] 70)).cell? ⟨Y.heap.size, 1, none⟩ = some (.slice none 0 0) /\ Below Y.heap.size Y (Y.alloc (.cells #[.pointer none, .slice none 0 0, .bool false] 70)) from
   ⟨⟨_, _, ⟨Nat.le_refl _, hWn, .inl rfl, World.ownsRow_nil _ _ _ _, by simp [Value.ownBlock]⟩⟩, by rw [Lib.cell_of_heap hWn]; rfl, hYZ⟩)
  have HL : Hid (w.heap.size < Y.heap.size) := hideT hYs;clear hR hWn hYZ hYs y1 r0 r1 f0 f1;go_upto_region 5 with fail
  generalize Y.alloc (.cells #[.pointer none, .slice none 0 0, .bool false] 70) = Z at *;have HGZ : Hid (Gs Z) := hideT ((HG.out.below HW.out hw).below HZ.out.2.2 (by have := HL.out; omega));obtain ⟨l0, hl0⟩ : ∃ l0 : List UInt8, l0 = if q = true then [35, 110, 10] else [] := ⟨_, rfl⟩;rw [<- hl0] at HR;have HL0 := hideT hl0;clear hl0;obtain ⟨pa, cp, ev, hrow⟩ := HCY.out.1;subst ev;have HRW := hideT hrow;clear hrow y0;generalize hb : Y.heap.size = b at *;have HBB := hideT hb;clear hb
  go_upto_if 20 with fail
  go_cut [5, 10, 12, 14, 15, 17, 18, 20] from 21 to 22 (fun s5 s10 s12 s14 s15 s17 s18 s20 w2 => Hid (WP Z b b l0 false w2 /\ (l0 = [] -> w2.cell? ⟨b, 1, none⟩ = some (.slice none 0 0))))
  case first =>
   cases hq : q with
   | true =>
    rw [hq] at HL0;clear hq
    go_wp2_with fail
    refine (wrS HZ.out.1 (by rw [<- HBB.out]; exact HZ.out.2.2.size) ⟨#[35, 110, 10]⟩ (by show 0 + 3 <= _; omega)).mono ?_;rintro e w2 ⟨rfl, hp⟩;have H2 : Hid (WP Z b b l0 false w2 /\ (l0 = [] -> w2.cell? ⟨b, 1, none⟩ = some (.slice none 0 0))) := hideT ⟨by rw [HL0.out]; exact hp, fun e => by rw [HL0.out] at e; cases e⟩;clear hp
    go_wp2_with fail
    go_meet
    exact H2
   | false =>
    rw [hq] at HL0;clear hq;have H2 : Hid (WP Z b b l0 false Z /\ (l0 = [] -> Z.cell? ⟨b, 1, none⟩ = some (.slice none 0 0))) := hideT ⟨by rw [HL0.out]; exact WP.refl HZ.out.1, fun _ => HZ.out.2.1⟩
    go_wp2_with fail
    go_meet
    exact H2
  case rest =>
  have H2 := hcut;have HL3 : Hid (l0.length <= 3) := hideT (by rw [HL0.out]; split <;> simp);have HB2 : Hid (2 < b) := hideT (by have := HL.out; omega);have HRZ := hideT ((HZ.out.2.2.block w.heap.size HL.out).trans HR0.out);have HWZ : Hid (Below w.heap.size w Z) := hideT (HW.out.trans (HZ.out.2.2.mono (Nat.le_of_lt HL.out)));have HZB : Hid (b <= Z.heap.size) := hideT (by rw [<- HBB.out]; exact HZ.out.2.2.size);have HRZW : Hid (∀ k c, cs[k]? = some c -> ∃ g o pv, pa = some ⟨g, o, none⟩ /\ ∀ V, Below b Z V -> V.rangeAt g (o + k * 19) (coV c pv) /\ PRow V pv c.ps) := hideT (fun k c hc => by
   obtain ⟨g, o, pv, e, hrg, hpr⟩ := HRW.out k c hc;have hle : w1.heap.size <= b := by rw [<- HBB.out]; exact HCY.out.2.1.size
   refine ⟨g, o, pv, e, fun V hV => ?_⟩;have hb : Below w1.heap.size w1 V := (HCY.out.2.1.trans (HZ.out.2.2.mono hle)).trans (hV.mono hle);exact ⟨xdr hrg (hb.block g (xic hrg)), hpr.stay hb qr⟩)
  rename_i K hK;refine hK _ _ ?_;exact show_loop _ _ _ _ _ _ _ _ _ _ _ _ _ _ _ _ _ _ _ _ _ _ _ _ _ _ _ _ _ _ _ _ _ _ _ _ _ w Z wc b w.heap.size cp pa cs l0 R H2 HL3 HR HL HB2 HRZ HWZ HGZ HZB HRZW HS
 ·have e1 : (((e : Nat) : Int) != 0) = true := by simp; omega
  have e2 : (((e : Nat) : Int) == 0) = false := by simp; omega
  rw [if_pos he] at hR;have HR := hideT hR;have HF := hideT (tpl.put2 HR0.out (.int .i64 (e : Nat)) (.int .i64 (p : Nat)));have HB := hideT ((HW.out.setCell (p := ⟨w.heap.size, 0, none⟩) qr (.int .i64 (e : Nat))).setCell (p := ⟨w.heap.size, 1, none⟩) qr (.int .i64 (p : Nat)));clear hR he HC HCY
  go_wp2_with fail
  go_region
  all_goals
   go_wp2;refine bodyPost_ret (tpl.fault_result (b := w.heap.size) (fr := (0, 0)) rfl rfl HF.out) rfl ?_;rw [<- HR.out];exact ⟨rfl, HB.out.drew⟩
end sho
end Go.Proofs.YtidgnebbibkmhaaGreatDoor
