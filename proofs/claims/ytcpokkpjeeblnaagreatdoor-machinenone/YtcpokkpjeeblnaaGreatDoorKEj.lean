/- emit: Build. -/
import Derived.Test.YtcpokkpjeeblnaaGreatDoorKBa
import Derived.Test.YtcpokkpjeeblnaaGreatDoorKEc
import Derived.Test.YtcpokkpjeeblnaaGreatDoorKXw1
set_option maxRecDepth 100000
set_option maxHeartbeats 4000000
namespace Go.Proofs.YtcpokkpjeeblnaaGreatDoor
open Go.RowKit
open scanP scrP tpl ytb
namespace em
open emP
variable {W w X : World} {L : List (Co × Value)} {G : Gr} {l : List UInt8} {N F : Nat} {E p : Int}
theorem QRow.of_ls {B : Nat} {v : Value} (h : LsAt W B v L) : QRow W v L := by
 have h1 : ∀ x ∈ L, x.2.oneCell' = true := fun x hx => (h.pa x hx).one;rcases h.own.2 with ⟨rfl, h0⟩ | ⟨g, cap, cur, rfl, hg, hh, hrest⟩
 ·have : L = [] := List.eq_nil_of_length_eq_zero h0;subst this;exact ⟨none, 0, rfl, h1, fun k c hc => by simp at hc⟩
 ·refine ⟨some ⟨g, 0, none⟩, cap, rfl, h1, fun k x hx => ⟨g, 0, rfl, fun j u hu => ?_⟩⟩;have h2 := h.own.cells (g := g) rfl (k * 19 + j) _ (coX_at L k x hx j u hu);have hplain : ∀ k, (⟨g, 0, none⟩ : Addr).add k = ⟨g, 0 + k, none⟩ := fun k => by unfold Addr.add; split <;> simp_all
  rw [hplain] at h2;rw [Nat.add_assoc];exact h2
theorem QRow.ck {v : Value} (h : QRow W v L) (hl : ∀ x ∈ L, x.1.lb.length <= 100000) : ckp.CRow W v (L.map fun x => toCm x.1) := by
 obtain ⟨a, cp, rfl, _, h⟩ := h;refine ⟨a, cp, by rw [List.length_map], fun k c hc => ?_⟩;rw [List.getElem?_map] at hc;cases hx : L[k]? with
 | none => rw [hx] at hc; cases hc
 | some x =>
  rw [hx] at hc;cases hc;obtain ⟨g, o, h1, h2⟩ := h k x hx;have hm := hl x (List.mem_of_getElem? hx);exact ⟨g, o, h1, ⟨h2 0 _ rfl, h2 1 _ rfl, h2 4 _ rfl, h2 7 _ rfl, h2 8 _ rfl, h2 9 _ rfl⟩, by show x.1.lb.length <= _; omega⟩
def bldS (R : List Co × Bool × Nat × Nat) : (Nat × Int) ⊕ List (List UInt8) :=
 if R.2.2.1 ≠ 0 then .inl (R.2.2.1, R.2.2.2)
 else if (ckp.chkP.chkR (R.1.map toCm)).1 ≠ 0 then .inl (ckp.chkP.chkR (R.1.map toCm))
 else match wtR R.1 [] with
  | .inl p => .inl (4, p)
  | .inr fs => .inr fs
def BdPost (R : List Co × Bool × Nat × Nat) (w : World) (e : Ending) (w' : World) : Prop := Below w.heap.size w w' /\ match bldS R with
 | .inl x => x.1 ≠ 0 /\ e = .returned (.tuple #[.agg #[.bool false, .slice none 0 0, .int .i64 0, .slice none 0 0], .agg #[.int .i64 x.1, .int .i64 x.2]])
 | .inr fs => ∃ (L : List (Co × Value)) (g : Nat) (fv : Value), L.map (·.1) = R.1 /\ (∀ x ∈ L, ∃ b n m, x.2 = .slice b n m) /\ R.2.2.1 = 0 /\ (ckp.chkP.chkR (R.1.map toCm)).1 = 0 /\ wtR R.1 [] = .inr fs /\ w.heap.size <= g /\ w'.heap[g]? = some (.cells (opF (jmF R.1) (slF R.1) 0 L).toArray 98) /\ w'.ownsRow w.heap.size 9 1 fv fs.length (strV fs) /\ e = .returned (.tuple #[.agg #[.bool R.2.1, .slice (some ⟨g, 0, none⟩) R.1.length R.1.length, .int .i64 (slN R.1 : Nat), fv], .agg #[.int .i64 0, .int .i64 0]])
theorem rst_lb {c d : Co} {i k : Nat} (hc : c.lb = []) (hn : c.nh <= 512) (h : rstR G l c i = .ok (d, k)) : d.lb.length <= 32 := by
 have h0 : c.lb.length <= 32 := by rw [hc]; simp
 unfold rstR at h;split at h
 ·cases h; exact h0
 ·split at h
  ·unfold txtC at h;split at h
   ·cases h
   ·cases h; exact h0
  ·split at h
   ·unfold labC at h;split at h
    ·cases h
    ·rename_i t m hl;cases h;unfold labR at hl;split at hl
     ·cases hl
     ·rename_i hx;have hw : xcw l i = (t, k) := by simpa using hl
      rw [hw] at hx;simp only at hx ⊢;omega
   ·split at h
    ·unfold filC at h;split at h
     ·cases h
     ·cases h; exact h0
    ·split at h
     ·unfold sedR at h;split at h
      ·cases h
      ·split at h
       ·cases h
       ·split at h
        ·cases h
        ·split at h
         ·cases h
         ·split at h
          ·cases h
          ·split at h
           ·cases h
           ·split at h
            ·cases h
            ·rename_i hf;cases h;have e := (xen _ (by exact hn) hf).lb;simp only at e ⊢;rw [e];exact h0
     ·split at h
      ·split at h
       ·cases h
       ·rename_i ht;unfold endC at h;split at h
        ·cases h
        ·cases h;unfold tabR at ht;split at ht
         ·cases ht
         ·split at ht
          ·cases ht
          ·split at ht
           ·cases ht
           ·split at ht
            ·cases ht
            ·cases ht; exact h0
      ·split at h
       ·unfold endC at h;split at h
        ·cases h
        ·cases h; exact h0
       ·cases h
theorem all_lb : ∀ (n : Nat) {i : Nat} {acc cs : List Co}, (∀ c ∈ acc, c.lb.length <= 32) -> allR G l n i acc = .ok cs -> ∀ c ∈ cs, c.lb.length <= 32
 | 0, i, acc, cs, ha, h => by cases h; exact ha
 | n + 1, i, acc, cs, ha, h => by
  unfold allR at h;split at h
  ·cases h; exact ha
  ·split at h
   ·cases h
   ·rename_i c m hc;refine all_lb n (fun d hd => ?_) h;rcases List.mem_append.1 hd with hd | hd
    ·exact ha d hd
    ·rw [List.mem_singleton.1 hd];unfold cmdR at hc;split at hc
     ·cases hc
     ·split at hc
      ·cases hc
      ·exact rst_lb rfl (by show (0 : Nat) <= 512; decide) hc
theorem lb_small (h : (scrR gM l).2.2.1 = 0) : ∀ c ∈ (scrR gM l).1, c.lb.length <= 100000 := by
 obtain ⟨_, cs, h1, e⟩ := xhc h;rw [e];intro c hc;have := all_lb _ (fun c hc => by simp at hc) h1 c hc;omega
theorem fl_ge {cs : List Co} (h : Fields l cs) : ∀ (k : Nat) (c : Co), cs[k]? = some c -> k <= c.pl
 | 0, c, _ => Nat.zero_le _
 | k + 1, c, hc => by
  have hk : k < cs.length := by have := (List.getElem?_eq_some_iff.1 hc).1; omega
  have h1 := fl_ge h k _ (List.getElem?_eq_getElem hk);have h2 := h.up k _ c (List.getElem?_eq_getElem hk) hc;omega
theorem xhe {cs : List Co} (h : Fields l cs) : cs.length <= l.length := by
 rcases Nat.eq_zero_or_pos cs.length with h0 | h0
 ·omega
 ·have hk : cs.length - 1 < cs.length := by omega
  have h1 := fl_ge h _ _ (List.getElem?_eq_getElem hk);have h2 := (List.getElem?_eq_some_iff.1 (h.fo _ (List.getElem_mem hk)).2).1;omega
structure RS (w : World) (N F : Nat) (X : World) (E p : Int) : Prop where
 n1 : X.heap[N]? = some (.cells #[.bool false, .slice none 0 0, .int .i64 0, .slice none 0 0] 52)
 n2 : X.heap[N + 1]? = some (.cells #[.int .i64 0, .int .i64 0] 45)
 f : X.heap[F]? = some (.cells #[.int .i64 E, .int .i64 p] 45)
 lt : N + 1 < F
 nn : N = w.heap.size
 bel : Below w.heap.size w X
theorem RS.cells (h : RS w N F X E p) : (X.cell? ⟨F, 0, none⟩ = some (.int .i64 E) /\ X.cell? ⟨F, 1, none⟩ = some (.int .i64 p)) /\ X.cell? ⟨N, 0, none⟩ = some (.bool false) /\ X.cell? ⟨N, 1, none⟩ = some (.slice none 0 0) /\ X.cell? ⟨N, 2, none⟩ = some (.int .i64 0) /\ X.cell? ⟨N, 3, none⟩ = some (.slice none 0 0) /\ X.cell? ⟨N + 1, 0, none⟩ = some (.int .i64 0) /\ X.cell? ⟨N + 1, 1, none⟩ = some (.int .i64 0) /\ X.frozen? ⟨N, 0, none⟩ = false /\ X.frozen? ⟨N, 1, none⟩ = false /\ X.frozen? ⟨N, 2, none⟩ = false /\ X.frozen? ⟨N, 3, none⟩ = false /\ X.frozen? ⟨N + 1, 0, none⟩ = false /\ X.frozen? ⟨N + 1, 1, none⟩ = false := by
 simp [World.cell?, World.frozen?, h.n1, h.n2, h.f]
theorem RS.fin (h : RS w N F X E p) (a b c d e f : Value) : Below w.heap.size w ((((((X.setCell ⟨N, 0, none⟩ a).setCell ⟨N, 1, none⟩ b).setCell ⟨N, 2, none⟩ c).setCell ⟨N, 3, none⟩ d).setCell ⟨N + 1, 0, none⟩ e).setCell ⟨N + 1, 1, none⟩ f) := by
 have hn := h.nn;exact (((((h.bel.setCell (p := ⟨N, 0, none⟩) (by show _ <= N; omega) a).setCell (p := ⟨N, 1, none⟩) (by show _ <= N; omega) b).setCell (p := ⟨N, 2, none⟩) (by show _ <= N; omega) c).setCell (p := ⟨N, 3, none⟩) (by show _ <= N; omega) d).setCell (p := ⟨N + 1, 0, none⟩) (by show _ <= N + 1; omega) e).setCell (p := ⟨N + 1, 1, none⟩) (by show _ <= N + 1; omega) f
theorem BdPost.bad {R : List Co × Bool × Nat × Nat} {w' : World} {x : Nat} {y : Int} (hb : Below w.heap.size w w') (h : bldS R = .inl (x, y)) (hx : x ≠ 0) : BdPost R w (.returned (.tuple #[.agg #[.bool false, .slice none 0 0, .int .i64 0, .slice none 0 0], .agg #[.int .i64 x, .int .i64 y]])) w' := by
 unfold BdPost;rw [h];exact ⟨hb, hx, rfl⟩
theorem RS.putF (h : RS w N F X E p) (E2 p2 : Int) : RS w N F ((X.setCell ⟨F, 0, none⟩ (.int .i64 E2)).setCell ⟨F, 1, none⟩ (.int .i64 p2)) E2 p2 := by
 have hl := h.lt;have hn := h.nn;refine ⟨?_, ?_, tpl.put2 h.f _ _, hl, hn, (h.bel.setCell (p := ⟨F, 0, none⟩) (by show _ <= F; omega) _).setCell (p := ⟨F, 1, none⟩) (by show _ <= F; omega) _⟩
 ·rw [put_far _ _ _ _ (by omega), put_far _ _ _ _ (by omega)]; exact h.n1
 ·rw [put_far _ _ _ _ (by omega), put_far _ _ _ _ (by omega)]; exact h.n2
theorem QRow.putF {v : Value} (h : QRow W v L) {x y : Value} {T : TypeId} (hF : W.heap[F]? = some (.cells #[x, y] T (0, 0))) (a b : Value) : QRow ((W.setCell ⟨F, 0, none⟩ a).setCell ⟨F, 1, none⟩ b) v L := by
 obtain ⟨p, cp, e, h1, h⟩ := h;refine ⟨p, cp, e, h1, fun k s hs => ?_⟩;obtain ⟨g, o, h1, h2⟩ := h k s hs;have hne : g ≠ F := fun e => by
  have h3 := h2 8 _ rfl;rw [e] at h3;simp [World.cell?, hF] at h3
 exact ⟨g, o, h1, xdr h2 (by rw [put_far _ _ _ _ hne, put_far _ _ _ _ hne])⟩
theorem RS.apart (h : RS w N F X E p) : (N = F) = False /\ (F = N) = False /\ (N + 1 = F) = False /\ (F = N + 1) = False := by
 have := h.lt;simp only [eq_iff_iff, iff_false];omega
theorem RS.stay {X' : World} (h : RS w N F X E p) (hb : Below X.heap.size X X') : RS w N F X' E p :=
 ⟨(hb.block _ (xah h.n1)).trans h.n1, (hb.block _ (xah h.n2)).trans h.n2, (hb.block _ (xah h.f)).trans h.f, h.lt, h.nn, h.bel.trans (hb.mono h.bel.size)⟩
theorem xeq (s : ByteArray) (hs : s.size <= 140737488355000) (w : World) (hg : Gl w) : Calls Tryz.prog 28 #[.string s] w (BdPost (scrR gM s.data.toList) w) := by
 obtain ⟨R, hR⟩ : ∃ R, R = scrR gM s.data.toList := ⟨_, rfl⟩;rw [<- hR];have HLBS := hideT (show R.2.2.1 = 0 -> ∀ c ∈ R.1, c.lb.length <= 100000 by rw [hR]; exact lb_small);have HLEN := hideT (show R.2.2.1 = 0 -> R.1.length <= 10000 by
  rw [hR];intro h;obtain ⟨hl, _⟩ := xhc h;have := xhe (xe4 h);omega)
 have hA1 := Bal w (.cells #[.bool false, .slice none 0 0, .int .i64 0, .slice none 0 0] 52);have hN1 := heap_alloc_new w (.cells #[.bool false, .slice none 0 0, .int .i64 0, .slice none 0 0] 52);have e1 := xcl w (.cells #[.bool false, .slice none 0 0, .int .i64 0, .slice none 0 0] 52);have hA2 := (Below.refl _ (w.alloc (.cells #[.bool false, .slice none 0 0, .int .i64 0, .slice none 0 0] 52))).alloc qr (.cells #[.int .i64 0, .int .i64 0] 45);have hN2 := heap_alloc_new (w.alloc (.cells #[.bool false, .slice none 0 0, .int .i64 0, .slice none 0 0] 52)) (.cells #[.int .i64 0, .int .i64 0] 45);rw [e1] at hA2 hN2;go_enter Tryz.func28, Tryz.ntmps28;go_upto_region 1 with fail
 obtain ⟨Y, hY⟩ : ∃ Y, Y = (w.alloc (.cells #[.bool false, .slice none 0 0, .int .i64 0, .slice none 0 0] 52)).alloc (.cells #[.int .i64 0, .int .i64 0] 45) := ⟨_, rfl⟩;rw [<- hY] at hA2 hN2 ⊢;have hYB : Below w.heap.size w Y := hA1.trans (hA2.mono (by omega));have hb1 := (hA2.block w.heap.size (by omega)).trans hN1;have HP := hideT (parse_ok s hs Y (hg.below hYB));have HB0 := hideT hYB;have HR1 := hideT hb1;have HR2 := hideT hN2;clear hA1 hN1 e1 hA2 hN2 hY hYB hb1 hg hs;obtain ⟨N, hN⟩ : ∃ N, N = w.heap.size := ⟨_, rfl⟩;rw [<- hN] at HR1 HR2 ⊢;have HNN := hideT hN;clear hN
 go_wp2_with fail
 refine HP.out.mono ?_;rintro e w1 ⟨v, L, rfl, hL, hm, hb1⟩;rw [<- hR] at hm ⊢;have HRR := hideT hR;clear hR HP;obtain ⟨cs, qu, E, p⟩ := R;simp only at hm HLBS HLEN ⊢;have hA := Bal w1 (.cells #[.int .i64 E, .int .i64 p] 45);have hN := heap_alloc_new w1 (.cells #[.int .i64 E, .int .i64 p] 45);have HQ := hideT ((QRow.of_ls hL).stay hA);have HSL := hideT (show ∀ x ∈ L, ∃ b n m, x.2 = .slice b n m from fun x hx => (let ⟨a, c, h⟩ := owns_shape (hL.pa x hx); ⟨a, _, c, h⟩));have HM := hideT hm;have hWX : Below w.heap.size w w1 := HB0.out.trans (hb1.mono HB0.out.size);go_upto_region 2 with fail
 obtain ⟨X, hX⟩ : ∃ X, X = w1.alloc (.cells #[.int .i64 E, .int .i64 p] 45) := ⟨_, rfl⟩;rw [<- hX] at hA hN HQ ⊢;obtain ⟨F, hF⟩ : ∃ F, F = w1.heap.size := ⟨_, rfl⟩;rw [<- hF] at hN ⊢;have n1 : X.heap[N]? = some (.cells #[.bool false, .slice none 0 0, .int .i64 0, .slice none 0 0] 52) := (hA.block N (Nat.lt_of_lt_of_le (xah HR1.out) hb1.size)).trans ((hb1.block N (xah HR1.out)).trans HR1.out);have n2 : X.heap[N + 1]? = some (.cells #[.int .i64 0, .int .i64 0] 45) := (hA.block (N + 1) (Nat.lt_of_lt_of_le (xah HR2.out) hb1.size)).trans ((hb1.block (N + 1) (xah HR2.out)).trans HR2.out);have HFN := hideT (show N + 1 < F by rw [hF]; exact Nat.lt_of_lt_of_le (xah HR2.out) hb1.size);have HWX := hideT (hWX.trans (hA.mono hWX.size));have HS := hideT (show RS w N F X (E : Nat) (p : Nat) from ⟨n1, n2, hN, HFN.out, HNN.out, HWX.out⟩);clear hA hN hX hF hWX n1 n2 HFN HWX hL hm hb1 HB0 HR1 HR2;by_cases hE : E = 0
 ·subst hE;obtain ⟨⟨c0, c1⟩, r0, r1, r2, r3, s0, s1, f0, f1, f2, f3, g0, g1⟩ := HS.out.cells;have hmc : L.map (fun x => toCm x.1) = cs.map toCm := by rw [<- HM.out, List.map_map]; rfl
  have hLl : L.length = cs.length := by rw [<- HM.out, List.length_map]
  have hck := ckp.check_any (HQ.out.ck (fun x hx => HLBS.out rfl x.1 (by rw [<- HM.out]; exact List.mem_map_of_mem hx))) (by rw [List.length_map, hLl]; have := HLEN.out rfl; omega);rw [hmc] at hck;unfold ckp.chkV ckp.fltV at hck;obtain ⟨Z, hZ⟩ : ∃ Z, Z = ckp.chkP.chkR (cs.map toCm) := ⟨_, rfl⟩;rw [<- hZ] at hck;have HZ := hideT hZ;have HCK := hideT hck;obtain ⟨z, y⟩ := Z;have HLE := hideT (HLEN.out rfl);have HLB2 := hideT (HLBS.out rfl);have HLL := hideT hLl;clear hck hZ hmc hLl r0 r1 r2 r3 s0 s1 f0 f1 f2 f3 g0 g1
  go_wp2_with fail
  refine HCK.out.mono ?_;rintro e w2 ⟨rfl, hb2⟩;have hA := Bal w2 (.cells #[.int .i64 z, .int .i64 y] 45);have hN := heap_alloc_new w2 (.cells #[.int .i64 z, .int .i64 y] 45);go_upto_region 5 with fail
  obtain ⟨X2, hX⟩ : ∃ X, X = w2.alloc (.cells #[.int .i64 z, .int .i64 y] 45) := ⟨_, rfl⟩;rw [<- hX] at hA hN ⊢;have hb : Below X.heap.size X X2 := hb2.trans (hA.mono hb2.size);have HS2 := hideT (HS.out.stay hb);have HSF := hideT (show RS w N w2.heap.size X2 (z : Nat) y from ⟨HS2.out.n1, HS2.out.n2, hN, Nat.lt_of_lt_of_le (Nat.lt_trans HS.out.lt (xah HS.out.f)) hb2.size, HS2.out.nn, HS2.out.bel⟩);have HQ2 := hideT (HQ.out.stay hb);have HFL := hideT (Nat.lt_of_lt_of_le (xah HS.out.f) hb.size);clear hb2 hA hN hX hb HCK HS HQ c0 c1;generalize w2.heap.size = F2 at *;by_cases hz : z = 0
  ·subst hz;obtain ⟨⟨c0, c1⟩, _⟩ := HSF.out.cells;have HWT := hideT (xli v L X2 HQ2.out (by rw [HLL.out]; exact HLE.out));rw [HM.out] at HWT
   go_wp2_with fail
   refine HWT.out.mono ?_;intro e w3 hw3;have HS3 := hideT (HS2.out.stay hw3.1);have HQ3 := hideT (HQ2.out.stay hw3.1);have HB3 := hideT hw3.1;have hw3 := hw3.2;clear HWT c0 c1 HSF HS2 HQ2;have a0 : w3.cell? ⟨F, 0, none⟩ = some (.int .i64 ((0 : Nat) : Int)) := by simp [World.cell?, HS3.out.f]
   have a1 := clq 1 HS3.out.f rfl;have b0 := fzq 0 HS3.out.f;have b1 := fzq 1 HS3.out.f;cases hwt : wtR cs [] with
   | inl q =>
    rw [hwt] at hw3;simp only at hw3;subst hw3;have HV := hideT (show bldS (cs, qu, 0, p) = .inl (4, (q : Int)) by unfold bldS; rw [if_neg (by simp), if_neg (by rw [<- HZ.out]; simp), hwt]);have HSP := hideT (HS3.out.putF 4 (q : Nat));go_upto_region 8 with fail
    obtain ⟨X3, hX⟩ : ∃ X, X = (w3.setCell ⟨F, 0, none⟩ (.int .i64 4)).setCell ⟨F, 1, none⟩ (.int .i64 q) := ⟨_, rfl⟩;rw [<- hX] at HSP ⊢;obtain ⟨⟨c0, c1⟩, r0, r1, r2, r3, s0, s1, f0, f1, f2, f3, g0, g1⟩ := HSP.out.cells;obtain ⟨d1, d2, d3, d4⟩ := HSP.out.apart;clear hX a0 a1 b0 b1 hwt;go_wp2;go_region
    all_goals go_wp2
    exact bodyPost_ret (v := .tuple #[.agg #[.bool false, .slice none 0 0, .int .i64 0, .slice none 0 0], .agg #[.int .i64 (4), .int .i64 q]]) (by simp [results, Tryz.results28, go_sem, r0, r1, r2, r3, s0, s1]) rfl (BdPost.bad (HSP.out.fin _ _ _ _ _ _).drew HV.out (by decide))
   | inr fs =>
    rw [hwt] at hw3;simp only at hw3;obtain ⟨fv, rfl, hfv⟩ := hw3;have HFV := hideT hfv;have HWT := hideT hwt;have hsp := HS3.out.putF 0 0;have hq3 := HQ3.out.putF HS3.out.f (.int .i64 0) (.int .i64 0);clear hfv hwt;go_upto_region 8 with fail
    obtain ⟨X3, hX⟩ : ∃ X, X = (w3.setCell ⟨F, 0, none⟩ (.int .i64 0)).setCell ⟨F, 1, none⟩ (.int .i64 0) := ⟨_, rfl⟩;rw [<- hX] at hsp hq3 ⊢;have hsz : X3.heap.size = w3.heap.size := by rw [hX]; exact (Array.size_modify ..).trans (Array.size_modify ..)
    have hF2 : F < X2.heap.size := by have := HFL.out; exact this
    have HF3 := hideT (show X3.ownsRow X2.heap.size 9 1 fv fs.length (strV fs) from owns_keep HFV.out (fun b hb => by
     have hne : b ≠ F := by have := (owns_blk HFV.out hb).1; omega
     rw [hX, put_far _ _ _ _ hne, put_far _ _ _ _ hne]))
    have HSP := hideT hsp;have HFT := hideT (flat_any v L X3 hq3 HSL.out (by rw [HLL.out]; exact HLE.out));have HXX := hideT (show X2.heap.size <= X3.heap.size by rw [hsz]; exact HB3.out.size);obtain ⟨⟨c0, c1⟩, _⟩ := HSP.out.cells;clear hsp hq3 hX hsz hF2 a0 a1 b0 b1 HFV HS3 HQ3 HB3
    go_wp2_with fail
    refine HFT.out.mono ?_;rintro e w4 ⟨g, rfl, hg, hblk, hb4⟩;rw [HM.out] at hblk ⊢;have HLJ := hideT (xj4 w4 g L cs (slF cs) HM.out hblk (by rw [<- HZ.out]) (by rw [HLL.out]; exact HLE.out) HLB2.out);have HS4 := hideT (HSP.out.stay hb4);have HF4 := hideT (owns_below HF3.out hb4);have HGX := hideT (And.intro hg (xah hblk));have HFB := hideT (fun b (hb : fv.ownBlock = some b) => (owns_blk HF3.out hb).2.1);clear hblk hg hb4 HFT HSP c0 c1
    go_wp2_with fail
    refine HLJ.out.mono ?_;rintro e w5 ⟨rfl, hg5, hf5, hb5⟩;have hNF := HS4.out.lt;have hF3 : F < X3.heap.size := by have := HXX.out; have := HFL.out; omega
    have HS5 := hideT (show RS w N F w5 0 0 from by
     have hg1 := HGX.out.1;have k1 := hf5 N (xah HS4.out.n1) (by omega);have k2 := hf5 (N + 1) (xah HS4.out.n2) (by omega);have k3 := hf5 F (xah HS4.out.f) (by omega);exact ⟨k1.trans HS4.out.n1, k2.trans HS4.out.n2, k3.trans HS4.out.f, hNF, HS4.out.nn, HS4.out.bel.trans (hb5.mono (by have := HS4.out.nn; omega))⟩)
    have HF5 := hideT (show w5.ownsRow X2.heap.size 9 1 fv fs.length (strV fs) from owns_keep HF4.out (fun b hb => hf5 b (owns_blk HF4.out hb).2.1 (by have := HFB.out b hb; have := HGX.out.1; omega)));have HG5 := hideT hg5;have HNG := hideT (show N + 1 < g by have := HGX.out.1; omega);obtain ⟨_, r0, r1, r2, r3, s0, s1, f0, f1, f2, f3, g0, g1⟩ := HS5.out.cells;clear hg5 hf5 hb5 hNF hF3 HLJ HS4 HF4;obtain ⟨fa, fc, hfv⟩ := owns_shape HF5.out;subst hfv;go_wp2;rw [HLL.out];refine bodyPost_ret (v := .tuple #[.agg #[.bool qu, .slice (some ⟨g, 0, none⟩) cs.length cs.length, .int .i64 (slN cs : Nat), .slice fa fs.length fc], .agg #[.int .i64 0, .int .i64 0]]) (by simp [results, Tryz.results28, go_sem, r0, r1, r2, r3, s0, s1]) rfl ?_;unfold BdPost;rw [show bldS (cs, qu, 0, p) = .inr fs by unfold bldS; rw [if_neg (by simp), if_neg (by rw [<- HZ.out]; simp), HWT.out]];refine ⟨HS5.out.fin _ _ _ _ _ _, L, g, _, HM.out, HSL.out, rfl, by rw [<- HZ.out], HWT.out, ?_, ?_, ?_, rfl⟩
    ·have := HNG.out; have := HS5.out.nn; omega
    ·have hne := HNG.out;rw [put_far _ _ _ _ (by omega), put_far _ _ _ _ (by omega), put_far _ _ _ _ (by omega), put_far _ _ _ _ (by omega), put_far _ _ _ _ (by omega), put_far _ _ _ _ (by omega)];exact HG5.out
    ·have hn := HS5.out.nn;have hlt := HS5.out.lt;have hfl := HFL.out;refine owns_mono (owns_keep HF5.out (fun b hb => ?_)) (by omega);have := (owns_blk HF5.out hb).1;rw [put_far _ _ _ _ (by omega), put_far _ _ _ _ (by omega), put_far _ _ _ _ (by omega), put_far _ _ _ _ (by omega), put_far _ _ _ _ (by omega), put_far _ _ _ _ (by omega)]
  ·have z1 : ((z : Int) != 0) = true := qb;have HV := hideT (show bldS (cs, qu, 0, p) = .inl (z, y) by unfold bldS; rw [if_neg (by simp), if_pos (by rw [<- HZ.out]; exact hz), <- HZ.out]);have HNZ := hideT hz;obtain ⟨⟨c0, c1⟩, r0, r1, r2, r3, s0, s1, f0, f1, f2, f3, g0, g1⟩ := HSF.out.cells;obtain ⟨d1, d2, d3, d4⟩ := HSF.out.apart;clear hz;go_wp2;go_region
   all_goals go_wp2
   exact bodyPost_ret (v := .tuple #[.agg #[.bool false, .slice none 0 0, .int .i64 0, .slice none 0 0], .agg #[.int .i64 z, .int .i64 (y)]]) (by simp [results, Tryz.results28, go_sem, r0, r1, r2, r3, s0, s1]) rfl (BdPost.bad (HSF.out.fin _ _ _ _ _ _).drew HV.out HNZ.out)
 ·have z1 : ((E : Int) != 0) = true := qb;have HE := hideT hE;obtain ⟨⟨c0, c1⟩, r0, r1, r2, r3, s0, s1, f0, f1, f2, f3, g0, g1⟩ := HS.out.cells;obtain ⟨d1, d2, d3, d4⟩ := HS.out.apart;clear hE;go_wp2;go_region
  all_goals go_wp2
  exact bodyPost_ret (v := .tuple #[.agg #[.bool false, .slice none 0 0, .int .i64 0, .slice none 0 0], .agg #[.int .i64 E, .int .i64 p]]) (by simp [results, Tryz.results28, go_sem, r0, r1, r2, r3, s0, s1]) rfl (BdPost.bad (HS.out.fin _ _ _ _ _ _).drew (by unfold bldS; rw [if_pos HE.out]) HE.out)
end em
end Go.Proofs.YtcpokkpjeeblnaaGreatDoor
namespace Go.Proofs.YtcpokkpjeeblnaaGreatDoor
open Go.RowKit
open scanP scrP tpl ytb
namespace em
open emP ckp.chkP
def zO : List Value := zC ++ [.int .i64 0, .int .i64 0]
variable {op : Oper} {w W : World}
theorem run_zO {ev : Operand -> Value} (ho : op.op = .alloc 98) : (execOp ev op).run Tryz.prog w = .ok (.value (.pointer (some ⟨w.heap.size, 0, none⟩))) (w.alloc (.cells zO.toArray 98)) := by
 go_simp
 rfl
theorem al_op {ops : Array Oper} {rest : List Oper} {a : Act} {Q : Exit -> Act -> World -> Prop} (hgd : op.guard = none) (ho : op.op = .alloc 98)
  (h : ∀ w', Hid (New w w' 98 zO) -> wpList Tryz.prog ops Q rest (a.put op.dst (.pointer (some ⟨w.heap.size, 0, none⟩))) w') : wpList Tryz.prog ops Q (op :: rest) a w :=
 xid hgd (run_zO ho) (h _ (hideT ⟨heap_alloc_new w _, (Below.refl _ _).alloc qr _, xcl w _⟩))
theorem op_cmd {b : Nat} {c : Co} {pv : Value} {j s : Int} {T : TypeId} (h : W.heap[b]? = some (.cells (opV c pv j s).toArray T (0, 0))) : W.rangeAt b 0 (coV c pv) := fun k v hv => by
 have hk := (List.getElem?_eq_some_iff.1 hv).1;refine range_block h k v ?_;rw [opV, List.getElem?_append_left hk];exact hv
theorem xmz {g k : Nat} {L : List (Co × Value)} {J S : Nat -> Int} (h : W.heap[g]? = some (.cells (opF J S 0 L).toArray 98)) {x : Co × Value} (hx : L[k]? = some x) : W.rangeAt g (k * 21) (opV x.1 x.2 (J k) (S k)) := fun _ _ hv => CmAt2.cell h _ (xhd J S hx hv)
def awT : List UInt8 := [49, 44, 51, 123, 115, 47, 97, 47, 98, 47, 119, 32, 102, 10, 125, 10, 58, 120, 59, 98, 120, 59, 98]
theorem aw_bld : ∃ cs, scrR gM awT = (cs, false, 0, 0) /\ cs.length = 6 /\ bldS (scrR gM awT) = .inr [[102]] /\ jmF cs 0 = 2 /\ slF cs 0 = 0 /\ jmF cs 4 = 3 /\ jmF cs 5 = 6 /\ slF cs 1 = -1 /\ slN cs = 1 := by
 obtain ⟨g, h⟩ := g_as;rw [h];have h2 : ∀ G : Gr, scrR (fun t => if t = [120] then (0, 0) else if t = [97] then (0, 0) else G t) awT = (([⟨3, ⟨1, 1, []⟩, ⟨1, 3, []⟩, false, 123, [], [], [], [], [], 0, false, false, [], []⟩, ⟨4, adr0, adr0, false, 115, [], [], [102], [97], [⟨-1, bst [98]⟩], 1, false, false, [], []⟩, ⟨14, adr0, adr0, false, 125, [], [], [], [], [], 0, false, false, [], []⟩, ⟨16, adr0, adr0, false, 58, [120], [], [], [], [], 0, false, false, [], []⟩, ⟨19, adr0, adr0, false, 98, [120], [], [], [], [], 0, false, false, [], []⟩, ⟨22, adr0, adr0, false, 98, [], [], [], [], [], 0, false, false, [], []⟩] : List Co), false, 0, 0) := fun G => by kernel_rfl
 refine ⟨_, h2 g, rfl, ?_, ?_, ?_, ?_, ?_, ?_, ?_⟩
 ·rw [h2 g]; rfl
 all_goals rfl
theorem aw_bx : bldS (scrR gM [98, 120]) = .inl (22, 0) := by
 have h : ∀ G : Gr, bldS (scrR G [98, 120]) = .inl (22, 0) := fun G => by kernel_rfl
 exact h gM
end em
end Go.Proofs.YtcpokkpjeeblnaaGreatDoor
