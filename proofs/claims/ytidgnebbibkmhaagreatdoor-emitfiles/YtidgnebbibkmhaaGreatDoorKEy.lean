/- EmitJumps: awake, depth: the walks. -/
import Derived.Test.YtidgnebbibkmhaaGreatDoorKEj
import Derived.Test.YtidgnebbibkmhaaGreatDoorKXw1
import Derived.Test.YtidgnebbibkmhaaGreatDoorRows
import Derived.SliceStrings
import Derived.Carry
import Derived.ChangeOld
import Derived.ProofKit
import Derived.OpenShut
import Derived.Deep.Slices
set_option maxRecDepth 100000
set_option maxHeartbeats 8000000
namespace Go.Proofs.YtidgnebbibkmhaaGreatDoor
open Go.RowKit
open scanP scrP tpl ytb
namespace em
open emP ckp.chkP
structure AwC (b g fg fc : Nat) (X : World) : Prop where
 a1 : X.cell? ⟨b, 1, none⟩ = some (.slice (some ⟨g, 0, none⟩) 6 6)
 a2 : X.cell? ⟨b, 2, none⟩ = some (.int .i64 1)
 a3 : X.cell? ⟨b, 3, none⟩ = some (.slice (some ⟨fg, 0, none⟩) 1 fc)
 a4 : X.cell? ⟨b + 1, 0, none⟩ = some (.int .i64 0)
 a5 : X.cell? ⟨g, 19, none⟩ = some (.int .i64 2)
 a6 : X.cell? ⟨g, 20, none⟩ = some (.int .i64 0)
 a7 : X.cell? ⟨g, 103, none⟩ = some (.int .i64 3)
 a8 : X.cell? ⟨g, 124, none⟩ = some (.int .i64 6)
 a9 : X.cell? ⟨g, 41, none⟩ = some (.int .i64 (-1))
 a10 : X.cell? ⟨fg, 0, none⟩ = some (.string (bst [102]))
theorem AwC.stay {b g fg fc : Nat} {X X' : World} (h : AwC b g fg fc X) (hb : Below X.heap.size X X') : AwC b g fg fc X' :=
 ⟨keep_cell hb h.a1, keep_cell hb h.a2, keep_cell hb h.a3, keep_cell hb h.a4, keep_cell hb h.a5, keep_cell hb h.a6, keep_cell hb h.a7, keep_cell hb h.a8, keep_cell hb h.a9, keep_cell hb h.a10⟩
theorem awake_any (w : World) (hg : Gl w) : Calls Tryz.prog 9 #[] w fun e w' => e = .returned (.bool true) ∧ Below w.heap.size w w' := by
 obtain ⟨cs, hsc, hlen, hbs, j0, s0, j4, j5, s1, hsl⟩ := aw_bld
 have HB1 := hideT (xeq ⟨#[49, 44, 51, 123, 115, 47, 97, 47, 98, 47, 119, 32, 102, 10, 125, 10, 58, 120, 59, 98, 120, 59, 98]⟩ (by decide) w hg)
 have HG := hideT hg
 clear hg
 go_enter Tryz.func9, Tryz.ntmps9
 go_wp2_with fail
 refine HB1.out.mono ?_
 intro e w1 h1
 have hb1 := h1.1
 have h1 := h1.2
 rw [show scrR gM (⟨#[49, 44, 51, 123, 115, 47, 97, 47, 98, 47, 119, 32, 102, 10, 125, 10, 58, 120, 59, 98, 120, 59, 98]⟩ : ByteArray).data.toList = scrR gM awT from rfl, hbs, hsc] at h1
 simp only at h1
 obtain ⟨L, g, fv, hm, _, _, _, _, hgY, hgb, hfv, rfl⟩ := h1
 rw [hlen, hsl]
 obtain ⟨fg, fc, hfs⟩ : ∃ fg fc, fv = .slice (some ⟨fg, 0, none⟩) 1 fc := by
  rcases hfv.2 with ⟨_, h0⟩ | ⟨fg, fc, cur, hfs, _⟩
  ·cases h0
  ·exact ⟨fg, fc, hfs⟩
 have hf0 := hfv.cells (g := fg) (by rw [hfs]; rfl) 0 (.string (bst [102])) rfl
 rw [show (⟨fg, 0, none⟩ : Addr).add 0 = ⟨fg, 0, none⟩ by unfold Addr.add; split <;> simp_all] at hf0
 have hLn : L.length = 6 := by rw [← hlen, ← hm, List.length_map]
 have hat : ∀ (k m : Nat) (u : Value) (hk : k < 6), (∀ x : Co × Value, (opV x.1 x.2 (jmF cs k) (slF cs k))[m]? = some u) → w1.cell? ⟨g, k * 21 + m, none⟩ = some u := fun k m u hk h => CmAt2.cell hgb _ (xhd _ _ (List.getElem?_eq_getElem (by rw [hLn]; exact hk)) (h _))
 have c1 := hat 0 19 (.int .i64 2) (by decide) (fun x => by rw [j0]; rfl)
 have c2 := hat 0 20 (.int .i64 0) (by decide) (fun x => by rw [s0]; rfl)
 have c3 := hat 4 19 (.int .i64 3) (by decide) (fun x => by rw [j4]; rfl)
 have c4 := hat 5 19 (.int .i64 6) (by decide) (fun x => by rw [j5]; rfl)
 have c5 := hat 1 20 (.int .i64 (-1)) (by decide) (fun x => by rw [s1]; rfl)
 subst hfs
 have hA1 := (Below.refl w1.heap.size w1).alloc (Nat.le_refl _) (.cells #[.bool false, .slice (some ⟨g, 0, none⟩) 6 6, .int .i64 1, .slice (some ⟨fg, 0, none⟩) 1 fc] 26)
 have hN1 := heap_alloc_new w1 (.cells #[.bool false, .slice (some ⟨g, 0, none⟩) 6 6, .int .i64 1, .slice (some ⟨fg, 0, none⟩) 1 fc] 26)
 have e1 := xcl w1 (.cells #[.bool false, .slice (some ⟨g, 0, none⟩) 6 6, .int .i64 1, .slice (some ⟨fg, 0, none⟩) 1 fc] 26)
 have hA2 := (Below.refl _ (w1.alloc (.cells #[.bool false, .slice (some ⟨g, 0, none⟩) 6 6, .int .i64 1, .slice (some ⟨fg, 0, none⟩) 1 fc] 26))).alloc (Nat.le_refl _) (.cells #[.int .i64 0, .int .i64 0] 29)
 have hN2 := heap_alloc_new (w1.alloc (.cells #[.bool false, .slice (some ⟨g, 0, none⟩) 6 6, .int .i64 1, .slice (some ⟨fg, 0, none⟩) 1 fc] 26)) (.cells #[.int .i64 0, .int .i64 0] 29)
 rw [e1] at hA2 hN2
 go_upto_region 2 with fail
 obtain ⟨X, hX⟩ : ∃ X, X = (w1.alloc (.cells #[.bool false, .slice (some ⟨g, 0, none⟩) 6 6, .int .i64 1, .slice (some ⟨fg, 0, none⟩) 1 fc] 26)).alloc (.cells #[.int .i64 0, .int .i64 0] 29) := ⟨_, rfl⟩
 rw [← hX] at hA2 hN2 ⊢
 have hB : Below w1.heap.size w1 X := hA1.trans (hA2.mono (by omega))
 have HWX := hideT (hb1.trans (hB.mono hb1.size))
 have hP := (hA2.block w1.heap.size (by omega)).trans hN1
 have HC := hideT (show AwC w1.heap.size g fg fc X from ⟨CmAt2.cell hP 1 rfl, CmAt2.cell hP 2 rfl, CmAt2.cell hP 3 rfl, CmAt2.cell hN2 0 rfl, keep_cell hB c1, keep_cell hB c2, keep_cell hB c3, keep_cell hB c4, keep_cell hB c5, keep_cell hB hf0⟩)
 have HB2 := hideT (xeq ⟨#[98, 120]⟩ (by decide) X (HG.out.below HWX.out))
 clear hA1 hN1 e1 hA2 hN2 hX hB hP hb1 hgb hgY hfv hf0 hat c1 c2 c3 c4 c5 hLn hm hsc hlen hbs j0 s0 j4 j5 s1 hsl HB1 HG
 generalize w1.heap.size = b0 at *
 go_wp2_with fail
 refine HB2.out.mono ?_
 intro e w2 h2
 have hb2 := h2.1
 have h2 := h2.2
 rw [show scrR gM (⟨#[98, 120]⟩ : ByteArray).data.toList = scrR gM [98, 120] from rfl, aw_bx] at h2
 simp only at h2
 obtain ⟨_, rfl⟩ := h2
 have hA1 := (Below.refl w2.heap.size w2).alloc (Nat.le_refl _) (.cells #[.bool false, .slice none 0 0, .int .i64 0, .slice none 0 0] 26)
 have e1 := xcl w2 (.cells #[.bool false, .slice none 0 0, .int .i64 0, .slice none 0 0] 26)
 have hA2 := (Below.refl _ (w2.alloc (.cells #[.bool false, .slice none 0 0, .int .i64 0, .slice none 0 0] 26))).alloc (Nat.le_refl _) (.cells #[.int .i64 22, .int .i64 0] 29)
 have hN2 := heap_alloc_new (w2.alloc (.cells #[.bool false, .slice none 0 0, .int .i64 0, .slice none 0 0] 26)) (.cells #[.int .i64 22, .int .i64 0] 29)
 rw [e1] at hA2 hN2
 go_upto_region 3 with fail
 obtain ⟨X2, hX⟩ : ∃ X, X = (w2.alloc (.cells #[.bool false, .slice none 0 0, .int .i64 0, .slice none 0 0] 26)).alloc (.cells #[.int .i64 22, .int .i64 0] 29) := ⟨_, rfl⟩
 rw [← hX] at hA2 hN2 ⊢
 have hB : Below w2.heap.size w2 X2 := hA1.trans (hA2.mono (by omega))
 have hB2 := hb2.trans (hB.mono hb2.size)
 have HWF := hideT (HWX.out.trans (hB2.mono HWX.out.size))
 obtain ⟨a1, a2, a3, a4, a5, a6, a7, a8, a9, a10⟩ := HC.out.stay hB2
 have d0 := CmAt2.cell (xs := [.int .i64 22, .int .i64 0]) hN2 0 rfl
 have d1 := CmAt2.cell (xs := [.int .i64 22, .int .i64 0]) hN2 1 rfl
 have t1 : ((bst [102]).toList == [102]) = true := by rw [xb5]; rfl
 clear hA1 e1 hA2 hN2 hX hB hB2 hb2 HB2 HC
 generalize w2.heap.size = b3 at *
 go_wp2
 go_ret
 exact ⟨rfl, HWF.out⟩
def nmP (k : Nat) : List UInt8 := [102, UInt8.ofNat (97 + k % 20)]
def pcP (k : Nat) : List UInt8 := if k % 3 = 0 then [115, 47, 120, 47, 121, 47, 119, 32] ++ nmP k else [119, 32] ++ nmP k
def coP (k : Nat) : Co := if k % 3 = 0 then ⟨0, adr0, adr0, false, 115, [], [], nmP k, [120], [⟨-1, bst [121]⟩], 1, false, false, [], []⟩ else ⟨0, adr0, adr0, false, 119, [], [], nmP k, [], [], 0, false, false, [], []⟩
def txP : List Nat → List UInt8
 | [] => []
 | k :: r => pcP k ++ 10 :: txP r
def csP : Nat → List Nat → List Co
 | _, [] => []
 | n, k :: r => mv n (coP k) :: csP (n + ((pcP k).length + 1)) r
theorem wbo : (List.range 60).map (fun r => alF gM (pcP r) 0 []) = (List.range 60).map (fun r => .ok [coP r]) := by
 obtain ⟨g, h⟩ := g_as
 rw [h]
 have h2 : ∀ G : Gr, (List.range 60).map (fun r => alF (fun t => if t = [120] then (0, 0) else if t = [97] then (0, 0) else G t) (pcP r) 0 []) = (List.range 60).map (fun r => .ok [coP r]) := fun G => by kernel_rfl
 exact h2 g
theorem wbp (k : Nat) : nmP (k % 60) = nmP k := by unfold nmP; rw [show k % 60 % 20 = k % 20 by omega]
theorem wbq (k : Nat) : pcP (k % 60) = pcP k := by unfold pcP; rw [wbp, show k % 60 % 3 = k % 3 by omega]
theorem wbr (k : Nat) : coP (k % 60) = coP k := by unfold coP; rw [wbp, show k % 60 % 3 = k % 3 by omega]
theorem wbs (k : Nat) : alF gM (pcP k) 0 [] = .ok [coP k] := by
 have hk : k % 60 < 60 := Nat.mod_lt _ (by omega)
 have h := congrArg (fun l => l[k % 60]?) wbo
 simp only [List.getElem?_map, List.getElem?_range hk, Option.map_some, Option.some.injEq] at h
 rw [wbq, wbr] at h
 exact h
theorem wbt (m n : Nat) (c : Co) : mv m (mv n c) = mv (m + n) c := by unfold mv; simp [Nat.add_assoc]
theorem wbu (m : Nat) : ∀ (l : List Nat) (n : Nat), (csP n l).map (mv m) = csP (m + n) l
 | [], _ => rfl
 | k :: r, n => by rw [csP, csP, List.map_cons, wbt, wbu m r, Nat.add_assoc]
theorem wbv (c : Co) : mv 0 c = c := by unfold mv; simp
theorem wbw : ∀ l : List Nat, alF gM (txP l) 0 [] = .ok (csP 0 l)
 | [] => rfl
 | k :: r => by
  rw [txP, all_join gM _ _ (wbs k) (wbw r), wbu, csP, wbv, Nat.zero_add]
  rfl
theorem xl6 (k : Nat) : (pcP k).length ≤ 10 := by unfold pcP nmP; split <;> simp
theorem wbx : ∀ l : List Nat, (txP l).length ≤ 11 * l.length
 | [] => Nat.le_refl _
 | k :: r => by
  have := wbx r
  have := xl6 k
  rw [txP, List.length_append, List.length_cons, List.length_cons]
  omega
theorem wby : ∀ (l : List Nat) (k : Nat), txP (l ++ [k]) = txP l ++ (pcP k ++ [10])
 | [], k => rfl
 | j :: r, k => by rw [List.cons_append, txP, txP, wby r k]; simp
def stP (n : Nat) (x : List (List UInt8) × Int) (k : Nat) : List (List UInt8) × Int :=
 if nmP k ∈ x.1 then x else (x.1 ++ [nmP k], if x.1.length + 1 = 17 then (n : Int) else x.2)
def rnP : Nat → List Nat → List (List UInt8) × Int → List (List UInt8) × Int
 | _, [], x => x
 | n, k :: r, x => rnP (n + ((pcP k).length + 1)) r (stP n x k)
theorem wbz : ∀ (l : List Nat) (n k : Nat) (x : List (List UInt8) × Int), rnP n (l ++ [k]) x = stP (n + (txP l).length) (rnP n l x) k
 | [], n, k, x => rfl
 | j :: r, n, k, x => by
  rw [List.cons_append, rnP, rnP, wbz r, txP, List.length_append, List.length_cons]
  congr 1
  omega
theorem wb0 : ∀ (l : List Nat) (n : Nat) (x : List (List UInt8) × Int), 17 ≤ x.1.length → (rnP n l x).2 = x.2
 | [], _, _, _ => rfl
 | k :: r, n, x, h => by
  rw [rnP]
  unfold stP
  split
  ·exact wb0 r _ x h
  ·rw [wb0 r _ _ (by simp only [List.length_append, List.length_singleton]; omega), if_neg (by omega)]
theorem wb1 : ∀ (l : List Nat) (n : Nat) (fs : List (List UInt8)), fs.length ≤ 16 → wtR (csP n l) fs = if 0 ≤ (rnP n l (fs, -1)).2 then .inl (rnP n l (fs, -1)).2.toNat else .inr (rnP n l (fs, -1)).1
 | [], n, fs, _ => by rw [csP, wtR, rnP, if_neg (by omega)]
 | k :: r, n, fs, h => by
  have hw : wrB (mv n (coP k)) = true := by unfold mv coP wrB; split <;> rfl
  have hf : (mv n (coP k)).fl = nmP k := by unfold mv coP; split <;> rfl
  have hp : (mv n (coP k)).pl = n := by unfold mv coP; split <;> rfl
  rw [csP, wtR, rnP, hw, hf, hp]
  unfold stP
  by_cases hm : nmP k ∈ fs
  ·rw [if_pos (.inr hm), if_pos hm, wb1 r _ fs h]
  ·rw [if_neg (by simp [hm]), if_neg hm]
   by_cases h6 : fs.length = 16
   ·rw [if_pos h6]
    have e := wb0 r (n + ((pcP k).length + 1)) (fs ++ [nmP k], if (fs, (-1 : Int)).1.length + 1 = 17 then (n : Int) else (fs, (-1 : Int)).2) (by simp [h6])
    rw [e]
    simp [h6]
   ·rw [if_neg h6, wb1 r _ _ (by simp; omega)]
    simp [h6]
def Plc (c : Co) : Prop := (c.nm = 119 ∨ c.nm = 115) ∧ c.a.k = 0 ∧ c.b.k = 0
theorem wb2 {c : Co} (h : Plc c) (pre : List Cm) (d : Nat) : oneR pre d (toCm c) = (0, d) := by
 obtain ⟨h1, h2, h3⟩ := h
 unfold oneR adrR toCm
 rcases h1 with h1 | h1 <;> simp [h1, h2, h3]
theorem wb3 : ∀ (l : List Co) (pre : List Cm), (∀ c ∈ l, Plc c) → goR pre 0 (l.map toCm) = .inr 0
 | [], _, _ => rfl
 | c :: r, pre, h => by
  rw [List.map_cons, goR, wb2 (h c (by simp))]
  simp only [ne_eq, not_true_eq_false, if_false]
  exact wb3 r _ fun x hx => h x (by simp [hx])
theorem wb4 (all : List Cm) : ∀ l : List Co, (∀ c ∈ l, Plc c) → xjw all (l.map toCm) = none
 | [], _ => rfl
 | c :: r, h => by
  rw [List.map_cons, xjw, if_neg, wb4 all r fun x hx => h x (by simp [hx])]
  rintro ⟨h1, _⟩
  have h2 := (h c (by simp)).1
  simp only [toCm] at h1
  rcases h2 with h2 | h2 <;> rw [h2] at h1 <;> rcases h1 with h1 | h1 <;> exact absurd h1 (by decide)
theorem wb5 {l : List Co} (h : ∀ c ∈ l, Plc c) : chkR (l.map toCm) = (0, 0) := by
 unfold chkR
 rw [wb3 l [] h]
 simp only [ne_eq, not_true_eq_false, if_false]
 rw [wb4 _ l h]
theorem wb6 : ∀ (l : List Nat) (n : Nat), ∀ c ∈ csP n l, Plc c
 | [], _, c, h => by simp [csP] at h
 | k :: r, n, c, h => by
  rw [csP, List.mem_cons] at h
  rcases h with rfl | h
  ·unfold Plc mv coP
   split
   ·exact ⟨.inr rfl, rfl, rfl⟩
   ·exact ⟨.inl rfl, rfl, rfl⟩
  ·exact wb6 r _ c h
theorem wb7 (l : List Nat) (h : l.length ≤ 60) : scrR gM (txP l) = (csP 0 l, false, 0, 0) := by
 have hq : quiB (txP l) = false := by
  cases l with
  | nil => rfl
  | cons k r => rw [txP]; unfold pcP nmP; split <;> rfl
 have h1 := wbx l
 have h2 := wbw l
 rw [xqz gM _ (by omega), h2, hq]
theorem wb8 (l : List Nat) (h : l.length ≤ 60) : bldS (scrR gM (txP l)) = if 0 ≤ (rnP 0 l ([], -1)).2 then .inl (4, (rnP 0 l ([], -1)).2) else .inr (rnP 0 l ([], -1)).1 := by
 have hw := wb1 l 0 [] (by simp)
 by_cases h0 : 0 ≤ (rnP 0 l ([], -1)).2
 ·rw [if_pos h0] at hw ⊢
  rw [wb7 l h]
  unfold bldS
  simp only [wb5 (wb6 l 0), ne_eq, not_true_eq_false, if_false, hw]
  rw [Int.toNat_of_nonneg h0]
 ·rw [if_neg h0] at hw ⊢
  rw [wb7 l h]
  unfold bldS
  simp only [wb5 (wb6 l 0), ne_eq, not_true_eq_false, if_false, hw]
end em
end Go.Proofs.YtidgnebbibkmhaaGreatDoor
namespace Go.Proofs.YtidgnebbibkmhaaGreatDoor
open Go.ChangeShapes Go.WideShapes Go.RowKit
def wb9 (W : World) (v : Value) (l : List UInt8) : Prop := ∃ a cp, v = .slice a l.length cp ∧ l.length ≤ cp ∧ ∀ (k : Nat) (x : UInt8), l[k]? = some x → ∃ g o, a = some ⟨g, o, none⟩ ∧ W.cell? ⟨g, o + k, none⟩ = some (.int .u8 x.toNat)
theorem wca {W : World} {a : Addr} {v : Value} (h : W.cell? (a.add 0) = some v) : a.spot = none := by
 obtain ⟨g, off, sp⟩ := a
 cases sp with
 | none => rfl
 | some x =>
  simp [Addr.add, World.cell?] at h
  split at h <;> simp_all
theorem open_bytes2 {H : Type} {enc : TypeId × Value → H} {W : World} {b0 base : Nat} {spare : Nat → Bool} {held : Bool} {v : Value} {d : DataW H} {p : List MemPlace} (hv : Value.okWide Tryz.prog W .any b0 44 v) (h : DataW.Trod enc Tryz.prog W base spare held 44 v d p) :
  ∃ l : List UInt8, wb9 W v l := by
 obtain ⟨a0, len, cap, rfl⟩ := okWide_slice Tryz.underlying44 hv
 obtain ⟨fuel, hf⟩ := h
 rcases Deep.open_slice Tryz.underlying44 hf with ⟨hcs, hx⟩ | ⟨a, len', cap', m, n, D, Pl, hcs, _, hl, hm, hz, hx, hcell⟩
 ·simp only [Value.cells, List.cons.injEq, Value.slice.injEq, and_true] at hcs
  obtain ⟨rfl, rfl, rfl⟩ := hcs
  exact ⟨[], none, 0, rfl, Nat.le_refl _, fun k x hk => by simp at hk⟩
 ·simp only [Value.cells, List.cons.injEq, Value.slice.injEq, and_true] at hcs
  obtain ⟨rfl, rfl, rfl⟩ := hcs
  simp only [Prod.mk.injEq] at hx
  have hle : len ≤ m := by rw [hz]; split <;> omega
  have each : ∀ i, i < len → ∃ q : UInt8, W.cell? (a.add i) = some (.int .u8 q.toNat) ∧ D i = .lit (.int .u8 q.toNat) := by
   intro i hi
   obtain ⟨cs', h1, h2⟩ := hcell i (by omega)
   obtain ⟨x, e1, e2, e3⟩ := DataW.trod_int Tryz.underlying5 h2
   subst e1
   obtain ⟨_, _, hc⟩ := World.cells?_some h1
   have hc0 := hc 0 (by rw [show Tryz.prog.cellsOf 5 = 1 by kernel_rfl]; omega)
   have hb := bounds_u8 e3
   obtain ⟨q, rfl⟩ : ∃ q : UInt8, x = ((q.toNat : Nat) : Int) := ⟨x.toNat.toUInt8, by rw [UInt8.toNat_ofNat']; omega⟩
   simp only [Prod.mk.injEq] at e2
   rw [show Tryz.prog.cellsOf 5 = 1 by kernel_rfl, Nat.mul_one, Deep.add_add, Nat.add_zero] at hc0
   exact ⟨q, by simpa using hc0, e2.1⟩
  haveI : Inhabited UInt8 := ⟨0⟩
  obtain ⟨q, hq⟩ := Deep.choose_lt each
  refine ⟨(List.range len).map q, some a, cap, by simp, by simpa using hl, fun k x hk => ?_⟩
  ·have hk1 : k < len := by
    have := (List.getElem?_eq_some_iff.1 hk).1
    simpa using this
   rw [List.getElem?_map, List.getElem?_range hk1] at hk
   obtain rfl : q k = x := by simpa using hk
   have h1 := (hq k hk1).1
   have h0 := (hq 0 (by omega)).1
   obtain ⟨g, off, sp⟩ := a
   obtain rfl : sp = none := wca h0
   refine ⟨g, off, rfl, ?_⟩
   have hplain : (⟨g, off, none⟩ : Addr).add k = ⟨g, off + k, none⟩ := by unfold Addr.add; split <;> simp_all
   rw [hplain] at h1
   exact h1
end Go.Proofs.YtidgnebbibkmhaaGreatDoor
namespace Go.Proofs.YtidgnebbibkmhaaGreatDoor
open Go.RowKit
open scanP scrP tpl ytb
namespace em
open emP ckp.chkP
theorem wcb (l m : List UInt8) : bst l ++ bst m = bst (l ++ m) := by apply ByteArray.ext; simp [bst, ByteArray.data_append]
theorem wcc (w : World) (o p : Obj) : ∃ X, X = (w.alloc o).alloc p ∧ Below w.heap.size w X ∧ X.heap[w.heap.size]? = some o ∧ X.heap[w.heap.size + 1]? = some p ∧ X.heap.size = w.heap.size + 1 + 1 := by
 have hA1 := (Below.refl w.heap.size w).alloc (Nat.le_refl _) o
 have e1 := xcl w o
 have hA2 := (Below.refl _ (w.alloc o)).alloc (Nat.le_refl _) p
 have hN2 := heap_alloc_new (w.alloc o) p
 rw [e1] at hA2 hN2
 exact ⟨_, rfl, hA1.trans (hA2.mono (by omega)), (hA2.block _ (by omega)).trans (heap_alloc_new w o), hN2, by rw [xcl, xcl]⟩
theorem wcd (w : World) (z : Int) (x : Nat) (hx : x < 256) (hz : z = (x : Nat)) : (convert 44 9 (.slice (some ⟨w.heap.size, 0, none⟩) 1 1)).run Tryz.prog (w.alloc (.cells #[.int .u8 z] 5)) = .ok (.string (bst [UInt8.ofNat x])) (w.alloc (.cells #[.int .u8 z] 5)) := by
 subst hz
 exact conv_bytes (base := w.heap.size) (l := [UInt8.ofNat x]) ⟨rfl, .inr ⟨w.heap.size, 1, _, rfl, Nat.le_refl _, heap_alloc_new w _, Nat.le_refl _, by decide, rfl, by
  have e : (UInt8.ofNat x).toNat = x := by rw [UInt8.toNat_ofNat']; omega
  simp [Lib.byteCells, e]⟩⟩
theorem files_any (v : Value) (l0 : List UInt8) (w : World) (hB : wb9 w v l0) (hg : Gl w) : Calls Tryz.prog 4 #[v] w fun e w' => e = .returned (.bool true) ∧ Below w.heap.size w w' := by
 have HA := hideT (awake_any w hg)
 have HG := hideT hg
 obtain ⟨a, cp, rfl, hcp, hB⟩ := hB
 have HR := hideT hB
 clear hg hB
 go_enter Tryz.func4, Tryz.ntmps4
 go_wp2_with fail
 refine HA.out.mono ?_
 rintro e w1 ⟨rfl, hb⟩
 have HC := hideT (fun (k : Nat) (x : UInt8) (hk : l0[k]? = some x) => (let ⟨g, o, e, h⟩ := HR.out k x hk; ⟨g, o, e, (hb.cell (p := ⟨g, o + k, none⟩) (tpl.cell_lt h)).trans h⟩ : ∃ g o, a = some (⟨g, o, none⟩ : Addr) ∧ w1.cell? ⟨g, o + k, none⟩ = some (.int .u8 x.toNat)))
 have HB := hideT hb
 clear hb HA HR
 obtain ⟨n, hn⟩ : ∃ n, n = min l0.length 60 := ⟨_, rfl⟩
 have m1 : min (l0.length : Int) 60 = (n : Nat) := by omega
 have hnl : n ≤ l0.length := by omega
 have hn6 : n ≤ 60 := by omega
 obtain ⟨P, hP⟩ : ∃ P, P = (l0.take 60).map (·.toNat) := ⟨_, rfl⟩
 have hPl : P.length = n := by rw [hP, List.length_map, List.length_take, hn, Nat.min_comm]
 have HP := hideT (fun (k : Nat) (hk : k < n) => show ∃ x : UInt8, l0[k]? = some x ∧ P[k]? = some x.toNat by
  have h1 := List.getElem?_eq_getElem (Nat.lt_of_lt_of_le hk hnl)
  exact ⟨_, h1, by rw [hP, List.getElem?_map, List.getElem?_take_of_lt (Nat.lt_of_lt_of_le hk hn6), h1]; rfl⟩)
 have HPL := hideT hPl
 clear hP hPl hnl hn6
 go_wp2_with fail
 rw [← hn]
 have hn6 : n ≤ 60 := by omega
 clear hn m1 hcp
 obtain ⟨N, hN⟩ : ∃ N, N = w1.heap.size := ⟨_, rfl⟩
 have HN := hideT hN
 clear hN
 go_loopw [3, 4, 5, 26] (fun tx want full i wr => ∃ k : Nat, k ≤ n ∧ i = .int .i64 k ∧ tx = .string (bst (txP (P.take k))) ∧ full = .int .i64 (rnP 0 (P.take k) ([], -1)).2 ∧ Hid (wr.ownsRow N 9 1 want (strV (rnP 0 (P.take k) ([], -1)).1).length (strV (rnP 0 (P.take k) ([], -1)).1)) ∧ Hid ((rnP 0 (P.take k) ([], -1)).1.length ≤ k) ∧ Hid (Below w1.heap.size w1 wr)) (fun _ _ _ i _ => n - (intOf i).toNat)
 case atStart => exact ⟨0, by omega, rfl, rfl, rfl, hideT (World.ownsRow_nil _ _ _ _), hideT (Nat.le_refl _), hideT (Below.refl _ _)⟩
 case round =>
  obtain ⟨k, hk, rfl, rfl, rfl, HS, HF, HW⟩ := hrel
  by_cases hlt : k < n
  ·obtain ⟨b, hb, hpb⟩ := HP.out k hlt
   obtain ⟨g, o, rfl, q0⟩ := HC.out k b hb
   have q1 := keep_cell HW.out q0
   have i1 : (k : Int) < (n : Int) := by omega
   have i2 : (0 : Int) ≤ (k : Int) := by omega
   have hb8 : b.toNat < 256 := b.toNat_lt
   obtain ⟨B, hB⟩ : ∃ B, B = b.toNat := ⟨_, rfl⟩
   rw [← hB] at q1 hb8 hpb
   have v1 : IntKind.u8.wrap (97 + (B : Int) % 20) = ((97 + B % 20 : Nat) : Int) := by rw [IntKind.wrap_u8]; omega
   have HX := hideT (show P.take (k + 1) = P.take k ++ [B] by rw [List.take_add_one, hpb]; rfl)
   obtain ⟨A, hA⟩ : ∃ A, A = txP (P.take k) := ⟨_, rfl⟩
   obtain ⟨X, hX⟩ : ∃ X, X = rnP 0 (P.take k) ([], -1) := ⟨_, rfl⟩
   rw [← hA, ← hX]
   rw [← hX] at HS HF
   have HAX := hideT (And.intro hA hX)
   clear hA hX hb q0 hpb hB
   have HOB := hideT (wcd wr (97 + (B : Int) % 20) (97 + B % 20) (by omega) (by omega))
   obtain ⟨c, hc⟩ : ∃ c, c = UInt8.ofNat (97 + B % 20) := ⟨_, rfl⟩
   rw [← hc] at HOB
   have hT : (⟨#[102]⟩ : ByteArray) ++ bst [c] = bst (nmP B) := by rw [nmP, ← hc]; exact wcb [102] [c]
   have HT := hideT hT
   clear hc hT
   go_upto_region 10 with fail
   go_upto_region 11 with fail
   rw [HOB.out]
   go_upto_region 12 with fail
   rw [HT.out, xbt]
   have hV := (Below.refl wr.heap.size wr).alloc (Nat.le_refl _) (.cells #[.int .u8 (97 + (B : Int) % 20)] 5)
   have HS2 := hideT (owns_below HS.out hV)
   have hAl : A.length ≤ 660 := by
    have h1 := wbx (P.take k)
    rw [← HAX.out.1, List.length_take] at h1
    omega
   have zA : (bst A).size ≤ 660 := by rw [xbt]; exact hAl
   have zM : (bst (nmP B)).size = 2 := rfl
   have HW2 := hideT (HW.out.trans (hV.mono HW.out.size))
   obtain ⟨A2, hA2⟩ : ∃ A2, A2 = A ++ (pcP B ++ [10]) := ⟨_, rfl⟩
   have HA2 := hideT (show txP (P.take (k + 1)) = A2 by rw [HX.out, wby, hA2, ← HAX.out.1])
   have H13 := hideT (fun (h3 : B % 3 = 0) => show bst A ++ ((⟨#[115, 47, 120, 47, 121, 47, 119, 32]⟩ : ByteArray) ++ bst (nmP B) ++ (⟨#[10]⟩ : ByteArray)) = bst A2 by
    rw [hA2, pcP, if_pos h3]
    rw [show (⟨#[115, 47, 120, 47, 121, 47, 119, 32]⟩ : ByteArray) = bst [115, 47, 120, 47, 121, 47, 119, 32] from rfl, show (⟨#[10]⟩ : ByteArray) = bst [10] from rfl, wcb, wcb, wcb])
   have H14 := hideT (fun (h3 : ¬ B % 3 = 0) => show bst A ++ ((⟨#[119, 32]⟩ : ByteArray) ++ bst (nmP B) ++ (⟨#[10]⟩ : ByteArray)) = bst A2 by
    rw [hA2, pcP, if_neg h3]
    rw [show (⟨#[119, 32]⟩ : ByteArray) = bst [119, 32] from rfl, show (⟨#[10]⟩ : ByteArray) = bst [10] from rfl, wcb, wcb, wcb])
   have HX2 := hideT (show rnP 0 (P.take (k + 1)) ([], -1) = stP A.length X B by rw [HX.out, wbz, ← HAX.out.2, ← HAX.out.1, Nat.zero_add])
   generalize wr.alloc (.cells #[.int .u8 (97 + (B : Int) % 20)] 5) = V at *
   obtain ⟨M, hM⟩ : ∃ M, M = nmP B := ⟨_, rfl⟩
   rw [← hM] at H13 H14 zM ⊢
   have HM := hideT hM
   obtain ⟨a5, c5, hv5⟩ := owns_shape HS2.out
   rw [xfv] at hv5
   subst hv5
   have HTR := hideT (TRow.of_owns (B := N) (by have := HS2.out; rw [xfv] at this; exact this))
   clear hV hA2 hM HOB HS HW HT HAX q1 v1 i1 i2
   generalize wr.heap.size = z0 at *
   have hXk : X.1.length ≤ 60 := by have := HF.out; omega
   obtain ⟨_, _, hv6, h6⟩ := HTR.out
   cases hv6
   have H6 := hideT h6
   clear h6 HTR hAl
   rcases Decidable.em (B % 3 = 0) with h3 | h3
   case' inl =>
    have e3 : ((B : Int) % 3 == 0) = true := by rw [beq_iff_eq]; omega
    go_upto_region 15 with fail
    rw [H13.out h3]
   case' inr =>
    have e3 : ((B : Int) % 3 == 0) = false := by rw [beq_eq_false_iff_ne]; omega
    go_upto_region 15 with fail
    rw [H14.out h3]
   all_goals
    clear e3 h3 H13 H14 zA zM
    go_upto_region 17 with fail
    go_loopw [10, 53] (fun kn j wr => ∃ m : Nat, m ≤ X.1.length ∧ j = .int .i64 m ∧ kn = .bool (decide (M ∈ X.1.take m)) ∧ wr = V) (fun _ j _ => X.1.length - (intOf j).toNat)
    case atStart => exact ⟨0, by omega, rfl, by simp, rfl⟩
    case round =>
     obtain ⟨m, hm, rfl, rfl, rfl⟩ := hrel
     by_cases hml : m < X.1.length
     ·obtain ⟨g5, o5, rfl, c1⟩ := H6.out m _ (List.getElem?_eq_getElem hml)
      have j1 : (m : Int) < (X.1.length : Int) := by omega
      have j2 : (0 : Int) ≤ (m : Int) := by omega
      have HQ := hideT (show decide (M ∈ X.1.take (m + 1)) = (decide (M ∈ X.1.take m) || decide (M = X.1[m]'hml)) by
       rw [List.take_succ_eq_append_getElem hml]; simp only [List.mem_append, List.mem_singleton, Bool.decide_or])
      cases hq : decide (M ∈ X.1.take m) with
      | true =>
       rw [hq] at HQ
       clear hq
       generalize (X.1[m]'hml) = s at *
       go_wp2
       exact ⟨⟨m + 1, by omega, by go_num, by rw [HQ.out]; rfl, trivial⟩, by simp [intOf]; omega⟩
      | false =>
       rw [hq] at HQ
       clear hq
       by_cases he : M = X.1[m]'hml
       ·obtain ⟨e2, e3⟩ := str_yes he.symm
        have HQ2 := hideT (show decide (M ∈ X.1.take (m + 1)) = true by rw [HQ.out, decide_eq_true he]; rfl)
        rw [← he] at c1 e2 e3
        clear HQ he
        go_wp2
        exact ⟨⟨m + 1, by omega, by go_num, by rw [HQ2.out], trivial⟩, by simp [intOf]; omega⟩
       ·obtain ⟨e2, e3⟩ := str_not (fun h => he h.symm)
        have HQ2 := hideT (show decide (M ∈ X.1.take (m + 1)) = false by rw [HQ.out, decide_eq_false he]; rfl)
        clear HQ he
        generalize (X.1[m]'hml) = s at *
        go_wp2
        exact ⟨⟨m + 1, by omega, by go_num, by rw [HQ2.out], trivial⟩, by simp [intOf]; omega⟩
     ·obtain rfl : m = X.1.length := by omega
      have j1 : ((X.1.length : Int) < (X.1.length : Int)) = False := eq_false (by omega)
      rw [List.take_length]
      by_cases hmem : M ∈ X.1
      ·rw [decide_eq_true hmem]
       have HX3 := hideT (show rnP 0 (P.take (k + 1)) ([], -1) = X by rw [HX2.out, stP, ← HM.out, if_pos hmem])
       clear hmem
       go_wp2
       exact ⟨⟨k + 1, by omega, by go_num, by rw [HA2.out], by rw [HX3.out], hideT (by rw [HX3.out]; exact HS2.out), hideT (by rw [HX3.out]; have := HF.out; omega), HW2⟩, by simp [intOf]; omega⟩
      ·rw [decide_eq_false hmem]
       have HX3 := hideT (show rnP 0 (P.take (k + 1)) ([], -1) = (X.1 ++ [M], if X.1.length + 1 = 17 then ((A.length : Nat) : Int) else X.2) by rw [HX2.out, stP, ← HM.out, if_neg hmem])
       have HNV := hideT (show N ≤ wr.heap.size by rw [HN.out]; exact HW2.out.size)
       clear hmem
       go_upto_region 23 with (first | (at_builtin; refine xgm rfl _ _ 24 9 16 (.string ⟨#[]⟩) rfl Tryz.underlying24 infoStr rfl N _ (.string (bst M)) (strV X.1) rfl rfl HS2.out _ rfl rfl (by rw [xfv]; omega) (by decide) HNV.out ?_; intro v6 w6 L6 G6 K6 B6; have H6 := hideT (And.intro L6 (And.intro G6 (And.intro K6 B6))); clear L6 G6 K6 B6))
       obtain ⟨a7, c7, hv7⟩ := owns_shape H6.out.1
       rw [List.length_append, List.length_singleton, xfv] at hv7
       subst hv7
       have HWZ := hideT (show Below w1.heap.size w1 w6 from HW2.out.trans (by rw [← HN.out]; exact H6.out.2.2.2))
       by_cases h17 : X.1.length + 1 = 17
       case' pos =>
        have e17 : (((X.1.length + 1 : Nat) : Int) == 17) = true := by rw [h17]; rfl
        have e18 : (X.1.length + 1 == 17) = true := by rw [h17]; rfl
       case' neg =>
        have e17 : (((X.1.length + 1 : Nat) : Int) == 17) = false := by rw [beq_eq_false_iff_ne]; omega
        have e18 : (X.1.length + 1 == 17) = false := by rw [beq_eq_false_iff_ne]; omega
       all_goals
        go_wp2
        exact ⟨⟨k + 1, by omega, by go_num, by rw [HA2.out], by rw [HX3.out]; simp only [h17, if_true, if_false], hideT (by rw [HX3.out, strV_app]; exact H6.out.1), hideT (by rw [HX3.out, List.length_append, List.length_singleton]; have := HF.out; omega), HWZ⟩, by simp [intOf]; omega⟩
  ·obtain rfl : k = n := by omega
   have i1 : ((k : Int) < (k : Int)) = False := eq_false (by omega)
   have hT : P.take k = P := List.take_of_length_le (by rw [HPL.out]; exact Nat.le_refl _)
   rw [hT] at HS HF ⊢
   obtain ⟨X, hX⟩ : ∃ X, X = rnP 0 P ([], -1) := ⟨_, rfl⟩
   rw [← hX] at HS HF ⊢
   have HBS := hideT (show bldS (scrR gM (bst (txP P)).data.toList) = if 0 ≤ X.2 then .inl (4, X.2) else .inr X.1 by rw [hX]; exact wb8 P (by rw [HPL.out]; omega))
   have HBD := hideT (xeq (bst (txP P)) (by rw [xbt]; have := wbx P; rw [HPL.out] at this; omega) wr (HG.out.below (HB.out.trans (HW.out.mono HB.out.size))))
   obtain ⟨a5, c5, hv5⟩ := owns_shape HS.out
   rw [xfv] at hv5
   subst hv5
   have hXk : X.1.length ≤ 60 := by have := HF.out; omega
   clear hX hT hk hlt HP HC
   go_wp2_with fail
   refine HBD.out.mono ?_
   intro e w2 h2
   unfold BdPost at h2
   rw [HBS.out] at h2
   have HB2 := hideT h2.1
   have h2 := h2.2
   clear HBD HBS
   by_cases h0 : 0 ≤ X.2
   ·rw [if_pos h0] at h2
    simp only at h2
    obtain ⟨_, rfl⟩ := h2
    obtain ⟨Y, hY, hBY, hP, hF, _⟩ := wcc w2 (.cells #[.bool false, .slice none 0 0, .int .i64 0, .slice none 0 0] 26) (.cells #[.int .i64 4, .int .i64 X.2] 29)
    go_upto_region 27 with fail
    rw [← hY]
    have HWF := hideT (HB.out.trans ((HW.out.trans ((HB2.out.trans (hBY.mono HB2.out.size)).mono HW.out.size)).mono HB.out.size))
    have p3 := CmAt2.cell hP 3 (v := .slice none 0 0) rfl
    have d0 := CmAt2.cell (xs := [.int .i64 4, .int .i64 X.2]) hF 0 rfl
    have d1 := CmAt2.cell (xs := [.int .i64 4, .int .i64 X.2]) hF 1 rfl
    have g0 : (X.2 < 0) = False := eq_false (by omega)
    clear hY hBY hP hF HS HF HW HB2
    generalize w2.heap.size = b0 at *
    go_wp2
    go_ret
    exact ⟨rfl, HWF.out⟩
   ·rw [if_neg h0] at h2
    simp only at h2
    obtain ⟨L, g, fv, _, _, _, _, _, _, _, hfv, rfl⟩ := h2
    obtain ⟨fa, fc, hfs⟩ := owns_shape hfv
    subst hfs
    obtain ⟨Y, hY, hBY, hP, hF, _⟩ := wcc w2 (.cells #[.bool (scrR gM (bst (txP P)).data.toList).2.1, .slice (some ⟨g, 0, none⟩) (scrR gM (bst (txP P)).data.toList).1.length (scrR gM (bst (txP P)).data.toList).1.length, .int .i64 (slN (scrR gM (bst (txP P)).data.toList).1 : Nat), .slice fa X.1.length fc] 26) (.cells #[.int .i64 0, .int .i64 0] 29)
    have hWY := HB2.out.trans (hBY.mono HB2.out.size)
    have hS5 := TRow.of_owns (B := N) (owns_below (by have := HS.out; rw [xfv] at this; exact this) hWY)
    have hS6 := TRow.of_owns (owns_below hfv hBY)
    obtain ⟨_, _, hv6, h6⟩ := hS5
    cases hv6
    obtain ⟨_, _, hv7, h7⟩ := hS6
    cases hv7
    have H5 := hideT h6
    have H7 := hideT h7
    have HWF := hideT (HB.out.trans ((HW.out.trans (hWY.mono HW.out.size)).mono HB.out.size))
    have p3 := CmAt2.cell hP 3 (v := .slice fa X.1.length fc) rfl
    have d0 := CmAt2.cell (xs := [.int .i64 0, .int .i64 0]) hF 0 rfl
    have g0 : (X.2 < 0) = True := eq_true (by omega)
    have g1 : (0 ≤ X.2) = False := eq_false h0
    go_upto_region 27 with fail
    rw [← hY]
    clear hY hBY hP hF HS HF HW HB2 hfv hWY h6 h7
    generalize w2.heap.size = b0 at *
    go_wp2_with fail
    go_loopw [105] (fun j wr => ∃ m : Nat, m ≤ X.1.length ∧ j = .int .i64 m ∧ wr = Y) (fun j _ => X.1.length - (intOf j).toNat)
    case atStart => exact ⟨0, by omega, rfl, rfl⟩
    case round =>
     obtain ⟨m, hm, rfl, rfl⟩ := hrel
     by_cases hml : m < X.1.length
     ·obtain ⟨g5, o5, rfl, c1⟩ := H5.out m _ (List.getElem?_eq_getElem hml)
      obtain ⟨g6, o6, rfl, c2⟩ := H7.out m _ (List.getElem?_eq_getElem hml)
      have j1 : (m : Int) < (X.1.length : Int) := by omega
      have j2 : (0 : Int) ≤ (m : Int) := by omega
      obtain ⟨e2, e3⟩ := str_yes (rfl : X.1[m]'hml = X.1[m]'hml)
      generalize (X.1[m]'hml) = s at *
      go_wp2
      exact ⟨⟨m + 1, by omega, by go_num, trivial⟩, by simp [intOf]; omega⟩
     ·obtain rfl : m = X.1.length := by omega
      have j1 : ((X.1.length : Int) < (X.1.length : Int)) = False := eq_false (by omega)
      go_wp2
      go_ret
      exact ⟨rfl, HWF.out⟩
end em
end Go.Proofs.YtidgnebbibkmhaaGreatDoor
