/- KP2 -/
import Derived.Test.YtbekghinikjjeaaGreatDoorKP1
import Derived.Test.YtbekghinikjjeaaGreatDoorKA5
import Derived.Deep.CutRange
import Derived.Deep.CutBlock
set_option maxRecDepth 100000
set_option maxHeartbeats 4000000
namespace Go.Proofs.YtbekghinikjjeaaGreatDoor.pkk
open Go.RowKit Go.Shelf Go.Proofs.YtbekghinikjjeaaGreatDoor.br Go.Proofs.YtbekghinikjjeaaGreatDoor.smt
def Mk (t s : ByteArray) (b : Bool) : Prop := ∃ ts n f o h, parseT t = .ok ts ∧ (msF .zero ts).back = false ∧ (msF .zero ts).groups = ((n : Nat) : Int) ∧ LyT (n + 1) (catT ts) ∧ s.size ≤ 1024 ∧ matchF f n (catT ts) (bl s) 0 = some (o, h) ∧ o.isSome = b
theorem bySets_any {t s : ByteArray} {b : Bool} (hM : Mk t s b) (w : World) (hg : Glob w) (hT : Tab w) : Calls Tryz.prog 24 #[.string t, .string s, .int .i64 0] w fun e w' => (∃ v h, e = .returned (.tuple #[v, .bool b, .int .i64 h, .int .i64 0])) ∧ Below w.heap.size w w' := by
 obtain ⟨ts, n, f, o, h, h1, h2, h3, h4, h5, h6, rfl⟩ := hM
 have HM := hideT (Go.Proofs.YtbekghinikjjeaaGreatDoor.smt.match_any w hg hT h1 h2 h3 h4 h5 (Nat.zero_le _) h6)
 clear h1 h2 h3 h4 h5 h6
 go_enter Tryz.func24, Tryz.ntmps24
 go_wp2_with fail
 refine HM.out.mono ?_
 rintro e w1 ⟨hb, v, rfl, _⟩
 have HB := hideT hb
 clear hb HM
 go_wp2
 exact bodyPost_ret (v := .tuple #[v, .bool o.isSome, .int .i64 (hz h), .int .i64 0]) (by simp [results, Tryz.results24, go_sem]) rfl ⟨⟨v, _, rfl⟩, HB.out⟩
theorem mMatch_any {t s : ByteArray} {b : Bool} {mb : Nat} (hM : Mk t s b) (w : World) (hg : Glob w) (hT : Tab w) (hm : MtAt w mb t) : Calls Tryz.prog 28 #[.pointer (some ⟨mb, 0, none⟩), .string s, .int .i64 0] w fun e w' => (∃ v, e = .returned (.tuple #[v, .bool b, .int .i64 0])) ∧ ∃ V x, Below w.heap.size w V ∧ w' = V.setCell ⟨mb, 3, none⟩ (.int .i64 x) := by
 obtain ⟨n, st, h0⟩ := hm
 have HS := hideT (bySets_any hM w hg hT)
 have H0 := hideT h0
 have c2 : w.cell? ⟨mb, 2, none⟩ = some (.func (.func 24) #[.string t] #[]) := by simp [World.cell?, h0, mtV]
 clear h0 hM
 go_enter Tryz.func28, Tryz.ntmps28
 go_wp2_with fail
 refine HS.out.mono ?_
 rintro e w1 ⟨⟨v, h, rfl⟩, hb⟩
 have h1 := (hb.block _ (blk_lt H0.out)).trans H0.out
 have d3 : w1.cell? ⟨mb, 3, none⟩ = some (.int .i64 st) := by simp [World.cell?, h1, mtV]
 have z3 : w1.frozen? ⟨mb, 3, none⟩ = false := by simp [World.frozen?, h1]
 have HB := hideT hb
 clear hb HS H0 h1 c2
 go_wp2
 exact bodyPost_ret (v := .tuple #[v, .bool b, .int .i64 0]) (by simp [results, Tryz.results28, go_sem]) rfl ⟨⟨v, rfl⟩, w1, _, HB.out, rfl⟩
structure Mv (B : Nat) (pb : Nat) (W W' : World) : Prop where
 bel : Below B W W'
 mat : ∀ {g t}, MtAt W g t → MtAt W' g t
 oth : ∀ {g cs e}, g ≠ pb → W.heap[g]? = some (.cells cs e (0, 0)) → e ≠ 83 → W'.heap[g]? = some (.cells cs e (0, 0))
theorem mv_below {B pb : Nat} {W W' : World} (hB : B ≤ W.heap.size) (h : Below W.heap.size W W') : Mv B pb W W' := ⟨h.mono hB, fun ⟨n, st, h1⟩ => ⟨n, st, (h.block _ (blk_lt h1)).trans h1⟩, fun _ h1 _ => (h.block _ (blk_lt h1)).trans h1⟩
theorem Mv.trans {B pb : Nat} {U V W : World} (h : Mv B pb U V) (k : Mv B pb V W) : Mv B pb U W := ⟨h.bel.trans k.bel, fun x => k.mat (h.mat x), fun hn x e => k.oth hn (h.oth hn x e) e⟩
theorem mv_step {B pb mb : Nat} {W : World} {t : ByteArray} (hB : B ≤ mb) (hm : MtAt W mb t) (x : Int) : Mv B pb W (W.setCell ⟨mb, 3, none⟩ (.int .i64 x)) := by
 obtain ⟨n, st, h0⟩ := hm
 have hs : (W.setCell ⟨mb, 3, none⟩ (.int .i64 x)).heap[mb]? = some (.cells (mtV t n x) 83 (0, 0)) := by
  simp only [World.setCell, Array.getElem?_modify, if_true, h0]
  rfl
 refine ⟨(Below.refl B W).setCell (p := ⟨mb, 3, none⟩) hB _, ?_, ?_⟩
 · intro g t' ⟨n', st', h1⟩
   by_cases e : g = mb
   · subst e
     rw [h0] at h1
     simp only [Option.some.injEq, Obj.cells.injEq, mtV, Array.mk.injEq, List.cons.injEq, Value.string.injEq, and_true] at h1
     obtain ⟨rfl, _⟩ := h1
     exact ⟨_, _, hs⟩
   · exact ⟨n', st', (Below.heap_setCell _ ⟨mb, 3, none⟩ _ g e).trans h1⟩
 · intro g cs e _ h1 he
   by_cases c : g = mb
   · subst c
     rw [h0] at h1
     simp only [Option.some.injEq, Obj.cells.injEq] at h1
     exact absurd h1.2.1.symm he
   · exact (Below.heap_setCell _ ⟨mb, 3, none⟩ _ g c).trans h1
def ReV (W : World) (B : Nat) (v : Value) (u : Option ByteArray) : Prop := match u with
 | none => v = .pointer none
 | some t => ∃ mb, B ≤ mb ∧ v = .pointer (some ⟨mb, 0, none⟩) ∧ MtAt W mb t
theorem ReV.mv {W W' : World} {B pb : Nat} {v : Value} {u : Option ByteArray} (h : ReV W B v u) (k : Mv B pb W W') : ReV W' B v u := by
 cases u with
 | none => exact h
 | some t => obtain ⟨mb, h1, h2, h3⟩ := h; exact ⟨mb, h1, h2, k.mat h3⟩
def PuAt (W : World) (B pb : Nat) (rv : Value) (u : Option ByteArray) : Prop := ∃ v, W.heap[pb]? = some (.cells #[rv, v] 63 (0, 0)) ∧ ReV W B v u
theorem PuAt.below {W W' : World} {B pb : Nat} {rv : Value} {u : Option ByteArray} (h : PuAt W B pb rv u) (hB : B ≤ W.heap.size) (k : Below W.heap.size W W') : PuAt W' B pb rv u := by
 obtain ⟨v, h1, h2⟩ := h
 exact ⟨v, (k.block _ (blk_lt h1)).trans h1, h2.mv (mv_below (pb := pb) hB k)⟩
theorem use_any {W : World} {B pb : Nat} {rv : Value} {u : Option ByteArray} (h : PuAt W B pb rv u) (hB : B ≤ pb) (hW : B ≤ W.heap.size) {v : Value} {t : Option ByteArray} (hv : ReV W B v t) : Calls Tryz.prog 15 #[.pointer (some ⟨pb, 0, none⟩), v] W fun e w' => (∃ v, e = .returned v) ∧ PuAt w' B pb rv (t <|> u) ∧ Mv B pb W w' := by
 cases t with
 | none =>
   obtain rfl : v = .pointer none := hv
   refine (use_none W pb).mono ?_
   rintro e w' ⟨he, hb⟩
   exact ⟨he, h.below hW hb, mv_below hW hb⟩
 | some t =>
   obtain ⟨mb, h1, rfl, h3⟩ := hv
   obtain ⟨x, h4, h5⟩ := h
   refine (use_some (W := W) (pb := pb) (u := x) (by simp [World.cell?, h4]) (by simp [World.frozen?, h4]) ⟨mb, 0, none⟩).mono ?_
   rintro e w' ⟨he, rfl⟩
   have hne : ∀ {g cs e}, W.heap[g]? = some (.cells cs e (0, 0)) → e ≠ 63 → g ≠ pb := by
    rintro g cs e' h6 h7 rfl
    rw [h4] at h6
    simp only [Option.some.injEq, Obj.cells.injEq] at h6
    exact h7 h6.2.1.symm
   have hmv : Mv B pb W (W.setCell ⟨pb, 1, none⟩ (.pointer (some ⟨mb, 0, none⟩))) := ⟨(Below.refl B W).setCell (p := ⟨pb, 1, none⟩) hB _, fun ⟨n, st, k⟩ => ⟨n, st, (Below.heap_setCell _ ⟨pb, 1, none⟩ _ _ (hne k (by decide))).trans k⟩, fun hn k _ => (Below.heap_setCell _ ⟨pb, 1, none⟩ _ _ hn).trans k⟩
   refine ⟨he, ⟨_, ?_, mb, h1, rfl, hmv.mat h3⟩, hmv⟩
   simp only [World.setCell, Array.getElem?_modify, if_true, h4]
   rfl
theorem glob_b {B : Nat} {W W' : World} (h2 : 2 ≤ B) (h : Glob W) (hb : Below B W W') : Glob W' := by
 obtain ⟨m, hm⟩ := h
 exact ⟨m, (hb.cell (p := ⟨1, 0, none⟩) h2).trans hm⟩
theorem tab_b {B : Nat} {W W' : World} (h2 : 2 ≤ B) (h : Tab W) (hb : Below B W W') : Tab W' := h.below hb (by omega)
def fndR (fd : ByteArray → ByteArray → Bool) (sp : ByteArray) : Option ByteArray → Bool × Nat
 | none => (false, 24)
 | some t => (fd t sp, 0)
theorem finds_any {W : World} {B pb : Nat} {rv : Value} {u : Option ByteArray} (h : PuAt W B pb rv u) (hB : B ≤ pb) (hW : B ≤ W.heap.size) (hg : Glob W) (hT : Tab W) (hg2 : 2 ≤ B) {v : Value} {t : Option ByteArray} (hv : ReV W B v t) {sp : ByteArray} {fd : ByteArray → ByteArray → Bool} (hM : ∀ x, (t <|> u) = some x → Mk x sp (fd x sp)) : Calls Tryz.prog 39 #[.pointer (some ⟨pb, 0, none⟩), v, .string sp] W fun e w' => e = .returned (.tuple #[.bool (fndR fd sp (t <|> u)).1, .int .i64 ((fndR fd sp (t <|> u)).2 : Nat)]) ∧ PuAt w' B pb rv (t <|> u) ∧ Mv B pb W w' := by
 have HU := hideT (use_any h hB hW hv)
 have HG := hideT (And.intro hg (And.intro hT (And.intro hg2 hW)))
 have HM := hideT hM
 clear h hg hT hg2 hW hM hv
 generalize (t <|> u) = q at *
 go_enter Tryz.func39, Tryz.ntmps39
 go_wp2_with fail
 refine HU.out.mono ?_
 rintro e w1 ⟨⟨z, rfl⟩, ⟨x, hp, hx⟩, hm⟩
 have H1 := hideT (And.intro hp (And.intro hx hm))
 have c1 : w1.cell? ⟨pb, 1, none⟩ = some x := by simp [World.cell?, hp]
 clear hp hm HU
 cases q with
 | none =>
  obtain rfl : x = .pointer none := hx
  go_wp2
  exact bodyPost_ret (v := .tuple #[.bool false, .int .i64 24]) (by simp [results, Tryz.results39, go_sem]) rfl ⟨rfl, ⟨_, H1.out.1, H1.out.2.1⟩, H1.out.2.2⟩
 | some y =>
  obtain ⟨mb, k1, rfl, k3⟩ := hx
  have HQ := hideT (mMatch_any (HM.out y rfl) w1 (glob_b HG.out.2.2.1 HG.out.1 H1.out.2.2.bel) (tab_b HG.out.2.2.1 HG.out.2.1 H1.out.2.2.bel) k3)
  have HK := hideT (And.intro k1 k3)
  clear k1 k3
  go_wp2_with fail
  refine HQ.out.mono ?_
  rintro e w2 ⟨⟨v, rfl⟩, V, n, hb, rfl⟩
  have hw1 : B ≤ w1.heap.size := by have := HG.out.2.2.2; have := H1.out.2.2.bel.size; omega
  have m1 : Mv B pb w1 V := mv_below hw1 hb
  have m2 : Mv B pb w1 (V.setCell ⟨mb, 3, none⟩ (.int .i64 n)) := m1.trans (mv_step HK.out.1 (m1.mat HK.out.2) n)
  have hne : pb ≠ mb := by
   rintro rfl
   obtain ⟨n', st', h6⟩ := HK.out.2
   have h7 := H1.out.1
   rw [h6] at h7
   simp only [Option.some.injEq, Obj.cells.injEq] at h7
   exact absurd h7.2.1 (by decide)
  have hp2 : (V.setCell ⟨mb, 3, none⟩ (.int .i64 n)).heap[pb]? = some (.cells #[rv, .pointer (some ⟨mb, 0, none⟩)] 63 (0, 0)) := (Below.heap_setCell _ ⟨mb, 3, none⟩ _ pb hne).trans ((hb.block _ (blk_lt H1.out.1)).trans H1.out.1)
  have HE := hideT (And.intro hp2 (And.intro (H1.out.2.1.mv m2) (H1.out.2.2.trans m2)))
  clear hp2 m1 m2 hb HQ H1 hne hw1 c1
  go_wp2
  exact bodyPost_ret (v := .tuple #[.bool (fd y sp), .int .i64 0]) (by simp [results, Tryz.results39, go_sem]) rfl ⟨rfl, ⟨_, HE.out.1, HE.out.2.1⟩, HE.out.2.2⟩
def meetR (fd : ByteArray → ByteArray → Bool) (u : Option ByteArray) (k : Nat) (l : Int) (t : Option ByteArray) (n : Int) (la : Bool) (sp : ByteArray) : (Bool × Nat) × Option ByteArray :=
 if k = 1 then ((n == l, 0), u) else if k = 2 then ((la, 0), u) else if k = 3 then (fndR fd sp (t <|> u), (t <|> u)) else ((true, 0), u)
theorem meets_any {W : World} {B pb : Nat} {rv : Value} {u : Option ByteArray} (h : PuAt W B pb rv u) (hB : B ≤ pb) (hW : B ≤ W.heap.size) (hg : Glob W) (hT : Tab W) (hg2 : 2 ≤ B) {v : Value} {t : Option ByteArray} (hv : ReV W B v t) {sp : ByteArray} {fd : ByteArray → ByteArray → Bool} (k : Nat) (l n : Int) (la : Bool) (hM : k = 3 → ∀ x, (t <|> u) = some x → Mk x sp (fd x sp)) : Calls Tryz.prog 31 #[.pointer (some ⟨pb, 0, none⟩), .agg #[.int .i64 (k : Nat), .int .i64 l, v], .agg #[.int .i64 n, .bool la, .string sp]] W fun e w' => e = .returned (.tuple #[.bool (meetR fd u k l t n la sp).1.1, .int .i64 ((meetR fd u k l t n la sp).1.2 : Nat)]) ∧ PuAt w' B pb rv (meetR fd u k l t n la sp).2 ∧ Mv B pb W w' := by
 obtain ⟨hX, k0, k1⟩ := two_obj W (.cells #[.int .i64 (k : Nat), .int .i64 l, v] 65) (.cells #[.int .i64 n, .bool la, .string sp] 73)
 have hmv := mv_below (pb := pb) hW hX
 have hpX := h.below hW hX
 have hvX := hv.mv hmv
 have HF := hideT (fun hk => finds_any hpX hB (Nat.le_trans hW hX.size) (hg.below hX (Nat.le_refl _)) (hT.below hX (by omega)) hg2 hvX (hM hk))
 have HE := hideT (And.intro hpX hmv)
 clear h hX hvX hpX hmv hW hg hT hM hv
 go_enter Tryz.func31, Tryz.ntmps31
 go_upto_region 1 with fail
 generalize (W.alloc (.cells #[.int .i64 (k : Nat), .int .i64 l, v] 65)).alloc (.cells #[.int .i64 n, .bool la, .string sp] 73) = X at *
 have a0 : X.cell? ⟨W.heap.size, 0, none⟩ = some (.int .i64 (k : Nat)) := by simp [World.cell?, k0]
 have a1 : X.cell? ⟨W.heap.size, 1, none⟩ = some (.int .i64 l) := by simp [World.cell?, k0]
 have a2 : X.cell? ⟨W.heap.size, 2, none⟩ = some v := by simp [World.cell?, k0]
 have b0 : X.cell? ⟨W.heap.size + 1, 0, none⟩ = some (.int .i64 n) := by simp [World.cell?, k1]
 have b1 : X.cell? ⟨W.heap.size + 1, 1, none⟩ = some (.bool la) := by simp [World.cell?, k1]
 have b2 : X.cell? ⟨W.heap.size + 1, 2, none⟩ = some (.string sp) := by simp [World.cell?, k1]
 clear k0 k1
 by_cases e1 : k = 1
 · subst e1
   go_wp2
   exact bodyPost_ret (v := .tuple #[.bool (n == l), .int .i64 0]) (by simp [results, Tryz.results31, go_sem]) rfl ⟨rfl, HE.out⟩
 · have z1 : ((k : Int) == 1) = false := by simp; omega
   by_cases e2 : k = 2
   · subst e2
     go_wp2
     exact bodyPost_ret (v := .tuple #[.bool la, .int .i64 0]) (by simp [results, Tryz.results31, go_sem]) rfl ⟨rfl, HE.out⟩
   · have z2 : ((k : Int) == 2) = false := by simp; omega
     by_cases e3 : k = 3
     · subst e3
       go_wp2_with fail
       refine (HF.out trivial).mono ?_
       rintro e w1 ⟨rfl, hp, hm⟩
       have HP := hideT (And.intro hp (HE.out.2.trans hm))
       clear hp hm
       go_wp2
       exact bodyPost_ret (v := .tuple #[.bool (fndR fd sp (t <|> u)).1, .int .i64 ((fndR fd sp (t <|> u)).2 : Nat)]) (by simp [results, Tryz.results31, go_sem]) rfl ⟨rfl, HP.out⟩
     · have z3 : ((k : Int) == 3) = false := by simp; omega
       have hr : meetR fd u k l t n la sp = ((true, 0), u) := by unfold meetR; rw [if_neg e1, if_neg e2, if_neg e3]
       have HR := hideT hr
       clear hr e1 e2 e3
       go_wp2
       exact bodyPost_ret (v := .tuple #[.bool true, .int .i64 0]) (by simp [results, Tryz.results31, go_sem]) rfl (by rw [HR.out]; exact ⟨rfl, HE.out⟩)
structure Pr where
 ka : Nat
 la : Int
 ta : Option ByteArray
 kb : Nat
 lb : Int
 tb : Option ByteArray
 nt : Bool
 go : Bool
def lookR (fd : ByteArray → ByteArray → Bool) (u : Option ByteArray) (r : Pr) (n : Int) (la : Bool) (sp : ByteArray) : (Bool × Bool × Nat) × Option ByteArray :=
 if r.go && !(decide (r.kb = 1) && decide (r.lb < n)) then
  (if r.kb = 1 then ((true, decide (n < r.lb), 0), u) else
   let m := meetR fd u r.kb r.lb r.tb n la sp
   ((true, !m.1.1, m.1.2), m.2))
 else
  let m := meetR fd u r.ka r.la r.ta n la sp
  ((m.1.1, m.1.1 && opensR ⟨r.kb, r.lb, .pointer none⟩ n la, m.1.2), m.2)
def PrAt (W : World) (B g o : Nat) (r : Pr) : Prop := ∃ va vb, ReV W B va r.ta ∧ ReV W B vb r.tb ∧ RwAt W g o ⟨⟨r.ka, r.la, va⟩, ⟨r.kb, r.lb, vb⟩, r.nt, r.go⟩
theorem PrAt.mv {W W' : World} {B pb g o : Nat} {r : Pr} (h : PrAt W B g o r) (k : Mv B pb W W') (hg : ∃ cs, W.heap[g]? = some (.cells cs 67 (0, 0))) (hn : g ≠ pb) : PrAt W' B g o r := by
 obtain ⟨va, vb, h1, h2, h3⟩ := h
 obtain ⟨cs, hc⟩ := hg
 refine ⟨va, vb, h1.mv k, h2.mv k, fun j v hj => ?_⟩
 have := h3 j v hj
 have hc' := k.oth hn hc (by decide)
 simp only [World.cell?, World.frozen?, hc, hc'] at this ⊢
 exact this
end Go.Proofs.YtbekghinikjjeaaGreatDoor.pkk
namespace Go.Proofs.YtbekghinikjjeaaGreatDoor.pkk
open Go.RowKit Go.Shelf Go.Proofs.YtbekghinikjjeaaGreatDoor.br Go.Proofs.YtbekghinikjjeaaGreatDoor.smt
theorem look_any {W : World} {B pb g o : Nat} {rv : Value} {u : Option ByteArray} (h : PuAt W B pb rv u) (hB : B ≤ pb) (hW : B ≤ W.heap.size) (hg : Glob W) (hT : Tab W) (hg2 : 2 ≤ B) {r : Pr} (hr : PrAt W B g o r) (hgc : ∃ cs, W.heap[g]? = some (.cells cs 67 (0, 0))) (hn : g ≠ pb) {sp : ByteArray} {fd : ByteArray → ByteArray → Bool} (n : Int) (la : Bool) (hM : ∀ x, ((r.ta <|> u) = some x ∨ (r.tb <|> u) = some x) → Mk x sp (fd x sp)) : Calls Tryz.prog 21 #[.pointer (some ⟨pb, 0, none⟩), .pointer (some ⟨g, o, none⟩), .agg #[.int .i64 n, .bool la, .string sp]] W fun e w' => e = .returned (.tuple #[.bool (lookR fd u r n la sp).1.1, .bool (lookR fd u r n la sp).1.2.1, .int .i64 ((lookR fd u r n la sp).1.2.2 : Nat)]) ∧ PuAt w' B pb rv (lookR fd u r n la sp).2 ∧ Mv B pb W w' := by
 have hX := (Below.refl W.heap.size W).alloc (Nat.le_refl _) (.cells #[.int .i64 n, .bool la, .string sp] 73)
 have hN := heap_alloc_new W (.cells #[.int .i64 n, .bool la, .string sp] 73)
 have hmv := mv_below (pb := pb) hW hX
 have hpX := h.below hW hX
 have hrX := hr.mv hmv hgc hn
 have hgX : ∃ cs, (W.alloc (.cells #[.int .i64 n, .bool la, .string sp] 73)).heap[g]? = some (.cells cs 67 (0, 0)) := by
  obtain ⟨cs, hc⟩ := hgc
  exact ⟨cs, hmv.oth hn hc (by decide)⟩
 have hG := hg.below hX (Nat.le_refl _)
 have hTX : Tab (W.alloc (.cells #[.int .i64 n, .bool la, .string sp] 73)) := hT.below hX (by omega)
 have hWX := Nat.le_trans hW hX.size
 have hwg := blk_lt hN
 clear h hr hgc hg hT hX hW
 go_enter Tryz.func21, Tryz.ntmps21
 go_upto_region 1 with fail
 generalize W.alloc (.cells #[.int .i64 n, .bool la, .string sp] 73) = X at *
 have b0 : X.cell? ⟨W.heap.size, 0, none⟩ = some (.int .i64 n) := by simp [World.cell?, hN]
 have b1 : X.cell? ⟨W.heap.size, 1, none⟩ = some (.bool la) := by simp [World.cell?, hN]
 have b2 : X.cell? ⟨W.heap.size, 2, none⟩ = some (.string sp) := by simp [World.cell?, hN]
 have c7 : X.cell? ⟨g, o + 7, none⟩ = some (.bool r.go) := by obtain ⟨_, _, _, _, hrr⟩ := hrX; exact (hrr 7 _ rfl).1
 have HP := hideT (show ∀ W, Below X.heap.size X W → Calls Tryz.prog 30 #[.pointer (some ⟨g, o, none⟩), .agg #[.int .i64 n, .bool la, .string sp]] W fun e w' => e = .returned (.bool (decide (r.kb = 1) && decide (r.lb < n))) ∧ Below W.heap.size W w' from by
  intro W hb
  obtain ⟨va, vb, _, _, hrr⟩ := hrX.mv (mv_below (pb := pb) hWX hb) hgX hn
  exact past_any hrr n la sp)
 have HR := hideT (And.intro hrX (And.intro hN (And.intro hgX (And.intro hmv (And.intro hpX (And.intro hG (And.intro hTX (And.intro hWX hwg))))))))
 clear hrX hN hgX hmv hpX hG hTX hWX hwg
 have HM := hideT hM
 clear hM
 obtain ⟨ka, l1, ta, kb, l2, tb, nt, go⟩ := r
 dsimp only at *
 generalize hps : (decide (kb = 1) && decide (l2 < n)) = ps at *
 have HPS := hideT hps
 clear hps
 rename_i K1 hK1
 go_cut [22] from 13 to 22 (fun s22 w' => s22 = .bool (!go || ps) ∧ Hid (Below X.heap.size X w'))
 case first =>
  rename_i J hJ
  cases go
  · go_wp2_with fail
    go_meet
    exact ⟨rfl, hideT (Below.refl _ _)⟩
  · go_wp2_with fail
    refine (HP.out _ (Below.refl _ _)).mono ?_
    rintro e w1 ⟨rfl, hb⟩
    have HB := hideT hb
    clear hb
    go_wp2_with fail
    go_meet
    exact ⟨rfl, HB⟩
 case rest =>
  obtain ⟨rfl, HB⟩ := hcut
  have mY : Mv B pb X wc := mv_below HR.out.2.2.2.2.2.2.2.1 HB.out
  obtain ⟨va, vb, hva, hvb, hrr⟩ := HR.out.1.mv mY HR.out.2.2.1 hn
  obtain ⟨cs, hcs⟩ := HR.out.2.2.1
  have hN := (HB.out.block _ (blk_lt HR.out.2.1)).trans HR.out.2.1
  have hp := HR.out.2.2.2.2.1.below HR.out.2.2.2.2.2.2.2.1 HB.out
  have hpw : W.heap.size ≠ pb := by
   obtain ⟨z, hz, _⟩ := HR.out.2.2.2.2.1
   have h9 := HR.out.2.1
   rintro rfl
   rw [hz] at h9
   simp only [Option.some.injEq, Obj.cells.injEq] at h9
   exact absurd h9.2.1 (by decide)
  have hMo : ∀ V, Mv B pb wc V → V.heap[W.heap.size]? = some (.cells #[.int .i64 n, .bool la, .string sp] 73 (0, 0)) := fun V h => h.oth hpw hN (by decide)
  have hRo : ∀ V, Mv B pb wc V → RwAt V g o ⟨⟨ka, l1, va⟩, ⟨kb, l2, vb⟩, nt, go⟩ := fun V h j v hj => by
   have h1 := hrr j v hj
   have h2 := mY.oth hn hcs (by decide)
   have h3 := h.oth hn h2 (by decide)
   simp only [World.cell?, World.frozen?, h2, h3] at h1 ⊢
   exact h1
  have HY := hideT (And.intro hva (And.intro hvb (And.intro hp (And.intro (HR.out.2.2.2.1.trans mY) (And.intro (glob_b hg2 HR.out.2.2.2.2.2.1 mY.bel) (And.intro (tab_b hg2 HR.out.2.2.2.2.2.2.1 mY.bel) (Nat.le_trans HR.out.2.2.2.2.2.2.2.1 HB.out.size)))))))
  have HO := hideT (And.intro hMo hRo)
  clear hva hvb hp mY hN hrr hcs HR HB HP hMo hRo b0 b1 b2 c7
  refine hK1 _ _ ?_
  have HK := hideT hK1
  clear hK1
  cases hq : (!go || ps)
  · have HL : Hid (lookR fd u ⟨ka, l1, ta, kb, l2, tb, nt, go⟩ n la sp = (if kb = 1 then ((true, decide (n < l2), 0), u) else ((true, !(meetR fd u kb l2 tb n la sp).1.1, (meetR fd u kb l2 tb n la sp).1.2), (meetR fd u kb l2 tb n la sp).2))) := hideT (by
     unfold lookR
     dsimp only
     rw [HPS.out, if_pos (by cases go <;> cases ps <;> simp_all)])
    have c3 := ((HO.out.2 wc (mv_below HY.out.2.2.2.2.2.2 (Below.refl _ _))) 3 _ rfl).1
    clear hq
    by_cases e1 : kb = 1
    · subst e1
      rw [if_pos rfl] at HL
      have b0 : wc.cell? ⟨W.heap.size, 0, none⟩ = some (.int .i64 n) := by simp [World.cell?, HO.out.1 wc (mv_below HY.out.2.2.2.2.2.2 (Below.refl _ _))]
      have c4 := ((HO.out.2 wc (mv_below HY.out.2.2.2.2.2.2 (Below.refl _ _))) 4 _ rfl).1
      go_upto_region 5 with fail
      go_quiet (fail)
      go_wp2
      exact bodyPost_ret (v := .tuple #[.bool true, .bool (decide (n < l2)), .int .i64 0]) (by simp [results, Tryz.results21, go_sem]) rfl (by rw [HL.out]; exact ⟨rfl, HY.out.2.2.1.below HY.out.2.2.2.2.2.2 (bdw (Below.refl _ _) _), HY.out.2.2.2.1.trans (mv_below HY.out.2.2.2.2.2.2 (bdw (Below.refl _ _) _))⟩)
    · have z1 : ((kb : Int) == 1) = false := by simp; omega
      rw [if_neg e1] at HL
      go_upto_region 6 with fail
      rename_i K2 hK2
      have HMm := hideT (meets_any (HY.out.2.2.1.below HY.out.2.2.2.2.2.2 ((Below.refl wc.heap.size wc).drew)) hB HY.out.2.2.2.2.2.2 (HY.out.2.2.2.2.1.below ((Below.refl wc.heap.size wc).drew) (Nat.le_refl _)) (tab_b hg2 HY.out.2.2.2.2.2.1 ((Below.refl B wc).drew)) hg2 (HY.out.2.1.mv (mv_below (pb := pb) HY.out.2.2.2.2.2.2 ((Below.refl wc.heap.size wc).drew))) (sp := sp) (fd := fd) kb l2 n la (fun _ x hx => HM.out x (Or.inr hx)))
      have hSof : ∀ V, Mv B pb wc V → (Mv B pb wc V ∧ V.cell? ⟨g, o + 3, none⟩ = some (.int .i64 (kb : Nat)) ∧ V.cell? ⟨g, o + 4, none⟩ = some (.int .i64 l2) ∧ V.cell? ⟨g, o + 5, none⟩ = some vb ∧ V.cell? ⟨W.heap.size, 0, none⟩ = some (.int .i64 n) ∧ V.cell? ⟨W.heap.size, 1, none⟩ = some (.bool la) ∧ V.cell? ⟨W.heap.size, 2, none⟩ = some (.string sp)) := fun V h => ⟨h, (HO.out.2 V h 3 _ rfl).1, (HO.out.2 V h 4 _ rfl).1, (HO.out.2 V h 5 _ rfl).1, by simp [World.cell?, HO.out.1 V h], by simp [World.cell?, HO.out.1 V h], by simp [World.cell?, HO.out.1 V h]⟩
      have hS0 := hSof wc.drew (mv_below HY.out.2.2.2.2.2.2 ((Below.refl wc.heap.size wc).drew))
      refine wp_region_held (S := fun V : World => Mv B pb wc V ∧ V.cell? ⟨g, o + 3, none⟩ = some (.int .i64 (kb : Nat)) ∧ V.cell? ⟨g, o + 4, none⟩ = some (.int .i64 l2) ∧ V.cell? ⟨g, o + 5, none⟩ = some vb ∧ V.cell? ⟨W.heap.size, 0, none⟩ = some (.int .i64 n) ∧ V.cell? ⟨W.heap.size, 1, none⟩ = some (.bool la) ∧ V.cell? ⟨W.heap.size, 2, none⟩ = some (.string sp)) (by kernel_rfl) ?_
      refine tq 0 56 hS0 ?_
      refine tq 1 57 hS0 ?_
      refine tq 2 58 hS0 ?_
      refine tq 3 59 hS0 ?_
      refine tq 4 60 hS0 ?_
      refine tq 5 61 hS0 ?_
      simp only [Act.put, List.setIfInBounds_toArray, List.set_cons_zero, List.set_cons_succ]
      refine wpAnyH_all (rs := [6]) (by kernel_rfl) (by simp) (fun i hi => ?_)
      obtain rfl : i = 6 := List.mem_singleton.1 hi
      refine op_call (R := fun v w1 => v = .tuple #[.bool (meetR fd u kb l2 tb n la sp).1.1, .int .i64 ((meetR fd u kb l2 tb n la sp).1.2 : Nat)] ∧ PuAt w1 B pb rv (meetR fd u kb l2 tb n la sp).2 ∧ Mv B pb wc.drew w1) (f := 31) (some 62) rfl rfl (by rfl) (by go_simp; (try with_reducible rfl)) (HMm.out.mono ?_) ?_
      · rintro e w1 ⟨rfl, h1, h2⟩
        exact ⟨_, rfl, rfl, h1, h2⟩
      rintro v w1 ⟨rfl, hp1, hm1⟩
      have hS1 := hSof w1 (hS0.1.trans hm1)
      have HP1 := hideT (And.intro hp1 (hS0.1.trans hm1))
      clear hp1 hm1
      refine ⟨hS1, ?_⟩
      simp only [Act.put, List.setIfInBounds_toArray, List.set_cons_zero, List.set_cons_succ]
      refine tq 7 55 hS1 ?_
      refine tq 8 63 hS1 ?_
      refine tq 9 64 hS1 ?_
      refine tq 10 11 hS1 ?_
      refine tq 11 12 hS1 ?_
      simp only [Act.put, List.setIfInBounds_toArray, List.set_cons_zero, List.set_cons_succ]
      refine wpAnyH_done (by kernel_rfl) (hK2 _ _ ?_) _
      have HK2 := hideT hK2
      clear hK2 hS0 hS1 hSof HMm c3 z1 e1
      go_wp2
      exact bodyPost_ret (v := .tuple #[.bool true, .bool (!(meetR fd u kb l2 tb n la sp).1.1), .int .i64 ((meetR fd u kb l2 tb n la sp).1.2 : Nat)]) (by simp [results, Tryz.results21, go_sem]) rfl (by rw [HL.out]; exact ⟨rfl, HP1.out.1, HY.out.2.2.2.1.trans HP1.out.2⟩)
  · have HL : Hid (lookR fd u ⟨ka, l1, ta, kb, l2, tb, nt, go⟩ n la sp = (((meetR fd u ka l1 ta n la sp).1.1, (meetR fd u ka l1 ta n la sp).1.1 && opensR ⟨kb, l2, .pointer none⟩ n la, (meetR fd u ka l1 ta n la sp).1.2), (meetR fd u ka l1 ta n la sp).2)) := hideT (by
     unfold lookR
     dsimp only
     rw [HPS.out, if_neg (by cases go <;> cases ps <;> simp_all)])
    clear hq
    go_upto_region 2 with fail
    rename_i K2 hK2
    have HMm := hideT (meets_any (HY.out.2.2.1.below HY.out.2.2.2.2.2.2 ((Below.refl wc.heap.size wc).drew)) hB HY.out.2.2.2.2.2.2 (HY.out.2.2.2.2.1.below ((Below.refl wc.heap.size wc).drew) (Nat.le_refl _)) (tab_b hg2 HY.out.2.2.2.2.2.1 ((Below.refl B wc).drew)) hg2 (HY.out.1.mv (mv_below (pb := pb) HY.out.2.2.2.2.2.2 ((Below.refl wc.heap.size wc).drew))) (sp := sp) (fd := fd) ka l1 n la (fun _ x hx => HM.out x (Or.inl hx)))
    have hSof : ∀ V, Mv B pb wc V → (Mv B pb wc V ∧ V.cell? ⟨g, o, none⟩ = some (.int .i64 (ka : Nat)) ∧ V.cell? ⟨g, o + 1, none⟩ = some (.int .i64 l1) ∧ V.cell? ⟨g, o + 2, none⟩ = some va ∧ V.cell? ⟨W.heap.size, 0, none⟩ = some (.int .i64 n) ∧ V.cell? ⟨W.heap.size, 1, none⟩ = some (.bool la) ∧ V.cell? ⟨W.heap.size, 2, none⟩ = some (.string sp)) := fun V h => ⟨h, (HO.out.2 V h 0 _ rfl).1, (HO.out.2 V h 1 _ rfl).1, (HO.out.2 V h 2 _ rfl).1, by simp [World.cell?, HO.out.1 V h], by simp [World.cell?, HO.out.1 V h], by simp [World.cell?, HO.out.1 V h]⟩
    have hS0 := hSof wc.drew (mv_below HY.out.2.2.2.2.2.2 ((Below.refl wc.heap.size wc).drew))
    refine wp_region_held (S := fun V : World => Mv B pb wc V ∧ V.cell? ⟨g, o, none⟩ = some (.int .i64 (ka : Nat)) ∧ V.cell? ⟨g, o + 1, none⟩ = some (.int .i64 l1) ∧ V.cell? ⟨g, o + 2, none⟩ = some va ∧ V.cell? ⟨W.heap.size, 0, none⟩ = some (.int .i64 n) ∧ V.cell? ⟨W.heap.size, 1, none⟩ = some (.bool la) ∧ V.cell? ⟨W.heap.size, 2, none⟩ = some (.string sp)) (by kernel_rfl) ?_
    refine tq 0 24 hS0 ?_
    refine tq 1 25 hS0 ?_
    refine tq 2 26 hS0 ?_
    refine tq 3 27 hS0 ?_
    refine tq 4 28 hS0 ?_
    refine tq 5 29 hS0 ?_
    simp only [Act.put, List.setIfInBounds_toArray, List.set_cons_zero, List.set_cons_succ]
    refine wpAnyH_all (rs := [6]) (by kernel_rfl) (by simp) (fun i hi => ?_)
    obtain rfl : i = 6 := List.mem_singleton.1 hi
    refine op_call (R := fun v w1 => v = .tuple #[.bool (meetR fd u ka l1 ta n la sp).1.1, .int .i64 ((meetR fd u ka l1 ta n la sp).1.2 : Nat)] ∧ PuAt w1 B pb rv (meetR fd u ka l1 ta n la sp).2 ∧ Mv B pb wc.drew w1) (f := 31) (some 30) rfl rfl (by rfl) (by go_simp; (try with_reducible rfl)) (HMm.out.mono ?_) ?_
    · rintro e w1 ⟨rfl, h1, h2⟩
      exact ⟨_, rfl, rfl, h1, h2⟩
    rintro v w1 ⟨rfl, hp1, hm1⟩
    have hS1 := hSof w1 (hS0.1.trans hm1)
    have HP1 := hideT (And.intro hp1 (hS0.1.trans hm1))
    clear hp1 hm1
    refine ⟨hS1, ?_⟩
    simp only [Act.put, List.setIfInBounds_toArray, List.set_cons_zero, List.set_cons_succ]
    refine tq 7 23 hS1 ?_
    refine tq 8 31 hS1 ?_
    refine tq 9 32 hS1 ?_
    refine tq 10 9 hS1 ?_
    refine tq 11 10 hS1 ?_
    simp only [Act.put, List.setIfInBounds_toArray, List.set_cons_zero, List.set_cons_succ]
    refine wpAnyH_done (by kernel_rfl) (hK2 _ _ ?_) _
    have HK2 := hideT hK2
    clear hK2 hS0 hS1 hSof HMm
    cases hin : (meetR fd u ka l1 ta n la sp).1.1
    · rw [hin] at HL
      go_wp2
      exact bodyPost_ret (v := .tuple #[.bool false, .bool false, .int .i64 ((meetR fd u ka l1 ta n la sp).1.2 : Nat)]) (by simp [results, Tryz.results21, go_sem]) rfl (by rw [HL.out]; exact ⟨rfl, HP1.out.1, HY.out.2.2.2.1.trans HP1.out.2⟩)
    · rw [hin] at HL
      have b0 : w1.cell? ⟨W.heap.size, 0, none⟩ = some (.int .i64 n) := by simp [World.cell?, HO.out.1 w1 HP1.out.2]
      have b1 : w1.cell? ⟨W.heap.size, 1, none⟩ = some (.bool la) := by simp [World.cell?, HO.out.1 w1 HP1.out.2]
      have b2 : w1.cell? ⟨W.heap.size, 2, none⟩ = some (.string sp) := by simp [World.cell?, HO.out.1 w1 HP1.out.2]
      have HQ := hideT (opens_any (HO.out.2 w1 HP1.out.2) n la sp)
      have hw1 := Nat.le_trans HY.out.2.2.2.2.2.2 HP1.out.2.bel.size
      go_wp2_with fail
      refine HQ.out.mono ?_
      rintro e w2 ⟨rfl, hb2⟩
      have HB2 := hideT hb2
      clear hb2 hin
      go_wp2
      exact bodyPost_ret (v := .tuple #[.bool true, .bool (opensR ⟨kb, l2, .pointer none⟩ n la), .int .i64 ((meetR fd u ka l1 ta n la sp).1.2 : Nat)]) (by simp [results, Tryz.results21, go_sem]; rfl) rfl (by rw [HL.out]; exact ⟨rfl, HP1.out.1.below hw1 HB2.out, (HY.out.2.2.2.1.trans HP1.out.2).trans (mv_below hw1 HB2.out)⟩)
end Go.Proofs.YtbekghinikjjeaaGreatDoor.pkk
namespace Go.Proofs.YtbekghinikjjeaaGreatDoor.pkk
open Go.RowKit Go.Shelf Go.Proofs.YtbekghinikjjeaaGreatDoor.br Go.Proofs.YtbekghinikjjeaaGreatDoor.smt
def PkAt (W : World) (B pb : Nat) (rs : List Pr) (u : Option ByteArray) : Prop := ∃ rb cap cs, PuAt W B pb (.slice (some ⟨rb, 0, none⟩) rs.length cap) u ∧ B ≤ pb ∧ B ≤ rb ∧ rb ≠ pb ∧ W.heap[rb]? = some (.cells cs 67 (0, 0)) ∧ ∀ i (r : Pr), rs[i]? = some r → PrAt W B rb (i * 8) r
theorem rw_set {W : World} {g o : Nat} {a b : Ad} {nt go : Bool} (h : RwAt W g o ⟨a, b, nt, go⟩) (x : Bool) : RwAt (W.setCell ⟨g, o + 7, none⟩ (.bool x)) g o ⟨a, b, nt, x⟩ := by
 intro j v hj
 rw [World.frozen?_setCell]
 have hj8 : j < 8 := (List.getElem?_eq_some_iff.1 hj).1
 by_cases e : j = 7
 · subst e
   obtain rfl : .bool x = v := by simpa [rwV] using hj
   exact ⟨World.cell?_setCell_same' _ _ _ (by rw [(h 7 _ rfl).1]; rfl), (h 7 _ rfl).2⟩
 · have := h j v (by
    rw [← hj]
    have h9 : j = 0 ∨ j = 1 ∨ j = 2 ∨ j = 3 ∨ j = 4 ∨ j = 5 ∨ j = 6 := by omega
    rcases h9 with rfl | rfl | rfl | rfl | rfl | rfl | rfl <;> rfl)
   exact ⟨(World.cell?_setCell_other _ _ _ _ (fun e => by have := congrArg Addr.off e; dsimp only at this; omega)).trans this.1, this.2⟩
theorem rw_far {W : World} {g o : Nat} {r : Rw} (h : RwAt W g o r) {p : Nat} (hp : p < o ∨ o + 8 ≤ p) (x : Value) : RwAt (W.setCell ⟨g, p, none⟩ x) g o r := by
 intro j v hj
 rw [World.frozen?_setCell]
 have hj8 : j < 8 := (List.getElem?_eq_some_iff.1 hj).1
 exact ⟨(World.cell?_setCell_other _ _ _ _ (fun e => by have := congrArg Addr.off e; dsimp only at this; omega)).trans (h j v hj).1, (h j v hj).2⟩
theorem mv_row {B g : Nat} {W : World} {cs : Array Value} (hg : B ≤ g) (h : W.heap[g]? = some (.cells cs 67 (0, 0))) (p : Nat) (x : Value) : (∀ {b t}, MtAt W b t → MtAt (W.setCell ⟨g, p, none⟩ x) b t) ∧ Below B W (W.setCell ⟨g, p, none⟩ x) ∧ (W.setCell ⟨g, p, none⟩ x).heap[g]? = some (.cells (cs.setIfInBounds p x) 67 (0, 0)) := by
 refine ⟨fun {b t} ⟨n, st, k⟩ => ⟨n, st, (Below.heap_setCell _ ⟨g, p, none⟩ _ b ?_).trans k⟩, (Below.refl B W).setCell (p := ⟨g, p, none⟩) hg _, ?_⟩
 · rintro rfl
   rw [h] at k
   simp only [Option.some.injEq, Obj.cells.injEq] at k
   exact absurd k.2.1 (by decide)
 · simp only [World.setCell, Array.getElem?_modify, if_true, h]
   rfl
theorem ReV.mat {W W' : World} {B : Nat} {v : Value} {u : Option ByteArray} (h : ReV W B v u) (k : ∀ {b t}, MtAt W b t → MtAt W' b t) : ReV W' B v u := by
 cases u with
 | none => exact h
 | some t => obtain ⟨mb, h1, h2, h3⟩ := h; exact ⟨mb, h1, h2, k h3⟩
theorem PkAt.mv {W W' : World} {B pb : Nat} {rs : List Pr} {u u' : Option ByteArray} (h : PkAt W B pb rs u) (k : Mv B pb W W') (hu : ∀ rv, PuAt W B pb rv u → PuAt W' B pb rv u') : PkAt W' B pb rs u' := by
 obtain ⟨rb, cap, cs, h1, h2, h3, h4, h5, h6⟩ := h
 exact ⟨rb, cap, cs, hu _ h1, h2, h3, h4, k.oth h4 h5 (by decide), fun i r hi => (h6 i r hi).mv k ⟨cs, h5⟩ h4⟩
theorem PkAt.below {W W' : World} {B pb : Nat} {rs : List Pr} {u : Option ByteArray} (h : PkAt W B pb rs u) (hB : B ≤ W.heap.size) (k : Below W.heap.size W W') : PkAt W' B pb rs u := h.mv (mv_below hB k) fun _ h => h.below hB k
def Kp (W W' : World) : Prop := ∀ (g : Nat) (cs : Array Value) (e : TypeId), W.heap[g]? = some (.cells cs e (0, 0)) → e ≠ 83 → e ≠ 67 → e ≠ 63 → W'.heap[g]? = some (.cells cs e (0, 0))
theorem Mv.kp {W W' : World} {B pb : Nat} {x y : Value} (h : Mv B pb W W') (hp : W.heap[pb]? = some (.cells #[x, y] 63 (0, 0))) : Kp W W' := by
 intro g cs e hg h1 h2 h3
 refine h.oth ?_ hg h1
 rintro rfl
 rw [hp] at hg
 simp only [Option.some.injEq, Obj.cells.injEq] at hg
 exact h3 hg.2.1.symm
theorem Kp.set {W W' : World} {r : Nat} {cs : Array Value} (h : Kp W W') (hr : W'.heap[r]? = some (.cells cs 67 (0, 0))) (p : Nat) (v : Value) : Kp W (W'.setCell ⟨r, p, none⟩ v) := by
 intro g ds e hg h1 h2 h3
 have h4 := h g ds e hg h1 h2 h3
 refine (Below.heap_setCell _ ⟨r, p, none⟩ _ g ?_).trans h4
 rintro rfl
 rw [hr] at h4
 simp only [Option.some.injEq, Obj.cells.injEq] at h4
 exact h2 h4.2.1.symm
def askR (fd : ByteArray → ByteArray → Bool) (u : Option ByteArray) (rs : List Pr) (i : Int) (n : Int) (la : Bool) (sp : ByteArray) : (Bool × Bool × Nat) × List Pr × Option ByteArray :=
 match (if i < 0 then none else rs[i.toNat]?) with
 | none => ((false, false, 1), rs, u)
 | some r =>
  let m := lookR fd u r n la sp
  if m.1.2.2 = 0 then ((m.1.1 != r.nt, !m.1.2.1, 0), rs.set i.toNat { r with go := m.1.2.1 }, m.2) else ((false, false, m.1.2.2), rs, m.2)
theorem ask_nil (i n : Int) (la : Bool) (sp : ByteArray) (W : World) : Calls Tryz.prog 13 #[.pointer none, .int .i64 i, .int .i64 n, .bool la, .string sp] W fun e w' => e = .returned (.tuple #[.bool false, .bool false, .int .i64 25]) ∧ Below W.heap.size W w' := by
 go_enter Tryz.func13, Tryz.ntmps13
 go_wp2
 exact bodyPost_ret (v := .tuple #[.bool false, .bool false, .int .i64 25]) (by simp [results, Tryz.results13, go_sem]) rfl ⟨rfl, Below.refl _ _⟩
theorem ask_out {W : World} {B pb : Nat} {rs : List Pr} {u : Option ByteArray} (h : PkAt W B pb rs u) {i : Int} (hi : i < 0 ∨ (rs.length : Int) ≤ i) (n : Int) (la : Bool) (sp : ByteArray) : Calls Tryz.prog 13 #[.pointer (some ⟨pb, 0, none⟩), .int .i64 i, .int .i64 n, .bool la, .string sp] W fun e w' => e = .returned (.tuple #[.bool false, .bool false, .int .i64 1]) ∧ w' = W := by
 obtain ⟨rb, cap, cs, ⟨x, h1, _⟩, _⟩ := h
 have c0 : W.cell? ⟨pb, 0, none⟩ = some (.slice (some ⟨rb, 0, none⟩) rs.length cap) := by simp [World.cell?, h1]
 clear h1
 by_cases e : i < 0
 · go_enter Tryz.func13, Tryz.ntmps13
   go_wp2
   exact bodyPost_ret (v := .tuple #[.bool false, .bool false, .int .i64 1]) (by simp [results, Tryz.results13, go_sem]) rfl ⟨rfl, rfl⟩
 · have z1 : (i < 0) = False := eq_false e
   have z2 : ((rs.length : Int) ≤ i) = True := eq_true (by omega)
   have z3 : (i ≥ (rs.length : Int)) = True := eq_true (by omega)
   clear hi e
   go_enter Tryz.func13, Tryz.ntmps13
   go_wp2
   exact bodyPost_ret (v := .tuple #[.bool false, .bool false, .int .i64 1]) (by simp [results, Tryz.results13, go_sem]) rfl ⟨rfl, rfl⟩
theorem last_nil (W : World) : Calls Tryz.prog 17 #[.pointer none] W fun e w' => e = .returned (.pointer none) ∧ w' = W := by
 go_enter Tryz.func17, Tryz.ntmps17
 go_wp2
 go_ret
 exact ⟨rfl, rfl⟩
theorem last_any {W : World} {B pb : Nat} {rs : List Pr} {u : Option ByteArray} (h : PkAt W B pb rs u) : Calls Tryz.prog 17 #[.pointer (some ⟨pb, 0, none⟩)] W fun e w' => (∃ v, e = .returned v ∧ ReV W B v u) ∧ w' = W := by
 obtain ⟨rb, cap, cs, ⟨x, h1, h2⟩, _⟩ := h
 have c1 : W.cell? ⟨pb, 1, none⟩ = some x := by simp [World.cell?, h1]
 have H2 := hideT h2
 clear h1 h2
 go_enter Tryz.func17, Tryz.ntmps17
 go_wp2
 go_ret
 exact ⟨⟨x, rfl, H2.out⟩, rfl⟩
theorem ask_in {W : World} {B pb : Nat} {rs : List Pr} {u : Option ByteArray} (h : PkAt W B pb rs u) (hW : B ≤ W.heap.size) (hg : Glob W) (hT : Tab W) (hg2 : 2 ≤ B) {i : Nat} {r : Pr} (hi : rs[i]? = some r) {sp : ByteArray} {fd : ByteArray → ByteArray → Bool} (n : Int) (la : Bool) (hM : ∀ x, ((r.ta <|> u) = some x ∨ (r.tb <|> u) = some x) → Mk x sp (fd x sp)) : Calls Tryz.prog 13 #[.pointer (some ⟨pb, 0, none⟩), .int .i64 (i : Nat), .int .i64 n, .bool la, .string sp] W fun e w' => e = .returned (.tuple #[.bool (askR fd u rs (i : Nat) n la sp).1.1, .bool (askR fd u rs (i : Nat) n la sp).1.2.1, .int .i64 ((askR fd u rs (i : Nat) n la sp).1.2.2 : Nat)]) ∧ PkAt w' B pb (askR fd u rs (i : Nat) n la sp).2.1 (askR fd u rs (i : Nat) n la sp).2.2 ∧ Below B W w' ∧ Kp W w' := by
 have hL : askR fd u rs (i : Nat) n la sp = (let m := lookR fd u r n la sp
  if m.1.2.2 = 0 then ((m.1.1 != r.nt, !m.1.2.1, 0), rs.set i { r with go := m.1.2.1 }, m.2) else ((false, false, m.1.2.2), rs, m.2)) := by
  unfold askR
  rw [if_neg (by omega), Int.toNat_natCast, hi]
 obtain ⟨rb, cap, cs, h1, h2, h3, h4, h5, h6⟩ := h
 have hlen : i < rs.length := (List.getElem?_eq_some_iff.1 hi).1
 have HK := hideT (look_any h1 h2 hW hg hT hg2 (h6 i r hi) ⟨cs, h5⟩ h4 (sp := sp) n la hM)
 obtain ⟨x, c, _⟩ := h1
 have c0 : W.cell? ⟨pb, 0, none⟩ = some (.slice (some ⟨rb, 0, none⟩) rs.length cap) := by simp [World.cell?, c]
 have HC := hideT c
 have z1 : ((i : Int) < 0) = False := eq_false (by omega)
 have z2 : ((rs.length : Int) ≤ (i : Int)) = False := eq_false (by omega)
 have z3 : (rs.length ≤ i) = False := eq_false (by omega)
 have z4 : (i < rs.length) = True := eq_true hlen
 have HH := hideT (And.intro h2 (And.intro h3 (And.intro h4 (And.intro h5 h6))))
 have HL := hideT hL
 have HI := hideT hi
 clear h2 h3 h4 h5 h6 c hL hi hM hW hg hT hlen
 go_enter Tryz.func13, Tryz.ntmps13
 go_upto_region 5 with fail
 go_wp2_with fail
 refine HK.out.mono ?_
 rintro e w1 ⟨rfl, hp, hm⟩
 have hrw := (HH.out.2.2.2.2 i r HI.out).mv hm ⟨cs, HH.out.2.2.2.1⟩ HH.out.2.2.1
 have h5 := hm.oth HH.out.2.2.1 HH.out.2.2.2.1 (by decide)
 have h6 : ∀ j (q : Pr), rs[j]? = some q → PrAt w1 B rb (j * 8) q := fun j q hj => (HH.out.2.2.2.2 j q hj).mv hm ⟨cs, HH.out.2.2.2.1⟩ HH.out.2.2.1
 clear HK
 generalize lookR fd u r n la sp = M at *
 obtain ⟨⟨b1, b2, er⟩, u2⟩ := M
 dsimp only at *
 by_cases e0 : er = 0
 · subst e0
   obtain ⟨ka, l1, ta, kb, l2, tb, nt, go⟩ := r
   obtain ⟨va, vb, hva, hvb, hrr⟩ := hrw
   have hm1 := mv_row HH.out.2.1 h5 (i * 8 + 7) (.bool b2)
   have r1 := rw_set hrr b2
   have f7 := (hrr 7 _ rfl).2
   have d7 := (hrr 7 _ rfl).1
   have d6 := (r1 6 _ rfl).1
   have HE := hideT (show PkAt (w1.setCell ⟨rb, i * 8 + 7, none⟩ (.bool b2)) B pb (rs.set i ⟨ka, l1, ta, kb, l2, tb, nt, b2⟩) u2 ∧ Below B W (w1.setCell ⟨rb, i * 8 + 7, none⟩ (.bool b2)) ∧ Kp W (w1.setCell ⟨rb, i * 8 + 7, none⟩ (.bool b2)) from by
    refine ⟨⟨rb, cap, cs.setIfInBounds (i * 8 + 7) (.bool b2), ?_, HH.out.1, HH.out.2.1, HH.out.2.2.1, hm1.2.2, ?_⟩, hm.bel.trans hm1.2.1, (hm.kp HC.out).set h5 _ _⟩
    · obtain ⟨y, k1, k2⟩ := hp
      rw [List.length_set]
      exact ⟨y, (Below.heap_setCell _ ⟨rb, i * 8 + 7, none⟩ _ pb (fun e => HH.out.2.2.1 e.symm)).trans k1, k2.mat hm1.1⟩
    · intro j q hj
      by_cases ej : j = i
      · subst ej
        rw [List.getElem?_set_self (List.getElem?_eq_some_iff.1 HI.out).1] at hj
        obtain rfl := Option.some.inj hj
        exact ⟨va, vb, hva.mat hm1.1, hvb.mat hm1.1, r1⟩
      · rw [List.getElem?_set_ne (fun e => ej e.symm)] at hj
        obtain ⟨wa, wb, k1, k2, k3⟩ := h6 j q hj
        exact ⟨wa, wb, k1.mat hm1.1, k2.mat hm1.1, rw_far k3 (by omega) _⟩)
   rw [if_pos rfl] at HL
   clear hp hm hva hvb hrr h5 h6 hm1 r1 HH HI z1 z2 z3 z4 c0
   go_wp2
   exact bodyPost_ret (v := .tuple #[.bool (b1 != nt), .bool (!b2), .int .i64 0]) (by simp [results, Tryz.results13, go_sem]; try (cases b1 <;> cases nt <;> rfl)) rfl (by rw [HL.out]; exact ⟨rfl, HE.out⟩)
 · have z5 : ((er : Int) != 0) = true := by simp; omega
   rw [if_neg e0] at HL
   have HE := hideT (show PkAt w1 B pb rs u2 ∧ Below B W w1 ∧ Kp W w1 from ⟨⟨rb, cap, cs, hp, HH.out.1, HH.out.2.1, HH.out.2.2.1, h5, h6⟩, hm.bel, hm.kp HC.out⟩)
   clear hp hm hrw h5 h6 HH HI z1 z2 z3 z4 c0 e0
   go_wp2
   exact bodyPost_ret (v := .tuple #[.bool false, .bool false, .int .i64 (er : Nat)]) (by simp [results, Tryz.results13, go_sem]) rfl (by rw [HL.out]; exact ⟨rfl, HE.out⟩)
end Go.Proofs.YtbekghinikjjeaaGreatDoor.pkk
