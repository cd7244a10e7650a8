/- KA8 -/
import Derived.Test.YtbekghinikjjeaaGreatDoorKTb
import Derived.Test.YtbekghinikjjeaaGreatDoorKPv
import Derived.Test.YtbekghinikjjeaaGreatDoorKQf
import Derived.Test.YtbekghinikjjeaaGreatDoorKTc
set_option maxRecDepth 100000
set_option maxHeartbeats 4000000
namespace Go.Proofs.YtbekghinikjjeaaGreatDoor.smt
open Go.RowKit Go.Proofs.YtbekghinikjjeaaGreatDoor.br
theorem AcV.grow {W : World} {B b : Nat} {S S' : Nat → Prop} {g : Nat} {ag : Bool} {a : Ac} {vl vt vn : Value} {cs : List Nat} (h : AcV W B b S g ag a vl vt vn cs) (hS : ∀ k, S k → S' k) (hn : ∀ k, S' k → k < W.heap.size ∧ k ≠ b ∧ vl.ownBlock ≠ some k ∧ vt.ownBlock ≠ some k ∧ vn.ownBlock ≠ some k) : AcV W B b S' g ag a vl vt vn cs :=
 ⟨h.hb, h.blk, h.hl, h.ol, h.ot, h.on, hn, fun i l c hi hc => (h.kids i l c hi hc).keep (fun _ _ => rfl) hS⟩
theorem AcV.agn {W : World} {B b : Nat} {S : Nat → Prop} {g : Nat} {ag : Bool} {a : Ac} {vl vt vn : Value} {cs : List Nat} (h : AcV W B b S g ag a vl vt vn cs) (d : Bool) :
  AcV (W.setCell ⟨b, 3, none⟩ (.bool d)) B b S g d a vl vt vn cs ∧ AcF B S W (W.setCell ⟨b, 3, none⟩ (.bool d)) := by
 obtain ⟨hfar, hF, hb1, hkid⟩ := h.core (row := none) (W1 := W) ⟨rfl, rfl, rfl, Nat.le_refl _, fun _ _ _ => rfl⟩ (.inl rfl) 3 (.bool d)
 exact ⟨⟨h.hb, ac_put (p := acP g ag a) (pre := [.int .i64 (g : Nat), .bool a.deep, vl]) h.blk hb1 rfl rfl rfl, h.hl, owns_keep h.ol fun k hk => hfar k (owns_blk h.ol hk).2.1 (fun e => own_nb h.ol h.blk (by decide) (by rw [← e]; exact hk)) (fun h => nomatch h), owns_keep h.ot fun k hk => hfar k (owns_blk h.ot hk).2.1 (fun e => own_nb h.ot h.blk (by decide) (by rw [← e]; exact hk)) (fun h => nomatch h), owns_keep h.on fun k hk => hfar k (owns_blk h.on hk).2.1 (fun e => own_nb h.on h.blk (by decide) (by rw [← e]; exact hk)) (fun h => nomatch h), fun k hk => ⟨Nat.lt_of_lt_of_le (h.nS k hk).1 hF.size, (h.nS k hk).2⟩, hkid⟩, hF⟩
def LayIH (x : Tr) : Prop := ∀ (W : World) (ok : Nat → Prop) (va : Option Addr) (n vc : Nat), br.Kids W ok (.slice va n vc) x.kids → (∀ g, ok g → g < W.heap.size) → Tab W → Calls Tryz.prog 45 #[nodeA x (.slice va n vc)] W fun e W' => ∃ b, e = .returned (.pointer (some ⟨b, 0, none⟩)) ∧ PtAt W' (fun k => W.heap.size ≤ k ∧ k < W'.heap.size) b (layT x) ∧ Below W.heap.size W W'
abbrev ac0 : Ac := ⟨false, [], [], []⟩
def wrN (lo hi : Int) : Nat := bif decide (hi < 0) then max lo.toNat 1 else hi.toNat
def repA (x : Tr) (lo hi : Int) : Ac := bif Nat.beq (wrN lo hi) 0 then ac0 else addN (layT x) lo (bif Nat.beq (layT x).takes.length 0 then 1 else wrN lo hi) 0 ac0
theorem addN_succ (kid : Pt) (lo : Int) : ∀ (n c : Nat) (a : Ac), addN kid lo (n + 1) c a = (addN kid lo n c a).add kid (decide (((c + n : Nat) : Int) >= lo))
 | 0, c, a => rfl
 | n + 1, c, a => by
  rw [addN, addN_succ kid lo n (c + 1) _, show c + 1 + n = c + (n + 1) by omega]; rfl
theorem addN_len (kid : Pt) (lo : Int) (hk : kid.next.length = kid.takes.length) : ∀ n : Nat, (addN kid lo n 0 ac0).links.length = n ∧ (addN kid lo n 0 ac0).takes.length = n * kid.takes.length ∧ (addN kid lo n 0 ac0).next.length = n * kid.takes.length
 | 0 => ⟨rfl, (Nat.zero_mul _).symm, (Nat.zero_mul _).symm⟩
 | n + 1 => by
  obtain ⟨h1, h2, h3⟩ := addN_len kid lo hk n
  rw [addN_succ]
  refine ⟨by simp [Ac.add, h1], ?_, ?_⟩
  · simp only [Ac.add, List.length_append, h2]; rw [Nat.succ_mul]
  · simp only [Ac.add, List.length_append, List.length_map, h3, hk]; rw [Nat.succ_mul]
theorem addRepeat_any {W : World} {B b : Nat} {ok : Nat → Prop} {x : Tr} (k gp : Nat) (q : Nat → Bool) (lo hi : Int) (va : Option Addr) (vc : Nat) (h : AcV W B b (fun _ => False) 0 false ac0 (.slice none 0 0) (.slice none 0 0) (.slice none 0 0) []) (hk : br.Kids W ok (.slice va 1 vc) [x]) (hok : ∀ g, ok g → g < B) (hT : Tab W) (hB0 : 0 < B) (ih : LayIH x) (hx : OkP (layT x)) (l0 : 0 ≤ lo) (l1 : lo ≤ 255) (l2 : hi ≤ 255) (hL : (layT x).takes.length * wrN lo hi ≤ 256) :
 Calls Tryz.prog 63 #[.pointer (some ⟨b, 0, none⟩), .agg #[.int .i64 (k : Nat), .int .u64 (wd q 0 : Nat), .int .u64 (wd q 1 : Nat), .int .u64 (wd q 2 : Nat), .int .u64 (wd q 3 : Nat), .int .i64 lo, .int .i64 hi, .int .i64 (gp : Nat), .slice va 1 vc]] W fun e W' => (∃ v, e = .returned v) ∧ ∃ S' vl vt vn cs, AcV W' B b S' 0 (decide (hi < 0)) (repA x lo hi) vl vt vn cs ∧ Below B W W' ∧ ∀ k, S' k → W.heap.size ≤ k := by
 obtain ⟨wn, hwr⟩ : ∃ wn, wrN lo hi = wn := ⟨_, rfl⟩
 have hw255 : wn ≤ 255 := by rw [← hwr, wrN]; cases decide (hi < 0) <;> simp only [cond_true, cond_false] <;> omega
 have hBW : B ≤ W.heap.size := Nat.le_trans h.hb (Nat.le_of_lt h.lt)
 have hbX := (Below.refl W.heap.size W).alloc (Nat.le_refl _) (.cells #[.int .i64 (k : Nat), .int .u64 (wd q 0 : Nat), .int .u64 (wd q 1 : Nat), .int .u64 (wd q 2 : Nat), .int .u64 (wd q 3 : Nat), .int .i64 lo, .int .i64 hi, .int .i64 (gp : Nat), .slice va 1 vc] 98)
 have hnd : (W.alloc (.cells #[.int .i64 (k : Nat), .int .u64 (wd q 0 : Nat), .int .u64 (wd q 1 : Nat), .int .u64 (wd q 2 : Nat), .int .u64 (wd q 3 : Nat), .int .i64 lo, .int .i64 hi, .int .i64 (gp : Nat), .slice va 1 vc] 98)).heap[W.heap.size]? = some (.cells #[.int .i64 (k : Nat), .int .u64 (wd q 0 : Nat), .int .u64 (wd q 1 : Nat), .int .u64 (wd q 2 : Nat), .int .u64 (wd q 3 : Nat), .int .i64 lo, .int .i64 hi, .int .i64 (gp : Nat), .slice va 1 vc] 98) := World.alloc_heap_new W _
 have hblt := h.lt
 have HX := hideT (And.intro (h.keep hbX) (And.intro (xc1 hk hbX) (And.intro (hT.below hbX (by omega)) (And.intro hbX hnd))))
 have HW := hideT (And.intro hwr hL)
 clear h hk hT hbX hnd
 go_enter Tryz.func63, Tryz.ntmps63
 go_upto_region 1 with fail
 generalize W.alloc (.cells #[.int .i64 (k : Nat), .int .u64 (wd q 0 : Nat), .int .u64 (wd q 1 : Nat), .int .u64 (wd q 2 : Nat), .int .u64 (wd q 3 : Nat), .int .i64 lo, .int .i64 hi, .int .i64 (gp : Nat), .slice va 1 vc] 98) = X at *
 have n2 : X.cell? ⟨W.heap.size, 5, none⟩ = some (.int .i64 lo) := by simp [World.cell?, HX.out.2.2.2.2]
 have n3 : X.cell? ⟨W.heap.size, 6, none⟩ = some (.int .i64 hi) := by simp [World.cell?, HX.out.2.2.2.2]
 have c3 := HX.out.1.cells.2.2.1
 have f3 := HX.out.1.cells.2.2.2.2.2 3
 go_upto_if 11 with fail
 rename_i K1 hK1
 go_cut [4] from 7 to 17 (fun s4 wx => s4 = .int .i64 (wn : Nat) ∧ Hid (AcV wx B b (fun _ => False) 0 (decide (hi < 0)) ac0 (.slice none 0 0) (.slice none 0 0) (.slice none 0 0) [] ∧ Below B X wx ∧ wx.heap.size = X.heap.size ∧ ∀ k, k ≠ b → wx.heap[k]? = X.heap[k]?))
 case first =>
  by_cases hh : hi < 0
  · have i1 : (max lo 1 : Int) = (wn : Int) := by rw [← HW.out.1, wrN, decide_eq_true hh, cond_true]; omega
    have HAG := hideT (HX.out.1.agn true)
    have HD := hideT (show decide (hi < 0) = true from decide_eq_true hh)
    go_wp2_with fail
    go_meet
    exact ⟨rfl, hideT ⟨by rw [HD.out]; exact HAG.out.1, HAG.out.2.below, by simp, fun k hk => Below.heap_setCell X ⟨b, 3, none⟩ _ k hk⟩⟩
  · have i1 : hi = (wn : Int) := by rw [← HW.out.1, wrN, decide_eq_false hh, cond_false]; omega
    have HD := hideT (show decide (hi < 0) = false from decide_eq_false hh)
    have HI1 := hideT i1
    clear i1
    go_wp2_with fail
    go_meet
    exact ⟨by rw [HI1.out], hideT ⟨by rw [HD.out]; exact HX.out.1, Below.refl _ _, rfl, fun _ _ => rfl⟩⟩
 case rest =>
 obtain ⟨rfl, HC⟩ := hcut
 refine hK1 _ _ ?_
 clear n2 n3 c3 f3 hK1
 by_cases hz : wn = 0
 · have HR := hideT (show repA x lo hi = ac0 by rw [repA, HW.out.1, hz]; rfl)
   subst hz
   go_wp2
   refine bodyPost_ret (results_none rfl _ _ _) rfl ?_
   exact ⟨⟨_, rfl⟩, fun _ => False, _, _, _, _, by rw [HR.out]; exact HC.out.1, (HX.out.2.2.2.1.mono hBW).trans HC.out.2.1, fun _ h => h.elim⟩
 have i5 : ((wn : Int) == 0) = false := by rw [beq_eq_false_iff_ne]; omega
 have hkw : br.Kids wc ok (.slice va 1 vc) [x] := HX.out.2.1.keep (fun g hg => HC.out.2.2.2 g (by have := hok g hg; have := HC.out.1.hb; omega)) (fun _ h => h)
 obtain ⟨g, c0, u, he, -, -, hcell, hku⟩ := kids_at hkw (i := 0) (t := x) rfl
 obtain rfl : va = some ⟨g, 0, none⟩ := by injection he
 obtain ⟨ua, uc, rfl⟩ : ∃ ua uc, u = .slice ua x.kids.length uc := by cases hku with | mk _ _ vs hl own hok2 hk2 => exact owns_shape own
 have y0 := (hcell 0 _ rfl).1
 have y1 := (hcell 1 _ rfl).1
 have y2 := (hcell 2 _ rfl).1
 have y3 := (hcell 3 _ rfl).1
 have y4 := (hcell 4 _ rfl).1
 have y5 := (hcell 5 _ rfl).1
 have y6 := (hcell 6 _ rfl).1
 have y7 := (hcell 7 _ rfl).1
 have y8 := (hcell 8 _ rfl).1
 rw [Nat.add_zero] at y0
 have hnd : wc.heap[W.heap.size]? = some (.cells #[.int .i64 (k : Nat), .int .u64 (wd q 0 : Nat), .int .u64 (wd q 1 : Nat), .int .u64 (wd q 2 : Nat), .int .u64 (wd q 3 : Nat), .int .i64 lo, .int .i64 hi, .int .i64 (gp : Nat), .slice (some ⟨g, 0, none⟩) 1 vc] 98) := (HC.out.2.2.2 _ (by omega)).trans HX.out.2.2.2.2
 have n2 : wc.cell? ⟨W.heap.size, 5, none⟩ = some (.int .i64 lo) := by simp [World.cell?, hnd]
 have n5 : wc.cell? ⟨W.heap.size, 8, none⟩ = some (.slice (some ⟨g, 0, none⟩) 1 vc) := by simp [World.cell?, hnd]
 have hTc : Tab wc := HX.out.2.2.1.below HC.out.2.1 hB0
 have hBc : B ≤ wc.heap.size := by rw [HC.out.2.2.1]; exact Nat.le_trans hBW HX.out.2.2.2.1.size
 have hWc : W.heap.size < wc.heap.size := (Array.getElem?_eq_some_iff.1 hnd).1
 have hlay := ih wc ok ua x.kids.length uc hku (fun g hg => Nat.lt_of_lt_of_le (hok g hg) hBc) hTc
 have HN := hideT (And.intro n2 (And.intro hBc hWc))
 clear hku hcell he hkw hnd hTc n2 hBc hWc
 go_wp2_with fail
 refine hlay.mono ?_
 rintro e w5 ⟨c, rfl, hpt, hb5⟩
 have hn2 : w5.cell? ⟨W.heap.size, 5, none⟩ = some (.int .i64 lo) := keep_cell hb5 HN.out.1
 obtain ⟨S', hS'⟩ : ∃ S' : Nat → Prop, S' = (fun k => k = W.heap.size ∨ (wc.heap.size ≤ k ∧ k < w5.heap.size)) := ⟨_, rfl⟩
 have hSW : ∀ k, S' k → W.heap.size ≤ k := fun k hk => by rw [hS'] at hk; have := HN.out.2.2; rcases hk with rfl | hk <;> omega
 have hSn : S' W.heap.size := by rw [hS']; exact .inl rfl
 have hpt : PtAt w5 S' c (layT x) := hpt.keep (fun _ _ => rfl) (fun k hk => by rw [hS']; exact .inr hk)
 have hA5 : AcV w5 B b S' 0 (decide (hi < 0)) ac0 (.slice none 0 0) (.slice none 0 0) (.slice none 0 0) [] := (HC.out.1.keep hb5).grow (fun _ h => h.elim) (fun k hk => ⟨by rw [hS'] at hk; have := HN.out.2.2; have := hb5.size; rcases hk with rfl | hk <;> omega, by rw [hS'] at hk; have := HC.out.1.lt; rcases hk with rfl | hk <;> omega, (fun h => nomatch h), (fun h => nomatch h), (fun h => nomatch h)⟩)
 have hc41 : ∃ a2 c2, w5.cell? ⟨c, 41, none⟩ = some (.slice a2 (layT x).takes.length c2) := by
  cases hpt with
  | mk _ _ vl vt vn cs hS blk hl ol ot on =>
   obtain ⟨a2, c2, rfl⟩ := owns_shape ot
   exact ⟨a2, c2, (pt_cell blk).1⟩
 obtain ⟨a2, c2, hc41⟩ := hc41
 have hBX5 : Below B W w5 := ((HX.out.2.2.2.1.mono hBW).trans HC.out.2.1).trans (hb5.mono HN.out.2.1)
 have HF := hideT (And.intro hpt (And.intro hA5 (And.intro hn2 (And.intro hBX5 (Nat.le_of_lt (Nat.lt_of_lt_of_le HN.out.2.2 (Nat.le_refl _)))))))
 have HSW := hideT (And.intro hSW hSn)
 clear y0 y1 y2 y3 y4 y5 y6 y7 y8 n5 hlay hpt hA5 hn2 hBX5 hb5 hS' hSW hSn
 obtain ⟨m, hm⟩ : ∃ m, (bif Nat.beq (layT x).takes.length 0 then 1 else wn) = m := ⟨_, rfl⟩
 have hm255 : m ≤ 255 := by rw [← hm]; cases Nat.beq (layT x).takes.length 0 <;> simp only [cond_true, cond_false] <;> omega
 have hmL : m * (layT x).takes.length ≤ 256 := by
  rw [← hm]
  cases h0 : Nat.beq (layT x).takes.length 0 with
  | true => rw [Nat.eq_of_beq_eq_true h0]; omega
  | false => rw [cond_false, Nat.mul_comm, ← HW.out.1]; exact HW.out.2
 have HM := hideT hm
 have HR := hideT (show repA x lo hi = addN (layT x) lo m 0 ac0 by rw [repA, HW.out.1, show Nat.beq wn 0 = false by cases h : Nat.beq wn 0 with | false => rfl | true => exact absurd (Nat.eq_of_beq_eq_true h) hz, cond_false, hm])
 clear hm
 obtain ⟨bz, hbz⟩ : ∃ bz, Nat.beq (layT x).takes.length 0 = bz := ⟨_, rfl⟩
 have hbz2 : (((layT x).takes.length : Int) == 0) = bz := by
  rw [← hbz]
  cases h0 : Nat.beq (layT x).takes.length 0 with
  | true => rw [Nat.eq_of_beq_eq_true h0]; rfl
  | false => rw [beq_eq_false_iff_ne]; intro e; have : (layT x).takes.length = 0 := by omega
             rw [this] at h0; cases h0
 have HBZ := hideT hbz
 clear hbz
 go_upto_if 30 with fail
 rename_i K3 hK3
 go_cut [4] from 25 to 30 (fun s4 wx => s4 = .int .i64 (m : Nat) ∧ Hid (wx = w5))
 case first =>
  have hm := HM.out
  rw [HBZ.out] at hm
  cases bz with
  | true =>
   rw [cond_true] at hm
   subst hm
   go_wp2_with fail
   go_meet
   exact ⟨rfl, hideT rfl⟩
  | false =>
   rw [cond_false] at hm
   subst hm
   go_wp2_with fail
   go_meet
   exact ⟨rfl, hideT rfl⟩
 case rest =>
 obtain ⟨rfl, hw5⟩ := hcut
 obtain rfl := hw5.out
 clear hw5 hc41 hbz2 HBZ HM
 refine hK3 _ _ ?_
 go_wp2_with fail
 go_loopg [6, 32] m (fun fu v6 v32 wr => ∃ i : Nat, v32 = .int .i64 (i : Nat) ∧ i + fu = m ∧ Hid (∃ vl vt vn cs, AcV wr B b S' 0 (decide (hi < 0)) (addN (layT x) lo i 0 ac0) vl vt vn cs ∧ AcF B S' wc wr))
 case atStart => exact ⟨0, rfl, by omega, hideT ⟨_, _, _, _, HF.out.2.1, AcF.refl _ _ _⟩⟩
 case round =>
  obtain ⟨i, rfl, him, HI⟩ := hrel
  cases gk with
  | zero =>
   obtain rfl : i = m := by omega
   go_wp2
   go_end0
   obtain ⟨vl, vt, vn, cs, h1, h2⟩ := HI.out
   exact ⟨⟨_, rfl⟩, S', vl, vt, vn, cs, by rw [HR.out]; exact h1, HF.out.2.2.2.1.trans h2.below, HSW.out.1⟩
  | succ fu =>
   have hln := addN_len (layT x) lo hx.nl i
   have hile : (i + 1) * (layT x).takes.length ≤ 256 := Nat.le_trans (Nat.mul_le_mul_right _ (by omega)) hmL
   have n2 : wr.cell? ⟨W.heap.size, 5, none⟩ = some (.int .i64 lo) := by
    obtain ⟨vl, vt, vn, cs, h1, h2⟩ := HI.out
    exact (World.cell?_of_block (a := ⟨W.heap.size, 5, none⟩) (h2.s _ HSW.out.2)).trans HF.out.2.2.1
   have i1 : (i : Int) < (m : Int) := by omega
   have HADD : Hid (Calls Tryz.prog 64 #[.pointer (some ⟨b, 0, none⟩), .pointer (some ⟨c, 0, none⟩), .bool (decide (lo ≤ (i : Int)))] wr fun e W' => (∃ v, e = .returned v) ∧ ∃ vl vt vn cs, AcV W' B b S' 0 (decide (hi < 0)) (addN (layT x) lo (i + 1) 0 ac0) vl vt vn cs ∧ AcF B S' wc W') := by
    obtain ⟨vl, vt, vn, cs, h1, h2⟩ := HI.out
    refine (add_part h1 (HF.out.1.keep h2.s (fun _ h => h)) hx (decide (lo ≤ (i : Int))) (by rw [hln.2.1, ← Nat.succ_mul]; exact hile) (by rw [hln.1]; omega) (by rw [hln.2.1, hln.2.2])).mono ?_
    rintro e W' ⟨hv, vl', vt', vn', cs', k1, k2⟩
    refine ⟨hv, vl', vt', vn', cs', ?_, h2.trans k2⟩
    rw [addN_succ, Nat.zero_add]
    exact k1
   clear hln hile HI
   go_wp2_with fail
   refine HADD.out.mono ?_
   rintro e W6 ⟨⟨v, rfl⟩, h6⟩
   have H6 := hideT h6
   clear h6 HADD n2
   go_wp2
   go_roundg fu
   case measure => omega
   case rel => exact ⟨i + 1, by go_num, by omega, H6⟩
end Go.Proofs.YtbekghinikjjeaaGreatDoor.smt
namespace Go.Proofs.YtbekghinikjjeaaGreatDoor.smt
open Go.RowKit Go.Proofs.YtbekghinikjjeaaGreatDoor.br
theorem ac_new (X : World) : AcV (X.alloc (.cells #[.int .i64 0, .bool false, .slice none 0 0, .bool false, .bool false, .bool false, .int .u64 0, .int .u64 0, .int .u64 0, .int .u64 0, .int .u64 0, .int .u64 0, .int .u64 0, .int .u64 0, .bool false, .int .u64 0, .int .u64 0, .int .u64 0, .int .u64 0, .int .u64 0, .int .u64 0, .int .u64 0, .int .u64 0, .bool false, .int .u64 0, .int .u64 0, .int .u64 0, .int .u64 0, .int .u64 0, .int .u64 0, .int .u64 0, .int .u64 0, .bool false, .int .u64 0, .int .u64 0, .int .u64 0, .int .u64 0, .int .u64 0, .int .u64 0, .int .u64 0, .int .u64 0, .slice none 0 0, .slice none 0 0] 164)) X.heap.size X.heap.size (fun _ => False) 0 false ac0 (.slice none 0 0) (.slice none 0 0) (.slice none 0 0) [] := by
 refine ⟨Nat.le_refl _, ?_, rfl, World.ownsRow_nil _ _ _ _, World.ownsRow_nil _ _ _ _, World.ownsRow_nil _ _ _ _, fun _ h => h.elim, fun i l c hi => nomatch hi⟩
 have h := World.alloc_heap_new X (.cells #[.int .i64 0, .bool false, .slice none 0 0, .bool false, .bool false, .bool false, .int .u64 0, .int .u64 0, .int .u64 0, .int .u64 0, .int .u64 0, .int .u64 0, .int .u64 0, .int .u64 0, .bool false, .int .u64 0, .int .u64 0, .int .u64 0, .int .u64 0, .int .u64 0, .int .u64 0, .int .u64 0, .int .u64 0, .bool false, .int .u64 0, .int .u64 0, .int .u64 0, .int .u64 0, .int .u64 0, .int .u64 0, .int .u64 0, .int .u64 0, .bool false, .int .u64 0, .int .u64 0, .int .u64 0, .int .u64 0, .int .u64 0, .int .u64 0, .int .u64 0, .int .u64 0, .slice none 0 0, .slice none 0 0] 164)
 rw [h, ptV, show (acP 0 false ac0).bds = zeroB from rfl, bs_zero]
 rfl
structure LyH (W X : World) (nd : Array Value) : Prop where
 ac : AcV X (W.heap.size + 1) (W.heap.size + 1) (fun _ => False) 0 false ac0 (.slice none 0 0) (.slice none 0 0) (.slice none 0 0) []
 nd : X.heap[W.heap.size]? = some (.cells nd 98)
 b : Below W.heap.size W X
 sz : X.heap.size = W.heap.size + 2
theorem ly_head (W : World) (nd : Array Value) : LyH W ((W.alloc (.cells nd 98)).alloc (.cells #[.int .i64 0, .bool false, .slice none 0 0, .bool false, .bool false, .bool false, .int .u64 0, .int .u64 0, .int .u64 0, .int .u64 0, .int .u64 0, .int .u64 0, .int .u64 0, .int .u64 0, .bool false, .int .u64 0, .int .u64 0, .int .u64 0, .int .u64 0, .int .u64 0, .int .u64 0, .int .u64 0, .int .u64 0, .bool false, .int .u64 0, .int .u64 0, .int .u64 0, .int .u64 0, .int .u64 0, .int .u64 0, .int .u64 0, .int .u64 0, .bool false, .int .u64 0, .int .u64 0, .int .u64 0, .int .u64 0, .int .u64 0, .int .u64 0, .int .u64 0, .int .u64 0, .slice none 0 0, .slice none 0 0] 164)) nd := by
 have h1 := ac_new (W.alloc (.cells nd 98))
 have h2 := World.alloc_heap_new W (.cells nd 98)
 have hb := (Below.refl W.heap.size W).alloc (Nat.le_refl _) (.cells nd 98)
 have hs : (W.alloc (.cells nd 98)).heap.size = W.heap.size + 1 := World.size_alloc _ _
 rw [hs] at h1
 exact ⟨h1, (Below.heap_alloc _ _ _ (by omega)).trans h2, hb.alloc (by omega) _, by rw [World.size_alloc, hs]⟩
theorem lay_rep_eq (q : Nat → Bool) (lo hi : Int) (gp : Nat) (x : Tr) : layT (.mk 5 q lo hi gp [x]) = tie 0 (decide (hi < 0)) (repA x lo hi) := by
 rw [layT, repA, wrN]
 dsimp only [layL]
 generalize (bif decide (hi < 0) then max lo.toNat 1 else hi.toNat) = w
 cases Nat.beq w 0 <;> rfl
theorem addN_ok {kid : Pt} (hk : OkP kid) (lo : Int) : ∀ (n c : Nat) (a : Ac), OkA a → OkA (addN kid lo n c a)
 | 0, _, _, h => h
 | n + 1, c, _, h => addN_ok hk lo n (c + 1) _ (h.add hk _)
theorem repA_good {x : Tr} (hx : OkP (layT x)) (lo hi : Int) (l1 : lo ≤ 255) (l2 : hi ≤ 255) (hL : (layT x).takes.length * wrN lo hi ≤ 256) : OkA (repA x lo hi) ∧ (repA x lo hi).takes.length ≤ 256 ∧ (repA x lo hi).links.length ≤ 1000000 ∧ (decide (hi < 0) = true → (repA x lo hi).links ≠ []) := by
 have hw : wrN lo hi ≤ 255 ∧ (decide (hi < 0) = true → wrN lo hi ≠ 0) := by
  unfold wrN
  cases decide (hi < 0)
  · exact ⟨by rw [cond_false]; omega, fun h => nomatch h⟩
  · exact ⟨by rw [cond_true]; omega, fun _ => by rw [cond_true]; omega⟩
 unfold repA
 generalize wrN lo hi = w at *
 cases h0 : Nat.beq w 0 with
 | true => exact ⟨OkA.zero false, Nat.zero_le _, Nat.zero_le _, fun h => absurd (Nat.eq_of_beq_eq_true h0) (hw.2 h)⟩
 | false =>
  have hw0 : w ≠ 0 := fun e => by rw [e] at h0; cases h0
  rw [cond_false]
  obtain ⟨m, hm⟩ : ∃ m, (bif Nat.beq (layT x).takes.length 0 then 1 else w) = m := ⟨_, rfl⟩
  have hm2 : m ≤ 255 ∧ 0 < m ∧ m * (layT x).takes.length ≤ 256 := by
   rw [← hm]
   cases h1 : Nat.beq (layT x).takes.length 0 with
   | true => rw [Nat.eq_of_beq_eq_true h1]; exact ⟨by rw [cond_true]; omega, by rw [cond_true]; omega, by omega⟩
   | false => rw [cond_false, Nat.mul_comm]; exact ⟨hw.1, by omega, hL⟩
  rw [hm]
  obtain ⟨a1, a2, a3⟩ := addN_len (layT x) lo hx.nl m
  exact ⟨addN_ok hx lo m 0 _ (OkA.zero false), by rw [a2]; exact hm2.2.2, by rw [a1]; omega, fun _ e => by rw [e] at a1; have : 0 = m := a1; omega⟩
theorem lay_rep {W : World} {ok : Nat → Prop} {x : Tr} (gp : Nat) (q : Nat → Bool) (lo hi : Int) (va : Option Addr) (vc : Nat) (hk : br.Kids W ok (.slice va 1 vc) [x]) (hok : ∀ g, ok g → g < W.heap.size) (hT : Tab W) (ih : LayIH x) (hx : OkP (layT x)) (l0 : 0 ≤ lo) (l1 : lo ≤ 255) (l2 : hi ≤ 255) (hL : (layT x).takes.length * wrN lo hi ≤ 256) :
 Calls Tryz.prog 45 #[.agg #[.int .i64 (5 : Nat), .int .u64 (wd q 0 : Nat), .int .u64 (wd q 1 : Nat), .int .u64 (wd q 2 : Nat), .int .u64 (wd q 3 : Nat), .int .i64 lo, .int .i64 hi, .int .i64 (gp : Nat), .slice va 1 vc]] W fun e W' => ∃ b, e = .returned (.pointer (some ⟨b, 0, none⟩)) ∧ PtAt W' (fun k => W.heap.size ≤ k ∧ k < W'.heap.size) b (layT (.mk 5 q lo hi gp [x])) ∧ Below W.heap.size W W' := by
 have HK := hideT (And.intro hk hT)
 clear hk hT
 have hH := ly_head W #[.int .i64 (5 : Nat), .int .u64 (wd q 0 : Nat), .int .u64 (wd q 1 : Nat), .int .u64 (wd q 2 : Nat), .int .u64 (wd q 3 : Nat), .int .i64 lo, .int .i64 hi, .int .i64 (gp : Nat), .slice va 1 vc]
 go_enter Tryz.func45, Tryz.ntmps45
 go_upto_region 2 with fail
 have HH := hideT hH
 clear hH
 generalize ((W.alloc (.cells #[.int .i64 (5 : Nat), .int .u64 (wd q 0 : Nat), .int .u64 (wd q 1 : Nat), .int .u64 (wd q 2 : Nat), .int .u64 (wd q 3 : Nat), .int .i64 lo, .int .i64 hi, .int .i64 (gp : Nat), .slice va 1 vc] 98)).alloc (.cells #[.int .i64 0, .bool false, .slice none 0 0, .bool false, .bool false, .bool false, .int .u64 0, .int .u64 0, .int .u64 0, .int .u64 0, .int .u64 0, .int .u64 0, .int .u64 0, .int .u64 0, .bool false, .int .u64 0, .int .u64 0, .int .u64 0, .int .u64 0, .int .u64 0, .int .u64 0, .int .u64 0, .int .u64 0, .bool false, .int .u64 0, .int .u64 0, .int .u64 0, .int .u64 0, .int .u64 0, .int .u64 0, .int .u64 0, .int .u64 0, .bool false, .int .u64 0, .int .u64 0, .int .u64 0, .int .u64 0, .int .u64 0, .int .u64 0, .int .u64 0, .int .u64 0, .slice none 0 0, .slice none 0 0] 164)) = X at *
 have n0 : X.cell? ⟨W.heap.size, 0, none⟩ = some (.int .i64 (5 : Nat)) := by simp [World.cell?, HH.out.nd]
 have HS := hideT (addRepeat_any (W := X) 5 gp q lo hi va vc HH.out.ac (xc1 HK.out.1 HH.out.b) (fun g hg => by have := hok g hg; omega) (HK.out.2.below HH.out.b HK.out.2.pos) (by omega) ih hx l0 l1 l2 hL)
 have n1 : X.cell? ⟨W.heap.size, 1, none⟩ = some (.int .u64 (wd q 0 : Nat)) := by simp [World.cell?, HH.out.nd]
 have n2 : X.cell? ⟨W.heap.size, 2, none⟩ = some (.int .u64 (wd q 1 : Nat)) := by simp [World.cell?, HH.out.nd]
 have n3 : X.cell? ⟨W.heap.size, 3, none⟩ = some (.int .u64 (wd q 2 : Nat)) := by simp [World.cell?, HH.out.nd]
 have n4 : X.cell? ⟨W.heap.size, 4, none⟩ = some (.int .u64 (wd q 3 : Nat)) := by simp [World.cell?, HH.out.nd]
 have n5 : X.cell? ⟨W.heap.size, 5, none⟩ = some (.int .i64 lo) := by simp [World.cell?, HH.out.nd]
 have n6 : X.cell? ⟨W.heap.size, 6, none⟩ = some (.int .i64 hi) := by simp [World.cell?, HH.out.nd]
 have n7 : X.cell? ⟨W.heap.size, 7, none⟩ = some (.int .i64 (gp : Nat)) := by simp [World.cell?, HH.out.nd]
 have n8 : X.cell? ⟨W.heap.size, 8, none⟩ = some (.slice va 1 vc) := by simp [World.cell?, HH.out.nd]
 go_wp2_with fail
 refine HS.out.mono ?_
 rintro e W1 ⟨⟨v, rfl⟩, S', vl, vt, vn, cs, hA, hB, hS⟩
 have hT1 : Tab W1 := HK.out.2.keep ((hB.block 0 (by have := HK.out.2.pos; omega)).trans (HH.out.b.block 0 HK.out.2.pos))
 have hgd := repA_good hx lo hi l1 l2 hL
 have hct := tie_any hA hT1 (by omega) hgd.1 hgd.2.1 hgd.2.2.1 hgd.2.2.2
 have HF := hideT (And.intro hA (And.intro hB hS))
 clear hA hB hS hT1 hgd n0 n1 n2 n3 n4 n5 n6 n7 n8 HS
 go_wp2_with fail
 refine hct.mono ?_
 rintro e W2 ⟨⟨v, rfl⟩, hP, hF2⟩
 have HP := hideT (And.intro hP hF2)
 clear hP hF2 hct
 go_wp2
 go_ret
 have hBB : Below W.heap.size W W2 := HH.out.b.trans ((HF.out.2.1.mono (Nat.le_succ _)).trans (HP.out.2.below.mono (Nat.le_succ _)))
 have hs2 : W1.heap.size ≤ W2.heap.size := HP.out.2.size
 refine ⟨_, rfl, ?_, hBB⟩
 rw [lay_rep_eq]
 refine HP.out.1.keep (fun _ _ => rfl) (fun k hk => ?_)
 rcases hk with hk | rfl | hk | hk | hk
 · exact ⟨by have := HF.out.2.2 k hk; rw [HH.out.sz] at this; omega, Nat.lt_of_lt_of_le (HF.out.1.nS k hk).1 hs2⟩
 · exact ⟨by omega, Nat.lt_of_lt_of_le HF.out.1.lt hs2⟩
 · exact ⟨by have := (owns_blk HF.out.1.ol hk).1; omega, Nat.lt_of_lt_of_le (owns_blk HF.out.1.ol hk).2.1 hs2⟩
 · exact ⟨by have := (owns_blk HF.out.1.ot hk).1; omega, Nat.lt_of_lt_of_le (owns_blk HF.out.1.ot hk).2.1 hs2⟩
 · exact ⟨by have := (owns_blk HF.out.1.on hk).1; omega, Nat.lt_of_lt_of_le (owns_blk HF.out.1.on hk).2.1 hs2⟩
theorem lay_bol {W : World} (gp : Nat) (q : Nat → Bool) (lo hi : Int) (va : Option Addr) (nn vc : Nat) (ks : List Tr) :
 Calls Tryz.prog 45 #[.agg #[.int .i64 (2 : Nat), .int .u64 (wd q 0 : Nat), .int .u64 (wd q 1 : Nat), .int .u64 (wd q 2 : Nat), .int .u64 (wd q 3 : Nat), .int .i64 lo, .int .i64 hi, .int .i64 (gp : Nat), .slice va nn vc]] W fun e W' => ∃ b, e = .returned (.pointer (some ⟨b, 0, none⟩)) ∧ PtAt W' (fun k => W.heap.size ≤ k ∧ k < W'.heap.size) b (layT (.mk 2 q lo hi gp ks)) ∧ Below W.heap.size W W' := by
 have hH := ly_head W #[.int .i64 (2 : Nat), .int .u64 (wd q 0 : Nat), .int .u64 (wd q 1 : Nat), .int .u64 (wd q 2 : Nat), .int .u64 (wd q 3 : Nat), .int .i64 lo, .int .i64 hi, .int .i64 (gp : Nat), .slice va nn vc]
 go_enter Tryz.func45, Tryz.ntmps45
 go_upto_region 2 with fail
 have HH := hideT hH
 clear hH
 generalize ((W.alloc (.cells #[.int .i64 (2 : Nat), .int .u64 (wd q 0 : Nat), .int .u64 (wd q 1 : Nat), .int .u64 (wd q 2 : Nat), .int .u64 (wd q 3 : Nat), .int .i64 lo, .int .i64 hi, .int .i64 (gp : Nat), .slice va nn vc] 98)).alloc (.cells #[.int .i64 0, .bool false, .slice none 0 0, .bool false, .bool false, .bool false, .int .u64 0, .int .u64 0, .int .u64 0, .int .u64 0, .int .u64 0, .int .u64 0, .int .u64 0, .int .u64 0, .bool false, .int .u64 0, .int .u64 0, .int .u64 0, .int .u64 0, .int .u64 0, .int .u64 0, .int .u64 0, .int .u64 0, .bool false, .int .u64 0, .int .u64 0, .int .u64 0, .int .u64 0, .int .u64 0, .int .u64 0, .int .u64 0, .int .u64 0, .bool false, .int .u64 0, .int .u64 0, .int .u64 0, .int .u64 0, .int .u64 0, .int .u64 0, .int .u64 0, .int .u64 0, .slice none 0 0, .slice none 0 0] 164)) = X at *
 have n0 : X.cell? ⟨W.heap.size, 0, none⟩ = some (.int .i64 (2 : Nat)) := by simp [World.cell?, HH.out.nd]
 go_upto_region 19 with fail
 rename_i KA hKA
 refine wp_region_lit (l := [_, _, _, _, _]) ?_
 refine wl_value (v := .pointer (some ⟨W.heap.size + 1, 0, none⟩)) (w' := X) rfl (by go_simp; (try with_reducible rfl)) ?_
 refine wl_call (f := 62) (args := #[.int .i64 1]) (R := fun v w1 => v = .agg (bsV (anchB 1)).toArray ∧ Below X.heap.size X w1) rfl (by go_simp; (try with_reducible rfl)) ((anchor_bol X).mono ?_) ?_
 · rintro e w1 ⟨rfl, h1⟩; exact ⟨_, rfl, rfl, h1⟩
 rintro v w1 ⟨rfl, hb1⟩
 obtain ⟨bv, hbv⟩ : ∃ bv, bsV (anchB 1) = bv := ⟨_, rfl⟩
 have hbvl : bv.length = 36 := by rw [← hbv]; exact bsV_len _
 have hbv1 : bv.toArray.all (·.oneCell') = true := by rw [← hbv]; exact bsV_one _
 have hbs : bv.toArray.size = 36 := by simp [hbvl]
 rw [hbv]
 simp only [Act.put, List.setIfInBounds_toArray, List.set_cons_zero, List.set_cons_succ]
 refine wl_value (v := .pointer (some ⟨W.heap.size + 1, 0, none⟩)) (w' := w1) rfl (by go_simp; (try with_reducible rfl)) ?_
 refine wl_value (v := .pointer (some ⟨W.heap.size + 1, 5, none⟩)) (w' := w1) rfl (by go_simp; (try with_reducible rfl)) ?_
 simp only [Act.put, List.setIfInBounds_toArray, List.set_cons_zero, List.set_cons_succ]
 have hA1 := HH.out.ac.keep hb1
 refine wpList_store_mid rfl 161 _ _ rfl (W.heap.size + 1) 5 bv.toArray rfl rfl (by rw [hbs]; exact there_mid hA1.blk 5 36 (by rw [ptV_len]; omega)) (by rw [info_part, hbs]) hbv1 ?_
 refine wpList_nil (hKA _ _ ?_)
 simp only [Act.put]
 show Code.wp _ _ _ _ (w1.setCells (W.heap.size + 1) 5 bv)
 have hvb : (w1.setCells (W.heap.size + 1) 5 bv).heap[W.heap.size + 1]? = some (.cells (([.int .i64 0, .bool false, .slice none 0 0, .bool false, .bool false] : List Value) ++ (bv ++ ([.slice none 0 0, .slice none 0 0] : List Value))).toArray 164 (0, 0)) := setCells_at (W.heap.size + 1) 164 (0, 0) bv [.int .i64 0, .bool false, .slice none 0 0, .bool false, .bool false] (bsV zeroB) [.slice none 0 0, .slice none 0 0] w1 5 hA1.blk rfl (by rw [bsV_len, hbvl])
 have hBz : Below W.heap.size W (w1.setCells (W.heap.size + 1) 5 bv) := below_setCells _ (by omega) _ _ _ (HH.out.b.trans (hb1.mono HH.out.b.size))
 have hsz : W.heap.size + 1 < (w1.setCells (W.heap.size + 1) 5 bv).heap.size := (Array.getElem?_eq_some_iff.1 hvb).1
 have HV := hideT (And.intro hvb (And.intro hBz (And.intro hsz hbv)))
 clear hvb hBz hsz hbv hbs hbvl hbv1 hA1 hKA hb1 n0
 generalize w1.setCells (W.heap.size + 1) 5 bv = Z at *
 go_wp2
 go_ret
 refine ⟨_, rfl, ?_, HV.out.2.1⟩
 refine .mk _ _ (.slice none 0 0) (.slice none 0 0) (.slice none 0 0) [] ⟨by omega, HV.out.2.2.1⟩ ?_ rfl (World.ownsRow_nil _ _ _ _) (World.ownsRow_nil _ _ _ _) (World.ownsRow_nil _ _ _ _) (fun _ h => nomatch h) (fun _ h => nomatch h) (fun _ h => nomatch h) (fun i l c hi => nomatch hi)
 rw [HV.out.1, ← HV.out.2.2.2]
 rfl
theorem lay_eol {W : World} (gp : Nat) (q : Nat → Bool) (lo hi : Int) (va : Option Addr) (nn vc : Nat) (ks : List Tr) :
 Calls Tryz.prog 45 #[.agg #[.int .i64 (3 : Nat), .int .u64 (wd q 0 : Nat), .int .u64 (wd q 1 : Nat), .int .u64 (wd q 2 : Nat), .int .u64 (wd q 3 : Nat), .int .i64 lo, .int .i64 hi, .int .i64 (gp : Nat), .slice va nn vc]] W fun e W' => ∃ b, e = .returned (.pointer (some ⟨b, 0, none⟩)) ∧ PtAt W' (fun k => W.heap.size ≤ k ∧ k < W'.heap.size) b (layT (.mk 3 q lo hi gp ks)) ∧ Below W.heap.size W W' := by
 have hH := ly_head W #[.int .i64 (3 : Nat), .int .u64 (wd q 0 : Nat), .int .u64 (wd q 1 : Nat), .int .u64 (wd q 2 : Nat), .int .u64 (wd q 3 : Nat), .int .i64 lo, .int .i64 hi, .int .i64 (gp : Nat), .slice va nn vc]
 go_enter Tryz.func45, Tryz.ntmps45
 go_upto_region 2 with fail
 have HH := hideT hH
 clear hH
 generalize ((W.alloc (.cells #[.int .i64 (3 : Nat), .int .u64 (wd q 0 : Nat), .int .u64 (wd q 1 : Nat), .int .u64 (wd q 2 : Nat), .int .u64 (wd q 3 : Nat), .int .i64 lo, .int .i64 hi, .int .i64 (gp : Nat), .slice va nn vc] 98)).alloc (.cells #[.int .i64 0, .bool false, .slice none 0 0, .bool false, .bool false, .bool false, .int .u64 0, .int .u64 0, .int .u64 0, .int .u64 0, .int .u64 0, .int .u64 0, .int .u64 0, .int .u64 0, .bool false, .int .u64 0, .int .u64 0, .int .u64 0, .int .u64 0, .int .u64 0, .int .u64 0, .int .u64 0, .int .u64 0, .bool false, .int .u64 0, .int .u64 0, .int .u64 0, .int .u64 0, .int .u64 0, .int .u64 0, .int .u64 0, .int .u64 0, .bool false, .int .u64 0, .int .u64 0, .int .u64 0, .int .u64 0, .int .u64 0, .int .u64 0, .int .u64 0, .int .u64 0, .slice none 0 0, .slice none 0 0] 164)) = X at *
 have n0 : X.cell? ⟨W.heap.size, 0, none⟩ = some (.int .i64 (3 : Nat)) := by simp [World.cell?, HH.out.nd]
 go_upto_region 22 with fail
 rename_i KA hKA
 refine wp_region_lit (l := [_, _, _, _, _]) ?_
 refine wl_value (v := .pointer (some ⟨W.heap.size + 1, 0, none⟩)) (w' := X) rfl (by go_simp; (try with_reducible rfl)) ?_
 refine wl_call (f := 62) (args := #[.int .i64 2]) (R := fun v w1 => v = .agg (bsV (anchB 2)).toArray ∧ Below X.heap.size X w1) rfl (by go_simp; (try with_reducible rfl)) ((anchor_eol X).mono ?_) ?_
 · rintro e w1 ⟨rfl, h1⟩; exact ⟨_, rfl, rfl, h1⟩
 rintro v w1 ⟨rfl, hb1⟩
 obtain ⟨bv, hbv⟩ : ∃ bv, bsV (anchB 2) = bv := ⟨_, rfl⟩
 have hbvl : bv.length = 36 := by rw [← hbv]; exact bsV_len _
 have hbv1 : bv.toArray.all (·.oneCell') = true := by rw [← hbv]; exact bsV_one _
 have hbs : bv.toArray.size = 36 := by simp [hbvl]
 rw [hbv]
 simp only [Act.put, List.setIfInBounds_toArray, List.set_cons_zero, List.set_cons_succ]
 refine wl_value (v := .pointer (some ⟨W.heap.size + 1, 0, none⟩)) (w' := w1) rfl (by go_simp; (try with_reducible rfl)) ?_
 refine wl_value (v := .pointer (some ⟨W.heap.size + 1, 5, none⟩)) (w' := w1) rfl (by go_simp; (try with_reducible rfl)) ?_
 simp only [Act.put, List.setIfInBounds_toArray, List.set_cons_zero, List.set_cons_succ]
 have hA1 := HH.out.ac.keep hb1
 refine wpList_store_mid rfl 161 _ _ rfl (W.heap.size + 1) 5 bv.toArray rfl rfl (by rw [hbs]; exact there_mid hA1.blk 5 36 (by rw [ptV_len]; omega)) (by rw [info_part, hbs]) hbv1 ?_
 refine wpList_nil (hKA _ _ ?_)
 simp only [Act.put]
 show Code.wp _ _ _ _ (w1.setCells (W.heap.size + 1) 5 bv)
 have hvb : (w1.setCells (W.heap.size + 1) 5 bv).heap[W.heap.size + 1]? = some (.cells (([.int .i64 0, .bool false, .slice none 0 0, .bool false, .bool false] : List Value) ++ (bv ++ ([.slice none 0 0, .slice none 0 0] : List Value))).toArray 164 (0, 0)) := setCells_at (W.heap.size + 1) 164 (0, 0) bv [.int .i64 0, .bool false, .slice none 0 0, .bool false, .bool false] (bsV zeroB) [.slice none 0 0, .slice none 0 0] w1 5 hA1.blk rfl (by rw [bsV_len, hbvl])
 have hBz : Below W.heap.size W (w1.setCells (W.heap.size + 1) 5 bv) := below_setCells _ (by omega) _ _ _ (HH.out.b.trans (hb1.mono HH.out.b.size))
 have hsz : W.heap.size + 1 < (w1.setCells (W.heap.size + 1) 5 bv).heap.size := (Array.getElem?_eq_some_iff.1 hvb).1
 have HV := hideT (And.intro hvb (And.intro hBz (And.intro hsz hbv)))
 clear hvb hBz hsz hbv hbs hbvl hbv1 hA1 hKA hb1 n0
 generalize w1.setCells (W.heap.size + 1) 5 bv = Z at *
 go_wp2
 go_ret
 refine ⟨_, rfl, ?_, HV.out.2.1⟩
 refine .mk _ _ (.slice none 0 0) (.slice none 0 0) (.slice none 0 0) [] ⟨by omega, HV.out.2.2.1⟩ ?_ rfl (World.ownsRow_nil _ _ _ _) (World.ownsRow_nil _ _ _ _) (World.ownsRow_nil _ _ _ _) (fun _ h => nomatch h) (fun _ h => nomatch h) (fun _ h => nomatch h) (fun i l c hi => nomatch hi)
 rw [HV.out.1, ← HV.out.2.2.2]
 rfl
theorem AcV.grp {W : World} {B b : Nat} {S : Nat → Prop} {g : Nat} {ag : Bool} {a : Ac} {vl vt vn : Value} {cs : List Nat} (h : AcV W B b S g ag a vl vt vn cs) (g' : Nat) :
  AcV (W.setCell ⟨b, 0, none⟩ (.int .i64 (g' : Nat))) B b S g' ag a vl vt vn cs ∧ AcF B S W (W.setCell ⟨b, 0, none⟩ (.int .i64 (g' : Nat))) := by
 obtain ⟨hfar, hF, hb1, hkid⟩ := h.core (row := none) (W1 := W) ⟨rfl, rfl, rfl, Nat.le_refl _, fun _ _ _ => rfl⟩ (.inl rfl) 0 (.int .i64 (g' : Nat))
 exact ⟨⟨h.hb, ac_put (p := acP g ag a) (pre := []) h.blk hb1 rfl rfl rfl, h.hl, owns_keep h.ol fun k hk => hfar k (owns_blk h.ol hk).2.1 (fun e => own_nb h.ol h.blk (by decide) (by rw [← e]; exact hk)) (fun h => nomatch h), owns_keep h.ot fun k hk => hfar k (owns_blk h.ot hk).2.1 (fun e => own_nb h.ot h.blk (by decide) (by rw [← e]; exact hk)) (fun h => nomatch h), owns_keep h.on fun k hk => hfar k (owns_blk h.on hk).2.1 (fun e => own_nb h.on h.blk (by decide) (by rw [← e]; exact hk)) (fun h => nomatch h), fun k hk => ⟨Nat.lt_of_lt_of_le (h.nS k hk).1 hF.size, (h.nS k hk).2⟩, hkid⟩, hF⟩
theorem layL_len : ∀ ts : List Tr, (layL ts).length = ts.length
 | [] => rfl
 | t :: ts => by rw [layL, List.length_cons, List.length_cons, layL_len ts]
def rowA (ks : List Tr) (kb : Bool) (i : Nat) : Ac := ((layL ks).take i).foldl (fun a kid => a.add kid false) ⟨kb, [], [], []⟩
theorem layL_get : ∀ (ks : List Tr) (i : Nat) (x : Tr), ks[i]? = some x → (layL ks)[i]? = some (layT x)
 | [], _, _, h => nomatch h
 | t :: ts, 0, x, h => by cases h; rfl
 | t :: ts, i + 1, x, h => layL_get ts i x h
theorem rowA_succ {ks : List Tr} {kb : Bool} {i : Nat} {x : Tr} (h : ks[i]? = some x) : rowA ks kb (i + 1) = (rowA ks kb i).add (layT x) false := by
 have h1 := layL_get ks i x h
 obtain ⟨hi, h2⟩ := List.getElem?_eq_some_iff.1 h1
 rw [rowA, List.take_succ_eq_append_getElem hi, List.foldl_append, h2]; rfl
theorem lay_row0 {W : World} {ok : Nat → Prop} {ks : List Tr} (gp : Nat) (q : Nat → Bool) (lo hi : Int) (va : Option Addr) (vc : Nat) (hk : br.Kids W ok (.slice va ks.length vc) ks) (hok : ∀ g, ok g → g < W.heap.size) (hT : Tab W) (ih : ∀ x, x ∈ ks → LayIH x ∧ OkP (layT x)) (hl : ks.length ≤ 1000000) (HR : ∀ i, i ≤ ks.length → OkA (rowA ks false i) ∧ (rowA ks false i).takes.length ≤ 256 ∧ (rowA ks false i).links.length = i) :
 Calls Tryz.prog 45 #[.agg #[.int .i64 (0 : Nat), .int .u64 (wd q 0 : Nat), .int .u64 (wd q 1 : Nat), .int .u64 (wd q 2 : Nat), .int .u64 (wd q 3 : Nat), .int .i64 lo, .int .i64 hi, .int .i64 (gp : Nat), .slice va ks.length vc]] W fun e W' => ∃ b, e = .returned (.pointer (some ⟨b, 0, none⟩)) ∧ PtAt W' (fun k => W.heap.size ≤ k ∧ k < W'.heap.size) b (layT (.mk 0 q lo hi gp ks)) ∧ Below W.heap.size W W' := by
 have HK := hideT (And.intro hk hT)
 clear hk hT
 have hH := ly_head W #[.int .i64 (0 : Nat), .int .u64 (wd q 0 : Nat), .int .u64 (wd q 1 : Nat), .int .u64 (wd q 2 : Nat), .int .u64 (wd q 3 : Nat), .int .i64 lo, .int .i64 hi, .int .i64 (gp : Nat), .slice va ks.length vc]
 go_enter Tryz.func45, Tryz.ntmps45
 go_upto_region 2 with fail
 have HH := hideT hH
 clear hH
 generalize ((W.alloc (.cells #[.int .i64 (0 : Nat), .int .u64 (wd q 0 : Nat), .int .u64 (wd q 1 : Nat), .int .u64 (wd q 2 : Nat), .int .u64 (wd q 3 : Nat), .int .i64 lo, .int .i64 hi, .int .i64 (gp : Nat), .slice va ks.length vc] 98)).alloc (.cells #[.int .i64 0, .bool false, .slice none 0 0, .bool false, .bool false, .bool false, .int .u64 0, .int .u64 0, .int .u64 0, .int .u64 0, .int .u64 0, .int .u64 0, .int .u64 0, .int .u64 0, .bool false, .int .u64 0, .int .u64 0, .int .u64 0, .int .u64 0, .int .u64 0, .int .u64 0, .int .u64 0, .int .u64 0, .bool false, .int .u64 0, .int .u64 0, .int .u64 0, .int .u64 0, .int .u64 0, .int .u64 0, .int .u64 0, .int .u64 0, .bool false, .int .u64 0, .int .u64 0, .int .u64 0, .int .u64 0, .int .u64 0, .int .u64 0, .int .u64 0, .int .u64 0, .slice none 0 0, .slice none 0 0] 164)) = X at *
 have n0 : X.cell? ⟨W.heap.size, 0, none⟩ = some (.int .i64 (0 : Nat)) := by simp [World.cell?, HH.out.nd]
 have n7 : X.cell? ⟨W.heap.size, 7, none⟩ = some (.int .i64 (gp : Nat)) := by simp [World.cell?, HH.out.nd]
 have c0 : X.cell? ⟨W.heap.size + 1, 0, none⟩ = some (.int .i64 0) := by simp only [World.cell?, HH.out.ac.blk]; rfl
 have c1 : X.cell? ⟨W.heap.size + 1, 1, none⟩ = some (.bool false) := by simp only [World.cell?, HH.out.ac.blk]; rfl
 have hf := HH.out.ac.cells.2.2.2.2.2
 have f0 := hf 0
 have f1 := hf 1
 clear hf
 go_upto_region 3 with fail
 rename_i K3 hK3
 go_cut [] from 11 to 21 (fun wx => Hid (AcV wx (W.heap.size + 1) (W.heap.size + 1) (fun _ => False) gp false ⟨false, [], [], []⟩ (.slice none 0 0) (.slice none 0 0) (.slice none 0 0) [] ∧ Below (W.heap.size + 1) X wx))
 case first =>
  rename_i J hJ
  have hS0 : (fun V : World => V.cell? ⟨W.heap.size, 0, none⟩ = some (.int .i64 (0 : Nat)) ∧ V.cell? ⟨W.heap.size, 7, none⟩ = some (.int .i64 (gp : Nat))) X.drew := ⟨n0, n7⟩
  have hfar : ∀ (V : World) (o : Nat) (u : Value), (V.cell? ⟨W.heap.size, 0, none⟩ = some (.int .i64 (0 : Nat)) ∧ V.cell? ⟨W.heap.size, 7, none⟩ = some (.int .i64 (gp : Nat))) → ((V.setCell ⟨W.heap.size + 1, o, none⟩ u).cell? ⟨W.heap.size, 0, none⟩ = some (.int .i64 (0 : Nat)) ∧ (V.setCell ⟨W.heap.size + 1, o, none⟩ u).cell? ⟨W.heap.size, 7, none⟩ = some (.int .i64 (gp : Nat))) := fun V o u h => ⟨(World.cell?_of_block (a := ⟨W.heap.size, 0, none⟩) (Below.heap_setCell V _ u W.heap.size (by show W.heap.size ≠ W.heap.size + 1; omega))).trans h.1, (World.cell?_of_block (a := ⟨W.heap.size, 7, none⟩) (Below.heap_setCell V _ u W.heap.size (by show W.heap.size ≠ W.heap.size + 1; omega))).trans h.2⟩
  have hAd : AcV X.drew (W.heap.size + 1) (W.heap.size + 1) (fun _ => False) 0 false ac0 (.slice none 0 0) (.slice none 0 0) (.slice none 0 0) [] := HH.out.ac.keep (Below.refl _ _).drew
  have hA1 := hAd.grp gp
  have hA2 := hA1.1.dp false
  have HA := hideT (And.intro hA2.1 ((Below.refl (W.heap.size + 1) X).drew.trans (hA1.2.below.trans hA2.2.below)))
  have e1 : X.drew.cell? ⟨W.heap.size + 1, 0, none⟩ = some (.int .i64 0) := c0
  have g0 : X.drew.frozen? ⟨W.heap.size + 1, 0, none⟩ = false := f0
  have e2 := hA1.1.cells.1
  have g2 := hA1.1.cells.2.2.2.2.2 1
  clear hAd hA1 hA2
  refine wp_region_held (S := fun V : World => V.cell? ⟨W.heap.size, 0, none⟩ = some (.int .i64 (0 : Nat)) ∧ V.cell? ⟨W.heap.size, 7, none⟩ = some (.int .i64 (gp : Nat))) (by kernel_rfl) ?_
  refine tq 0 11 hS0 ?_
  refine tq 1 12 hS0 ?_
  refine tq 2 13 hS0 ?_
  refine tq 3 14 hS0 ?_
  refine tq 4 15 hS0 ?_
  refine tq 5 16 hS0 ?_
  refine tq 6 17 hS0 ?_
  refine tq 7 18 hS0 ?_
  refine tq 8 19 hS0 ?_
  simp only [Act.put, List.setIfInBounds_toArray, List.set_cons_zero, List.set_cons_succ]
  refine wpAnyH_all (rs := [9]) (by kernel_rfl) (by simp) (fun i hi => ?_)
  obtain rfl : i = 9 := List.mem_singleton.1 hi
  have hS1 := hfar _ 0 (.int .i64 (gp : Nat)) hS0
  refine op_skip rfl rfl (by rfl) (w' := X.drew.setCell ⟨W.heap.size + 1, 0, none⟩ (.int .i64 (gp : Nat))) (by go_simp; (try with_reducible rfl)) ⟨hS1, ?_⟩
  simp only [Act.put]
  refine tq 10 20 hS1 ?_
  refine tq 11 21 hS1 ?_
  simp only [Act.put, List.setIfInBounds_toArray, List.set_cons_zero, List.set_cons_succ]
  refine wpAnyH_all (rs := [12]) (by kernel_rfl) (by simp) (fun i hi => ?_)
  obtain rfl : i = 12 := List.mem_singleton.1 hi
  refine op_skip rfl rfl (by rfl) (w' := (X.drew.setCell ⟨W.heap.size + 1, 0, none⟩ (.int .i64 (gp : Nat))).setCell ⟨W.heap.size + 1, 1, none⟩ (.bool false)) (by go_simp; (try with_reducible rfl)) ⟨hfar _ 1 (.bool false) hS1, ?_⟩
  refine wpAnyH_done (by kernel_rfl) (hJ _ _ ?_) _
  try simp only [Act.put]
  go_meet
  exact HA
 case rest =>
 refine hK3 _ _ ?_
 have HC := hideT hcut.out
 clear hcut n0 n7 c0 c1 f0 f1 hK3
 have hnd : wc.heap[W.heap.size]? = some (.cells #[.int .i64 (0 : Nat), .int .u64 (wd q 0 : Nat), .int .u64 (wd q 1 : Nat), .int .u64 (wd q 2 : Nat), .int .u64 (wd q 3 : Nat), .int .i64 lo, .int .i64 hi, .int .i64 (gp : Nat), .slice va ks.length vc] 98) := (HC.out.2.block _ (by omega)).trans HH.out.nd
 have n8 : wc.cell? ⟨W.heap.size, 8, none⟩ = some (.slice va ks.length vc) := by simp [World.cell?, hnd]
 clear hnd
 go_wp2_with fail
 clear n8
 go_loopg [6, 25] ks.length (fun fu v6 v25 wr => ∃ i : Nat, v25 = .int .i64 (i : Nat) ∧ i + fu = ks.length ∧ Hid (∃ S' vl vt vn cs, AcV wr (W.heap.size + 1) (W.heap.size + 1) S' gp false (rowA ks false i) vl vt vn cs ∧ Below (W.heap.size + 1) X wr ∧ ∀ k, S' k → W.heap.size + 1 ≤ k))
 case atStart => exact ⟨0, rfl, by omega, hideT ⟨_, _, _, _, _, HC.out.1, HC.out.2, fun _ h => h.elim⟩⟩
 case round =>
  obtain ⟨i, rfl, hif, HI⟩ := hrel
  clear HC
  cases gk with
  | zero =>
   obtain rfl : i = ks.length := by omega
   obtain ⟨S', vl, vt, vn, cs, hA, hB, hS⟩ := HI.out
   have hT1 : Tab wr := HK.out.2.keep ((hB.block 0 (by have := HK.out.2.pos; omega)).trans (HH.out.b.block 0 HK.out.2.pos))
   have hgd := HR ks.length (Nat.le_refl _)
   have hct := tie_any hA hT1 (by omega) hgd.1 hgd.2.1 (by rw [hgd.2.2]; exact hl) (fun h => nomatch h)
   have HF := hideT (And.intro hA (And.intro hB hS))
   clear hA hB hS hT1 hgd HI
   go_wp2_with fail
   refine hct.mono ?_
   rintro e W2 ⟨⟨v, rfl⟩, hP, hF2⟩
   have HP := hideT (And.intro hP hF2)
   clear hP hF2 hct
   go_wp2
   go_ret
   have hBB : Below W.heap.size W W2 := HH.out.b.trans ((HF.out.2.1.mono (Nat.le_succ _)).trans (HP.out.2.below.mono (Nat.le_succ _)))
   have hs2 : wr.heap.size ≤ W2.heap.size := HP.out.2.size
   refine ⟨_, rfl, ?_, hBB⟩
   have hle : layT (.mk 0 q lo hi gp ks) = tie gp false (rowA ks false ks.length) := by
    rw [rowA, ← layL_len ks, List.take_length]; rfl
   rw [hle]
   refine HP.out.1.keep (fun _ _ => rfl) (fun k hk => ?_)
   rcases hk with hk | rfl | hk | hk | hk
   · exact ⟨by have := HF.out.2.2 k hk; omega, Nat.lt_of_lt_of_le (HF.out.1.nS k hk).1 hs2⟩
   · exact ⟨by omega, Nat.lt_of_lt_of_le HF.out.1.lt hs2⟩
   · exact ⟨by have := (owns_blk HF.out.1.ol hk).1; omega, Nat.lt_of_lt_of_le (owns_blk HF.out.1.ol hk).2.1 hs2⟩
   · exact ⟨by have := (owns_blk HF.out.1.ot hk).1; omega, Nat.lt_of_lt_of_le (owns_blk HF.out.1.ot hk).2.1 hs2⟩
   · exact ⟨by have := (owns_blk HF.out.1.on hk).1; omega, Nat.lt_of_lt_of_le (owns_blk HF.out.1.on hk).2.1 hs2⟩
  | succ fu =>
   have hil : i < ks.length := by omega
   obtain ⟨x, hx⟩ : ∃ x, ks[i]? = some x := ⟨_, List.getElem?_eq_getElem hil⟩
   have hxm := List.mem_of_getElem? hx
   have hkw : br.Kids wr ok (.slice va ks.length vc) ks := by
    obtain ⟨S', vl, vt, vn, cs, hA, hB, hS⟩ := HI.out
    exact HK.out.1.keep (fun g hg => (hB.block g (by have := hok g hg; omega)).trans (HH.out.b.block g (hok g hg))) (fun _ h => h)
   have hsw : W.heap.size + 1 < wr.heap.size := by
    obtain ⟨S', vl, vt, vn, cs, hA, hB, hS⟩ := HI.out
    exact hA.lt
   obtain ⟨g, c0, u, he, -, hgw, hcell, hku⟩ := kids_at hkw hx
   obtain rfl : va = some ⟨g, 0, none⟩ := by injection he
   obtain ⟨ua, uc, rfl⟩ : ∃ ua uc, u = .slice ua x.kids.length uc := by cases hku with | mk _ _ vs hl own hok2 hk2 => exact owns_shape own
   have y0 := (hcell 0 _ rfl).1
   have y1 := (hcell 1 _ rfl).1
   have y2 := (hcell 2 _ rfl).1
   have y3 := (hcell 3 _ rfl).1
   have y4 := (hcell 4 _ rfl).1
   have y5 := (hcell 5 _ rfl).1
   have y6 := (hcell 6 _ rfl).1
   have y7 := (hcell 7 _ rfl).1
   have y8 := (hcell 8 _ rfl).1
   rw [Nat.add_zero] at y0
   have hbA := (Below.refl wr.heap.size wr).alloc (Nat.le_refl _) (.cells #[.int .i64 (x.kind : Nat), .int .u64 (wd x.q 0 : Nat), .int .u64 (wd x.q 1 : Nat), .int .u64 (wd x.q 2 : Nat), .int .u64 (wd x.q 3 : Nat), .int .i64 x.lo, .int .i64 x.hi, .int .i64 (x.grp : Nat), .slice ua x.kids.length uc] 98)
   have hTw : Tab (wr.alloc (.cells #[.int .i64 (x.kind : Nat), .int .u64 (wd x.q 0 : Nat), .int .u64 (wd x.q 1 : Nat), .int .u64 (wd x.q 2 : Nat), .int .u64 (wd x.q 3 : Nat), .int .i64 x.lo, .int .i64 x.hi, .int .i64 (x.grp : Nat), .slice ua x.kids.length uc] 98)) := by
    obtain ⟨S', vl, vt, vn, cs, hA, hB, hS⟩ := HI.out
    exact HK.out.2.keep ((hbA.block 0 (by omega)).trans ((hB.block 0 (by have := HK.out.2.pos; omega)).trans (HH.out.b.block 0 HK.out.2.pos)))
   have hlay := (ih x hxm).1 (wr.alloc (.cells #[.int .i64 (x.kind : Nat), .int .u64 (wd x.q 0 : Nat), .int .u64 (wd x.q 1 : Nat), .int .u64 (wd x.q 2 : Nat), .int .u64 (wd x.q 3 : Nat), .int .i64 x.lo, .int .i64 x.hi, .int .i64 (x.grp : Nat), .slice ua x.kids.length uc] 98)) ok ua x.kids.length uc (xc1 hku hbA) (fun g hg => by have := hok g hg; have := hbA.size; omega) hTw
   have i1 : (i : Int) < (ks.length : Int) := by omega
   have i2 : (0 : Int) ≤ (i : Int) := by omega
   have HXA := hideT (And.intro hbA (And.intro hx (And.intro hsw (ih x hxm).2)))
   clear hbA hTw hku hcell he hkw hgw hxm hx hsw
   go_wp2_with fail
   refine hlay.mono ?_
   rintro e w5 ⟨c, rfl, hpt, hb5⟩
   have HADD : Hid (Calls Tryz.prog 64 #[.pointer (some ⟨W.heap.size + 1, 0, none⟩), .pointer (some ⟨c, 0, none⟩), .bool false] w5 fun e W' => (∃ v, e = .returned v) ∧ ∃ S' vl vt vn cs, AcV W' (W.heap.size + 1) (W.heap.size + 1) S' gp false (rowA ks false (i + 1)) vl vt vn cs ∧ Below (W.heap.size + 1) X W' ∧ ∀ k, S' k → W.heap.size + 1 ≤ k) := by
    obtain ⟨S', vl, vt, vn, cs, hA, hB, hS⟩ := HI.out
    have hbw5 : Below wr.heap.size wr w5 := HXA.out.1.trans (hb5.mono HXA.out.1.size)
    have hA5 := hA.keep hbw5
    have hsz := HXA.out.1.size
    have hA6 : AcV w5 (W.heap.size + 1) (W.heap.size + 1) (fun k => S' k ∨ ((wr.alloc (.cells #[.int .i64 (x.kind : Nat), .int .u64 (wd x.q 0 : Nat), .int .u64 (wd x.q 1 : Nat), .int .u64 (wd x.q 2 : Nat), .int .u64 (wd x.q 3 : Nat), .int .i64 x.lo, .int .i64 x.hi, .int .i64 (x.grp : Nat), .slice ua x.kids.length uc] 98)).heap.size ≤ k ∧ k < w5.heap.size)) gp false (rowA ks false i) vl vt vn cs := hA5.grow (fun _ h => .inl h) (fun k hk => by
     rcases hk with hk | hk
     · exact hA5.nS k hk
     · exact ⟨hk.2, by have := hA.lt; omega, fun e => by have := (owns_blk hA.ol e).2.1; omega, fun e => by have := (owns_blk hA.ot e).2.1; omega, fun e => by have := (owns_blk hA.on e).2.1; omega⟩)
    have hr1 := HR i (by omega)
    have hr2 := HR (i + 1) (by omega)
    rw [rowA_succ HXA.out.2.1] at hr2
    refine (add_part hA6 (hpt.keep (fun _ _ => rfl) (fun k hk => .inr hk)) HXA.out.2.2.2 false (by have h9 := hr2.2.1; simp only [Ac.add, List.length_append] at h9; exact h9) (by rw [hr1.2.2]; omega) hr1.1.nl).mono ?_
    rintro e W' ⟨hv, vl', vt', vn', cs', k1, k2⟩
    refine ⟨hv, _, vl', vt', vn', cs', by rw [rowA_succ HXA.out.2.1]; exact k1, hB.trans ((hbw5.mono (by have := hA.lt; omega)).trans k2.below), fun k hk => ?_⟩
    rcases hk with hk | hk
    · exact hS k hk
    · have := hA.lt; omega
   clear y0 y1 y2 y3 y4 y5 y6 y7 y8 hlay hpt hb5 HI HXA
   go_wp2_with fail
   refine HADD.out.mono ?_
   rintro e W6 ⟨⟨v, rfl⟩, h6⟩
   have H6 := hideT h6
   clear h6 HADD
   go_wp2
   go_roundg fu
   case measure => omega
   case rel => exact ⟨i + 1, by go_num, by omega, H6⟩
theorem lay_row4 {W : World} {ok : Nat → Prop} {ks : List Tr} (gp : Nat) (q : Nat → Bool) (lo hi : Int) (va : Option Addr) (vc : Nat) (hk : br.Kids W ok (.slice va ks.length vc) ks) (hok : ∀ g, ok g → g < W.heap.size) (hT : Tab W) (ih : ∀ x, x ∈ ks → LayIH x ∧ OkP (layT x)) (hl : ks.length ≤ 1000000) (HR : ∀ i, i ≤ ks.length → OkA (rowA ks true i) ∧ (rowA ks true i).takes.length ≤ 256 ∧ (rowA ks true i).links.length = i) :
 Calls Tryz.prog 45 #[.agg #[.int .i64 (4 : Nat), .int .u64 (wd q 0 : Nat), .int .u64 (wd q 1 : Nat), .int .u64 (wd q 2 : Nat), .int .u64 (wd q 3 : Nat), .int .i64 lo, .int .i64 hi, .int .i64 (gp : Nat), .slice va ks.length vc]] W fun e W' => ∃ b, e = .returned (.pointer (some ⟨b, 0, none⟩)) ∧ PtAt W' (fun k => W.heap.size ≤ k ∧ k < W'.heap.size) b (layT (.mk 4 q lo hi gp ks)) ∧ Below W.heap.size W W' := by
 have HK := hideT (And.intro hk hT)
 clear hk hT
 have hH := ly_head W #[.int .i64 (4 : Nat), .int .u64 (wd q 0 : Nat), .int .u64 (wd q 1 : Nat), .int .u64 (wd q 2 : Nat), .int .u64 (wd q 3 : Nat), .int .i64 lo, .int .i64 hi, .int .i64 (gp : Nat), .slice va ks.length vc]
 go_enter Tryz.func45, Tryz.ntmps45
 go_upto_region 2 with fail
 have HH := hideT hH
 clear hH
 generalize ((W.alloc (.cells #[.int .i64 (4 : Nat), .int .u64 (wd q 0 : Nat), .int .u64 (wd q 1 : Nat), .int .u64 (wd q 2 : Nat), .int .u64 (wd q 3 : Nat), .int .i64 lo, .int .i64 hi, .int .i64 (gp : Nat), .slice va ks.length vc] 98)).alloc (.cells #[.int .i64 0, .bool false, .slice none 0 0, .bool false, .bool false, .bool false, .int .u64 0, .int .u64 0, .int .u64 0, .int .u64 0, .int .u64 0, .int .u64 0, .int .u64 0, .int .u64 0, .bool false, .int .u64 0, .int .u64 0, .int .u64 0, .int .u64 0, .int .u64 0, .int .u64 0, .int .u64 0, .int .u64 0, .bool false, .int .u64 0, .int .u64 0, .int .u64 0, .int .u64 0, .int .u64 0, .int .u64 0, .int .u64 0, .int .u64 0, .bool false, .int .u64 0, .int .u64 0, .int .u64 0, .int .u64 0, .int .u64 0, .int .u64 0, .int .u64 0, .int .u64 0, .slice none 0 0, .slice none 0 0] 164)) = X at *
 have n0 : X.cell? ⟨W.heap.size, 0, none⟩ = some (.int .i64 (4 : Nat)) := by simp [World.cell?, HH.out.nd]
 have n7 : X.cell? ⟨W.heap.size, 7, none⟩ = some (.int .i64 (gp : Nat)) := by simp [World.cell?, HH.out.nd]
 have c0 : X.cell? ⟨W.heap.size + 1, 0, none⟩ = some (.int .i64 0) := by simp only [World.cell?, HH.out.ac.blk]; rfl
 have c1 : X.cell? ⟨W.heap.size + 1, 1, none⟩ = some (.bool false) := by simp only [World.cell?, HH.out.ac.blk]; rfl
 have hf := HH.out.ac.cells.2.2.2.2.2
 have f0 := hf 0
 have f1 := hf 1
 clear hf
 go_upto_region 3 with fail
 rename_i K3 hK3
 go_cut [] from 11 to 21 (fun wx => Hid (AcV wx (W.heap.size + 1) (W.heap.size + 1) (fun _ => False) gp false ⟨true, [], [], []⟩ (.slice none 0 0) (.slice none 0 0) (.slice none 0 0) [] ∧ Below (W.heap.size + 1) X wx))
 case first =>
  rename_i J hJ
  have hS0 : (fun V : World => V.cell? ⟨W.heap.size, 0, none⟩ = some (.int .i64 (4 : Nat)) ∧ V.cell? ⟨W.heap.size, 7, none⟩ = some (.int .i64 (gp : Nat))) X.drew := ⟨n0, n7⟩
  have hfar : ∀ (V : World) (o : Nat) (u : Value), (V.cell? ⟨W.heap.size, 0, none⟩ = some (.int .i64 (4 : Nat)) ∧ V.cell? ⟨W.heap.size, 7, none⟩ = some (.int .i64 (gp : Nat))) → ((V.setCell ⟨W.heap.size + 1, o, none⟩ u).cell? ⟨W.heap.size, 0, none⟩ = some (.int .i64 (4 : Nat)) ∧ (V.setCell ⟨W.heap.size + 1, o, none⟩ u).cell? ⟨W.heap.size, 7, none⟩ = some (.int .i64 (gp : Nat))) := fun V o u h => ⟨(World.cell?_of_block (a := ⟨W.heap.size, 0, none⟩) (Below.heap_setCell V _ u W.heap.size (by show W.heap.size ≠ W.heap.size + 1; omega))).trans h.1, (World.cell?_of_block (a := ⟨W.heap.size, 7, none⟩) (Below.heap_setCell V _ u W.heap.size (by show W.heap.size ≠ W.heap.size + 1; omega))).trans h.2⟩
  have hAd : AcV X.drew (W.heap.size + 1) (W.heap.size + 1) (fun _ => False) 0 false ac0 (.slice none 0 0) (.slice none 0 0) (.slice none 0 0) [] := HH.out.ac.keep (Below.refl _ _).drew
  have hA1 := hAd.grp gp
  have hA2 := hA1.1.dp true
  have HA := hideT (And.intro hA2.1 ((Below.refl (W.heap.size + 1) X).drew.trans (hA1.2.below.trans hA2.2.below)))
  have e1 : X.drew.cell? ⟨W.heap.size + 1, 0, none⟩ = some (.int .i64 0) := c0
  have g0 : X.drew.frozen? ⟨W.heap.size + 1, 0, none⟩ = false := f0
  have e2 := hA1.1.cells.1
  have g2 := hA1.1.cells.2.2.2.2.2 1
  clear hAd hA1 hA2
  refine wp_region_held (S := fun V : World => V.cell? ⟨W.heap.size, 0, none⟩ = some (.int .i64 (4 : Nat)) ∧ V.cell? ⟨W.heap.size, 7, none⟩ = some (.int .i64 (gp : Nat))) (by kernel_rfl) ?_
  refine tq 0 11 hS0 ?_
  refine tq 1 12 hS0 ?_
  refine tq 2 13 hS0 ?_
  refine tq 3 14 hS0 ?_
  refine tq 4 15 hS0 ?_
  refine tq 5 16 hS0 ?_
  refine tq 6 17 hS0 ?_
  refine tq 7 18 hS0 ?_
  refine tq 8 19 hS0 ?_
  simp only [Act.put, List.setIfInBounds_toArray, List.set_cons_zero, List.set_cons_succ]
  refine wpAnyH_all (rs := [9]) (by kernel_rfl) (by simp) (fun i hi => ?_)
  obtain rfl : i = 9 := List.mem_singleton.1 hi
  have hS1 := hfar _ 0 (.int .i64 (gp : Nat)) hS0
  refine op_skip rfl rfl (by rfl) (w' := X.drew.setCell ⟨W.heap.size + 1, 0, none⟩ (.int .i64 (gp : Nat))) (by go_simp; (try with_reducible rfl)) ⟨hS1, ?_⟩
  simp only [Act.put]
  refine tq 10 20 hS1 ?_
  refine tq 11 21 hS1 ?_
  simp only [Act.put, List.setIfInBounds_toArray, List.set_cons_zero, List.set_cons_succ]
  refine wpAnyH_all (rs := [12]) (by kernel_rfl) (by simp) (fun i hi => ?_)
  obtain rfl : i = 12 := List.mem_singleton.1 hi
  refine op_skip rfl rfl (by rfl) (w' := (X.drew.setCell ⟨W.heap.size + 1, 0, none⟩ (.int .i64 (gp : Nat))).setCell ⟨W.heap.size + 1, 1, none⟩ (.bool true)) (by go_simp; (try with_reducible rfl)) ⟨hfar _ 1 (.bool true) hS1, ?_⟩
  refine wpAnyH_done (by kernel_rfl) (hJ _ _ ?_) _
  try simp only [Act.put]
  go_meet
  exact HA
 case rest =>
 refine hK3 _ _ ?_
 have HC := hideT hcut.out
 clear hcut n0 n7 c0 c1 f0 f1 hK3
 have hnd : wc.heap[W.heap.size]? = some (.cells #[.int .i64 (4 : Nat), .int .u64 (wd q 0 : Nat), .int .u64 (wd q 1 : Nat), .int .u64 (wd q 2 : Nat), .int .u64 (wd q 3 : Nat), .int .i64 lo, .int .i64 hi, .int .i64 (gp : Nat), .slice va ks.length vc] 98) := (HC.out.2.block _ (by omega)).trans HH.out.nd
 have n8 : wc.cell? ⟨W.heap.size, 8, none⟩ = some (.slice va ks.length vc) := by simp [World.cell?, hnd]
 clear hnd
 go_wp2_with fail
 clear n8
 go_loopg [6, 25] ks.length (fun fu v6 v25 wr => ∃ i : Nat, v25 = .int .i64 (i : Nat) ∧ i + fu = ks.length ∧ Hid (∃ S' vl vt vn cs, AcV wr (W.heap.size + 1) (W.heap.size + 1) S' gp false (rowA ks true i) vl vt vn cs ∧ Below (W.heap.size + 1) X wr ∧ ∀ k, S' k → W.heap.size + 1 ≤ k))
 case atStart => exact ⟨0, rfl, by omega, hideT ⟨_, _, _, _, _, HC.out.1, HC.out.2, fun _ h => h.elim⟩⟩
 case round =>
  obtain ⟨i, rfl, hif, HI⟩ := hrel
  clear HC
  cases gk with
  | zero =>
   obtain rfl : i = ks.length := by omega
   obtain ⟨S', vl, vt, vn, cs, hA, hB, hS⟩ := HI.out
   have hT1 : Tab wr := HK.out.2.keep ((hB.block 0 (by have := HK.out.2.pos; omega)).trans (HH.out.b.block 0 HK.out.2.pos))
   have hgd := HR ks.length (Nat.le_refl _)
   have hct := tie_any hA hT1 (by omega) hgd.1 hgd.2.1 (by rw [hgd.2.2]; exact hl) (fun h => nomatch h)
   have HF := hideT (And.intro hA (And.intro hB hS))
   clear hA hB hS hT1 hgd HI
   go_wp2_with fail
   refine hct.mono ?_
   rintro e W2 ⟨⟨v, rfl⟩, hP, hF2⟩
   have HP := hideT (And.intro hP hF2)
   clear hP hF2 hct
   go_wp2
   go_ret
   have hBB : Below W.heap.size W W2 := HH.out.b.trans ((HF.out.2.1.mono (Nat.le_succ _)).trans (HP.out.2.below.mono (Nat.le_succ _)))
   have hs2 : wr.heap.size ≤ W2.heap.size := HP.out.2.size
   refine ⟨_, rfl, ?_, hBB⟩
   have hle : layT (.mk 4 q lo hi gp ks) = tie gp false (rowA ks true ks.length) := by
    rw [rowA, ← layL_len ks, List.take_length]; rfl
   rw [hle]
   refine HP.out.1.keep (fun _ _ => rfl) (fun k hk => ?_)
   rcases hk with hk | rfl | hk | hk | hk
   · exact ⟨by have := HF.out.2.2 k hk; omega, Nat.lt_of_lt_of_le (HF.out.1.nS k hk).1 hs2⟩
   · exact ⟨by omega, Nat.lt_of_lt_of_le HF.out.1.lt hs2⟩
   · exact ⟨by have := (owns_blk HF.out.1.ol hk).1; omega, Nat.lt_of_lt_of_le (owns_blk HF.out.1.ol hk).2.1 hs2⟩
   · exact ⟨by have := (owns_blk HF.out.1.ot hk).1; omega, Nat.lt_of_lt_of_le (owns_blk HF.out.1.ot hk).2.1 hs2⟩
   · exact ⟨by have := (owns_blk HF.out.1.on hk).1; omega, Nat.lt_of_lt_of_le (owns_blk HF.out.1.on hk).2.1 hs2⟩
  | succ fu =>
   have hil : i < ks.length := by omega
   obtain ⟨x, hx⟩ : ∃ x, ks[i]? = some x := ⟨_, List.getElem?_eq_getElem hil⟩
   have hxm := List.mem_of_getElem? hx
   have hkw : br.Kids wr ok (.slice va ks.length vc) ks := by
    obtain ⟨S', vl, vt, vn, cs, hA, hB, hS⟩ := HI.out
    exact HK.out.1.keep (fun g hg => (hB.block g (by have := hok g hg; omega)).trans (HH.out.b.block g (hok g hg))) (fun _ h => h)
   have hsw : W.heap.size + 1 < wr.heap.size := by
    obtain ⟨S', vl, vt, vn, cs, hA, hB, hS⟩ := HI.out
    exact hA.lt
   obtain ⟨g, c0, u, he, -, hgw, hcell, hku⟩ := kids_at hkw hx
   obtain rfl : va = some ⟨g, 0, none⟩ := by injection he
   obtain ⟨ua, uc, rfl⟩ : ∃ ua uc, u = .slice ua x.kids.length uc := by cases hku with | mk _ _ vs hl own hok2 hk2 => exact owns_shape own
   have y0 := (hcell 0 _ rfl).1
   have y1 := (hcell 1 _ rfl).1
   have y2 := (hcell 2 _ rfl).1
   have y3 := (hcell 3 _ rfl).1
   have y4 := (hcell 4 _ rfl).1
   have y5 := (hcell 5 _ rfl).1
   have y6 := (hcell 6 _ rfl).1
   have y7 := (hcell 7 _ rfl).1
   have y8 := (hcell 8 _ rfl).1
   rw [Nat.add_zero] at y0
   have hbA := (Below.refl wr.heap.size wr).alloc (Nat.le_refl _) (.cells #[.int .i64 (x.kind : Nat), .int .u64 (wd x.q 0 : Nat), .int .u64 (wd x.q 1 : Nat), .int .u64 (wd x.q 2 : Nat), .int .u64 (wd x.q 3 : Nat), .int .i64 x.lo, .int .i64 x.hi, .int .i64 (x.grp : Nat), .slice ua x.kids.length uc] 98)
   have hTw : Tab (wr.alloc (.cells #[.int .i64 (x.kind : Nat), .int .u64 (wd x.q 0 : Nat), .int .u64 (wd x.q 1 : Nat), .int .u64 (wd x.q 2 : Nat), .int .u64 (wd x.q 3 : Nat), .int .i64 x.lo, .int .i64 x.hi, .int .i64 (x.grp : Nat), .slice ua x.kids.length uc] 98)) := by
    obtain ⟨S', vl, vt, vn, cs, hA, hB, hS⟩ := HI.out
    exact HK.out.2.keep ((hbA.block 0 (by omega)).trans ((hB.block 0 (by have := HK.out.2.pos; omega)).trans (HH.out.b.block 0 HK.out.2.pos)))
   have hlay := (ih x hxm).1 (wr.alloc (.cells #[.int .i64 (x.kind : Nat), .int .u64 (wd x.q 0 : Nat), .int .u64 (wd x.q 1 : Nat), .int .u64 (wd x.q 2 : Nat), .int .u64 (wd x.q 3 : Nat), .int .i64 x.lo, .int .i64 x.hi, .int .i64 (x.grp : Nat), .slice ua x.kids.length uc] 98)) ok ua x.kids.length uc (xc1 hku hbA) (fun g hg => by have := hok g hg; have := hbA.size; omega) hTw
   have i1 : (i : Int) < (ks.length : Int) := by omega
   have i2 : (0 : Int) ≤ (i : Int) := by omega
   have HXA := hideT (And.intro hbA (And.intro hx (And.intro hsw (ih x hxm).2)))
   clear hbA hTw hku hcell he hkw hgw hxm hx hsw
   go_wp2_with fail
   refine hlay.mono ?_
   rintro e w5 ⟨c, rfl, hpt, hb5⟩
   have HADD : Hid (Calls Tryz.prog 64 #[.pointer (some ⟨W.heap.size + 1, 0, none⟩), .pointer (some ⟨c, 0, none⟩), .bool false] w5 fun e W' => (∃ v, e = .returned v) ∧ ∃ S' vl vt vn cs, AcV W' (W.heap.size + 1) (W.heap.size + 1) S' gp false (rowA ks true (i + 1)) vl vt vn cs ∧ Below (W.heap.size + 1) X W' ∧ ∀ k, S' k → W.heap.size + 1 ≤ k) := by
    obtain ⟨S', vl, vt, vn, cs, hA, hB, hS⟩ := HI.out
    have hbw5 : Below wr.heap.size wr w5 := HXA.out.1.trans (hb5.mono HXA.out.1.size)
    have hA5 := hA.keep hbw5
    have hsz := HXA.out.1.size
    have hA6 : AcV w5 (W.heap.size + 1) (W.heap.size + 1) (fun k => S' k ∨ ((wr.alloc (.cells #[.int .i64 (x.kind : Nat), .int .u64 (wd x.q 0 : Nat), .int .u64 (wd x.q 1 : Nat), .int .u64 (wd x.q 2 : Nat), .int .u64 (wd x.q 3 : Nat), .int .i64 x.lo, .int .i64 x.hi, .int .i64 (x.grp : Nat), .slice ua x.kids.length uc] 98)).heap.size ≤ k ∧ k < w5.heap.size)) gp false (rowA ks true i) vl vt vn cs := hA5.grow (fun _ h => .inl h) (fun k hk => by
     rcases hk with hk | hk
     · exact hA5.nS k hk
     · exact ⟨hk.2, by have := hA.lt; omega, fun e => by have := (owns_blk hA.ol e).2.1; omega, fun e => by have := (owns_blk hA.ot e).2.1; omega, fun e => by have := (owns_blk hA.on e).2.1; omega⟩)
    have hr1 := HR i (by omega)
    have hr2 := HR (i + 1) (by omega)
    rw [rowA_succ HXA.out.2.1] at hr2
    refine (add_part hA6 (hpt.keep (fun _ _ => rfl) (fun k hk => .inr hk)) HXA.out.2.2.2 false (by have h9 := hr2.2.1; simp only [Ac.add, List.length_append] at h9; exact h9) (by rw [hr1.2.2]; omega) hr1.1.nl).mono ?_
    rintro e W' ⟨hv, vl', vt', vn', cs', k1, k2⟩
    refine ⟨hv, _, vl', vt', vn', cs', by rw [rowA_succ HXA.out.2.1]; exact k1, hB.trans ((hbw5.mono (by have := hA.lt; omega)).trans k2.below), fun k hk => ?_⟩
    rcases hk with hk | hk
    · exact hS k hk
    · have := hA.lt; omega
   clear y0 y1 y2 y3 y4 y5 y6 y7 y8 hlay hpt hb5 HI HXA
   go_wp2_with fail
   refine HADD.out.mono ?_
   rintro e W6 ⟨⟨v, rfl⟩, h6⟩
   have H6 := hideT h6
   clear h6 HADD
   go_wp2
   go_roundg fu
   case measure => omega
   case rel => exact ⟨i + 1, by go_num, by omega, H6⟩
theorem add0_any {b o : Nat} (w : World) (c : w.cell? ⟨b, o, none⟩ = some (.int .u64 0)) (f : w.frozen? ⟨b, o, none⟩ = false) : Calls Tryz.prog 61 #[.pointer (some ⟨b, o, none⟩), .int .i64 0] w fun e w' => (∃ v, e = .returned v) ∧ ∃ m, w' = ((w.drewN m).setCell ⟨b, o, none⟩ (.int .u64 1)) := by
 have e0 : wd (Nat.testBit 0) 0 = 0 := wd_zero 0
 have e1 : wd (Nat.testBit 1) 0 = 1 := by decide +kernel
 have h := add_any (b := b) (o := o) (n := 0) (k := 0) (by omega) w (by rw [show 0 / 64 = 0 from rfl, e0, Nat.add_zero]; exact c) (by rw [show 0 / 64 = 0 from rfl, Nat.add_zero]; exact f)
 rw [show 0 / 64 = 0 from rfl, Nat.add_zero, show (0 ||| 1 <<< 0) = 1 from rfl, e1] at h
 exact h
def byB : Nat → List Value
 | 0 => []
 | n + 1 => [.bool false, .int .u64 1, .int .u64 0, .int .u64 0, .int .u64 0, .int .u64 1, .int .u64 0, .int .u64 0, .int .u64 0] ++ byB n
def byC (i : Nat) : List Value := [.int .i64 0, .bool false, .slice none 0 0, .bool false, .bool false] ++ (byB i ++ zr (4 - i))
end Go.Proofs.YtbekghinikjjeaaGreatDoor.smt
