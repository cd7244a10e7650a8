/- tally: a repeat's iterations are laid; what is gathered is good (pure). tally: addRepeat walked. tally: a tree is laid. -/
import Derived.Test.YtolpakpdkheanaaKLl
import Derived.Test.YtolpakpdkheanaaKPv
import Derived.Test.YtolpakpdkheanaaKQf
import Derived.Test.YtolpakpdkheanaaKMe
set_option maxRecDepth 100000
set_option maxHeartbeats 4000000
namespace Go.Proofs.Ytolpakpdkheanaa.tly
open Go.RowKit Go.Proofs.Ytolpakpdkheanaa.br
structure GdG (a : Ga) (m : Nat) : Prop where
 ok : ∀ l ∈ a.links, OkP l.1 ∧ l.2.1 + l.1.size ≤ a.size
 ln : a.links.length = m
theorem GdG.zero : GdG ⟨[], 0⟩ 0 := ⟨(fun _ h => nomatch h), rfl⟩
theorem GdG.add {a : Ga} {m : Nat} (h : GdG a m) {kid : Tp} (hk : OkP kid) (free : Bool) : GdG (a.add kid free) (m + 1) :=
 ⟨fun l hl => (List.mem_append.1 (show l ∈ a.links ++ [(kid, a.size, free, [])] from hl)).elim (fun h1 => ⟨(h.ok l h1).1, Nat.le_trans (h.ok l h1).2 (Nat.le_add_right _ _)⟩) (fun h1 => by rw [List.mem_singleton.1 h1]; exact ⟨hk, Nat.le_refl _⟩), by simp [Ga.add, h.ln]⟩
theorem GdG.join {a : Ga} {m : Nat} (h : GdG a m) (hn : a.size ≤ 256) (hm : m ≤ 1000000) (k g : Nat) (ag : Bool) : OkP (joinT k g ag a) := by
 have hke : ∀ x ∈ a.links, EsOk x.1.size x.1.eds ∧ x.2.1 + x.1.size ≤ a.size := fun x hx => ⟨(h.ok x hx).1.ed, (h.ok x hx).2⟩
 have he := end_ok (ag := ag) hke
 refine .mk _ hn (join_ok he _ hke) (by show (joinF (endE ag a.links) a.links).1.length ≤ _; rw [join_len, h.ln]; exact hm) (fun l hl => ?_) (fun l hl => ?_)
 · obtain ⟨i, hi, e⟩ := List.mem_iff_getElem.1 (show l ∈ (joinF (endE ag a.links) a.links).1 from hl)
   obtain ⟨l0, h0, e1, e2, _, e4⟩ := join_at _ _ i l (by rw [← e]; exact List.getElem?_eq_getElem hi)
   have h1 := hke l0 (List.mem_of_getElem? h0)
   refine ⟨by rw [e1, e2]; exact h1.2, ?_⟩
   rw [e4]
   exact ((join_ok he (a.links.drop (i + 1)) fun x hx => hke x (List.mem_of_mem_drop hx)).at 0).1
 · obtain ⟨i, hi, e⟩ := List.mem_iff_getElem.1 (show l ∈ (joinF (endE ag a.links) a.links).1 from hl)
   obtain ⟨l0, h0, e1, _⟩ := join_at _ _ i l (by rw [← e]; exact List.getElem?_eq_getElem hi)
   rw [e1]
   exact (h.ok l0 (List.mem_of_getElem? h0)).1
abbrev ga0 : Ga := ⟨[], 0⟩
theorem addN_succ (kid : Tp) (lo : Int) : ∀ (n c : Nat) (a : Ga), addN kid lo (n + 1) c a = (addN kid lo n c a).add kid (decide (((c + n : Nat) : Int) >= lo))
 | 0, c, a => rfl
 | n + 1, c, a => by
  rw [addN, addN_succ kid lo n (c + 1) _, show c + 1 + n = c + (n + 1) by omega]; rfl
theorem addN_good {kid : Tp} (hk : OkP kid) (lo : Int) : ∀ n : Nat, GdG (addN kid lo n 0 ga0) n ∧ (addN kid lo n 0 ga0).size = n * kid.size
 | 0 => ⟨GdG.zero, (Nat.zero_mul _).symm⟩
 | n + 1 => by
  obtain ⟨h1, h2⟩ := addN_good hk lo n
  rw [addN_succ]
  refine ⟨h1.add hk _, ?_⟩
  show (addN kid lo n 0 ga0).size + kid.size = _
  rw [h2, Nat.succ_mul]
def repG (x : Tr) (lo hi : Int) : Ga := bif decide (hi = 0) then ga0 else bif Nat.beq (layT x).size 0 then (bif decide (lo > 0) then ga0.add (layT x) false else ga0) else addN (layT x) lo (wrN lo hi) 0 ga0
def agR (x : Tr) (hi : Int) : Bool := bif decide (hi = 0) then false else bif Nat.beq (layT x).size 0 then false else decide (hi < 0)
theorem lay_rep_eq (q : Nat → Bool) (lo hi : Int) (gp : Nat) (x : Tr) : layT (.mk 5 q lo hi gp [x]) = joinT 5 gp (agR x hi) (repG x lo hi) := by
 rw [layT, repG, agR]
 dsimp only [layL]
 cases decide (hi = 0) <;> cases Nat.beq (layT x).size 0 <;> rfl
theorem wr_le {lo hi : Int} (l1 : lo ≤ 255) (l2 : hi ≤ 255) : wrN lo hi ≤ 255 := by
 unfold wrN
 cases decide (hi < 0) <;> simp only [cond_true, cond_false] <;> omega
theorem repG_good {x : Tr} (hx : OkP (layT x)) (lo hi : Int) (l1 : lo ≤ 255) (l2 : hi ≤ 255) (hL : (layT x).size * wrN lo hi ≤ 256) : ∃ m, GdG (repG x lo hi) m ∧ (repG x lo hi).size ≤ 256 ∧ m ≤ 255 ∧ (agR x hi = true → (repG x lo hi).links ≠ []) := by
 have hw := wr_le l1 l2
 have hpos : decide (hi < 0) = true → wrN lo hi ≠ 0 := fun h => by unfold wrN; rw [h, cond_true]; omega
 unfold repG agR
 cases decide (hi = 0)
 · rw [cond_false, cond_false]
   cases h0 : Nat.beq (layT x).size 0
   · rw [cond_false, cond_false]
     obtain ⟨h1, h2⟩ := addN_good hx lo (wrN lo hi)
     refine ⟨_, h1, by rw [h2, Nat.mul_comm]; exact hL, hw, fun h e => hpos h ?_⟩
     have := h1.ln
     rw [e] at this
     exact this.symm
   · rw [cond_true, cond_true]
     have hs := Nat.eq_of_beq_eq_true h0
     cases decide (lo > 0)
     · exact ⟨0, GdG.zero, Nat.zero_le _, by omega, fun h => nomatch h⟩
     · exact ⟨1, GdG.zero.add hx false, by show 0 + (layT x).size ≤ 256; omega, by omega, fun h => nomatch h⟩
 · rw [cond_true, cond_true]
   exact ⟨0, GdG.zero, Nat.zero_le _, by omega, fun h => nomatch h⟩
def LayIH (x : Tr) : Prop := ∀ (W : World) (ok : Nat → Prop) (va : Option Addr) (n vc : Nat), br.Kids W ok (.slice va n vc) x.kids → (∀ g, ok g → g < W.heap.size) → Calls Try.prog 23 #[nodeA x (.slice va n vc)] W fun e W' => ∃ b, e = .returned (.pointer (some ⟨b, 0, none⟩)) ∧ PtAt W' (fun k => W.heap.size ≤ k ∧ k < W'.heap.size) b (layT x) ∧ Below W.heap.size W W'
theorem GaV.grow {W : World} {B b : Nat} {S S' : Nat → Prop} {kd gr : Nat} {ag : Bool} {links : List Lk} {n : Nat} {vl : Value} {cs : List Nat} (h : GaV W B b S kd gr ag links n vl cs) (hS : ∀ k, S k → S' k) (hn : ∀ k, S' k → B ≤ k ∧ k < W.heap.size ∧ k ≠ b ∧ vl.ownBlock ≠ some k) : GaV W B b S' kd gr ag links n vl cs :=
 ⟨h.hb, h.blk, h.hl, h.ol, hn, fun i l c hi hc => (h.kids i l c hi hc).keep (fun _ _ => rfl) hS⟩
end Go.Proofs.Ytolpakpdkheanaa.tly
namespace Go.Proofs.Ytolpakpdkheanaa.tly
open Go.RowKit Go.Proofs.Ytolpakpdkheanaa.br
theorem GaV.size8 {W : World} {B b : Nat} {S : Nat → Prop} {kd gr : Nat} {ag : Bool} {links : List Lk} {n : Nat} {vl : Value} {cs : List Nat} (h : GaV W B b S kd gr ag links n vl cs) : B ≤ W.heap.size := Nat.le_trans h.hb (Nat.le_of_lt h.lt)
theorem addRepeat_any {W : World} {B b : Nat} {ok : Nat → Prop} {x : Tr} (k gp : Nat) (q : Nat → Bool) (lo hi : Int) (va : Option Addr) (vc : Nat) {kd gr : Nat} (h : GaV W B b (fun _ => False) kd gr false [] 0 (.slice none 0 0) []) (hk : br.Kids W ok (.slice va 1 vc) [x]) (hok : ∀ g, ok g → g < B) (ih : LayIH x) (hx : OkP (layT x)) (l0 : 0 ≤ lo) (l1 : lo ≤ 255) (l2 : hi ≤ 255) (hL : (layT x).size * wrN lo hi ≤ 256) :
 Calls Try.prog 43 #[.pointer (some ⟨b, 0, none⟩), .agg #[.int .i64 (k : Nat), .int .u64 (wd q 0 : Nat), .int .u64 (wd q 1 : Nat), .int .u64 (wd q 2 : Nat), .int .u64 (wd q 3 : Nat), .int .i64 lo, .int .i64 hi, .int .i64 (gp : Nat), .slice va 1 vc]] W fun e W' => (∃ v, e = .returned v) ∧ ∃ S' vl cs, GaV W' B b S' kd gr (agR x hi) (repG x lo hi).links (repG x lo hi).size vl cs ∧ Below B W W' := by
 obtain ⟨wn, hwr⟩ : ∃ wn, wrN lo hi = wn := ⟨_, rfl⟩
 have hw255 : wn ≤ 255 := by rw [← hwr]; exact wr_le l1 l2
 have hBW : B ≤ W.heap.size := h.size8
 have hbX := (Below.refl W.heap.size W).alloc (Nat.le_refl _) (.cells #[.int .i64 (k : Nat), .int .u64 (wd q 0 : Nat), .int .u64 (wd q 1 : Nat), .int .u64 (wd q 2 : Nat), .int .u64 (wd q 3 : Nat), .int .i64 lo, .int .i64 hi, .int .i64 (gp : Nat), .slice va 1 vc] 41)
 have hnd : (W.alloc (.cells #[.int .i64 (k : Nat), .int .u64 (wd q 0 : Nat), .int .u64 (wd q 1 : Nat), .int .u64 (wd q 2 : Nat), .int .u64 (wd q 3 : Nat), .int .i64 lo, .int .i64 hi, .int .i64 (gp : Nat), .slice va 1 vc] 41)).heap[W.heap.size]? = some (.cells #[.int .i64 (k : Nat), .int .u64 (wd q 0 : Nat), .int .u64 (wd q 1 : Nat), .int .u64 (wd q 2 : Nat), .int .u64 (wd q 3 : Nat), .int .i64 lo, .int .i64 hi, .int .i64 (gp : Nat), .slice va 1 vc] 41) := World.alloc_heap_new W _
 have HX := hideT (And.intro (h.keep hbX) (And.intro (xc1 hk hbX) (And.intro hbX hnd)))
 have HW := hideT (And.intro hwr hL)
 have hblt := h.lt
 clear h hk hbX hnd hwr hL
 go_enter Try.func43, Try.ntmps43
 go_upto_region 1 with fail
 generalize W.alloc (.cells #[.int .i64 (k : Nat), .int .u64 (wd q 0 : Nat), .int .u64 (wd q 1 : Nat), .int .u64 (wd q 2 : Nat), .int .u64 (wd q 3 : Nat), .int .i64 lo, .int .i64 hi, .int .i64 (gp : Nat), .slice va 1 vc] 41) = X at *
 have n2 : X.cell? ⟨W.heap.size, 5, none⟩ = some (.int .i64 lo) := by simp [World.cell?, HX.out.2.2.2]
 have n3 : X.cell? ⟨W.heap.size, 6, none⟩ = some (.int .i64 hi) := by simp [World.cell?, HX.out.2.2.2]
 have n5 : X.cell? ⟨W.heap.size, 8, none⟩ = some (.slice va 1 vc) := by simp [World.cell?, HX.out.2.2.2]
 by_cases h0 : hi = 0
 · have HR := hideT (show repG x lo hi = ga0 ∧ agR x hi = false by unfold repG agR; rw [decide_eq_true h0]; exact ⟨rfl, rfl⟩)
   subst h0
   go_wp2
   refine bodyPost_ret (results_none rfl _ _ _) rfl ?_
   exact ⟨⟨_, rfl⟩, fun _ => False, _, _, by rw [HR.out.1, HR.out.2]; exact HX.out.1, HX.out.2.2.1.mono hBW⟩
 have i0 : (hi == 0) = false := by rw [beq_eq_false_iff_ne]; exact h0
 obtain ⟨g, c0, u, he, -, -, hcell, hku⟩ := kids_at HX.out.2.1 (i := 0) (t := x) rfl
 obtain rfl : va = some ⟨g, 0, none⟩ := by injection he
 obtain ⟨ua, uc, rfl⟩ : ∃ ua uc, u = .slice ua x.kids.length uc := by cases hku with | mk _ _ vs hl own hok2 hk2 => exact owns_shape own
 have y0 := (hcell 0 _ rfl).1
 have y1 := (hcell 1 _ rfl).1
 have y2 := (hcell 2 _ rfl).1
 have y3 := (hcell 3 _ rfl).1
 have y4 := (hcell 4 _ rfl).1
 have y5 := (hcell 5 _ rfl).1
 have y6 := (hcell 6 _ rfl).1
 have y7 := (hcell 7 _ rfl).1
 have y8 := (hcell 8 _ rfl).1
 rw [Nat.add_zero] at y0
 have hBc : B ≤ X.heap.size := Nat.le_trans hBW HX.out.2.2.1.size
 have hlay := ih X ok ua x.kids.length uc hku (fun g hg => Nat.lt_of_lt_of_le (hok g hg) hBc)
 have HN := hideT (And.intro n2 (And.intro n3 (And.intro hBc (And.intro hBW hblt))))
 have HI0 := hideT h0
 clear hku hcell he n2 hBc hBW hblt h0
 go_wp2_with fail
 refine hlay.mono ?_
 rintro e w5 ⟨c, rfl, hpt, hb5⟩
 have n2 : w5.cell? ⟨W.heap.size, 5, none⟩ = some (.int .i64 lo) := keep_cell hb5 HN.out.1
 clear n3
 have n3 : w5.cell? ⟨W.heap.size, 6, none⟩ = some (.int .i64 hi) := keep_cell hb5 HN.out.2.1
 obtain ⟨S', hS'⟩ : ∃ S' : Nat → Prop, S' = (fun k => k = W.heap.size ∨ (X.heap.size ≤ k ∧ k < w5.heap.size)) := ⟨_, rfl⟩
 have hWX : W.heap.size < X.heap.size := (Array.getElem?_eq_some_iff.1 HX.out.2.2.2).1
 have hSn : S' W.heap.size := by rw [hS']; exact .inl rfl
 have hpt' : PtAt w5 S' c (layT x) := hpt.keep (fun _ _ => rfl) (fun k hk => by rw [hS']; exact .inr hk)
 have hA5 : GaV w5 B b S' kd gr false [] 0 (.slice none 0 0) [] := (HX.out.1.keep hb5).grow (fun _ h => h.elim) (fun k hk => by
  rw [hS'] at hk
  have hsz := hb5.size
  have := HN.out.2.2.2
  have := HN.out.2.2.1
  refine ⟨by rcases hk with rfl | hk <;> omega, by rcases hk with rfl | hk <;> omega, by rcases hk with rfl | hk <;> omega, (fun h => nomatch h)⟩)
 have hBX5 : Below B W w5 := (HX.out.2.2.1.mono HN.out.2.2.2.1).trans (hb5.mono HN.out.2.2.1)
 have c8 := hpt'.size8
 have HF := hideT (And.intro hpt' (And.intro hA5 (And.intro n2 (And.intro hBX5 hSn))))
 obtain ⟨_, hc3, _, hcf⟩ := hA5.cells
 have f3 := hcf 3
 clear y0 y1 y2 y3 y4 y5 y6 y7 y8 n5 hlay hpt hpt' hA5 hBX5 hb5 hS' hSn hWX hcf
 obtain ⟨bz, hbz⟩ : ∃ bz, Nat.beq (layT x).size 0 = bz := ⟨_, rfl⟩
 cases bz with
 | true =>
  have hs0 := Nat.eq_of_beq_eq_true hbz
  have HR := hideT (show agR x hi = false ∧ repG x lo hi = (bif decide (lo > 0) then ga0.add (layT x) false else ga0) by
   unfold agR repG; rw [hbz, decide_eq_false HI0.out]; exact ⟨rfl, rfl⟩)
  rw [hs0] at c8
  have HZ := hideT hs0
  clear hs0 hbz
  by_cases hl : lo > 0
  · have hl2 : (0 : Int) < lo := hl
    have HL := hideT (decide_eq_true hl)
    have hadd := add_any (free := false) HF.out.2.1 HF.out.1 (by simp) (by rw [HZ.out]; omega)
    go_wp2_with fail
    refine hadd.mono ?_
    rintro e W' ⟨⟨v, rfl⟩, vl', k1, k2⟩
    have HK := hideT (And.intro k1 k2)
    clear k1 k2 hadd
    go_wp2_with fail
    refine bodyPost_ret (results_none rfl _ _ _) rfl ?_
    exact ⟨⟨_, rfl⟩, S', vl', _, by rw [HR.out.1, HR.out.2, HL.out]; exact HK.out.1, HF.out.2.2.2.1.trans HK.out.2.below⟩
  · have hl2 : ((0 : Int) < lo) = False := by rw [eq_iff_iff, iff_false]; omega
    have HL := hideT (decide_eq_false hl)
    go_wp2_with fail
    refine bodyPost_ret (results_none rfl _ _ _) rfl ?_
    exact ⟨⟨_, rfl⟩, S', _, _, by rw [HR.out.1, HR.out.2, HL.out]; exact HF.out.2.1, HF.out.2.2.2.1⟩
 | false =>
  have hsz : ((layT x).size : Int) ≠ 0 := fun e => by
   have : (layT x).size = 0 := by omega
   rw [this] at hbz; cases hbz
  have i5 : (((layT x).size : Int) == 0) = false := by rw [beq_eq_false_iff_ne]; exact hsz
  have HR := hideT (show agR x hi = decide (hi < 0) ∧ repG x lo hi = addN (layT x) lo wn 0 ga0 by
   unfold agR repG; rw [hbz, decide_eq_false HI0.out, HW.out.1]; exact ⟨rfl, rfl⟩)
  clear hsz hbz
  go_upto_if 30 with fail
  rename_i K1 hK1
  go_cut [5] from 15 to 36 (fun s5 wx => s5 = .int .i64 (wn : Nat) ∧ Hid (GaV wx B b S' kd gr (decide (hi < 0)) [] 0 (.slice none 0 0) [] ∧ AcF B S' w5 wx))
  case first =>
   by_cases hh : hi < 0
   · have i1 : (max lo 1 : Int) = (wn : Int) := by rw [← HW.out.1, wrN, decide_eq_true hh, cond_true]; omega
     have HAG := hideT (HF.out.2.1.ags true)
     have HD := hideT (show decide (hi < 0) = true from decide_eq_true hh)
     go_wp2_with fail
     go_meet
     exact ⟨rfl, hideT ⟨by rw [HD.out]; exact HAG.out.1, HAG.out.2⟩⟩
   · have i1 : hi = (wn : Int) := by rw [← HW.out.1, wrN, decide_eq_false hh, cond_false]; have := HI0.out; omega
     have HD := hideT (show decide (hi < 0) = false from decide_eq_false hh)
     have HI1 := hideT i1
     clear i1
     go_wp2_with fail
     go_meet
     exact ⟨by rw [HI1.out], hideT ⟨by rw [HD.out]; exact HF.out.2.1, AcF.refl _ _ _⟩⟩
  case rest =>
  obtain ⟨rfl, HC⟩ := hcut
  refine hK1 _ _ ?_
  clear n2 n3 c8 hc3 f3 hK1 i5
  have hmL : wn * (layT x).size ≤ 256 := by rw [Nat.mul_comm, ← HW.out.1]; exact HW.out.2
  go_wp2_with fail
  go_loopg [6, 38] wn (fun fu v6 v38 wr => ∃ i : Nat, v38 = .int .i64 (i : Nat) ∧ i + fu = wn ∧ Hid (∃ vl cs, GaV wr B b S' kd gr (decide (hi < 0)) (addN (layT x) lo i 0 ga0).links (addN (layT x) lo i 0 ga0).size vl cs ∧ AcF B S' w5 wr))
  case atStart => exact ⟨0, rfl, by omega, hideT ⟨_, _, HC.out.1, HC.out.2⟩⟩
  case round =>
   obtain ⟨i, rfl, him, HI⟩ := hrel
   cases gk with
   | zero =>
    obtain rfl : i = wn := by omega
    go_wp2
    go_end0
    obtain ⟨vl, cs, h1, h2⟩ := HI.out
    exact ⟨⟨_, rfl⟩, S', vl, cs, by rw [HR.out.1, HR.out.2]; exact h1, HF.out.2.2.2.1.trans h2.below⟩
   | succ fu =>
    have hln := addN_good hx lo i
    have hile : (i + 1) * (layT x).size ≤ 256 := Nat.le_trans (Nat.mul_le_mul_right _ (by omega)) hmL
    have n2 : wr.cell? ⟨W.heap.size, 5, none⟩ = some (.int .i64 lo) := by
     obtain ⟨vl, cs, h1, h2⟩ := HI.out
     exact (World.cell?_of_block (a := ⟨W.heap.size, 5, none⟩) (h2.s _ HF.out.2.2.2.2)).trans HF.out.2.2.1
    have i1 : (i : Int) < (wn : Int) := by omega
    have HADD : Hid (Calls Try.prog 45 #[.pointer (some ⟨b, 0, none⟩), .pointer (some ⟨c, 0, none⟩), .bool (decide (lo ≤ (i : Int)))] wr fun e W' => (∃ v, e = .returned v) ∧ ∃ vl cs, GaV W' B b S' kd gr (decide (hi < 0)) (addN (layT x) lo (i + 1) 0 ga0).links (addN (layT x) lo (i + 1) 0 ga0).size vl cs ∧ AcF B S' w5 W') := by
     obtain ⟨vl, cs, h1, h2⟩ := HI.out
     refine (add_any (free := decide (lo ≤ (i : Int))) h1 (HF.out.1.keep h2.s (fun _ h => h)) (by rw [hln.1.ln]; omega) (by rw [hln.2, ← Nat.succ_mul]; have : i.succ = i + 1 := rfl; rw [this]; omega)).mono ?_
     rintro e W' ⟨hv, vl', k1, k2⟩
     refine ⟨hv, vl', cs ++ [c], ?_, h2.trans k2⟩
     rw [addN_succ, Nat.zero_add]
     exact k1
    clear hln hile HI
    go_wp2_with fail
    refine HADD.out.mono ?_
    rintro e W6 ⟨⟨v, rfl⟩, h6⟩
    have H6 := hideT h6
    clear h6 HADD n2
    go_wp2
    go_roundg fu
    case measure => omega
    case rel => exact ⟨i + 1, by go_num, by omega, H6⟩
end Go.Proofs.Ytolpakpdkheanaa.tly
namespace Go.Proofs.Ytolpakpdkheanaa.tly
open Go.RowKit Go.Proofs.Ytolpakpdkheanaa.br
abbrev pz (k gp : Nat) : Array Value := #[.int .i64 (k : Nat), .int .i64 (gp : Nat), .slice none 0 0, .bool false, .int .u64 0, .int .u64 0, .int .u64 0, .int .u64 0, .int .i64 0, .bool false, .slice none 0 0, .slice none 0 0, .bool false, .slice none 0 0, .slice none 0 0, .bool false, .slice none 0 0, .slice none 0 0, .bool false, .slice none 0 0, .slice none 0 0]
theorem pz_is (k gp : Nat) : (ptV k gp (.slice none 0 0) false xad 0 (esU fun _ => false)).toArray = pz k gp := by
 have h0 : wd xad 0 = 0 := by decide +kernel
 have h1 : wd xad 1 = 0 := by decide +kernel
 have h2 : wd xad 2 = 0 := by decide +kernel
 have h3 : wd xad 3 = 0 := by decide +kernel
 unfold ptV
 rw [h0, h1, h2, h3]
 rfl
structure LyH (W X : World) (k gp : Nat) (nd : Array Value) : Prop where
 ga : GaV X (W.heap.size + 1) (W.heap.size + 1) (fun _ => False) k gp false [] 0 (.slice none 0 0) []
 nd : X.heap[W.heap.size]? = some (.cells nd 41)
 b : Below W.heap.size W X
 sz : X.heap.size = W.heap.size + 2
theorem ly_head (W : World) (k gp : Nat) (nd : Array Value) : LyH W ((W.alloc (.cells nd 41)).alloc (.cells (pz k gp) 87)) k gp nd := by
 have h2 := World.alloc_heap_new W (.cells nd 41)
 have hb := (Below.refl W.heap.size W).alloc (Nat.le_refl _) (.cells nd 41)
 have hs : (W.alloc (.cells nd 41)).heap.size = W.heap.size + 1 := World.size_alloc _ _
 have h1 := World.alloc_heap_new (W.alloc (.cells nd 41)) (.cells (pz k gp) 87)
 rw [hs, ← pz_is] at h1
 rw [← pz_is]
 exact ⟨⟨Nat.le_refl _, h1, rfl, World.ownsRow_nil _ _ _ _, fun _ h => h.elim, fun i l c hi => nomatch hi⟩, (Below.heap_alloc _ _ _ (by omega)).trans h2, hb.alloc (by omega) _, by rw [World.size_alloc, hs]⟩
theorem lay_rep {W : World} {ok : Nat → Prop} {x : Tr} (gp : Nat) (q : Nat → Bool) (lo hi : Int) (va : Option Addr) (vc : Nat) (hk : br.Kids W ok (.slice va 1 vc) [x]) (hok : ∀ g, ok g → g < W.heap.size) (ih : LayIH x) (hx : OkP (layT x)) (l0 : 0 ≤ lo) (l1 : lo ≤ 255) (l2 : hi ≤ 255) (hL : (layT x).size * wrN lo hi ≤ 256) :
 Calls Try.prog 23 #[.agg #[.int .i64 (5 : Nat), .int .u64 (wd q 0 : Nat), .int .u64 (wd q 1 : Nat), .int .u64 (wd q 2 : Nat), .int .u64 (wd q 3 : Nat), .int .i64 lo, .int .i64 hi, .int .i64 (gp : Nat), .slice va 1 vc]] W fun e W' => ∃ b, e = .returned (.pointer (some ⟨b, 0, none⟩)) ∧ PtAt W' (fun k => W.heap.size ≤ k ∧ k < W'.heap.size) b (layT (.mk 5 q lo hi gp [x])) ∧ Below W.heap.size W W' := by
 have HK := hideT hk
 clear hk
 have hH := ly_head W 5 gp #[.int .i64 (5 : Nat), .int .u64 (wd q 0 : Nat), .int .u64 (wd q 1 : Nat), .int .u64 (wd q 2 : Nat), .int .u64 (wd q 3 : Nat), .int .i64 lo, .int .i64 hi, .int .i64 (gp : Nat), .slice va 1 vc]
 go_enter Try.func23, Try.ntmps23
 go_upto_region 2 with fail
 have HH := hideT hH
 clear hH
 show Code.wp _ _ _ _ ((W.alloc (.cells #[.int .i64 (5 : Nat), .int .u64 (wd q 0 : Nat), .int .u64 (wd q 1 : Nat), .int .u64 (wd q 2 : Nat), .int .u64 (wd q 3 : Nat), .int .i64 lo, .int .i64 hi, .int .i64 (gp : Nat), .slice va 1 vc] 41)).alloc (.cells (pz 5 gp) 87))
 generalize ((W.alloc (.cells #[.int .i64 (5 : Nat), .int .u64 (wd q 0 : Nat), .int .u64 (wd q 1 : Nat), .int .u64 (wd q 2 : Nat), .int .u64 (wd q 3 : Nat), .int .i64 lo, .int .i64 hi, .int .i64 (gp : Nat), .slice va 1 vc] 41)).alloc (.cells (pz 5 gp) 87)) = X at *
 have n0 : X.cell? ⟨W.heap.size, 0, none⟩ = some (.int .i64 (5 : Nat)) := by simp [World.cell?, HH.out.nd]
 have HS := hideT (addRepeat_any (W := X) 5 gp q lo hi va vc HH.out.ga (xc1 HK.out HH.out.b) (fun g hg => by have := hok g hg; omega) ih hx l0 l1 l2 hL)
 have n1 : X.cell? ⟨W.heap.size, 1, none⟩ = some (.int .u64 (wd q 0 : Nat)) := by simp [World.cell?, HH.out.nd]
 have n2 : X.cell? ⟨W.heap.size, 2, none⟩ = some (.int .u64 (wd q 1 : Nat)) := by simp [World.cell?, HH.out.nd]
 have n3 : X.cell? ⟨W.heap.size, 3, none⟩ = some (.int .u64 (wd q 2 : Nat)) := by simp [World.cell?, HH.out.nd]
 have n4 : X.cell? ⟨W.heap.size, 4, none⟩ = some (.int .u64 (wd q 3 : Nat)) := by simp [World.cell?, HH.out.nd]
 have n5 : X.cell? ⟨W.heap.size, 5, none⟩ = some (.int .i64 lo) := by simp [World.cell?, HH.out.nd]
 have n6 : X.cell? ⟨W.heap.size, 6, none⟩ = some (.int .i64 hi) := by simp [World.cell?, HH.out.nd]
 have n7 : X.cell? ⟨W.heap.size, 7, none⟩ = some (.int .i64 (gp : Nat)) := by simp [World.cell?, HH.out.nd]
 have n8 : X.cell? ⟨W.heap.size, 8, none⟩ = some (.slice va 1 vc) := by simp [World.cell?, HH.out.nd]
 go_wp2_with fail
 refine HS.out.mono ?_
 rintro e W1 ⟨⟨v, rfl⟩, S', vl, cs, hA, hB⟩
 obtain ⟨m, g1, g2, g3, g4⟩ := repG_good hx lo hi l1 l2 hL
 have hct := join_any hA g1.ok g2 (by rw [g1.ln]; omega) g4
 have HF := hideT (And.intro hA hB)
 clear hA hB g1 g2 g3 g4 n0 n1 n2 n3 n4 n5 n6 n7 n8 HS
 go_wp2_with fail
 refine hct.mono ?_
 rintro e W2 ⟨⟨v, rfl⟩, hP, hF2⟩
 have HP := hideT (And.intro hP hF2)
 clear hP hF2 hct
 go_wp2
 go_ret
 refine ⟨_, rfl, ?_, HH.out.b.trans ((HF.out.2.mono (Nat.le_succ _)).trans (HP.out.2.below.mono (Nat.le_succ _)))⟩
 rw [lay_rep_eq]
 exact HP.out.1.keep (fun _ _ => rfl) (fun k hk => ⟨by have := hk.1; omega, hk.2⟩)
end Go.Proofs.Ytolpakpdkheanaa.tly
