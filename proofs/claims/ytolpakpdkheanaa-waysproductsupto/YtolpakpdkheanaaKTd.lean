/- tally: one more part behind those that are there. tally: add walked. tally: join's state. -/
import Derived.Test.YtolpakpdkheanaaKTc
set_option maxRecDepth 100000
set_option maxHeartbeats 4000000
namespace Go.Proofs.Ytolpakpdkheanaa.tly
open Go.RowKit Go.Proofs.Ytolpakpdkheanaa.br
theorem own_ne {W : World} {B1 B2 s1 s2 n1 n2 : Nat} {e1 e2 : TypeId} {v1 v2 : Value} {x1 x2 : List Value} (h1 : W.ownsRow B1 e1 s1 v1 n1 x1) (h2 : W.ownsRow B2 e2 s2 v2 n2 x2) (he : e1 ≠ e2) {g : Nat} (hg : v1.ownBlock = some g) : v2.ownBlock ≠ some g := fun h => by
 obtain ⟨_, _, c1, k1⟩ := row_blk h1 hg
 obtain ⟨_, _, c2, k2⟩ := row_blk h2 h
 rw [k1] at k2; cases k2; exact he rfl
theorem own_nb {W : World} {B1 s1 n1 b : Nat} {e1 t : TypeId} {v1 : Value} {x1 : List Value} {cs : Array Value} {fr : Nat × Nat} (h1 : W.ownsRow B1 e1 s1 v1 n1 x1) (hb : W.heap[b]? = some (.cells cs t fr)) (he : e1 ≠ t) : v1.ownBlock ≠ some b := fun h => by
 obtain ⟨_, _, c1, k1⟩ := row_blk h1 h
 rw [k1] at hb; cases hb; exact he rfl
structure AcF (B : Nat) (S : Nat → Prop) (W W' : World) : Prop where
 os : W'.os = W.os
 tape : W'.tape = W.tape
 output : W'.output = W.output
 size : W.heap.size ≤ W'.heap.size
 low : ∀ k, k < B → W'.heap[k]? = W.heap[k]?
 s : ∀ k, S k → W'.heap[k]? = W.heap[k]?
theorem AcF.refl (B : Nat) (S : Nat → Prop) (W : World) : AcF B S W W := ⟨rfl, rfl, rfl, Nat.le_refl _, fun _ _ => rfl, fun _ _ => rfl⟩
theorem AcF.trans {B : Nat} {S : Nat → Prop} {X Y Z : World} (h : AcF B S X Y) (k : AcF B S Y Z) : AcF B S X Z := ⟨k.os.trans h.os, k.tape.trans h.tape, k.output.trans h.output, Nat.le_trans h.size k.size, fun i hi => (k.low i hi).trans (h.low i hi), fun i hi => (k.s i hi).trans (h.s i hi)⟩
theorem AcF.below {B : Nat} {S : Nat → Prop} {X Y : World} (h : AcF B S X Y) : Below B X Y := { os := h.os, tape := h.tape, output := h.output, size := h.size, block := h.low }
theorem AcF.of {B : Nat} {S : Nat → Prop} {X Y : World} (h : Below X.heap.size X Y) (hB : B ≤ X.heap.size) (hS : ∀ k, S k → k < X.heap.size) : AcF B S X Y := ⟨h.os, h.tape, h.output, h.size, fun k hk => h.block k (by omega), fun k hk => h.block k (hS k hk)⟩
theorem AcF.unset {B b k : Nat} {S : Nat → Prop} {u : Value} {X Y : World} (h : AcF B S X (Y.setCell ⟨b, k, none⟩ u)) (hb : B ≤ b) (hS : ¬ S b) : AcF B S X Y :=
 ⟨h.os, h.tape, h.output, by simpa using h.size, fun j hj => (Below.heap_setCell Y ⟨b, k, none⟩ u j (by show j ≠ b; omega)).symm.trans (h.low j hj), fun j hj => (Below.heap_setCell Y ⟨b, k, none⟩ u j (fun e => hS (by have e : j = b := e; rw [← e]; exact hj))).symm.trans (h.s j hj)⟩
abbrev nils (n : Nat) : List Value := List.replicate n (.slice none 0 0)
structure GaV (W : World) (B b : Nat) (S : Nat → Prop) (kd gr : Nat) (ag : Bool) (links : List Lk) (n : Nat) (vl : Value) (cs : List Nat) : Prop where
 hb : B ≤ b
 blk : W.heap[b]? = some (.cells (ptV kd gr vl ag xad n (esU fun _ => false)).toArray 87 (0, 0))
 hl : cs.length = links.length
 ol : W.ownsRow B 125 4 vl links.length (lkV links cs (nils links.length))
 nS : ∀ k, S k → B ≤ k ∧ k < W.heap.size ∧ k ≠ b ∧ vl.ownBlock ≠ some k
 kids : ∀ (i : Nat) (l : Lk) (c : Nat), links[i]? = some l → cs[i]? = some c → PtAt W S c l.1
variable {W W1 : World} {B b : Nat} {S : Nat → Prop} {kd gr : Nat} {ag : Bool} {links : List Lk} {n : Nat} {vl : Value} {cs : List Nat}
theorem GaV.lt (h : GaV W B b S kd gr ag links n vl cs) : b < W.heap.size := (Array.getElem?_eq_some_iff.1 h.blk).1
theorem GaV.keep {W' : World} (h : GaV W B b S kd gr ag links n vl cs) (hb : Below W.heap.size W W') : GaV W' B b S kd gr ag links n vl cs :=
 ⟨h.hb, (hb.block b h.lt).trans h.blk, h.hl, row_keep h.ol fun k hk => hb.block k (row_blk h.ol hk).2.1, fun k hk => ⟨(h.nS k hk).1, Nat.lt_of_lt_of_le (h.nS k hk).2.1 hb.size, (h.nS k hk).2.2⟩, fun i l c hi hc => (h.kids i l c hi hc).keep (fun k hk => hb.block k (h.nS k hk).2.1) (fun _ h => h)⟩
theorem GaV.cells (h : GaV W B b S kd gr ag links n vl cs) : W.cell? ⟨b, 2, none⟩ = some vl ∧ W.cell? ⟨b, 3, none⟩ = some (.bool ag) ∧ W.cell? ⟨b, 8, none⟩ = some (.int .i64 (n : Nat)) ∧ ∀ k, W.frozen? ⟨b, k, none⟩ = false :=
 ⟨(cells_at h.blk (j := 2) rfl).1, (cells_at h.blk (j := 3) rfl).1, (cells_at h.blk (j := 8) rfl).1, fun k => by simp [World.frozen?, h.blk]⟩
theorem GaV.core (h : GaV W B b S kd gr ag links n vl cs) {row : Option Nat} (hgr : W.grownBy W1 row) (hrow : row = none ∨ row = vl.ownBlock) (k : Nat) (u : Value) :
  (∀ j, j < W.heap.size → j ≠ b → row ≠ some j → (W1.setCell ⟨b, k, none⟩ u).heap[j]? = W.heap[j]?) ∧ AcF B S W (W1.setCell ⟨b, k, none⟩ u) ∧ W1.heap[b]? = W.heap[b]? ∧ (∀ (i : Nat) (l : Lk) (c : Nat), links[i]? = some l → cs[i]? = some c → PtAt (W1.setCell ⟨b, k, none⟩ u) S c l.1) := by
 have hb1 : row ≠ some b := by
  rcases hrow with rfl | rfl
  · exact fun h => nomatch h
  · exact own_nb h.ol h.blk (by decide)
 have hfar : ∀ j, j < W.heap.size → j ≠ b → row ≠ some j → (W1.setCell ⟨b, k, none⟩ u).heap[j]? = W.heap[j]? := fun j h1 h2 h3 => (Below.heap_setCell W1 ⟨b, k, none⟩ u j h2).trans (hgr.block j h1 (fun e => h3 e.symm))
 have hlow : ∀ j, row = some j → B ≤ j := fun j hj => by
  rcases hrow with rfl | rfl
  · cases hj
  · exact (row_blk h.ol hj).1
 have hS : ∀ j, S j → row ≠ some j := fun j hj => by
  rcases hrow with rfl | rfl
  · exact fun h => nomatch h
  · exact (h.nS j hj).2.2.2
 have hsS : ∀ j, S j → (W1.setCell ⟨b, k, none⟩ u).heap[j]? = W.heap[j]? := fun j hj => hfar j (h.nS j hj).2.1 (h.nS j hj).2.2.1 (hS j hj)
 refine ⟨hfar, ⟨hgr.os, hgr.tape, hgr.output, by simpa using hgr.size, fun j hj => hfar j (by have := h.hb; have := h.lt; omega) (by have := h.hb; omega) (fun e => by have := hlow j e; omega), hsS⟩, hgr.block b h.lt (fun e => hb1 e.symm), fun i l c hi hc => (h.kids i l c hi hc).keep hsS (fun _ h => h)⟩
theorem GaV.link (h : GaV W B b S kd gr ag links n vl cs) (hgr : W.grownBy W1 vl.ownBlock) {kid : Tp} {base : Nat} {free : Bool} {c : Nat} (hk : PtAt W S c kid) {vl' : Value} (ho : W1.ownsRow B 125 4 vl' (links.length + 1) (lkV links cs (nils links.length) ++ [.pointer (some ⟨c, 0, none⟩), .int .i64 (base : Nat), .bool free, .slice none 0 0])) (hat : vl'.ownBlock = vl.ownBlock ∨ vl'.ownBlock = some W.heap.size) :
  GaV (W1.setCell ⟨b, 2, none⟩ vl') B b S kd gr ag (links ++ [(kid, base, free, [])]) n vl' (cs ++ [c]) ∧ AcF B S W (W1.setCell ⟨b, 2, none⟩ vl') := by
 obtain ⟨hfar, hF, hb1, hkid⟩ := h.core hgr (.inr rfl) 2 vl'
 have hnb : vl'.ownBlock ≠ some b := own_nb ho (hb1.trans h.blk) (by decide)
 refine ⟨⟨h.hb, cells_set (hb1.trans h.blk) 2 vl', by simp [h.hl], ?_, fun k hk => ⟨(h.nS k hk).1, Nat.lt_of_lt_of_le (h.nS k hk).2.1 hF.size, (h.nS k hk).2.2.1, ?_⟩, ?_⟩, hF⟩
 · rw [List.length_append, List.length_singleton, nils, List.replicate_succ', lkV_app _ _ _ _ _ _ h.hl (by simp)]
   exact row_keep ho fun k hk => Below.heap_setCell W1 ⟨b, 2, none⟩ vl' k (fun e => hnb (by rw [hk, e]))
 · rcases hat with e | e
   · rw [e]; exact (h.nS k hk).2.2.2
   · rw [e]; intro e'; have := (h.nS k hk).2.1; simp at e'; omega
 · intro i l' c' hi hc
   rcases Nat.lt_or_ge i links.length with hlt | hge
   · rw [List.getElem?_append_left hlt] at hi
     rw [List.getElem?_append_left (by rw [h.hl]; exact hlt)] at hc
     exact hkid i l' c' hi hc
   · have h2 := (List.getElem?_eq_some_iff.1 hi).1
     rw [List.length_append, List.length_singleton] at h2
     rw [List.getElem?_append_right hge, show i - links.length = 0 by omega] at hi
     rw [List.getElem?_append_right (by rw [h.hl]; exact hge), show i - cs.length = 0 by rw [h.hl]; omega] at hc
     cases hi; cases hc
     exact hk.keep hF.s (fun _ h => h)
theorem GaV.sz (h : GaV W B b S kd gr ag links n vl cs) (m : Nat) : GaV (W.setCell ⟨b, 8, none⟩ (.int .i64 (m : Nat))) B b S kd gr ag links m vl cs ∧ AcF B S W (W.setCell ⟨b, 8, none⟩ (.int .i64 (m : Nat))) := by
 obtain ⟨hfar, hF, hb1, hkid⟩ := h.core (row := none) (W1 := W) ⟨rfl, rfl, rfl, Nat.le_refl _, fun _ _ _ => rfl⟩ (.inl rfl) 8 (.int .i64 (m : Nat))
 exact ⟨⟨h.hb, cells_set h.blk 8 _, h.hl, row_keep h.ol fun k hk => hfar k (row_blk h.ol hk).2.1 (fun e => own_nb h.ol h.blk (by decide) (by rw [← e]; exact hk)) (fun h => nomatch h), fun k hk => ⟨(h.nS k hk).1, Nat.lt_of_lt_of_le (h.nS k hk).2.1 hF.size, (h.nS k hk).2.2⟩, hkid⟩, hF⟩
theorem GaV.ags (h : GaV W B b S kd gr ag links n vl cs) (x : Bool) : GaV (W.setCell ⟨b, 3, none⟩ (.bool x)) B b S kd gr x links n vl cs ∧ AcF B S W (W.setCell ⟨b, 3, none⟩ (.bool x)) := by
 obtain ⟨hfar, hF, hb1, hkid⟩ := h.core (row := none) (W1 := W) ⟨rfl, rfl, rfl, Nat.le_refl _, fun _ _ _ => rfl⟩ (.inl rfl) 3 (.bool x)
 exact ⟨⟨h.hb, cells_set h.blk 3 _, h.hl, row_keep h.ol fun k hk => hfar k (row_blk h.ol hk).2.1 (fun e => own_nb h.ol h.blk (by decide) (by rw [← e]; exact hk)) (fun h => nomatch h), fun k hk => ⟨(h.nS k hk).1, Nat.lt_of_lt_of_le (h.nS k hk).2.1 hF.size, (h.nS k hk).2.2⟩, hkid⟩, hF⟩
theorem info_lk : (Try.prog.info? 125).map (fun i => (i.zero, i.size, i.bytes)) = some (some (.agg #[.pointer none, .int .i64 0, .bool false, .slice none 0 0]), 4, 48) := by kernel_rfl
end Go.Proofs.Ytolpakpdkheanaa.tly
namespace Go.Proofs.Ytolpakpdkheanaa.tly
open Go.RowKit Go.Proofs.Ytolpakpdkheanaa.br
theorem op_app_lk {w : World} {ops : Array Oper} {j : Nat} {o : Oper} {a : Act} {K : Act → World → Prop} {Q : Exit → Act → World → Prop} (d : Tmp) (hi : ops[j]? = some o) (hd : o.dst = some d) (hgd : o.guard = none) (s x : Operand) (t : TypeId) (ho : o.op = .call { callee := .builtin .append, args := #[s, x], argTypes := #[t, t] })
  (base : Nat) (i : TypeInfo) (z : Value) (bytes : Nat) (ht : Try.prog.underlying t = some (.slice 125)) (hif : Try.prog.info? 125 = some i) (hz : i.zero = some z) (hsize : i.size = 4) (hby : i.bytes = bytes) (hzs : z.cells.size = 4)
  (v : Value) (n : Nat) (xs : List Value) (hs : a.eval s = v) (hown : w.ownsRow base 125 4 v n xs) (xv : Value) (ys : List Value) (hx : a.eval x = xv) (hr : w.ownsRow 0 125 4 xv 1 ys) (h1 : ∀ u ∈ ys, u.oneCell' = true)
  (h63 : n + 1 ≤ 2000000) (hb : bytes ≤ 1000000) (hbase : base ≤ w.heap.size)
  (h : ∀ v' w', w'.ownsRow base 125 4 v' (n + 1) (xs ++ ys) → w.grownBy w' v.ownBlock → (v'.ownBlock = v.ownBlock ∨ v'.ownBlock = some w.heap.size) → K (a.put (some d) v') w') : wpOp Try.prog ops Q j K a w :=
 op_of hi (wanted_none hgd _) (wp_app s x t ho base 125 i z 4 bytes ht hif hz hsize hby hzs (by decide) v n xs hs hown xv 1 ys hx hr h1 h63 hb hbase (by rw [hd]; exact h))
theorem lit_lk (W : World) (a b c d : Value) : (W.alloc (.cells #[a, b, c, d] 125)).ownsRow 0 125 4 (.slice (some ⟨W.heap.size, 0, none⟩) 1 1) 1 [a, b, c, d] :=
 ⟨rfl, .inr ⟨W.heap.size, 1, #[a, b, c, d], rfl, Nat.zero_le _, World.alloc_heap_new W _, Nat.le_refl _, by decide, rfl, rfl⟩⟩
theorem GaV.drawn {W : World} {B b : Nat} {S : Nat → Prop} {kd gr : Nat} {ag : Bool} {links : List Lk} {n : Nat} {vl : Value} {cs : List Nat} (h : GaV W B b S kd gr ag links n vl cs) (k : Nat) : GaV (W.drewN k) B b S kd gr ag links n vl cs := h.keep ⟨rfl, rfl, rfl, Nat.le_refl _, fun _ _ => rfl⟩
theorem PtAt.size8 {W : World} {S : Nat → Prop} {c : Nat} {p : Tp} (h : PtAt W S c p) : W.cell? ⟨c, 8, none⟩ = some (.int .i64 (p.size : Nat)) := by
 cases h with
 | mk _ _ vl u cs vs hS blk => exact (cells_at blk (j := 8) rfl).1
theorem PtAt.inS {W : World} {S : Nat → Prop} {c : Nat} {p : Tp} (h : PtAt W S c p) : S c := by
 cases h with
 | mk _ _ vl u cs vs hS blk => exact hS
theorem add_any {w : World} {B b c : Nat} {S : Nat → Prop} {kd gr : Nat} {ag free : Bool} {links : List Lk} {n : Nat} {vl : Value} {cs : List Nat} {kid : Tp} (h : GaV w B b S kd gr ag links n vl cs) (hk : PtAt w S c kid) (hl : links.length ≤ 1000000) (hn : n + kid.size ≤ 100000) :
  Calls Try.prog 45 #[.pointer (some ⟨b, 0, none⟩), .pointer (some ⟨c, 0, none⟩), .bool free] w fun e w' => (∃ v, e = .returned v) ∧ ∃ vl', GaV w' B b S kd gr ag (links ++ [(kid, n, free, [])]) (n + kid.size) vl' (cs ++ [c]) ∧ AcF B S w w' := by
 obtain ⟨i0, hi0, hz0, hz1, hz2⟩ := info_parts info_lk
 obtain ⟨x2, x3, x8, xf⟩ := h.cells
 have HG := hideT h
 have HK := hideT hk
 have HL := hideT (And.intro hl hn)
 have HX := hideT (And.intro x2 x8)
 go_enter Try.func45, Try.ntmps45
 clear h hk hl hn x2 x3 x8 xf
 go_upto_region 0 with fail
 rename_i K0 hK0
 have hS0 : w.cell? ⟨b, 8, none⟩ = some (.int .i64 (n : Nat)) := HX.out.2
 refine wp_region_held (S := fun V : World => V.cell? ⟨b, 8, none⟩ = some (.int .i64 (n : Nat))) (by kernel_rfl) ?_
 show wpAnyH _ _ _ _ _ _ _ _ w.drew
 have HD := hideT (drew_below w.heap.size w)
 have hGd := HG.out.keep HD.out
 have hKd := HK.out.keep (S' := S) (fun k hk => HD.out.block k (HG.out.nS k hk).2.1) (fun _ h => h)
 have hAd : AcF B S w w.drew := AcF.of HD.out (by have := HG.out.hb; have := HG.out.lt; omega) fun k hk => (HG.out.nS k hk).2.1
 have hX2 : w.drew.cell? ⟨b, 2, none⟩ = some vl := HX.out.1
 have hXf : ∀ k, w.drew.frozen? ⟨b, k, none⟩ = false := fun k => hGd.cells.2.2.2 k
 have hS0 : w.drew.cell? ⟨b, 8, none⟩ = some (.int .i64 (n : Nat)) := HX.out.2
 clear HG HK HD HX
 have HG := hideT hGd
 have HK := hideT hKd
 have HA := hideT hAd
 have HX := hideT (And.intro hX2 hXf)
 clear hGd hKd hAd hX2 hXf
 generalize w.drew = U at *
 refine tq 0 6 hS0 ?_
 refine tq 1 7 hS0 ?_
 refine tq 2 8 hS0 ?_
 refine tq 3 9 hS0 ?_
 refine tq 5 11 hS0 ?_
 refine tq 6 12 hS0 ?_
 refine tq 7 13 hS0 ?_
 refine tq 8 14 hS0 ?_
 refine tq 9 15 hS0 ?_
 refine tq 10 16 hS0 ?_
 refine tq 11 17 hS0 ?_
 simp only [Act.put, List.setIfInBounds_toArray, List.set_cons_zero, List.set_cons_succ]
 have HB1 := hideT (show Below U.heap.size U (U.alloc (.cells #[.pointer (some ⟨c, 0, none⟩), .int .i64 (n : Nat), .bool free, .slice none 0 0] 125)) from (Below.refl _ U).alloc (Nat.le_refl _) _)
 have hx2 := HX.out.1
 have hS1 : (U.alloc (.cells #[.pointer (some ⟨c, 0, none⟩), .int .i64 (n : Nat), .bool free, .slice none 0 0] 125)).cell? ⟨b, 8, none⟩ = some (.int .i64 (n : Nat)) := keep_cell HB1.out hS0
 have hx3 : (U.alloc (.cells #[.pointer (some ⟨c, 0, none⟩), .int .i64 (n : Nat), .bool free, .slice none 0 0] 125)).cell? ⟨b, 2, none⟩ = some vl := keep_cell HB1.out hx2
 refine wpAnyH_all (rs := [4, 12]) (by kernel_rfl) (by simp) (fun j hj => ?_)
 simp only [List.mem_cons, List.not_mem_nil, or_false] at hj
 rcases hj with rfl | rfl
 · refine op_value (some 10) rfl rfl (by rfl) (v := vl) (w' := U) (by go_simp; (try rfl)) ⟨hS0, ?_⟩
   simp only [Act.put, List.setIfInBounds_toArray, List.set_cons_zero, List.set_cons_succ]
   refine wpAnyH_all (rs := [12]) (by kernel_rfl) (by simp) (fun j hj => ?_)
   obtain rfl : j = 12 := List.mem_singleton.1 hj
   refine op_value (some 18) rfl rfl (by rfl) (v := .slice (some ⟨U.heap.size, 0, none⟩) 1 1) (w' := U.alloc (.cells #[.pointer (some ⟨c, 0, none⟩), .int .i64 (n : Nat), .bool free, .slice none 0 0] 125)) (by go_simp; (try rfl)) ⟨hS1, ?_⟩
   simp only [Act.put, List.setIfInBounds_toArray, List.set_cons_zero, List.set_cons_succ]
   clear hx2 hx3 hS0 hS1 hj
   refine wpAnyH_all (rs := [13]) (by kernel_rfl) (by simp) (fun j hj => ?_)
   obtain rfl : j = 13 := List.mem_singleton.1 hj
   have hGX := HG.out.keep HB1.out
   refine op_app_lk 19 rfl rfl rfl _ _ _ rfl B i0 _ 48 Try.underlying80 hi0 hz0 hz1 hz2 rfl vl links.length _ rfl hGX.ol _ _ rfl (lit_lk U _ _ _ _) (by simp [Value.oneCell']) (by have := HL.out.1; omega) (by omega) (by have := hGX.hb; have := hGX.lt; omega) ?_
   intro v9 W9 e1 e2 e3
   obtain ⟨a9, c9, rfl⟩ := row_shape e1
   have hL := hGX.link (kid := kid) (base := n) (free := free) (c := c) e2 (HK.out.keep (fun k hk => HB1.out.block k (HG.out.nS k hk).2.1) (fun _ h => h)) e1 e3
   have hxf : ∀ k, W9.frozen? ⟨b, k, none⟩ = false := fun k => by have e := e2.block b hGX.lt (fun e => own_nb hGX.ol hGX.blk (by decide) e.symm); simp only [World.frozen?, e, hGX.blk]; rfl
   have hx9 : W9.cell? ⟨b, 8, none⟩ = some (.int .i64 (n : Nat)) := (World.cell?_of_block (a := ⟨b, 8, none⟩) (e2.block b hGX.lt (fun e => own_nb hGX.ol hGX.blk (by decide) e.symm))).trans hGX.cells.2.2.1
   have hx8 : W9.cell? ⟨b, 2, none⟩ = some vl := (World.cell?_of_block (a := ⟨b, 2, none⟩) (e2.block b hGX.lt (fun e => own_nb hGX.ol hGX.blk (by decide) e.symm))).trans hGX.cells.1
   have hS2 : (W9.setCell ⟨b, 2, none⟩ (.slice a9 (links.length + 1) c9)).cell? ⟨b, 8, none⟩ = some (.int .i64 (n : Nat)) := hL.1.cells.2.2.1
   have hF : AcF B S w (W9.setCell ⟨b, 2, none⟩ (.slice a9 (links.length + 1) c9)) := HA.out.trans ((AcF.of HB1.out (by have := HG.out.hb; have := HG.out.lt; omega) fun k hk => (HG.out.nS k hk).2.1).trans hL.2)
   have HZ := hideT (And.intro hL.1 hF)
   have HS9 := hideT (fun (k : Nat) (hk : S k) => (hL.2.s k hk).trans (HB1.out.block k (HG.out.nS k hk).2.1))
   clear hL hF hGX e1 e2 e3
   refine ⟨hx9, ?_⟩
   simp only [Act.put, List.setIfInBounds_toArray, List.set_cons_zero, List.set_cons_succ]
   refine tq 14 20 hx9 ?_
   refine tq 15 21 hx9 ?_
   simp only [Act.put, List.setIfInBounds_toArray, List.set_cons_zero, List.set_cons_succ]
   clear hj
   refine wpAnyH_all (rs := [16]) (by kernel_rfl) (by simp) (fun j hj => ?_)
   obtain rfl : j = 16 := List.mem_singleton.1 hj
   have h9f := hxf 2
   refine op_skip rfl rfl (by rfl) (w' := W9.setCell ⟨b, 2, none⟩ (.slice a9 (links.length + 1) c9)) (by go_simp; (try rfl)) ⟨hS2, ?_⟩
   simp only [Act.put]
   refine wpAnyH_done (by kernel_rfl) (hK0 _ _ ?_) _
   clear hS2 hx9 hx8 hxf h9f hK0 hj
   have HKZ := hideT (HK.out.keep (W' := W9.setCell ⟨b, 2, none⟩ (.slice a9 (links.length + 1) c9)) HS9.out (fun _ h => h))
   generalize W9.setCell ⟨b, 2, none⟩ (.slice a9 (links.length + 1) c9) = Z at *
   go_upto_region 1 with fail
   refine wp_region_held (S := fun V : World => V.cell? ⟨c, 8, none⟩ = some (.int .i64 (kid.size : Nat))) (by kernel_rfl) ?_
   show wpAnyH _ _ _ _ _ _ _ _ Z.drew
   have HD := hideT (drew_below Z.heap.size Z)
   have hGd := HZ.out.1.keep HD.out
   have hKd := HKZ.out.keep (S' := S) (fun k hk => HD.out.block k (HZ.out.1.nS k hk).2.1) (fun _ h => h)
   have hAd : AcF B S w Z.drew := HZ.out.2.trans (AcF.of HD.out (by have := HZ.out.1.hb; have := HZ.out.1.lt; omega) fun k hk => (HZ.out.1.nS k hk).2.1)
   clear HZ HKZ HD HS9
   generalize Z.drew = Y at *
   have hc8 : Y.cell? ⟨c, 8, none⟩ = some (.int .i64 (kid.size : Nat)) := hKd.size8
   have hcb : c ≠ b := (hGd.nS c hKd.inS).2.2.1
   obtain ⟨_, _, y8, yf⟩ := hGd.cells
   have h8f := yf 8
   have hN := hGd.sz (n + kid.size)
   have hE : (Y.setCell ⟨b, 8, none⟩ (.int .i64 ((n + kid.size : Nat) : Int))).cell? ⟨c, 8, none⟩ = some (.int .i64 (kid.size : Nat)) := keep_cell_other hcb hc8
   have HN := hideT (And.intro hN.1 (hAd.trans hN.2))
   have H9 := hideT (show IntKind.i64.wrap ((n : Int) + (kid.size : Int)) = ((n + kid.size : Nat) : Int) by have := HL.out.2; rw [← Int.natCast_add]; exact IntWalk.i64_in _ (by omega))
   clear hGd hKd hAd yf hN hcb
   refine tq 0 22 hc8 ?_
   refine tq 1 23 hc8 ?_
   refine tq 2 24 hc8 ?_
   refine tq 4 26 hc8 ?_
   refine tq 5 27 hc8 ?_
   refine tq 6 28 hc8 ?_
   refine tq 7 29 hc8 ?_
   simp only [Act.put, List.setIfInBounds_toArray, List.set_cons_zero, List.set_cons_succ]
   refine wpAnyH_all (rs := [3]) (by kernel_rfl) (by simp) (fun j hj => ?_)
   obtain rfl : j = 3 := List.mem_singleton.1 hj
   refine op_value (some 25) rfl rfl (by rfl) (v := .int .i64 (n : Nat)) (w' := Y) (by go_simp; (try rfl)) ⟨hc8, ?_⟩
   simp only [Act.put, List.setIfInBounds_toArray, List.set_cons_zero, List.set_cons_succ]
   refine tq (v := .int .i64 ((n + kid.size : Nat) : Int)) 8 30 hc8 ?_ (hy := fun V hV => by go_simp; (try rw [H9.out]); (try rw [Int.natCast_add]))
   refine tq 9 31 hc8 ?_
   refine tq 10 32 hc8 ?_
   simp only [Act.put, List.setIfInBounds_toArray, List.set_cons_zero, List.set_cons_succ]
   clear hj
   refine wpAnyH_all (rs := [11]) (by kernel_rfl) (by simp) (fun j hj => ?_)
   obtain rfl : j = 11 := List.mem_singleton.1 hj
   refine op_skip rfl rfl (by rfl) (w' := Y.setCell ⟨b, 8, none⟩ (.int .i64 ((n + kid.size : Nat) : Int))) (by go_simp; (try rfl)) ⟨hE, ?_⟩
   simp only [Act.put]
   refine wpAnyH_done (by kernel_rfl) ?_ _
   clear hc8 hj y8 h8f hE H9
   generalize Y.setCell ⟨b, 8, none⟩ (.int .i64 ((n + kid.size : Nat) : Int)) = X at *
   go_end0
   exact ⟨⟨_, rfl⟩, _, HN.out.1, HN.out.2⟩
 · refine op_value (some 18) rfl rfl (by rfl) (v := .slice (some ⟨U.heap.size, 0, none⟩) 1 1) (w' := U.alloc (.cells #[.pointer (some ⟨c, 0, none⟩), .int .i64 (n : Nat), .bool free, .slice none 0 0] 125)) (by go_simp; (try rfl)) ⟨hS1, ?_⟩
   simp only [Act.put, List.setIfInBounds_toArray, List.set_cons_zero, List.set_cons_succ]
   refine wpAnyH_all (rs := [4]) (by kernel_rfl) (by simp) (fun j hj => ?_)
   obtain rfl : j = 4 := List.mem_singleton.1 hj
   refine op_value (some 10) rfl rfl (by rfl) (v := vl) (w' := U.alloc (.cells #[.pointer (some ⟨c, 0, none⟩), .int .i64 (n : Nat), .bool free, .slice none 0 0] 125)) (by go_simp; (try rfl)) ⟨hS1, ?_⟩
   simp only [Act.put, List.setIfInBounds_toArray, List.set_cons_zero, List.set_cons_succ]
   clear hx2 hx3 hS0 hS1 hj
   refine wpAnyH_all (rs := [13]) (by kernel_rfl) (by simp) (fun j hj => ?_)
   obtain rfl : j = 13 := List.mem_singleton.1 hj
   have hGX := HG.out.keep HB1.out
   refine op_app_lk 19 rfl rfl rfl _ _ _ rfl B i0 _ 48 Try.underlying80 hi0 hz0 hz1 hz2 rfl vl links.length _ rfl hGX.ol _ _ rfl (lit_lk U _ _ _ _) (by simp [Value.oneCell']) (by have := HL.out.1; omega) (by omega) (by have := hGX.hb; have := hGX.lt; omega) ?_
   intro v9 W9 e1 e2 e3
   obtain ⟨a9, c9, rfl⟩ := row_shape e1
   have hL := hGX.link (kid := kid) (base := n) (free := free) (c := c) e2 (HK.out.keep (fun k hk => HB1.out.block k (HG.out.nS k hk).2.1) (fun _ h => h)) e1 e3
   have hxf : ∀ k, W9.frozen? ⟨b, k, none⟩ = false := fun k => by have e := e2.block b hGX.lt (fun e => own_nb hGX.ol hGX.blk (by decide) e.symm); simp only [World.frozen?, e, hGX.blk]; rfl
   have hx9 : W9.cell? ⟨b, 8, none⟩ = some (.int .i64 (n : Nat)) := (World.cell?_of_block (a := ⟨b, 8, none⟩) (e2.block b hGX.lt (fun e => own_nb hGX.ol hGX.blk (by decide) e.symm))).trans hGX.cells.2.2.1
   have hx8 : W9.cell? ⟨b, 2, none⟩ = some vl := (World.cell?_of_block (a := ⟨b, 2, none⟩) (e2.block b hGX.lt (fun e => own_nb hGX.ol hGX.blk (by decide) e.symm))).trans hGX.cells.1
   have hS2 : (W9.setCell ⟨b, 2, none⟩ (.slice a9 (links.length + 1) c9)).cell? ⟨b, 8, none⟩ = some (.int .i64 (n : Nat)) := hL.1.cells.2.2.1
   have hF : AcF B S w (W9.setCell ⟨b, 2, none⟩ (.slice a9 (links.length + 1) c9)) := HA.out.trans ((AcF.of HB1.out (by have := HG.out.hb; have := HG.out.lt; omega) fun k hk => (HG.out.nS k hk).2.1).trans hL.2)
   have HZ := hideT (And.intro hL.1 hF)
   have HS9 := hideT (fun (k : Nat) (hk : S k) => (hL.2.s k hk).trans (HB1.out.block k (HG.out.nS k hk).2.1))
   clear hL hF hGX e1 e2 e3
   refine ⟨hx9, ?_⟩
   simp only [Act.put, List.setIfInBounds_toArray, List.set_cons_zero, List.set_cons_succ]
   refine tq 14 20 hx9 ?_
   refine tq 15 21 hx9 ?_
   simp only [Act.put, List.setIfInBounds_toArray, List.set_cons_zero, List.set_cons_succ]
   clear hj
   refine wpAnyH_all (rs := [16]) (by kernel_rfl) (by simp) (fun j hj => ?_)
   obtain rfl : j = 16 := List.mem_singleton.1 hj
   have h9f := hxf 2
   refine op_skip rfl rfl (by rfl) (w' := W9.setCell ⟨b, 2, none⟩ (.slice a9 (links.length + 1) c9)) (by go_simp; (try rfl)) ⟨hS2, ?_⟩
   simp only [Act.put]
   refine wpAnyH_done (by kernel_rfl) (hK0 _ _ ?_) _
   clear hS2 hx9 hx8 hxf h9f hK0 hj
   have HKZ := hideT (HK.out.keep (W' := W9.setCell ⟨b, 2, none⟩ (.slice a9 (links.length + 1) c9)) HS9.out (fun _ h => h))
   generalize W9.setCell ⟨b, 2, none⟩ (.slice a9 (links.length + 1) c9) = Z at *
   go_upto_region 1 with fail
   refine wp_region_held (S := fun V : World => V.cell? ⟨c, 8, none⟩ = some (.int .i64 (kid.size : Nat))) (by kernel_rfl) ?_
   show wpAnyH _ _ _ _ _ _ _ _ Z.drew
   have HD := hideT (drew_below Z.heap.size Z)
   have hGd := HZ.out.1.keep HD.out
   have hKd := HKZ.out.keep (S' := S) (fun k hk => HD.out.block k (HZ.out.1.nS k hk).2.1) (fun _ h => h)
   have hAd : AcF B S w Z.drew := HZ.out.2.trans (AcF.of HD.out (by have := HZ.out.1.hb; have := HZ.out.1.lt; omega) fun k hk => (HZ.out.1.nS k hk).2.1)
   clear HZ HKZ HD HS9
   generalize Z.drew = Y at *
   have hc8 : Y.cell? ⟨c, 8, none⟩ = some (.int .i64 (kid.size : Nat)) := hKd.size8
   have hcb : c ≠ b := (hGd.nS c hKd.inS).2.2.1
   obtain ⟨_, _, y8, yf⟩ := hGd.cells
   have h8f := yf 8
   have hN := hGd.sz (n + kid.size)
   have hE : (Y.setCell ⟨b, 8, none⟩ (.int .i64 ((n + kid.size : Nat) : Int))).cell? ⟨c, 8, none⟩ = some (.int .i64 (kid.size : Nat)) := keep_cell_other hcb hc8
   have HN := hideT (And.intro hN.1 (hAd.trans hN.2))
   have H9 := hideT (show IntKind.i64.wrap ((n : Int) + (kid.size : Int)) = ((n + kid.size : Nat) : Int) by have := HL.out.2; rw [← Int.natCast_add]; exact IntWalk.i64_in _ (by omega))
   clear hGd hKd hAd yf hN hcb
   refine tq 0 22 hc8 ?_
   refine tq 1 23 hc8 ?_
   refine tq 2 24 hc8 ?_
   refine tq 4 26 hc8 ?_
   refine tq 5 27 hc8 ?_
   refine tq 6 28 hc8 ?_
   refine tq 7 29 hc8 ?_
   simp only [Act.put, List.setIfInBounds_toArray, List.set_cons_zero, List.set_cons_succ]
   refine wpAnyH_all (rs := [3]) (by kernel_rfl) (by simp) (fun j hj => ?_)
   obtain rfl : j = 3 := List.mem_singleton.1 hj
   refine op_value (some 25) rfl rfl (by rfl) (v := .int .i64 (n : Nat)) (w' := Y) (by go_simp; (try rfl)) ⟨hc8, ?_⟩
   simp only [Act.put, List.setIfInBounds_toArray, List.set_cons_zero, List.set_cons_succ]
   refine tq (v := .int .i64 ((n + kid.size : Nat) : Int)) 8 30 hc8 ?_ (hy := fun V hV => by go_simp; (try rw [H9.out]); (try rw [Int.natCast_add]))
   refine tq 9 31 hc8 ?_
   refine tq 10 32 hc8 ?_
   simp only [Act.put, List.setIfInBounds_toArray, List.set_cons_zero, List.set_cons_succ]
   clear hj
   refine wpAnyH_all (rs := [11]) (by kernel_rfl) (by simp) (fun j hj => ?_)
   obtain rfl : j = 11 := List.mem_singleton.1 hj
   refine op_skip rfl rfl (by rfl) (w' := Y.setCell ⟨b, 8, none⟩ (.int .i64 ((n + kid.size : Nat) : Int))) (by go_simp; (try rfl)) ⟨hE, ?_⟩
   simp only [Act.put]
   refine wpAnyH_done (by kernel_rfl) ?_ _
   clear hc8 hj y8 h8f hE H9
   generalize Y.setCell ⟨b, 8, none⟩ (.int .i64 ((n + kid.size : Nat) : Int)) = X at *
   go_end0
   exact ⟨⟨_, rfl⟩, _, HN.out.1, HN.out.2⟩
end Go.Proofs.Ytolpakpdkheanaa.tly
namespace Go.Proofs.Ytolpakpdkheanaa.tly
open Go.RowKit Go.Proofs.Ytolpakpdkheanaa.br
theorem setCells_os (b : Nat) : ∀ (vs : List Value) (W : World) (o : Nat), (W.setCells b o vs).os = W.os
 | [], _, _ => rfl
 | v :: vs, W, o => by rw [World.setCells, setCells_os b vs]; rfl
theorem setCells_tape (b : Nat) : ∀ (vs : List Value) (W : World) (o : Nat), (W.setCells b o vs).tape = W.tape
 | [], _, _ => rfl
 | v :: vs, W, o => by rw [World.setCells, setCells_tape b vs]; rfl
theorem setCells_output (b : Nat) : ∀ (vs : List Value) (W : World) (o : Nat), (W.setCells b o vs).output = W.output
 | [], _, _ => rfl
 | v :: vs, W, o => by rw [World.setCells, setCells_output b vs]; rfl
theorem upE_ok {n : Nat} {l : Lk} (h : EsOk l.1.size l.1.eds) (hn : l.2.1 + l.1.size ≤ n) : EsOk n (upE l) :=
 ⟨by rw [upE, List.length_map]; exact h.len, fun e he => by
  obtain ⟨e0, h0, rfl⟩ := List.mem_map.1 he
  exact ⟨(h.ok e0 h0).1.upS hn, (h.ok e0 h0).2.upS hn⟩⟩
theorem ahead_ok {n : Nat} {free : Bool} {a b : Ed} (ha : EdOk n a) (hb : EdOk n b) : EdOk n (aheadE free a b) := by
 have hl : StOk n (sumS (bif b.no then a.la else []) b.la) := sum_up _ _ (by cases b.no; exact StOk.nil n; exact ha.2) hb.2
 unfold aheadE
 cases free
 · rw [cond_false]
   refine ⟨?_, hl⟩
   show StOk n (bif a.no then sumS a.fi b.fi else a.fi)
   cases a.no
   · exact ha.1
   · exact sum_up _ _ ha.1 hb.1
 · rw [cond_true]; exact ⟨ha.1, hl⟩
theorem zip_ok {n : Nat} {free : Bool} {a b : List Ed} (ha : EsOk n a) (hb : EsOk n b) : EsOk n (List.zipWith (aheadE free) a b) := by
 have hl : (List.zipWith (aheadE free) a b).length = 4 := by rw [List.length_zipWith, ha.len, hb.len]; rfl
 refine ⟨hl, fun e he => ?_⟩
 obtain ⟨i, hi, rfl⟩ := List.mem_iff_getElem.1 he
 rw [List.getElem_zipWith]
 exact ahead_ok (ha.ok _ (List.getElem_mem _)) (hb.ok _ (List.getElem_mem _))
theorem noE_ok (n : Nat) : EsOk n noE := ⟨rfl, fun e he => by
 obtain ⟨_, rfl⟩ := List.mem_replicate.1 he
 exact ⟨StOk.nil n, StOk.nil n⟩⟩
theorem end_ok {n : Nat} {ag : Bool} {ls : List Lk} (h : ∀ l ∈ ls, EsOk l.1.size l.1.eds ∧ l.2.1 + l.1.size ≤ n) : EsOk n (endE ag ls) := by
 unfold endE
 cases ag
 · exact noE_ok n
 · rw [cond_true]
   cases e : ls.getLast? with
   | none => exact noE_ok n
   | some l =>
    have hl := h l (List.mem_of_getLast? e)
    have := upE_ok hl.1 hl.2
    refine ⟨by rw [List.length_map]; exact this.len, fun x hx => ?_⟩
    obtain ⟨e0, h0, rfl⟩ := List.mem_map.1 hx
    exact ⟨(this.ok e0 h0).1, StOk.nil n⟩
theorem join_ok {n : Nat} {e0 : List Ed} (h0 : EsOk n e0) : ∀ (ls : List Lk), (∀ l ∈ ls, EsOk l.1.size l.1.eds ∧ l.2.1 + l.1.size ≤ n) → EsOk n (joinF e0 ls).2
 | [], _ => h0
 | l :: ls, h => zip_ok (upE_ok (h l List.mem_cons_self).1 (h l List.mem_cons_self).2) (join_ok h0 ls fun x hx => h x (List.mem_cons_of_mem _ hx))
theorem join_len (e0 : List Ed) : ∀ ls : List Lk, (joinF e0 ls).1.length = ls.length
 | [] => rfl
 | l :: ls => by show (joinF e0 ls).1.length + 1 = _; rw [join_len e0 ls]; rfl
theorem join_at (e0 : List Ed) : ∀ (ls : List Lk) (i : Nat) (l' : Lk), (joinF e0 ls).1[i]? = some l' → ∃ l, ls[i]? = some l ∧ l'.1 = l.1 ∧ l'.2.1 = l.2.1 ∧ l'.2.2.1 = l.2.2.1 ∧ l'.2.2.2 = (eat (joinF e0 (ls.drop (i + 1))).2 0).fi
 | [], i, l', h => by simp [joinF] at h
 | l :: ls, 0, l', h => by cases h; exact ⟨l, rfl, rfl, rfl, rfl, rfl⟩
 | l :: ls, i + 1, l', h => join_at e0 ls i l' h
theorem join_lkV (e0 : List Ed) : ∀ (ls : List Lk) (cs : List Nat) (us : List Value), lkV (joinF e0 ls).1 cs us = lkV ls cs us
 | [], _, _ => rfl
 | l :: ls, [], _ => rfl
 | l :: ls, c :: cs, [] => rfl
 | l :: ls, c :: cs, u :: us => by show _ ++ lkV (joinF e0 ls).1 cs us = _; rw [join_lkV e0 ls cs us]; rfl
theorem lkV_set : ∀ (ls : List Lk) (cs : List Nat) (us : List Value) (i : Nat) (v : Value), cs.length = ls.length → us.length = ls.length → (lkV ls cs us).set (i * 4 + 3) v = lkV ls cs (us.set i v)
 | [], _, _, _, _, _, _ => rfl
 | l :: ls, c :: cs, u :: us, 0, v, _, _ => rfl
 | l :: ls, c :: cs, u :: us, i + 1, v, h, h' => by
  rw [show (i + 1) * 4 + 3 = i * 4 + 3 + 1 + 1 + 1 + 1 by omega]
  show _ :: _ :: _ :: _ :: (lkV ls cs us).set (i * 4 + 3) v = _
  rw [lkV_set ls cs us i v (by simpa using h) (by simpa using h')]
  rfl
structure JnR (w : World) (B b : Nat) (S : Nat → Prop) (kd gr : Nat) (ag : Bool) (links : List Lk) (n : Nat) (vl : Value) (cs : List Nat) (e0 : List Ed) (D i : Nat) (V : World) : Prop where
 blk : V.heap[b]? = some (.cells (ptV kd gr vl ag xad n (esU fun _ => false)).toArray 87 (0, 0))
 beh : EdB V B D (joinF e0 (links.drop i)).2
 row : ∃ us, us.length = links.length ∧ V.ownsRow B 125 4 vl links.length (lkV links cs us) ∧ ∀ (j : Nat) (l : Lk), i ≤ j → (joinF e0 links).1[j]? = some l → ∃ v, us[j]? = some v ∧ StR V (Sb B V.heap.size) v l.2.2.2
 F : AcF B S w V
 ne : D ≠ b ∧ B ≤ D ∧ B ≤ b
theorem StR.grow' {W W' : World} {B : Nat} {v : Value} {l : Stp} (h : StR W (Sb B W.heap.size) v l) (hb : Below W.heap.size W W') : StR W' (Sb B W'.heap.size) v l := h.grow hb (Nat.le_refl _) (Nat.le_refl _)
theorem JnR.below {w V V' : World} {B b : Nat} {S : Nat → Prop} {kd gr : Nat} {ag : Bool} {links : List Lk} {n : Nat} {vl : Value} {cs : List Nat} {e0 : List Ed} {D i : Nat} (h : JnR w B b S kd gr ag links n vl cs e0 D i V) (hS : ∀ k, S k → k < V.heap.size) (hb : Below V.heap.size V V') : JnR w B b S kd gr ag links n vl cs e0 D i V' := by
 have hbl : b < V.heap.size := (Array.getElem?_eq_some_iff.1 h.blk).1
 obtain ⟨us, h1, h2, h3⟩ := h.row
 exact ⟨(hb.block b hbl).trans h.blk, h.beh.below hb, ⟨us, h1, row_keep h2 fun k hk => hb.block k (row_blk h2 hk).2.1, fun j l hj hl => by obtain ⟨v, a, c⟩ := h3 j l hj hl; exact ⟨v, a, c.grow' hb⟩⟩, h.F.trans (AcF.of hb (by have := h.ne.2.2; omega) hS), h.ne⟩
theorem JnR.store {w V : World} {B b g cap : Nat} {S : Nat → Prop} {kd gr : Nat} {ag : Bool} {links : List Lk} {n : Nat} {cs : List Nat} {e0 : List Ed} {D i : Nat} {v : Value} (h : JnR w B b S kd gr ag links n (.slice (some ⟨g, 0, none⟩) links.length cap) cs e0 D (i + 1) V) (hi : i < links.length) (hc : cs.length = links.length) (hS : ∀ k, S k → k ≠ g) (hv : StR V (Sb B V.heap.size) v (eat (joinF e0 (links.drop (i + 1))).2 0).fi) :
  let Z := V.setCell ⟨g, i * 4 + 3, none⟩ v
  Z.heap[b]? = some (.cells (ptV kd gr (.slice (some ⟨g, 0, none⟩) links.length cap) ag xad n (esU fun _ => false)).toArray 87 (0, 0)) ∧ EdB Z B D (joinF e0 (links.drop (i + 1))).2 ∧ (∃ us, us.length = links.length ∧ Z.ownsRow B 125 4 (.slice (some ⟨g, 0, none⟩) links.length cap) links.length (lkV links cs us) ∧ ∀ (j : Nat) (l : Lk), i ≤ j → (joinF e0 links).1[j]? = some l → ∃ v, us[j]? = some v ∧ StR Z (Sb B Z.heap.size) v l.2.2.2) ∧ AcF B S w Z := by
 intro Z
 obtain ⟨us, h1, h2, h3⟩ := h.row
 obtain ⟨hBg, hgl, cur, hgc⟩ := row_blk h2 (g := g) rfl
 have far : ∀ k, k ≠ g → Z.heap[k]? = V.heap[k]? := fun k hk => Below.heap_setCell V ⟨g, i * 4 + 3, none⟩ v k hk
 have hsz : Z.heap.size = V.heap.size := by show (V.setCell ⟨g, i * 4 + 3, none⟩ v).heap.size = _; simp
 have hgb : g ≠ b := fun e => by rw [e, h.blk] at hgc; cases hgc
 have hst : ∀ {x : Value} {l : Stp}, StR V (Sb B V.heap.size) x l → StR Z (Sb B Z.heap.size) x l := fun hx => by rw [hsz]; exact hx.far hgc (by decide) far
 refine ⟨(far b (Ne.symm hgb)).trans h.blk, ?_, ⟨us.set i v, by simpa using h1, ?_, fun j l hj hl => ?_⟩, ⟨h.F.os, h.F.tape, h.F.output, by rw [hsz]; exact h.F.size, fun k hk => (far k (by omega)).trans (h.F.low k hk), fun k hk => (far k (hS k hk)).trans (h.F.s k hk)⟩⟩
 · obtain ⟨u, e1, e2, e3⟩ := h.beh
   have hDg : D ≠ g := fun e => by rw [← e, e1] at hgc; cases hgc
   exact ⟨u, (far D hDg).trans e1, ⟨e2.no, fun k hk => hst (e2.fi k hk), fun k hk => hst (e2.la k hk)⟩, e3⟩
 · have := (h2.stored (i * 4 + 3) v).1
   rw [lkV_set links cs us i v hc h1] at this
   exact this
 · by_cases e : j = i
   · subst e
     obtain ⟨l0, _, _, _, _, e4⟩ := join_at e0 links j l hl
     exact ⟨v, by rw [List.getElem?_set]; simp [h1, hi], by rw [e4]; exact hst hv⟩
   · obtain ⟨x, a, c⟩ := h3 j l (by omega) hl
     exact ⟨x, by rw [List.getElem?_set]; rw [if_neg (by omega)]; exact a, hst c⟩
theorem EdB.put {V : World} {B D : Nat} {es : List Ed} {u : Nat → Value} {cs : List Value} (hD : V.heap[D]? = some (.cells cs.toArray 85 (0, 0))) (hc : cs.length = 12) (hu : EsR V (Sb B V.heap.size) u es) (hl : es.length = 4) : EdB (V.setCells D 0 (lst12 u)) B D es := by
 refine ⟨u, setCells_whole (lst12 u) hD hc, ?_, hl⟩
 rw [setCells_size]
 exact hu.far hD (by decide) fun g hg => setCells_far V D hg _ _
theorem JnR.round {w Z V : World} {B b : Nat} {S : Nat → Prop} {kd gr : Nat} {ag : Bool} {links : List Lk} {n : Nat} {vl : Value} {cs : List Nat} {e0 : List Ed} {D i : Nat} {u : Nat → Value}
  (h : Z.heap[b]? = some (.cells (ptV kd gr vl ag xad n (esU fun _ => false)).toArray 87 (0, 0)) ∧ EdB Z B D (joinF e0 (links.drop (i + 1))).2 ∧ (∃ us, us.length = links.length ∧ Z.ownsRow B 125 4 vl links.length (lkV links cs us) ∧ ∀ (j : Nat) (l : Lk), i ≤ j → (joinF e0 links).1[j]? = some l → ∃ v, us[j]? = some v ∧ StR Z (Sb B Z.heap.size) v l.2.2.2) ∧ AcF B S w Z)
  (hS : ∀ k, S k → k < Z.heap.size ∧ k ≠ D) (hne : D ≠ b ∧ B ≤ D ∧ B ≤ b) (hb : Below Z.heap.size Z V) (_hBZ : B ≤ Z.heap.size) (hu : EsR V (Sb Z.heap.size V.heap.size) u (joinF e0 (links.drop i)).2) (hl : (joinF e0 (links.drop i)).2.length = 4) : JnR w B b S kd gr ag links n vl cs e0 D i (V.setCells D 0 (lst12 u)) := by
 obtain ⟨h1, h2, ⟨us, h3, h4, h5⟩, h6⟩ := h
 have hbl : b < Z.heap.size := (Array.getElem?_eq_some_iff.1 h1).1
 have hDl := h2.lt
 obtain ⟨ud, hd1, hd2, hd3⟩ := h2
 have hDV : V.heap[D]? = _ := (hb.block D hDl).trans hd1
 have far : ∀ k, k ≠ D → (V.setCells D 0 (lst12 u)).heap[k]? = V.heap[k]? := fun k hk => setCells_far V D hk _ _
 have hsz := setCells_size D (lst12 u) V 0
 refine ⟨(far b (Ne.symm hne.1)).trans ((hb.block b hbl).trans h1), EdB.put hDV rfl ⟨hu.no, fun k hk => (hu.fi k hk).sub fun g hg => ⟨by have := hg.1; omega, hg.2⟩, fun k hk => (hu.la k hk).sub fun g hg => ⟨by have := hg.1; omega, hg.2⟩⟩ hl, ⟨us, h3, row_keep h4 fun k hk => ?_, fun j l hj hl => ?_⟩, ?_, hne⟩
 · obtain ⟨_, hk2, cur, hk3⟩ := row_blk h4 hk
   have : k ≠ D := fun e => by rw [e, hd1] at hk3; cases hk3
   exact (far k this).trans (hb.block k hk2)
 · obtain ⟨x, a, c⟩ := h5 j l hj hl
   refine ⟨x, a, ?_⟩
   rw [hsz]
   exact (c.grow' hb).far hDV (by decide) far
 · refine h6.trans ⟨by rw [setCells_os]; exact hb.os, by rw [setCells_tape]; exact hb.tape, by rw [setCells_output]; exact hb.output, by rw [hsz]; exact hb.size, fun k hk => (far k (by omega)).trans (hb.block k (by omega)), fun k hk => (far k (hS k hk).2).trans (hb.block k (hS k hk).1)⟩
theorem JnR.done {w V : World} {B b : Nat} {S : Nat → Prop} {kd gr : Nat} {ag : Bool} {links : List Lk} {n : Nat} {vl : Value} {cs : List Nat} {e0 : List Ed} {D : Nat} {u : Nat → Value} (h : JnR w B b S kd gr ag links n vl cs e0 D 0 V) (hg : GaV w B b S kd gr ag links n vl cs) (_hu : V.heap[D]? = some (.cells (lst12 u).toArray 85 (0, 0))) (he : EsR V (Sb B V.heap.size) u (joinF e0 links).2) :
  PtAt (V.setCells b 9 (lst12 u)) (Sb B (V.setCells b 9 (lst12 u)).heap.size) b (.mk kd gr (joinF e0 links).1 ag xad n (joinF e0 links).2) ∧ AcF B S w (V.setCells b 9 (lst12 u)) := by
 have far : ∀ k, k ≠ b → (V.setCells b 9 (lst12 u)).heap[k]? = V.heap[k]? := fun k hk => setCells_far V b hk _ _
 have hsz := setCells_size b (lst12 u) V 9
 have hbl : b < V.heap.size := (Array.getElem?_eq_some_iff.1 h.blk).1
 obtain ⟨us, h1, h2, h3⟩ := h.row
 have hF : AcF B S w (V.setCells b 9 (lst12 u)) := h.F.trans ⟨by rw [setCells_os], by rw [setCells_tape], by rw [setCells_output], by rw [hsz]; exact Nat.le_refl _, fun k hk => far k (by have := h.ne.2.2; omega), fun k hk => far k (hg.nS k hk).2.2.1⟩
 refine ⟨?_, hF⟩
 rw [hsz]
 have hbk : (V.setCells b 9 (lst12 u)).heap[b]? = some (.cells (ptV kd gr vl ag xad n u).toArray 87 (0, 0)) := by
  have := setCells_at b 87 (0, 0) (lst12 u) (ptV kd gr vl ag xad n (esU fun _ => false) |>.take 9) (lst12 (esU fun _ => false)) [] V 9 (by rw [List.append_nil]; exact h.blk) rfl rfl
  rw [List.append_nil] at this
  exact this
 have h0 := row_mono h2 (Nat.zero_le B)
 refine .mk b _ vl u cs us ⟨h.ne.2.2, hbl⟩ hbk (by rw [show (Tp.mk kd gr (joinF e0 links).1 ag xad n (joinF e0 links).2).links = (joinF e0 links).1 from rfl, join_len]; exact hg.hl) (by rw [show (Tp.mk kd gr (joinF e0 links).1 ag xad n (joinF e0 links).2).links = (joinF e0 links).1 from rfl, join_len]; exact h1) ?_ ?_ ?_ ?_ ?_
 · rw [show (Tp.mk kd gr (joinF e0 links).1 ag xad n (joinF e0 links).2).links = (joinF e0 links).1 from rfl, join_len, join_lkV]
   exact row_keep h0 fun k hk => far k (fun e => own_nb h2 h.blk (by decide) (by rw [← e]; exact hk))
 · exact he.far h.blk (by decide) far
 · intro g hgo
   have := row_blk h2 hgo
   exact ⟨this.1, this.2.1⟩
 · intro i l v hl hv
   obtain ⟨x, a, c⟩ := h3 i l (Nat.zero_le _) hl
   rw [a] at hv
   cases hv
   exact c.far h.blk (by decide) far
 · intro i l c hl hc
   obtain ⟨l0, e1, e2, _⟩ := join_at e0 links i l hl
   rw [e2]
   exact (hg.kids i l0 c e1 hc).keep hF.s fun k hk => ⟨(hg.nS k hk).1, Nat.lt_of_lt_of_le (hg.nS k hk).2.1 h.F.size⟩
end Go.Proofs.Ytolpakpdkheanaa.tly
