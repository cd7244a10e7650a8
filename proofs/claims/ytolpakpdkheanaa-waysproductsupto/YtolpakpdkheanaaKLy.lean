/- tally: a table that can be asked; alive walked. -/
import Derived.Test.YtolpakpdkheanaaKTg
set_option maxRecDepth 100000
set_option maxHeartbeats 1500000
namespace Go.Proofs.Ytolpakpdkheanaa.tly
open Go.RowKit Go.Proofs.Ytolpakpdkheanaa.br
/-- the bytes of a text as numbers -/
def bnS (s : ByteArray) : List Nat := s.data.toList.map fun b => b.toNat
theorem bnS_len (s : ByteArray) : (bnS s).length = s.size := by simp [bnS]
/-- a table at block T: of the places behind lo it is known what lives there -/
structure TaV (W : World) (X T : Nat) (s : ByteArray) (B : Tb) (gt gn gl : Nat) (ge : Nat → Nat) (lo : Nat) : Prop where
 ti : TiV W X T gt gn B.takes.length (B.takes, B.next)
 c1 : W.cell? ⟨T, 1, none⟩ = some (.string s)
 c8 : ∃ c, W.cell? ⟨T, 8, none⟩ = some (.slice (some ⟨gl, 0, none⟩) (s.size + 1) c)
 la : ∀ k, k < 4 → (∃ c, W.cell? ⟨T, 4 + k, none⟩ = some (.slice (some ⟨ge k, 0, none⟩) B.takes.length c)) ∧ ∀ i, i < B.takes.length → W.cell? ⟨ge k, i, none⟩ = some (.int .i64 ((B.last.getD k []).getD i 0 : Nat))
 li : ∀ q, lo < q → q ≤ s.size → ∃ gr rc, W.cell? ⟨gl, q, none⟩ = some (.slice (some ⟨gr, 0, none⟩) B.takes.length rc) ∧ ∀ (i : Nat) (b : Bool), (liveF B (bnS s) (s.size - q))[i]? = some b → W.cell? ⟨gr, i, none⟩ = some (.bool b)
theorem TaV.below {W W' : World} {X T : Nat} {s : ByteArray} {B : Tb} {gt gn gl : Nat} {ge : Nat → Nat} {lo : Nat} (h : TaV W X T s B gt gn gl ge lo) (hb : Below W.heap.size W W') : TaV W' X T s B gt gn gl ge lo :=
 ⟨h.ti.below hb, keep_cell hb h.c1, (by obtain ⟨c, hc⟩ := h.c8; exact ⟨c, keep_cell hb hc⟩), fun k hk => ⟨(by obtain ⟨c, hc⟩ := (h.la k hk).1; exact ⟨c, keep_cell hb hc⟩), fun i hi => keep_cell hb ((h.la k hk).2 i hi)⟩, fun q h1 h2 => by
  obtain ⟨gr, rc, e1, e2⟩ := h.li q h1 h2
  exact ⟨gr, rc, keep_cell hb e1, fun i b hb' => keep_cell hb (e2 i b hb')⟩⟩
theorem info_bo : (Try.prog.info? 4).map (fun i => (i.zero, i.size, i.bytes)) = some (some (.bool false), 1, 1) := by kernel_rfl
theorem make_bo (n : Nat) (hc : n ≤ 1000000) (V : World) : (Instr.makeSlice 97 (.int .i64 (n : Nat)) (.int .i64 (n : Nat))).run Try.prog V = .ok (.slice (some ⟨V.heap.size, 0, none⟩) n n) (V.alloc (.cells (boV (List.replicate n false)).toArray 4)) := by
 obtain ⟨i0, hi, hz0, hz1, hz2⟩ := info_parts info_bo
 have := run_makeSlice (P := Try.prog) (w := V) 97 4 i0 _ Try.underlying97 hi hz0 .i64 .i64 n n (by omega) (by omega) (by rw [hz1, Int.toNat_natCast]; omega) (by rw [hz2]; omega) (by omega)
 rw [hz1, Int.toNat_natCast, Nat.mul_one] at this
 rw [this, made_one _ (.bool false) (fun i => ?_)]
 · rw [boV, List.map_replicate]
 · have h4 : i % 1 < 1 := Nat.mod_lt _ (by omega)
   show (#[Value.bool false] : Array Value)[i % 1]! = _
   rw [show i % 1 = 0 by omega]; rfl
theorem made_bo (V : World) (n : Nat) (hn : n ≤ 1000000) : (V.alloc (.cells (boV (List.replicate n false)).toArray 4)).ownsRow V.heap.size 4 1 (.slice (some ⟨V.heap.size, 0, none⟩) n n) n (boV (List.replicate n false)) := by
 have h := World.ownsRow_lit (base := V.heap.size) (e := 4) (size := 1) V (boV (List.replicate n false)).toArray n (Nat.le_refl _) (by unfold maxLen; omega) (by simp [boV])
 simpa using h
/-- what alive finds of the first i positions -/
def rowI (B : Tb) (s : List Nat) (pl : Nat) (nxt : List Bool) (i : Nat) : List Bool := (rowF B s pl nxt).take i ++ List.replicate (B.takes.length - i) false
theorem rowF_len (B : Tb) (s : List Nat) (pl : Nat) (nxt : List Bool) : (rowF B s pl nxt).length = B.takes.length := by simp [rowF]
theorem rowI_step {B : Tb} {s : List Nat} {pl : Nat} {nxt : List Bool} {i : Nat} (hi : i < B.takes.length) {x : Bool} (hx : (rowF B s pl nxt)[i]? = some x) : (boV (rowI B s pl nxt i)).set i (.bool x) = boV (rowI B s pl nxt (i + 1)) := by
 obtain ⟨h1, h2⟩ := List.getElem?_eq_some_iff.1 hx
 have hl := rowF_len B s pl nxt
 have e : ((rowF B s pl nxt).take i).length = i := by rw [List.length_take]; omega
 rw [boV, boV, rowI, rowI, show (Value.bool x) = (fun b => Value.bool b) x from rfl, ← List.map_set, List.set_append_right _ _ (by omega), e, Nat.sub_self, show B.takes.length - i = (B.takes.length - (i + 1)) + 1 by omega, List.replicate_succ, List.set_cons_zero, List.take_succ_eq_append_getElem h1, h2, List.append_assoc]
 rfl
theorem rowI_len {B : Tb} {s : List Nat} {pl : Nat} {nxt : List Bool} {i : Nat} (hi : i ≤ B.takes.length) : (boV (rowI B s pl nxt i)).length = B.takes.length := by
 have hl := rowF_len B s pl nxt
 simp only [boV, List.length_map, rowI, List.length_append, List.length_take, List.length_replicate, hl]
 omega
/-- the row behind a place -/
def nxtF (B : Tb) (s : ByteArray) (pl : Nat) : List Bool := bif Nat.beq pl s.size then [] else liveF B (bnS s) (s.size - pl - 1)
theorem kind_lt (n p : Nat) : kindAt n p < 4 := by
 unfold kindAt
 cases Nat.beq p 0 <;> cases Nat.beq p n <;> decide
theorem take_cells {W : World} {X T gt gn N : Nat} {a : TN} (h : TiV W X T gt gn N a) {i : Nat} {q : Nat → Bool} (hq : a.1[i]? = some q) {j : Nat} (hj : j < 4) : W.cell? ⟨gt, i * 4 + j, none⟩ = (wd4 q)[j]? := by
 have := tkV_at hq j hj
 have h4 : (wd4 q)[j]? = some ((wd4 q)[j]'(by exact hj)) := List.getElem?_eq_getElem _
 rw [h4]
 exact (cells_at h.tk.1 (this.trans h4)).1
theorem liveF_len (B : Tb) (s : List Nat) : ∀ r, (liveF B s r).length = B.takes.length
 | 0 => rowF_len _ _ _ _
 | _ + 1 => rowF_len _ _ _ _
/-- leadsBy at the end -/
theorem leads_end {W : World} {T : Nat} {s : ByteArray} {a : Option Addr} {n c base : Nat} (c1 : W.cell? ⟨T, 1, none⟩ = some (.string s)) :
 Calls Try.prog 50 #[.pointer (some ⟨T, 0, none⟩), .slice a n c, .int .i64 (base : Nat), .int .i64 (s.size : Nat)] W fun e W' => e = .returned (.bool false) ∧ Below W.heap.size W W' := by
 go_enter Try.func50, Try.ntmps50
 go_wp2
 go_ret
 exact ⟨rfl, Below.refl _ _⟩
theorem leads_of {W : World} {X T : Nat} {s : ByteArray} {B : Tb} {gt gn gl : Nat} {ge : Nat → Nat} {pl : Nat} (h : TaV W X T s B gt gn gl ge pl) (hp : pl ≤ s.size) (hs : s.size ≤ 1024) (hN : B.takes.length ≤ 256) {S : Nat → Prop} {v : Value} {l : Stp} (hv : StR W S v l) (hS : ∀ g, S g → g < W.heap.size) (ho : StOk B.takes.length l) :
 Calls Try.prog 50 #[.pointer (some ⟨T, 0, none⟩), v, .int .i64 0, .int .i64 (pl : Nat)] W fun e W' => e = .returned (.bool (bif Nat.beq pl s.size then false else leadsF (nxtF B s pl) l 0)) ∧ Below W.heap.size W W' := by
 by_cases e : pl = s.size
 · subst e
   rw [Nat.beq_refl, cond_true]
   obtain ⟨a, c, rfl⟩ := hv.shape
   exact leads_end (base := 0) h.c1
 · have hb : Nat.beq pl s.size = false := by cases e' : Nat.beq pl s.size with | false => rfl | true => exact absurd (Nat.eq_of_beq_eq_true e') e
   rw [hb, cond_false]
   obtain ⟨gr, rc, r1, r2⟩ := h.li (pl + 1) (by omega) (by omega)
   obtain ⟨c8, h8⟩ := h.c8
   have hl := liveF_len B (bnS s) (s.size - (pl + 1))
   rw [← hl] at r1
   have hn : nxtF B s pl = liveF B (bnS s) (s.size - (pl + 1)) := by rw [nxtF, hb, cond_false, Nat.sub_sub]
   rw [hn]
   exact leads_any (base := 0) hv hS ho (by rw [hl]; omega) (by rw [hl]; omega) (by omega) (by omega) h.c1 h8 r1 r2
theorem rowF_at {B : Tb} {s : List Nat} {pl : Nat} {nxt : List Bool} {i : Nat} {q : Nat → Bool} (hq : B.takes[i]? = some q) : (rowF B s pl nxt)[i]? = some (q (s.getD (pl - 1) 0) && (Nat.blt 0 (lastAt B s.length pl i) || (bif Nat.beq pl s.length then false else leadsF nxt (B.next.getD i []) 0))) := by
 have hi := (List.getElem?_eq_some_iff.1 hq).1
 rw [rowF, List.getElem?_map, List.getElem?_range hi, Option.map_some, List.getD_eq_getElem?_getD, hq]; rfl
theorem idx_fact {s : ByteArray} {m : Nat} {b : UInt8} {z : Int} {hz : z.toNat < s.size} (h : z = (m : Int)) (hb : s.data[m]? = some b) (V : World) : (Result.ok (Value.int .u8 (s[z.toNat].toNat : Nat)) V).andThen (fun a w' => Result.ok (Next.value a) w') = Result.ok (Next.value (.int .u8 (b.toNat : Nat))) V := by
 subst h
 have h2 := (Array.getElem?_eq_some_iff.1 hb).2
 have h3 : s[(m : Int).toNat] = b := h2
 rw [h3]; rfl
theorem alive_any {W : World} {X T : Nat} {s : ByteArray} {B : Tb} {gt gn gl : Nat} {ge : Nat → Nat} {m : Nat} (h : TaV W X T s B gt gn gl ge (m + 1)) (hm : m < s.size) (hs : s.size ≤ 1024) (hN : B.takes.length ≤ 256) (hX : X ≤ W.heap.size) :
 Calls Try.prog 25 #[.pointer (some ⟨T, 0, none⟩), .int .i64 ((m + 1 : Nat) : Int)] W fun e W' => ∃ v, e = .returned v ∧ v ≠ .slice none 0 0 ∧ W'.ownsRow W.heap.size 4 1 v B.takes.length (boV (rowF B (bnS s) (m + 1) (nxtF B s (m + 1)))) ∧ Below W.heap.size W W' := by
 obtain ⟨c2, t2⟩ := h.ti.c2
 have hmk := make_bo B.takes.length (by omega)
 have hmd := made_bo W B.takes.length (by omega)
 have hbA := (Below.refl W.heap.size W).alloc (Nat.le_refl _) (.cells (boV (List.replicate B.takes.length false)).toArray 4)
 have HT0 := hideT h
 have HT := hideT (And.intro (h.below hbA) (And.intro hmd hbA))
 have HP := hideT (And.intro hm (And.intro hs (And.intro hN hX)))
 clear h hmd hbA hm hs hN hX
 generalize (boV (List.replicate B.takes.length false)).toArray = mc at *
 obtain ⟨pl, hpl⟩ : ∃ pl, pl = m + 1 := ⟨_, rfl⟩
 rw [← hpl]
 have HPL := hideT hpl
 clear hpl
 go_enter Try.func25, Try.ntmps25
 go_upto_region 2 with fail
 generalize W.alloc (.cells mc 4) = W1 at *
 rename_i K2 hK2
 have hkd := kind_any (W := W1.drew) pl (HT.out.1.below (drew_below _ _)).c1
 obtain ⟨kk, hkk⟩ : ∃ kk, kk = kindAt s.size pl := ⟨_, rfl⟩
 have hk4 : kk < 4 := by rw [hkk]; exact kind_lt _ _
 rw [← hkk] at hkd
 have HKK := hideT hkk
 clear hkk
 obtain ⟨ce, hce⟩ := (HT.out.1.la kk hk4).1
 have hS0 : W1.drew.cell? ⟨T, 4 + kk, none⟩ = some (.slice (some ⟨ge kk, 0, none⟩) B.takes.length ce) := hce
 have j1 : (kk : Int) < 4 := by omega
 have j2 : (0 : Int) ≤ (kk : Int) := by omega
 refine wp_region_held (S := fun V : World => V.cell? ⟨T, 4 + kk, none⟩ = some (.slice (some ⟨ge kk, 0, none⟩) B.takes.length ce)) (by kernel_rfl) ?_
 refine tq 0 15 hS0 ?_
 refine tq 1 16 hS0 ?_
 refine tq 2 17 hS0 ?_
 refine tq 4 19 hS0 ?_
 refine tq 5 20 hS0 ?_
 simp only [Act.put, List.setIfInBounds_toArray, List.set_cons_zero, List.set_cons_succ]
 refine wpAnyH_all (rs := [3]) (by kernel_rfl) (by simp) (fun j hj => ?_)
 obtain rfl : j = 3 := List.mem_singleton.1 hj
 clear hj
 refine op_call (R := fun v w1 => v = .int .i64 (kk : Nat) ∧ w1 = W1.drew) (f := 26) (some 18) rfl rfl (by rfl) (by go_simp; (try with_reducible rfl)) (hkd.mono ?_) ?_
 · rintro e w1 ⟨rfl, rfl⟩
   exact ⟨_, rfl, rfl, rfl⟩
 rintro v w1 ⟨rfl, rfl⟩
 refine ⟨hS0, ?_⟩
 simp only [Act.put, List.setIfInBounds_toArray, List.set_cons_zero, List.set_cons_succ]
 refine tq 6 21 hS0 ?_
 refine tq 7 22 hS0 ?_
 refine tq 8 6 hS0 ?_
 simp only [Act.put, List.setIfInBounds_toArray, List.set_cons_zero, List.set_cons_succ]
 refine wpAnyH_done (by kernel_rfl) (hK2 _ _ ?_) _
 have HB1 := hideT (And.intro (show W1.drew.ownsRow W.heap.size 4 1 (.slice (some ⟨W.heap.size, 0, none⟩) B.takes.length B.takes.length) B.takes.length (boV (rowI B (bnS s) (m + 1) (nxtF B s (m + 1)) 0)) from HT.out.2.1) (HT.out.2.2.trans (drew_below _ W1)))
 have t2' := keep_cell HB1.out.2 t2
 clear hkd hce hS0 hK2 hmk t2
 generalize W1.drew = U at *
 go_upto_block 0 with fail
 clear t2'
 have i0 : (B.takes.length : Int) ≤ 256 := by have := HP.out.2.2.1; omega
 go_wp2_with fail
 go_loopw [7, 8, 28] (fun s7 s8 s28 wr => ∃ i : Nat, i ≤ B.takes.length ∧ s28 = .int .i64 (i : Nat) ∧ Hid (wr.ownsRow W.heap.size 4 1 (.slice (some ⟨W.heap.size, 0, none⟩) B.takes.length B.takes.length) B.takes.length (boV (rowI B (bnS s) (m + 1) (nxtF B s (m + 1)) i)) ∧ Below W.heap.size W wr)) (fun _ _ s28 _ => ((B.takes.length : Int) - intOf s28).toNat)
 case atStart => exact ⟨0, Nat.zero_le _, rfl, HB1⟩
 case round =>
  obtain ⟨i, hi, rfl, HR⟩ := hrel
  by_cases hlt : i < B.takes.length
  · obtain ⟨q, hq⟩ : ∃ q, B.takes[i]? = some q := ⟨_, List.getElem?_eq_getElem hlt⟩
    have hTw := HT0.out.below HR.out.2
    have y0 := take_cells hTw.ti hq (j := 0) (by decide)
    have y1 := take_cells hTw.ti hq (j := 1) (by decide)
    have y2 := take_cells hTw.ti hq (j := 2) (by decide)
    have y3 := take_cells hTw.ti hq (j := 3) (by decide)
    rw [Nat.add_zero] at y0
    replace y0 : wr.cell? ⟨gt, i * 4, none⟩ = some (.int .u64 (wd q 0 : Nat)) := y0
    replace y1 : wr.cell? ⟨gt, i * 4 + 1, none⟩ = some (.int .u64 (wd q 1 : Nat)) := y1
    replace y2 : wr.cell? ⟨gt, i * 4 + 2, none⟩ = some (.int .u64 (wd q 2 : Nat)) := y2
    replace y3 : wr.cell? ⟨gt, i * 4 + 3, none⟩ = some (.int .u64 (wd q 3 : Nat)) := y3
    have i1 : (i : Int) < (B.takes.length : Int) := by omega
    have i2 : (0 : Int) ≤ (i : Int) := by omega
    have hbA := (Below.refl wr.heap.size wr).alloc (Nat.le_refl _) (.cells #[.int .u64 (wd q 0 : Nat), .int .u64 (wd q 1 : Nat), .int .u64 (wd q 2 : Nat), .int .u64 (wd q 3 : Nat)] 38)
    have hnA := World.alloc_heap_new wr (.cells #[.int .u64 (wd q 0 : Nat), .int .u64 (wd q 1 : Nat), .int .u64 (wd q 2 : Nat), .int .u64 (wd q 3 : Nat)] 38)
    have HA := hideT (And.intro hbA (And.intro hnA (And.intro hq hlt)))
    clear hbA hnA hq hTw hlt hi
    go_upto_region 6 with fail
    rename_i K6 hK6
    have hTV := HT0.out.below (HR.out.2.trans (HA.out.1.mono HR.out.2.size))
    have hbV := HR.out.2.trans (HA.out.1.mono HR.out.2.size)
    have hoV := HR.out.1.alloc (.cells #[.int .u64 (wd q 0 : Nat), .int .u64 (wd q 1 : Nat), .int .u64 (wd q 2 : Nat), .int .u64 (wd q 3 : Nat)] 38)
    have hWC : W.heap.size < wr.heap.size := (row_blk HR.out.1 (g := W.heap.size) rfl).2.1
    have hC8 := HA.out.2.1
    have hqi := HA.out.2.2.1
    have hlt := HA.out.2.2.2
    clear HA HR
    generalize wr.alloc (.cells #[.int .u64 (wd q 0 : Nat), .int .u64 (wd q 1 : Nat), .int .u64 (wd q 2 : Nat), .int .u64 (wd q 3 : Nat)] 38) = V1 at *
    generalize wr.heap.size = C8 at *
    have hTU := hTV.below (drew_below _ V1)
    have hoU : V1.drew.ownsRow W.heap.size 4 1 (.slice (some ⟨W.heap.size, 0, none⟩) B.takes.length B.takes.length) B.takes.length (boV (rowI B (bnS s) (m + 1) (nxtF B s (m + 1)) i)) := hoV
    have hbU := hbV.trans (drew_below _ V1)
    have hCU : V1.drew.heap[C8]? = some (.cells (wd4 q).toArray 38 (0, 0)) := hC8
    obtain ⟨c3, t3⟩ := hTU.ti.c3
    obtain ⟨ln, vn, e0, e1, e2, g0, g1⟩ := hTU.ti.at hlt
    obtain ⟨van, vcn, rfl⟩ := e2.shape
    obtain ⟨la, hla⟩ : ∃ la, la = (B.last.getD kk []).getD i 0 := ⟨_, rfl⟩
    have hlac := (hTU.la kk hk4).2 i hlt
    rw [← hla] at hlac
    have hS0 : (fun V : World => V.cell? ⟨C8, 0, none⟩ = some (.int .u64 (wd q 0 : Nat)) ∧ V.cell? ⟨C8, 1, none⟩ = some (.int .u64 (wd q 1 : Nat)) ∧ V.cell? ⟨C8, 2, none⟩ = some (.int .u64 (wd q 2 : Nat)) ∧ V.cell? ⟨C8, 3, none⟩ = some (.int .u64 (wd q 3 : Nat)) ∧ V.cell? ⟨T, 1, none⟩ = some (.string s) ∧ V.cell? ⟨T, 3, none⟩ = some (.slice (some ⟨gn, 0, none⟩) B.takes.length c3) ∧ V.cell? ⟨ge kk, i, none⟩ = some (.int .i64 (la : Nat)) ∧ V.cell? ⟨gn, i, none⟩ = some (.slice van ln.length vcn)) V1.drew := ⟨(cells_at hCU (j := 0) rfl).1, (cells_at hCU (j := 1) rfl).1, (cells_at hCU (j := 2) rfl).1, (cells_at hCU (j := 3) rfl).1, hTU.c1, t3, hlac, g0⟩
    obtain ⟨by0, hby⟩ : ∃ by0, s.data[m]? = some by0 := ⟨_, Array.getElem?_eq_getElem (by have := HP.out.1; exact this)⟩
    have p1 : (pl : Int) - 1 = (m : Int) := by have := HPL.out; omega
    have p2 : (m : Int) < (s.size : Int) := by have := HP.out.1; omega
    have p3 : (0 : Int) ≤ (m : Int) := by omega
    have p4 : (pl : Int) ≤ 1025 := by have := HP.out; have := HPL.out; omega
    have H9 := hideT (show IntKind.i64.wrap (m : Int) = (m : Int) by exact IntWalk.i64_in _ (by omega))
    refine wp_region_held (S := fun V : World => V.cell? ⟨C8, 0, none⟩ = some (.int .u64 (wd q 0 : Nat)) ∧ V.cell? ⟨C8, 1, none⟩ = some (.int .u64 (wd q 1 : Nat)) ∧ V.cell? ⟨C8, 2, none⟩ = some (.int .u64 (wd q 2 : Nat)) ∧ V.cell? ⟨C8, 3, none⟩ = some (.int .u64 (wd q 3 : Nat)) ∧ V.cell? ⟨T, 1, none⟩ = some (.string s) ∧ V.cell? ⟨T, 3, none⟩ = some (.slice (some ⟨gn, 0, none⟩) B.takes.length c3) ∧ V.cell? ⟨ge kk, i, none⟩ = some (.int .i64 (la : Nat)) ∧ V.cell? ⟨gn, i, none⟩ = some (.slice van ln.length vcn)) (by kernel_rfl) ?_
    show wpAnyH _ _ _ _ _ _ _ _ V1.drew
    have hWT : T < W.heap.size ∧ gn < W.heap.size ∧ ge kk < W.heap.size := ⟨HT0.out.ti.lt.1, HT0.out.ti.lt.2.2, World.block_lt_of_cell? W _ ((HT0.out.la kk hk4).2 i hlt)⟩
    clear hTV hoV hbV hC8 t3 hlac g0 g1 HT HB1
    generalize V1.drew = U at *
    refine tq 0 33 hS0 ?_
    refine tq 1 34 hS0 ?_
    refine tq 2 35 hS0 ?_
    refine tq 3 36 hS0 ?_
    refine tq 4 37 hS0 ?_
    refine tq 5 38 hS0 ?_
    refine tq 6 39 hS0 ?_
    refine tq 7 40 hS0 ?_
    refine tq 8 41 hS0 ?_
    refine tq (v := .int .u8 (by0.toNat : Nat)) 9 42 hS0 ?_ (hy := fun V hV => by
     go_simp
     rw [dif_pos (show 0 ≤ IntKind.i64.wrap (m : Int) ∧ IntKind.i64.wrap (m : Int) < (s.size : Int) by rw [H9.out]; exact ⟨p3, p2⟩)]
     exact idx_fact H9.out hby V)
    simp only [Act.put, List.setIfInBounds_toArray, List.set_cons_zero, List.set_cons_succ]
    have hhas := has_any q ((by0.toNat : Nat) : Int) (by omega) (by have := by0.toNat_lt; omega) U
    rw [Int.toNat_natCast] at hhas
    obtain ⟨bq, hbq⟩ : ∃ bq, bq = q by0.toNat := ⟨_, rfl⟩
    rw [← hbq] at hhas
    have hrow := rowF_at (s := bnS s) (pl := m + 1) (nxt := nxtF B s (m + 1)) hqi
    have hget : (bnS s).getD (m + 1 - 1) 0 = by0.toNat := by
     rw [Nat.add_sub_cancel, bnS, List.getD_eq_getElem?_getD, List.getElem?_map]
     rw [show s.data.toList[m]? = some by0 by rw [Array.getElem?_toList]; exact hby]; rfl
    have hnx : B.next.getD i [] = ln := by rw [List.getD_eq_getElem?_getD]; have e0' : B.next[i]? = some ln := e0; rw [e0']; rfl
    have hlp : lastAt B (bnS s).length (m + 1) i = la := by rw [hla, lastAt, bnS_len, HKK.out, HPL.out]
    rw [hget, ← hbq, hnx, bnS_len] at hrow
    rw [bnS_len] at hlp
    have hk8 : ∀ Z : World, Below U.heap.size U Z → (fun V : World => V.cell? ⟨C8, 0, none⟩ = some (.int .u64 (wd q 0 : Nat)) ∧ V.cell? ⟨C8, 1, none⟩ = some (.int .u64 (wd q 1 : Nat)) ∧ V.cell? ⟨C8, 2, none⟩ = some (.int .u64 (wd q 2 : Nat)) ∧ V.cell? ⟨C8, 3, none⟩ = some (.int .u64 (wd q 3 : Nat)) ∧ V.cell? ⟨T, 1, none⟩ = some (.string s) ∧ V.cell? ⟨T, 3, none⟩ = some (.slice (some ⟨gn, 0, none⟩) B.takes.length c3) ∧ V.cell? ⟨ge kk, i, none⟩ = some (.int .i64 (la : Nat)) ∧ V.cell? ⟨gn, i, none⟩ = some (.slice van ln.length vcn)) Z := fun Z hb => ⟨keep_cell hb hS0.1, keep_cell hb hS0.2.1, keep_cell hb hS0.2.2.1, keep_cell hb hS0.2.2.2.1, keep_cell hb hS0.2.2.2.2.1, keep_cell hb hS0.2.2.2.2.2.1, keep_cell hb hS0.2.2.2.2.2.2.1, keep_cell hb hS0.2.2.2.2.2.2.2⟩
    have hs8 : ∀ (Z : World) (v : Value), (fun V : World => V.cell? ⟨C8, 0, none⟩ = some (.int .u64 (wd q 0 : Nat)) ∧ V.cell? ⟨C8, 1, none⟩ = some (.int .u64 (wd q 1 : Nat)) ∧ V.cell? ⟨C8, 2, none⟩ = some (.int .u64 (wd q 2 : Nat)) ∧ V.cell? ⟨C8, 3, none⟩ = some (.int .u64 (wd q 3 : Nat)) ∧ V.cell? ⟨T, 1, none⟩ = some (.string s) ∧ V.cell? ⟨T, 3, none⟩ = some (.slice (some ⟨gn, 0, none⟩) B.takes.length c3) ∧ V.cell? ⟨ge kk, i, none⟩ = some (.int .i64 (la : Nat)) ∧ V.cell? ⟨gn, i, none⟩ = some (.slice van ln.length vcn)) Z → (fun V : World => V.cell? ⟨C8, 0, none⟩ = some (.int .u64 (wd q 0 : Nat)) ∧ V.cell? ⟨C8, 1, none⟩ = some (.int .u64 (wd q 1 : Nat)) ∧ V.cell? ⟨C8, 2, none⟩ = some (.int .u64 (wd q 2 : Nat)) ∧ V.cell? ⟨C8, 3, none⟩ = some (.int .u64 (wd q 3 : Nat)) ∧ V.cell? ⟨T, 1, none⟩ = some (.string s) ∧ V.cell? ⟨T, 3, none⟩ = some (.slice (some ⟨gn, 0, none⟩) B.takes.length c3) ∧ V.cell? ⟨ge kk, i, none⟩ = some (.int .i64 (la : Nat)) ∧ V.cell? ⟨gn, i, none⟩ = some (.slice van ln.length vcn)) (Z.setCell ⟨W.heap.size, i, none⟩ v) := fun Z v h => ⟨keep_cell_other (by omega) h.1, keep_cell_other (by omega) h.2.1, keep_cell_other (by omega) h.2.2.1, keep_cell_other (by omega) h.2.2.2.1, keep_cell_other (by omega) h.2.2.2.2.1, keep_cell_other (by omega) h.2.2.2.2.2.1, keep_cell_other (by omega) h.2.2.2.2.2.2.1, keep_cell_other (by omega) h.2.2.2.2.2.2.2⟩
    clear hby hget hnx hqi e0 hla
    refine wpAnyH_all (rs := [10]) (by kernel_rfl) (by simp) (fun j hj => ?_)
    obtain rfl : j = 10 := List.mem_singleton.1 hj
    clear hj
    have HBQ := hideT hbq
    clear hbq
    refine op_call (R := fun v w1 => v = .bool bq ∧ Below U.heap.size U w1) (f := 49) (some 43) rfl rfl (by rfl) (by go_simp; (try with_reducible rfl)) (hhas.mono ?_) ?_
    · rintro e w1 ⟨rfl, h1⟩
      exact ⟨_, rfl, rfl, h1⟩
    rintro v w7 ⟨rfl, hb7⟩
    have hS1 := hk8 w7 hb7
    have hbZ := hb7
    clear hhas
    refine ⟨hS1, ?_⟩
    simp only [Act.put, List.setIfInBounds_toArray, List.set_cons_zero, List.set_cons_succ]
    refine tq 11 44 hS1 ?_
    simp only [Act.put, List.setIfInBounds_toArray, List.set_cons_zero, List.set_cons_succ]
    rcases Bool.eq_false_or_eq_true bq with hbq | hbq
    · subst hbq
      have hbq : True := trivial
      by_cases hl0 : 0 < la
      · have i5 : (0 : Int) < (la : Int) := by omega
        refine tq 12 45 hS1 ?_
        refine tq 13 46 hS1 ?_
        refine tq 14 47 hS1 ?_
        simp only [Act.put, List.setIfInBounds_toArray, List.set_cons_zero, List.set_cons_succ]
        refine tq 15 48 hS1 ?_
        refine tq 16 49 hS1 ?_
        refine tq 17 50 hS1 ?_
        simp only [Act.put, List.setIfInBounds_toArray, List.set_cons_zero, List.set_cons_succ]
        refine tz 18 51 hS1 ?_
        simp only [Act.put, List.setIfInBounds_toArray, List.set_cons_zero, List.set_cons_succ]
        refine tz 19 52 hS1 ?_
        simp only [Act.put, List.setIfInBounds_toArray, List.set_cons_zero, List.set_cons_succ]
        refine tz 20 53 hS1 ?_
        simp only [Act.put, List.setIfInBounds_toArray, List.set_cons_zero, List.set_cons_succ]
        refine tz 21 54 hS1 ?_
        simp only [Act.put, List.setIfInBounds_toArray, List.set_cons_zero, List.set_cons_succ]
        refine tz 22 55 hS1 ?_
        simp only [Act.put, List.setIfInBounds_toArray, List.set_cons_zero, List.set_cons_succ]
        refine tz 23 56 hS1 ?_
        simp only [Act.put, List.setIfInBounds_toArray, List.set_cons_zero, List.set_cons_succ]
        refine tz 24 57 hS1 ?_
        simp only [Act.put, List.setIfInBounds_toArray, List.set_cons_zero, List.set_cons_succ]
        refine tz 25 58 hS1 ?_
        simp only [Act.put, List.setIfInBounds_toArray, List.set_cons_zero, List.set_cons_succ]
        refine tz 26 59 hS1 ?_
        simp only [Act.put, List.setIfInBounds_toArray, List.set_cons_zero, List.set_cons_succ]
        refine tz 27 60 hS1 ?_
        simp only [Act.put, List.setIfInBounds_toArray, List.set_cons_zero, List.set_cons_succ]
        refine tq 28 61 hS1 ?_
        have hoZ := row_keep hoU (W' := w7) (fun k hk => hbZ.block k (row_blk hoU hk).2.1)
        have hst := (hoZ.stored i (.bool true)).1
        rw [rowI_step hlt (x := true) (by rw [hrow, hlp, show Nat.blt 0 la = true from Nat.ble_eq_true_of_le hl0]; rfl)] at hst
        have hbW : Below W.heap.size W (w7.setCell ⟨W.heap.size, i, none⟩ (.bool true)) := (hbU.trans (hbZ.mono hbU.size)).setCell (p := ⟨W.heap.size, i, none⟩) (Nat.le_refl _) _
        have HN := hideT (And.intro hst hbW)
        have hx0 := hoZ.cellAt i (by omega)
        have hx1 := hoZ.frozenAt i
        obtain ⟨xv, hxv⟩ : ∃ xv, (boV (rowI B (bnS s) (m + 1) (nxtF B s (m + 1)) i))[i]? = some xv := ⟨_, List.getElem?_eq_getElem (by rw [rowI_len (by omega)]; exact hlt)⟩
        rw [hxv] at hx0
        clear hxv
        refine tq 29 62 hS1 ?_
        refine tq 30 63 hS1 ?_
        simp only [Act.put, List.setIfInBounds_toArray, List.set_cons_zero, List.set_cons_succ]
        refine wpAnyH_all (rs := [31]) (by kernel_rfl) (by simp) (fun j hj => ?_)
        obtain rfl : j = 31 := List.mem_singleton.1 hj
        refine op_skip rfl rfl (by rfl) (w' := w7.setCell ⟨W.heap.size, i, none⟩ (.bool true)) (by go_simp; (try rfl)) ⟨hs8 _ _ hS1, ?_⟩
        simp only [Act.put]
        refine wpAnyH_done (by kernel_rfl) (hK6 _ _ ?_) _
        have HLT := hideT hlt
        clear hoZ hst hbW hx0 hx1 hs8 hk8 hK6 hj hlt hrow hbU hbZ hoU hS0 hS1 hCU hTU
        generalize w7.setCell ⟨W.heap.size, i, none⟩ (.bool true) = Z9 at *
        try simp only [Act.put, List.setIfInBounds_toArray, List.set_cons_zero, List.set_cons_succ]
        go_wp2_with fail
        exact ⟨⟨i + 1, HLT.out, by go_num, HN⟩, by have := HLT.out; simp [intOf]; omega⟩

      · have i5 : ((0 : Int) < (la : Int)) = False := by rw [eq_iff_iff, iff_false]; omega
        refine tq 12 45 hS1 ?_
        refine tq 13 46 hS1 ?_
        refine tq 14 47 hS1 ?_
        simp only [Act.put, List.setIfInBounds_toArray, List.set_cons_zero, List.set_cons_succ]
        refine tq 15 48 hS1 ?_
        refine tq 16 49 hS1 ?_
        refine tq 17 50 hS1 ?_
        simp only [Act.put, List.setIfInBounds_toArray, List.set_cons_zero, List.set_cons_succ]
        refine tq 18 51 hS1 ?_
        refine tq 19 52 hS1 ?_
        refine tq 20 53 hS1 ?_
        simp only [Act.put, List.setIfInBounds_toArray, List.set_cons_zero, List.set_cons_succ]
        refine tq 21 54 hS1 ?_
        refine tq 22 55 hS1 ?_
        refine tq 23 56 hS1 ?_
        simp only [Act.put, List.setIfInBounds_toArray, List.set_cons_zero, List.set_cons_succ]
        refine tq 24 57 hS1 ?_
        refine tq 25 58 hS1 ?_
        refine tq 26 59 hS1 ?_
        simp only [Act.put, List.setIfInBounds_toArray, List.set_cons_zero, List.set_cons_succ]
        refine wpAnyH_all (rs := [27]) (by kernel_rfl) (by simp) (fun j hj => ?_)
        obtain rfl : j = 27 := List.mem_singleton.1 hj
        clear hj
        have hld := leads_of (W := w7) (pl := pl) (by rw [HPL.out]; exact hTU.below hb7) (by have := HPL.out; omega) (by have := HP.out; omega) (by have := HP.out; omega) (e2.keep (S' := fun g => g < w7.heap.size) (fun g hg => hb7.block g hg.2) fun g hg => Nat.lt_of_lt_of_le hg.2 hb7.size) (fun _ h => h) e1
        obtain ⟨lb, hlb⟩ : ∃ lb, lb = (bif Nat.beq pl s.size then false else leadsF (nxtF B s pl) ln 0) := ⟨_, rfl⟩
        rw [← hlb] at hld
        have HLB := hideT hlb
        clear hlb
        refine op_call (R := fun v w1 => v = .bool lb ∧ Below w7.heap.size w7 w1) (f := 50) (some 60) rfl rfl (by rfl) (by go_simp; (try with_reducible rfl)) (hld.mono ?_) ?_
        · rintro e w1 ⟨rfl, h1⟩
          exact ⟨_, rfl, rfl, h1⟩
        rintro v w8 ⟨rfl, hb8⟩
        have hb8U := hb7.trans (hb8.mono hb7.size)
        have hS2 := hk8 w8 hb8U
        have hbZ' := hbZ
        clear hbZ hS1 hld
        have hbZ := hb8U
        refine ⟨hS2, ?_⟩
        simp only [Act.put, List.setIfInBounds_toArray, List.set_cons_zero, List.set_cons_succ]
        refine tq 28 61 hS2 ?_
        have hoZ := row_keep hoU (W' := w8) (fun k hk => hbZ.block k (row_blk hoU hk).2.1)
        have hst := (hoZ.stored i (.bool lb)).1
        rw [rowI_step hlt (x := lb) (by rw [hrow, hlp, HLB.out, HPL.out, show Nat.blt 0 la = false by (cases e : Nat.blt 0 la with | false => rfl | true => exact absurd (Nat.le_of_ble_eq_true e) hl0)]; rfl)] at hst
        have hbW : Below W.heap.size W (w8.setCell ⟨W.heap.size, i, none⟩ (.bool lb)) := (hbU.trans (hbZ.mono hbU.size)).setCell (p := ⟨W.heap.size, i, none⟩) (Nat.le_refl _) _
        have HN := hideT (And.intro hst hbW)
        have hx0 := hoZ.cellAt i (by omega)
        have hx1 := hoZ.frozenAt i
        obtain ⟨xv, hxv⟩ : ∃ xv, (boV (rowI B (bnS s) (m + 1) (nxtF B s (m + 1)) i))[i]? = some xv := ⟨_, List.getElem?_eq_getElem (by rw [rowI_len (by omega)]; exact hlt)⟩
        rw [hxv] at hx0
        clear hxv
        refine tq 29 62 hS2 ?_
        refine tq 30 63 hS2 ?_
        simp only [Act.put, List.setIfInBounds_toArray, List.set_cons_zero, List.set_cons_succ]
        refine wpAnyH_all (rs := [31]) (by kernel_rfl) (by simp) (fun j hj => ?_)
        obtain rfl : j = 31 := List.mem_singleton.1 hj
        refine op_skip rfl rfl (by rfl) (w' := w8.setCell ⟨W.heap.size, i, none⟩ (.bool lb)) (by go_simp; (try rfl)) ⟨hs8 _ _ hS2, ?_⟩
        simp only [Act.put]
        refine wpAnyH_done (by kernel_rfl) (hK6 _ _ ?_) _
        have HLT := hideT hlt
        clear hoZ hst hbW hx0 hx1 hs8 hk8 hK6 hj hlt hrow hbU hbZ hoU hS0 hS2 hCU hTU
        generalize w8.setCell ⟨W.heap.size, i, none⟩ (.bool lb) = Z9 at *
        try simp only [Act.put, List.setIfInBounds_toArray, List.set_cons_zero, List.set_cons_succ]
        go_wp2_with fail
        exact ⟨⟨i + 1, HLT.out, by go_num, HN⟩, by have := HLT.out; simp [intOf]; omega⟩

    · subst hbq
      have hbq : True := trivial
      refine tz 12 45 hS1 ?_
      simp only [Act.put, List.setIfInBounds_toArray, List.set_cons_zero, List.set_cons_succ]
      refine tz 13 46 hS1 ?_
      simp only [Act.put, List.setIfInBounds_toArray, List.set_cons_zero, List.set_cons_succ]
      refine tz 14 47 hS1 ?_
      simp only [Act.put, List.setIfInBounds_toArray, List.set_cons_zero, List.set_cons_succ]
      refine tz 15 48 hS1 ?_
      simp only [Act.put, List.setIfInBounds_toArray, List.set_cons_zero, List.set_cons_succ]
      refine tz 16 49 hS1 ?_
      simp only [Act.put, List.setIfInBounds_toArray, List.set_cons_zero, List.set_cons_succ]
      refine tz 17 50 hS1 ?_
      simp only [Act.put, List.setIfInBounds_toArray, List.set_cons_zero, List.set_cons_succ]
      refine tz 18 51 hS1 ?_
      simp only [Act.put, List.setIfInBounds_toArray, List.set_cons_zero, List.set_cons_succ]
      refine tz 19 52 hS1 ?_
      simp only [Act.put, List.setIfInBounds_toArray, List.set_cons_zero, List.set_cons_succ]
      refine tz 20 53 hS1 ?_
      simp only [Act.put, List.setIfInBounds_toArray, List.set_cons_zero, List.set_cons_succ]
      refine tz 21 54 hS1 ?_
      simp only [Act.put, List.setIfInBounds_toArray, List.set_cons_zero, List.set_cons_succ]
      refine tz 22 55 hS1 ?_
      simp only [Act.put, List.setIfInBounds_toArray, List.set_cons_zero, List.set_cons_succ]
      refine tz 23 56 hS1 ?_
      simp only [Act.put, List.setIfInBounds_toArray, List.set_cons_zero, List.set_cons_succ]
      refine tz 24 57 hS1 ?_
      simp only [Act.put, List.setIfInBounds_toArray, List.set_cons_zero, List.set_cons_succ]
      refine tz 25 58 hS1 ?_
      simp only [Act.put, List.setIfInBounds_toArray, List.set_cons_zero, List.set_cons_succ]
      refine tz 26 59 hS1 ?_
      simp only [Act.put, List.setIfInBounds_toArray, List.set_cons_zero, List.set_cons_succ]
      refine tz 27 60 hS1 ?_
      simp only [Act.put, List.setIfInBounds_toArray, List.set_cons_zero, List.set_cons_succ]
      refine tz 28 61 hS1 ?_
      simp only [Act.put, List.setIfInBounds_toArray, List.set_cons_zero, List.set_cons_succ]
      have hoZ := row_keep hoU (W' := w7) (fun k hk => hbZ.block k (row_blk hoU hk).2.1)
      have hst := (hoZ.stored i (.bool false)).1
      rw [rowI_step hlt (x := false) (by rw [hrow]; rfl)] at hst
      have hbW : Below W.heap.size W (w7.setCell ⟨W.heap.size, i, none⟩ (.bool false)) := (hbU.trans (hbZ.mono hbU.size)).setCell (p := ⟨W.heap.size, i, none⟩) (Nat.le_refl _) _
      have HN := hideT (And.intro hst hbW)
      have hx0 := hoZ.cellAt i (by omega)
      have hx1 := hoZ.frozenAt i
      obtain ⟨xv, hxv⟩ : ∃ xv, (boV (rowI B (bnS s) (m + 1) (nxtF B s (m + 1)) i))[i]? = some xv := ⟨_, List.getElem?_eq_getElem (by rw [rowI_len (by omega)]; exact hlt)⟩
      rw [hxv] at hx0
      clear hxv
      refine tq 29 62 hS1 ?_
      refine tq 30 63 hS1 ?_
      simp only [Act.put, List.setIfInBounds_toArray, List.set_cons_zero, List.set_cons_succ]
      refine wpAnyH_all (rs := [31]) (by kernel_rfl) (by simp) (fun j hj => ?_)
      obtain rfl : j = 31 := List.mem_singleton.1 hj
      refine op_skip rfl rfl (by rfl) (w' := w7.setCell ⟨W.heap.size, i, none⟩ (.bool false)) (by go_simp; (try rfl)) ⟨hs8 _ _ hS1, ?_⟩
      simp only [Act.put]
      refine wpAnyH_done (by kernel_rfl) (hK6 _ _ ?_) _
      have HLT := hideT hlt
      clear hoZ hst hbW hx0 hx1 hs8 hk8 hK6 hj hlt hrow hbU hbZ hoU hS0 hS1 hCU hTU
      generalize w7.setCell ⟨W.heap.size, i, none⟩ (.bool false) = Z9 at *
      try simp only [Act.put, List.setIfInBounds_toArray, List.set_cons_zero, List.set_cons_succ]
      go_wp2_with fail
      exact ⟨⟨i + 1, HLT.out, by go_num, HN⟩, by have := HLT.out; simp [intOf]; omega⟩

  · obtain rfl : i = B.takes.length := by omega
    have HE := hideT (show wr.ownsRow W.heap.size 4 1 (.slice (some ⟨W.heap.size, 0, none⟩) B.takes.length B.takes.length) B.takes.length (boV (rowF B (bnS s) (m + 1) (nxtF B s (m + 1)))) by
     have := HR.out.1
     rwa [rowI, Nat.sub_self, List.replicate_zero, List.append_nil, List.take_of_length_le (by rw [rowF_len]; exact Nat.le_refl _)] at this)
    go_wp2_with fail
    go_ret
    exact ⟨_, rfl, (fun h => nomatch h), by rw [HPL.out]; exact HE.out, HR.out.2⟩
end Go.Proofs.Ytolpakpdkheanaa.tly
