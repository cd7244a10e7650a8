/- store: the document's put. -/
import Derived.Test.YtbibfpgcnmocjaaDa
import Derived.Deep.CutRange
namespace Go.Proofs.Ytbibfpgcnmocjaa
open Go.RowKit

theorem infoBool : (Try.prog.info? 4).map (fun i => (i.zero, i.size, i.bytes)) = some (some (.bool false), 1, 1) := by kernel_rfl
theorem op_append {P : Program} {ops : Array Oper} {Q : Exit → Act → World → Prop} {i : Nat} {op : Oper} {K : Act → World → Prop} {a : Act} {w w' : World} {v : Value} (d : Option Tmp) (hi : ops[i]? = some op) (hd : op.dst = d) (hw : Region.wanted op (yielded ops a.tmps) = true) (s x : Operand) (t : TypeId) (ho : op.op = .call { callee := .builtin .append, args := #[s, x], argTypes := #[t, t] }) (hx : (Builtin.append_ #[t, t] op.type #[a.eval s, a.eval x]).run P w = .ok v w') (h : K (a.put d v) w') : wpOp P ops Q i K a w := by
  refine op_value d hi hd hw ?_ h
  unfold execOp
  simp only [ho, resolve, invoke, builtin, Sem.run_bind, Sem.run_pure, Result.andThen_ok, List.map_toArray, List.map_cons, List.map_nil, hx]
theorem itF_app (a b : Fs) : itF (a ++ b) = itF a ++ itF b := by simp [itF]
theorem opsV_app (a b : Fs) : opsV (a ++ b) = opsV a ++ opsV b := by simp [opsV]
/-- The two lists that put makes. -/
structure PK (W1 V : World) (u6 u7 : Value) (A6 A7 : Fs) : Prop where
  bel : Below W1.heap.size W1 V
  fil : V.ownsRow W1.heap.size 52 2 u6 A6.length (flV (itF A6))
  opn : V.ownsRow W1.heap.size 4 1 u7 A7.length (opsV A7)
theorem PK.alloc {W1 V : World} {u6 u7 : Value} {A6 A7 : Fs} (h : PK W1 V u6 u7 A6 A7) (o : Obj) : PK W1 (V.alloc o) u6 u7 A6 A7 := ⟨h.bel.alloc h.bel.size o, World.ownsRow.alloc h.fil o, World.ownsRow.alloc h.opn o⟩
theorem PK.alloc0 {W1 V : World} {u6 u7 : Value} {A6 A7 : Fs} (h : PK W1 V u6 u7 A6 A7) : PK W1 V.drew u6 u7 A6 A7 := ⟨h.bel.drew, owns_keep h.fil (fun _ _ => rfl), owns_keep h.opn (fun _ _ => rfl)⟩
theorem pk_file {W1 V : World} {u6 u7 : Value} {A6 A7 : Fs} (h : PK W1 V u6 u7 A6 A7) {eb : Nat} {x : List UInt8 × Fl} (he : V.heap[eb]? = some (.cells #[.string ⟨x.1.toArray⟩, .string ⟨x.2.data.toArray⟩] 52 (0, 0))) (hl : A6.length ≤ 1000) (ty : TypeId) :
    ∃ g cap w', (Builtin.append_ #[22, 22] ty #[u6, .slice (some ⟨eb, 0, none⟩) 1 1]).run Try.prog V = .ok (.slice (some ⟨g, 0, none⟩) (A6.length + 1) cap) w' ∧ PK W1 w' (.slice (some ⟨g, 0, none⟩) (A6.length + 1) cap) u7 (A6 ++ [x]) A7 ∧ ∀ j, j < V.heap.size → u6.ownBlock ≠ some j → w'.heap[j]? = V.heap[j]? := by
  obtain ⟨i0, hi, hz0, hz1, hz2⟩ := info_parts infoFl
  obtain ⟨g, cap, w', hr, ho, hg, _, _⟩ := run_append_lies (P := Try.prog) V 22 ty W1.heap.size 52 i0 _ 2 32 Try.underlying22 hi hz0 hz1 hz2 rfl (by decide) u6 A6.length _ h.fil ⟨eb, 0, none⟩ 1 1 [.string ⟨x.1.toArray⟩, .string ⟨x.2.data.toArray⟩] rfl (World.news_of_block (cs := #[.string ⟨x.1.toArray⟩, .string ⟨x.2.data.toArray⟩]) (t := 52) (fr := (0, 0)) he) (by simp [Value.oneCell']) (by decide) (by unfold maxLen; omega) (by omega) h.bel.size V.heap.size rfl
  have hj : ∀ j, j < V.heap.size → u6.ownBlock ≠ some j → w'.heap[j]? = V.heap[j]? := fun j h1 h2 => hg.block j h1 (fun e => h2 e.symm)
  refine ⟨g, cap, w', hr, ⟨h.bel.grown hg h.bel.size (fun k hk => (row_in h.fil hk).1), ?_, ?_⟩, hj⟩
  · rw [List.length_append, itF_app, flV_app]
    exact ho
  · refine owns_keep h.opn (fun g' hg' => hj g' (row_in h.opn hg').2 (fun e => ?_))
    obtain ⟨cur, hh⟩ := row_type h.fil e
    exact row_ne h.opn hh (by decide) hg' rfl
theorem pk_bool {W1 V : World} {u6 u7 : Value} {A6 A7 : Fs} (h : PK W1 V u6 u7 A6 A7) {eb : Nat} {x : List UInt8 × Fl} (he : V.heap[eb]? = some (.cells #[.bool x.2.op] 4 (0, 0))) (hl : A7.length ≤ 1000) (ty : TypeId) :
    ∃ g cap w', (Builtin.append_ #[35, 35] ty #[u7, .slice (some ⟨eb, 0, none⟩) 1 1]).run Try.prog V = .ok (.slice (some ⟨g, 0, none⟩) (A7.length + 1) cap) w' ∧ PK W1 w' u6 (.slice (some ⟨g, 0, none⟩) (A7.length + 1) cap) A6 (A7 ++ [x]) ∧ ∀ j, j < V.heap.size → u7.ownBlock ≠ some j → w'.heap[j]? = V.heap[j]? := by
  obtain ⟨i0, hi, hz0, hz1, hz2⟩ := info_parts infoBool
  obtain ⟨g, cap, w', hr, ho, hg, _, _⟩ := run_append_lies (P := Try.prog) V 35 ty W1.heap.size 4 i0 _ 1 1 Try.underlying35 hi hz0 hz1 hz2 rfl (by decide) u7 A7.length _ h.opn ⟨eb, 0, none⟩ 1 1 [.bool x.2.op] rfl (World.news_of_block (cs := #[.bool x.2.op]) (t := 4) (fr := (0, 0)) he) (by simp [Value.oneCell']) (by decide) (by unfold maxLen; omega) (by omega) h.bel.size V.heap.size rfl
  have hj : ∀ j, j < V.heap.size → u7.ownBlock ≠ some j → w'.heap[j]? = V.heap[j]? := fun j h1 h2 => hg.block j h1 (fun e => h2 e.symm)
  refine ⟨g, cap, w', hr, ⟨h.bel.grown hg h.bel.size (fun k hk => (row_in h.opn hk).1), ?_, ?_⟩, hj⟩
  · refine owns_keep h.fil (fun g' hg' => hj g' (row_in h.fil hg').2 (fun e => ?_))
    obtain ⟨cur, hh⟩ := row_type h.opn e
    exact row_ne h.fil hh (by decide) hg' rfl
  · rw [List.length_append, opsV_app]
    exact ho
/-- How far put has come. -/
def Putk (fs : Fs) (n : List UInt8) (f : Fl) (k : Nat) (A : Fs) (dn : Bool) : Prop := A.length ≤ k + 1 ∧ ((dn = true ∧ A ++ fs.drop k = insF fs n f) ∨ (dn = false ∧ A = fs.take k ∧ insF fs n f = fs.take k ++ insF (fs.drop k) n f))
theorem put_start (fs : Fs) (n : List UInt8) (f : Fl) : Putk fs n f 0 [] false := ⟨by simp, .inr ⟨rfl, by simp, by simp⟩⟩
theorem put_in {fs : Fs} {n : List UInt8} {f : Fl} {k : Nat} {A : Fs} {x : List UInt8 × Fl} (h : Putk fs n f k A false) (hx : fs[k]? = some x) (hlt : n < x.1) : Putk fs n f (k + 1) ((A ++ [(n, f)]) ++ [x]) true := by
  obtain ⟨hl, ⟨h1, _⟩ | ⟨_, hA, hi⟩⟩ := h
  · cases h1
  · obtain ⟨hk, rfl⟩ := List.getElem?_eq_some_iff.1 hx
    refine ⟨by rw [hA]; simp; omega, .inl ⟨rfl, ?_⟩⟩
    rw [hi, List.drop_eq_getElem_cons hk, insF, if_pos hlt, hA]
    simp
theorem put_on {fs : Fs} {n : List UInt8} {f : Fl} {k : Nat} {A : Fs} {x : List UInt8 × Fl} {dn : Bool} (h : Putk fs n f k A dn) (hx : fs[k]? = some x) (hlt : dn = false → ¬ n < x.1) : Putk fs n f (k + 1) (A ++ [x]) dn := by
  obtain ⟨hk, rfl⟩ := List.getElem?_eq_some_iff.1 hx
  obtain ⟨hl, ⟨h1, h2⟩ | ⟨h1, hA, hi⟩⟩ := h
  · refine ⟨by simp; omega, .inl ⟨h1, ?_⟩⟩
    rw [← h2, List.drop_eq_getElem_cons hk]
    simp
  · have ht : fs.take (k + 1) = fs.take k ++ [fs[k]] := by rw [List.take_add_one, hx]; rfl
    refine ⟨by simp; omega, .inr ⟨h1, by rw [ht, hA], ?_⟩⟩
    rw [hi, List.drop_eq_getElem_cons hk, insF, if_neg (hlt h1), ht, List.append_assoc]
    rfl

theorem keep_frz {W V : World} {b k : Nat} (hb : Below W.heap.size W V) (hlt : b < W.heap.size) (h : W.frozen? ⟨b, k, none⟩ = false) : V.frozen? ⟨b, k, none⟩ = false := (World.frozen?_of_block (a := ⟨b, k, none⟩) (hb.block b hlt)).trans h
set_option maxRecDepth 100000 in
set_option maxHeartbeats 8000000 in
theorem put_any {W : World} {B b : Nat} {lv ov : Value} {S : Sr} (h : DA W B b lv ov S) (hl : S.fs.length ≤ 16) (n d : List UInt8) (o : Bool) : Calls Try.prog 36 #[ptrV b, .agg #[.string ⟨n.toArray⟩, .string ⟨d.toArray⟩], .bool o] W fun e w' => e = .returned (.tuple #[]) ∧ Tch (fun k => k = b) W w' ∧ ∃ lv2 ov2, DA w' B b lv2 ov2 ⟨insF S.fs n ⟨d, o⟩, S.out, S.wr⟩ ∧ ∀ g, lv2.ownBlock = some g ∨ ov2.ownBlock = some g → W.heap.size ≤ g := by
  obtain ⟨W1, hW1⟩ : ∃ W1, W1 = W.alloc (.cells #[.string ⟨n.toArray⟩, .string ⟨d.toArray⟩] 52) := ⟨_, rfl⟩
  have hbx : W1.heap[W.heap.size]? = some (.cells #[.string ⟨n.toArray⟩, .string ⟨d.toArray⟩] 52 (0, 0)) := by rw [hW1]; exact heap_alloc_new W _
  have hWb : Below W.heap.size W W1 := by rw [hW1]; exact (Below.refl _ W).alloc (Nat.le_refl _) _
  have h1 := h.keep (W' := W1) (fun k hk => hWb.block k (h.lt hk).2)
  obtain ⟨c0, _⟩ := h1.c0
  obtain ⟨c1, _⟩ := h1.c1
  have x0 : W1.cell? ⟨W.heap.size, 0, none⟩ = some (.string ⟨n.toArray⟩) := by simp [World.cell?, hbx]
  have x1 : W1.cell? ⟨W.heap.size, 1, none⟩ = some (.string ⟨d.toArray⟩) := by simp [World.cell?, hbx]
  have HH := hideT (And.intro h1 (And.intro hWb h.blt))
  obtain ⟨a1, cap1, rfl, hl1⟩ := h1.list
  obtain ⟨a2, cap2, rfl, hl2⟩ := h1.opens
  have HL1 := hideT hl1
  have HL2 := hideT hl2
  have hbs : W.heap.size < W1.heap.size := (Array.getElem?_eq_some_iff.1 hbx).1
  have HFZ := hideT (show W1.frozen? ⟨b, 0, none⟩ = false ∧ W1.frozen? ⟨b, 1, none⟩ = false from ⟨h1.c0.2, h1.c1.2⟩)
  have HBX := hideT (show W.heap.size = W.heap.size from rfl)
  clear h h1 hWb hl1 hl2 hbx
  go_enter Try.func36, Try.ntmps36
  go_wp2_with fail
  rw [← hW1]
  obtain ⟨bx, hbxe⟩ : ∃ bx, bx = W.heap.size := ⟨_, rfl⟩
  replace HBX := hideT hbxe.symm
  rw [← hbxe] at x0 x1 hbs ⊢
  clear hbxe
  go_loopw [6, 7, 8, 9] (fun u6 u7 dv iv wr => ∃ (k : Nat) (A : Fs) (dn : Bool), k ≤ S.fs.length ∧ iv = .int .i64 (k : Nat) ∧ (∃ a c, u6 = .slice a A.length c) ∧ (∃ a c, u7 = .slice a A.length c) ∧ dv = .bool dn ∧ Hid (PK W1 wr u6 u7 A A) ∧ Hid (Putk S.fs n ⟨d, o⟩ k A dn)) (fun _ _ _ iv _ => S.fs.length - (intOf iv).toNat)
  case atStart => exact ⟨0, [], false, Nat.zero_le _, rfl, ⟨_, _, rfl⟩, ⟨_, _, rfl⟩, rfl, hideT ⟨Below.refl _ _, World.ownsRow_nil _ _ _ _, World.ownsRow_nil _ _ _ _⟩, hideT (put_start _ _ _)⟩
  case round =>
    obtain ⟨k, A, dn, hk, rfl, ⟨a6, c6, rfl⟩, ⟨a7, c7, rfl⟩, rfl, HPK, HPU⟩ := hrel
    by_cases hlt : k < S.fs.length
    · have i1 : (k : Int) < (S.fs.length : Int) := by omega
      have i2 : (0 : Int) ≤ (k : Int) := by omega
      have hx := List.getElem?_eq_getElem hlt
      obtain ⟨g1, rfl, ⟨p1, _⟩, p2, _⟩ := HL1.out k _ hx
      obtain ⟨g2, rfl, p3, _⟩ := HL2.out k _ hx
      generalize (S.fs[k]'hlt) = x at hx p1 p2 p3
      have HX := hideT hx
      have w1' : IntKind.i64.wrap ((k : Int) + 1) = (k : Int) + 1 := by rw [IntKind.wrap_i64]; omega
      have hAl := HPU.out.1
      clear hx
      have m0 := keep_cell HPK.out.bel c0
      have m1 := keep_cell HPK.out.bel x0
      have m2 := keep_cell HPK.out.bel p1
      -- the first region
      obtain ⟨tst, htst⟩ : ∃ tst : Bool, tst = (!dn && Op.bytesLess n x.1) := ⟨_, rfl⟩
      have HTST := hideT htst
      clear htst
      go_upto_region 7 with fail
      go_cut [33] from 10 to 61 (fun s33 w' => s33 = .bool tst ∧ ∃ nq, w' = wr.drewN nq)
      case first =>
        have HT2 := HTST.out
        clear HTST HPK HPU
        cases dn with
        | true =>
          obtain rfl : tst = false := by rw [HT2]; rfl
          clear HT2
          go_wp2_with fail
          go_quiet (fail)
          go_wp2_with fail
          all_goals go_meet
          all_goals exact ⟨rfl, _, rfl⟩
        | false =>
          obtain rfl : tst = Op.bytesLess n x.1 := by rw [HT2]; rfl
          clear HT2
          go_wp2_with fail
          go_quiet (fail)
          go_wp2_with fail
          all_goals go_meet
          all_goals exact ⟨rfl, _, rfl⟩
      case rest =>
      obtain ⟨rfl, nq, hwc⟩ := hcut
      have HPK0 := hideT (show PK W1 wc _ _ A A by rw [hwc]; exact ⟨HPK.out.bel.trans (below_drewN _ _ _), owns_keep HPK.out.fil (fun _ _ => rfl), owns_keep HPK.out.opn (fun _ _ => rfl)⟩)
      clear hwc HPK m0 m1 m2
      go_upto_if 33 with fail
      go_cut [6, 7, 8] from 10 to 61 (fun s6 s7 s8 wy => ∃ (A' : Fs) (dn' : Bool), (∃ a c, s6 = .slice a A'.length c) ∧ (∃ a c, s7 = .slice a A'.length c) ∧ s8 = .bool dn' ∧ Hid (PK W1 wy s6 s7 A' A') ∧ Hid (Putk S.fs n ⟨d, o⟩ (k + 1) (A' ++ [x]) dn') ∧ A'.length ≤ 100)
      case first =>
        by_cases hin : dn = false ∧ n < x.1
        · obtain ⟨rfl, hnx⟩ := hin
          obtain rfl : tst = true := by rw [HTST.out, bytesLess_eq, decide_eq_true hnx]; rfl
          have HST := hideT (put_in HPU.out HX.out hnx)
          have m4 := keep_cell HPK0.out.bel x0
          have m5 := keep_cell HPK0.out.bel x1
          obtain ⟨g6, cc6, V2, r6, hp6, -⟩ := pk_file (HPK0.out.alloc (.cells #[.string ⟨n.toArray⟩, .string ⟨d.toArray⟩] 52)) (heap_alloc_new wc _) (by omega) (x := (n, ⟨d, o⟩)) 22
          obtain ⟨g7, cc7, V4, r7, hp7, -⟩ := pk_bool (hp6.alloc (.cells #[.bool o] 4)) (heap_alloc_new V2 _) (by omega) (x := (n, ⟨d, o⟩)) 35
          have R6 := hideT r6
          have R7 := hideT r7
          have HPK1 := hideT hp7
          clear r6 r7 hp6 hp7 HPK0 HPU hnx HTST
          go_wp2_with (first | (at_builtin; refine wpList_run rfl _ _ _ _ rfl R6.out ?_) | (at_builtin; refine wpList_run rfl _ _ _ _ rfl R7.out ?_))
          go_meet
          exact ⟨A ++ [(n, ⟨d, o⟩)], true, ⟨_, _, by rw [List.length_append]; rfl⟩, ⟨_, _, by rw [List.length_append]; rfl⟩, rfl, HPK1, HST, by simp; omega⟩
        · obtain rfl : tst = false := by
            rw [HTST.out, bytesLess_eq]
            cases dn with
            | true => rfl
            | false => rw [decide_eq_false (fun h => hin ⟨rfl, h⟩)]; rfl
          have HST := hideT (put_on HPU.out HX.out (fun e h => hin ⟨e, h⟩))
          clear HTST hin HPU
          go_wp2_with fail
          go_meet
          exact ⟨A, dn, ⟨_, _, rfl⟩, ⟨_, _, rfl⟩, rfl, HPK0, HST, by omega⟩
      case rest =>
      obtain ⟨A', dn', ⟨b6, e6, rfl⟩, ⟨b7, e7, rfl⟩, rfl, HPK1, HST, hAl'⟩ := hcut
      clear HPK0 HPU HTST
      generalize wc = wy at *
      go_wp2_with fail
      have s0 := (HPK1.out.alloc0).bel
      refine wp_region_held (S := fun V => Below W1.heap.size W1 V) (by kernel_rfl) ?_
      refine' take_d 0 (some 42) rfl rfl (by kernel_rfl) (by kernel_rfl) (by kernel_rfl) (fun _ _ _ h => h) (wanted_none rfl _) s0 ?tk1 ?rs1
      case tk1 => intro V hV; go_simp; (try with_reducible rfl)
      refine' take_d 1 (some 43) rfl rfl (by kernel_rfl) (by kernel_rfl) (by kernel_rfl) (fun _ _ _ h => h) (wanted_none rfl _) s0 ?tk2 ?rs2
      case tk2 => intro V hV; go_simp; (try with_reducible rfl)
      refine' take_d 2 (some 44) rfl rfl (by kernel_rfl) (by kernel_rfl) (by kernel_rfl) (fun _ _ _ h => h) (wanted_none rfl _) s0 ?tk3 ?rs3
      case tk3 => intro V hV; go_simp; (try with_reducible rfl)
      refine' take_d 3 (some 45) rfl rfl (by kernel_rfl) (by kernel_rfl) (by kernel_rfl) (fun _ _ _ h => h) (wanted_none rfl _) s0 ?tk4 ?rs4
      case tk4 => intro V hV; go_simp; (try with_reducible rfl)
      refine' take_d 4 (some 46) rfl rfl (by kernel_rfl) (by kernel_rfl) (by kernel_rfl) (fun _ _ _ h => h) (wanted_none rfl _) s0 ?tk5 ?rs5
      case tk5 => intro V hV; have hc := keep_cell hV c0; go_simp; (try with_reducible rfl)
      refine' take_d 5 (some 47) rfl rfl (by kernel_rfl) (by kernel_rfl) (by kernel_rfl) (fun _ _ _ h => h) (wanted_none rfl _) s0 ?tk6 ?rs6
      case tk6 => intro V hV; go_simp; (try with_reducible rfl)
      refine' take_d 6 (some 48) rfl rfl (by kernel_rfl) (by kernel_rfl) (by kernel_rfl) (fun _ _ _ h => h) (wanted_none rfl _) s0 ?tk7 ?rs7
      case tk7 => intro V hV; go_simp; (try with_reducible rfl)
      refine' take_d 7 (some 49) rfl rfl (by kernel_rfl) (by kernel_rfl) (by kernel_rfl) (fun _ _ _ h => h) (wanted_none rfl _) s0 ?tk8 ?rs8
      case tk8 => intro V hV; have hc1 := keep_cell hV p1; have hc2 := keep_cell hV p2; go_simp; (try with_reducible rfl)
      refine' take_d 10 (some 52) rfl rfl (by kernel_rfl) (by kernel_rfl) (by kernel_rfl) (fun _ _ _ h => h) (wanted_none rfl _) s0 ?tk9 ?rs9
      case tk9 => intro V hV; go_simp; (try with_reducible rfl)
      refine' take_d 11 (some 53) rfl rfl (by kernel_rfl) (by kernel_rfl) (by kernel_rfl) (fun _ _ _ h => h) (wanted_none rfl _) s0 ?tk10 ?rs10
      case tk10 => intro V hV; go_simp; (try with_reducible rfl)
      refine' take_d 12 (some 54) rfl rfl (by kernel_rfl) (by kernel_rfl) (by kernel_rfl) (fun _ _ _ h => h) (wanted_none rfl _) s0 ?tk11 ?rs11
      case tk11 => intro V hV; go_simp; (try with_reducible rfl)
      refine' take_d 13 (some 55) rfl rfl (by kernel_rfl) (by kernel_rfl) (by kernel_rfl) (fun _ _ _ h => h) (wanted_none rfl _) s0 ?tk12 ?rs12
      case tk12 => intro V hV; go_simp; (try with_reducible rfl)
      refine' take_d 14 (some 56) rfl rfl (by kernel_rfl) (by kernel_rfl) (by kernel_rfl) (fun _ _ _ h => h) (wanted_none rfl _) s0 ?tk13 ?rs13
      case tk13 => intro V hV; have hc := keep_cell hV c1; go_simp; (try with_reducible rfl)
      refine' take_d 15 (some 57) rfl rfl (by kernel_rfl) (by kernel_rfl) (by kernel_rfl) (fun _ _ _ h => h) (wanted_none rfl _) s0 ?tk14 ?rs14
      case tk14 => intro V hV; go_simp; (try with_reducible rfl)
      refine' take_d 16 (some 58) rfl rfl (by kernel_rfl) (by kernel_rfl) (by kernel_rfl) (fun _ _ _ h => h) (wanted_none rfl _) s0 ?tk15 ?rs15
      case tk15 => intro V hV; go_simp; (try with_reducible rfl)
      refine' take_d 17 (some 59) rfl rfl (by kernel_rfl) (by kernel_rfl) (by kernel_rfl) (fun _ _ _ h => h) (wanted_none rfl _) s0 ?tk16 ?rs16
      case tk16 => intro V hV; have hc := keep_cell hV p3; go_simp; (try with_reducible rfl)
      simp only [Act.put, List.setIfInBounds_toArray, List.set_cons_zero, List.set_cons_succ]
      have HP0 := hideT HPK1.out.alloc0
      clear HPK1 s0
      have hwy : ({ wy with drawn := wy.drawn + 1 } : World) = wy.drew := rfl
      rw [hwy]
      generalize wy.drew = V0 at *
      clear hwy
      refine wpAnyH_all (rs := [8, 18]) (by kernel_rfl) (by simp) (fun i hi => ?_)
      have hc2 : i = 8 ∨ i = 18 := by simpa using hi
      clear hi
      rcases hc2 with rfl | rfl
      · have hnF := heap_alloc_new V0 (.cells #[.string ⟨x.1.toArray⟩, .string ⟨x.2.data.toArray⟩] 52)
        have HP1 := hideT (HP0.out.alloc (.cells #[.string ⟨x.1.toArray⟩, .string ⟨x.2.data.toArray⟩] 52))
        refine op_value (some 50) (v := .slice (some ⟨V0.heap.size, 0, none⟩) 1 1) (w' := V0.alloc (.cells #[.string ⟨x.1.toArray⟩, .string ⟨x.2.data.toArray⟩] 52)) rfl rfl (wanted_none rfl _) (by go_simp; (try with_reducible rfl)) ?_
        generalize V0.alloc (.cells #[.string ⟨x.1.toArray⟩, .string ⟨x.2.data.toArray⟩] 52) = V1 at *
        refine And.intro HP1.out.bel ?_
        simp only [Act.put, List.setIfInBounds_toArray, List.set_cons_zero, List.set_cons_succ]
        refine wpAnyH_all (rs := [9, 18]) (by kernel_rfl) (by simp) (fun i hi => ?_)
        have hc2 : i = 9 ∨ i = 18 := by simpa using hi
        clear hi
        rcases hc2 with rfl | rfl
        · obtain ⟨gf, cf, V2, r6, hp6, hkp⟩ := pk_file HP1.out hnF (by omega) (x := x) 22
          refine op_append (some 51) rfl rfl (wanted_none rfl _) _ _ _ rfl r6 ?_
          have HP2 := hideT hp6
          clear r6 hp6 hkp
          refine And.intro HP2.out.bel ?_
          simp only [Act.put, List.setIfInBounds_toArray, List.set_cons_zero, List.set_cons_succ]
          refine wpAnyH_all (rs := [18]) (by kernel_rfl) (by simp) (fun i hi => ?_)
          obtain rfl : i = 18 := List.mem_singleton.1 hi
          clear hi
          have hnB := heap_alloc_new V2 (.cells #[.bool x.2.op] 4)
          have HP3 := hideT (HP2.out.alloc (.cells #[.bool x.2.op] 4))
          refine op_value (some 60) (v := .slice (some ⟨V2.heap.size, 0, none⟩) 1 1) (w' := V2.alloc (.cells #[.bool x.2.op] 4)) rfl rfl (wanted_none rfl _) (by go_simp; (try with_reducible rfl)) ?_
          generalize V2.alloc (.cells #[.bool x.2.op] 4) = V3 at *
          refine And.intro HP3.out.bel ?_
          simp only [Act.put, List.setIfInBounds_toArray, List.set_cons_zero, List.set_cons_succ]
          refine wpAnyH_all (rs := [19]) (by kernel_rfl) (by simp) (fun i hi => ?_)
          obtain rfl : i = 19 := List.mem_singleton.1 hi
          clear hi
          obtain ⟨gb, cb, V4, r7, hp7, -⟩ := pk_bool HP3.out hnB (by omega) (x := x) 35
          refine op_append (some 61) rfl rfl (wanted_none rfl _) _ _ _ rfl r7 ?_
          have HP4 := hideT hp7
          clear r7 hp7
          refine And.intro HP4.out.bel ?_
          simp only [Act.put, List.setIfInBounds_toArray, List.set_cons_zero, List.set_cons_succ]
          refine' take_d 20 (some 6) rfl rfl (by kernel_rfl) (by kernel_rfl) (by kernel_rfl) (fun _ _ _ h => h) (wanted_none rfl _) HP4.out.bel ?tk17 ?rs17
          case tk17 => intro V hV; go_simp; (try with_reducible rfl)
          refine' take_d 21 (some 7) rfl rfl (by kernel_rfl) (by kernel_rfl) (by kernel_rfl) (fun _ _ _ h => h) (wanted_none rfl _) HP4.out.bel ?tk18 ?rs18
          case tk18 => intro V hV; go_simp; (try with_reducible rfl)
          simp only [Act.put, List.setIfInBounds_toArray, List.set_cons_zero, List.set_cons_succ]
          refine wpAnyH_done (by kernel_rfl) ?_ _
          go_wp2
          exact ⟨⟨k + 1, A' ++ [x], dn', by omega, by go_num, ⟨some ⟨gf, 0, none⟩, cf, by simp⟩, ⟨some ⟨gb, 0, none⟩, cb, by simp⟩, rfl, HP4, HST⟩, by simp [intOf]; omega⟩
        · have hnB := heap_alloc_new V1 (.cells #[.bool x.2.op] 4)
          have hnF2 := (Below.heap_alloc V1 (.cells #[.bool x.2.op] 4) _ (Array.getElem?_eq_some_iff.1 hnF).1).trans hnF
          have HP2 := hideT (HP1.out.alloc (.cells #[.bool x.2.op] 4))
          refine op_value (some 60) (v := .slice (some ⟨V1.heap.size, 0, none⟩) 1 1) (w' := V1.alloc (.cells #[.bool x.2.op] 4)) rfl rfl (wanted_none rfl _) (by go_simp; (try with_reducible rfl)) ?_
          generalize V1.alloc (.cells #[.bool x.2.op] 4) = V2 at *
          refine And.intro HP2.out.bel ?_
          simp only [Act.put, List.setIfInBounds_toArray, List.set_cons_zero, List.set_cons_succ]
          refine wpAnyH_all (rs := [9]) (by kernel_rfl) (by simp) (fun i hi => ?_)
          obtain rfl : i = 9 := List.mem_singleton.1 hi
          clear hi
          obtain ⟨gf, cf, V3, r6, hp6, hkp⟩ := pk_file HP2.out hnF2 (by omega) (x := x) 22
          refine op_append (some 51) rfl rfl (wanted_none rfl _) _ _ _ rfl r6 ?_
          have HP3 := hideT hp6
          have hnB2 := (hkp _ (Array.getElem?_eq_some_iff.1 hnB).1 (fun e => row_ne HP2.out.fil hnB (by decide) e rfl)).trans hnB
          clear r6 hp6 hkp
          refine And.intro HP3.out.bel ?_
          simp only [Act.put, List.setIfInBounds_toArray, List.set_cons_zero, List.set_cons_succ]
          refine wpAnyH_all (rs := [19]) (by kernel_rfl) (by simp) (fun i hi => ?_)
          obtain rfl : i = 19 := List.mem_singleton.1 hi
          clear hi
          obtain ⟨gb, cb, V4, r7, hp7, -⟩ := pk_bool HP3.out hnB2 (by omega) (x := x) 35
          refine op_append (some 61) rfl rfl (wanted_none rfl _) _ _ _ rfl r7 ?_
          have HP4 := hideT hp7
          clear r7 hp7
          refine And.intro HP4.out.bel ?_
          simp only [Act.put, List.setIfInBounds_toArray, List.set_cons_zero, List.set_cons_succ]
          refine' take_d 20 (some 6) rfl rfl (by kernel_rfl) (by kernel_rfl) (by kernel_rfl) (fun _ _ _ h => h) (wanted_none rfl _) HP4.out.bel ?tk19 ?rs19
          case tk19 => intro V hV; go_simp; (try with_reducible rfl)
          refine' take_d 21 (some 7) rfl rfl (by kernel_rfl) (by kernel_rfl) (by kernel_rfl) (fun _ _ _ h => h) (wanted_none rfl _) HP4.out.bel ?tk20 ?rs20
          case tk20 => intro V hV; go_simp; (try with_reducible rfl)
          simp only [Act.put, List.setIfInBounds_toArray, List.set_cons_zero, List.set_cons_succ]
          refine wpAnyH_done (by kernel_rfl) ?_ _
          go_wp2
          exact ⟨⟨k + 1, A' ++ [x], dn', by omega, by go_num, ⟨some ⟨gf, 0, none⟩, cf, by simp⟩, ⟨some ⟨gb, 0, none⟩, cb, by simp⟩, rfl, HP4, HST⟩, by simp [intOf]; omega⟩
      · have hnB := heap_alloc_new V0 (.cells #[.bool x.2.op] 4)
        have HP1 := hideT (HP0.out.alloc (.cells #[.bool x.2.op] 4))
        refine op_value (some 60) (v := .slice (some ⟨V0.heap.size, 0, none⟩) 1 1) (w' := V0.alloc (.cells #[.bool x.2.op] 4)) rfl rfl (wanted_none rfl _) (by go_simp; (try with_reducible rfl)) ?_
        generalize V0.alloc (.cells #[.bool x.2.op] 4) = V1 at *
        refine And.intro HP1.out.bel ?_
        simp only [Act.put, List.setIfInBounds_toArray, List.set_cons_zero, List.set_cons_succ]
        refine wpAnyH_all (rs := [8]) (by kernel_rfl) (by simp) (fun i hi => ?_)
        obtain rfl : i = 8 := List.mem_singleton.1 hi
        clear hi
        have hnF := heap_alloc_new V1 (.cells #[.string ⟨x.1.toArray⟩, .string ⟨x.2.data.toArray⟩] 52)
        have hnB1 := (Below.heap_alloc V1 (.cells #[.string ⟨x.1.toArray⟩, .string ⟨x.2.data.toArray⟩] 52) _ (Array.getElem?_eq_some_iff.1 hnB).1).trans hnB
        have HP2 := hideT (HP1.out.alloc (.cells #[.string ⟨x.1.toArray⟩, .string ⟨x.2.data.toArray⟩] 52))
        refine op_value (some 50) (v := .slice (some ⟨V1.heap.size, 0, none⟩) 1 1) (w' := V1.alloc (.cells #[.string ⟨x.1.toArray⟩, .string ⟨x.2.data.toArray⟩] 52)) rfl rfl (wanted_none rfl _) (by go_simp; (try with_reducible rfl)) ?_
        generalize V1.alloc (.cells #[.string ⟨x.1.toArray⟩, .string ⟨x.2.data.toArray⟩] 52) = V2 at *
        refine And.intro HP2.out.bel ?_
        simp only [Act.put, List.setIfInBounds_toArray, List.set_cons_zero, List.set_cons_succ]
        refine wpAnyH_all (rs := [9]) (by kernel_rfl) (by simp) (fun i hi => ?_)
        obtain rfl : i = 9 := List.mem_singleton.1 hi
        clear hi
        obtain ⟨gf, cf, V3, r6, hp6, hkp⟩ := pk_file HP2.out hnF (by omega) (x := x) 22
        refine op_append (some 51) rfl rfl (wanted_none rfl _) _ _ _ rfl r6 ?_
        have HP3 := hideT hp6
        have hnB2 := (hkp _ (Array.getElem?_eq_some_iff.1 hnB1).1 (fun e => row_ne HP2.out.fil hnB1 (by decide) e rfl)).trans hnB1
        clear r6 hp6 hkp
        refine And.intro HP3.out.bel ?_
        simp only [Act.put, List.setIfInBounds_toArray, List.set_cons_zero, List.set_cons_succ]
        refine wpAnyH_all (rs := [19]) (by kernel_rfl) (by simp) (fun i hi => ?_)
        obtain rfl : i = 19 := List.mem_singleton.1 hi
        clear hi
        obtain ⟨gb, cb, V4, r7, hp7, -⟩ := pk_bool HP3.out hnB2 (by omega) (x := x) 35
        refine op_append (some 61) rfl rfl (wanted_none rfl _) _ _ _ rfl r7 ?_
        have HP4 := hideT hp7
        clear r7 hp7
        refine And.intro HP4.out.bel ?_
        simp only [Act.put, List.setIfInBounds_toArray, List.set_cons_zero, List.set_cons_succ]
        refine' take_d 20 (some 6) rfl rfl (by kernel_rfl) (by kernel_rfl) (by kernel_rfl) (fun _ _ _ h => h) (wanted_none rfl _) HP4.out.bel ?tk21 ?rs21
        case tk21 => intro V hV; go_simp; (try with_reducible rfl)
        refine' take_d 21 (some 7) rfl rfl (by kernel_rfl) (by kernel_rfl) (by kernel_rfl) (fun _ _ _ h => h) (wanted_none rfl _) HP4.out.bel ?tk22 ?rs22
        case tk22 => intro V hV; go_simp; (try with_reducible rfl)
        simp only [Act.put, List.setIfInBounds_toArray, List.set_cons_zero, List.set_cons_succ]
        refine wpAnyH_done (by kernel_rfl) ?_ _
        go_wp2
        exact ⟨⟨k + 1, A' ++ [x], dn', by omega, by go_num, ⟨some ⟨gf, 0, none⟩, cf, by simp⟩, ⟨some ⟨gb, 0, none⟩, cb, by simp⟩, rfl, HP4, HST⟩, by simp [intOf]; omega⟩
    · obtain rfl : k = S.fs.length := by omega
      have i1 : ((S.fs.length : Int) < (S.fs.length : Int)) = False := by rw [eq_iff_iff, iff_false]; omega
      have hAl := HPU.out.1
      have HFIN := hideT (show ∀ (V : World) (u6 u7 : Value), PK W1 V u6 u7 (insF S.fs n ⟨d, o⟩) (insF S.fs n ⟨d, o⟩) → DA ((V.setCell ⟨b, 0, none⟩ u6).setCell ⟨b, 1, none⟩ u7) B b u6 u7 ⟨insF S.fs n ⟨d, o⟩, S.out, S.wr⟩ ∧ Below W1.heap.size W1 V ∧ ∀ g, u6.ownBlock = some g ∨ u7.ownBlock = some g → W.heap.size ≤ g from fun V u6 u7 hp => by
        have hbx2 := HBX.out
        have hbW := HH.out.1.blt
        have hbl := HH.out.1.hb
        have hblk := (hp.bel.block b hbW).trans HH.out.1.blk
        have n6 : ∀ g, u6.ownBlock = some g → g ≠ b := fun g hg e => by have := (row_in hp.fil hg).1; omega
        have n7 : ∀ g, u7.ownBlock = some g → g ≠ b := fun g hg e => by have := (row_in hp.opn hg).1; omega
        refine ⟨⟨hbl, put_same _ _ 1 _ (put_same _ _ 0 _ hblk), ?_, ?_⟩, hp.bel, fun g hg => ?_⟩
        · exact owns_mono (owns_keep hp.fil (fun g hg => (put_far _ _ _ _ (n6 g hg)).trans (put_far _ _ _ _ (n6 g hg)))) (by omega)
        · exact owns_mono (owns_keep hp.opn (fun g hg => (put_far _ _ _ _ (n7 g hg)).trans (put_far _ _ _ _ (n7 g hg)))) (by omega)
        · rcases hg with hg | hg
          · have := (row_in hp.fil hg).1
            omega
          · have := (row_in hp.opn hg).1
            omega)
      have HTC := hideT (show ∀ (V : World) (u6 u7 : Value), Below W1.heap.size W1 V → Tch (fun k => k = b) W ((V.setCell ⟨b, 0, none⟩ u6).setCell ⟨b, 1, none⟩ u7) from fun V u6 u7 hp => by
        have h0 : Below W.heap.size W V := HH.out.2.1.trans (hp.mono (by rw [HBX.out]; omega))
        exact (((Tch.of h0 : Tch (fun k => k = b) _ _)).put (b := b) rfl _ _).put (b := b) rfl _ _)
      have q0 := keep_cell HPK.out.bel c0
      have q1 := keep_cell HPK.out.bel c1
      have q2 := keep_frz HPK.out.bel HH.out.1.blt HFZ.out.1
      have q3 := keep_frz HPK.out.bel HH.out.1.blt HFZ.out.2
      obtain ⟨_, ⟨rfl, hA⟩ | ⟨rfl, hA, hi⟩⟩ := HPU.out
      · have hA2 : A = insF S.fs n ⟨d, o⟩ := by rw [← hA, List.drop_of_length_le (Nat.le_refl _), List.append_nil]
        have HF2 := hideT (HFIN.out wr _ _ (by rw [← hA2]; exact HPK.out))
        have HT2 := hideT (fun u6 u7 => HTC.out wr u6 u7 HPK.out.bel)
        clear hA hA2 HFIN HTC HPU HPK HH HL1 HL2
        go_wp2
        refine ⟨rfl, _, results_none rfl _ _ _, ?_⟩
        exact ⟨rfl, HT2.out _ _, _, _, HF2.out.1, HF2.out.2.2⟩
      · have hA2 : insF S.fs n ⟨d, o⟩ = A ++ [(n, ⟨d, o⟩)] := by rw [hi, List.drop_of_length_le (Nat.le_refl _), hA]; rfl
        have m1 := keep_cell HPK.out.bel x0
        have m3 := keep_cell HPK.out.bel x1
        obtain ⟨g6, cc6, V2, r6, hp6, hk6⟩ := pk_file (HPK.out.alloc (.cells #[.string ⟨n.toArray⟩, .string ⟨d.toArray⟩] 52)) (heap_alloc_new wr _) (by omega) (x := (n, ⟨d, o⟩)) 22
        obtain ⟨g7, cc7, V4, r7, hp7, hk7⟩ := pk_bool (hp6.alloc (.cells #[.bool o] 4)) (heap_alloc_new V2 _) (by omega) (x := (n, ⟨d, o⟩)) 35
        have R6 := hideT r6
        have R7 := hideT r7
        have y0 := keep_cell hp7.bel c0
        have y1 := keep_cell hp7.bel c1
        have y2 := keep_frz hp7.bel HH.out.1.blt HFZ.out.1
        have y3 := keep_frz hp7.bel HH.out.1.blt HFZ.out.2
        have HF2 := hideT (HFIN.out V4 _ _ (by rw [hA2]; exact hp7))
        have HT2 := hideT (fun u6 u7 => HTC.out V4 u6 u7 hp7.bel)
        clear hA hA2 hi HFIN HTC HPU HPK HH HL1 HL2 r6 r7 hp6 hp7 hk6 hk7 q1 q2 q3
        go_wp2_with (first | (at_builtin; refine wpList_run rfl _ _ _ _ rfl R6.out ?_) | (at_builtin; refine wpList_run rfl _ _ _ _ rfl R7.out ?_))
        go_wp2
        refine ⟨rfl, _, results_none rfl _ _ _, ?_⟩
        exact ⟨rfl, HT2.out _ _, _, _, HF2.out.1, HF2.out.2.2⟩
end Go.Proofs.Ytbibfpgcnmocjaa
