/- tally: rows of steps that are made; up, times, capped. tally: two lists of steps together. -/
import Derived.Test.YtolpakpdkheanaaKTa
set_option maxRecDepth 100000
set_option maxHeartbeats 4000000
namespace Go.Proofs.Ytolpakpdkheanaa.tly
open Go.RowKit Go.Proofs.Ytolpakpdkheanaa.br
theorem info_parts {e : TypeId} {z : Value} {s b : Nat} (h : (Try.prog.info? e).map (fun i => (i.zero, i.size, i.bytes)) = some (some z, s, b)) : ∃ i, Try.prog.info? e = some i ∧ i.zero = some z ∧ i.size = s ∧ i.bytes = b := by
 cases hi : Try.prog.info? e with
 | none => rw [hi] at h; cases h
 | some i =>
  rw [hi] at h
  simp only [Option.map_some, Option.some.injEq, Prod.mk.injEq] at h
  exact ⟨i, rfl, h.1, h.2.1, h.2.2⟩
theorem made_one (zs : Array Value) (z : Value) (h : ∀ i, zs[i % zs.size]! = z) (m : Nat) : madeCells zs m = (List.replicate m z).toArray := by
 apply Array.ext
 · simp [madeCells]
 · intro i h1 h2
   simp [madeCells, h]
theorem stV_rep : ∀ n : Nat, stV (List.replicate n (0, 0)) = List.replicate (n * 2) (.int .i64 0)
 | 0 => rfl
 | n + 1 => by
  rw [List.replicate_succ, stV, stV_rep n, show (n + 1) * 2 = n * 2 + 1 + 1 by omega]
  rfl
theorem stV_set (q : Nat × Nat) : ∀ (l : Stp) (i : Nat), i < l.length → ((stV l).set (i * 2) (.int .i64 (q.1 : Nat))).set (i * 2 + 1) (.int .i64 (q.2 : Nat)) = stV (l.set i q)
 | [], _, h => by simp at h
 | y :: l, 0, _ => rfl
 | y :: l, i + 1, h => by
  have := stV_set q l i (by simpa using h)
  rw [show (i + 1) * 2 = i * 2 + 1 + 1 by omega]
  exact congrArg (fun z => Value.int .i64 (y.1 : Nat) :: Value.int .i64 (y.2 : Nat) :: z) this
theorem owns_st {W : World} {B n g cap i : Nat} {l : Stp} (h : W.ownsRow B 95 2 (.slice (some ⟨g, 0, none⟩) n cap) n (stV l)) (hi : i < l.length) (q : Nat × Nat) : ((W.setCell ⟨g, i * 2, none⟩ (.int .i64 (q.1 : Nat))).setCell ⟨g, i * 2 + 1, none⟩ (.int .i64 (q.2 : Nat))).ownsRow B 95 2 (.slice (some ⟨g, 0, none⟩) n cap) n (stV (l.set i q)) := by
 have e := owns_set (owns_set h (i * 2) (.int .i64 (q.1 : Nat))) (i * 2 + 1) (.int .i64 (q.2 : Nat))
 rw [stV_set q l i hi] at e
 exact e
theorem info_st : (Try.prog.info? 95).map (fun i => (i.zero, i.size, i.bytes)) = some (some (.agg #[.int .i64 0, .int .i64 0]), 2, 16) := by kernel_rfl
theorem make_st (n c : Nat) (hn : n ≤ c) (hc : c ≤ 1000000) (V : World) : (Instr.makeSlice 81 (.int .i64 (n : Nat)) (.int .i64 (c : Nat))).run Try.prog V = .ok (.slice (some ⟨V.heap.size, 0, none⟩) n c) (V.alloc (.cells (stV (List.replicate c (0, 0))).toArray 95)) := by
 obtain ⟨i0, hi, hz0, hz1, hz2⟩ := info_parts info_st
 have := run_makeSlice (P := Try.prog) (w := V) 81 95 i0 _ Try.underlying81 hi hz0 .i64 .i64 n c (by omega) (by omega) (by rw [hz1, Int.toNat_natCast]; omega) (by rw [hz2]; omega) (by omega)
 rw [hz1, Int.toNat_natCast, Int.toNat_natCast] at this
 rw [this, stV_rep, made_one _ (.int .i64 0) (fun i => ?_)]
 have h4 : i % 2 < 2 := Nat.mod_lt _ (by omega)
 show (#[Value.int .i64 0, .int .i64 0] : Array Value)[i % 2]! = _
 match i % 2, h4 with
 | 0, _ => rfl
 | 1, _ => rfl
theorem made_st (V : World) (B n : Nat) (hB : B ≤ V.heap.size) (hn : n ≤ 1000000) : (V.alloc (.cells (stV (List.replicate n (0, 0))).toArray 95)).ownsRow B 95 2 (.slice (some ⟨V.heap.size, 0, none⟩) n n) n (stV (List.replicate n (0, 0))) := by
 have h := World.ownsRow_lit (base := B) (e := 95) (size := 2) V (stV (List.replicate n (0, 0))).toArray n hB (by unfold maxLen; omega) (by rw [List.size_toArray, stV_len, List.length_replicate])
 simpa using h
theorem StR.at {W : World} {S : Nat → Prop} {a : Option Addr} {c n : Nat} {l : Stp} (h : StR W S (.slice a n c) l) {i : Nat} {x : Nat × Nat} (hi : l[i]? = some x) : ∃ g o, a = some ⟨g, o, none⟩ ∧ S g ∧ W.cell? ⟨g, o + i * 2, none⟩ = some (.int .i64 (x.1 : Nat)) ∧ W.cell? ⟨g, o + i * 2 + 1, none⟩ = some (.int .i64 (x.2 : Nat)) := by
 rcases h with ⟨_, rfl⟩ | ⟨g, o, c, h1, h2, h3, _, h4⟩
 · cases hi
 · simp only [Value.slice.injEq] at h1
   exact ⟨g, o, h1.1, h3, (h4 i x hi).1, (h4 i x hi).2⟩
theorem map_step (f : Nat × Nat → Nat × Nat) {l : Stp} {i : Nat} {x : Nat × Nat} (h : l[i]? = some x) : ((l.take i).map f ++ List.replicate (l.length - i) (0, 0)).set i (f x) = (l.take (i + 1)).map f ++ List.replicate (l.length - (i + 1)) (0, 0) := by
 obtain ⟨hi, rfl⟩ := List.getElem?_eq_some_iff.1 h
 have e : ((l.take i).map f).length = i := by rw [List.length_map, List.length_take]; omega
 rw [List.set_append_right _ _ (by omega), e, Nat.sub_self, show l.length - i = (l.length - (i + 1)) + 1 by omega, List.replicate_succ, List.set_cons_zero, List.take_succ_eq_append_getElem hi, List.map_append, List.append_assoc]
 rfl
theorem map_len (f : Nat × Nat → Nat × Nat) (l : Stp) {i : Nat} (hi : i ≤ l.length) : ((l.take i).map f ++ List.replicate (l.length - i) (0, 0)).length = l.length := by
 rw [List.length_append, List.length_map, List.length_take, List.length_replicate]; omega
theorem step_copy {w0 w : World} {B n g cap k : Nat} {l : Stp} {x y : Nat × Nat} (h : w.ownsRow B 95 2 (.slice (some ⟨g, 0, none⟩) n cap) n (stV l)) (hb : Below w0.heap.size w0 w) (hk : l[k]? = some y) : let W := w.alloc (.cells #[.int .i64 (x.1 : Nat), .int .i64 (x.2 : Nat)] 95)
  W.ownsRow B 95 2 (.slice (some ⟨g, 0, none⟩) n cap) n (stV l) ∧ Below w0.heap.size w0 W ∧ W.cell? ⟨w.heap.size, 0, none⟩ = some (.int .i64 (x.1 : Nat)) ∧ W.cell? ⟨w.heap.size, 1, none⟩ = some (.int .i64 (x.2 : Nat)) ∧ W.cell? ⟨g, k * 2, none⟩ = some (.int .i64 (y.1 : Nat)) ∧ W.frozen? ⟨g, k * 2, none⟩ = false ∧ W.cell? ⟨g, k * 2 + 1, none⟩ = some (.int .i64 (y.2 : Nat)) ∧ W.frozen? ⟨g, k * 2 + 1, none⟩ = false := by
 intro W
 have ho : W.ownsRow B 95 2 (.slice (some ⟨g, 0, none⟩) n cap) n (stV l) := h.alloc _
 have hn : W.heap[w.heap.size]? = some (.cells #[.int .i64 (x.1 : Nat), .int .i64 (x.2 : Nat)] 95) := World.alloc_heap_new w _
 obtain ⟨c0, f0⟩ := row_cell ho _ _ (stV_get hk).1
 obtain ⟨c1, f1⟩ := row_cell ho _ _ (stV_get hk).2
 exact ⟨ho, hb.alloc hb.size _, by simp [World.cell?, hn], by simp [World.cell?, hn], c0, f0, c1, f1⟩
theorem step_set {w0 W : World} {n cap k : Nat} {l l' : Stp} {q : Nat × Nat} (h : W.ownsRow w0.heap.size 95 2 (.slice (some ⟨w0.heap.size, 0, none⟩) n cap) n (stV l)) (hb : Below w0.heap.size w0 W) (he : l.set k q = l') (hk : k < l.length) :
  ((W.setCell ⟨w0.heap.size, k * 2, none⟩ (.int .i64 (q.1 : Nat))).setCell ⟨w0.heap.size, k * 2 + 1, none⟩ (.int .i64 (q.2 : Nat))).ownsRow w0.heap.size 95 2 (.slice (some ⟨w0.heap.size, 0, none⟩) n cap) n (stV l') ∧ Below w0.heap.size w0 ((W.setCell ⟨w0.heap.size, k * 2, none⟩ (.int .i64 (q.1 : Nat))).setCell ⟨w0.heap.size, k * 2 + 1, none⟩ (.int .i64 (q.2 : Nat))) :=
 ⟨he ▸ owns_st h hk q, (hb.setCell (p := ⟨w0.heap.size, k * 2, none⟩) (Nat.le_refl _) _).setCell (p := ⟨w0.heap.size, k * 2 + 1, none⟩) (Nat.le_refl _) _⟩
theorem capped_any (x : Nat) (w : World) : Calls Try.prog 51 #[.int .i64 (x : Nat)] w fun e w' => e = .returned (.int .i64 (capN x : Nat)) ∧ w' = w := by
 have hm : min (x : Int) 4097 = ((capN x : Nat) : Int) ∧ (if (4097 : Int) < (x : Int) then (4097 : Int) else (x : Int)) = ((capN x : Nat) : Int) := by
  unfold capN
  by_cases h : x ≤ 4097
  · rw [show Nat.ble x 4097 = true from Nat.ble_eq_true_of_le h, cond_true]
    exact ⟨by omega, by split <;> omega⟩
  · have e : Nat.ble x 4097 = false := by cases e : Nat.ble x 4097 with
     | false => rfl
     | true => exact absurd (Nat.le_of_ble_eq_true e) h
    rw [e, cond_false]
    exact ⟨by omega, by split <;> omega⟩
 have HM := hideT hm
 clear hm
 go_enter Try.func51, Try.ntmps51
 go_wp2
 go_ret
 first
 | exact ⟨by rw [← HM.out.1]; rfl, rfl⟩
 | exact ⟨by rw [← HM.out.2]; rfl, rfl⟩
theorem up_any {w : World} {S : Nat → Prop} {v : Value} {l : Stp} {n b : Nat} (h : StR w S v l) (hS : ∀ g, S g → g < w.heap.size) (ho : StOk n l) (hn : n ≤ 100000) (hb : b ≤ 100000) :
  Calls Try.prog 46 #[v, .int .i64 (b : Nat)] w fun e w' => ∃ v', e = .returned v' ∧ w'.ownsRow w.heap.size 95 2 v' l.length (stV (upS l b)) ∧ Below w.heap.size w w' := by
 obtain ⟨a, c, rfl⟩ := h.shape
 have hlen := ho.length
 have hmk := make_st l.length l.length (Nat.le_refl _) (by omega)
 have hm0 := made_st w w.heap.size l.length (Nat.le_refl _) (by omega)
 have hB0 := (Below.refl w.heap.size w).alloc (Nat.le_refl _) (.cells (stV (List.replicate l.length (0, 0))).toArray 95)
 have HM := hideT (And.intro hm0 hB0)
 have HH := hideT (And.intro h (And.intro hS (And.intro ho hn)))
 clear hm0 hB0 h hS ho hn
 generalize (stV (List.replicate l.length (0, 0))).toArray = mc at *
 go_enter Try.func46, Try.ntmps46
 go_wp2_with fail
 obtain ⟨hm0, hB0⟩ := HM.out
 generalize w.alloc (.cells mc 95) = W0 at *
 go_loopw [13] (fun iv wr => ∃ k : Nat, k ≤ l.length ∧ iv = .int .i64 k ∧ Hid (wr.ownsRow w.heap.size 95 2 (.slice (some ⟨w.heap.size, 0, none⟩) l.length l.length) l.length (stV ((l.take k).map (fun s => (s.1 + b, s.2)) ++ List.replicate (l.length - k) (0, 0))) ∧ Below w.heap.size w wr)) (fun iv _ => (l.length - intOf iv).toNat)
 case atStart => exact ⟨0, by omega, rfl, hideT ⟨by simpa using hm0, hB0⟩⟩
 case round =>
  obtain ⟨k, hk, rfl, HO⟩ := hrel
  by_cases hlt : k < l.length
  · obtain ⟨x, hx⟩ : ∃ x, l[k]? = some x := ⟨_, List.getElem?_eq_getElem hlt⟩
    have hxo := HH.out.2.2.1.lt x (List.mem_of_getElem? hx)
    obtain ⟨g, o, rfl, hg, q0, q1⟩ := HH.out.1.at hx
    have hgl := HH.out.2.1 g hg
    have hblk : wr.heap[g]? = w.heap[g]? := HO.out.2.block g hgl
    replace q0 := (World.cell?_of_block (a := ⟨g, _, none⟩) hblk).trans q0
    replace q1 := (World.cell?_of_block (a := ⟨g, _, none⟩) hblk).trans q1
    have hz : ((l.take k).map (fun s : Nat × Nat => (s.1 + b, s.2)) ++ List.replicate (l.length - k) (0, 0))[k]? = some (0, 0) := by
     have e : ((l.take k).map (fun s : Nat × Nat => (s.1 + b, s.2))).length = k := by rw [List.length_map, List.length_take]; omega
     rw [List.getElem?_append_right (by omega), e, Nat.sub_self, List.getElem?_replicate]; simp; omega
    have i1 : (k : Int) < (l.length : Int) := by omega
    have i2 : (0 : Int) ≤ (k : Int) := by omega
    have i3 : (x.1 : Int) < 100000 := by have := HH.out.2.2.2; omega
    have i4 : (b : Int) ≤ 100000 := by omega
    have i5 : (x.2 : Int) ≤ 4097 := by omega
    have i6 : (k : Int) < 100000 := by have := HH.out.2.2.2; omega
    have HK := hideT (And.intro hk (And.intro hlt (And.intro hx hz)))
    clear hk hlt hx hxo hblk hm0 hB0 hmk HM hlen hb
    go_upto_region 5 with fail
    have hst := step_copy (w := wr) HO.out.1 HO.out.2 (k := k) (x := x) hz
    generalize wr.alloc (.cells #[.int .i64 (x.1 : Nat), .int .i64 (x.2 : Nat)] 95) = W1 at *
    obtain ⟨o1, b1, d0, d1, c0, f0, c1, f1⟩ := hst
    have HO1 := hideT (And.intro o1 b1)
    clear o1 b1 hz
    have hst2 := step_set HO1.out.1 HO1.out.2 (map_step (fun s : Nat × Nat => (s.1 + b, s.2)) HK.out.2.2.1) (by rw [map_len _ _ HK.out.1]; exact HK.out.2.1)
    have HS := hideT hst2
    clear hst2
    go_wp2_with fail
    exact ⟨⟨k + 1, HK.out.2.1, by go_num, HS⟩, by have := HK.out.2.1; simp [intOf]; omega⟩
  · obtain rfl : k = l.length := by omega
    have HR := hideT (And.intro (show wr.ownsRow w.heap.size 95 2 (.slice (some ⟨w.heap.size, 0, none⟩) l.length l.length) l.length (stV (upS l b)) by have := HO.out.1; rw [Nat.sub_self, List.replicate_zero, List.append_nil, List.take_length] at this; exact this) HO.out.2)
    clear hm0 hB0 HM hmk HO
    go_wp2
    go_ret
    exact ⟨_, rfl, HR.out.1, HR.out.2⟩
theorem times_any {w : World} {S : Nat → Prop} {v : Value} {l : Stp} {n m : Nat} (h : StR w S v l) (hS : ∀ g, S g → g < w.heap.size) (ho : StOk n l) (hn : n ≤ 100000) (hb : m ≤ 4097) :
  Calls Try.prog 48 #[v, .int .i64 (m : Nat)] w fun e w' => ∃ v', e = .returned v' ∧ w'.ownsRow w.heap.size 95 2 v' l.length (stV (timesS l m)) ∧ Below w.heap.size w w' := by
 obtain ⟨a, c, rfl⟩ := h.shape
 have hlen := ho.length
 have hmk := make_st l.length l.length (Nat.le_refl _) (by omega)
 have hm0 := made_st w w.heap.size l.length (Nat.le_refl _) (by omega)
 have hB0 := (Below.refl w.heap.size w).alloc (Nat.le_refl _) (.cells (stV (List.replicate l.length (0, 0))).toArray 95)
 have HM := hideT (And.intro hm0 hB0)
 have HH := hideT (And.intro h (And.intro hS (And.intro ho hn)))
 clear hm0 hB0 h hS ho hn
 generalize (stV (List.replicate l.length (0, 0))).toArray = mc at *
 go_enter Try.func48, Try.ntmps48
 go_wp2_with fail
 obtain ⟨hm0, hB0⟩ := HM.out
 generalize w.alloc (.cells mc 95) = W0 at *
 go_loopw [13] (fun iv wr => ∃ k : Nat, k ≤ l.length ∧ iv = .int .i64 k ∧ Hid (wr.ownsRow w.heap.size 95 2 (.slice (some ⟨w.heap.size, 0, none⟩) l.length l.length) l.length (stV ((l.take k).map (fun s => (s.1, capN (s.2 * m))) ++ List.replicate (l.length - k) (0, 0))) ∧ Below w.heap.size w wr)) (fun iv _ => (l.length - intOf iv).toNat)
 case atStart => exact ⟨0, by omega, rfl, hideT ⟨by simpa using hm0, hB0⟩⟩
 case round =>
  obtain ⟨k, hk, rfl, HO⟩ := hrel
  by_cases hlt : k < l.length
  · obtain ⟨x, hx⟩ : ∃ x, l[k]? = some x := ⟨_, List.getElem?_eq_getElem hlt⟩
    have hxo := HH.out.2.2.1.lt x (List.mem_of_getElem? hx)
    obtain ⟨g, o, rfl, hg, q0, q1⟩ := HH.out.1.at hx
    have hgl := HH.out.2.1 g hg
    have hblk : wr.heap[g]? = w.heap[g]? := HO.out.2.block g hgl
    replace q0 := (World.cell?_of_block (a := ⟨g, _, none⟩) hblk).trans q0
    replace q1 := (World.cell?_of_block (a := ⟨g, _, none⟩) hblk).trans q1
    have hz : ((l.take k).map (fun s : Nat × Nat => (s.1, capN (s.2 * m))) ++ List.replicate (l.length - k) (0, 0))[k]? = some (0, 0) := by
     have e : ((l.take k).map (fun s : Nat × Nat => (s.1, capN (s.2 * m)))).length = k := by rw [List.length_map, List.length_take]; omega
     rw [List.getElem?_append_right (by omega), e, Nat.sub_self, List.getElem?_replicate]; simp; omega
    have i1 : (k : Int) < (l.length : Int) := by omega
    have i2 : (0 : Int) ≤ (k : Int) := by omega
    have i3 : (x.1 : Int) < 100000 := by have := HH.out.2.2.2; omega
    have i4 : (m : Int) ≤ 4097 := by omega
    have i5 : (x.2 : Int) ≤ 4097 := by omega
    have i6 : (k : Int) < 100000 := by have := HH.out.2.2.2; omega
    have HK := hideT (And.intro hk (And.intro hlt (And.intro hx hz)))
    clear hk hlt hx hxo hblk hm0 hB0 hmk HM hlen hb
    go_upto_region 5 with fail
    have hst := step_copy (w := wr) HO.out.1 HO.out.2 (k := k) (x := x) hz
    generalize wr.alloc (.cells #[.int .i64 (x.1 : Nat), .int .i64 (x.2 : Nat)] 95) = W1 at *
    obtain ⟨o1, b1, d0, d1, c0, f0, c1, f1⟩ := hst
    have HO1 := hideT (And.intro o1 b1)
    clear o1 b1 hz
    rename_i K2 hK2
    have HX := hideT (And.intro (show W1.drew.ownsRow _ _ _ _ _ _ from HO1.out.1) (HO1.out.2.trans (show Below w.heap.size W1 W1.drew from ⟨rfl, rfl, rfl, Nat.le_refl _, fun _ _ => rfl⟩)))
    have hS0 : W1.drew.cell? ⟨wr.heap.size, 0, none⟩ = some (.int .i64 (x.1 : Nat)) ∧ W1.drew.cell? ⟨wr.heap.size, 1, none⟩ = some (.int .i64 (x.2 : Nat)) := ⟨d0, d1⟩
    have i7 : (x.2 : Int) * (m : Int) ≤ 16785409 ∧ (0 : Int) ≤ (x.2 : Int) * (m : Int) := by
     have h1 : x.2 * m ≤ 16785409 := Nat.le_trans (Nat.mul_le_mul (show x.2 ≤ 4097 by omega) (show m ≤ 4097 by omega)) (by decide)
     rw [← Int.natCast_mul]
     omega
    have i9 : (x.2 : Int) * (m : Int) = ((x.2 * m : Nat) : Int) := (Int.natCast_mul _ _).symm
    have H9 := hideT (And.intro i9 (show IntKind.i64.wrap ((x.2 * m : Nat) : Int) = ((x.2 * m : Nat) : Int) from IntWalk.i64_in _ (by rw [← i9]; omega)))
    obtain ⟨i7, i8⟩ := i7
    clear i9 HO1
    refine wp_region_held (S := fun V : World => V.cell? ⟨wr.heap.size, 0, none⟩ = some (.int .i64 (x.1 : Nat)) ∧ V.cell? ⟨wr.heap.size, 1, none⟩ = some (.int .i64 (x.2 : Nat))) (by kernel_rfl) ?_
    refine tq 0 18 hS0 ?_
    refine tq 1 19 hS0 ?_
    refine tq 2 20 hS0 ?_
    refine tq 3 21 hS0 ?_
    refine tq 4 22 hS0 ?_
    refine tq 5 23 hS0 ?_
    refine tq 6 24 hS0 ?_
    refine tq 7 25 hS0 ?_
    simp only [Act.put, List.setIfInBounds_toArray, List.set_cons_zero, List.set_cons_succ]
    refine wpAnyH_all (rs := [8]) (by kernel_rfl) (by simp) (fun j hj => ?_)
    obtain rfl : j = 8 := List.mem_singleton.1 hj
    refine op_call (R := fun v w1 => v = .int .i64 (capN (x.2 * m) : Nat) ∧ w1 = W1.drew) (f := 51) (args := #[.int .i64 (x.2 * m : Nat)]) (some 26) rfl rfl (by rfl) (by go_simp; rw [H9.out.1, H9.out.2]; (try with_reducible rfl)) ((capped_any (x.2 * m) W1.drew).mono ?_) ?_
    · rintro e w1 ⟨rfl, rfl⟩
      exact ⟨_, rfl, rfl, rfl⟩
    rintro v w1 ⟨rfl, rfl⟩
    refine ⟨hS0, ?_⟩
    simp only [Act.put, List.setIfInBounds_toArray, List.set_cons_zero, List.set_cons_succ]
    refine tq 9 27 hS0 ?_
    refine tq 10 28 hS0 ?_
    simp only [Act.put, List.setIfInBounds_toArray, List.set_cons_zero, List.set_cons_succ]
    refine wpAnyH_all (rs := [11]) (by kernel_rfl) (by simp) (fun j hj => ?_)
    obtain rfl : j = 11 := List.mem_singleton.1 hj
    have hst2 := step_set HX.out.1 HX.out.2 (map_step (fun s : Nat × Nat => (s.1, capN (s.2 * m))) HK.out.2.2.1) (by rw [map_len _ _ HK.out.1]; exact HK.out.2.1)
    have HS := hideT hst2
    have e0 : W1.drew.cell? ⟨w.heap.size, k * 2, none⟩ = some (.int .i64 0) ∧ W1.drew.frozen? ⟨w.heap.size, k * 2, none⟩ = false ∧ W1.drew.cell? ⟨w.heap.size, k * 2 + 1, none⟩ = some (.int .i64 0) ∧ W1.drew.frozen? ⟨w.heap.size, k * 2 + 1, none⟩ = false := ⟨c0, f0, c1, f1⟩
    obtain ⟨e0, e1, e2, e3⟩ := e0
    clear hst2
    refine op_skip rfl rfl (by rfl) (w' := (W1.drew.setCell ⟨w.heap.size, k * 2, none⟩ (.int .i64 (x.1 : Nat))).setCell ⟨w.heap.size, k * 2 + 1, none⟩ (.int .i64 (capN (x.2 * m) : Nat))) (by go_simp; (try with_reducible rfl)) ⟨?_, ?_⟩
    · have hne : wr.heap.size ≠ w.heap.size := by have := (row_blk HO.out.1 (g := w.heap.size) rfl).2.1; omega
      have hk : ∀ j, (((W1.drew.setCell ⟨w.heap.size, k * 2, none⟩ (.int .i64 (x.1 : Nat))).setCell ⟨w.heap.size, k * 2 + 1, none⟩ (.int .i64 (capN (x.2 * m) : Nat))).cell? ⟨wr.heap.size, j, none⟩) = W1.drew.cell? ⟨wr.heap.size, j, none⟩ := fun j => World.cell?_of_block (a := ⟨wr.heap.size, j, none⟩) ((Below.heap_setCell _ ⟨w.heap.size, k * 2 + 1, none⟩ _ wr.heap.size hne).trans (Below.heap_setCell _ ⟨w.heap.size, k * 2, none⟩ _ wr.heap.size hne))
      exact ⟨(hk 0).trans hS0.1, (hk 1).trans hS0.2⟩
    refine wpAnyH_done (by kernel_rfl) (hK2 _ _ ?_) _
    clear hK2 hS0 e0 e1 e2 e3 d0 d1 c0 c1 f0 f1
    go_wp2_with fail
    exact ⟨⟨k + 1, HK.out.2.1, by go_num, HS⟩, by have := HK.out.2.1; simp [intOf]; omega⟩
  · obtain rfl : k = l.length := by omega
    have HR := hideT (And.intro (show wr.ownsRow w.heap.size 95 2 (.slice (some ⟨w.heap.size, 0, none⟩) l.length l.length) l.length (stV (timesS l m)) by have := HO.out.1; rw [Nat.sub_self, List.replicate_zero, List.append_nil, List.take_length] at this; exact this) HO.out.2)
    clear hm0 hB0 HM hmk HO
    go_wp2
    go_ret
    exact ⟨_, rfl, HR.out.1, HR.out.2⟩
end Go.Proofs.Ytolpakpdkheanaa.tly
namespace Go.Proofs.Ytolpakpdkheanaa.tly
open Go.RowKit Go.Proofs.Ytolpakpdkheanaa.br
def lenOf : Value → Nat | .slice _ n _ => n | _ => 0
theorem made_st0 (V : World) (B c : Nat) (hB : B ≤ V.heap.size) (hc : c ≤ 1000000) : (V.alloc (.cells (stV (List.replicate c (0, 0))).toArray 95)).ownsRow B 95 2 (.slice (some ⟨V.heap.size, 0, none⟩) 0 c) ([] : Stp).length (stV []) :=
 ⟨rfl, .inr ⟨V.heap.size, c, _, rfl, hB, World.alloc_heap_new V _, Nat.zero_le _, by unfold maxLen; omega, by rw [List.size_toArray, stV_len, List.length_replicate], rfl⟩⟩
structure SmR (w : World) (S : Nat → Prop) (n : Nat) (tot : Stp) (v0 v1 v5 : Value) (a b pre : Stp) (W : World) : Prop where
 va : StR W S v0 a
 vb : StR W S v1 b
 oa : StOk n a
 ob : StOk n b
 row : W.ownsRow w.heap.size 95 2 v5 pre.length (stV pre)
 bel : Below w.heap.size w W
 eq : pre ++ sumS a b = tot
theorem StR.tail {W : World} {S : Nat → Prop} {g o n c : Nat} {x : Nat × Nat} {l : Stp} (h : StR W S (.slice (some ⟨g, o, none⟩) n c) (x :: l)) : StR W S (.slice (if c = 1 then some ⟨g, o, none⟩ else some ⟨g, o + 2, none⟩) (n - 1) (c - 1)) l ∧ 1 ≤ n ∧ n ≤ c := by
 rcases h with ⟨e, _⟩ | ⟨g', o', c', h1, h2, h3, h5, h4⟩
 · cases e
 · simp only [Value.slice.injEq, Option.some.injEq, Addr.mk.injEq, and_true] at h1
   obtain ⟨⟨rfl, rfl⟩, rfl, rfl⟩ := h1
   simp only [List.length_cons] at h2 ⊢
   refine ⟨?_, by omega, h2⟩
   by_cases hc : c = 1
   · have hl : l = [] := List.eq_nil_of_length_eq_zero (by omega)
     subst hl
     rw [if_pos hc]
     exact .inr ⟨g, o, c - 1, rfl, by simp, h3, h5, fun i y hi => nomatch hi⟩
   · rw [if_neg hc]
     refine .inr ⟨g, o + 2, c - 1, rfl, by omega, h3, h5, fun i y hi => ?_⟩
     have := h4 (i + 1) y (by simpa using hi)
     rw [show o + 2 + i * 2 = o + (i + 1) * 2 by omega]
     exact this
theorem SmR.len {w : World} {S : Nat → Prop} {n : Nat} {tot : Stp} {v0 v1 v5 : Value} {a b pre : Stp} {W : World} (h : SmR w S n tot v0 v1 v5 a b pre W) (ht : tot.length ≤ n) : pre.length + (sumS a b).length ≤ n := by
 have := congrArg List.length h.eq
 rw [List.length_append] at this
 omega
theorem wpList_app_st {w : World} {S : Nat → Prop} {ops : Array Oper} {rest : List Oper} {o : Oper} {a : Act} {Q : Exit → Act → World → Prop} (hgd : o.guard = none) (s x : Operand) (t : TypeId) (ho : o.op = .call { callee := .builtin .append, args := #[s, x], argTypes := #[t, t] })
  (base : Nat) (i : TypeInfo) (z : Value) (bytes : Nat) (ht : Try.prog.underlying t = some (.slice 95)) (hi : Try.prog.info? 95 = some i) (hz : i.zero = some z) (hsize : i.size = 2) (hby : i.bytes = bytes) (hzs : z.cells.size = 2)
  (v : Value) (pre : Stp) (hs : a.eval s = v) (hown : w.ownsRow base 95 2 v pre.length (stV pre)) (xv : Value) (l : Stp) (hx : a.eval x = xv) (hr : StR w S xv l)
  (h63 : pre.length + l.length ≤ 2000000) (hb : bytes ≤ 1000000) (hbase : base ≤ w.heap.size)
  (h : ∀ v' w', w'.ownsRow base 95 2 v' (pre ++ l).length (stV (pre ++ l)) → w.grownBy w' v.ownBlock → wpList Try.prog ops Q rest (a.put o.dst v') w') : wpList Try.prog ops Q (o :: rest) a w :=
 wpList_plain hgd fun _ hK => wp_app_st s x t ho base i z bytes ht hi hz hsize hby hzs v pre hs hown xv l hx hr h63 hb hbase fun v' w' a1 a2 => hK _ _ (h v' w' a1 a2)
theorem SmR.str {w : World} {S : Nat → Prop} {n : Nat} {tot : Stp} {v0 v1 v5 : Value} {a b pre : Stp} {W : World} (h : SmR w S n tot v0 v1 v5 a b pre W) (hS : ∀ g, S g → g < w.heap.size) {W' : World} (hb : Below w.heap.size w W') : StR W' S v0 a ∧ StR W' S v1 b :=
 ⟨h.va.keep (fun g hg => (hb.block g (hS g hg)).trans (h.bel.block g (hS g hg)).symm) fun _ h => h, h.vb.keep (fun g hg => (hb.block g (hS g hg)).trans (h.bel.block g (hS g hg)).symm) fun _ h => h⟩
theorem StR.head {W : World} {S : Nat → Prop} {v : Value} {x : Nat × Nat} {l : Stp} (h : StR W S v (x :: l)) : ∃ g o n c, v = .slice (some ⟨g, o, none⟩) n c ∧ n = l.length + 1 ∧ n ≤ c ∧ S g ∧ W.cell? ⟨g, o, none⟩ = some (.int .i64 (x.1 : Nat)) ∧ W.cell? ⟨g, o + 1, none⟩ = some (.int .i64 (x.2 : Nat)) := by
 rcases h with ⟨_, e⟩ | ⟨g, o, c, h1, h2, h3, _, h4⟩
 · cases e
 · have := h4 0 x rfl
   exact ⟨g, o, _, c, h1, rfl, h2, h3, by simpa using this.1, by simpa using this.2⟩
theorem sum_flat {a b : Stp} (h : a = [] ∨ b = []) : sumS a b = a ++ b := by
 rcases h with rfl | rfl
 · rw [sum_nil]; rfl
 · rw [sum_nil2, List.append_nil]
theorem lit_st (X : World) (z : Nat × Nat) : StR (X.alloc (.cells #[.int .i64 (z.1 : Nat), .int .i64 (z.2 : Nat)] 95)) (fun g => g = X.heap.size) (.slice (some ⟨X.heap.size, 0, none⟩) 1 1) [z] := by
 have hn : (X.alloc (.cells #[.int .i64 (z.1 : Nat), .int .i64 (z.2 : Nat)] 95)).heap[X.heap.size]? = some (.cells #[.int .i64 (z.1 : Nat), .int .i64 (z.2 : Nat)] 95) := World.alloc_heap_new X _
 generalize X.alloc (.cells #[.int .i64 (z.1 : Nat), .int .i64 (z.2 : Nat)] 95) = W at *
 refine .inr ⟨X.heap.size, 0, 1, rfl, Nat.le_refl _, rfl, ⟨_, hn⟩, fun i y hi => ?_⟩
 match i, hi with
 | 0, hi =>
  cases hi
  exact ⟨by simp [World.cell?, hn], by simp [World.cell?, hn]⟩
 | i + 1, hi => simp at hi
theorem SmR.next {w : World} {S : Nat → Prop} {n : Nat} {tot : Stp} {v0 v1 v5 : Value} {a b pre : Stp} {W : World} (h : SmR w S n tot v0 v1 v5 a b pre W) (hS : ∀ g, S g → g < w.heap.size) {W1 W' : World} {v0' v1' v5' : Value} {a' b' : Stp} {z : Nat × Nat} (hg : W1.grownBy W' v5.ownBlock) (hb : Below w.heap.size w W1) (hr : W'.ownsRow w.heap.size 95 2 v5' (pre ++ [z]).length (stV (pre ++ [z])))
  (ha : ∀ X, StR X S v0 a → StR X S v0' a') (hbb : ∀ X, StR X S v1 b → StR X S v1' b') (oa : StOk n a') (ob : StOk n b') (he : sumS a b = z :: sumS a' b') : SmR w S n tot v0' v1' v5' a' b' (pre ++ [z]) W' := by
 have hbel := grown_below hb hb.size hg fun g hg => (row_blk h.row hg).1
 obtain ⟨s0, s1⟩ := h.str hS hbel
 exact ⟨ha _ s0, hbb _ s1, oa, ob, hr, hbel, by rw [List.append_assoc, List.singleton_append, ← he]; exact h.eq⟩
theorem SmR.move {w : World} {S : Nat → Prop} {n : Nat} {tot : Stp} {v0 v1 v5 : Value} {a b pre : Stp} {W W' : World} (h : SmR w S n tot v0 v1 v5 a b pre W) (hS : ∀ g, S g → g < w.heap.size) (hb : Below W.heap.size W W') (_ : W'.heap = W.heap) : SmR w S n tot v0 v1 v5 a b pre W' := by
 have hbel := h.bel.trans (hb.mono h.bel.size)
 obtain ⟨s0, s1⟩ := h.str hS hbel
 exact ⟨s0, s1, h.oa, h.ob, row_keep h.row fun g hg => hb.block g (row_blk h.row hg).2.1, hbel, h.eq⟩
theorem sum_any {w : World} {S : Nat → Prop} {v0 v1 : Value} {l r : Stp} {n : Nat} (h0 : StR w S v0 l) (h1 : StR w S v1 r) (hS : ∀ g, S g → g < w.heap.size) (o0 : StOk n l) (o1 : StOk n r) (hn : n ≤ 100000) :
  Calls Try.prog 47 #[v0, v1] w fun e w' => ∃ v', e = .returned v' ∧ w'.ownsRow w.heap.size 95 2 v' (sumS l r).length (stV (sumS l r)) ∧ Below w.heap.size w w' := by
 obtain ⟨a0, c0, rfl⟩ := h0.shape
 obtain ⟨a1, c1, rfl⟩ := h1.shape
 have hl0 := o0.length
 have hl1 := o1.length
 have hmk : ∀ V : World, (Instr.makeSlice 81 (.int .i64 0) (.int .i64 (l.length + r.length : Nat))).run Try.prog V = .ok (.slice (some ⟨V.heap.size, 0, none⟩) 0 (l.length + r.length)) (V.alloc (.cells (stV (List.replicate (l.length + r.length) (0, 0))).toArray 95)) := make_st 0 (l.length + r.length) (Nat.zero_le _) (by omega)
 have hm0 := made_st0 w w.heap.size (l.length + r.length) (Nat.le_refl _) (by omega)
 have hB0 := (Below.refl w.heap.size w).alloc (Nat.le_refl _) (.cells (stV (List.replicate (l.length + r.length) (0, 0))).toArray 95)
 have HM := hideT (SmR.mk (tot := sumS l r) (v5 := .slice (some ⟨w.heap.size, 0, none⟩) 0 (l.length + r.length)) (pre := []) (h0.keep (fun g hg => hB0.block g (hS g hg)) fun _ h => h) (h1.keep (fun g hg => hB0.block g (hS g hg)) fun _ h => h) o0 o1 hm0 hB0 rfl)
 have HS := hideT (And.intro hS (And.intro hn (sum_up l r o0 o1).length))
 have i1 : (l.length : Int) ≤ 100000 := by omega
 have i2 : (r.length : Int) ≤ 100000 := by omega
 clear hm0 hB0 h0 h1 hS o0 o1 hn hl0 hl1
 generalize (stV (List.replicate (l.length + r.length) (0, 0))).toArray = mc at *
 obtain ⟨cc, hcc⟩ : ∃ cc : Nat, (l.length : Int) + (r.length : Int) = (cc : Nat) := ⟨l.length + r.length, by omega⟩
 obtain rfl : cc = l.length + r.length := by omega
 generalize hcl : l.length + r.length = cl at *
 go_enter Try.func47, Try.ntmps47
 go_wp2_with fail
 obtain ⟨i0, hi0, hz0, hz1, hz2⟩ := info_parts info_st
 go_loopw [0, 1, 5] (fun v0 v1 v5 wr => ∃ a b pre, Hid (SmR w S n (sumS l r) v0 v1 v5 a b pre wr)) (fun v0 v1 _ _ => lenOf v0 + lenOf v1)
 case atStart => exact ⟨l, r, [], HM⟩
 case round =>
  obtain ⟨a, b, pre, HR⟩ := hrel
  have hla := HR.out.oa.length
  have hlb := HR.out.ob.length
  have hn := HS.out.2.1
  have hpl := HR.out.len HS.out.2.2
  have hB := HR.out.bel.size
  by_cases hne : a = [] ∨ b = []
  · have hsf := sum_flat hne
    have heq := HR.out.eq
    rw [hsf] at heq hpl
    rw [List.length_append] at hpl
    obtain ⟨a0', c0', hv0⟩ := HR.out.va.shape
    obtain ⟨a1', c1', hv1⟩ := HR.out.vb.shape
    subst hv0
    subst hv1
    have HQ := hideT (And.intro heq (And.intro hpl (And.intro hn hB)))
    clear heq hsf
    have hz : (a.length = 0) ∨ (0 < a.length ∧ b.length = 0) := by
     rcases hne with rfl | rfl
     · exact .inl rfl
     · rcases Nat.eq_zero_or_pos a.length with h | h
       · exact .inl h
       · exact .inr ⟨h, rfl⟩
    clear hne hla hlb hn hpl hB
    generalize hal : a.length = la at *
    generalize hbl : b.length = lb at *
    have HL := hideT (And.intro hal hbl)
    clear hal hbl
    rcases hz with rfl | ⟨hz, rfl⟩
    all_goals try have i3 : (0 : Int) < (la : Int) := by omega
    all_goals try clear hz
    all_goals go_wp2_with (at_builtin; first | (refine wpList_app_st (S := S) (by rfl) _ _ _ (by rfl) w.heap.size i0 _ 16 Try.underlying81 hi0 hz0 hz1 hz2 rfl _ (pre ++ a) (by rfl) HA2.out.1 _ b (by rfl) HA2.out.2.1 (by have := HQ.out; have := HL.out; rw [List.length_append]; omega) (by omega) HA2.out.2.2.size ?_; intro v3 W3 g3 g4; have HA3 := hideT (And.intro g3 (grown_below HA2.out.2.2 HA2.out.2.2.size g4 fun g hg => (row_blk HA2.out.1 hg).1)); clear g3 g4) | (refine wpList_app_st (S := S) (by rfl) _ _ _ (by rfl) w.heap.size i0 _ 16 Try.underlying81 hi0 hz0 hz1 hz2 rfl _ pre (by rfl) HR.out.row _ a (by rfl) HR.out.va (by have := HQ.out; have := HL.out; omega) (by omega) HQ.out.2.2.2 ?_; intro v2 W2 g1 g2; have hb2 := grown_below HR.out.bel HQ.out.2.2.2 g2 fun g hg => (row_blk HR.out.row hg).1; have HA2 := hideT (And.intro g1 (And.intro (HR.out.str HS.out.1 hb2).2 hb2)); clear g1 g2 hb2))
    all_goals go_ret
    all_goals (have h3 := HA3.out.1; rw [List.append_assoc, HQ.out.1] at h3; exact ⟨v3, rfl, h3, HA3.out.2⟩)
  · cases a with
    | nil => exact absurd (.inl rfl) hne
    | cons x xs =>
    cases b with
    | nil => exact absurd (.inr rfl) hne
    | cons y ys =>
    obtain ⟨g0, o0, n0, d0, hv0, hn0, hc0, hs0, p0, p1⟩ := HR.out.va.head
    obtain ⟨g1, o1, n1, d1, hv1, hn1, hc1, hs1, q0, q1⟩ := HR.out.vb.head
    subst hv0
    subst hv1
    have hx := HR.out.oa.lt x List.mem_cons_self
    have hy := HR.out.ob.lt y List.mem_cons_self
    have j0 : (0 : Int) < (n0 : Int) := by omega
    have j1 : (0 : Int) < (n1 : Int) := by omega
    have j2 : (1 : Int) ≤ (n0 : Int) := by omega
    have j3 : (1 : Int) ≤ (n1 : Int) := by omega
    have j4 : (n0 : Int) ≤ (d0 : Int) := by omega
    have j5 : (n1 : Int) ≤ (d1 : Int) := by omega
    have j6 : (n0 : Int) ≤ 100000 := by simp only [List.length_cons] at hla; omega
    have j7 : (n1 : Int) ≤ 100000 := by simp only [List.length_cons] at hlb; omega
    have HX := hideT (And.intro hx (And.intro hy (And.intro hn (And.intro hpl hB))))
    have HN := hideT (And.intro hn0 hn1)
    clear hne hla hlb hx hy hn hpl hB hn0 hn1 hc0 hc1
    go_upto_region 5 with fail
    have HSO := hideT (fun (V : World) (hV : Below w.heap.size w V) => (⟨(World.cell?_of_block (a := ⟨g0, _, none⟩) ((hV.block g0 (HS.out.1 g0 hs0)).trans (HR.out.bel.block g0 (HS.out.1 g0 hs0)).symm)).trans p0, (World.cell?_of_block (a := ⟨g0, _, none⟩) ((hV.block g0 (HS.out.1 g0 hs0)).trans (HR.out.bel.block g0 (HS.out.1 g0 hs0)).symm)).trans p1, (World.cell?_of_block (a := ⟨g1, _, none⟩) ((hV.block g1 (HS.out.1 g1 hs1)).trans (HR.out.bel.block g1 (HS.out.1 g1 hs1)).symm)).trans q0, (World.cell?_of_block (a := ⟨g1, _, none⟩) ((hV.block g1 (HS.out.1 g1 hs1)).trans (HR.out.bel.block g1 (HS.out.1 g1 hs1)).symm)).trans q1⟩ : V.cell? ⟨g0, o0, none⟩ = some (.int .i64 (x.1 : Nat)) ∧ V.cell? ⟨g0, o0 + 1, none⟩ = some (.int .i64 (x.2 : Nat)) ∧ V.cell? ⟨g1, o1, none⟩ = some (.int .i64 (y.1 : Nat)) ∧ V.cell? ⟨g1, o1 + 1, none⟩ = some (.int .i64 (y.2 : Nat))))
    clear hs0 hs1
    have hst := sum_step x y xs ys
    by_cases c1 : x.1 < y.1
    · have i5 : (x.1 : Int) < (y.1 : Int) := by omega
      rw [show Nat.blt x.1 y.1 = true from Nat.ble_eq_true_of_le c1, cond_true] at hst
      have HST := hideT hst
      clear hst c1
      go_quiet (fail)
      go_upto_region 6 with fail
      have HD := hideT (HR.out.bel.trans (show Below w.heap.size wr (wr.drewN nq).drew from ⟨rfl, rfl, rfl, Nat.le_refl _, fun _ _ => rfl⟩))
      have hS0 := HSO.out (wr.drewN (nq + 1)) HD.out
      refine wp_region_held (S := fun V : World => V.cell? ⟨g0, o0, none⟩ = some (.int .i64 (x.1 : Nat)) ∧ V.cell? ⟨g0, o0 + 1, none⟩ = some (.int .i64 (x.2 : Nat)) ∧ V.cell? ⟨g1, o1, none⟩ = some (.int .i64 (y.1 : Nat)) ∧ V.cell? ⟨g1, o1 + 1, none⟩ = some (.int .i64 (y.2 : Nat))) (by kernel_rfl) ?_
      refine tq 0 52 hS0 ?_
      refine tq 1 53 hS0 ?_
      refine tq 2 54 hS0 ?_
      refine tq 3 55 hS0 ?_
      refine tq 6 58 hS0 ?_
      refine tq 7 59 hS0 ?_
      simp only [Act.put, List.setIfInBounds_toArray, List.set_cons_zero, List.set_cons_succ]
      refine wpAnyH_all (rs := [4]) (by kernel_rfl) (by simp) (fun j hj => ?_)
      obtain rfl : j = 4 := List.mem_singleton.1 hj
      have hB1 : Below w.heap.size w ((wr.drewN (nq + 1)).alloc (.cells #[.int .i64 (x.1 : Nat), .int .i64 (x.2 : Nat)] 95)) := HD.out.alloc HD.out.size _
      refine op_value (some 56) rfl rfl (by rfl) (v := .slice (some ⟨(wr.drewN (nq + 1)).heap.size, 0, none⟩) 1 1) (w' := ((wr.drewN (nq + 1)).alloc (.cells #[.int .i64 (x.1 : Nat), .int .i64 (x.2 : Nat)] 95))) (by go_simp; rfl) ⟨HSO.out _ hB1, ?_⟩
      simp only [Act.put, List.setIfInBounds_toArray, List.set_cons_zero, List.set_cons_succ]
      refine wpAnyH_all (rs := [5]) (by kernel_rfl) (by simp) (fun j hj => ?_)
      obtain rfl : j = 5 := List.mem_singleton.1 hj
      refine op_app_st (S := fun g => g = (wr.drewN (nq + 1)).heap.size) 57 rfl rfl rfl _ _ _ rfl w.heap.size i0 _ 16 Try.underlying81 hi0 hz0 hz1 hz2 rfl _ pre rfl (show World.ownsRow ((wr.drewN (nq + 1)).alloc (.cells #[.int .i64 (x.1 : Nat), .int .i64 (x.2 : Nat)] 95)) _ _ _ _ _ _ from (show World.ownsRow (wr.drewN (nq + 1)) _ _ _ _ _ _ from HR.out.row).alloc _) _ [x] rfl (lit_st (wr.drewN (nq + 1)) x) (by have := HX.out; rw [List.length_singleton]; omega) (by omega) hB1.size ?_
      intro v9 W9 e1 e2
      have HNX := hideT (HR.out.next HS.out.1 (v0' := (.slice (if d0 = 1 then some ⟨g0, o0, none⟩ else some ⟨g0, o0 + 2, none⟩) (n0 - 1) (d0 - 1))) (v1' := (.slice (some ⟨g1, o1, none⟩) n1 d1)) e2 hB1 e1 (fun X h => h.tail.1) (fun X h => h) HR.out.oa.tail HR.out.ob HST.out)
      have hS9 := HSO.out W9 HNX.out.bel
      refine ⟨hS9, ?_⟩
      clear hS0 e1 e2 hB1
      simp only [Act.put, List.setIfInBounds_toArray, List.set_cons_zero, List.set_cons_succ]
      generalize (if d0 = 1 then (some ⟨g0, o0, none⟩ : Option Addr) else some ⟨g0, o0 + 2, none⟩) = pa at *
      refine tq 8 5 hS9 ?_
      refine tq 9 0 hS9 ?_
      simp only [Act.put, List.setIfInBounds_toArray, List.set_cons_zero, List.set_cons_succ]
      refine wpAnyH_done (by kernel_rfl) ?_ _
      clear hS9
      go_wp2_with fail
      go_roundw
      case rel => exact ⟨xs, y :: ys, pre ++ [x], HNX⟩
      case measure => have := HN.out; simp [lenOf]; omega
    · have i5 : ((x.1 : Int) < (y.1 : Int)) = False := by rw [eq_iff_iff, iff_false]; omega
      rw [show Nat.blt x.1 y.1 = false by cases e : Nat.blt x.1 y.1 with
       | false => rfl
       | true => exact absurd (Nat.le_of_ble_eq_true e) c1, cond_false] at hst
      go_quiet (fail)
      revert nq
      intro nqa
      go_upto_region 7 with fail
      by_cases c2 : y.1 < x.1
      · have i6 : (y.1 : Int) < (x.1 : Int) := by omega
        rw [show Nat.blt y.1 x.1 = true from Nat.ble_eq_true_of_le c2, cond_true] at hst
        have HST := hideT hst
        clear hst c1 c2
        go_quiet (fail)
        go_upto_region 8 with fail
        have HD := hideT (HR.out.bel.trans (show Below w.heap.size wr ((wr.drewN nqa).drewN (nq + 1)) from ⟨rfl, rfl, rfl, Nat.le_refl _, fun _ _ => rfl⟩))
        have hS0 := HSO.out ((wr.drewN nqa).drewN (nq + 1)) HD.out
        refine wp_region_held (S := fun V : World => V.cell? ⟨g0, o0, none⟩ = some (.int .i64 (x.1 : Nat)) ∧ V.cell? ⟨g0, o0 + 1, none⟩ = some (.int .i64 (x.2 : Nat)) ∧ V.cell? ⟨g1, o1, none⟩ = some (.int .i64 (y.1 : Nat)) ∧ V.cell? ⟨g1, o1 + 1, none⟩ = some (.int .i64 (y.2 : Nat))) (by kernel_rfl) ?_
        refine tq 0 70 hS0 ?_
        refine tq 1 71 hS0 ?_
        refine tq 2 72 hS0 ?_
        refine tq 3 73 hS0 ?_
        refine tq 6 76 hS0 ?_
        refine tq 7 77 hS0 ?_
        simp only [Act.put, List.setIfInBounds_toArray, List.set_cons_zero, List.set_cons_succ]
        refine wpAnyH_all (rs := [4]) (by kernel_rfl) (by simp) (fun j hj => ?_)
        obtain rfl : j = 4 := List.mem_singleton.1 hj
        have hB1 : Below w.heap.size w (((wr.drewN nqa).drewN (nq + 1)).alloc (.cells #[.int .i64 (y.1 : Nat), .int .i64 (y.2 : Nat)] 95)) := HD.out.alloc HD.out.size _
        refine op_value (some 74) rfl rfl (by rfl) (v := .slice (some ⟨((wr.drewN nqa).drewN (nq + 1)).heap.size, 0, none⟩) 1 1) (w' := (((wr.drewN nqa).drewN (nq + 1)).alloc (.cells #[.int .i64 (y.1 : Nat), .int .i64 (y.2 : Nat)] 95))) (by go_simp; rfl) ⟨HSO.out _ hB1, ?_⟩
        simp only [Act.put, List.setIfInBounds_toArray, List.set_cons_zero, List.set_cons_succ]
        refine wpAnyH_all (rs := [5]) (by kernel_rfl) (by simp) (fun j hj => ?_)
        obtain rfl : j = 5 := List.mem_singleton.1 hj
        refine op_app_st (S := fun g => g = ((wr.drewN nqa).drewN (nq + 1)).heap.size) 75 rfl rfl rfl _ _ _ rfl w.heap.size i0 _ 16 Try.underlying81 hi0 hz0 hz1 hz2 rfl _ pre rfl (show World.ownsRow (((wr.drewN nqa).drewN (nq + 1)).alloc (.cells #[.int .i64 (y.1 : Nat), .int .i64 (y.2 : Nat)] 95)) _ _ _ _ _ _ from (show World.ownsRow ((wr.drewN nqa).drewN (nq + 1)) _ _ _ _ _ _ from HR.out.row).alloc _) _ [y] rfl (lit_st ((wr.drewN nqa).drewN (nq + 1)) y) (by have := HX.out; rw [List.length_singleton]; omega) (by omega) hB1.size ?_
        intro v9 W9 e1 e2
        have HNX := hideT (HR.out.next HS.out.1 (v0' := (.slice (some ⟨g0, o0, none⟩) n0 d0)) (v1' := (.slice (if d1 = 1 then some ⟨g1, o1, none⟩ else some ⟨g1, o1 + 2, none⟩) (n1 - 1) (d1 - 1))) e2 hB1 e1 (fun X h => h) (fun X h => h.tail.1) HR.out.oa HR.out.ob.tail HST.out)
        have hS9 := HSO.out W9 HNX.out.bel
        refine ⟨hS9, ?_⟩
        clear hS0 e1 e2 hB1
        simp only [Act.put, List.setIfInBounds_toArray, List.set_cons_zero, List.set_cons_succ]
        generalize (if d1 = 1 then (some ⟨g1, o1, none⟩ : Option Addr) else some ⟨g1, o1 + 2, none⟩) = pa at *
        refine tq 8 5 hS9 ?_
        refine tq 9 1 hS9 ?_
        simp only [Act.put, List.setIfInBounds_toArray, List.set_cons_zero, List.set_cons_succ]
        refine wpAnyH_done (by kernel_rfl) ?_ _
        clear hS9
        go_wp2_with fail
        go_roundw
        case rel => exact ⟨x :: xs, ys, pre ++ [y], HNX⟩
        case measure => have := HN.out; simp [lenOf]; omega
      · have i6 : ((y.1 : Int) < (x.1 : Int)) = False := by rw [eq_iff_iff, iff_false]; omega
        rw [show Nat.blt y.1 x.1 = false by cases e : Nat.blt y.1 x.1 with
         | false => rfl
         | true => exact absurd (Nat.le_of_ble_eq_true e) c2, cond_false] at hst
        have HST := hideT hst
        clear hst c1 c2
        go_quiet (fail)
        go_upto_region 3 with fail
        rename_i K3 hK3
        have HD := hideT (HR.out.bel.trans (show Below w.heap.size wr ((wr.drewN nqa).drewN (nq + 1)) from ⟨rfl, rfl, rfl, Nat.le_refl _, fun _ _ => rfl⟩))
        have hS0 := HSO.out ((wr.drewN nqa).drewN (nq + 1)) HD.out
        have k1 : (x.2 : Int) + (y.2 : Int) ≤ 10000 := by have := HX.out.1.2; have := HX.out.2.1.2; omega
        have H9 := hideT (show IntKind.i64.wrap ((x.2 : Int) + (y.2 : Int)) = (x.2 : Int) + (y.2 : Int) by exact IntWalk.i64_in _ (by omega))
        have H8 := hideT (Int.natCast_add x.2 y.2)
        refine wp_region_held (S := fun V : World => V.cell? ⟨g0, o0, none⟩ = some (.int .i64 (x.1 : Nat)) ∧ V.cell? ⟨g0, o0 + 1, none⟩ = some (.int .i64 (x.2 : Nat)) ∧ V.cell? ⟨g1, o1, none⟩ = some (.int .i64 (y.1 : Nat)) ∧ V.cell? ⟨g1, o1 + 1, none⟩ = some (.int .i64 (y.2 : Nat))) (by kernel_rfl) ?_
        refine tq 0 20 hS0 ?_
        refine tq 1 21 hS0 ?_
        refine tq 2 22 hS0 ?_
        refine tq 3 23 hS0 ?_
        refine tq 4 24 hS0 ?_
        refine tq 5 25 hS0 ?_
        refine tq 6 26 hS0 ?_
        refine tq 7 27 hS0 ?_
        refine tq 8 28 hS0 ?_
        refine tq 9 29 hS0 ?_
        refine tq 10 30 hS0 ?_
        refine tq 11 31 hS0 ?_
        refine tq 12 32 hS0 ?_
        refine tq 13 33 hS0 ?_
        simp only [Act.put, List.setIfInBounds_toArray, List.set_cons_zero, List.set_cons_succ]
        refine wpAnyH_all (rs := [14]) (by kernel_rfl) (by simp) (fun j hj => ?_)
        obtain rfl : j = 14 := List.mem_singleton.1 hj
        refine op_call (R := fun v w1 => v = .int .i64 (capN (x.2 + y.2) : Nat) ∧ w1 = ((wr.drewN nqa).drewN (nq + 1))) (f := 51) (args := #[.int .i64 (x.2 + y.2 : Nat)]) (some 34) rfl rfl (by rfl) (by go_simp; (try rw [H8.out]); (try rw [H9.out]); (try rfl)) ((capped_any (x.2 + y.2) ((wr.drewN nqa).drewN (nq + 1))).mono ?_) ?_
        · rintro e w1 ⟨rfl, rfl⟩
          exact ⟨_, rfl, rfl, rfl⟩
        rintro v w1 ⟨rfl, rfl⟩
        refine ⟨hS0, ?_⟩
        simp only [Act.put, List.setIfInBounds_toArray, List.set_cons_zero, List.set_cons_succ]
        generalize hzz : capN (x.2 + y.2) = zz at *
        refine tq 15 35 hS0 ?_
        simp only [Act.put, List.setIfInBounds_toArray, List.set_cons_zero, List.set_cons_succ]
        refine wpAnyH_all (rs := [16]) (by kernel_rfl) (by simp) (fun j hj => ?_)
        obtain rfl : j = 16 := List.mem_singleton.1 hj
        have hB1 : Below w.heap.size w (((wr.drewN nqa).drewN (nq + 1)).alloc (.cells #[.int .i64 (x.1 : Nat), .int .i64 (zz : Nat)] 95)) := HD.out.alloc HD.out.size _
        refine op_value (some 36) rfl rfl (by rfl) (v := .slice (some ⟨((wr.drewN nqa).drewN (nq + 1)).heap.size, 0, none⟩) 1 1) (w' := (((wr.drewN nqa).drewN (nq + 1)).alloc (.cells #[.int .i64 (x.1 : Nat), .int .i64 (zz : Nat)] 95))) (by go_simp; (try rfl)) ⟨HSO.out _ hB1, ?_⟩
        simp only [Act.put, List.setIfInBounds_toArray, List.set_cons_zero, List.set_cons_succ]
        refine wpAnyH_all (rs := [17]) (by kernel_rfl) (by simp) (fun j hj => ?_)
        obtain rfl : j = 17 := List.mem_singleton.1 hj
        refine op_app_st (S := fun g => g = ((wr.drewN nqa).drewN (nq + 1)).heap.size) 37 rfl rfl rfl _ _ _ rfl w.heap.size i0 _ 16 Try.underlying81 hi0 hz0 hz1 hz2 rfl _ pre rfl (show World.ownsRow (((wr.drewN nqa).drewN (nq + 1)).alloc (.cells #[.int .i64 (x.1 : Nat), .int .i64 (zz : Nat)] 95)) _ _ _ _ _ _ from (show World.ownsRow ((wr.drewN nqa).drewN (nq + 1)) _ _ _ _ _ _ from HR.out.row).alloc _) _ [(x.1, zz)] rfl (lit_st ((wr.drewN nqa).drewN (nq + 1)) (x.1, zz)) (by have := HX.out; rw [List.length_singleton]; omega) (by omega) hB1.size ?_
        intro v9 W9 e1 e2
        have HNX := hideT (HR.out.next HS.out.1 (v0' := (.slice (if d0 = 1 then some ⟨g0, o0, none⟩ else some ⟨g0, o0 + 2, none⟩) (n0 - 1) (d0 - 1))) (v1' := (.slice (if d1 = 1 then some ⟨g1, o1, none⟩ else some ⟨g1, o1 + 2, none⟩) (n1 - 1) (d1 - 1))) e2 hB1 e1 (fun X h => h.tail.1) (fun X h => h.tail.1) HR.out.oa.tail HR.out.ob.tail HST.out)
        have hS9 := HSO.out W9 HNX.out.bel
        refine ⟨hS9, ?_⟩
        clear hS0 e1 e2 hB1
        simp only [Act.put, List.setIfInBounds_toArray, List.set_cons_zero, List.set_cons_succ]
        refine tq 18 5 hS9 ?_
        simp only [Act.put, List.setIfInBounds_toArray, List.set_cons_zero, List.set_cons_succ]
        refine wpAnyH_done (by kernel_rfl) (hK3 _ _ ?_) _
        clear hS9 hK3
        obtain ⟨pa, hpa⟩ : ∃ pa, (if d0 = 1 then (some ⟨g0, o0, none⟩ : Option Addr) else some ⟨g0, o0 + 2, none⟩) = pa := ⟨_, rfl⟩
        obtain ⟨pb, hpb⟩ : ∃ pb, (if d1 = 1 then (some ⟨g1, o1, none⟩ : Option Addr) else some ⟨g1, o1 + 2, none⟩) = pb := ⟨_, rfl⟩
        rw [hpa, hpb] at HNX
        go_quiet (fail)
        have HNY := hideT (HNX.out.move HS.out.1 (show Below W9.heap.size W9 (W9.drewN nq) from ⟨rfl, rfl, rfl, Nat.le_refl _, fun _ _ => rfl⟩) rfl)
        clear HNX hpa hpb HSO HST
        go_wp2_with fail
        go_roundw
        case rel => exact ⟨xs, ys, pre ++ [(x.1, zz)], HNY⟩
        case measure => have := HN.out; simp [lenOf]; omega
end Go.Proofs.Ytolpakpdkheanaa.tly
