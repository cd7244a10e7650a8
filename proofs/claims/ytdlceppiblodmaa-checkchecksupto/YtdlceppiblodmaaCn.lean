/- CheckLabels: the walk. -/
import Derived.Test.YtdlceppiblodmaaCm
import Derived.Deep.CutRange
namespace Go.Proofs.Ytdlceppiblodmaa
open Go.RowKit
open chkP

def TRow (W : World) (v : Value) (l : List ByteArray) : Prop := ∃ a cp, v = .slice a l.length cp ∧ ∀ (k : Nat) (x : ByteArray), l[k]? = some x → ∃ g o, a = some ⟨g, o, none⟩ ∧ W.cell? ⟨g, o + k, none⟩ = some (.string x)
def BRow (W : World) (v : Value) (l : List UInt8) : Prop := ∃ a cp, v = .slice a l.length cp ∧ ∀ (k : Nat) (x : UInt8), l[k]? = some x → ∃ g o, a = some ⟨g, o, none⟩ ∧ W.cell? ⟨g, o + k, none⟩ = some (.int .u8 (x.toNat : Nat))
def strV (l : List (List UInt8)) : List Value := l.map fun t => Value.string ⟨t.toArray⟩
theorem strV_len (l : List (List UInt8)) : (strV l).length = l.length := by simp [strV]
/-- The labels that were taken so far, as they lie. -/
structure OwAt (W wr : World) (v : Value) (l : List (List UInt8)) : Prop where
  own : wr.ownsRow W.heap.size 9 1 v l.length (strV l)
  below : Below W.heap.size W wr
theorem OwAt.step {W wr w' : World} {v : Value} {l : List (List UInt8)} (h : OwAt W wr v l) (hb : Below wr.heap.size wr w') : OwAt W w' v l :=
  ⟨owns_keep h.own (fun g hg => hb.block g (h.own.lt g hg).2), h.below.trans (hb.mono h.below.size)⟩
theorem OwAt.shape {W wr : World} {v : Value} {l : List (List UInt8)} (h : OwAt W wr v l) : ∃ a cp, v = .slice a l.length cp ∧ ∀ (k : Nat) (t : List UInt8), l[k]? = some t → ∃ g, a = some ⟨g, 0, none⟩ ∧ wr.cell? ⟨g, k, none⟩ = some (.string ⟨t.toArray⟩) := by
  rcases h.own.2 with ⟨rfl, h0⟩ | ⟨g, cap, cur, rfl, hr⟩
  · exact ⟨none, 0, by rw [h0], fun k t ht => by
      have := (List.getElem?_eq_some_iff.1 ht).1
      omega⟩
  · refine ⟨some ⟨g, 0, none⟩, cap, rfl, fun k t ht => ⟨g, rfl, ?_⟩⟩
    have h1 := h.own.cells (g := g) rfl k (.string ⟨t.toArray⟩) (by rw [strV, List.getElem?_map, ht]; rfl)
    have hadd : (⟨g, 0, none⟩ : Addr).add k = ⟨g, k, none⟩ := by unfold Addr.add; split <;> simp_all
    rw [hadd] at h1
    exact h1
theorem infoStr : (Try.prog.info? 9).map (fun i => (i.zero, i.size, i.bytes)) = some (some (.string ⟨#[]⟩), 1, 16) := by kernel_rfl

/-- A label is added. -/
theorem append_str {W w V : World} {ops : Array Oper} {rest : List Oper} {op : Oper} {a : Act} {Q : Exit → Act → World → Prop} (hgd : op.guard = none) (s x : Operand)
    (ho : op.op = .call { callee := .builtin .append, args := #[s, x], argTypes := #[38, 38] })
    (v : Value) (l : List (List UInt8)) (t : List UInt8) (hw : w = V.alloc (.cells #[.string ⟨t.toArray⟩] 9)) (hs : a.eval s = v) (hA : OwAt W V v l) (hx : a.eval x = .slice (some ⟨V.heap.size, 0, none⟩) 1 1) (hl : l.length ≤ 1000000000)
    (h : ∀ g2 cap w', OwAt W w' (.slice (some ⟨g2, 0, none⟩) (l.length + 1) cap) (l ++ [t]) → wpList Try.prog ops Q rest (a.put op.dst (.slice (some ⟨g2, 0, none⟩) (l.length + 1) cap)) w') : wpList Try.prog ops Q (op :: rest) a w := by
  subst hw
  obtain ⟨i0, hi, hz0, hz1, hz2⟩ := info_parts infoStr
  refine wpList_append_lies _ hgd s x 38 ho W.heap.size 9 i0 _ 1 16 Try.underlying38 hi hz0 hz1 hz2 rfl (by decide) v l.length (strV l) hs (World.ownsRow.alloc hA.own _) ⟨V.heap.size, 0, none⟩ 1 1 [.string ⟨t.toArray⟩] hx rfl (World.news_of_block (cs := #[.string ⟨t.toArray⟩]) (heap_alloc_new V _)) (by simp [Value.oneCell']) (by decide) (by unfold maxLen; omega) (by omega) (by rw [World.size_alloc]; have := hA.below.size; omega) (V.heap.size + 1) (by simp) ?_
  intro g2 cap w' h1 h2 h3 _
  refine h g2 cap w' ⟨?_, ?_⟩
  · rw [List.length_append, List.length_singleton, show strV (l ++ [t]) = strV l ++ [.string ⟨t.toArray⟩] by simp [strV]]
    exact h1
  · have h2' : V.grownBy w' v.ownBlock := ⟨h2.os, h2.tape, h2.output, Nat.le_trans (by rw [World.size_alloc]; omega) h2.size, fun k hk hne => (h2.block k (by rw [World.size_alloc]; omega) hne).trans (Below.heap_alloc V _ k hk)⟩
    exact hA.below.trans (below_grown h2' (fun g hg => (hA.own.lt g hg).1) hA.below.size)
theorem cut32 (s : ByteArray) (m : Nat) (hm : m = min s.size 32) : s.extract 0 m = ⟨(s.data.toList.take 32).toArray⟩ := by
  obtain ⟨⟨l⟩⟩ := s
  subst hm
  have h1 : (ByteArray.mk l.toArray).size = l.length := rfl
  rw [h1]
  apply ByteArray.ext
  rw [ByteArray.data_extract]
  apply Array.toList_inj.1
  rw [Array.toList_extract]
  simp only [List.extract_eq_take_drop, List.drop_zero, Nat.sub_zero]
  rcases Nat.le_total l.length 32 with h | h
  · rw [Nat.min_eq_left h, List.take_length, List.take_of_length_le h]
  · rw [Nat.min_eq_right h]

theorem OwAt.beside {W V w' : World} {v : Value} {l : List (List UInt8)} {r : Option Nat} (h : OwAt W V v l) (hg : V.grownBy w' r) (hr : ∀ g, r = some g → W.heap.size ≤ g) (hne : ∀ g, v.ownBlock = some g → r ≠ some g) : OwAt W w' v l :=
  ⟨owns_keep h.own (fun g hv => hg.block g (h.own.lt g hv).2 (fun e => hne g hv e.symm)), h.below.trans (below_grown hg hr h.below.size)⟩
theorem own_apart {W V : World} {v ov : Value} {l : List Cm} {own : List (List UInt8)} (h : CsAt W V v l) (h' : OwAt W V ov own) : ∀ g, ov.ownBlock = some g → v.ownBlock ≠ some g := fun g hg e => by
  rcases h.own.2 with ⟨rfl, _⟩ | ⟨g1, _, _, rfl, _, hh1, _⟩
  · cases e
  · cases e
    rcases h'.own.2 with ⟨rfl, _⟩ | ⟨g2, _, _, rfl, _, hh2, _⟩
    · cases hg
    · have e2 : g2 = g1 := by injection hg
      rw [e2, hh1] at hh2
      injection hh2 with hh2
      injection hh2 with _ hh2 _
      exact absurd hh2 (by decide)
/-- append in a region that draws. -/
theorem op_append {W w V : World} {ops : Array Oper} {i : Nat} {op : Oper} {a : Act} {K : Act → World → Prop} {Q : Exit → Act → World → Prop} (d : Option Tmp) (hi : ops[i]? = some op) (hd : op.dst = d) (hgd : op.guard = none) (s x : Operand)
    (ho : op.op = .call { callee := .builtin .append, args := #[s, x], argTypes := #[22, 22] })
    (v : Value) (l m : List Cm) (cs : Array Value) (hw : w = V.alloc (.cells cs 27)) (hcs : cs.toList = cmX (zr m)) (hs : a.eval s = v) (hA : CsAt W V v l) (c : Nat) (hx : a.eval x = .slice (some ⟨V.heap.size, 0, none⟩) m.length c) (hm : 0 < m.length) (hl : l.length + m.length ≤ 1000000000) (hlab : ∀ c ∈ m, c.lb.length ≤ 1000000000000000)
    (h : ∀ g2 cap w', CsAt W w' (.slice (some ⟨g2, 0, none⟩) (l.length + m.length) cap) (l ++ m) → V.grownBy w' v.ownBlock → K (a.put d (.slice (some ⟨g2, 0, none⟩) (l.length + m.length) cap)) w') : wpOp Try.prog ops Q i K a w := by
  subst hw
  subst hd
  unfold wpOp
  rw [hi]
  dsimp only
  rw [if_pos (wanted_none hgd _)]
  refine .inl ?_
  obtain ⟨i0, hi0, hz0, hz1, hz2⟩ := info_parts infoCmd
  refine wp_append_lies _ s x 22 ho W.heap.size 27 i0 _ 19 216 Try.underlying22 hi0 hz0 hz1 hz2 rfl (by decide) v (zr l).length (cmX (zr l)) hs (World.ownsRow.alloc hA.own _) ⟨V.heap.size, 0, none⟩ m.length c (cmX (zr m)) hx (by rw [cmX_len, zr_len]) (fun j u hu => ?_) (cmX_one _) hm (by rw [zr_len]; unfold maxLen; omega) (by rw [zr_len]; omega) (by rw [World.size_alloc]; have := hA.below.size; omega) (V.heap.size + 1) (by simp) ?_
  · have hadd : (⟨V.heap.size, 0, none⟩ : Addr).add j = ⟨V.heap.size, 0 + j, none⟩ := by unfold Addr.add; split <;> simp_all
    rw [hadd]
    exact lies_block (heap_alloc_new V _) (by rw [hcs, List.take_length]) j u hu
  · intro g2 cap w' h1 h2 h3 _
    have h2' : V.grownBy w' v.ownBlock := ⟨h2.os, h2.tape, h2.output, Nat.le_trans (by rw [World.size_alloc]; omega) h2.size, fun k hk hne => (h2.block k (by rw [World.size_alloc]; omega) hne).trans (Below.heap_alloc V _ k hk)⟩
    rw [zr_len] at h1 ⊢
    refine h g2 cap w' ⟨?_, hA.below.trans (below_grown h2' (fun g hg => (hA.own.lt g hg).1) hA.below.size), fun e => ?_, fun c hc => ?_⟩ h2'
    · rw [zr_len, List.length_append, zr_app, cmX_app]
      exact h1
    · have := congrArg List.length e
      rw [List.length_append, List.length_nil] at this
      omega
    · rcases List.mem_append.1 hc with hc | hc
      · exact hA.labs c hc
      · exact hlab c hc

def knownB (t : List UInt8) (own : List (List UInt8)) (j : Nat) : Bool := t.isEmpty || (own.take j).any (fun x => x == t)
theorem known_succ (t : List UInt8) (own : List (List UInt8)) (j : Nat) (h : j < own.length) : knownB t own (j + 1) = (knownB t own j || ((own[j]'h) == t)) := by
  unfold knownB
  rw [List.take_succ_eq_append_getElem h, List.any_append]
  simp [Bool.or_assoc]
theorem known_all (t : List UInt8) (own : List (List UInt8)) : (knownB t own own.length = true → t = [] ∨ t ∈ own) ∧ (knownB t own own.length = false → t ≠ [] ∧ t ∉ own) := by
  unfold knownB
  rw [List.take_length]
  constructor
  · intro h
    rw [Bool.or_eq_true, List.any_eq_true] at h
    rcases h with h | ⟨x, hx, h⟩
    · exact .inl (by simpa using h)
    · exact .inr (by rw [← eq_of_beq h]; exact hx)
  · intro h
    rw [Bool.or_eq_false_iff, List.any_eq_false] at h
    exact ⟨by simpa using h.1, fun hm => h.2 t hm (beq_self_eq_true t)⟩
theorem own_known {own : List (List UInt8)} {s : ByteArray} {t : List UInt8} (ht : t = s.data.toList.take 32) (h : t = [] ∨ t ∈ own) : ownS own s = own := by
  unfold ownS
  rw [← ht]
  dsimp only
  rw [if_pos (by rcases h with h | h; exact .inl h; exact .inr (.inl h))]
theorem own_full {own : List (List UInt8)} {s : ByteArray} {t : List UInt8} (_ : t = s.data.toList.take 32) (h : 10 ≤ own.length) : ownS own s = own := by
  unfold ownS
  dsimp only
  rw [if_pos (.inr (.inr h))]
theorem own_new {own : List (List UInt8)} {s : ByteArray} {t : List UInt8} (ht : t = s.data.toList.take 32) (h : t ≠ [] ∧ t ∉ own) (h10 : own.length < 10) : ownS own s = own ++ [t] := by
  unfold ownS
  rw [← ht]
  dsimp only
  rw [if_neg (by rintro (h1 | h1 | h1); exact h.1 h1; exact h.2 h1; omega)]

set_option maxRecDepth 100000 in
set_option maxHeartbeats 4000000 in
theorem labels_walk (v0 v1 : Value) (names : List ByteArray) (ord : List UInt8) (W : World) (h0 : TRow W v0 names) (h1 : BRow W v1 ord) (hn : names.length ≤ 1048576) (ho : ord.length ≤ 1048576) (hsz : ∀ s ∈ names, s.size ≤ 1048576) : Calls Try.prog 5 #[v0, v1] W fun e w' => e = .returned (.bool true) ∧ Below W.heap.size W w' := by
  have HA := hideT (awake_any W)
  obtain ⟨a0, cp0, rfl, row0⟩ := h0
  obtain ⟨a1, cp1, rfl, row1⟩ := h1
  have HR0 := hideT row0
  have HR1 := hideT row1
  have HZ := hideT hsz
  clear row0 row1 hsz
  go_enter Try.func5, Try.ntmps5
  go_wp2_with fail
  refine HA.out.mono ?_
  rintro e X0 ⟨rfl, hb0⟩
  have HS := hideT (show OwAt W X0 (.slice none 0 0) [] from ⟨World.ownsRow_nil _ _ _ _, hb0⟩)
  clear hb0 HA
  go_wp2_with fail
  go_loopw [5, 21] (fun ov iv wr => ∃ i : Nat, i ≤ names.length ∧ iv = .int .i64 (i : Nat) ∧ Hid (OwAt W wr ov ((names.take i).foldl ownS []))) (fun _ iv _ => names.length - (intOf iv).toNat)
  case atStart => exact ⟨0, Nat.zero_le _, rfl, HS⟩
  case round =>
    obtain ⟨i, hi, rfl, HI⟩ := hrel
    have HOK := hideT (own_ok (names.take i) [] own_nil)
    have HNX := hideT (show ∀ hlt : i < names.length, (names.take (i + 1)).foldl ownS [] = ownS ((names.take i).foldl ownS []) (names[i]'hlt) from fun hlt => by rw [List.take_succ_eq_append_getElem hlt, List.foldl_append]; rfl)
    by_cases hlt : i < names.length
    · have hnx := HNX.out hlt
      have i1 : (i : Int) < (names.length : Int) := by omega
      have i2 : (0 : Int) ≤ (i : Int) := by omega
      obtain ⟨g, o, rfl, hc⟩ := HR0.out i _ (List.getElem?_eq_getElem hlt)
      have hsz := HZ.out _ (List.getElem_mem hlt)
      generalize (names[i]'hlt) = s at *
      generalize (names.take i).foldl ownS [] = own at *
      have cs := keep_cell HI.out.below hc
      have HNX2 := hideT hnx
      clear hnx hc HNX
      obtain ⟨a5, cp5, rfl, hsh⟩ := HI.out.shape
      have HSH := hideT hsh
      clear hsh
      have hol := HOK.out.le
      obtain ⟨t, ht⟩ : ∃ t, t = s.data.toList.take 32 := ⟨_, rfl⟩
      have HT := hideT ht
      clear ht
      go_upto_region 7 with fail
      go_cut [7] from 25 to 29 (fun s7 w' => s7 = .string ⟨t.toArray⟩ ∧ w' = wr)
      case first =>
        by_cases h32 : s.size ≤ 32
        · have hcut := cut32 s s.size (by omega)
          rw [← HT.out] at hcut
          have hall : s.extract 0 s.size = s := by simp
          rw [hall] at hcut
          subst hcut
          have m1 : (t.length : Int) ≤ 32 := by have : t.length ≤ 32 := h32; omega
          clear h32
          go_wp2
          all_goals go_meet
          all_goals (exact ⟨congrArg Value.string hall, rfl⟩)
        · have hcut := cut32 s 32 (by omega)
          rw [← HT.out] at hcut
          have m1 : (32 : Int) < (s.size : Int) := by omega
          have m2 : (32 : Int) ≤ (s.size : Int) := by omega
          clear h32
          go_wp2
          all_goals go_meet
          all_goals (exact ⟨by simp, rfl⟩)
      case rest =>
      obtain ⟨rfl, hwc⟩ := hcut
      subst hwc
      go_wp2_with fail
      go_loopw [8, 34] (fun kv iv w' => ∃ j : Nat, j ≤ own.length ∧ iv = .int .i64 (j : Nat) ∧ kv = .bool (knownB t own j) ∧ w' = wc) (fun _ iv _ => own.length - (intOf iv).toNat)
      case atStart => exact ⟨0, Nat.zero_le _, rfl, by simp [knownB], rfl⟩
      case round =>
        obtain ⟨j, hj, rfl, rfl, hwr⟩ := hrel
        subst hwr
        by_cases hlj : j < own.length
        · have j1 : (j : Int) < (own.length : Int) := by omega
          have j2 : (0 : Int) ≤ (j : Int) := by omega
          have hkn : knownB t own (j + 1) = (knownB t own j || ((own[j]'hlj) == t)) := known_succ t own j hlj
          obtain ⟨g5, rfl, hc5⟩ := HSH.out j _ (List.getElem?_eq_getElem hlj)
          generalize (own[j]'hlj) = x at *
          have HKN := hideT hkn
          clear hkn
          generalize knownB t own j = kb at *
          cases kb with
          | true =>
            go_wp2
            exact ⟨⟨j + 1, by omega, by go_num, by rw [HKN.out]; rfl, by simp⟩, by simp [intOf]; omega⟩
          | false =>
            by_cases hx : x = t
            · have y1 : (x == t) = true := by rw [hx]; exact beq_self_eq_true _
              have y2 : (x = t) = True := by rw [hx]; exact eq_self _
              clear hx
              go_wp2
              exact ⟨⟨j + 1, by omega, by go_num, by rw [HKN.out, y1]; rfl, by simp⟩, by simp [intOf]; omega⟩
            · have y1 : (x == t) = false := by rw [beq_eq_false_iff_ne]; exact hx
              have y2 : (x = t) = False := by rw [eq_iff_iff, iff_false]; exact hx
              clear hx
              go_wp2
              exact ⟨⟨j + 1, by omega, by go_num, by rw [HKN.out, y1]; rfl, by simp⟩, by simp [intOf]; omega⟩
        · obtain rfl : j = own.length := by omega
          have j1 : ((own.length : Int) < (own.length : Int)) = False := by rw [eq_iff_iff, iff_false]; omega
          have HKA := hideT (known_all t own)
          generalize knownB t own own.length = kb at *
          cases kb with
          | true =>
            have HE := hideT (show own = (names.take (i + 1)).foldl ownS [] by rw [HNX2.out, own_known (t := t) HT.out (HKA.out.1 rfl)])
            have HI2 := hideT (show OwAt W wr (.slice a5 own.length cp5) ((names.take (i + 1)).foldl ownS []) by rw [← HE.out]; exact HI.out)
            clear hj hlj
            go_wp2
            exact ⟨⟨i + 1, by omega, by go_num, HI2⟩, by simp [intOf]; omega⟩
          | false =>
            by_cases h10 : own.length < 10
            · have k1 : (own.length : Int) < 10 := by omega
              have HE := hideT (show own ++ [t] = (names.take (i + 1)).foldl ownS [] by rw [HNX2.out, own_new (t := t) HT.out (HKA.out.2 rfl) h10])
              clear hj hlj
              go_wp2_with (at_builtin; refine append_str (W := W) (by rfl) _ _ (by rfl) (.slice a5 own.length cp5) own t rfl (by rfl) HI.out (by rfl) (by have := HOK.out.le; omega) ?_)
              intro g2 cap w2 hA
              have HI2 := hideT (show OwAt W w2 (.slice (some ⟨g2, 0, none⟩) (own.length + 1) cap) ((names.take (i + 1)).foldl ownS []) by rw [← HE.out]; exact hA)
              clear hA
              go_wp2
              exact ⟨⟨i + 1, by omega, by go_num, HI2⟩, by simp [intOf]; omega⟩
            · have k1 : ((own.length : Int) < 10) = False := by rw [eq_iff_iff, iff_false]; omega
              have HE := hideT (show own = (names.take (i + 1)).foldl ownS [] by rw [HNX2.out, own_full (t := t) HT.out (by omega)])
              have HI2 := hideT (show OwAt W wr (.slice a5 own.length cp5) ((names.take (i + 1)).foldl ownS []) by rw [← HE.out]; exact HI.out)
              clear hj hlj
              go_wp2
              exact ⟨⟨i + 1, by omega, by go_num, HI2⟩, by simp [intOf]; omega⟩
    · obtain rfl : i = names.length := by omega
      have i1 : ((names.length : Int) < (names.length : Int)) = False := by rw [eq_iff_iff, iff_false]; omega
      rw [List.take_length] at HI HOK
      generalize names.foldl ownS [] = own at *
      obtain ⟨a5, cp5, rfl, hsh⟩ := HI.out.shape
      have HIW := hideT HI.out
      clear hsh HS HNX hlt hi HI
      have hol := HOK.out.le
      by_cases hp : 0 < own.length
      · have q1 : ((own.length : Int) == 0) = false := by rw [beq_eq_false_iff_ne]; omega
        have q2 : ¬ (own.length : Int) = 0 := by omega
        have q3 : (own = []) = False := by rw [eq_iff_iff, iff_false]; intro e; rw [e] at hp; cases hp
        go_wp2_with fail
        have HS := hideT (show CsAt W wr (.slice none 0 0) (jmpL own (ord.take 0)) ∧ OwAt W wr (.slice a5 own.length cp5) own from ⟨⟨World.ownsRow_nil _ _ _ _, HIW.out.below, fun _ => rfl, fun c h => by cases h⟩, HIW.out⟩)
        go_loopw [11, 62] (fun lv iv w' => ∃ j : Nat, j ≤ ord.length ∧ iv = .int .i64 (j : Nat) ∧ Hid (CsAt W w' lv (jmpL own (ord.take j)) ∧ OwAt W w' (.slice a5 own.length cp5) own)) (fun _ iv _ => ord.length - (intOf iv).toNat)
        case atStart => exact ⟨0, Nat.zero_le _, rfl, HS⟩
        case round =>
          obtain ⟨j, hj, rfl, HI⟩ := hrel
          by_cases hlj : j < ord.length
          · have j1 : (j : Int) < (ord.length : Int) := by omega
            have j2 : (0 : Int) ≤ (j : Int) := by omega
            have htk := jmp_take own ord j hlj
            have hgd : ord.getD j 0 = ord[j]'hlj := by rw [List.getD_eq_getElem?_getD, List.getElem?_eq_getElem hlj]; rfl
            rw [hgd] at htk
            obtain ⟨g, o, rfl, hc⟩ := HR1.out j _ (List.getElem?_eq_getElem hlj)
            generalize (ord[j]'hlj) = x at *
            have hcx := keep_cell HI.out.1.below hc
            have HTK := hideT htk
            obtain ⟨q, hq⟩ : ∃ q : Nat, q = x.toNat % own.length := ⟨_, rfl⟩
            have hqlt : q < own.length := by rw [hq]; exact Nat.mod_lt _ hp
            have r1 : ((x.toNat : Int) % (own.length : Int)) = (q : Int) := by rw [hq]; omega
            have r1t : (x.toNat : Int).tmod (own.length : Int) = (q : Int) := by rw [hq]; simp [Int.tmod]
            have xb := x.toNat_lt
            have xw : IntKind.i64.wrap (x.toNat : Int) = (x.toNat : Int) := by rw [IntKind.wrap_i64]; omega
            have r2 : (0 : Int) ≤ (q : Int) := by omega
            have r3 : (q : Int) < (own.length : Int) := by omega
            have r4 : IntKind.i64.wrap (q : Int) = (q : Int) := by rw [IntKind.wrap_i64]; omega
            obtain ⟨a6, cp6, hv6, hsh⟩ := HI.out.2.shape
            obtain ⟨g5, hg5, hc5⟩ := hsh q _ (List.getElem?_eq_getElem hqlt)
            obtain rfl : a5 = some ⟨g5, 0, none⟩ := by injection hv6 with e _ _; rw [e, hg5]
            have hlb : own.getD (x.toNat % own.length) [] = own[q]'hqlt := by rw [← hq, List.getD_eq_getElem?_getD, List.getElem?_eq_getElem hqlt]; rfl
            generalize (own[q]'hqlt) = lb at *
            have HLB := hideT hlb
            have HLD := hideT (show ∀ V : World, (∀ k, k < wr.heap.size → some k ≠ u11.ownBlock → V.heap[k]? = wr.heap[k]?) → V.cell? ⟨g5, q, none⟩ = some (.string ⟨lb.toArray⟩) from fun V hV => (World.cell?_of_block (hV g5 (World.block_lt_of_cell? wr _ hc5) (fun e => own_apart HI.out.1 HI.out.2 g5 rfl e.symm))).trans hc5)
            have s0 : ∀ k, k < wr.heap.size → some k ≠ u11.ownBlock → wr.drew.heap[k]? = wr.heap[k]? := fun _ _ _ => rfl
            clear htk hgd hc hq hqlt hsh hv6 hg5 hc5 hlb HS
            rcases Nat.mod_two_eq_zero_or_one x.toNat with hx2 | hx2
            · have p1 : ((x.toNat : Int) % 2) = 0 := by omega
              have p1t : (x.toNat : Int).tmod 2 = 0 := by rw [show (x.toNat : Int).tmod 2 = ((x.toNat % 2 : Nat) : Int) by simp [Int.tmod], hx2]; rfl
              have HJC := hideT (show (cmX (zr [jmpC own j x])).toArray = #[.int .i64 (j : Int), .int .i64 0, .int .i64 0, .string ⟨#[]⟩, .int .i64 0, .int .i64 0, .string ⟨#[]⟩, .bool false, .int .u8 98, .string ⟨lb.toArray⟩, .string ⟨#[]⟩, .string ⟨#[]⟩, .string ⟨#[]⟩, .slice none 0 0, .int .i64 0, .bool false, .bool false, .string ⟨#[]⟩, .string ⟨#[]⟩] by simp only [zr, List.map_cons, List.map_nil, cmX, cmV, jmpC, rst0, HLB.out, hx2, if_true, List.append_nil]; rfl)
              clear hx2
              go_wp2_with fail
              refine wp_region_held (S := fun V => ∀ k, k < wr.heap.size → some k ≠ u11.ownBlock → V.heap[k]? = wr.heap[k]?) (by kernel_rfl) ?_
              refine' take_d 0 (some 67) rfl rfl (by kernel_rfl) (by kernel_rfl) (by kernel_rfl) (fun _ _ _ h => h) (wanted_none rfl _) s0 ?tk1 ?rs1
              case tk1 => intro V hV; go_simp; (try with_reducible rfl)
              refine' take_d 1 (some 68) rfl rfl (by kernel_rfl) (by kernel_rfl) (by kernel_rfl) (fun _ _ _ h => h) (wanted_none rfl _) s0 ?tk2 ?rs2
              case tk2 => intro V hV; go_simp; (try with_reducible rfl)
              refine' take_d 2 (some 69) rfl rfl (by kernel_rfl) (by kernel_rfl) (by kernel_rfl) (fun _ _ _ h => h) (wanted_none rfl _) s0 ?tk3 ?rs3
              case tk3 => intro V hV; go_simp; (try with_reducible rfl)
              refine' take_d 3 (some 70) rfl rfl (by kernel_rfl) (by kernel_rfl) (by kernel_rfl) (fun _ _ _ h => h) (wanted_none rfl _) s0 ?tk4 ?rs4
              case tk4 => intro V hV; go_simp; (try with_reducible rfl)
              refine' take_d 4 (some 71) rfl rfl (by kernel_rfl) (by kernel_rfl) (by kernel_rfl) (fun _ _ _ h => h) (wanted_none rfl _) s0 ?tk5 ?rs5
              case tk5 => intro V hV; go_simp; (try with_reducible rfl)
              refine' take_d 5 (some 72) rfl rfl (by kernel_rfl) (by kernel_rfl) (by kernel_rfl) (fun _ _ _ h => h) (wanted_none rfl _) s0 ?tk6 ?rs6
              case tk6 => intro V hV; go_simp; (try with_reducible rfl)
              refine' take_d 6 (some 73) rfl rfl (by kernel_rfl) (by kernel_rfl) (by kernel_rfl) (fun _ _ _ h => h) (wanted_none rfl _) s0 ?tk7 ?rs7
              case tk7 => intro V hV; go_simp; (try with_reducible rfl)
              refine' take_d 7 (some 74) rfl rfl (by kernel_rfl) (by kernel_rfl) (by kernel_rfl) (fun _ _ _ h => h) (wanted_none rfl _) s0 ?tk8 ?rs8
              case tk8 => intro V hV; go_simp; (try with_reducible rfl)
              refine' take_d 8 (some 75) rfl rfl (by kernel_rfl) (by kernel_rfl) (by kernel_rfl) (fun _ _ _ h => h) (wanted_none rfl _) s0 ?tk9 ?rs9
              case tk9 => intro V hV; go_simp; (try with_reducible rfl)
              refine' take_d 9 (some 76) rfl rfl (by kernel_rfl) (by kernel_rfl) (by kernel_rfl) (fun _ _ _ h => h) (wanted_none rfl _) s0 ?tk10 ?rs10
              case tk10 => intro V hV; go_simp; (try with_reducible rfl)
              refine' take_d 10 (some 77) rfl rfl (by kernel_rfl) (by kernel_rfl) (by kernel_rfl) (fun _ _ _ h => h) (wanted_none rfl _) s0 ?tk11 ?rs11
              case tk11 => intro V hV; go_simp; (try with_reducible rfl)
              refine' take_d 11 (some 78) rfl rfl (by kernel_rfl) (by kernel_rfl) (by kernel_rfl) (fun _ _ _ h => h) (wanted_none rfl _) s0 ?tk12 ?rs12
              case tk12 => intro V hV; have hcl := HLD.out V hV; go_simp; (try with_reducible rfl)
              refine' take_d 12 (some 79) rfl rfl (by kernel_rfl) (by kernel_rfl) (by kernel_rfl) (fun _ _ _ h => h) (wanted_none rfl _) s0 ?tk13 ?rs13
              case tk13 => intro V hV; go_simp; (try with_reducible rfl)
              refine' take_d 13 (some 80) rfl rfl (by kernel_rfl) (by kernel_rfl) (by kernel_rfl) (fun _ _ _ h => h) (wanted_none rfl _) s0 ?tk14 ?rs14
              case tk14 => intro V hV; go_simp; (try with_reducible rfl)
              simp only [Act.put, List.setIfInBounds_toArray, List.set_cons_zero, List.set_cons_succ]
              refine wpAnyH_all (rs := [14]) (by kernel_rfl) (by simp) (fun i hi => ?_)
              obtain rfl : i = 14 := List.mem_singleton.1 hi
              have s1 : ∀ k, k < wr.heap.size → some k ≠ u11.ownBlock → (wr.drew.alloc (.cells (cmX (zr [jmpC own j x])).toArray 27)).heap[k]? = wr.heap[k]? := fun k hk _ => Below.heap_alloc wr.drew _ k hk
              refine op_value (some 81) (v := .slice (some ⟨wr.heap.size, 0, none⟩) 1 1) (w' := wr.drew.alloc (.cells (cmX (zr [jmpC own j x])).toArray 27)) rfl rfl (wanted_none rfl _) (by go_simp; rw [HJC.out]; (try rfl)) ?_
              refine And.intro s1 ?_
              simp only [Act.put, List.setIfInBounds_toArray, List.set_cons_zero, List.set_cons_succ]
              refine wpAnyH_all (rs := [15]) (by kernel_rfl) (by simp) (fun i hi => ?_)
              obtain rfl : i = 15 := List.mem_singleton.1 hi
              refine op_append (W := W) (V := wr.drew) (some 82) rfl rfl rfl _ _ rfl u11 (jmpL own (ord.take j)) [jmpC own j x] (cmX (zr [jmpC own j x])).toArray rfl (by simp) rfl (HI.out.1.step ((Below.refl _ wr).drew)) 1 rfl (by simp) (by rw [jmp_len, List.length_take]; simp; omega) (fun c hc => by rw [List.mem_singleton.1 hc]; have := (HOK.out.ne _ (jmp_isJ HOK.out hp j x).2).2; omega) ?_
              intro g2 cap w2 hA2 hgr2
              have s2 : ∀ k, k < wr.heap.size → some k ≠ u11.ownBlock → w2.heap[k]? = wr.heap[k]? := fun k hk hne => hgr2.block k hk hne
              refine And.intro s2 ?_
              refine' take_d 16 (some 11) rfl rfl (by kernel_rfl) (by kernel_rfl) (by kernel_rfl) (fun _ _ _ h => h) (wanted_none rfl _) s2 ?tk15 ?rs15
              case tk15 => intro V hV; go_simp; (try with_reducible rfl)
              refine wpAnyH_done (by kernel_rfl) ?_ _
              simp only [Act.put, List.setIfInBounds_toArray, List.set_cons_zero, List.set_cons_succ]
              have HN := hideT (show CsAt W w2 (.slice (some ⟨g2, 0, none⟩) ((jmpL own (ord.take j)).length + 1) cap) (jmpL own (ord.take (j + 1))) ∧ OwAt W w2 (.slice (some ⟨g5, 0, none⟩) own.length cp5) own from ⟨by rw [HTK.out]; exact hA2, (HI.out.2.step ((Below.refl _ wr).drew)).beside hgr2 (fun g e => (HI.out.1.own.lt g e).1) (fun g hg => own_apart HI.out.1 HI.out.2 g hg)⟩)
              clear hA2 hgr2 s0 s1 s2
              go_wp2
              exact ⟨⟨j + 1, by omega, by go_num, HN⟩, by simp [intOf]; omega⟩
            · have p1 : ((x.toNat : Int) % 2) = 1 := by omega
              have p1t : (x.toNat : Int).tmod 2 = 1 := by rw [show (x.toNat : Int).tmod 2 = ((x.toNat % 2 : Nat) : Int) by simp [Int.tmod], hx2]; rfl
              have HJC := hideT (show (cmX (zr [jmpC own j x])).toArray = #[.int .i64 (j : Int), .int .i64 0, .int .i64 0, .string ⟨#[]⟩, .int .i64 0, .int .i64 0, .string ⟨#[]⟩, .bool false, .int .u8 116, .string ⟨lb.toArray⟩, .string ⟨#[]⟩, .string ⟨#[]⟩, .string ⟨#[]⟩, .slice none 0 0, .int .i64 0, .bool false, .bool false, .string ⟨#[]⟩, .string ⟨#[]⟩] by simp only [zr, List.map_cons, List.map_nil, cmX, cmV, jmpC, rst0, HLB.out, hx2, List.append_nil]; rfl)
              clear hx2
              go_wp2_with fail
              refine wp_region_held (S := fun V => ∀ k, k < wr.heap.size → some k ≠ u11.ownBlock → V.heap[k]? = wr.heap[k]?) (by kernel_rfl) ?_
              refine' take_d 0 (some 67) rfl rfl (by kernel_rfl) (by kernel_rfl) (by kernel_rfl) (fun _ _ _ h => h) (wanted_none rfl _) s0 ?tk16 ?rs16
              case tk16 => intro V hV; go_simp; (try with_reducible rfl)
              refine' take_d 1 (some 68) rfl rfl (by kernel_rfl) (by kernel_rfl) (by kernel_rfl) (fun _ _ _ h => h) (wanted_none rfl _) s0 ?tk17 ?rs17
              case tk17 => intro V hV; go_simp; (try with_reducible rfl)
              refine' take_d 2 (some 69) rfl rfl (by kernel_rfl) (by kernel_rfl) (by kernel_rfl) (fun _ _ _ h => h) (wanted_none rfl _) s0 ?tk18 ?rs18
              case tk18 => intro V hV; go_simp; (try with_reducible rfl)
              refine' take_d 3 (some 70) rfl rfl (by kernel_rfl) (by kernel_rfl) (by kernel_rfl) (fun _ _ _ h => h) (wanted_none rfl _) s0 ?tk19 ?rs19
              case tk19 => intro V hV; go_simp; (try with_reducible rfl)
              refine' take_d 4 (some 71) rfl rfl (by kernel_rfl) (by kernel_rfl) (by kernel_rfl) (fun _ _ _ h => h) (wanted_none rfl _) s0 ?tk20 ?rs20
              case tk20 => intro V hV; go_simp; (try with_reducible rfl)
              refine' take_d 5 (some 72) rfl rfl (by kernel_rfl) (by kernel_rfl) (by kernel_rfl) (fun _ _ _ h => h) (wanted_none rfl _) s0 ?tk21 ?rs21
              case tk21 => intro V hV; go_simp; (try with_reducible rfl)
              refine' take_d 6 (some 73) rfl rfl (by kernel_rfl) (by kernel_rfl) (by kernel_rfl) (fun _ _ _ h => h) (wanted_none rfl _) s0 ?tk22 ?rs22
              case tk22 => intro V hV; go_simp; (try with_reducible rfl)
              refine' take_d 7 (some 74) rfl rfl (by kernel_rfl) (by kernel_rfl) (by kernel_rfl) (fun _ _ _ h => h) (wanted_none rfl _) s0 ?tk23 ?rs23
              case tk23 => intro V hV; go_simp; (try with_reducible rfl)
              refine' take_d 8 (some 75) rfl rfl (by kernel_rfl) (by kernel_rfl) (by kernel_rfl) (fun _ _ _ h => h) (wanted_none rfl _) s0 ?tk24 ?rs24
              case tk24 => intro V hV; go_simp; (try with_reducible rfl)
              refine' take_d 9 (some 76) rfl rfl (by kernel_rfl) (by kernel_rfl) (by kernel_rfl) (fun _ _ _ h => h) (wanted_none rfl _) s0 ?tk25 ?rs25
              case tk25 => intro V hV; go_simp; (try with_reducible rfl)
              refine' take_d 10 (some 77) rfl rfl (by kernel_rfl) (by kernel_rfl) (by kernel_rfl) (fun _ _ _ h => h) (wanted_none rfl _) s0 ?tk26 ?rs26
              case tk26 => intro V hV; go_simp; (try with_reducible rfl)
              refine' take_d 11 (some 78) rfl rfl (by kernel_rfl) (by kernel_rfl) (by kernel_rfl) (fun _ _ _ h => h) (wanted_none rfl _) s0 ?tk27 ?rs27
              case tk27 => intro V hV; have hcl := HLD.out V hV; go_simp; (try with_reducible rfl)
              refine' take_d 12 (some 79) rfl rfl (by kernel_rfl) (by kernel_rfl) (by kernel_rfl) (fun _ _ _ h => h) (wanted_none rfl _) s0 ?tk28 ?rs28
              case tk28 => intro V hV; go_simp; (try with_reducible rfl)
              refine' take_d 13 (some 80) rfl rfl (by kernel_rfl) (by kernel_rfl) (by kernel_rfl) (fun _ _ _ h => h) (wanted_none rfl _) s0 ?tk29 ?rs29
              case tk29 => intro V hV; go_simp; (try with_reducible rfl)
              simp only [Act.put, List.setIfInBounds_toArray, List.set_cons_zero, List.set_cons_succ]
              refine wpAnyH_all (rs := [14]) (by kernel_rfl) (by simp) (fun i hi => ?_)
              obtain rfl : i = 14 := List.mem_singleton.1 hi
              have s1 : ∀ k, k < wr.heap.size → some k ≠ u11.ownBlock → (wr.drew.alloc (.cells (cmX (zr [jmpC own j x])).toArray 27)).heap[k]? = wr.heap[k]? := fun k hk _ => Below.heap_alloc wr.drew _ k hk
              refine op_value (some 81) (v := .slice (some ⟨wr.heap.size, 0, none⟩) 1 1) (w' := wr.drew.alloc (.cells (cmX (zr [jmpC own j x])).toArray 27)) rfl rfl (wanted_none rfl _) (by go_simp; rw [HJC.out]; (try rfl)) ?_
              refine And.intro s1 ?_
              simp only [Act.put, List.setIfInBounds_toArray, List.set_cons_zero, List.set_cons_succ]
              refine wpAnyH_all (rs := [15]) (by kernel_rfl) (by simp) (fun i hi => ?_)
              obtain rfl : i = 15 := List.mem_singleton.1 hi
              refine op_append (W := W) (V := wr.drew) (some 82) rfl rfl rfl _ _ rfl u11 (jmpL own (ord.take j)) [jmpC own j x] (cmX (zr [jmpC own j x])).toArray rfl (by simp) rfl (HI.out.1.step ((Below.refl _ wr).drew)) 1 rfl (by simp) (by rw [jmp_len, List.length_take]; simp; omega) (fun c hc => by rw [List.mem_singleton.1 hc]; have := (HOK.out.ne _ (jmp_isJ HOK.out hp j x).2).2; omega) ?_
              intro g2 cap w2 hA2 hgr2
              have s2 : ∀ k, k < wr.heap.size → some k ≠ u11.ownBlock → w2.heap[k]? = wr.heap[k]? := fun k hk hne => hgr2.block k hk hne
              refine And.intro s2 ?_
              refine' take_d 16 (some 11) rfl rfl (by kernel_rfl) (by kernel_rfl) (by kernel_rfl) (fun _ _ _ h => h) (wanted_none rfl _) s2 ?tk30 ?rs30
              case tk30 => intro V hV; go_simp; (try with_reducible rfl)
              refine wpAnyH_done (by kernel_rfl) ?_ _
              simp only [Act.put, List.setIfInBounds_toArray, List.set_cons_zero, List.set_cons_succ]
              have HN := hideT (show CsAt W w2 (.slice (some ⟨g2, 0, none⟩) ((jmpL own (ord.take j)).length + 1) cap) (jmpL own (ord.take (j + 1))) ∧ OwAt W w2 (.slice (some ⟨g5, 0, none⟩) own.length cp5) own from ⟨by rw [HTK.out]; exact hA2, (HI.out.2.step ((Below.refl _ wr).drew)).beside hgr2 (fun g e => (HI.out.1.own.lt g e).1) (fun g hg => own_apart HI.out.1 HI.out.2 g hg)⟩)
              clear hA2 hgr2 s0 s1 s2
              go_wp2
              exact ⟨⟨j + 1, by omega, by go_num, HN⟩, by simp [intOf]; omega⟩
          · obtain rfl : j = ord.length := by omega
            have j1 : ((ord.length : Int) < (ord.length : Int)) = False := by rw [eq_iff_iff, iff_false]; omega
            rw [List.take_length] at HI
            have HCA := hideT (chk_alone HOK.out hp ord)
            have HCB := hideT (chk_both HOK.out hp ord)
            have HCT := hideT (chk_twice HOK.out hp ord)
            obtain ⟨L, hL⟩ : ∃ L, L = jmpL own ord := ⟨_, rfl⟩
            have HLN := hideT (show L.length ≤ 1048576 ∧ L.length = ord.length by rw [hL, jmp_len]; exact ⟨ho, rfl⟩)
            rw [← hL] at HI HCA HCB HCT
            clear hL HS hlj hj
            obtain ⟨b, hb⟩ : ∃ b, b = decide (0 < L.length) := ⟨_, rfl⟩
            obtain ⟨e1, he1⟩ : ∃ e1 : Nat, e1 = if b then 22 else 0 := ⟨_, rfl⟩
            have HC := hideT (check_made HI.out.1 (by have := HLN.out.1; omega) (e := e1) (p := 0) (by rw [HCA.out, he1, hb, ← HLN.out.2]; by_cases h0 : 0 < L.length <;> simp [h0]))
            have hq1 : ∀ w, (Op.equalIn 10000 30 (.agg #[.int .i64 (e1 : Nat), .int .i64 0]) (.agg #[.int .i64 22, .int .i64 0])).run Try.prog w = .ok b w := fun w => by rw [run_equal_fault, he1]; cases b <;> rfl
            have hb2 : ((0 : Int) < (L.length : Int)) = (b = true) := by rw [hb, decide_eq_true_eq, eq_iff_iff]; omega
            have hb3 : (0 < L.length) = (b = true) := by rw [hb, decide_eq_true_eq]
            obtain ⟨a7, c7, rfl⟩ : ∃ a7 c7, u11 = .slice a7 L.length c7 := by
              rcases HI.out.1.shape with ⟨h1, h2⟩ | ⟨g, c, h1, _⟩
              · exact ⟨none, 0, by rw [h1, h2]; rfl⟩
              · exact ⟨_, _, h1⟩
            clear hb he1
            go_wp2_with fail
            refine HC.out.mono ?_
            rintro e w1 ⟨rfl, hb1⟩
            have HJ := hideT (show CsAt W w1 (.slice a7 L.length c7) (L ++ labL own 0) ∧ OwAt W w1 (.slice a5 own.length cp5) own from ⟨by simp only [labL, List.range_zero, List.map_nil, List.append_nil]; exact HI.out.1.step hb1, HI.out.2.step hb1⟩)
            clear hb1 HC HI
            go_wp2_with fail
            go_loopw [11, 94] (fun lv iv w' => ∃ j : Nat, j ≤ own.length ∧ iv = .int .i64 (j : Nat) ∧ Hid (CsAt W w' lv (L ++ labL own j) ∧ OwAt W w' (.slice a5 own.length cp5) own)) (fun _ iv _ => own.length - (intOf iv).toNat)
            case atStart => exact ⟨0, Nat.zero_le _, rfl, HJ⟩
            case round =>
              obtain ⟨j, hj, rfl, HI⟩ := hrel
              by_cases hlj : j < own.length
              · have k1 : (j : Int) < (own.length : Int) := by omega
                have k2 : (0 : Int) ≤ (j : Int) := by omega
                have k3 : IntKind.i64.wrap (1000 + (j : Int)) = 1000 + (j : Int) := by rw [IntKind.wrap_i64]; omega
                obtain ⟨a6, cp6, hv6, hsh⟩ := HI.out.2.shape
                obtain ⟨g5, hg5, hc5⟩ := hsh j _ (List.getElem?_eq_getElem hlj)
                obtain rfl : a5 = some ⟨g5, 0, none⟩ := by injection hv6 with e _ _; rw [e, hg5]
                have hlb : own.getD j [] = own[j]'hlj := by rw [List.getD_eq_getElem?_getD, List.getElem?_eq_getElem hlj]; rfl
                generalize (own[j]'hlj) = lb at *
                have HIL := hideT (lab_isL HOK.out hlj).2.2.2.2.2
                obtain ⟨M, hM⟩ : ∃ M, M = L ++ labL own j := ⟨_, rfl⟩
                have HML := hideT (show M.length ≤ 1048596 by rw [hM, List.length_append, lab_len]; have := HLN.out.1; omega)
                have HMM := hideT hM
                rw [← hM] at HI
                have hlc : labC own j = ⟨1000 + (j : Int), 0, 0, false, 58, lb⟩ := by unfold labC; rw [hlb]
                have HLC := hideT hlc
                clear hM hsh hv6 hg5 hlb hlc HJ
                go_wp2_with (at_builtin; refine append_lit (W := W) (by rfl) _ _ (by rfl) u11 M [⟨1000 + (j : Int), 0, 0, false, 58, lb⟩] _ rfl (by rfl) (by rfl) HI.out.1 1 (by rfl) (by simp) (by have := HML.out; simp; omega) (fun c hc => by rw [List.mem_singleton.1 hc]; have := HIL.out; rw [HLC.out] at this; show lb.length ≤ _; have h2 : lb.length ≤ 32 := this; omega) ?_)
                intro g2 cap w2 hA2 hgr2
                have HN := hideT (show CsAt W w2 (.slice (some ⟨g2, 0, none⟩) (M.length + 1) cap) (L ++ labL own (j + 1)) ∧ OwAt W w2 (.slice (some ⟨g5, 0, none⟩) own.length cp5) own from ⟨by rw [lab_succ, ← List.append_assoc, ← HMM.out, HLC.out]; exact hA2, HI.out.2.beside hgr2 (fun g e => (HI.out.1.own.lt g e).1) (fun g hg => own_apart HI.out.1 HI.out.2 g hg)⟩)
                clear hA2 hgr2
                go_wp2
                exact ⟨⟨j + 1, by omega, by go_num, HN⟩, by simp [intOf]; omega⟩
              · obtain rfl : j = own.length := by omega
                have k1 : ((own.length : Int) < (own.length : Int)) = False := by rw [eq_iff_iff, iff_false]; omega
                obtain ⟨a6, cp6, hv6, hsh⟩ := HI.out.2.shape
                obtain ⟨g5, hg5, hc5⟩ := hsh 0 _ (List.getElem?_eq_getElem hp)
                obtain rfl : a5 = some ⟨g5, 0, none⟩ := by injection hv6 with e _ _; rw [e, hg5]
                have hlb : own.getD 0 [] = own[0]'hp := by rw [List.getD_eq_getElem?_getD, List.getElem?_eq_getElem hp]; rfl
                have HIL := hideT (HOK.out.ne _ (getD_mem hp)).2
                rw [hlb] at HCT HIL
                generalize (own[0]'hp) = lb at *
                obtain ⟨M, hM⟩ : ∃ M, M = L ++ labL own own.length := ⟨_, rfl⟩
                have HML := hideT (show M.length ≤ 1048596 by rw [hM, List.length_append, lab_len]; have := HLN.out.1; omega)
                rw [← hM] at HI HCB HCT
                have hp0 : (0 : Int) < (own.length : Int) := by omega
                clear hM hsh hv6 hg5 hlb HJ hlj hj hb2 hb3 hq1
                go_wp2_with (at_builtin; refine append_copy (W := W) (by rfl) _ _ (by rfl) u11 M (by rfl) HI.out.1 (by rfl) (by have := HML.out; omega) ?_)
                intro v2 w2 hA2 hnew2 hb2
                have HL2 := hideT (HI.out.1.step hb2)
                have HA2 := hideT hA2
                have HNE := hideT (show ∀ g, u11.ownBlock = some g → v2.ownBlock ≠ some g from fun g hg e => by have := hnew2 g e; have := (HI.out.1.own.lt g hg).2; omega)
                have hc6 := keep_cell hb2 hc5
                clear hA2 hnew2 hb2 HI hc5
                go_wp2_with (at_builtin; refine append_lit (W := W) (by rfl) _ _ (by rfl) v2 M [⟨5, 0, 0, false, 58, lb⟩] _ rfl (by rfl) (by rfl) HA2.out 1 (by rfl) (by simp) (by have := HML.out; simp; omega) (fun c hc => by rw [List.mem_singleton.1 hc]; show lb.length ≤ _; have := HIL.out; omega) ?_)
                intro g3 c3 w3 hA3 hgr3
                have HL3 := hideT (HL2.out.beside hgr3 (fun g e => (HA2.out.own.lt g e).1) (fun g hg e => HNE.out g hg e))
                have HA3 := hideT hA3
                clear hA3 hgr3 HA2 HL2 HNE hc6
                have HC5 := hideT (check_made HL3.out (by have := HML.out; omega) HCB.out)
                have hq2 := fun w => run_equal_fault 0 0 0 0 w
                have hq3 := fun w => run_equal_fault 22 5 22 5 w
                go_wp2_with fail
                refine HC5.out.mono ?_
                rintro e w6 ⟨rfl, hb6⟩
                have HA6 := hideT (HA3.out.step hb6)
                clear hb6 HC5 HL3 HA3
                have HC6 := hideT (check_made HA6.out (by have := HML.out; simp; omega) HCT.out)
                go_wp2_with fail
                refine HC6.out.mono ?_
                rintro e w7 ⟨rfl, hb7⟩
                have HF := hideT (HA6.out.step hb7).below
                clear hb7 HC6 HA6
                go_wp2
                go_ret
                exact ⟨rfl, HF.out⟩
      · obtain rfl : own = [] := List.eq_nil_of_length_eq_zero (by omega)
        have HF := hideT HIW.out.below
        simp only [List.length_nil]
        go_wp2
        go_ret
        exact ⟨rfl, HF.out⟩
end Go.Proofs.Ytdlceppiblodmaa
