/- append of a string onto a row of bytes of one's own. -/
import Derived.Test.YtemgfbidfdhanaaDoorKShelf
import Derived.Test.YtemgfbidfdhanaaDoorKTk
import Derived.Test.YtemgfbidfdhanaaDoorKCt
import Derived.Test.YtemgfbidfdhanaaDoorKPa
import Derived.Laws.AppendOwn
import Derived.Deep.AppendLies
import Derived.Deep.RegionHeld3
namespace Go.Proofs.YtemgfbidfdhanaaDoor

/-- The cells of a string. -/
def strVals (l : List UInt8) : List Value := l.map fun b => Value.int .u8 (b.toNat : Nat)

theorem strVals_len (l : List UInt8) : (strVals l).length = l.length := by simp [strVals]

theorem run_append_own_string {P : Program} (w : World) (base : Nat) (t u ty e : TypeId) (i : TypeInfo) (z : Value) (ht : P.underlying t = some (.slice e)) (hu : P.underlying u = some .string) (hi : P.info? e = some i) (hz : i.zero = some z)
    (hsize : i.size = 1) (hby : i.bytes = 1) (hzs : z.cells.size = 1) (v : Value) (n : Nat) (xs : List Value) (hown : w.ownsRow base e 1 v n xs) (s : ByteArray) (h63 : n + s.size ≤ 140737488355328) (hbase : base ≤ w.heap.size) :
    ∃ v' w', (Builtin.append_ #[t, u] ty #[v, .string s]).run P w = .ok v' w' ∧ w'.ownsRow base e 1 v' (n + s.size) (xs ++ strVals s.data.toList) ∧ w.grownBy w' v.ownBlock ∧ (v'.ownBlock = v.ownBlock ∨ v'.ownBlock = some w.heap.size) := by
  have hx : (s.extract 0 s.size).data.map (fun b : UInt8 => Value.int .u8 (b.toNat : Int)) = (strVals s.data.toList).toArray := by
    have : s.extract 0 s.size = s := by simp
    rw [this]
    apply Array.ext'
    simp [strVals]
  have hnl : (strVals s.data.toList).length = s.size := by rw [strVals_len]; rfl
  have h1 : ∀ u ∈ strVals s.data.toList, u.oneCell' = true := by
    intro u hu
    simp only [strVals, List.mem_map] at hu
    obtain ⟨b, _, rfl⟩ := hu
    rfl
  generalize strVals s.data.toList = news at hx hnl h1 ⊢
  have hxe : news.toArray.extract 0 s.size = news.toArray := by
    rw [← hnl, ← List.size_toArray, Array.extract_size]
  have hxt : news.take s.size = news := List.take_of_length_le (by omega)
  have hmax : n + s.size ≤ maxLen := by simp only [maxLen]; omega
  have hlen : (xs ++ news).length = (n + s.size) * 1 := by rw [List.length_append, hown.1, hnl]; omega
  have grown : ∀ (old : Nat), old < n + s.size → ∀ (row : Option Nat),
      (w.drew.alloc (.cells (xs.toArray ++ news.toArray ++ Builtin.zeroCells z.cells (grownCap w (n + s.size) old e - (n + s.size))) e)).ownsRow base e 1
        (.slice (some ⟨w.heap.size, 0, none⟩) (n + s.size) (grownCap w (n + s.size) old e)) (n + s.size) (xs ++ news) ∧
      w.grownBy (w.drew.alloc (.cells (xs.toArray ++ news.toArray ++ Builtin.zeroCells z.cells (grownCap w (n + s.size) old e - (n + s.size))) e)) row := by
    intro old ho row
    have hge := grownCap_ge w (n + s.size) old e
    have hcm : grownCap w (n + s.size) old e ≤ maxLen := grownCap_le_maxLen w (n + s.size) old e hmax
    refine ⟨⟨hlen, .inr ⟨w.heap.size, _, _, rfl, hbase, heap_alloc_new w.drew _, hge, hcm, ?_, ?_⟩⟩, ⟨rfl, rfl, rfl, by simp, fun k hk _ => (by first | exact heap_alloc_old w.drew _ k hk | exact heap_alloc_old w.drew _ hk)⟩⟩
    · simp only [Array.size_append, List.size_toArray, size_zeroCells, hzs, hown.1, hnl]
      omega
    · simp only [Array.toList_append, List.append_assoc]
      rw [← List.append_assoc, ← hlen]
      exact List.take_left
  rcases hown.2 with ⟨rfl, rfl⟩ | ⟨g, cap, cur, rfl, hbg, hg, hnc, hcm, hcs, htake⟩
  · have hx0 : xs = [] := List.eq_nil_of_length_eq_zero (by simpa using hown.1)
    subst hx0
    by_cases hm : s.size = 0
    · have hn : news = [] := List.eq_nil_of_length_eq_zero (by rw [hnl, hm])
      subst hn
      refine ⟨.slice none 0 0, w, ?_, ?_, ⟨rfl, rfl, rfl, Nat.le_refl _, fun _ _ _ => rfl⟩, .inl rfl⟩
      · simp [Builtin.append_, run_underlying ht, run_underlying hu, sizeOf, typeInfo, hi, Builtin.lenOf, Builtin.firstCells, hm]
      · rw [hm]
        exact World.ownsRow_nil w base e 1
    · have hgr := grown 0 (by omega) (Value.ownBlock (.slice none 0 0))
      simp only [Nat.zero_add, List.nil_append] at hgr ⊢
      refine ⟨_, _, ?_, hgr.1, hgr.2, .inr rfl⟩
      have h63' : ¬ (9223372036854775807 < (s.size : Int)) := by omega
      have h48' : ¬ (281474976710656 < Builtin.nextslicecap s.size 0) := by rw [nextslicecap_zero (by omega)]; omega
      simp [Builtin.append_, run_underlying ht, run_underlying hu, sizeOf, typeInfo, zeroValue, hi, hz, hby, Builtin.lenOf, Builtin.firstCells, hm, h63', h48', Question.forced, newRow, grownCap]
      have hx' := hx
      simp at hx'
      rw [hx', hxe]
  · by_cases hroom : n + s.size ≤ cap
    · have hfit : n * 1 + news.length ≤ cur.size := by rw [hnl, hcs]; omega
      have hst := run_storeCells_at P g (n * 1) e news 0 cur w hg (by simpa using hfit) h1
      simp only [Nat.add_zero] at hst
      refine ⟨.slice (some ⟨g, 0, none⟩) (n + s.size) cap, w.setRow g (cur.toList.take (n * 1) ++ news ++ cur.toList.drop (n * 1 + news.length)).toArray, ?_, ⟨hlen, .inr ⟨g, cap, _, rfl, hbg, setRow_heap w g cur _ e _ hg, hroom, hcm, ?_, ?_⟩⟩, ⟨rfl, rfl, rfl, by simp, fun k _ hk => setRow_other w g k _ (fun e => hk (by simp [Value.ownBlock, e]))⟩, .inl rfl⟩
      · have hx' := hx
        simp at hx' hst
        simp [Builtin.append_, run_underlying ht, run_underlying hu, sizeOf, typeInfo, hi, hsize, Builtin.lenOf, Builtin.firstCells, hroom, hx', hxt, Addr.add_lit, hst]
      · simp only [List.size_toArray, List.length_append, List.length_take, List.length_drop, Array.length_toList]
        omega
      · rw [htake, ← hlen]
        exact List.take_left
    · have holds : ∀ j u, xs[j]? = some u → w.cell? ((⟨g, 0, none⟩ : Addr).add j) = some u := hown.cells (g := g) rfl
      have hgr := grown cap (by omega) (Value.ownBlock (.slice (some ⟨g, 0, none⟩) n cap))
      refine ⟨_, _, ?_, hgr.1, hgr.2, .inr rfl⟩
      have hn : ¬ (n + s.size ≤ cap) := hroom
      have h63' : ¬ (9223372036854775807 < ((n : Int) + (s.size : Int))) := by omega
      have h48' : ¬ (281474976710656 < Builtin.nextslicecap (n + s.size) cap) := by
        have := growslice_fits (bytes := 1) (need := n + s.size) (old := cap) (by omega) (by omega)
        omega
      have hfo := run_firstCells_some (P := P) w.drew 1 n ⟨g, 0, none⟩ n cap xs hown.1 (by simpa using holds)
      have hx' := hx
      simp at hx' hfo
      simp [Builtin.append_, run_underlying ht, run_underlying hu, sizeOf, typeInfo, zeroValue, hi, hz, hsize, hby, Builtin.lenOf, hn, h63', h48', Question.forced, hfo, newRow, grownCap]
      simp [Builtin.firstCells, hx']
      congr 2
      apply Array.ext'
      simp [List.append_assoc]

theorem wp_append_own_string {P : Program} {w : World} {o : Oper} {a : Act} {K : Act → World → Prop} {Q : Exit → Act → World → Prop} (s x : Operand) (t u : TypeId)
    (ho : o.op = .call { callee := .builtin .append, args := #[s, x], argTypes := #[t, u] }) (base : Nat) (e : TypeId) (i : TypeInfo) (z : Value) (ht : P.underlying t = some (.slice e)) (hu : P.underlying u = some .string) (hi : P.info? e = some i) (hz : i.zero = some z)
    (hsize : i.size = 1) (hby : i.bytes = 1) (hzs : z.cells.size = 1) (v : Value) (n : Nat) (xs : List Value) (hs : a.eval s = v) (hown : w.ownsRow base e 1 v n xs) (b : ByteArray) (hx : a.eval x = .string b) (h63 : n + b.size ≤ 140737488355328) (hbase : base ≤ w.heap.size)
    (h : ∀ v' w', w'.ownsRow base e 1 v' (n + b.size) (xs ++ strVals b.data.toList) → w.grownBy w' v.ownBlock → (v'.ownBlock = v.ownBlock ∨ v'.ownBlock = some w.heap.size) → K (a.put o.dst v') w') : o.wp P a w K Q := by
  obtain ⟨v', w', hr, h2, h3, h4⟩ := run_append_own_string (P := P) w base t u o.type e i z ht hu hi hz hsize hby hzs v n xs hown b h63 hbase
  unfold Oper.wp execOp
  simp only [ho, resolve, invoke, builtin, Sem.run_bind, Sem.run_pure, Result.andThen_ok, List.map_toArray, List.map_cons, List.map_nil, hs, hx, hr]
  exact h v' w' h2 h3 h4

theorem wpList_append_own_string {P : Program} {w : World} {ops : Array Oper} {rest : List Oper} {o : Oper} {a : Act} {Q : Exit → Act → World → Prop} (hgd : o.guard = none) (s x : Operand) (t u : TypeId)
    (ho : o.op = .call { callee := .builtin .append, args := #[s, x], argTypes := #[t, u] }) (base : Nat) (e : TypeId) (i : TypeInfo) (z : Value) (ht : P.underlying t = some (.slice e)) (hu : P.underlying u = some .string) (hi : P.info? e = some i) (hz : i.zero = some z)
    (hsize : i.size = 1) (hby : i.bytes = 1) (hzs : z.cells.size = 1) (v : Value) (n : Nat) (xs : List Value) (hs : a.eval s = v) (hown : w.ownsRow base e 1 v n xs) (b : ByteArray) (hx : a.eval x = .string b) (h63 : n + b.size ≤ 140737488355328) (hbase : base ≤ w.heap.size)
    (h : ∀ v' w', w'.ownsRow base e 1 v' (n + b.size) (xs ++ strVals b.data.toList) → w.grownBy w' v.ownBlock → (v'.ownBlock = v.ownBlock ∨ v'.ownBlock = some w.heap.size) → wpList P ops Q rest (a.put o.dst v') w') : wpList P ops Q (o :: rest) a w :=
  wpList_plain hgd fun _ hK => wp_append_own_string s x t u ho base e i z ht hu hi hz hsize hby hzs v n xs hs hown b hx h63 hbase fun v' w' h2 h3 h4 => hK _ _ (h v' w' h2 h3 h4)

theorem step_append_own_string {P : Program} {w : World} {ops : Array Oper} {o : Oper} {a : Act} {K : Act → World → Prop} {Q : Exit → Act → World → Prop} {E : Prop} (hgd : o.guard = none) (s x : Operand) (t u : TypeId)
    (ho : o.op = .call { callee := .builtin .append, args := #[s, x], argTypes := #[t, u] }) (base : Nat) (e : TypeId) (i : TypeInfo) (z : Value) (ht : P.underlying t = some (.slice e)) (hu : P.underlying u = some .string) (hi : P.info? e = some i) (hz : i.zero = some z)
    (hsize : i.size = 1) (hby : i.bytes = 1) (hzs : z.cells.size = 1) (v : Value) (n : Nat) (xs : List Value) (hs : a.eval s = v) (hown : w.ownsRow base e 1 v n xs) (b : ByteArray) (hx : a.eval x = .string b) (h63 : n + b.size ≤ 140737488355328) (hbase : base ≤ w.heap.size)
    (h : ∀ v' w', w'.ownsRow base e 1 v' (n + b.size) (xs ++ strVals b.data.toList) → w.grownBy w' v.ownBlock → (v'.ownBlock = v.ownBlock ∨ v'.ownBlock = some w.heap.size) → K (a.put o.dst v') w') :
    if Region.wanted o (yielded ops a.tmps) = true then Oper.wp P o a w K Q else E := by
  have hw : Region.wanted o (yielded ops a.tmps) = true := by simp [Region.wanted, hgd]
  rw [if_pos hw]
  exact wp_append_own_string s x t u ho base e i z ht hu hi hz hsize hby hzs v n xs hs hown b hx h63 hbase h
end Go.Proofs.YtemgfbidfdhanaaDoor

/- canon: repeatText. -/
namespace Go.Proofs.YtemgfbidfdhanaaDoor
open Go.RowKit Go.Sort

theorem below_growN (w : World) (k : Nat) (os : Array Obj) : Below w.heap.size w (grow (w.drewN k) os) :=
  ⟨rfl, rfl, rfl, by show w.heap.size ≤ (w.heap ++ os).size; rw [Array.size_append]; omega, fun j hj => by show (w.heap ++ os)[j]? = w.heap[j]?; exact Array.getElem?_append_left hj⟩

/-- A number up to 255 in decimal digits (Wb has the same as digL). -/
def digX (n : Nat) : List UInt8 := if n < 10 then [UInt8.ofNat (48 + n)] else if n < 100 then [UInt8.ofNat (48 + n / 10), UInt8.ofNat (48 + n % 10)] else [UInt8.ofNat (48 + n / 100), UInt8.ofNat (48 + n / 10 % 10), UInt8.ofNat (48 + n % 10)]

theorem dec_dig (n : Nat) (h : n ≤ 255) : Lib.decDigits n = digX n := by
  unfold digX
  by_cases c1 : n < 10
  · rw [Lib.decDigits, dif_pos c1, if_pos c1]
  · rw [if_neg c1, Lib.decDigits, dif_neg c1]
    by_cases c2 : n < 100
    · rw [if_pos c2, Lib.decDigits, dif_pos (by omega)]
      rfl
    · rw [if_neg c2, Lib.decDigits, dif_neg (by omega), Lib.decDigits, dif_pos (by omega), Nat.div_div_eq_div_mul]
      rfl

/-- The table that Itoa reads is as the program lays it. -/
def Tab (w : World) : Prop := Lib.TabIs Tryd.prog w "internal/strconv.uint64pow10" .u64 Lib.pow10Tab

theorem Tab.below {w w' : World} (h : Tab w) {B : Nat} (hb : Below B w w') (hB : w.heap.size ≤ B) : Tab w' := by
  unfold Tab Lib.TabIs World.var? at *
  cases hg : Tryd.prog.globalNamed "internal/strconv.uint64pow10" with
  | none => simp [hg] at h
  | some g =>
    simp only [hg, Option.bind_some] at h ⊢
    have hlt : g < w.heap.size := by
      rcases Nat.lt_or_ge g w.heap.size with h' | h'
      · exact h'
      · rw [Array.getElem?_eq_none h'] at h; simp at h
    rw [hb.block g (by omega)]
    exact h

theorem itoa_any (n : Nat) (hn : n ≤ 255) (w : World) (ht : Tab w) : Calls Tryd.prog 22 #[.int .i64 (n : Int)] w fun e w' => e = .returned (.string ⟨(digX n).toArray⟩) ∧ Below w.heap.size w w' := by
  refine (Tryd.strconv_Itoa (n : Int) (by omega) (by omega) w ht).mono ?_
  rintro e w' ⟨rfl, k, os, rfl⟩
  refine ⟨?_, below_growN w k os⟩
  rw [Lib.itoa_nonneg, dec_dig n hn]

/-- What stands behind a part that is repeated (Wb has the same as repX). -/
def repS (lo hi : Int) : List UInt8 :=
  if lo = 0 ∧ hi < 0 then [42] else if hi < 0 then 92 :: 123 :: (digX lo.toNat ++ [44] ++ [92, 125]) else if hi = lo then 92 :: 123 :: (digX lo.toNat ++ [92, 125]) else 92 :: 123 :: (digX lo.toNat ++ 44 :: digX hi.toNat ++ [92, 125])

theorem app_str (a b : List UInt8) : (⟨a.toArray⟩ : ByteArray) ++ ⟨b.toArray⟩ = ⟨(a ++ b).toArray⟩ := by
  apply ByteArray.ext
  rw [ByteArray.data_append]
  simp

theorem digX_len (n : Nat) : (digX n).length ≤ 3 := by
  unfold digX
  split
  · simp
  split
  · simp
  · simp

theorem size_str (l : List UInt8) : (⟨l.toArray⟩ : ByteArray).size = l.length := by
  show l.toArray.size = _
  simp

set_option maxRecDepth 100000 in
set_option maxHeartbeats 1000000 in
theorem repeatText_any (lo hi : Int) (h0 : 0 ≤ lo) (h1 : lo ≤ 255) (h2 : hi = -1 ∨ lo ≤ hi ∧ hi ≤ 255) (w : World) (ht : Tab w) : Calls Tryd.prog 24 #[.int .i64 lo, .int .i64 hi] w fun e w' => e = .returned (.string ⟨(repS lo hi).toArray⟩) ∧ Below w.heap.size w w' := by
  obtain ⟨l, rfl⟩ : ∃ l : Nat, lo = l := ⟨lo.toNat, by omega⟩
  have HL := hideT (itoa_any l (by omega) w ht)
  have HT := hideT ht
  clear ht
  generalize hd : digX l = d at HL
  have hdl : (⟨d.toArray⟩ : ByteArray).size ≤ 3 := by rw [size_str, ← hd]; exact digX_len l
  rcases h2 with rfl | h2
  · by_cases c : l = 0
    · subst c
      have er : repS ((0 : Nat) : Int) (-1) = [42] := rfl
      rw [er]
      go_enter Tryd.func24, Tryd.ntmps24
      go_wp2_with fail
      refine HL.out.mono ?_
      rintro e w1 ⟨rfl, hb⟩
      go_wp2
      go_ret
      exact ⟨rfl, hb⟩
    · have k0 : ((l : Int) == 0) = false := by rw [beq_eq_false_iff_ne]; omega
      have er : repS (l : Int) (-1) = [92, 123] ++ d ++ [44, 92, 125] := by
        unfold repS
        rw [if_neg (by omega), if_pos (by omega), Int.toNat_natCast, hd]
        simp
      rw [er, ← app_str, ← app_str]
      generalize (⟨d.toArray⟩ : ByteArray) = D at HL hdl ⊢
      have s1 : ¬ 9223372036854775807 < 2 + D.size := by omega
      have s2 : ¬ 9223372036854775807 < 2 + D.size + 3 := by omega
      clear hdl
      go_enter Tryd.func24, Tryd.ntmps24
      go_wp2_with fail
      refine HL.out.mono ?_
      rintro e w1 ⟨rfl, hb⟩
      go_wp2
      go_ret
      exact ⟨rfl, hb⟩
  · obtain ⟨m, rfl⟩ : ∃ m : Nat, hi = m := ⟨hi.toNat, by omega⟩
    have n1 : ((m : Int) < 0) = False := by rw [eq_iff_iff, iff_false]; omega
    by_cases c : m = l
    · subst c
      have er : repS (m : Int) (m : Int) = [92, 123] ++ d ++ [92, 125] := by
        unfold repS
        rw [if_neg (by omega), if_neg (by omega), if_pos rfl, Int.toNat_natCast, hd]
        simp
      rw [er, ← app_str, ← app_str]
      generalize (⟨d.toArray⟩ : ByteArray) = D at HL hdl ⊢
      have s1 : ¬ 9223372036854775807 < 2 + D.size := by omega
      have s2 : ¬ 9223372036854775807 < 2 + D.size + 2 := by omega
      clear hdl
      go_enter Tryd.func24, Tryd.ntmps24
      go_wp2_with fail
      refine HL.out.mono ?_
      rintro e w1 ⟨rfl, hb⟩
      go_wp2
      all_goals
        go_ret
        exact ⟨rfl, hb⟩
    · have k1 : ((m : Int) == (l : Int)) = false := by rw [beq_eq_false_iff_ne]; omega
      have er : repS (l : Int) (m : Int) = [92, 123] ++ d ++ [44] ++ digX m ++ [92, 125] := by
        unfold repS
        rw [if_neg (by omega), if_neg (by omega), if_neg (by omega), Int.toNat_natCast, Int.toNat_natCast, hd]
        simp
      have HM := hideT (fun w1 (hb : Below w.heap.size w w1) => itoa_any m (by omega) w1 (HT.out.below hb (Nat.le_refl _)))
      have hel : (⟨(digX m).toArray⟩ : ByteArray).size ≤ 3 := by rw [size_str]; exact digX_len m
      rw [er, ← app_str, ← app_str, ← app_str, ← app_str]
      generalize (⟨d.toArray⟩ : ByteArray) = D at HL hdl ⊢
      generalize (⟨(digX m).toArray⟩ : ByteArray) = E at HM hel ⊢
      have s1 : ¬ 9223372036854775807 < 2 + D.size := by omega
      have s2 : ¬ 9223372036854775807 < 2 + D.size + 1 := by omega
      have s3 : ¬ 9223372036854775807 < 2 + D.size + 1 + E.size := by omega
      have s4 : ¬ 9223372036854775807 < 2 + D.size + 1 + E.size + 2 := by omega
      clear hdl hel
      have l0 : (l : Int) = 0 ∨ ((l : Int) == 0) = false := by rw [beq_eq_false_iff_ne]; omega
      rcases l0 with l0 | l0
      · obtain rfl : l = 0 := by omega
        clear l0
        go_enter Tryd.func24, Tryd.ntmps24
        go_wp2_with fail
        refine HL.out.mono ?_
        rintro e w1 ⟨rfl, hb⟩
        go_wp2_with fail
        refine (HM.out w1 hb).mono ?_
        rintro e w2 ⟨rfl, hb2⟩
        go_wp2
        go_ret
        exact ⟨rfl, hb.trans (hb2.mono hb.size)⟩
      · go_enter Tryd.func24, Tryd.ntmps24
        go_wp2_with fail
        refine HL.out.mono ?_
        rintro e w1 ⟨rfl, hb⟩
        go_wp2_with fail
        refine (HM.out w1 hb).mono ?_
        rintro e w2 ⟨rfl, hb2⟩
        go_wp2
        go_ret
        exact ⟨rfl, hb.trans (hb2.mono hb.size)⟩
end Go.Proofs.YtemgfbidfdhanaaDoor

/- canon: write, of what has no kids. -/
namespace Go.Proofs.YtemgfbidfdhanaaDoor
open Go.RowKit Go.Shelf

/-- What write answers: a row of one's own that holds these bytes. -/
def WP (base : Nat) (W : World) (v : Value) (l : List UInt8) : Ending → World → Prop := fun e W' => ∃ v', e = .returned v' ∧ W'.ownsRow base 5 1 v' l.length (strVals l) ∧ W.grownBy W' v.ownBlock ∧ (v'.ownBlock = v.ownBlock ∨ ∀ k, v'.ownBlock = some k → W.heap.size ≤ k)

theorem grown_of {W w1 : World} {row : Option Nat} (h : Below W.heap.size W w1) : W.grownBy w1 row := ⟨h.os, h.tape, h.output, h.size, fun k hk _ => h.block k hk⟩

/-- What was said of an earlier world holds from there. -/
theorem WP.from {base : Nat} {W w1 : World} {v : Value} {l : List UInt8} {e : Ending} {w2 : World} (hg : W.grownBy w1 v.ownBlock) (h : WP base w1 v l e w2) : WP base W v l e w2 := by
  obtain ⟨v', h1, h2, h3, h4⟩ := h
  refine ⟨v', h1, h2, hg.trans h3, ?_⟩
  rcases h4 with h4 | h4
  · exact .inl h4
  · exact .inr fun k hk => Nat.le_trans hg.size (h4 k hk)

/-- One writing behind another. -/
theorem WP.next {base : Nat} {W w1 : World} {v v1 : Value} {l : List UInt8} {e : Ending} {w2 : World} (hg : W.grownBy w1 v.ownBlock) (hm : v1.ownBlock = v.ownBlock ∨ ∀ k, v1.ownBlock = some k → W.heap.size ≤ k) (h : WP base w1 v1 l e w2) : WP base W v l e w2 := by
  obtain ⟨v', h1, h2, h3, h4⟩ := h
  refine ⟨v', h1, h2, ⟨h3.os.trans hg.os, h3.tape.trans hg.tape, h3.output.trans hg.output, Nat.le_trans hg.size h3.size, fun k hk hne => ?_⟩, ?_⟩
  · rw [h3.block k (Nat.lt_of_lt_of_le hk hg.size) ?_, hg.block k hk hne]
    rcases hm with hm | hm
    · rw [hm]; exact hne
    · intro e
      have := hm k e.symm
      omega
  · rcases h4 with h4 | h4
    · rw [h4]; exact hm
    · exact .inr fun k hk => Nat.le_trans hg.size (h4 k hk)

theorem WP.done {base : Nat} {w1 w2 : World} {v v2 : Value} {l : List UInt8} (hr : w2.ownsRow base 5 1 v2 l.length (strVals l)) (hg : w1.grownBy w2 v.ownBlock) (hat : v2.ownBlock = v.ownBlock ∨ v2.ownBlock = some w1.heap.size) : WP base w1 v l (.returned v2) w2 :=
  ⟨v2, rfl, hr, hg, hat.imp id fun h k hk => by rw [h] at hk; cases hk; exact Nat.le_refl _⟩

theorem strVals_app (a b : List UInt8) : strVals (a ++ b) = strVals a ++ strVals b := by simp [strVals]

theorem below_row {base : Nat} {w1 w2 : World} {v : Value} {l : List UInt8} (hown : w1.ownsRow base 5 1 v l.length (strVals l)) (hg : w1.grownBy w2 v.ownBlock) (hb : base ≤ w1.heap.size) : Below base w1 w2 :=
  (Below.refl base w1).grown hg hb (fun k e => (hown.lt k e).1)

theorem row_str {base : Nat} {w2 : World} {v' : Value} {l s : List UInt8} (hr : w2.ownsRow base 5 1 v' (l.length + (⟨s.toArray⟩ : ByteArray).size) (strVals l ++ strVals (⟨s.toArray⟩ : ByteArray).data.toList)) : w2.ownsRow base 5 1 v' (l ++ s).length (strVals (l ++ s)) := by
  rw [strVals_app, List.length_append]
  rw [size_str] at hr
  simpa using hr

theorem row_one {base : Nat} {w2 : World} {v' : Value} {l : List UInt8} {b : UInt8} {n : Int} (hn : (b.toNat : Int) = n) (hr : w2.ownsRow base 5 1 v' (l.length + 1) (strVals l ++ [.int .u8 n])) : w2.ownsRow base 5 1 v' (l ++ [b]).length (strVals (l ++ [b])) := by
  rw [strVals_app, List.length_append, List.length_singleton]
  subst hn
  exact hr

set_option maxRecDepth 100000 in
set_option maxHeartbeats 1000000 in
theorem write_set (q : Nat → Bool) (lo hi : Int) (gp : Nat) (kv : Value) (base : Nat) (W : World) (v : Value) (l : List UInt8) (hb : base ≤ W.heap.size) (hown : W.ownsRow base 5 1 v l.length (strVals l)) (hlen : l.length + (stS q).length ≤ 1000000) :
    Calls Tryd.prog 12 #[v, .agg #[.int .i64 1, .int .u64 (wd q 0 : Nat), .int .u64 (wd q 1 : Nat), .int .u64 (wd q 2 : Nat), .int .u64 (wd q 3 : Nat), .int .i64 lo, .int .i64 hi, .int .i64 (gp : Nat), kv]] W (WP base W v (l ++ stS q)) := by
  obtain ⟨i0, hi0, hz0, hz1, hz2⟩ := info_parts info5
  have HS := hideT (setText_any q)
  have HO := hideT (And.intro hb (And.intro hown hlen))
  clear hb hown hlen
  generalize stS q = s at *
  go_enter Tryd.func12, Tryd.ntmps12
  go_wp2_with fail
  refine (HS.out _).mono ?_
  rintro e w1 ⟨rfl, hb1⟩
  have HR := hideT (owns_below (HO.out.2.1.alloc (.cells #[.int .i64 1, .int .u64 (wd q 0 : Nat), .int .u64 (wd q 1 : Nat), .int .u64 (wd q 2 : Nat), .int .u64 (wd q 3 : Nat), .int .i64 lo, .int .i64 hi, .int .i64 (gp : Nat), kv] 27)) hb1)
  have HB := hideT (((Below.refl W.heap.size W).alloc (Nat.le_refl _) (.cells #[.int .i64 1, .int .u64 (wd q 0 : Nat), .int .u64 (wd q 1 : Nat), .int .u64 (wd q 2 : Nat), .int .u64 (wd q 3 : Nat), .int .i64 lo, .int .i64 hi, .int .i64 (gp : Nat), kv] 27)).trans (hb1.mono (by rw [World.size_alloc]; omega)))
  have HQ := hideT (Nat.le_trans HO.out.1 HB.out.size)
  clear hb1
  go_wp2_with (first | (at_builtin; refine wpList_append_own_string rfl _ _ 57 9 rfl base 5 i0 (.int .u8 0) Tryd.underlying57 Tryd.underlying9 hi0 hz0 hz1 hz2 rfl _ _ _ rfl HR.out ⟨s.toArray⟩ rfl ?c1 HQ.out ?_))
  case c1 =>
    rw [size_str]
    have := HO.out.2.2
    omega
  intro v2 w2 hr hg hat
  have HF := hideT (WP.from (grown_of HB.out) (WP.done (row_str hr) hg hat))
  clear hr hg hat
  go_wp2
  go_ret
  exact HF.out

set_option maxRecDepth 100000 in
set_option maxHeartbeats 1000000 in
theorem write_bol (q : Nat → Bool) (lo hi : Int) (gp : Nat) (kv : Value) (base : Nat) (W : World) (v : Value) (l : List UInt8) (hb : base ≤ W.heap.size) (hown : W.ownsRow base 5 1 v l.length (strVals l)) (hlen : l.length ≤ 1000000) :
    Calls Tryd.prog 12 #[v, .agg #[.int .i64 2, .int .u64 (wd q 0 : Nat), .int .u64 (wd q 1 : Nat), .int .u64 (wd q 2 : Nat), .int .u64 (wd q 3 : Nat), .int .i64 lo, .int .i64 hi, .int .i64 (gp : Nat), kv]] W (WP base W v (l ++ [94])) := by
  obtain ⟨i0, hi0, hz0, hz1, hz2⟩ := info_parts info5
  have HO := hideT (And.intro hb (And.intro hown hlen))
  have HR := hideT ((HO.out.2.1.alloc (.cells #[.int .i64 2, .int .u64 (wd q 0 : Nat), .int .u64 (wd q 1 : Nat), .int .u64 (wd q 2 : Nat), .int .u64 (wd q 3 : Nat), .int .i64 lo, .int .i64 hi, .int .i64 (gp : Nat), kv] 27)).alloc (.cells #[.int .u8 94] 5))
  have HB := hideT (((Below.refl W.heap.size W).alloc (Nat.le_refl _) (.cells #[.int .i64 2, .int .u64 (wd q 0 : Nat), .int .u64 (wd q 1 : Nat), .int .u64 (wd q 2 : Nat), .int .u64 (wd q 3 : Nat), .int .i64 lo, .int .i64 hi, .int .i64 (gp : Nat), kv] 27)).alloc (by rw [World.size_alloc]; omega) (.cells #[.int .u8 94] 5))
  have HQ := hideT (Nat.le_trans HO.out.1 HB.out.size)
  clear hb hown hlen
  go_enter Tryd.func12, Tryd.ntmps12
  go_wp2_with (first | (at_builtin; refine wpList_append_own_at _ rfl _ _ 57 rfl base 5 i0 (.int .u8 0) 1 1 Tryd.underlying57 hi0 hz0 hz1 hz2 rfl (by decide) _ _ _ rfl HR.out ⟨W.heap.size + 1, 0, none⟩ 1 1 [.int .u8 94] rfl rfl ?c1 ?c2 ?c3 ?c4 HQ.out ?_))
  case c1 =>
    have h := cell_one_new (W.alloc (.cells #[.int .i64 2, .int .u64 (wd q 0 : Nat), .int .u64 (wd q 1 : Nat), .int .u64 (wd q 2 : Nat), .int .u64 (wd q 3 : Nat), .int .i64 lo, .int .i64 hi, .int .i64 (gp : Nat), kv] 27)) (.int .u8 94) 5
    rw [World.size_alloc] at h
    exact h
  case c2 => simp [Value.oneCell']
  case c3 =>
    have := HO.out.2.2
    unfold maxLen
    omega
  case c4 =>
    have := HO.out.2.2
    omega
  intro v2 w2 hr hg hn hat
  have HF := hideT (WP.from (grown_of HB.out) (WP.done (row_one (b := 94) rfl hr) hg (by simpa using hat)))
  clear hr hg hat hn
  go_wp2
  go_ret
  exact HF.out

set_option maxRecDepth 100000 in
set_option maxHeartbeats 1000000 in
theorem write_eol (q : Nat → Bool) (lo hi : Int) (gp : Nat) (kv : Value) (base : Nat) (W : World) (v : Value) (l : List UInt8) (hb : base ≤ W.heap.size) (hown : W.ownsRow base 5 1 v l.length (strVals l)) (hlen : l.length ≤ 1000000) :
    Calls Tryd.prog 12 #[v, .agg #[.int .i64 3, .int .u64 (wd q 0 : Nat), .int .u64 (wd q 1 : Nat), .int .u64 (wd q 2 : Nat), .int .u64 (wd q 3 : Nat), .int .i64 lo, .int .i64 hi, .int .i64 (gp : Nat), kv]] W (WP base W v (l ++ [36])) := by
  obtain ⟨i0, hi0, hz0, hz1, hz2⟩ := info_parts info5
  have HO := hideT (And.intro hb (And.intro hown hlen))
  have HR := hideT ((HO.out.2.1.alloc (.cells #[.int .i64 3, .int .u64 (wd q 0 : Nat), .int .u64 (wd q 1 : Nat), .int .u64 (wd q 2 : Nat), .int .u64 (wd q 3 : Nat), .int .i64 lo, .int .i64 hi, .int .i64 (gp : Nat), kv] 27)).alloc (.cells #[.int .u8 36] 5))
  have HB := hideT (((Below.refl W.heap.size W).alloc (Nat.le_refl _) (.cells #[.int .i64 3, .int .u64 (wd q 0 : Nat), .int .u64 (wd q 1 : Nat), .int .u64 (wd q 2 : Nat), .int .u64 (wd q 3 : Nat), .int .i64 lo, .int .i64 hi, .int .i64 (gp : Nat), kv] 27)).alloc (by rw [World.size_alloc]; omega) (.cells #[.int .u8 36] 5))
  have HQ := hideT (Nat.le_trans HO.out.1 HB.out.size)
  clear hb hown hlen
  go_enter Tryd.func12, Tryd.ntmps12
  go_wp2_with (first | (at_builtin; refine wpList_append_own_at _ rfl _ _ 57 rfl base 5 i0 (.int .u8 0) 1 1 Tryd.underlying57 hi0 hz0 hz1 hz2 rfl (by decide) _ _ _ rfl HR.out ⟨W.heap.size + 1, 0, none⟩ 1 1 [.int .u8 36] rfl rfl ?c1 ?c2 ?c3 ?c4 HQ.out ?_))
  case c1 =>
    have h := cell_one_new (W.alloc (.cells #[.int .i64 3, .int .u64 (wd q 0 : Nat), .int .u64 (wd q 1 : Nat), .int .u64 (wd q 2 : Nat), .int .u64 (wd q 3 : Nat), .int .i64 lo, .int .i64 hi, .int .i64 (gp : Nat), kv] 27)) (.int .u8 36) 5
    rw [World.size_alloc] at h
    exact h
  case c2 => simp [Value.oneCell']
  case c3 =>
    have := HO.out.2.2
    unfold maxLen
    omega
  case c4 =>
    have := HO.out.2.2
    omega
  intro v2 w2 hr hg hn hat
  have HF := hideT (WP.from (grown_of HB.out) (WP.done (row_one (b := 36) rfl hr) hg (by simpa using hat)))
  clear hr hg hat hn
  go_wp2
  go_ret
  exact HF.out

set_option maxRecDepth 100000 in
set_option maxHeartbeats 1000000 in
theorem write_back (q : Nat → Bool) (lo hi : Int) (gp : Nat) (hgp : gp ≤ 9) (kv : Value) (base : Nat) (W : World) (v : Value) (l : List UInt8) (hb : base ≤ W.heap.size) (hown : W.ownsRow base 5 1 v l.length (strVals l)) (hlen : l.length ≤ 1000000) (ht : Tab W) :
    Calls Tryd.prog 12 #[v, .agg #[.int .i64 6, .int .u64 (wd q 0 : Nat), .int .u64 (wd q 1 : Nat), .int .u64 (wd q 2 : Nat), .int .u64 (wd q 3 : Nat), .int .i64 lo, .int .i64 hi, .int .i64 (gp : Nat), kv]] W (WP base W v (l ++ [92, UInt8.ofNat (48 + gp)])) := by
  obtain ⟨i0, hi0, hz0, hz1, hz2⟩ := info_parts info5
  have HS := hideT (fun w (h : Tab w) => itoa_any gp (by omega) w h)
  have HO := hideT (And.intro hb (And.intro hown (And.intro hlen (ht.below ((Below.refl _ W).alloc (Nat.le_refl _) (.cells #[.int .i64 6, .int .u64 (wd q 0 : Nat), .int .u64 (wd q 1 : Nat), .int .u64 (wd q 2 : Nat), .int .u64 (wd q 3 : Nat), .int .i64 lo, .int .i64 hi, .int .i64 (gp : Nat), kv] 27)) (Nat.le_refl _)))))
  have hd : digX gp = [UInt8.ofNat (48 + gp)] := by unfold digX; rw [if_pos (by omega)]
  have he : [92, UInt8.ofNat (48 + gp)] = [92] ++ digX gp := by rw [hd]; rfl
  have hl3 : (⟨(digX gp).toArray⟩ : ByteArray).size ≤ 3 := by rw [size_str]; exact digX_len gp
  rw [he]
  clear hb hown hlen ht hd he
  generalize digX gp = d at *
  have s1 : ¬ 9223372036854775807 < 1 + (⟨d.toArray⟩ : ByteArray).size := by omega
  have HL := hideT hl3
  clear hl3
  go_enter Tryd.func12, Tryd.ntmps12
  go_wp2_with fail
  refine (HS.out _ HO.out.2.2.2).mono ?_
  rintro e w1 ⟨rfl, hb1⟩
  have HR := hideT (owns_below (HO.out.2.1.alloc (.cells #[.int .i64 6, .int .u64 (wd q 0 : Nat), .int .u64 (wd q 1 : Nat), .int .u64 (wd q 2 : Nat), .int .u64 (wd q 3 : Nat), .int .i64 lo, .int .i64 hi, .int .i64 (gp : Nat), kv] 27)) hb1)
  have HB := hideT (((Below.refl W.heap.size W).alloc (Nat.le_refl _) (.cells #[.int .i64 6, .int .u64 (wd q 0 : Nat), .int .u64 (wd q 1 : Nat), .int .u64 (wd q 2 : Nat), .int .u64 (wd q 3 : Nat), .int .i64 lo, .int .i64 hi, .int .i64 (gp : Nat), kv] 27)).trans (hb1.mono (by rw [World.size_alloc]; omega)))
  have HQ := hideT (Nat.le_trans HO.out.1 HB.out.size)
  have hst : (⟨#[92]⟩ : ByteArray) ++ ⟨d.toArray⟩ = ⟨([92] ++ d).toArray⟩ := app_str [92] d
  clear hb1
  go_wp2_with (first | (at_builtin; refine wpList_append_own_string rfl _ _ 57 9 rfl base 5 i0 (.int .u8 0) Tryd.underlying57 Tryd.underlying9 hi0 hz0 hz1 hz2 rfl _ _ _ rfl HR.out ⟨([92] ++ d).toArray⟩ ?c0 ?c1 HQ.out ?_))
  case c0 => rfl
  case c1 =>
    have h1 := HO.out.2.2.1
    have h2 := HL.out
    rw [size_str] at h2 ⊢
    simp only [List.length_append, List.length_singleton]
    omega
  intro v2 w2 hr hg hat
  have HF := hideT (WP.from (grown_of HB.out) (WP.done (row_str hr) hg hat))
  clear hr hg hat
  go_wp2
  go_ret
  exact HF.out
end Go.Proofs.YtemgfbidfdhanaaDoor

/- canon: write, of what has kids. -/
namespace Go.Proofs.YtemgfbidfdhanaaDoor
open Go.RowKit Go.Shelf

set_option maxRecDepth 100000 in
set_option maxHeartbeats 1000000 in
theorem write_cat (q : Nat → Bool) (lo hi : Int) (gp : Nat) (kv : Value) (base : Nat) (W : World) (v : Value) (l S : List UInt8) (hb : base ≤ W.heap.size) (hown : W.ownsRow base 5 1 v l.length (strVals l)) (hlen : l.length + S.length ≤ 1000000) (HK : ∀ (W' : World) (v : Value) (l : List UInt8), Below base W W' → base ≤ W'.heap.size → W'.ownsRow base 5 1 v l.length (strVals l) → l.length + S.length ≤ 1000000 → Calls Tryd.prog 23 #[v, kv] W' (WP base W' v (l ++ S))) :
    Calls Tryd.prog 12 #[v, .agg #[.int .i64 0, .int .u64 (wd q 0 : Nat), .int .u64 (wd q 1 : Nat), .int .u64 (wd q 2 : Nat), .int .u64 (wd q 3 : Nat), .int .i64 lo, .int .i64 hi, .int .i64 (gp : Nat), kv]] W (WP base W v (l ++ S)) := by
  have HB := hideT ((Below.refl W.heap.size W).alloc (Nat.le_refl _) (.cells #[.int .i64 0, .int .u64 (wd q 0 : Nat), .int .u64 (wd q 1 : Nat), .int .u64 (wd q 2 : Nat), .int .u64 (wd q 3 : Nat), .int .i64 lo, .int .i64 hi, .int .i64 (gp : Nat), kv] 27))
  have HH := hideT (HK _ v l (HB.out.mono hb) (Nat.le_trans hb HB.out.size) (hown.alloc _) hlen)
  clear HK hown hlen hb
  go_enter Tryd.func12, Tryd.ntmps12
  go_wp2_with fail
  refine HH.out.mono ?_
  intro e w1 hw
  have HF := hideT (WP.from (grown_of HB.out) hw)
  obtain ⟨v2, rfl, -, -⟩ := hw
  go_wp2
  go_ret
  exact HF.out

/-- What is known behind the kids of a repeat. -/
def RepR (base : Nat) (W : World) (v : Value) (l S : List UInt8) (w1 : World) (v1 : Value) : Prop :=
  w1.ownsRow base 5 1 v1 (l ++ S).length (strVals (l ++ S)) ∧ W.grownBy w1 v.ownBlock ∧ (v1.ownBlock = v.ownBlock ∨ ∀ k, v1.ownBlock = some k → W.heap.size ≤ k) ∧ v1.ownBlock ≠ some W.heap.size ∧ base ≤ w1.heap.size

theorem rep_cells {W w2 w3 : World} {lo hi : Int} {kv v1 : Value} (hs : (w2.cell? ⟨W.heap.size, 5, none⟩ = some (.int .i64 lo) ∧ w2.cell? ⟨W.heap.size, 6, none⟩ = some (.int .i64 hi) ∧ w2.cell? ⟨W.heap.size, 8, none⟩ = some kv)) (hv : v1.ownBlock ≠ some W.heap.size) (hg : w2.grownBy w3 v1.ownBlock) : (w3.cell? ⟨W.heap.size, 5, none⟩ = some (.int .i64 lo) ∧ w3.cell? ⟨W.heap.size, 6, none⟩ = some (.int .i64 hi) ∧ w3.cell? ⟨W.heap.size, 8, none⟩ = some kv) := by
  have hl : W.heap.size < w2.heap.size := World.block_lt_of_cell? w2 _ hs.1
  have hb : w3.heap[W.heap.size]? = w2.heap[W.heap.size]? := hg.block _ hl (fun e => hv e.symm)
  have hc : ∀ k, w3.cell? ⟨W.heap.size, k, none⟩ = w2.cell? ⟨W.heap.size, k, none⟩ := fun k => World.cell?_of_block (a := ⟨W.heap.size, k, none⟩) hb
  exact ⟨(hc 5).trans hs.1, (hc 6).trans hs.2.1, (hc 8).trans hs.2.2⟩

set_option maxRecDepth 100000 in
set_option maxHeartbeats 2000000 in
theorem write_rep (q : Nat → Bool) (lo hi : Int) (h0 : 0 ≤ lo) (h1 : lo ≤ 255) (h2 : hi = -1 ∨ lo ≤ hi ∧ hi ≤ 255) (gp : Nat) (kv : Value) (base : Nat) (W : World) (v : Value) (l S : List UInt8) (hb : base ≤ W.heap.size) (hown : W.ownsRow base 5 1 v l.length (strVals l)) (hlen : l.length + S.length + (repS lo hi).length ≤ 1000000) (ht : ∀ W', Below base W W' → Tab W') (HK : ∀ (W' : World) (v : Value) (l : List UInt8), Below base W W' → base ≤ W'.heap.size → W'.ownsRow base 5 1 v l.length (strVals l) → l.length + S.length ≤ 1000000 → Calls Tryd.prog 23 #[v, kv] W' (WP base W' v (l ++ S))) :
    Calls Tryd.prog 12 #[v, .agg #[.int .i64 5, .int .u64 (wd q 0 : Nat), .int .u64 (wd q 1 : Nat), .int .u64 (wd q 2 : Nat), .int .u64 (wd q 3 : Nat), .int .i64 lo, .int .i64 hi, .int .i64 (gp : Nat), kv]] W (WP base W v (l ++ S ++ repS lo hi)) := by
  obtain ⟨i0, hi0, hz0, hz1, hz2⟩ := info_parts info5
  have HB := hideT ((Below.refl W.heap.size W).alloc (Nat.le_refl _) (.cells #[.int .i64 5, .int .u64 (wd q 0 : Nat), .int .u64 (wd q 1 : Nat), .int .u64 (wd q 2 : Nat), .int .u64 (wd q 3 : Nat), .int .i64 lo, .int .i64 hi, .int .i64 (gp : Nat), kv] 27))
  have hs1 : (W.alloc (.cells #[.int .i64 5, .int .u64 (wd q 0 : Nat), .int .u64 (wd q 1 : Nat), .int .u64 (wd q 2 : Nat), .int .u64 (wd q 3 : Nat), .int .i64 lo, .int .i64 hi, .int .i64 (gp : Nat), kv] 27)).drew.heap.size = W.heap.size + 1 := World.size_alloc W _
  have HH : Hid (Calls Tryd.prog 23 #[v, kv] (W.alloc (.cells #[.int .i64 5, .int .u64 (wd q 0 : Nat), .int .u64 (wd q 1 : Nat), .int .u64 (wd q 2 : Nat), .int .u64 (wd q 3 : Nat), .int .i64 lo, .int .i64 hi, .int .i64 (gp : Nat), kv] 27)).drew (fun e w1 => ∃ v1, e = .returned v1 ∧ (w1.cell? ⟨W.heap.size, 5, none⟩ = some (.int .i64 lo) ∧ w1.cell? ⟨W.heap.size, 6, none⟩ = some (.int .i64 hi) ∧ w1.cell? ⟨W.heap.size, 8, none⟩ = some kv) ∧ Hid (RepR base W v l S w1 v1))) := hideT ((HK (W.alloc (.cells #[.int .i64 5, .int .u64 (wd q 0 : Nat), .int .u64 (wd q 1 : Nat), .int .u64 (wd q 2 : Nat), .int .u64 (wd q 3 : Nat), .int .i64 lo, .int .i64 hi, .int .i64 (gp : Nat), kv] 27)).drew v l (HB.out.drew.mono hb) (by rw [hs1]; omega) (hown.alloc (.cells #[.int .i64 5, .int .u64 (wd q 0 : Nat), .int .u64 (wd q 1 : Nat), .int .u64 (wd q 2 : Nat), .int .u64 (wd q 3 : Nat), .int .i64 lo, .int .i64 hi, .int .i64 (gp : Nat), kv] 27)) (by omega)).mono (by
    rintro e w1 ⟨v1, rfl, hr, hg, hm⟩
    have hlt := hown.lt
    have hbx : (W.alloc (.cells #[.int .i64 5, .int .u64 (wd q 0 : Nat), .int .u64 (wd q 1 : Nat), .int .u64 (wd q 2 : Nat), .int .u64 (wd q 3 : Nat), .int .i64 lo, .int .i64 hi, .int .i64 (gp : Nat), kv] 27)).drew.heap[W.heap.size]? = some (.cells #[.int .i64 5, .int .u64 (wd q 0 : Nat), .int .u64 (wd q 1 : Nat), .int .u64 (wd q 2 : Nat), .int .u64 (wd q 3 : Nat), .int .i64 lo, .int .i64 hi, .int .i64 (gp : Nat), kv] 27 (0, 0)) := heap_alloc_new W _
    have hb1 : w1.heap[W.heap.size]? = some (.cells #[.int .i64 5, .int .u64 (wd q 0 : Nat), .int .u64 (wd q 1 : Nat), .int .u64 (wd q 2 : Nat), .int .u64 (wd q 3 : Nat), .int .i64 lo, .int .i64 hi, .int .i64 (gp : Nat), kv] 27 (0, 0)) := (hg.block _ (by rw [hs1]; omega) (fun e => by have := (hlt _ e.symm).2; omega)).trans hbx
    refine ⟨v1, rfl, ⟨by simp [World.cell?, hb1], by simp [World.cell?, hb1], by simp [World.cell?, hb1]⟩, hr, (grown_of HB.out.drew).trans hg, ?_, ?_, ?_⟩
    · rcases hm with hm | hm
      · exact .inl hm
      · exact .inr fun k hk => by have := hm k hk; rw [hs1] at this; omega
    · intro e
      rcases hm with hm | hm
      · rw [hm] at e
        have := (hlt _ e).2
        omega
      · have := hm _ e
        rw [hs1] at this
        omega
    · have := hg.size
      rw [hs1] at this
      omega))
  have HS : Hid (∀ (w1 : World) (v1 : Value), (w1.cell? ⟨W.heap.size, 5, none⟩ = some (.int .i64 lo) ∧ w1.cell? ⟨W.heap.size, 6, none⟩ = some (.int .i64 hi) ∧ w1.cell? ⟨W.heap.size, 8, none⟩ = some kv) → Hid (RepR base W v l S w1 v1) → Calls Tryd.prog 24 #[.int .i64 lo, .int .i64 hi] w1 fun e w2 => e = .returned (.string ⟨(repS lo hi).toArray⟩) ∧ (w2.cell? ⟨W.heap.size, 5, none⟩ = some (.int .i64 lo) ∧ w2.cell? ⟨W.heap.size, 6, none⟩ = some (.int .i64 hi) ∧ w2.cell? ⟨W.heap.size, 8, none⟩ = some kv) ∧ Hid (RepR base W v l S w2 v1)) := hideT (fun w1 v1 hs hR => (repeatText_any lo hi h0 h1 h2 w1 (ht w1 ((Below.refl base W).grown hR.out.2.1 hb (fun k e => (hown.lt k e).1)))).mono (by
    rintro e w2 ⟨rfl, hb2⟩
    obtain ⟨r1, r2, r3, r4, r5⟩ := hR.out
    have hl : W.heap.size < w1.heap.size := World.block_lt_of_cell? w1 _ hs.1
    exact ⟨rfl, ⟨(hb2.cell hl).trans hs.1, (hb2.cell hl).trans hs.2.1, (hb2.cell hl).trans hs.2.2⟩, owns_below r1 hb2, r2.trans (grown_of hb2), r3, r4, Nat.le_trans r5 hb2.size⟩))
  have HL := hideT hlen
  have hS0 : ((W.alloc (.cells #[.int .i64 5, .int .u64 (wd q 0 : Nat), .int .u64 (wd q 1 : Nat), .int .u64 (wd q 2 : Nat), .int .u64 (wd q 3 : Nat), .int .i64 lo, .int .i64 hi, .int .i64 (gp : Nat), kv] 27)).drew.cell? ⟨W.heap.size, 5, none⟩ = some (.int .i64 lo) ∧ (W.alloc (.cells #[.int .i64 5, .int .u64 (wd q 0 : Nat), .int .u64 (wd q 1 : Nat), .int .u64 (wd q 2 : Nat), .int .u64 (wd q 3 : Nat), .int .i64 lo, .int .i64 hi, .int .i64 (gp : Nat), kv] 27)).drew.cell? ⟨W.heap.size, 6, none⟩ = some (.int .i64 hi) ∧ (W.alloc (.cells #[.int .i64 5, .int .u64 (wd q 0 : Nat), .int .u64 (wd q 1 : Nat), .int .u64 (wd q 2 : Nat), .int .u64 (wd q 3 : Nat), .int .i64 lo, .int .i64 hi, .int .i64 (gp : Nat), kv] 27)).drew.cell? ⟨W.heap.size, 8, none⟩ = some kv) := by
    have hbx : (W.alloc (.cells #[.int .i64 5, .int .u64 (wd q 0 : Nat), .int .u64 (wd q 1 : Nat), .int .u64 (wd q 2 : Nat), .int .u64 (wd q 3 : Nat), .int .i64 lo, .int .i64 hi, .int .i64 (gp : Nat), kv] 27)).drew.heap[W.heap.size]? = some (.cells #[.int .i64 5, .int .u64 (wd q 0 : Nat), .int .u64 (wd q 1 : Nat), .int .u64 (wd q 2 : Nat), .int .u64 (wd q 3 : Nat), .int .i64 lo, .int .i64 hi, .int .i64 (gp : Nat), kv] 27 (0, 0)) := heap_alloc_new W _
    generalize (W.alloc (.cells #[.int .i64 5, .int .u64 (wd q 0 : Nat), .int .u64 (wd q 1 : Nat), .int .u64 (wd q 2 : Nat), .int .u64 (wd q 3 : Nat), .int .i64 lo, .int .i64 hi, .int .i64 (gp : Nat), kv] 27)).drew = X at hbx ⊢
    exact ⟨by simp [World.cell?, hbx], by simp [World.cell?, hbx], by simp [World.cell?, hbx]⟩
  clear HK hown hlen hb ht h0 h1 h2 hs1
  generalize repS lo hi = R at *
  go_enter Tryd.func12, Tryd.ntmps12
  go_wp2_with fail
  go_region_held3 (fun w1 => (w1.cell? ⟨W.heap.size, 5, none⟩ = some (.int .i64 lo) ∧ w1.cell? ⟨W.heap.size, 6, none⟩ = some (.int .i64 hi) ∧ w1.cell? ⟨W.heap.size, 8, none⟩ = some kv)) (with_reducible assumption) (first
    | (go_at_call 23; refine HH.out.mono ?_; rintro e w1 ⟨v1, rfl, hS1, hR1⟩)
    | (go_at_call 24; refine (HS.out _ _ (by with_reducible assumption) (by with_reducible assumption)).mono ?_; rintro e w2 ⟨rfl, hS2, hR2⟩)
    | (refine step_append_own_string rfl _ _ 57 9 rfl base 5 i0 (.int .u8 0) Tryd.underlying57 Tryd.underlying9 hi0 hz0 hz1 hz2 rfl _ _ _ rfl hR2.out.1 ⟨R.toArray⟩ rfl (by rw [size_str, List.length_append]; have := HL.out; omega) hR2.out.2.2.2.2 ?_; intro v3 w3 hr hg hat; have hS3 := rep_cells hS2 hR2.out.2.2.2.1 hg; have HF := hideT (WP.next hR2.out.2.1 hR2.out.2.2.1 (WP.done (row_str hr) hg hat)); clear hr hg hat))
  go_wp2
  go_ret
  exact HF.out
end Go.Proofs.YtemgfbidfdhanaaDoor

/- canon: write, of a group. -/
namespace Go.Proofs.YtemgfbidfdhanaaDoor
open Go.RowKit Go.Shelf

set_option maxRecDepth 100000 in
set_option maxHeartbeats 2000000 in
theorem write_group (q : Nat → Bool) (lo hi : Int) (gp : Nat) (kv : Value) (base : Nat) (W : World) (v : Value) (l S : List UInt8) (hb : base ≤ W.heap.size) (hown : W.ownsRow base 5 1 v l.length (strVals l)) (hlen : l.length + S.length + 4 ≤ 1000000) (HK : ∀ (W' : World) (v : Value) (l : List UInt8), Below base W W' → base ≤ W'.heap.size → W'.ownsRow base 5 1 v l.length (strVals l) → l.length + S.length ≤ 1000000 → Calls Tryd.prog 23 #[v, kv] W' (WP base W' v (l ++ S))) :
    Calls Tryd.prog 12 #[v, .agg #[.int .i64 4, .int .u64 (wd q 0 : Nat), .int .u64 (wd q 1 : Nat), .int .u64 (wd q 2 : Nat), .int .u64 (wd q 3 : Nat), .int .i64 lo, .int .i64 hi, .int .i64 (gp : Nat), kv]] W (WP base W v (l ++ [92, 40] ++ S ++ [92, 41])) := by
  obtain ⟨i0, hi0, hz0, hz1, hz2⟩ := info_parts info5
  have HB := hideT ((Below.refl W.heap.size W).alloc (Nat.le_refl _) (.cells #[.int .i64 4, .int .u64 (wd q 0 : Nat), .int .u64 (wd q 1 : Nat), .int .u64 (wd q 2 : Nat), .int .u64 (wd q 3 : Nat), .int .i64 lo, .int .i64 hi, .int .i64 (gp : Nat), kv] 27))
  have HR := hideT (hown.alloc (.cells #[.int .i64 4, .int .u64 (wd q 0 : Nat), .int .u64 (wd q 1 : Nat), .int .u64 (wd q 2 : Nat), .int .u64 (wd q 3 : Nat), .int .i64 lo, .int .i64 hi, .int .i64 (gp : Nat), kv] 27))
  have HQ := hideT (Nat.le_trans hb HB.out.size)
  have HO := hideT (And.intro hb (And.intro hown (And.intro hlen HK)))
  have HG : Hid (∀ (v1 : Value) (w1 : World), w1.ownsRow base 5 1 v1 (l.length + (⟨[92, 40].toArray⟩ : ByteArray).size) (strVals l ++ strVals (⟨[92, 40].toArray⟩ : ByteArray).data.toList) → (W.alloc (.cells #[.int .i64 4, .int .u64 (wd q 0 : Nat), .int .u64 (wd q 1 : Nat), .int .u64 (wd q 2 : Nat), .int .u64 (wd q 3 : Nat), .int .i64 lo, .int .i64 hi, .int .i64 (gp : Nat), kv] 27)).grownBy w1 v.ownBlock → (v1.ownBlock = v.ownBlock ∨ v1.ownBlock = some (W.alloc (.cells #[.int .i64 4, .int .u64 (wd q 0 : Nat), .int .u64 (wd q 1 : Nat), .int .u64 (wd q 2 : Nat), .int .u64 (wd q 3 : Nat), .int .i64 lo, .int .i64 hi, .int .i64 (gp : Nat), kv] 27)).heap.size) → w1.cell? ⟨W.heap.size, 8, none⟩ = some kv ∧ Hid (Calls Tryd.prog 23 #[v1, kv] w1 (WP base w1 v1 (l ++ [92, 40] ++ S))) ∧ Hid ((v1.ownBlock = v.ownBlock ∨ ∀ k, v1.ownBlock = some k → W.heap.size ≤ k) ∧ W.grownBy w1 v.ownBlock ∧ base ≤ w1.heap.size)) := hideT (by
    intro v1 w1 hr hg hat
    have hs1 : (W.alloc (.cells #[.int .i64 4, .int .u64 (wd q 0 : Nat), .int .u64 (wd q 1 : Nat), .int .u64 (wd q 2 : Nat), .int .u64 (wd q 3 : Nat), .int .i64 lo, .int .i64 hi, .int .i64 (gp : Nat), kv] 27)).heap.size = W.heap.size + 1 := World.size_alloc W _
    have hlt := HO.out.2.1.lt
    have hbx : (W.alloc (.cells #[.int .i64 4, .int .u64 (wd q 0 : Nat), .int .u64 (wd q 1 : Nat), .int .u64 (wd q 2 : Nat), .int .u64 (wd q 3 : Nat), .int .i64 lo, .int .i64 hi, .int .i64 (gp : Nat), kv] 27)).heap[W.heap.size]? = some (.cells #[.int .i64 4, .int .u64 (wd q 0 : Nat), .int .u64 (wd q 1 : Nat), .int .u64 (wd q 2 : Nat), .int .u64 (wd q 3 : Nat), .int .i64 lo, .int .i64 hi, .int .i64 (gp : Nat), kv] 27 (0, 0)) := heap_alloc_new W _
    have hb1 : w1.heap[W.heap.size]? = some (.cells #[.int .i64 4, .int .u64 (wd q 0 : Nat), .int .u64 (wd q 1 : Nat), .int .u64 (wd q 2 : Nat), .int .u64 (wd q 3 : Nat), .int .i64 lo, .int .i64 hi, .int .i64 (gp : Nat), kv] 27 (0, 0)) := (hg.block _ (by rw [hs1]; omega) (fun e => by have := (hlt _ e.symm).2; omega)).trans hbx
    have hm1 : v1.ownBlock = v.ownBlock ∨ ∀ k, v1.ownBlock = some k → W.heap.size ≤ k := hat.imp id (fun h k hk => by rw [h, hs1] at hk; cases hk; omega)
    have hg1 : W.grownBy w1 v.ownBlock := (grown_of HB.out).trans hg
    have hbw : Below base W w1 := (Below.refl base W).grown hg1 HO.out.1 (fun k e => (hlt k e).1)
    exact ⟨by simp [World.cell?, hb1], hideT (HO.out.2.2.2 w1 v1 (l ++ [92, 40]) hbw (Nat.le_trans HO.out.1 hg1.size) (row_str hr) (by have := HO.out.2.2.1; simp only [List.length_append, List.length_cons, List.length_nil]; omega)), hideT ⟨hm1, hg1, Nat.le_trans HO.out.1 hg1.size⟩⟩)
  clear HK hown hlen hb
  go_enter Tryd.func12, Tryd.ntmps12
  go_wp2_with (first | (at_builtin; refine wpList_append_own_string rfl _ _ 57 9 rfl base 5 i0 (.int .u8 0) Tryd.underlying57 Tryd.underlying9 hi0 hz0 hz1 hz2 rfl _ _ _ rfl HR.out ⟨[92, 40].toArray⟩ rfl (by rw [size_str]; have := HO.out.2.2.1; simp only [List.length_cons, List.length_nil]; omega) HQ.out ?_; intro v1 w1 hr hg hat; obtain ⟨c8, HC, HM⟩ := HG.out v1 w1 hr hg hat; clear hr hg hat))
  refine HC.out.mono ?_
  rintro e w2 ⟨v2, rfl, hr2, hg2, hm2⟩
  have HR2 := hideT hr2
  have HQ2 := hideT (Nat.le_trans HM.out.2.2 hg2.size)
  have HN := hideT (fun (l' : List UInt8) e w3 (h : WP base w2 v2 l' e w3) => WP.next HM.out.2.1 HM.out.1 (WP.next hg2 hm2 h))
  clear hr2 hg2 hm2 c8
  go_wp2_with (first | (at_builtin; refine wpList_append_own_string rfl _ _ 57 9 rfl base 5 i0 (.int .u8 0) Tryd.underlying57 Tryd.underlying9 hi0 hz0 hz1 hz2 rfl _ _ _ rfl HR2.out ⟨[92, 41].toArray⟩ rfl (by rw [size_str]; have := HO.out.2.2.1; simp only [List.length_append, List.length_cons, List.length_nil]; omega) HQ2.out ?_; intro v3 w3 hr hg hat; have HF := hideT (HN.out _ _ _ (WP.done (row_str hr) hg hat)); clear hr hg hat))
  go_wp2
  go_ret
  exact HF.out
end Go.Proofs.YtemgfbidfdhanaaDoor
