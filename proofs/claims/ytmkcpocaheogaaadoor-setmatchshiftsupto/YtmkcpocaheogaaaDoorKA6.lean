/- setmatch: are two lists of spans alike? setmatch: what is found of some texts, reckoned; a list of spans that is written out. setmatch: awake. -/
import Derived.Test.YtmkcpocaheogaaaDoorKAa
import Derived.Laws.StructEq
import Derived.OwnWalk
import Derived.Test.YtmkcpocaheogaaaDoorKPp
import Derived.Test.YtmkcpocaheogaaaDoorKA5
set_option maxRecDepth 100000
set_option maxHeartbeats 4000000
namespace Go.Proofs.YtmkcpocaheogaaaDoor.smt
open Go.RowKit Go.Proofs.YtmkcpocaheogaaaDoor.br
theorem und_sp : Tryd.prog.underlying 34 = some (.struct (Tryd.prog.fieldsOf 34)) := by kernel_rfl
theorem neq_sp (x0 x1 y0 y1 : Int) (w : World) : (binOp .neq 34 (.agg #[.int .i64 x0, .int .i64 x1]) (.agg #[.int .i64 y0, .int .i64 y1])).run Tryd.prog w = .ok (.bool (!((x0 == y0) && (x1 == y1)))) w := by
 rw [run_neq_struct, run_equalIn_agg w 9999 _ _ _ und_sp (by kernel_rfl)]
 have hf : (Tryd.prog.fieldsOf 34).toList = [{ name := "From", type := 3, offset := 0, embedded := false, tag := "", pkgPath := "", byteOffset := 0 }, { name := "To", type := 3, offset := 1, embedded := false, tag := "", pkgPath := "", byteOffset := 8 }] := by kernel_rfl
 rw [hf]
 simp [Op.eqFields, go_sem]
 by_cases h0 : x0 = y0 <;> by_cases h1 : x1 = y1 <;> simp [h0, h1]
theorem sp_cells {W : World} {n : Nat} {v : Value} {l : List (Int × Int)} (h : W.ownsRow 0 34 2 v n (spV l)) {i : Nat} {x : Int × Int} (hx : l[i]? = some x) : ∃ g cap, v = .slice (some ⟨g, 0, none⟩) n cap ∧ W.cell? ⟨g, i * 2, none⟩ = some (.int .i64 x.1) ∧ W.cell? ⟨g, i * 2 + 1, none⟩ = some (.int .i64 x.2) := by
 have hi := (List.getElem?_eq_some_iff.1 hx).1
 have hl := h.1
 rw [spV_len] at hl
 rcases h.2 with ⟨_, e⟩ | ⟨g, cap, cur, rfl, _⟩
 · omega
 · exact ⟨g, cap, rfl, (owns_cell h _ _ (spV_get hx).1).1, (owns_cell h _ _ (spV_get hx).2).1⟩
theorem same_any {l k : List (Int × Int)} {a b : Value} {na nb : Nat} (w : World) (ha : w.ownsRow 0 34 2 a na (spV l)) (hb : w.ownsRow 0 34 2 b nb (spV k)) (hl : l.length ≤ 1000000) (hk : k.length ≤ 1000000) :
 Calls Tryd.prog 8 #[a, b] w fun e w' => e = .returned (.bool (decide (l = k))) ∧ Below w.heap.size w w' := by
 obtain rfl : na = l.length := by have := ha.1; rw [spV_len] at this; omega
 obtain rfl : nb = k.length := by have := hb.1; rw [spV_len] at this; omega
 obtain ⟨pa, ca, rfl⟩ := owns_shape ha
 obtain ⟨pb, cb, rfl⟩ := owns_shape hb
 have HA := hideT (And.intro ha hb)
 clear ha hb
 go_enter Tryd.func8, Tryd.ntmps8
 by_cases hn : l.length = k.length
 · have t1 : ((l.length : Int) == (k.length : Int)) = true := by simp [hn]
   go_wp2_with fail
   go_loopw [5] (fun iv wr => ∃ i : Nat, i ≤ l.length ∧ iv = .int .i64 (i : Nat) ∧ Hid (l.take i = k.take i) ∧ Hid (∃ m, wr = w.drewN m)) (fun iv _ => (l.length - intOf iv).toNat)
   case atStart => exact ⟨0, by omega, rfl, hideT rfl, hideT ⟨0, rfl⟩⟩
   case round =>
    obtain ⟨i, hi, rfl, HT, HM⟩ := hrel
    by_cases hlt : i < l.length
    · have hx := List.getElem?_eq_getElem hlt
      have hy := List.getElem?_eq_getElem (show i < k.length by omega)
      have HS := hideT (And.intro (List.take_succ_eq_append_getElem hlt) (List.take_succ_eq_append_getElem (show i < k.length by omega)))
      have HD := hideT (fun h : l = k => (by subst h; rfl : l[i] = k[i]'(by omega)))
      generalize l[i] = x at *
      generalize k[i] = y at *
      obtain ⟨ga, _, e1, q0, q1⟩ := sp_cells HA.out.1 hx
      obtain ⟨gb, _, e2, p0, p1⟩ := sp_cells HA.out.2 hy
      cases e1
      cases e2
      have hwr : ∀ q, wr.cell? q = w.cell? q := fun q => by obtain ⟨m, rfl⟩ := HM.out; rfl
      rw [← hwr] at q0 q1 p0 p1
      have i1 : (i : Int) < (l.length : Int) := by omega
      have i3 : (i : Int) < (k.length : Int) := by omega
      have i2 : (0 : Int) ≤ (i : Int) := by omega
      have HI := hideT hi
      have HL := hideT hlt
      clear hi hlt hx hy hwr
      have hxy : (x.1 == y.1 && x.2 == y.2) = decide (x = y) := by
       obtain ⟨x1, x2⟩ := x
       obtain ⟨y1, y2⟩ := y
       rw [Bool.eq_iff_iff]
       simp [Prod.mk.injEq]
      have hq := neq_sp x.1 x.2 y.1 y.2
      rw [hxy] at hq
      clear hxy
      by_cases hd : x = y
      · rw [decide_eq_true hd] at hq
        have HN := hideT (show l.take (i + 1) = k.take (i + 1) by rw [HS.out.1, HS.out.2, HT.out, hd])
        clear hd
        go_wp2_with fail
        go_quiet (fail)
        go_wp2
        exact ⟨⟨i + 1, HL.out, by go_num, HN, hideT (by obtain ⟨m, rfl⟩ := HM.out; exact ⟨_, World.drewN_drewN ..⟩)⟩, by simp [intOf]; have := HL.out; omega⟩
      · rw [decide_eq_false hd] at hq
        have HN := hideT (fun h => hd (HD.out h))
        clear hd
        go_wp2_with fail
        go_quiet (fail)
        go_wp2
        go_ret
        refine ⟨?_, ?_⟩
        · rw [decide_eq_false HN.out]; rfl
        · obtain ⟨m, rfl⟩ := HM.out
          exact ⟨rfl, rfl, rfl, Nat.le_refl _, fun _ _ => rfl⟩
    · have i1 : ((i : Int) < (l.length : Int)) = False := by rw [eq_iff_iff, iff_false]; omega
      have i4 : (i < k.length) = False := by rw [eq_iff_iff, iff_false]; omega
      have HL := hideT hlt
      clear hlt
      go_wp2
      go_ret
      have he : l = k := by
       have h := HT.out
       rw [List.take_of_length_le (by have := HL.out; omega), List.take_of_length_le (by have := HL.out; omega)] at h
       exact h
      obtain ⟨m, rfl⟩ := HM.out
      exact ⟨by rw [decide_eq_true he]; rfl, ⟨rfl, rfl, rfl, Nat.le_refl _, fun _ _ => rfl⟩⟩
 · have t1 : ((l.length : Int) != (k.length : Int)) = true := by simp; omega
   have HN := hideT hn
   clear hn
   go_wp2
   go_ret
   refine ⟨?_, Below.refl _ _⟩
   rw [decide_eq_false (fun h => HN.out (by rw [h]))]
   rfl
end Go.Proofs.YtmkcpocaheogaaaDoor.smt
namespace Go.Proofs.YtmkcpocaheogaaaDoor.smt
open Go.RowKit Go.Proofs.YtmkcpocaheogaaaDoor.br
def oneP (c : Nat) : Nat → Bool := fun i => Nat.beq i c
theorem one_self {c : Nat} (hc : c < 256) : selfP c = oneP c := by
 funext i
 show (List.any (List.take 1 [UInt8.ofNat c]) fun b => b.toNat == i) = Nat.beq i c
 rw [Bool.eq_iff_iff]
 simp [Nat.mod_eq_of_lt hc]
 exact eq_comm
def awL : List Tr := [repT 0 (-1) (xbp 1 [repT 0 (-1) (xbp 2 [byteT (oneP 97)]), byteT (oneP 98)])]
theorem aw_p : parseT ⟨#[92, 40, 92, 40, 97, 92, 41, 42, 98, 92, 41, 42]⟩ = .ok awL := by
 unfold awL
 simp only [← one_self (show 97 < 256 by decide), ← one_self (show 98 < 256 by decide)]
 kernel_rfl
theorem aw_f : ∃ c, matchT 2 (catT awL) [97, 97, 98, 98] 0 = some (some [(0, 4), (3, 4), (1, 2)], c) ∧ c = 21 := ⟨21, by decide +kernel, rfl⟩
def repB (c : UInt8) (n : Nat) : ByteArray := ⟨(List.replicate n c).toArray⟩
theorem repB_size (c : UInt8) (n : Nat) : (repB c n).size = n := by show (List.replicate n c).toArray.size = n; simp
theorem repB_next (c : UInt8) (n : Nat) : repB c n ++ ⟨#[c]⟩ = repB c (n + 1) := by
 apply ByteArray.ext
 rw [ByteArray.data_append]
 show (List.replicate n c).toArray ++ #[c] = (List.replicate (n + 1) c).toArray
 rw [List.replicate_succ', ← List.push_toArray]
 simp
theorem bl_rep (c : UInt8) (n : Nat) : bl (repB c n) = List.replicate n c.toNat := by
 show List.map UInt8.toNat ((List.replicate n c).toArray.toList) = _
 simp
theorem bl_app (a b : ByteArray) : bl (a ++ b) = bl a ++ bl b := by
 unfold bl
 rw [ByteArray.data_append, Array.toList_append, List.map_append]
theorem lit_row (W : World) (k : List (Int × Int)) (hk : k.length ≤ 1000000) : (W.alloc (.cells (spV k).toArray 34)).ownsRow 0 34 2 (.slice (some ⟨W.heap.size, 0, none⟩) k.length k.length) k.length (spV k) := by
 have h := World.ownsRow_lit (base := 0) (e := 34) (size := 2) W (spV k).toArray k.length (Nat.zero_le _) (by unfold maxLen; omega) (by rw [List.size_toArray, spV_len])
 simpa using h
theorem same_lit {W : World} {n : Nat} {v : Value} {l : List (Int × Int)} (k : List (Int × Int)) (h : W.ownsRow 0 34 2 v n (spV l)) (hl : l.length ≤ 1000000) (hk : k.length ≤ 1000000) :
 Calls Tryd.prog 8 #[v, .slice (some ⟨W.heap.size, 0, none⟩) k.length k.length] (W.alloc (.cells (spV k).toArray 34)) fun e w' => e = .returned (.bool (decide (l = k))) ∧ Below W.heap.size W w' := by
 have hb := (Below.refl W.heap.size W).alloc (Nat.le_refl _) (.cells (spV k).toArray 34)
 refine (same_any _ (owns_keep h fun g hg => hb.block g (owns_blk h hg).2.1) (lit_row W k hk) hl hk).mono ?_
 rintro e w' ⟨rfl, h2⟩
 exact ⟨rfl, hb.trans (h2.mono hb.size)⟩
end Go.Proofs.YtmkcpocaheogaaaDoor.smt
namespace Go.Proofs.YtmkcpocaheogaaaDoor.smt
open Go.RowKit Go.Proofs.YtmkcpocaheogaaaDoor.br
theorem found_any {text s : ByteArray} {ts : List Tr} {n : Nat} {l : List (Int × Int)} {c : Nat} (w : World) (hg : Glob w) (hT : Tab w) (ht : parseT text = .ok ts) (hb : (msF .zero ts).back = false) (hn : (msF .zero ts).groups = (n : Int)) (hs : s.size ≤ 1024) (hm : matchT n (catT ts) (bl s) 0 = some (some l, c)) :
 Calls Tryd.prog 7 #[.string text, .string s, .int .i64 0] w fun e w' => Below w.heap.size w w' ∧ ∃ v, e = .returned (.tuple #[v, .bool true, .int .i64 (hz c), .int .i64 0]) ∧ w'.ownsRow 0 34 2 v l.length (spV l) := by
 obtain ⟨m, h1, h2⟩ := ly_parse ht hb
 obtain rfl : m = n := by omega
 refine (match_any (f := 600) (frm := 0) w hg hT ht hb hn h2 hs (Nat.zero_le _) hm).mono ?_
 rintro e w' ⟨hB, v, rfl, ho⟩
 exact ⟨hB, v, rfl, owns_mono ho (Nat.zero_le _)⟩
theorem aw_n : (msF .zero awL).back = false ∧ (msF .zero awL).groups = ((2 : Nat) : Int) := by
 simp [awL, msF, msT, repT, byteT, xbp, catT, Ms.zero, Ms.both, Ms.rep, Ms.grp, wrM, sumM, xdh]
theorem awake_any (w : World) (hg : Glob w) (hT : Tab w) : Calls Tryd.prog 5 #[] w fun e w' => e = .returned (.bool true) ∧ Below w.heap.size w w' := by
 obtain ⟨c, hc, rfl⟩ := aw_f
 have hM := found_any (s := ⟨#[97, 97, 98, 98]⟩) w hg hT aw_p aw_n.1 aw_n.2 (by decide) hc
 rw [show hz 21 = 21 from rfl] at hM
 clear hc
 go_enter Tryd.func5, Tryd.ntmps5
 go_wp2_with fail
 refine hM.mono ?_
 rintro e w1 ⟨hB, v, rfl, ho⟩
 have hS := same_lit [(0, 4), (3, 4), (1, 2)] ho (by decide) (by decide)
 rw [decide_eq_true rfl] at hS
 have HB := hideT hB
 clear hB ho hM
 go_wp2_with fail
 refine hS.mono ?_
 rintro e w2 ⟨rfl, h2⟩
 have H2 := hideT (HB.out.trans (h2.mono HB.out.size))
 clear h2 HB hS
 go_wp2
 go_ret
 exact ⟨rfl, H2.out⟩
end Go.Proofs.YtmkcpocaheogaaaDoor.smt
