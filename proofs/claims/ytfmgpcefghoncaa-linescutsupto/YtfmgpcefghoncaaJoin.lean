/- Walks: Join, and the document's Join: each text with a newline behind it, wherever the list lies, where all is at most 2^30 bytes. -/
import Derived.Test.YtfmgpcefghoncaaSame
import Derived.Test.YtfmgpcefghoncaaBuild
namespace Go.Proofs.Ytfmgpcefghoncaa
open Go.RowKit

/-- Each text with a newline behind it. -/
def joinL (l : List (List UInt8)) : List UInt8 := (l.map fun x => x ++ [10]).flatten

theorem joinL_snoc (l : List (List UInt8)) (x : List UInt8) : joinL (l ++ [x]) = joinL l ++ x ++ [10] := by simp [joinL]
theorem joinL_take (l : List (List UInt8)) (k : Nat) (h : k < l.length) : joinL (l.take (k + 1)) = joinL (l.take k) ++ l[k] ++ [10] := by
  rw [List.take_succ_eq_append_getElem h, joinL_snoc]
theorem joinL_take_le (l : List (List UInt8)) (k : Nat) : (joinL (l.take k)).length ≤ (joinL l).length := by
  have h : joinL l = joinL (l.take k) ++ joinL (l.drop k) := by
    unfold joinL
    rw [← List.flatten_append, ← List.map_append, List.take_append_drop]
  rw [h, List.length_append]
  omega

theorem strCells_str (l : List UInt8) : Lib.strCells (str l) = Lib.byteCells l := by simp [Lib.strCells, Lib.byteCells, str]
theorem str_size (l : List UInt8) : (str l).size = l.length := by simp [str, ByteArray.size]
theorem byteCells_append (l m : List UInt8) : Lib.byteCells (l ++ m) = Lib.byteCells l ++ Lib.byteCells m := by simp [Lib.byteCells]

set_option maxRecDepth 100000 in
set_option maxHeartbeats 1000000 in
theorem join_any (v : Value) (l : List (List UInt8)) (w : World) (hv : Row w v l) (hl : (joinL l).length ≤ 1073741824) (hn : l.length ≤ 1073741824) :
    Calls Try.prog 16 #[v] w fun e w' => e = .returned (.string (str (joinL l))) ∧ Below w.heap.size w w' := by
  obtain ⟨pa, ca, rfl⟩ := hv.shape
  go_enter Try.func16, Try.ntmps16
  go_wp2_with fail
  go_loopw [8] (fun i wr => ∃ k : Nat, k ≤ l.length ∧ i = .int .i64 k ∧ Lib.IsBuilder 48 5 w.heap.size w.heap.size (Lib.byteCells (joinL (l.take k))) wr ∧ Below w.heap.size w wr) (fun i _ => l.length - (intOf i).toNat)
  case atStart =>
    refine ⟨0, by omega, rfl, ?_, ?_⟩
    · exact Lib.fresh_isBuilder 48 5 w
    · exact (Below.refl _ w).alloc (Nat.le_refl _) _
  case round =>
    obtain ⟨k, hk, rfl, hbd, hB⟩ := hrel
    have hsz := hB.size
    by_cases hlt : k < l.length
    · rcases hv with ⟨rfl, -⟩ | ⟨g, off, c, e1, ha⟩
      · simp at hlt
      cases e1
      have h1 := (hB.cell (p := ⟨g, off + k, none⟩) (cell_lt (ha k hlt))).trans (ha k hlt)
      have hj := joinL_take l k hlt
      have hle := joinL_take_le l (k + 1)
      rw [hj] at hle
      simp only [List.length_append, List.length_singleton] at hle
      have HJ : Hid _ := hj
      clear hj
      have q1 : (Lib.byteCells (joinL (l.take k))).length + (str l[k]).size ≤ 140737488355328 := by rw [Lib.byteCells_length, str_size]; omega
      have q2 : (Lib.byteCells (joinL (l.take k)) ++ Lib.strCells (str l[k])).length + (⟨#[10]⟩ : ByteArray).size ≤ 140737488355328 := by
        rw [List.length_append, Lib.strCells_length, Lib.byteCells_length, str_size]
        show _ + 1 ≤ _
        omega
      go_wp2_with fail
      refine (writeString_any _ _ _ _ _ hbd q1 hsz).mono ?_
      rintro e w1 ⟨rfl, hbd1, hb1⟩
      have hsz1 := hb1.size
      clear h1
      go_wp2_with fail
      refine (writeString_any _ _ _ _ _ (.inr hbd1) q2 (by omega)).mono ?_
      rintro e w2 ⟨rfl, hbd2, hb2⟩
      rw [strCells_str] at hbd2
      have e3 : Lib.strCells ⟨#[10]⟩ = Lib.byteCells [10] := rfl
      rw [e3, ← byteCells_append, ← byteCells_append, ← HJ.out] at hbd2
      clear hbd hbd1 q1 q2
      go_wp2
      exact ⟨⟨k + 1, by omega, by go_num, .inr hbd2, (hB.trans hb1).trans hb2⟩, by simp [intOf]; omega⟩
    · go_wp2_with (first | (go_at_call 23; refine (Try.Builder_String_any _ _ _ _ hbd (by omega)).mono ?_; rintro e w1 ⟨rfl, hb1⟩))
      obtain rfl : k = l.length := by omega
      go_ret
      refine ⟨?_, hB.trans hb1⟩
      rw [List.take_length]
      rfl

theorem conv_bytes {W : World} {base : Nat} {v : Value} {l : List UInt8} (h : W.ownsRow base 5 1 v l.length (Lib.byteCells l)) : (convert 46 9 v).run Try.prog W = .ok (.string (str l)) W := by
  rcases h.2 with ⟨rfl, h0⟩ | ⟨g, cap, cur, rfl, hg, hh, hrest⟩
  · obtain rfl := List.eq_nil_of_length_eq_zero h0
    exact run_convert_bytes_nil W 46 5 Try.underlying46 Try.underlying5 0 0 9 Try.underlying9
  · have hc : ∀ i, i < l.length → W.cell? ⟨g, 0 + i, none⟩ = some (.int .u8 ((l.map fun (b : UInt8) => (b.toNat : Int)).getD i 0)) := by
      intro i hi
      have h2 := h.cells (g := g) rfl i (.int .u8 ((l.map fun (b : UInt8) => (b.toNat : Int)).getD i 0)) (by simp [Lib.byteCells, List.getElem?_eq_getElem hi])
      have hplain : (⟨g, 0, none⟩ : Addr).add i = ⟨g, 0 + i, none⟩ := by unfold Addr.add; split <;> simp_all
      rwa [hplain] at h2
    have h3 := run_convert_bytes_arg (P := Try.prog) W 46 5 Try.underlying46 Try.underlying5 g 0 l.length cap (l.map fun (b : UInt8) => (b.toNat : Int)) (by simp) hc 9 Try.underlying9
    rw [h3]
    have e : (l.map fun (b : UInt8) => (b.toNat : Int)).map (fun n => UInt8.ofNat n.toNat) = l := by
      rw [List.map_map]
      conv => rhs; rw [← List.map_id l]
      apply List.map_congr_left
      intro b _
      simp
    simp only [strOfNums, str, e]

set_option maxRecDepth 100000 in
set_option maxHeartbeats 1000000 in
theorem refJoin_any (v : Value) (l : List (List UInt8)) (w : World) (hv : Row w v l) (hl : (joinL l).length ≤ 1073741824) (hn : l.length ≤ 1073741824) :
    Calls Try.prog 17 #[v] w fun e w' => e = .returned (.string (str (joinL l))) ∧ Below w.heap.size w w' := by
  obtain ⟨i0, hi, hz0, hz1, hz2⟩ := info_parts byte_info
  obtain ⟨pa, ca, rfl⟩ := hv.shape
  go_enter Try.func17, Try.ntmps17
  go_wp2_with fail
  go_loopw [3, 4] (fun b i wr => ∃ k : Nat, k ≤ l.length ∧ i = .int .i64 k ∧ wr.ownsRow w.heap.size 5 1 b (joinL (l.take k)).length (Lib.byteCells (joinL (l.take k))) ∧ Below w.heap.size w wr) (fun _ i _ => l.length - (intOf i).toNat)
  case atStart => exact ⟨0, by omega, rfl, World.ownsRow_nil _ _ _ _, Below.refl _ _⟩
  case round =>
    obtain ⟨k, hk, rfl, hown, hB⟩ := hrel
    have hsz := hB.size
    by_cases hlt : k < l.length
    · rcases hv with ⟨rfl, -⟩ | ⟨g, off, c, e1, ha⟩
      · simp at hlt
      cases e1
      have h1 := (hB.cell (p := ⟨g, off + k, none⟩) (cell_lt (ha k hlt))).trans (ha k hlt)
      have hj := joinL_take l k hlt
      have hle := joinL_take_le l (k + 1)
      rw [hj] at hle
      simp only [List.length_append, List.length_singleton] at hle
      have HJ : Hid _ := hj
      clear hj
      have hss := str_size l[k]
      go_wp2_with (at_builtin; refine Lib.wpList_append_own_string _ rfl _ _ 46 9 rfl w.heap.size 5 i0 Try.underlying46 Try.underlying9 hi hz0 hz1 hz2 _ _ _ rfl hown (str l[k]) rfl ?c3 ?c4 ?c5 ?_)
      case c3 => unfold maxLen; omega
      case c4 => omega
      case c5 => omega
      intro v' w2 hown' hgrow _
      have hb2 := hB.grown hgrow (by omega) (owns_block hown)
      have hsz2 := hb2.size
      rw [strCells_str, ← byteCells_append, ← List.length_append] at hown'
      clear h1 hgrow hown
      go_wp2_with (at_builtin; refine wpList_append_own _ rfl _ _ 46 rfl w.heap.size 5 i0 (.int .u8 0) 1 1 Try.underlying46 hi hz0 hz1 hz2 rfl (by decide) _ _ _ rfl (hown'.alloc _) ⟨w2.heap.size, 0, none⟩ 1 1 [.int .u8 10] rfl rfl ?d1 ?d2 ?d3 ?d4 ?d5 ?_)
      case d1 => exact cell_one_new _ _ _
      case d2 => intro u hu; simp at hu; subst hu; rfl
      case d3 => rw [List.length_append]; unfold maxLen; omega
      case d4 => rw [List.length_append]; omega
      case d5 => simp; omega
      intro v3 w3 hown3 hgrow3 _
      have hb3 := (hb2.alloc hsz2 (.cells #[.int .u8 10] 5)).grown hgrow3 (by simp; omega) (owns_block hown')
      have e3 : ([.int .u8 10] : List Value) = Lib.byteCells [10] := rfl
      rw [e3, ← byteCells_append] at hown3
      have e4 : (joinL (l.take k)).length + l[k].length + 1 = (joinL (l.take k) ++ l[k] ++ [10]).length := by rw [List.length_append, List.length_append]; rfl
      rw [e4, ← HJ.out] at hown3
      clear hown' hgrow3
      go_wp2
      exact ⟨⟨k + 1, by omega, by go_num, hown3, hb3⟩, by simp [intOf]; omega⟩
    · obtain rfl : k = l.length := by omega
      rw [List.take_length] at hown
      have hcv := conv_bytes hown
      go_wp2
      go_ret
      exact ⟨rfl, hB⟩
end Go.Proofs.Ytfmgpcefghoncaa
