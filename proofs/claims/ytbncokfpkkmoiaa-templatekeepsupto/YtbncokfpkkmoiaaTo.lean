/- template: parts and spans among the arguments: what they read as. -/
import Derived.Test.YtbncokfpkkmoiaaTn
import Derived.Deep.SlicePairs
import Derived.SizedLaws
import Derived.ChangeMaps5
import Derived.Carry
import Derived.ChangeOld
namespace Go.Proofs.Ytbncokfpkkmoiaa
open Go.ChangeShapes Go.WideShapes Go.RowKit

/-- The datum of a part. -/
def ptD {H : Type} (q : Pt) : DataW H := .agg [.lit (.int .i64 q.g), .lit (.string q.t.data.toList)]
def spD {H : Type} (q : Int × Int) : DataW H := .agg [.lit (.int .i64 q.1), .lit (.int .i64 q.2)]

theorem fld48 : ∃ f0 f1, Try.prog.underlying 48 = some (.struct #[f0, f1]) ∧ f0.offset = 0 ∧ f1.offset = 1 ∧ f0.type = 3 ∧ f1.type = 9 := ⟨_, _, Try.underlying48, rfl, rfl, rfl, rfl⟩
theorem fld45 : ∃ f0 f1, Try.prog.underlying 45 = some (.struct #[f0, f1]) ∧ f0.offset = 0 ∧ f1.offset = 1 ∧ f0.type = 3 ∧ f1.type = 3 := ⟨_, _, Try.underlying45, rfl, rfl, rfl, rfl⟩

theorem addr_plain {W : World} {a : Addr} {v : Value} (h : W.cell? (a.add (0 * 2)) = some v) : a.spot = none := by
  obtain ⟨g, off, sp⟩ := a
  cases sp with
  | none => rfl
  | some x =>
    simp [Addr.add, World.cell?] at h
    split at h <;> simp_all

theorem open_parts {H : Type} {enc : TypeId × Value → H} {W : World} {b0 base : Nat} {spare : Nat → Bool} {held : Bool} {v : Value} {d : DataW H} {p : List MemPlace} (hv : Value.okWide Try.prog W .any b0 22 v) (h : DataW.Trod enc Try.prog W base spare held 22 v d p) :
    ∃ l : List Pt, PRow W v l ∧ ((l = [] ∧ d = .nil) ∨ ∃ r, d = .slice (l.map ptD) r) ∧ (v = .slice none 0 0 ∨ ∃ a n c, v = .slice (some a) n c) := by
  obtain ⟨a0, len, cap, rfl⟩ := okWide_slice und22 hv
  obtain ⟨fuel, hf⟩ := h
  obtain ⟨f0, f1, hs, o0, o1, t0, t1⟩ := fld48
  rcases Deep.open_slice_pairs und22 hs (by kernel_rfl) o0 o1 (by rw [t0]; kernel_rfl) (by rw [t1]; kernel_rfl) hf with ⟨hcs, hx⟩ | ⟨a, len', cap', m, n, V0, V1, D0, D1, P0, P1, hcs, _, hl, hm, hz, hx, hcell⟩
  · simp only [Value.cells, List.cons.injEq, Value.slice.injEq, and_true] at hcs
    obtain ⟨rfl, rfl, rfl⟩ := hcs
    simp only [Prod.mk.injEq] at hx
    exact ⟨[], .inl ⟨rfl, _, _, rfl⟩, .inl ⟨rfl, hx.1⟩, .inl rfl⟩
  · simp only [Value.cells, List.cons.injEq, Value.slice.injEq, and_true] at hcs
    obtain ⟨rfl, rfl, rfl⟩ := hcs
    simp only [Prod.mk.injEq] at hx
    have hle : len ≤ m := by rw [hz]; split <;> omega
    have each : ∀ i, i < len → ∃ q : Pt, W.cell? (a.add (i * 2)) = some (.int .i64 q.g) ∧ W.cell? (a.add (i * 2 + 1)) = some (.string q.t) ∧ DataW.agg [D0 i, D1 i] = ptD q := by
      intro i hi
      obtain ⟨h1, h2, h3, h4⟩ := hcell i (by omega)
      rw [t0] at h3
      rw [t1] at h4
      obtain ⟨g, e1, e2, _⟩ := DataW.trod_int Try.underlying3 h3
      obtain ⟨t, e3, e4, _⟩ := DataW.trod_string Try.underlying9 h4
      simp only [List.cons.injEq, and_true] at e1 e3
      simp only [Prod.mk.injEq] at e2 e4
      exact ⟨⟨g, t⟩, by rw [h1, e1], by rw [h2, e3], by rw [e2.1, e4.1]; rfl⟩
    haveI : Inhabited Pt := ⟨⟨0, ⟨#[]⟩⟩⟩
    obtain ⟨q, hq⟩ := Deep.choose_lt each
    have hd : d = .slice (((List.range len).map q).map ptD) (List.map (fun j => DataW.agg [D0 (len + j), D1 (len + j)]) (List.range (m - len))) := by
      rw [hx.1, List.map_map]
      congr 1
      exact List.map_congr_left (fun i hi => (hq i (List.mem_range.1 hi)).2.2)
    refine ⟨(List.range len).map q, ?_, .inr ⟨_, hd⟩, .inr ⟨_, _, _, rfl⟩⟩
    · by_cases h0 : len = 0
      · subst h0
        exact .inl ⟨rfl, _, _, rfl⟩
      · have hsp := addr_plain (hq 0 (by omega)).1
        obtain ⟨g, off, sp⟩ := a
        simp only at hsp
        subst hsp
        refine .inr ⟨g, off, cap, by simp, fun i hi => ?_⟩
        have hi' : i < len := by simpa using hi
        have hplain : ∀ k, (⟨g, off, none⟩ : Addr).add k = ⟨g, off + k, none⟩ := fun k => by unfold Addr.add; split <;> simp_all
        obtain ⟨h1, h2, _⟩ := hq i hi'
        rw [hplain] at h1 h2
        rw [List.getElem_map, List.getElem_range]
        exact ⟨h1, by rw [Nat.add_assoc]; exact h2⟩

theorem open_spans {H : Type} {enc : TypeId × Value → H} {W : World} {b0 base : Nat} {spare : Nat → Bool} {held : Bool} {v : Value} {d : DataW H} {p : List MemPlace} (hv : Value.okWide Try.prog W .any b0 39 v) (h : DataW.Trod enc Try.prog W base spare held 39 v d p) :
    ∃ l : List (Int × Int), SRow W v l ∧ ((l = [] ∧ d = .nil) ∨ ∃ r, d = .slice (l.map spD) r) ∧ (v = .slice none 0 0 ∨ ∃ a n c, v = .slice (some a) n c) := by
  obtain ⟨a0, len, cap, rfl⟩ := okWide_slice Try.underlying39 hv
  obtain ⟨fuel, hf⟩ := h
  obtain ⟨f0, f1, hs, o0, o1, t0, t1⟩ := fld45
  rcases Deep.open_slice_pairs Try.underlying39 hs (by kernel_rfl) o0 o1 (by rw [t0]; kernel_rfl) (by rw [t1]; kernel_rfl) hf with ⟨hcs, hx⟩ | ⟨a, len', cap', m, n, V0, V1, D0, D1, P0, P1, hcs, _, hl, hm, hz, hx, hcell⟩
  · simp only [Value.cells, List.cons.injEq, Value.slice.injEq, and_true] at hcs
    obtain ⟨rfl, rfl, rfl⟩ := hcs
    simp only [Prod.mk.injEq] at hx
    exact ⟨[], .inl ⟨rfl, _, _, rfl⟩, .inl ⟨rfl, hx.1⟩, .inl rfl⟩
  · simp only [Value.cells, List.cons.injEq, Value.slice.injEq, and_true] at hcs
    obtain ⟨rfl, rfl, rfl⟩ := hcs
    simp only [Prod.mk.injEq] at hx
    have hle : len ≤ m := by rw [hz]; split <;> omega
    have each : ∀ i, i < len → ∃ q : Int × Int, W.cell? (a.add (i * 2)) = some (.int .i64 q.1) ∧ W.cell? (a.add (i * 2 + 1)) = some (.int .i64 q.2) ∧ DataW.agg [D0 i, D1 i] = spD q := by
      intro i hi
      obtain ⟨h1, h2, h3, h4⟩ := hcell i (by omega)
      rw [t0] at h3
      rw [t1] at h4
      obtain ⟨g, e1, e2, _⟩ := DataW.trod_int Try.underlying3 h3
      obtain ⟨t, e3, e4, _⟩ := DataW.trod_int Try.underlying3 h4
      simp only [List.cons.injEq, and_true] at e1 e3
      simp only [Prod.mk.injEq] at e2 e4
      exact ⟨⟨g, t⟩, by rw [h1, e1], by rw [h2, e3], by rw [e2.1, e4.1]; rfl⟩
    obtain ⟨q, hq⟩ := Deep.choose_lt each
    have hd : d = .slice (((List.range len).map q).map spD) (List.map (fun j => DataW.agg [D0 (len + j), D1 (len + j)]) (List.range (m - len))) := by
      rw [hx.1, List.map_map]
      congr 1
      exact List.map_congr_left (fun i hi => (hq i (List.mem_range.1 hi)).2.2)
    refine ⟨(List.range len).map q, ?_, .inr ⟨_, hd⟩, .inr ⟨_, _, _, rfl⟩⟩
    · by_cases h0 : len = 0
      · subst h0
        exact .inl ⟨rfl, _, _, rfl⟩
      · have hsp := addr_plain (hq 0 (by omega)).1
        obtain ⟨g, off, sp⟩ := a
        simp only at hsp
        subst hsp
        refine .inr ⟨g, off, cap, by simp, fun i hi => ?_⟩
        have hi' : i < len := by simpa using hi
        have hplain : ∀ k, (⟨g, off, none⟩ : Addr).add k = ⟨g, off + k, none⟩ := fun k => by unfold Addr.add; split <;> simp_all
        obtain ⟨h1, h2, _⟩ := hq i hi'
        rw [hplain] at h1 h2
        rw [List.getElem_map, List.getElem_range]
        exact ⟨h1, by rw [Nat.add_assoc]; exact h2⟩

/-- What the parts' bulk bounds. -/
def bulkP : List Pt → Nat
  | [] => 0
  | q :: r => q.t.size + 3 + bulkP r
theorem bulkP_all {H : Type} (l : List Pt) : Rows.uptoBulkAll (l.map (ptD (H := H))) = bulkP l := by
  induction l with
  | nil => rfl
  | cons q r ih =>
    simp only [List.map_cons, Rows.uptoBulkAll, ih, ptD, Rows.uptoBulk, bulkP]
    rw [show q.t.data.toList.length = q.t.size from rfl]
    omega
theorem bulkP_le {H : Type} {l : List Pt} {d : DataW H} (h : (l = [] ∧ d = .nil) ∨ ∃ r, d = .slice (l.map ptD) r) : bulkP l ≤ Rows.uptoBulk d := by
  rcases h with ⟨rfl, rfl⟩ | ⟨r, rfl⟩
  · simp [bulkP]
  · simp only [Rows.uptoBulk, bulkP_all]
    omega
theorem bulkP_len (l : List Pt) : l.length * 3 ≤ bulkP l := by
  induction l with
  | nil => simp
  | cons q r ih => simp only [bulkP, List.length_cons]; omega
theorem bulkP_mem (l : List Pt) (q : Pt) (h : q ∈ l) : q.t.size ≤ bulkP l := by
  induction l with
  | nil => simp at h
  | cons x r ih =>
    rcases List.mem_cons.1 h with rfl | h
    · simp only [bulkP]; omega
    · have := ih h
      simp only [bulkP]
      omega

/-- What the parts' weights bound. -/
theorem weights_all {H : Type} (l : List Pt) (q : Pt) (h : q ∈ l) : q.t.size ∈ DataW.weightsAll Try.prog 48 (l.map (ptD (H := H))) := by
  obtain ⟨f0, f1, hs, _, _, t0, t1⟩ := fld48
  induction l with
  | nil => simp at h
  | cons x r ih =>
    simp only [List.map_cons, DataW.weightsAll, List.mem_append]
    rcases List.mem_cons.1 h with rfl | h
    · left
      simp only [ptD, DataW.weights, hs, List.map_cons, List.map_nil, DataW.weightsEach, List.nil_append, List.append_nil, List.mem_singleton]
      rfl
    · exact .inr (ih h)
theorem parts_sized {H : Type} {l : List Pt} {d : DataW H} (h : (l = [] ∧ d = .nil) ∨ ∃ r, d = .slice (l.map ptD) r) (hs : ∀ n ∈ d.weights Try.prog 22, n ≤ reachBytes) : l.length ≤ 140737488355328 ∧ ∀ q ∈ l, q.t.size ≤ 140737488355328 := by
  rcases h with ⟨rfl, rfl⟩ | ⟨r, rfl⟩
  · simp
  · simp only [DataW.weights, und22] at hs
    have hb : Try.prog.bytesOf 48 = 24 := by kernel_rfl
    refine ⟨?_, fun q hq => ?_⟩
    · have := hs _ List.mem_cons_self
      rw [hb, List.length_map] at this
      simp only [reachBytes] at this
      omega
    · have := hs _ (List.mem_cons_of_mem _ (List.mem_append.2 (.inl (weights_all l q hq))))
      simp only [reachBytes] at this
      omega

end Go.Proofs.Ytbncokfpkkmoiaa
