/- bre: Parse, for any text. -/
import Derived.Test.YtgpciekpmdihnaaKDet
import Derived.Test.YtgpciekpmdihnaaKPp
import Derived.Test.YtgpciekpmdihnaaKPu
import Derived.Test.YtgpciekpmdihnaaKFix
import Derived.Laws.StructEq
namespace Go.Proofs.Ytgpciekpmdihnaa
open Go.RowKit
theorem breParse_any (s : ByteArray) (hs : s.size ≤ 1073741824) (w : World) (hg : Glob w) : Calls Try.prog 9 #[.string s] w (ParsePost s w) := by
  by_cases h : s.size ≤ 512
  · exact parse_walk s h w hg
  · refine (parse_long s hs (by omega) w).mono ?_
    rintro e w' ⟨rfl, hB⟩
    exact ⟨hB, .inl ⟨2, 0, by unfold parseT; rw [if_pos (by omega)], rfl⟩⟩
end Go.Proofs.Ytgpciekpmdihnaa
/- bre: texts that are reckoned. -/
namespace Go.Proofs.Ytgpciekpmdihnaa
open Go.RowKit
theorem awake_tree : parseT ⟨#[97, 92, 40, 98, 92, 41, 42]⟩ = .ok [byteT (selfP 97), repT 0 (-1) (groupT 1 [byteT (selfP 98)])] := by kernel_rfl
theorem awake_fault : parseT ⟨#[97, 92, 40]⟩ = .error (10, 1) := by kernel_rfl
def times (l : List Nat) : Nat → List Nat
  | 0 => []
  | n + 1 => times l n ++ l
end Go.Proofs.Ytgpciekpmdihnaa
/- bre: faults held against each other. -/
namespace Go.Proofs.Ytgpciekpmdihnaa
open Go.RowKit
theorem und30 : Try.prog.underlying 30 = some (.struct (Try.prog.fieldsOf 30)) := by kernel_rfl
theorem held30 : Try.prog.stoodInHeld 30 = false := by kernel_rfl
theorem fields30 : (Try.prog.fieldsOf 30).toList.map (fun f => (f.type, f.name, f.offset)) = [(28, "E", 0), (3, "At", 1)] := by kernel_rfl
theorem run_equal_fault (a b c d : Int) (w : World) : (Op.equalIn 10000 30 (.agg #[.int .i64 a, .int .i64 b]) (.agg #[.int .i64 c, .int .i64 d])).run Try.prog w = .ok (decide (a = c) && decide (b = d)) w := by
  rw [run_equalIn_struct w 9999 30 _ _ und30 held30]
  have h := fields30
  generalize (Try.prog.fieldsOf 30).toList = L at h
  obtain ⟨f1, L1, rfl, h1, h2⟩ := List.map_eq_cons_iff.1 h
  obtain ⟨f2, L2, rfl, h3, h4⟩ := List.map_eq_cons_iff.1 h2
  obtain rfl := List.map_eq_nil_iff.1 h4
  simp only [Prod.mk.injEq] at h1 h3
  obtain ⟨t1, n1, o1⟩ := h1
  obtain ⟨t2, n2, o2⟩ := h3
  simp [Op.eqFields, t1, n1, o1, t2, n2, o2, go_sem]
  by_cases ha : a = c <;> by_cases hb : b = d <;> simp [ha, hb]
end Go.Proofs.Ytgpciekpmdihnaa
/- bre: calls whose answers are known: awake. -/
namespace Go.Proofs.Ytgpciekpmdihnaa
open Go.RowKit
theorem kids_at {W : World} {ok : Nat → Prop} {v : Value} {ts : List Tr} (h : Kids W ok v ts) {i : Nat} {t : Tr} (hi : ts[i]? = some t) :
    ∃ g c u, v = .slice (some ⟨g, 0, none⟩) ts.length c ∧ ok g ∧ g < W.heap.size ∧ (∀ (k : Nat) (x : Value), (nodeV t u)[k]? = some x → W.cell? ⟨g, i * 9 + k, none⟩ = some x ∧ W.frozen? ⟨g, i * 9 + k, none⟩ = false) ∧ Kids W ok u t.kids := by
  cases h with
  | mk _ _ vs hl own hok hk =>
    have hlt := (List.getElem?_eq_some_iff.1 hi).1
    obtain ⟨g, c, rfl, _, hg⟩ := own.form (by omega)
    have hv : i < vs.length := by omega
    refine ⟨g, c, vs[i], rfl, hok g rfl, hg, fun k x hx => ?_, hk i t _ hi (List.getElem?_eq_getElem hv)⟩
    have hk9 : k < 9 := (List.getElem?_eq_some_iff.1 hx).1
    exact owns_cell own _ _ ((rowV_get t vs[i] k hk9 ts vs i hi (List.getElem?_eq_getElem hv)).trans hx)
theorem parse_ok (s : ByteArray) (hs : s.size ≤ 1073741824) (ts : List Tr) (ht : parseT s = .ok ts) (w : World) (hg : Glob w) :
    Calls Try.prog 9 #[.string s] w fun e w' => Below w.heap.size w w' ∧ ∃ (a : Option Addr) (n c : Nat), e = .returned (.tuple #[.agg #[.int .i64 0, .int .u64 0, .int .u64 0, .int .u64 0, .int .u64 0, .int .i64 0, .int .i64 0, .int .i64 0, .slice a n c], .agg #[.int .i64 0, .int .i64 0]]) ∧ Kids w' (fun g => w.heap.size ≤ g) (.slice a n c) ts := by
  refine (breParse_any s hs w hg).mono ?_
  rintro e w' ⟨hB, ⟨er, p, h, _⟩ | ⟨ts', a, n, c, h, he, hk⟩⟩
  · rw [ht] at h; cases h
  · rw [ht] at h
    cases h
    exact ⟨hB, a, n, c, he, hk⟩
theorem parse_err (s : ByteArray) (hs : s.size ≤ 1073741824) (er : Int) (p : Nat) (ht : parseT s = .error (er, p)) (w : World) (hg : Glob w) :
    Calls Try.prog 9 #[.string s] w fun e w' => e = .returned (.tuple #[.agg #[.int .i64 0, .int .u64 0, .int .u64 0, .int .u64 0, .int .u64 0, .int .i64 0, .int .i64 0, .int .i64 0, .slice none 0 0], .agg #[.int .i64 er, .int .i64 (p : Nat)]]) ∧ Below w.heap.size w w' := by
  refine (breParse_any s hs w hg).mono ?_
  rintro e w' ⟨hB, ⟨er', p', h, he⟩ | ⟨ts', a, n, c, h, _⟩⟩
  · rw [ht] at h
    cases h
    exact ⟨he, hB⟩
  · rw [ht] at h; cases h
theorem below_next {a b c : World} (h : Below a.heap.size a b) (k : Below b.heap.size b c) : Below a.heap.size a c := h.trans (k.mono h.size)
set_option maxRecDepth 100000 in
set_option maxHeartbeats 1000000 in
theorem awake_any (w : World) (hg : Glob w) : Calls Try.prog 11 #[] w fun e w' => e = .returned (.bool true) ∧ Below w.heap.size w w' := by
  go_enter Try.func11, Try.ntmps11
  go_wp2_with fail
  refine (parse_ok _ (by decide) _ awake_tree w hg).mono ?_
  rintro e w1 ⟨hB1, a, n, c, rfl, hk⟩
  obtain ⟨g, c0, u0, he, _, hgl, q0, _⟩ := kids_at hk (i := 0) rfl
  obtain ⟨g', c1, u1, he', _, _, q1, _⟩ := kids_at hk (i := 1) rfl
  obtain ⟨rfl, rfl, rfl⟩ : a = some ⟨g, 0, none⟩ ∧ n = 2 ∧ c = c0 := by
    injection he with x y z
    exact ⟨x, y, z⟩
  obtain rfl : g = g' := by
    injection he' with x y z
    injection x with x
    injection x with x
  clear he he' hk
  have q00 := (q0 0 _ rfl).1
  have q10 := (q1 0 _ rfl).1
  have q16 := (q1 6 _ rfl).1
  clear q0 q1
  have hgw1 := hg.below hB1 (Nat.le_refl _)
  obtain ⟨X, hX⟩ : ∃ X, X = (w1.alloc (.cells #[.int .i64 0, .int .u64 0, .int .u64 0, .int .u64 0, .int .u64 0, .int .i64 0, .int .i64 0, .int .i64 0, .slice (some ⟨g, 0, none⟩) 2 c] 27)).alloc (.cells #[.int .i64 0, .int .i64 0] 30) := ⟨_, rfl⟩
  have hBX : Below w1.heap.size w1 X := by rw [hX]; exact ((Below.refl _ _).alloc (Nat.le_refl _) _).alloc (by rw [World.size_alloc]; omega) _
  have hgX := hgw1.below hBX (Nat.le_refl _)
  have x5 : X.cell? ⟨w1.heap.size, 8, none⟩ = some (.slice (some ⟨g, 0, none⟩) 2 c) := by
    rw [hX, World.cell?_of_block (a := ⟨w1.heap.size, 8, none⟩) (Below.heap_alloc _ _ w1.heap.size (by rw [World.size_alloc]; omega))]
    exact (new_cell w1 _ 27 _ rfl 8 _ rfl).1
  have xf0 : X.cell? ⟨w1.heap.size + 1, 0, none⟩ = some (.int .i64 0) := by
    rw [hX]
    exact (new_cell (w1.alloc _) _ 30 _ (World.size_alloc _ _) 0 _ rfl).1
  have xf1 : X.cell? ⟨w1.heap.size + 1, 1, none⟩ = some (.int .i64 0) := by
    rw [hX]
    exact (new_cell (w1.alloc _) _ 30 _ (World.size_alloc _ _) 1 _ rfl).1
  have hXs : X.heap.size = w1.heap.size + 2 := by rw [hX, World.size_alloc, World.size_alloc]
  go_wp2_with fail
  rw [← hX]
  refine (parse_err _ (by decide) _ _ awake_fault X hgX).mono ?_
  rintro e w2 ⟨rfl, hB2⟩
  have heq := run_equal_fault
  have b2 : ∀ b, b < X.heap.size → w2.heap[b]? = X.heap[b]? := fun b hb => hB2.block b hb
  have bA : ∀ (o1 o2 : Obj) (b : Nat), b < X.heap.size → ((w2.alloc o1).alloc o2).heap[b]? = X.heap[b]? := fun o1 o2 b hb => by
    have := hB2.size
    rw [Below.heap_alloc _ _ _ (by rw [World.size_alloc]; omega), Below.heap_alloc _ _ _ (by omega)]
    exact b2 b hb
  have gX : X.heap[g]? = w1.heap[g]? := hBX.block g hgl
  have y5 := fun o1 o2 => (World.cell?_of_block (a := ⟨w1.heap.size, 8, none⟩) (bA o1 o2 w1.heap.size (by omega))).trans x5
  have yf0 := fun o1 o2 => (World.cell?_of_block (a := ⟨w1.heap.size + 1, 0, none⟩) (bA o1 o2 (w1.heap.size + 1) (by omega))).trans xf0
  have yf1 := fun o1 o2 => (World.cell?_of_block (a := ⟨w1.heap.size + 1, 1, none⟩) (bA o1 o2 (w1.heap.size + 1) (by omega))).trans xf1
  have t0 : ∀ o1 o2, ((w2.alloc o1).alloc o2).cell? ⟨g, 0, none⟩ = some (.int .i64 1) := fun o1 o2 => (World.cell?_of_block (a := ⟨g, 0, none⟩) ((bA o1 o2 g (by omega)).trans gX)).trans q00
  have t9 : ∀ o1 o2, ((w2.alloc o1).alloc o2).cell? ⟨g, 9, none⟩ = some (.int .i64 5) := fun o1 o2 => (World.cell?_of_block (a := ⟨g, 9, none⟩) ((bA o1 o2 g (by omega)).trans gX)).trans q10
  have t15 : ∀ o1 o2, ((w2.alloc o1).alloc o2).cell? ⟨g, 15, none⟩ = some (.int .i64 (-1)) := fun o1 o2 => (World.cell?_of_block (a := ⟨g, 15, none⟩) ((bA o1 o2 g (by omega)).trans gX)).trans q16
  have hBf : Below w.heap.size w w2 := below_next (below_next hB1 hBX) hB2
  have HBf := hideT hBf
  clear hBf hB2 b2 bA gX x5 xf0 xf1 q00 q10 q16 hX hBX hXs hgX hgw1 hB1 hgl hg
  go_wp2
  go_ret
  exact ⟨rfl, (HBf.out.alloc HBf.out.size _).alloc (by have := HBf.out.size; rw [World.size_alloc]; omega) _⟩
end Go.Proofs.Ytgpciekpmdihnaa
