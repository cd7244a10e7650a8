/- measure: measures held against each other; awake. -/
import Derived.Test.YtgpciekpmdihnaaKMd
import Derived.Laws.StructEq
namespace Go.Proofs.Ytgpciekpmdihnaa
open Go.RowKit

theorem und42 : Try.prog.underlying 42 = some (.struct (Try.prog.fieldsOf 42)) := by kernel_rfl
theorem held42 : Try.prog.stoodInHeld 42 = false := by kernel_rfl
theorem fields42 : (Try.prog.fieldsOf 42).toList.map (fun f => (f.type, f.name, f.offset)) = [(3, "Positions", 0), (3, "Groups", 1), (3, "Least", 2), (3, "Most", 3), (4, "Back", 4), (4, "Bol", 5), (4, "Eol", 6)] := by kernel_rfl

/-- Are two measures alike? -/
def Ms.same (a b : Ms) : Bool := decide (a.pos = b.pos) && (decide (a.groups = b.groups) && (decide (a.least = b.least) && (decide (a.most = b.most) && (a.back == b.back && (a.bol == b.bol && a.eol == b.eol)))))

theorem run_equal_ms (a b : Ms) (w : World) : (Op.equalIn 10000 42 (.agg a.arr) (.agg b.arr)).run Try.prog w = .ok (a.same b) w := by
  rw [run_equalIn_struct w 9999 42 _ _ und42 held42]
  have h := fields42
  generalize (Try.prog.fieldsOf 42).toList = L at h
  obtain ⟨f1, L, rfl, h1, h⟩ := List.map_eq_cons_iff.1 h
  obtain ⟨f2, L, rfl, h2, h⟩ := List.map_eq_cons_iff.1 h
  obtain ⟨f3, L, rfl, h3, h⟩ := List.map_eq_cons_iff.1 h
  obtain ⟨f4, L, rfl, h4, h⟩ := List.map_eq_cons_iff.1 h
  obtain ⟨f5, L, rfl, h5, h⟩ := List.map_eq_cons_iff.1 h
  obtain ⟨f6, L, rfl, h6, h⟩ := List.map_eq_cons_iff.1 h
  obtain ⟨f7, L, rfl, h7, h⟩ := List.map_eq_cons_iff.1 h
  obtain rfl := List.map_eq_nil_iff.1 h
  simp only [Prod.mk.injEq] at h1 h2 h3 h4 h5 h6 h7
  obtain ⟨t1, n1, o1⟩ := h1
  obtain ⟨t2, n2, o2⟩ := h2
  obtain ⟨t3, n3, o3⟩ := h3
  obtain ⟨t4, n4, o4⟩ := h4
  obtain ⟨t5, n5, o5⟩ := h5
  obtain ⟨t6, n6, o6⟩ := h6
  obtain ⟨t7, n7, o7⟩ := h7
  unfold Ms.same
  simp [Op.eqFields, t1, n1, o1, t2, n2, o2, t3, n3, o3, t4, n4, o4, t5, n5, o5, t6, n6, o6, t7, n7, o7, go_sem]
  by_cases c1 : a.pos = b.pos <;> simp [c1]
  by_cases c2 : a.groups = b.groups <;> simp [c2]
  by_cases c3 : a.least = b.least <;> simp [c3]
  by_cases c4 : a.most = b.most <;> simp [c4]
  by_cases c5 : a.back = b.back <;> simp [c5]
  by_cases c6 : a.bol = b.bol <;> simp [c6]
  by_cases c7 : a.eol = b.eol <;> simp [c7]

theorem run_equal_ms7 (p g l m p' g' l' m' : Int) (b o e b' o' e' : Bool) (w : World) : (Op.equalIn 10000 42 (.agg #[.int .i64 p, .int .i64 g, .int .i64 l, .int .i64 m, .bool b, .bool o, .bool e]) (.agg #[.int .i64 p', .int .i64 g', .int .i64 l', .int .i64 m', .bool b', .bool o', .bool e'])).run Try.prog w = .ok ((⟨p, g, l, m, b, o, e⟩ : Ms).same ⟨p', g', l', m', b', o', e'⟩) w := run_equal_ms ⟨p, g, l, m, b, o, e⟩ ⟨p', g', l', m', b', o', e'⟩ w

theorem awake_one : ofM ⟨#[97, 92, 123, 50, 44, 51, 92, 125, 98, 42]⟩ = (⟨4, 0, 2, -1, false, false, false⟩, 0, 0) := by
  have h : parseT ⟨#[97, 92, 123, 50, 44, 51, 92, 125, 98, 42]⟩ = .ok [repT 2 3 (byteT (selfP 97)), repT 0 (-1) (byteT (selfP 98))] := by kernel_rfl
  unfold ofM
  rw [h]
  simp [msF, msT, repT, byteT, Ms.zero, Ms.both, Ms.rep, wrM, sumM, prodM]
  try omega
theorem awake_two : ofM ⟨#[92, 40, 94, 97, 98, 92, 41, 92, 123, 50, 92, 125, 36]⟩ = (⟨4, 1, 4, 4, false, true, true⟩, 0, 0) := by
  have h : parseT ⟨#[92, 40, 94, 97, 98, 92, 41, 92, 123, 50, 92, 125, 36]⟩ = .ok [repT 2 2 (groupT 1 [bolT, byteT (selfP 97), byteT (selfP 98)]), eolT] := by kernel_rfl
  unfold ofM
  rw [h]
  simp [msF, msT, repT, byteT, bolT, eolT, groupT, catT, Ms.zero, Ms.both, Ms.rep, Ms.grp, wrM, sumM, prodM]

set_option maxRecDepth 100000 in
set_option maxHeartbeats 1000000 in
theorem mAwake_any (w : World) (hg : Glob w) : Calls Try.prog 18 #[] w fun e w' => e = .returned (.bool true) ∧ Below w.heap.size w w' := by
  have h1 := fun w hg => mOf_any ⟨#[97, 92, 123, 50, 44, 51, 92, 125, 98, 42]⟩ w hg
  rw [awake_one] at h1
  have h2 := fun w hg => mOf_any ⟨#[92, 40, 94, 97, 98, 92, 41, 92, 123, 50, 92, 125, 36]⟩ w hg
  rw [awake_two] at h2
  have heq := run_equal_ms7
  have HO := hideM (And.intro h1 h2)
  clear h1 h2
  go_enter Try.func18, Try.ntmps18
  go_wp2_with fail
  refine (HO.out.1 w hg).mono ?_
  rintro e w1 ⟨rfl, hB1⟩
  obtain ⟨X, hX⟩ : ∃ X, X = (w1.alloc (.cells #[.int .i64 4, .int .i64 0, .int .i64 2, .int .i64 (-1), .bool false, .bool false, .bool false] 42)).alloc (.cells #[.int .i64 0, .int .i64 0] 30) := ⟨_, rfl⟩
  have hBX : Below w1.heap.size w1 X := by rw [hX]; exact ((Below.refl _ _).alloc (Nat.le_refl _) _).alloc (by rw [World.size_alloc]; omega) _
  have hXs : X.heap.size = w1.heap.size + 1 + 1 := by rw [hX, World.size_alloc, World.size_alloc]
  have x1 : X.heap[w1.heap.size]? = some (.cells #[.int .i64 4, .int .i64 0, .int .i64 2, .int .i64 (-1), .bool false, .bool false, .bool false] 42 (0, 0)) := by
    rw [hX, Below.heap_alloc _ _ _ (by rw [World.size_alloc]; omega)]
    exact heap_alloc_new w1 _
  have x2 : X.heap[w1.heap.size + 1]? = some (.cells #[.int .i64 0, .int .i64 0] 30 (0, 0)) := by
    rw [hX, ← World.size_alloc w1 (.cells #[.int .i64 4, .int .i64 0, .int .i64 2, .int .i64 (-1), .bool false, .bool false, .bool false] 42)]
    exact heap_alloc_new _ _
  have hgX := (hg.below hB1 (Nat.le_refl _)).below hBX (Nat.le_refl _)
  have HX := hideM (And.intro x1 (And.intro x2 (And.intro hXs (below_next hB1 hBX))))
  clear x1 x2 hXs hB1 hBX
  go_wp2_with fail
  rw [← hX]
  clear hX
  refine (HO.out.2 X hgX).mono ?_
  rintro e w2 ⟨rfl, hB2⟩
  have hs2 := hB2.size
  have hsX := HX.out.2.2.1
  obtain ⟨Y, hY⟩ : ∃ Y, Y = (w2.alloc (.cells #[.int .i64 4, .int .i64 1, .int .i64 4, .int .i64 4, .bool false, .bool true, .bool true] 42)).alloc (.cells #[.int .i64 0, .int .i64 0] 30) := ⟨_, rfl⟩
  have hBY : Below w2.heap.size w2 Y := by rw [hY]; exact ((Below.refl _ _).alloc (Nat.le_refl _) _).alloc (by rw [World.size_alloc]; omega) _
  have y1 : Y.heap[w2.heap.size]? = some (.cells #[.int .i64 4, .int .i64 1, .int .i64 4, .int .i64 4, .bool false, .bool true, .bool true] 42 (0, 0)) := by
    rw [hY, Below.heap_alloc _ _ _ (by rw [World.size_alloc]; omega)]
    exact heap_alloc_new w2 _
  have y2 : Y.heap[w2.heap.size + 1]? = some (.cells #[.int .i64 0, .int .i64 0] 30 (0, 0)) := by
    rw [hY, ← World.size_alloc w2 (.cells #[.int .i64 4, .int .i64 1, .int .i64 4, .int .i64 4, .bool false, .bool true, .bool true] 42)]
    exact heap_alloc_new _ _
  have y3 : Y.heap[w1.heap.size]? = some (.cells #[.int .i64 4, .int .i64 0, .int .i64 2, .int .i64 (-1), .bool false, .bool false, .bool false] 42 (0, 0)) := by rw [hBY.block _ (by omega), hB2.block _ (by omega)]; exact HX.out.1
  have y4 : Y.heap[w1.heap.size + 1]? = some (.cells #[.int .i64 0, .int .i64 0] 30 (0, 0)) := by rw [hBY.block _ (by omega), hB2.block _ (by omega)]; exact HX.out.2.1
  have hBf := below_next (below_next HX.out.2.2.2 hB2) hBY
  have a0 : Y.cell? ⟨w2.heap.size, 0, none⟩ = some (.int .i64 4) := by simp [World.cell?, y1]
  have a1 : Y.cell? ⟨w2.heap.size, 1, none⟩ = some (.int .i64 1) := by simp [World.cell?, y1]
  have a2 : Y.cell? ⟨w2.heap.size, 2, none⟩ = some (.int .i64 4) := by simp [World.cell?, y1]
  have a3 : Y.cell? ⟨w2.heap.size, 3, none⟩ = some (.int .i64 4) := by simp [World.cell?, y1]
  have a4 : Y.cell? ⟨w2.heap.size, 4, none⟩ = some (.bool false) := by simp [World.cell?, y1]
  have a5 : Y.cell? ⟨w2.heap.size, 5, none⟩ = some (.bool true) := by simp [World.cell?, y1]
  have a6 : Y.cell? ⟨w2.heap.size, 6, none⟩ = some (.bool true) := by simp [World.cell?, y1]
  have b0 : Y.cell? ⟨w1.heap.size, 0, none⟩ = some (.int .i64 4) := by simp [World.cell?, y3]
  have b1 : Y.cell? ⟨w1.heap.size, 1, none⟩ = some (.int .i64 0) := by simp [World.cell?, y3]
  have b2 : Y.cell? ⟨w1.heap.size, 2, none⟩ = some (.int .i64 2) := by simp [World.cell?, y3]
  have b3 : Y.cell? ⟨w1.heap.size, 3, none⟩ = some (.int .i64 (-1)) := by simp [World.cell?, y3]
  have b4 : Y.cell? ⟨w1.heap.size, 4, none⟩ = some (.bool false) := by simp [World.cell?, y3]
  have b5 : Y.cell? ⟨w1.heap.size, 5, none⟩ = some (.bool false) := by simp [World.cell?, y3]
  have b6 : Y.cell? ⟨w1.heap.size, 6, none⟩ = some (.bool false) := by simp [World.cell?, y3]
  have c0 : Y.cell? ⟨w2.heap.size + 1, 0, none⟩ = some (.int .i64 0) := by simp [World.cell?, y2]
  have d0 : Y.cell? ⟨w1.heap.size + 1, 0, none⟩ = some (.int .i64 0) := by simp [World.cell?, y4]
  have HY := hideM hBf
  clear y1 y2 y3 y4 hBf hBY hB2 hs2 hsX hgX hg
  have e1 : (⟨4, 0, 2, -1, false, false, false⟩ : Ms).same ⟨4, 0, 2, -1, false, false, false⟩ = true := by decide
  have e2 : (⟨4, 1, 4, 4, false, true, true⟩ : Ms).same ⟨4, 1, 4, 4, false, true, true⟩ = true := by decide
  go_upto_region 3 with fail
  rw [← hY]
  clear hY
  go_wp2
  go_ret
  exact ⟨rfl, HY.out⟩
end Go.Proofs.Ytgpciekpmdihnaa

/- MeasureBounds: the walk. -/
namespace Go.Proofs.Ytgpciekpmdihnaa
open Go.RowKit

namespace bounds
/-- The numbers as the law asks them. -/
theorem of_bounds (s : ByteArray) : ((ofM s).2.1 ≠ 0 → (ofM s).1 = .zero) ∧ ((ofM s).2.1 = 0 → OkM (ofM s).1 ∧ (ofM s).1.pos ≤ 256 ∧ 0 ≤ (ofM s).1.groups ∧ (ofM s).1.groups ≤ 9) := by
  unfold ofM
  cases h : parseT s with
  | ok ts => exact ⟨fun h0 => absurd rfl h0, fun _ => parse_measure s ts h⟩
  | error x =>
    obtain ⟨e, p⟩ := x
    exact ⟨fun _ => rfl, fun h0 => absurd h0 (parse_place s e p h).1⟩

set_option maxRecDepth 100000 in
set_option maxHeartbeats 2000000 in
theorem walk (s : ByteArray) (w : World) (hg : Glob w) : Calls Try.prog 7 #[.string s] w fun e w' => e = .returned (.bool true) ∧ Below w.heap.size w w' := by
  have hO := fun w hg => mOf_any s w hg
  obtain ⟨hb1, hb2⟩ := of_bounds s
  obtain ⟨⟨m, e, p⟩, hm⟩ : ∃ x, x = ofM s := ⟨_, rfl⟩
  rw [← hm] at hO hb1 hb2
  simp only at hO hb1 hb2
  clear hm
  have heq := run_equal_ms7
  have HO := hideM (And.intro hO (And.intro hb1 hb2))
  clear hO hb1 hb2
  go_enter Try.func7, Try.ntmps7
  go_wp2_with fail
  refine (mAwake_any w hg).mono ?_
  rintro e' w1 ⟨rfl, hB1⟩
  go_wp2_with fail
  refine (HO.out.1 w1 (hg.below hB1 (Nat.le_refl _))).mono ?_
  rintro e' w2 ⟨rfl, hB2⟩
  go_upto_region 4 with fail
  have hBw := below_next hB1 hB2
  obtain ⟨X, hX⟩ : ∃ X, X = (w2.alloc (.cells m.arr 42)).alloc (.cells #[.int .i64 e, .int .i64 (p : Nat)] 30) := ⟨_, rfl⟩
  have hBX : Below w2.heap.size w2 X := by rw [hX]; exact ((Below.refl _ _).alloc (Nat.le_refl _) _).alloc (by rw [World.size_alloc]; omega) _
  have x1 : X.heap[w2.heap.size]? = some (.cells m.arr 42 (0, 0)) := by
    rw [hX, Below.heap_alloc _ _ _ (by rw [World.size_alloc]; omega)]
    exact heap_alloc_new w2 _
  have x2 : X.heap[w2.heap.size + 1]? = some (.cells #[.int .i64 e, .int .i64 (p : Nat)] 30 (0, 0)) := by
    rw [hX, ← World.size_alloc w2 (.cells m.arr 42)]
    exact heap_alloc_new _ _
  have HB := hideM (below_next hBw hBX)
  rw [← hX]
  clear hX
  have c0 : X.cell? ⟨w2.heap.size, 0, none⟩ = some (.int .i64 m.pos) := by simp [World.cell?, x1]
  have c1 : X.cell? ⟨w2.heap.size, 1, none⟩ = some (.int .i64 m.groups) := by simp [World.cell?, x1]
  have c2 : X.cell? ⟨w2.heap.size, 2, none⟩ = some (.int .i64 m.least) := by simp [World.cell?, x1]
  have c3 : X.cell? ⟨w2.heap.size, 3, none⟩ = some (.int .i64 m.most) := by simp [World.cell?, x1]
  have c4 : X.cell? ⟨w2.heap.size, 4, none⟩ = some (.bool m.back) := by simp [World.cell?, x1]
  have c5 : X.cell? ⟨w2.heap.size, 5, none⟩ = some (.bool m.bol) := by simp [World.cell?, x1]
  have c6 : X.cell? ⟨w2.heap.size, 6, none⟩ = some (.bool m.eol) := by simp [World.cell?, x1]
  have d0 : X.cell? ⟨w2.heap.size + 1, 0, none⟩ = some (.int .i64 e) := by simp [World.cell?, x2]
  clear x1 x2 hBX hBw hB1 hB2 hg
  by_cases he : e = 0
  · subst he
    obtain ⟨⟨k1, k2, k3, k4, k5⟩, k6, k7, k8⟩ := HO.out.2.2 rfl
    clear HO
    have n1 : (m.least < 0) = False := eq_false (by omega)
    have n2 : (m.pos < m.least) = False := eq_false (by omega)
    have n3 : (256 < m.pos) = False := eq_false (by omega)
    have n4 : (m.groups < 0) = False := eq_false (by omega)
    have n5 : (9 < m.groups) = False := eq_false (by omega)
    have n6 : (m.most < -1) = False := eq_false (by omega)
    obtain ⟨mp, mg, ml, mm, mb, mo, me⟩ := m
    simp only at *
    by_cases h0 : 0 ≤ mm
    · have n7 : (mm < ml) = False := eq_false (by have := k5 h0; omega)
      clear k1 k2 k3 k5 k6 k7 k8
      cases mb
      all_goals
        go_wp2
        go_ret
        exact ⟨rfl, HB.out⟩
    · have n0 : (0 ≤ mm) = False := eq_false h0
      clear k1 k2 k3 k5 k6 k7 k8 h0
      cases mb
      all_goals
        go_wp2
        go_ret
        exact ⟨rfl, HB.out⟩
  · have hne : (e != 0) = true := by simpa using he
    have hz := HO.out.2.1 he
    subst hz
    clear HO he
    have hs0 : (⟨0, 0, 0, 0, false, false, false⟩ : Ms).same ⟨0, 0, 0, 0, false, false, false⟩ = true := by decide
    have e1 : (Ms.zero).pos = 0 := rfl
    simp only [Ms.zero] at c0 c1 c2 c3 c4 c5 c6
    go_wp2
    go_ret
    exact ⟨rfl, HB.out⟩
end bounds
end Go.Proofs.Ytgpciekpmdihnaa
