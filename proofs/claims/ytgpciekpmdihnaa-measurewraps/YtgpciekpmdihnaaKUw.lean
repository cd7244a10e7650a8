/- MeasureWraps: the numbers. -/
import Derived.Test.YtgpciekpmdihnaaKMd
import Derived.Test.YtgpciekpmdihnaaKUx
namespace Go.Proofs.Ytgpciekpmdihnaa
open Go.RowKit
theorem ms_wrap (d k : Nat) (ts : List Tr) : msF .zero [groupT d (hgL k ts)] = (msF .zero ts).grp := by rw [msF_one, msT_group, ms_hgL]
theorem ms_wrapN (lo hi : Int) (d k : Nat) (ts : List Tr) : msF .zero [repT lo hi (groupT d (hgL k ts))] = (msF .zero ts).grp.rep lo hi := by rw [msF_one, msT_rep, msT_group, ms_hgL]
theorem ms_pos {s : ByteArray} {ts : List Tr} (h : parseT s = .ok ts) : (msF .zero ts).pos = posL ts := by
  obtain ⟨s', hs⟩ := parse_shapes s ts h
  have := (ms_ok _ _ _ hs).2.1
  rw [msT_cat, pos_cat] at this
  exact this
theorem of_ok {s : ByteArray} {ts : List Tr} (h : parseT s = .ok ts) : ofM s = (msF .zero ts, 0, 0) := by
  unfold ofM
  rw [h]
theorem of_err {s : ByteArray} {e : Int} {p : Nat} (h : parseT s = .error (e, p)) : ofM s = (.zero, e, p) := by
  unfold ofM
  rw [h]
theorem of_wraps (s : ByteArray) (k : Nat) (hk : k < 5) : (ofM s).2.1 = 0 → (ofM s).1.back = false → (ofM s).1.groups ≤ 8 → s.size ≤ 490 → FitM (ofM s).1 ∧ ofM (brk1 s) = ((ofM s).1.grp, 0, 0) ∧ ((∃ p, ofM (brkN s k) = (.zero, 13, p) ∧ (ofM s).1.pos * k > 256) ∨ ofM (brkN s k) = ((ofM s).1.grp.rep k k, 0, 0)) := by
  intro h0 hb hg hs
  cases hp : parseT s with
  | error x =>
    obtain ⟨e, p⟩ := x
    rw [of_err hp] at h0
    exact absurd h0 (parse_place s e p hp).1
  | ok ts =>
    rw [of_ok hp] at hb hg ⊢
    obtain ⟨m1, m2, m3⟩ := parse_measure s ts hp
    refine ⟨fit_of m1 m2 m3, ?_, ?_⟩
    · rw [of_ok (wrap_one hp hb hg (by omega)), ms_wrap]
    · rcases wrap_times hk hp hb hg (by omega) with ⟨c, p, h⟩ | h
      · exact .inl ⟨p, of_err h, by rw [ms_pos hp]; exact c⟩
      · exact .inr (by rw [of_ok h, ms_wrapN])
end Go.Proofs.Ytgpciekpmdihnaa
/- MeasureWraps: the walk. -/
namespace Go.Proofs.Ytgpciekpmdihnaa
open Go.RowKit
namespace wraps
set_option maxRecDepth 100000 in
set_option maxHeartbeats 4000000 in
theorem walk_err (s : ByteArray) (z : Int) (hz : 0 ≤ z ∧ z ≤ 255) {mp mg ml mt : Int} {mb mo me : Bool} {er : Int} {p : Nat} (hm : ofM s = (⟨mp, mg, ml, mt, mb, mo, me⟩, er, p)) (he : er ≠ 0) (w : World) (hg : Glob w) : Calls Try.prog 8 #[.string s, .int .u8 z] w fun e w' => e = .returned (.bool true) ∧ Below w.heap.size w w' := by
  have hne : (er != 0) = true := by rw [bne_iff_ne]; exact he
  have hO := fun w hg => mOf_any s w hg
  rw [hm] at hO
  simp only at hO
  have kz : IntKind.u8.wrap (z.tmod 5) = ((z.toNat % 5 : Nat) : Int) := by
    rw [Int.tmod_eq_emod_of_nonneg hz.1]
    show (z % 5) % 256 = _
    omega
  have kz2 : IntKind.i64.wrap ((z.toNat % 5 : Nat) : Int) = ((z.toNat % 5 : Nat) : Int) := by rw [IntKind.wrap_i64]; omega
  have k5 : z.toNat % 5 < 5 := Nat.mod_lt _ (by omega)
  generalize z.toNat % 5 = k at *
  have HO := hideM hO
  clear hO
  go_enter Try.func8, Try.ntmps8
  go_wp2_with fail
  refine (mAwake_any w hg).mono ?_
  rintro e' w0 ⟨rfl, hB0⟩
  go_wp2_with fail
  refine (HO.out w0 (hg.below hB0 (Nat.le_refl _))).mono ?_
  rintro e' w1 ⟨rfl, hB1⟩
  have hBw := below_next hB0 hB1
  obtain ⟨X, hX⟩ : ∃ X, X = (w1.alloc (.cells #[.int .i64 mp, .int .i64 mg, .int .i64 ml, .int .i64 mt, .bool mb, .bool mo, .bool me] 42)).alloc (.cells #[.int .i64 er, .int .i64 (p : Nat)] 30) := ⟨_, rfl⟩
  have hBX : Below w1.heap.size w1 X := by rw [hX]; exact ((Below.refl _ _).alloc (Nat.le_refl _) _).alloc (by rw [World.size_alloc]; omega) _
  have x1 : X.heap[w1.heap.size]? = some (.cells #[.int .i64 mp, .int .i64 mg, .int .i64 ml, .int .i64 mt, .bool mb, .bool mo, .bool me] 42 (0, 0)) := by
    rw [hX, Below.heap_alloc _ _ _ (by rw [World.size_alloc]; omega)]
    exact heap_alloc_new w1 _
  have x2 : X.heap[w1.heap.size + 1]? = some (.cells #[.int .i64 er, .int .i64 (p : Nat)] 30 (0, 0)) := by
    rw [hX, ← World.size_alloc w1 (.cells #[.int .i64 mp, .int .i64 mg, .int .i64 ml, .int .i64 mt, .bool mb, .bool mo, .bool me] 42)]
    exact heap_alloc_new _ _
  have hsX : X.heap.size = w1.heap.size + 1 + 1 := by rw [hX, World.size_alloc, World.size_alloc]
  have hBwX := below_next hBw hBX
  have c0 : X.cell? ⟨w1.heap.size, 0, none⟩ = some (.int .i64 mp) := by simp [World.cell?, x1]
  have c1 : X.cell? ⟨w1.heap.size, 1, none⟩ = some (.int .i64 mg) := by simp [World.cell?, x1]
  have c2 : X.cell? ⟨w1.heap.size, 2, none⟩ = some (.int .i64 ml) := by simp [World.cell?, x1]
  have c3 : X.cell? ⟨w1.heap.size, 3, none⟩ = some (.int .i64 mt) := by simp [World.cell?, x1]
  have c4 : X.cell? ⟨w1.heap.size, 4, none⟩ = some (.bool mb) := by simp [World.cell?, x1]
  have c5 : X.cell? ⟨w1.heap.size, 5, none⟩ = some (.bool mo) := by simp [World.cell?, x1]
  have c6 : X.cell? ⟨w1.heap.size, 6, none⟩ = some (.bool me) := by simp [World.cell?, x1]
  have d0 : X.cell? ⟨w1.heap.size + 1, 0, none⟩ = some (.int .i64 er) := by simp [World.cell?, x2]
  have HE := hideM hBwX
  rw [hX] at HE d0 c0 c1 c2 c3 c4 c5 c6
  clear hBwX hBX x1 x2 hsX hBw hB1 hB0 hX HO
  go_wp2
  go_ret
  exact ⟨rfl, HE.out⟩
set_option maxRecDepth 100000 in
set_option maxHeartbeats 4000000 in
theorem walk_back (s : ByteArray) (z : Int) (hz : 0 ≤ z ∧ z ≤ 255) {mp mg ml mt : Int} {mo me : Bool} {p : Nat} (hm : ofM s = (⟨mp, mg, ml, mt, true, mo, me⟩, 0, p))  (w : World) (hg : Glob w) : Calls Try.prog 8 #[.string s, .int .u8 z] w fun e w' => e = .returned (.bool true) ∧ Below w.heap.size w w' := by
  have hO := fun w hg => mOf_any s w hg
  rw [hm] at hO
  simp only at hO
  have kz : IntKind.u8.wrap (z.tmod 5) = ((z.toNat % 5 : Nat) : Int) := by
    rw [Int.tmod_eq_emod_of_nonneg hz.1]
    show (z % 5) % 256 = _
    omega
  have kz2 : IntKind.i64.wrap ((z.toNat % 5 : Nat) : Int) = ((z.toNat % 5 : Nat) : Int) := by rw [IntKind.wrap_i64]; omega
  have k5 : z.toNat % 5 < 5 := Nat.mod_lt _ (by omega)
  generalize z.toNat % 5 = k at *
  have HO := hideM hO
  clear hO
  go_enter Try.func8, Try.ntmps8
  go_wp2_with fail
  refine (mAwake_any w hg).mono ?_
  rintro e' w0 ⟨rfl, hB0⟩
  go_wp2_with fail
  refine (HO.out w0 (hg.below hB0 (Nat.le_refl _))).mono ?_
  rintro e' w1 ⟨rfl, hB1⟩
  have hBw := below_next hB0 hB1
  obtain ⟨X, hX⟩ : ∃ X, X = (w1.alloc (.cells #[.int .i64 mp, .int .i64 mg, .int .i64 ml, .int .i64 mt, .bool true, .bool mo, .bool me] 42)).alloc (.cells #[.int .i64 0, .int .i64 (p : Nat)] 30) := ⟨_, rfl⟩
  have hBX : Below w1.heap.size w1 X := by rw [hX]; exact ((Below.refl _ _).alloc (Nat.le_refl _) _).alloc (by rw [World.size_alloc]; omega) _
  have x1 : X.heap[w1.heap.size]? = some (.cells #[.int .i64 mp, .int .i64 mg, .int .i64 ml, .int .i64 mt, .bool true, .bool mo, .bool me] 42 (0, 0)) := by
    rw [hX, Below.heap_alloc _ _ _ (by rw [World.size_alloc]; omega)]
    exact heap_alloc_new w1 _
  have x2 : X.heap[w1.heap.size + 1]? = some (.cells #[.int .i64 0, .int .i64 (p : Nat)] 30 (0, 0)) := by
    rw [hX, ← World.size_alloc w1 (.cells #[.int .i64 mp, .int .i64 mg, .int .i64 ml, .int .i64 mt, .bool true, .bool mo, .bool me] 42)]
    exact heap_alloc_new _ _
  have hsX : X.heap.size = w1.heap.size + 1 + 1 := by rw [hX, World.size_alloc, World.size_alloc]
  have hBwX := below_next hBw hBX
  have c0 : X.cell? ⟨w1.heap.size, 0, none⟩ = some (.int .i64 mp) := by simp [World.cell?, x1]
  have c1 : X.cell? ⟨w1.heap.size, 1, none⟩ = some (.int .i64 mg) := by simp [World.cell?, x1]
  have c2 : X.cell? ⟨w1.heap.size, 2, none⟩ = some (.int .i64 ml) := by simp [World.cell?, x1]
  have c3 : X.cell? ⟨w1.heap.size, 3, none⟩ = some (.int .i64 mt) := by simp [World.cell?, x1]
  have c4 : X.cell? ⟨w1.heap.size, 4, none⟩ = some (.bool true) := by simp [World.cell?, x1]
  have c5 : X.cell? ⟨w1.heap.size, 5, none⟩ = some (.bool mo) := by simp [World.cell?, x1]
  have c6 : X.cell? ⟨w1.heap.size, 6, none⟩ = some (.bool me) := by simp [World.cell?, x1]
  have d0 : X.cell? ⟨w1.heap.size + 1, 0, none⟩ = some (.int .i64 0) := by simp [World.cell?, x2]
  have HE := hideM hBwX
  rw [hX] at HE d0 c0 c1 c2 c3 c4 c5 c6
  clear hBwX hBX x1 x2 hsX hBw hB1 hB0 hX HO
  go_wp2
  go_ret
  exact ⟨rfl, HE.out⟩
set_option maxRecDepth 100000 in
set_option maxHeartbeats 4000000 in
theorem walk_groups (s : ByteArray) (z : Int) (hz : 0 ≤ z ∧ z ≤ 255) {mp mg ml mt : Int} {mo me : Bool} {p : Nat} (hm : ofM s = (⟨mp, mg, ml, mt, false, mo, me⟩, 0, p)) (h8 : 8 < mg) (w : World) (hg : Glob w) : Calls Try.prog 8 #[.string s, .int .u8 z] w fun e w' => e = .returned (.bool true) ∧ Below w.heap.size w w' := by
  have hO := fun w hg => mOf_any s w hg
  rw [hm] at hO
  simp only at hO
  have kz : IntKind.u8.wrap (z.tmod 5) = ((z.toNat % 5 : Nat) : Int) := by
    rw [Int.tmod_eq_emod_of_nonneg hz.1]
    show (z % 5) % 256 = _
    omega
  have kz2 : IntKind.i64.wrap ((z.toNat % 5 : Nat) : Int) = ((z.toNat % 5 : Nat) : Int) := by rw [IntKind.wrap_i64]; omega
  have k5 : z.toNat % 5 < 5 := Nat.mod_lt _ (by omega)
  generalize z.toNat % 5 = k at *
  have HO := hideM hO
  clear hO
  go_enter Try.func8, Try.ntmps8
  go_wp2_with fail
  refine (mAwake_any w hg).mono ?_
  rintro e' w0 ⟨rfl, hB0⟩
  go_wp2_with fail
  refine (HO.out w0 (hg.below hB0 (Nat.le_refl _))).mono ?_
  rintro e' w1 ⟨rfl, hB1⟩
  have hBw := below_next hB0 hB1
  obtain ⟨X, hX⟩ : ∃ X, X = (w1.alloc (.cells #[.int .i64 mp, .int .i64 mg, .int .i64 ml, .int .i64 mt, .bool false, .bool mo, .bool me] 42)).alloc (.cells #[.int .i64 0, .int .i64 (p : Nat)] 30) := ⟨_, rfl⟩
  have hBX : Below w1.heap.size w1 X := by rw [hX]; exact ((Below.refl _ _).alloc (Nat.le_refl _) _).alloc (by rw [World.size_alloc]; omega) _
  have x1 : X.heap[w1.heap.size]? = some (.cells #[.int .i64 mp, .int .i64 mg, .int .i64 ml, .int .i64 mt, .bool false, .bool mo, .bool me] 42 (0, 0)) := by
    rw [hX, Below.heap_alloc _ _ _ (by rw [World.size_alloc]; omega)]
    exact heap_alloc_new w1 _
  have x2 : X.heap[w1.heap.size + 1]? = some (.cells #[.int .i64 0, .int .i64 (p : Nat)] 30 (0, 0)) := by
    rw [hX, ← World.size_alloc w1 (.cells #[.int .i64 mp, .int .i64 mg, .int .i64 ml, .int .i64 mt, .bool false, .bool mo, .bool me] 42)]
    exact heap_alloc_new _ _
  have hsX : X.heap.size = w1.heap.size + 1 + 1 := by rw [hX, World.size_alloc, World.size_alloc]
  have hBwX := below_next hBw hBX
  have c0 : X.cell? ⟨w1.heap.size, 0, none⟩ = some (.int .i64 mp) := by simp [World.cell?, x1]
  have c1 : X.cell? ⟨w1.heap.size, 1, none⟩ = some (.int .i64 mg) := by simp [World.cell?, x1]
  have c2 : X.cell? ⟨w1.heap.size, 2, none⟩ = some (.int .i64 ml) := by simp [World.cell?, x1]
  have c3 : X.cell? ⟨w1.heap.size, 3, none⟩ = some (.int .i64 mt) := by simp [World.cell?, x1]
  have c4 : X.cell? ⟨w1.heap.size, 4, none⟩ = some (.bool false) := by simp [World.cell?, x1]
  have c5 : X.cell? ⟨w1.heap.size, 5, none⟩ = some (.bool mo) := by simp [World.cell?, x1]
  have c6 : X.cell? ⟨w1.heap.size, 6, none⟩ = some (.bool me) := by simp [World.cell?, x1]
  have d0 : X.cell? ⟨w1.heap.size + 1, 0, none⟩ = some (.int .i64 0) := by simp [World.cell?, x2]
  have HE := hideM hBwX
  rw [hX] at HE d0 c0 c1 c2 c3 c4 c5 c6
  clear hBwX hBX x1 x2 hsX hBw hB1 hB0 hX HO
  go_wp2
  go_ret
  exact ⟨rfl, HE.out⟩
set_option maxRecDepth 100000 in
set_option maxHeartbeats 4000000 in
theorem walk_long (s : ByteArray) (z : Int) (hz : 0 ≤ z ∧ z ≤ 255) {mp mg ml mt : Int} {mo me : Bool} {p : Nat} (hm : ofM s = (⟨mp, mg, ml, mt, false, mo, me⟩, 0, p)) (h8 : ¬ 8 < mg) (hl : 490 < (s.size : Int)) (w : World) (hg : Glob w) : Calls Try.prog 8 #[.string s, .int .u8 z] w fun e w' => e = .returned (.bool true) ∧ Below w.heap.size w w' := by
  have hO := fun w hg => mOf_any s w hg
  rw [hm] at hO
  simp only at hO
  have kz : IntKind.u8.wrap (z.tmod 5) = ((z.toNat % 5 : Nat) : Int) := by
    rw [Int.tmod_eq_emod_of_nonneg hz.1]
    show (z % 5) % 256 = _
    omega
  have kz2 : IntKind.i64.wrap ((z.toNat % 5 : Nat) : Int) = ((z.toNat % 5 : Nat) : Int) := by rw [IntKind.wrap_i64]; omega
  have k5 : z.toNat % 5 < 5 := Nat.mod_lt _ (by omega)
  generalize z.toNat % 5 = k at *
  have HO := hideM hO
  clear hO
  go_enter Try.func8, Try.ntmps8
  go_wp2_with fail
  refine (mAwake_any w hg).mono ?_
  rintro e' w0 ⟨rfl, hB0⟩
  go_wp2_with fail
  refine (HO.out w0 (hg.below hB0 (Nat.le_refl _))).mono ?_
  rintro e' w1 ⟨rfl, hB1⟩
  have hBw := below_next hB0 hB1
  obtain ⟨X, hX⟩ : ∃ X, X = (w1.alloc (.cells #[.int .i64 mp, .int .i64 mg, .int .i64 ml, .int .i64 mt, .bool false, .bool mo, .bool me] 42)).alloc (.cells #[.int .i64 0, .int .i64 (p : Nat)] 30) := ⟨_, rfl⟩
  have hBX : Below w1.heap.size w1 X := by rw [hX]; exact ((Below.refl _ _).alloc (Nat.le_refl _) _).alloc (by rw [World.size_alloc]; omega) _
  have x1 : X.heap[w1.heap.size]? = some (.cells #[.int .i64 mp, .int .i64 mg, .int .i64 ml, .int .i64 mt, .bool false, .bool mo, .bool me] 42 (0, 0)) := by
    rw [hX, Below.heap_alloc _ _ _ (by rw [World.size_alloc]; omega)]
    exact heap_alloc_new w1 _
  have x2 : X.heap[w1.heap.size + 1]? = some (.cells #[.int .i64 0, .int .i64 (p : Nat)] 30 (0, 0)) := by
    rw [hX, ← World.size_alloc w1 (.cells #[.int .i64 mp, .int .i64 mg, .int .i64 ml, .int .i64 mt, .bool false, .bool mo, .bool me] 42)]
    exact heap_alloc_new _ _
  have hsX : X.heap.size = w1.heap.size + 1 + 1 := by rw [hX, World.size_alloc, World.size_alloc]
  have hBwX := below_next hBw hBX
  have c0 : X.cell? ⟨w1.heap.size, 0, none⟩ = some (.int .i64 mp) := by simp [World.cell?, x1]
  have c1 : X.cell? ⟨w1.heap.size, 1, none⟩ = some (.int .i64 mg) := by simp [World.cell?, x1]
  have c2 : X.cell? ⟨w1.heap.size, 2, none⟩ = some (.int .i64 ml) := by simp [World.cell?, x1]
  have c3 : X.cell? ⟨w1.heap.size, 3, none⟩ = some (.int .i64 mt) := by simp [World.cell?, x1]
  have c4 : X.cell? ⟨w1.heap.size, 4, none⟩ = some (.bool false) := by simp [World.cell?, x1]
  have c5 : X.cell? ⟨w1.heap.size, 5, none⟩ = some (.bool mo) := by simp [World.cell?, x1]
  have c6 : X.cell? ⟨w1.heap.size, 6, none⟩ = some (.bool me) := by simp [World.cell?, x1]
  have d0 : X.cell? ⟨w1.heap.size + 1, 0, none⟩ = some (.int .i64 0) := by simp [World.cell?, x2]
  have HE := hideM hBwX
  rw [hX] at HE d0 c0 c1 c2 c3 c4 c5 c6
  clear hBwX hBX x1 x2 hsX hBw hB1 hB0 hX HO
  go_wp2
  go_ret
  exact ⟨rfl, HE.out⟩
end wraps
end Go.Proofs.Ytgpciekpmdihnaa
/- MeasureWraps: the walk. -/
namespace Go.Proofs.Ytgpciekpmdihnaa
open Go.RowKit
namespace wraps
theorem digit_eq (k : Nat) (hk : k < 5) : (48 + UInt8.ofNat k : UInt8) = UInt8.ofNat (48 + k) := by
  rcases (show k = 0 ∨ k = 1 ∨ k = 2 ∨ k = 3 ∨ k = 4 by omega) with e | e | e | e | e <;> subst e <;> rfl
set_option maxRecDepth 100000 in
set_option maxHeartbeats 1000000 in
theorem walk_big (s : ByteArray) (z : Int) (hz : 0 ≤ z ∧ z ≤ 255) {mp mg ml mt : Int} {mo me : Bool} {p : Nat} (hm : ofM s = (⟨mp, mg, ml, mt, false, mo, me⟩, 0, p)) (h8 : ¬ 8 < mg) (hl : ¬ 490 < (s.size : Int)) (hf : FitM ⟨mp, mg, ml, mt, false, mo, me⟩) (h1 : ofM (brk1 s) = (⟨mp, mg + 1, ml, mt, false, mo, me⟩, 0, 0)) {k3 : Nat} (hk3 : (k3 : Int) = z % 5) {q : Nat} (h3 : ofM (brkN s k3) = (.zero, 13, q)) (hbig : mp * k3 > 256) (w : World) (hg : Glob w) : Calls Try.prog 8 #[.string s, .int .u8 z] w fun e w' => e = .returned (.bool true) ∧ Below w.heap.size w w' := by
  have hO1 := fun w hg => mOf_any (brk1 s) w hg
  rw [h1] at hO1
  simp only at hO1
  obtain ⟨⟨a1, a2⟩, ⟨a3, a4⟩, ⟨a5, a6⟩, ⟨a7, a8⟩⟩ := hf
  simp only at a1 a2 a3 a4 a5 a6 a7 a8
  have kg : IntKind.i64.wrap (mg + 1) = mg + 1 := by rw [IntKind.wrap_i64]; omega
  have kg2 : IntKind.i64.wrap (mg + 1 - 1) = mg := by rw [IntKind.wrap_i64]; omega
  have heq := run_equal_ms7
  have hsame : (⟨mp, mg, ml, mt, false, mo, me⟩ : Ms).same ⟨mp, mg, ml, mt, false, mo, me⟩ = true := by simp [Ms.same]
  have hO3 := fun w hg => mOf_any (brkN s k3) w hg
  rw [h3] at hO3
  simp only [Ms.zero] at hO3
  obtain rfl : z.toNat % 5 = k3 := by omega
  have kb : IntKind.i64.wrap (((z.toNat % 5 : Nat) : Int) * mp) = ((z.toNat % 5 : Nat) : Int) * mp := by
    have h5 : z.toNat % 5 < 5 := Nat.mod_lt _ (by omega)
    have hb := hbig
    generalize z.toNat % 5 = j at h5 hb ⊢
    rcases (show j = 0 ∨ j = 1 ∨ j = 2 ∨ j = 3 ∨ j = 4 by omega) with e | e | e | e | e <;> subst e <;> rw [IntKind.wrap_i64] <;> omega
  have kb2 : 256 < ((z.toNat % 5 : Nat) : Int) * mp := by rw [Int.mul_comm]; exact hbig
  have HO3 := hideM hO3
  clear hO3 hk3 h3 hbig
  have HO1 := hideM hO1
  clear hO1
  have hO := fun w hg => mOf_any s w hg
  rw [hm] at hO
  simp only at hO
  have kz : IntKind.u8.wrap (z.tmod 5) = ((z.toNat % 5 : Nat) : Int) := by
    rw [Int.tmod_eq_emod_of_nonneg hz.1]
    show (z % 5) % 256 = _
    omega
  have kz2 : IntKind.i64.wrap ((z.toNat % 5 : Nat) : Int) = ((z.toNat % 5 : Nat) : Int) := by rw [IntKind.wrap_i64]; omega
  have k5 : z.toNat % 5 < 5 := Nat.mod_lt _ (by omega)
  generalize hkk : z.toNat % 5 = k at *
  have kz : z % 5 = (k : Int) := by omega
  clear hkk
  have HO := hideM hO
  clear hO
  go_enter Try.func8, Try.ntmps8
  go_wp2_with fail
  refine (mAwake_any w hg).mono ?_
  rintro e' w0 ⟨rfl, hB0⟩
  go_wp2_with fail
  refine (HO.out w0 (hg.below hB0 (Nat.le_refl _))).mono ?_
  rintro e' w1 ⟨rfl, hB1⟩
  have hBw := below_next hB0 hB1
  obtain ⟨X, hX⟩ : ∃ X, X = (w1.alloc (.cells #[.int .i64 mp, .int .i64 mg, .int .i64 ml, .int .i64 mt, .bool false, .bool mo, .bool me] 42)).alloc (.cells #[.int .i64 0, .int .i64 (p : Nat)] 30) := ⟨_, rfl⟩
  have hBX : Below w1.heap.size w1 X := by rw [hX]; exact ((Below.refl _ _).alloc (Nat.le_refl _) _).alloc (by rw [World.size_alloc]; omega) _
  have x1 : X.heap[w1.heap.size]? = some (.cells #[.int .i64 mp, .int .i64 mg, .int .i64 ml, .int .i64 mt, .bool false, .bool mo, .bool me] 42 (0, 0)) := by
    rw [hX, Below.heap_alloc _ _ _ (by rw [World.size_alloc]; omega)]
    exact heap_alloc_new w1 _
  have x2 : X.heap[w1.heap.size + 1]? = some (.cells #[.int .i64 0, .int .i64 (p : Nat)] 30 (0, 0)) := by
    rw [hX, ← World.size_alloc w1 (.cells #[.int .i64 mp, .int .i64 mg, .int .i64 ml, .int .i64 mt, .bool false, .bool mo, .bool me] 42)]
    exact heap_alloc_new _ _
  have hsX : X.heap.size = w1.heap.size + 1 + 1 := by rw [hX, World.size_alloc, World.size_alloc]
  have hBwX := below_next hBw hBX
  have c0 : X.cell? ⟨w1.heap.size, 0, none⟩ = some (.int .i64 mp) := by simp [World.cell?, x1]
  have c1 : X.cell? ⟨w1.heap.size, 1, none⟩ = some (.int .i64 mg) := by simp [World.cell?, x1]
  have c2 : X.cell? ⟨w1.heap.size, 2, none⟩ = some (.int .i64 ml) := by simp [World.cell?, x1]
  have c3 : X.cell? ⟨w1.heap.size, 3, none⟩ = some (.int .i64 mt) := by simp [World.cell?, x1]
  have c4 : X.cell? ⟨w1.heap.size, 4, none⟩ = some (.bool false) := by simp [World.cell?, x1]
  have c5 : X.cell? ⟨w1.heap.size, 5, none⟩ = some (.bool mo) := by simp [World.cell?, x1]
  have c6 : X.cell? ⟨w1.heap.size, 6, none⟩ = some (.bool me) := by simp [World.cell?, x1]
  have d0 : X.cell? ⟨w1.heap.size + 1, 0, none⟩ = some (.int .i64 0) := by simp [World.cell?, x2]
  have HBw := hideM hBw
  have HX := hideM (And.intro hBwX (And.intro x1 (And.intro x2 hsX)))
  rw [hX] at d0 c0 c1 c2 c3 c4 c5 c6
  clear hBwX hBX x1 x2 hsX hBw hB1 hB0 HO
  go_wp2_with fail
  rw [← hX]
  clear d0 c0 c1 c2 c3 c4 c5 c6 hX
  refine (HO1.out X (hg.below HX.out.1 (Nat.le_refl _))).mono ?_
  rintro e' w2 ⟨rfl, hB2⟩
  have hl2 := hB2.size
  have hsX := HX.out.2.2.2
  have y1 := (hB2.block w1.heap.size (by omega)).trans HX.out.2.1
  have y2 := (hB2.block (w1.heap.size + 1) (by omega)).trans HX.out.2.2.1
  have v1 : (w2.alloc (.cells #[.int .i64 mp, .int .i64 (mg + 1), .int .i64 ml, .int .i64 mt, .bool false, .bool mo, .bool me] 42)).heap[w1.heap.size]? = some (.cells #[.int .i64 mp, .int .i64 mg, .int .i64 ml, .int .i64 mt, .bool false, .bool mo, .bool me] 42 (0, 0)) := (Below.heap_alloc _ _ _ (by omega)).trans y1
  have v2 : (w2.alloc (.cells #[.int .i64 mp, .int .i64 (mg + 1), .int .i64 ml, .int .i64 mt, .bool false, .bool mo, .bool me] 42)).heap[w1.heap.size + 1]? = some (.cells #[.int .i64 0, .int .i64 (p : Nat)] 30 (0, 0)) := (Below.heap_alloc _ _ _ (by omega)).trans y2
  have v3 : (w2.alloc (.cells #[.int .i64 mp, .int .i64 (mg + 1), .int .i64 ml, .int .i64 mt, .bool false, .bool mo, .bool me] 42)).heap[w2.heap.size]? = some (.cells #[.int .i64 mp, .int .i64 (mg + 1), .int .i64 ml, .int .i64 mt, .bool false, .bool mo, .bool me] 42 (0, 0)) := heap_alloc_new w2 _
  have e0 : (w2.alloc (.cells #[.int .i64 mp, .int .i64 (mg + 1), .int .i64 ml, .int .i64 mt, .bool false, .bool mo, .bool me] 42)).cell? ⟨w1.heap.size + 1, 0, none⟩ = some (.int .i64 0) := by simp only [World.cell?, v2]; rfl
  have e1 : (w2.alloc (.cells #[.int .i64 mp, .int .i64 (mg + 1), .int .i64 ml, .int .i64 mt, .bool false, .bool mo, .bool me] 42)).cell? ⟨w1.heap.size + 1, 1, none⟩ = some (.int .i64 (p : Nat)) := by simp only [World.cell?, v2]; rfl
  have e2 : (w2.alloc (.cells #[.int .i64 mp, .int .i64 (mg + 1), .int .i64 ml, .int .i64 mt, .bool false, .bool mo, .bool me] 42)).frozen? ⟨w1.heap.size + 1, 0, none⟩ = false := by simp [World.frozen?, v2]
  have e3 : (w2.alloc (.cells #[.int .i64 mp, .int .i64 (mg + 1), .int .i64 ml, .int .i64 mt, .bool false, .bool mo, .bool me] 42)).frozen? ⟨w1.heap.size + 1, 1, none⟩ = false := by simp [World.frozen?, v2]
  have hne : w1.heap.size ≠ w1.heap.size + 1 := by omega
  have hne2 : w2.heap.size ≠ w1.heap.size + 1 := by omega
  have hne4 : w1.heap.size + 1 ≠ w2.heap.size := by omega
  have hne3 : w1.heap.size ≠ w2.heap.size := by omega
  have hl1 : w.heap.size ≤ w1.heap.size := by have := HX.out.1.size; have := HBw.out.size; omega
  obtain ⟨Z, hZ⟩ : ∃ Z, Z = ((w2.alloc (.cells #[.int .i64 mp, .int .i64 (mg + 1), .int .i64 ml, .int .i64 mt, .bool false, .bool mo, .bool me] 42)).setCell ⟨w1.heap.size + 1, 0, none⟩ (.int .i64 0)).setCell ⟨w1.heap.size + 1, 1, none⟩ (.int .i64 0) := ⟨_, rfl⟩
  have u1 : Z.heap[w1.heap.size]? = some (.cells #[.int .i64 mp, .int .i64 mg, .int .i64 ml, .int .i64 mt, .bool false, .bool mo, .bool me] 42 (0, 0)) := by rw [hZ, put_far _ _ _ _ hne, put_far _ _ _ _ hne]; exact v1
  have u2 : Z.heap[w1.heap.size + 1]? = some (.cells #[.int .i64 0, .int .i64 0] 30 (0, 0)) := by rw [hZ]; exact put_same _ _ _ _ (put_same _ _ _ _ v2)
  have u3 : Z.heap[w2.heap.size]? = some (.cells #[.int .i64 mp, .int .i64 (mg + 1), .int .i64 ml, .int .i64 mt, .bool false, .bool mo, .bool me] 42 (0, 0)) := by rw [hZ, put_far _ _ _ _ hne2, put_far _ _ _ _ hne2]; exact v3
  have hBZ : Below w.heap.size w Z := by
    rw [hZ]
    have h := below_next HX.out.1 hB2
    exact ((h.alloc h.size _).setCell (p := ⟨w1.heap.size + 1, 0, none⟩) (by show w.heap.size ≤ w1.heap.size + 1; omega) _).setCell (p := ⟨w1.heap.size + 1, 1, none⟩) (by show w.heap.size ≤ w1.heap.size + 1; omega) _
  have HZ := hideM (And.intro u1 (And.intro u2 (And.intro u3 hBZ)))
  have hl12 : w.heap.size ≤ w2.heap.size := by omega
  clear u1 u2 u3 hBZ v1 v2 v3 y1 y2 hB2 hne hne2 HX HBw hsX hl2
  go_upto_region 8 with fail
  rw [← hZ]
  clear hZ e0 e1 e2 e3
  have c0 : Z.cell? ⟨w1.heap.size, 0, none⟩ = some (.int .i64 mp) := by simp [World.cell?, HZ.out.1]
  have c1 : Z.cell? ⟨w1.heap.size, 1, none⟩ = some (.int .i64 mg) := by simp [World.cell?, HZ.out.1]
  have c2 : Z.cell? ⟨w1.heap.size, 2, none⟩ = some (.int .i64 ml) := by simp [World.cell?, HZ.out.1]
  have c3 : Z.cell? ⟨w1.heap.size, 3, none⟩ = some (.int .i64 mt) := by simp [World.cell?, HZ.out.1]
  have c4 : Z.cell? ⟨w1.heap.size, 4, none⟩ = some (.bool false) := by simp [World.cell?, HZ.out.1]
  have c5 : Z.cell? ⟨w1.heap.size, 5, none⟩ = some (.bool mo) := by simp [World.cell?, HZ.out.1]
  have c6 : Z.cell? ⟨w1.heap.size, 6, none⟩ = some (.bool me) := by simp [World.cell?, HZ.out.1]
  have g0 : Z.cell? ⟨w2.heap.size, 0, none⟩ = some (.int .i64 mp) := by simp [World.cell?, HZ.out.2.2.1]
  have g1 : Z.cell? ⟨w2.heap.size, 1, none⟩ = some (.int .i64 (mg + 1)) := by simp [World.cell?, HZ.out.2.2.1]
  have g2 : Z.cell? ⟨w2.heap.size, 2, none⟩ = some (.int .i64 ml) := by simp [World.cell?, HZ.out.2.2.1]
  have g3 : Z.cell? ⟨w2.heap.size, 3, none⟩ = some (.int .i64 mt) := by simp [World.cell?, HZ.out.2.2.1]
  have g4 : Z.cell? ⟨w2.heap.size, 4, none⟩ = some (.bool false) := by simp [World.cell?, HZ.out.2.2.1]
  have g5 : Z.cell? ⟨w2.heap.size, 5, none⟩ = some (.bool mo) := by simp [World.cell?, HZ.out.2.2.1]
  have g6 : Z.cell? ⟨w2.heap.size, 6, none⟩ = some (.bool me) := by simp [World.cell?, HZ.out.2.2.1]
  have d0 : Z.cell? ⟨w1.heap.size + 1, 0, none⟩ = some (.int .i64 0) := by simp [World.cell?, HZ.out.2.1]
  have gf : Z.frozen? ⟨w2.heap.size, 1, none⟩ = false := by simp [World.frozen?, HZ.out.2.2.1]
  have kgn : (mg + 1 != mg + 1) = false := by simp
  go_upto_region 11 with fail
  obtain ⟨Z2, hZ2⟩ : ∃ Z2, Z2 = Z.setCell ⟨w2.heap.size, 1, none⟩ (.int .i64 mg) := ⟨_, rfl⟩
  have t1 : Z2.heap[w1.heap.size]? = some (.cells #[.int .i64 mp, .int .i64 mg, .int .i64 ml, .int .i64 mt, .bool false, .bool mo, .bool me] 42 (0, 0)) := by rw [hZ2, put_far _ _ _ _ hne3]; exact HZ.out.1
  have t2 : Z2.heap[w1.heap.size + 1]? = some (.cells #[.int .i64 0, .int .i64 0] 30 (0, 0)) := by rw [hZ2, put_far _ _ _ _ hne4]; exact HZ.out.2.1
  have t3 : Z2.heap[w2.heap.size]? = some (.cells #[.int .i64 mp, .int .i64 mg, .int .i64 ml, .int .i64 mt, .bool false, .bool mo, .bool me] 42 (0, 0)) := by rw [hZ2]; exact put_same _ _ _ _ HZ.out.2.2.1
  have hBZ2 : Below w.heap.size w Z2 := by rw [hZ2]; exact HZ.out.2.2.2.setCell (p := ⟨w2.heap.size, 1, none⟩) (by show w.heap.size ≤ w2.heap.size; omega) _
  rw [← hZ2]
  have HT := hideM (And.intro t1 (And.intro t2 hBZ2))
  clear c0 g0 c1 g1 c2 g2 c3 g3 c4 g4 c5 g5 c6 g6 d0 gf kgn hZ2 HZ
  have c0 : Z2.cell? ⟨w1.heap.size, 0, none⟩ = some (.int .i64 mp) := by simp [World.cell?, t1]
  have c1 : Z2.cell? ⟨w1.heap.size, 1, none⟩ = some (.int .i64 mg) := by simp [World.cell?, t1]
  have c2 : Z2.cell? ⟨w1.heap.size, 2, none⟩ = some (.int .i64 ml) := by simp [World.cell?, t1]
  have c3 : Z2.cell? ⟨w1.heap.size, 3, none⟩ = some (.int .i64 mt) := by simp [World.cell?, t1]
  have c4 : Z2.cell? ⟨w1.heap.size, 4, none⟩ = some (.bool false) := by simp [World.cell?, t1]
  have c5 : Z2.cell? ⟨w1.heap.size, 5, none⟩ = some (.bool mo) := by simp [World.cell?, t1]
  have c6 : Z2.cell? ⟨w1.heap.size, 6, none⟩ = some (.bool me) := by simp [World.cell?, t1]
  have g0 : Z2.cell? ⟨w2.heap.size, 0, none⟩ = some (.int .i64 mp) := by simp [World.cell?, t3]
  have g1 : Z2.cell? ⟨w2.heap.size, 1, none⟩ = some (.int .i64 mg) := by simp [World.cell?, t3]
  have g2 : Z2.cell? ⟨w2.heap.size, 2, none⟩ = some (.int .i64 ml) := by simp [World.cell?, t3]
  have g3 : Z2.cell? ⟨w2.heap.size, 3, none⟩ = some (.int .i64 mt) := by simp [World.cell?, t3]
  have g4 : Z2.cell? ⟨w2.heap.size, 4, none⟩ = some (.bool false) := by simp [World.cell?, t3]
  have g5 : Z2.cell? ⟨w2.heap.size, 5, none⟩ = some (.bool mo) := by simp [World.cell?, t3]
  have g6 : Z2.cell? ⟨w2.heap.size, 6, none⟩ = some (.bool me) := by simp [World.cell?, t3]
  clear t1 t2 t3 hBZ2
  have hconv := conv_one Z2 (48 + k)
  rw [show ((48 + k : Nat) : Int) = 48 + (k : Int) by omega] at hconv
  have kd : IntKind.i64.wrap (48 + (k : Int)) = 48 + (k : Int) := by rw [IntKind.wrap_i64]; omega
  have kd2 : IntKind.u8.wrap (48 + (k : Int)) = ((48 + k : Nat) : Int) := by show (48 + (k : Int)) % 256 = _; omega
  go_upto_region 13 with fail
  clear g0 g1 g2 g3 g4 g5 g6
  go_wp2_with fail
  have hBC := HT.out.2.2.alloc HT.out.2.2.size (.cells #[.int .u8 (48 + (k : Int))] 5)
  obtain ⟨C, hC⟩ : ∃ C, C = Z2.alloc (.cells #[.int .u8 (48 + (k : Int))] 5) := ⟨_, rfl⟩
  have s1 : C.heap[w1.heap.size]? = some (.cells #[.int .i64 mp, .int .i64 mg, .int .i64 ml, .int .i64 mt, .bool false, .bool mo, .bool me] 42 (0, 0)) := by rw [hC]; exact (Below.heap_alloc _ _ _ (Array.getElem?_eq_some_iff.1 HT.out.1).1).trans HT.out.1
  have s2 : C.heap[w1.heap.size + 1]? = some (.cells #[.int .i64 0, .int .i64 0] 30 (0, 0)) := by rw [hC]; exact (Below.heap_alloc _ _ _ (Array.getElem?_eq_some_iff.1 HT.out.2.1).1).trans HT.out.2.1
  rw [← hC] at hBC ⊢
  clear hC HT c0 c1 c2 c3 c4 c5 c6 hconv
  rw [digit_eq k k5]
  refine (HO3.out C (hg.below hBC (Nat.le_refl _))).mono ?_
  rintro e' w3 ⟨rfl, hB3⟩
  have hBw3 := below_next hBC hB3
  have lt2 := (Array.getElem?_eq_some_iff.1 s2).1
  have r1 := (hB3.block _ (Array.getElem?_eq_some_iff.1 s1).1).trans s1
  have r2 := (hB3.block _ lt2).trans s2
  have hl3 := hB3.size
  have v1 : (w3.alloc (.cells #[.int .i64 0, .int .i64 0, .int .i64 0, .int .i64 0, .bool false, .bool false, .bool false] 42)).heap[w1.heap.size]? = some (.cells #[.int .i64 mp, .int .i64 mg, .int .i64 ml, .int .i64 mt, .bool false, .bool mo, .bool me] 42 (0, 0)) := (Below.heap_alloc _ _ _ (by omega)).trans r1
  have v2 : (w3.alloc (.cells #[.int .i64 0, .int .i64 0, .int .i64 0, .int .i64 0, .bool false, .bool false, .bool false] 42)).heap[w1.heap.size + 1]? = some (.cells #[.int .i64 0, .int .i64 0] 30 (0, 0)) := (Below.heap_alloc _ _ _ (by omega)).trans r2
  have v3 : (w3.alloc (.cells #[.int .i64 0, .int .i64 0, .int .i64 0, .int .i64 0, .bool false, .bool false, .bool false] 42)).heap[w3.heap.size]? = some (.cells #[.int .i64 0, .int .i64 0, .int .i64 0, .int .i64 0, .bool false, .bool false, .bool false] 42 (0, 0)) := heap_alloc_new w3 _
  have e0 : (w3.alloc (.cells #[.int .i64 0, .int .i64 0, .int .i64 0, .int .i64 0, .bool false, .bool false, .bool false] 42)).cell? ⟨w1.heap.size + 1, 0, none⟩ = some (.int .i64 0) := by simp only [World.cell?, v2]; rfl
  have e1 : (w3.alloc (.cells #[.int .i64 0, .int .i64 0, .int .i64 0, .int .i64 0, .bool false, .bool false, .bool false] 42)).cell? ⟨w1.heap.size + 1, 1, none⟩ = some (.int .i64 0) := by simp only [World.cell?, v2]; rfl
  have e2 : (w3.alloc (.cells #[.int .i64 0, .int .i64 0, .int .i64 0, .int .i64 0, .bool false, .bool false, .bool false] 42)).frozen? ⟨w1.heap.size + 1, 0, none⟩ = false := by simp [World.frozen?, v2]
  have e3 : (w3.alloc (.cells #[.int .i64 0, .int .i64 0, .int .i64 0, .int .i64 0, .bool false, .bool false, .bool false] 42)).frozen? ⟨w1.heap.size + 1, 1, none⟩ = false := by simp [World.frozen?, v2]
  have hne : w1.heap.size ≠ w1.heap.size + 1 := by omega
  have hne2 : w3.heap.size ≠ w1.heap.size + 1 := by omega
  obtain ⟨D, hD⟩ : ∃ D, D = ((w3.alloc (.cells #[.int .i64 0, .int .i64 0, .int .i64 0, .int .i64 0, .bool false, .bool false, .bool false] 42)).setCell ⟨w1.heap.size + 1, 0, none⟩ (.int .i64 13)).setCell ⟨w1.heap.size + 1, 1, none⟩ (.int .i64 (q : Nat)) := ⟨_, rfl⟩
  have u1 : D.heap[w1.heap.size]? = some (.cells #[.int .i64 mp, .int .i64 mg, .int .i64 ml, .int .i64 mt, .bool false, .bool mo, .bool me] 42 (0, 0)) := by rw [hD, put_far _ _ _ _ hne, put_far _ _ _ _ hne]; exact v1
  have u2 : D.heap[w1.heap.size + 1]? = some (.cells #[.int .i64 13, .int .i64 (q : Nat)] 30 (0, 0)) := by rw [hD]; exact put_same _ _ _ _ (put_same _ _ _ _ v2)
  have u3 : D.heap[w3.heap.size]? = some (.cells #[.int .i64 0, .int .i64 0, .int .i64 0, .int .i64 0, .bool false, .bool false, .bool false] 42 (0, 0)) := by rw [hD, put_far _ _ _ _ hne2, put_far _ _ _ _ hne2]; exact v3
  have hBD : Below w.heap.size w D := by
    rw [hD]
    exact ((hBw3.alloc hBw3.size _).setCell (p := ⟨w1.heap.size + 1, 0, none⟩) (by show w.heap.size ≤ w1.heap.size + 1; omega) _).setCell (p := ⟨w1.heap.size + 1, 1, none⟩) (by show w.heap.size ≤ w1.heap.size + 1; omega) _
  have HD := hideM (And.intro u1 (And.intro u2 (And.intro u3 hBD)))
  clear u1 u2 u3 hBD v1 v2 v3 r1 r2 s1 s2 hB3 hBw3 hBC hl3 lt2 hne hne2 hne3 hne4
  go_upto_region 14 with fail
  rw [← hD]
  clear hD e0 e1 e2 e3
  have c0 : D.cell? ⟨w1.heap.size, 0, none⟩ = some (.int .i64 mp) := by simp [World.cell?, HD.out.1]
  have c1 : D.cell? ⟨w1.heap.size, 1, none⟩ = some (.int .i64 mg) := by simp [World.cell?, HD.out.1]
  have c2 : D.cell? ⟨w1.heap.size, 2, none⟩ = some (.int .i64 ml) := by simp [World.cell?, HD.out.1]
  have c3 : D.cell? ⟨w1.heap.size, 3, none⟩ = some (.int .i64 mt) := by simp [World.cell?, HD.out.1]
  have c4 : D.cell? ⟨w1.heap.size, 4, none⟩ = some (.bool false) := by simp [World.cell?, HD.out.1]
  have c5 : D.cell? ⟨w1.heap.size, 5, none⟩ = some (.bool mo) := by simp [World.cell?, HD.out.1]
  have c6 : D.cell? ⟨w1.heap.size, 6, none⟩ = some (.bool me) := by simp [World.cell?, HD.out.1]
  have o0 : D.cell? ⟨w3.heap.size, 0, none⟩ = some (.int .i64 0) := by simp [World.cell?, HD.out.2.2.1]
  have o1 : D.cell? ⟨w3.heap.size, 1, none⟩ = some (.int .i64 0) := by simp [World.cell?, HD.out.2.2.1]
  have o2 : D.cell? ⟨w3.heap.size, 2, none⟩ = some (.int .i64 0) := by simp [World.cell?, HD.out.2.2.1]
  have o3 : D.cell? ⟨w3.heap.size, 3, none⟩ = some (.int .i64 0) := by simp [World.cell?, HD.out.2.2.1]
  have o4 : D.cell? ⟨w3.heap.size, 4, none⟩ = some (.bool false) := by simp [World.cell?, HD.out.2.2.1]
  have o5 : D.cell? ⟨w3.heap.size, 5, none⟩ = some (.bool false) := by simp [World.cell?, HD.out.2.2.1]
  have o6 : D.cell? ⟨w3.heap.size, 6, none⟩ = some (.bool false) := by simp [World.cell?, HD.out.2.2.1]
  have d0 : D.cell? ⟨w1.heap.size + 1, 0, none⟩ = some (.int .i64 13) := by simp [World.cell?, HD.out.2.1]
  go_wp2
  go_ret
  exact ⟨rfl, HD.out.2.2.2⟩
end wraps
end Go.Proofs.Ytgpciekpmdihnaa
/- MeasureWraps: the walk. -/
namespace Go.Proofs.Ytgpciekpmdihnaa
open Go.RowKit
namespace wraps
set_option maxRecDepth 100000 in
set_option maxHeartbeats 1500000 in
theorem walk_inf (s : ByteArray) (z : Int) (hz : 0 ≤ z ∧ z ≤ 255) {mp mg ml mt : Int} {mo me : Bool} {p : Nat} (hm : ofM s = (⟨mp, mg, ml, mt, false, mo, me⟩, 0, p)) (h8 : ¬ 8 < mg) (hl : ¬ 490 < (s.size : Int)) (hf : FitM ⟨mp, mg, ml, mt, false, mo, me⟩) (h1 : ofM (brk1 s) = (⟨mp, mg + 1, ml, mt, false, mo, me⟩, 0, 0)) {k3 : Nat} (hk3 : (k3 : Int) = z % 5) (h3 : ofM (brkN s k3) = (⟨(k3 : Int) * mp, mg + 1, (k3 : Int) * ml, (-1), false, mo, me⟩, 0, 0)) (ht : mt < 0) (hkp : 0 < (k3 : Int)) (w : World) (hg : Glob w) : Calls Try.prog 8 #[.string s, .int .u8 z] w fun e w' => e = .returned (.bool true) ∧ Below w.heap.size w w' := by
  have hO1 := fun w hg => mOf_any (brk1 s) w hg
  rw [h1] at hO1
  simp only at hO1
  obtain ⟨⟨a1, a2⟩, ⟨a3, a4⟩, ⟨a5, a6⟩, ⟨a7, a8⟩⟩ := hf
  simp only at a1 a2 a3 a4 a5 a6 a7 a8
  have kg : IntKind.i64.wrap (mg + 1) = mg + 1 := by rw [IntKind.wrap_i64]; omega
  have kg2 : IntKind.i64.wrap (mg + 1 - 1) = mg := by rw [IntKind.wrap_i64]; omega
  have heq := run_equal_ms7
  have hsame : (⟨mp, mg, ml, mt, false, mo, me⟩ : Ms).same ⟨mp, mg, ml, mt, false, mo, me⟩ = true := by simp [Ms.same]
  have hO3 := fun w hg => mOf_any (brkN s k3) w hg
  rw [h3] at hO3
  simp only at hO3
  have hj : ∀ x : Int, -1 ≤ x → x ≤ 1000 → IntKind.i64.wrap ((k3 : Int) * x) = (k3 : Int) * x ∧ IntKind.i64.wrap (x * (k3 : Int)) = x * (k3 : Int) := by
    intro x h1 h2
    have h5 : k3 < 5 := by omega
    rcases (show k3 = 0 ∨ k3 = 1 ∨ k3 = 2 ∨ k3 = 3 ∨ k3 = 4 by omega) with e | e | e | e | e <;> subst e <;> constructor <;> rw [IntKind.wrap_i64] <;> omega
  have kw1 := (hj mp (by omega) (by omega)).1
  have kw2 := (hj ml (by omega) (by omega)).1
  have kw3 := (hj mt (by omega) (by omega)).2
  clear hj
  obtain rfl : z.toNat % 5 = k3 := by omega
  have HO3 := hideM hO3
  clear hO3 hk3 h3
  have HO1 := hideM hO1
  clear hO1
  have hO := fun w hg => mOf_any s w hg
  rw [hm] at hO
  simp only at hO
  have kz : IntKind.u8.wrap (z.tmod 5) = ((z.toNat % 5 : Nat) : Int) := by
    rw [Int.tmod_eq_emod_of_nonneg hz.1]
    show (z % 5) % 256 = _
    omega
  have kz2 : IntKind.i64.wrap ((z.toNat % 5 : Nat) : Int) = ((z.toNat % 5 : Nat) : Int) := by rw [IntKind.wrap_i64]; omega
  have k5 : z.toNat % 5 < 5 := Nat.mod_lt _ (by omega)
  generalize hkk : z.toNat % 5 = k at *
  have kz : z % 5 = (k : Int) := by omega
  clear hkk
  have HO := hideM hO
  clear hO
  go_enter Try.func8, Try.ntmps8
  go_wp2_with fail
  refine (mAwake_any w hg).mono ?_
  rintro e' w0 ⟨rfl, hB0⟩
  go_wp2_with fail
  refine (HO.out w0 (hg.below hB0 (Nat.le_refl _))).mono ?_
  rintro e' w1 ⟨rfl, hB1⟩
  have hBw := below_next hB0 hB1
  obtain ⟨X, hX⟩ : ∃ X, X = (w1.alloc (.cells #[.int .i64 mp, .int .i64 mg, .int .i64 ml, .int .i64 mt, .bool false, .bool mo, .bool me] 42)).alloc (.cells #[.int .i64 0, .int .i64 (p : Nat)] 30) := ⟨_, rfl⟩
  have hBX : Below w1.heap.size w1 X := by rw [hX]; exact ((Below.refl _ _).alloc (Nat.le_refl _) _).alloc (by rw [World.size_alloc]; omega) _
  have x1 : X.heap[w1.heap.size]? = some (.cells #[.int .i64 mp, .int .i64 mg, .int .i64 ml, .int .i64 mt, .bool false, .bool mo, .bool me] 42 (0, 0)) := by
    rw [hX, Below.heap_alloc _ _ _ (by rw [World.size_alloc]; omega)]
    exact heap_alloc_new w1 _
  have x2 : X.heap[w1.heap.size + 1]? = some (.cells #[.int .i64 0, .int .i64 (p : Nat)] 30 (0, 0)) := by
    rw [hX, ← World.size_alloc w1 (.cells #[.int .i64 mp, .int .i64 mg, .int .i64 ml, .int .i64 mt, .bool false, .bool mo, .bool me] 42)]
    exact heap_alloc_new _ _
  have hsX : X.heap.size = w1.heap.size + 1 + 1 := by rw [hX, World.size_alloc, World.size_alloc]
  have hBwX := below_next hBw hBX
  have c0 : X.cell? ⟨w1.heap.size, 0, none⟩ = some (.int .i64 mp) := by simp [World.cell?, x1]
  have c1 : X.cell? ⟨w1.heap.size, 1, none⟩ = some (.int .i64 mg) := by simp [World.cell?, x1]
  have c2 : X.cell? ⟨w1.heap.size, 2, none⟩ = some (.int .i64 ml) := by simp [World.cell?, x1]
  have c3 : X.cell? ⟨w1.heap.size, 3, none⟩ = some (.int .i64 mt) := by simp [World.cell?, x1]
  have c4 : X.cell? ⟨w1.heap.size, 4, none⟩ = some (.bool false) := by simp [World.cell?, x1]
  have c5 : X.cell? ⟨w1.heap.size, 5, none⟩ = some (.bool mo) := by simp [World.cell?, x1]
  have c6 : X.cell? ⟨w1.heap.size, 6, none⟩ = some (.bool me) := by simp [World.cell?, x1]
  have d0 : X.cell? ⟨w1.heap.size + 1, 0, none⟩ = some (.int .i64 0) := by simp [World.cell?, x2]
  have HBw := hideM hBw
  have HX := hideM (And.intro hBwX (And.intro x1 (And.intro x2 hsX)))
  rw [hX] at d0 c0 c1 c2 c3 c4 c5 c6
  clear hBwX hBX x1 x2 hsX hBw hB1 hB0 HO
  go_wp2_with fail
  rw [← hX]
  clear d0 c0 c1 c2 c3 c4 c5 c6 hX
  refine (HO1.out X (hg.below HX.out.1 (Nat.le_refl _))).mono ?_
  rintro e' w2 ⟨rfl, hB2⟩
  have hl2 := hB2.size
  have hsX := HX.out.2.2.2
  have y1 := (hB2.block w1.heap.size (by omega)).trans HX.out.2.1
  have y2 := (hB2.block (w1.heap.size + 1) (by omega)).trans HX.out.2.2.1
  have v1 : (w2.alloc (.cells #[.int .i64 mp, .int .i64 (mg + 1), .int .i64 ml, .int .i64 mt, .bool false, .bool mo, .bool me] 42)).heap[w1.heap.size]? = some (.cells #[.int .i64 mp, .int .i64 mg, .int .i64 ml, .int .i64 mt, .bool false, .bool mo, .bool me] 42 (0, 0)) := (Below.heap_alloc _ _ _ (by omega)).trans y1
  have v2 : (w2.alloc (.cells #[.int .i64 mp, .int .i64 (mg + 1), .int .i64 ml, .int .i64 mt, .bool false, .bool mo, .bool me] 42)).heap[w1.heap.size + 1]? = some (.cells #[.int .i64 0, .int .i64 (p : Nat)] 30 (0, 0)) := (Below.heap_alloc _ _ _ (by omega)).trans y2
  have v3 : (w2.alloc (.cells #[.int .i64 mp, .int .i64 (mg + 1), .int .i64 ml, .int .i64 mt, .bool false, .bool mo, .bool me] 42)).heap[w2.heap.size]? = some (.cells #[.int .i64 mp, .int .i64 (mg + 1), .int .i64 ml, .int .i64 mt, .bool false, .bool mo, .bool me] 42 (0, 0)) := heap_alloc_new w2 _
  have e0 : (w2.alloc (.cells #[.int .i64 mp, .int .i64 (mg + 1), .int .i64 ml, .int .i64 mt, .bool false, .bool mo, .bool me] 42)).cell? ⟨w1.heap.size + 1, 0, none⟩ = some (.int .i64 0) := by simp only [World.cell?, v2]; rfl
  have e1 : (w2.alloc (.cells #[.int .i64 mp, .int .i64 (mg + 1), .int .i64 ml, .int .i64 mt, .bool false, .bool mo, .bool me] 42)).cell? ⟨w1.heap.size + 1, 1, none⟩ = some (.int .i64 (p : Nat)) := by simp only [World.cell?, v2]; rfl
  have e2 : (w2.alloc (.cells #[.int .i64 mp, .int .i64 (mg + 1), .int .i64 ml, .int .i64 mt, .bool false, .bool mo, .bool me] 42)).frozen? ⟨w1.heap.size + 1, 0, none⟩ = false := by simp [World.frozen?, v2]
  have e3 : (w2.alloc (.cells #[.int .i64 mp, .int .i64 (mg + 1), .int .i64 ml, .int .i64 mt, .bool false, .bool mo, .bool me] 42)).frozen? ⟨w1.heap.size + 1, 1, none⟩ = false := by simp [World.frozen?, v2]
  have hne : w1.heap.size ≠ w1.heap.size + 1 := by omega
  have hne2 : w2.heap.size ≠ w1.heap.size + 1 := by omega
  have hne4 : w1.heap.size + 1 ≠ w2.heap.size := by omega
  have hne3 : w1.heap.size ≠ w2.heap.size := by omega
  have hl1 : w.heap.size ≤ w1.heap.size := by have := HX.out.1.size; have := HBw.out.size; omega
  obtain ⟨Z, hZ⟩ : ∃ Z, Z = ((w2.alloc (.cells #[.int .i64 mp, .int .i64 (mg + 1), .int .i64 ml, .int .i64 mt, .bool false, .bool mo, .bool me] 42)).setCell ⟨w1.heap.size + 1, 0, none⟩ (.int .i64 0)).setCell ⟨w1.heap.size + 1, 1, none⟩ (.int .i64 0) := ⟨_, rfl⟩
  have u1 : Z.heap[w1.heap.size]? = some (.cells #[.int .i64 mp, .int .i64 mg, .int .i64 ml, .int .i64 mt, .bool false, .bool mo, .bool me] 42 (0, 0)) := by rw [hZ, put_far _ _ _ _ hne, put_far _ _ _ _ hne]; exact v1
  have u2 : Z.heap[w1.heap.size + 1]? = some (.cells #[.int .i64 0, .int .i64 0] 30 (0, 0)) := by rw [hZ]; exact put_same _ _ _ _ (put_same _ _ _ _ v2)
  have u3 : Z.heap[w2.heap.size]? = some (.cells #[.int .i64 mp, .int .i64 (mg + 1), .int .i64 ml, .int .i64 mt, .bool false, .bool mo, .bool me] 42 (0, 0)) := by rw [hZ, put_far _ _ _ _ hne2, put_far _ _ _ _ hne2]; exact v3
  have hBZ : Below w.heap.size w Z := by
    rw [hZ]
    have h := below_next HX.out.1 hB2
    exact ((h.alloc h.size _).setCell (p := ⟨w1.heap.size + 1, 0, none⟩) (by show w.heap.size ≤ w1.heap.size + 1; omega) _).setCell (p := ⟨w1.heap.size + 1, 1, none⟩) (by show w.heap.size ≤ w1.heap.size + 1; omega) _
  have HZ := hideM (And.intro u1 (And.intro u2 (And.intro u3 hBZ)))
  have hl12 : w.heap.size ≤ w2.heap.size := by omega
  clear u1 u2 u3 hBZ v1 v2 v3 y1 y2 hB2 hne hne2 HX HBw hsX hl2
  go_upto_region 8 with fail
  rw [← hZ]
  clear hZ e0 e1 e2 e3
  have c0 : Z.cell? ⟨w1.heap.size, 0, none⟩ = some (.int .i64 mp) := by simp [World.cell?, HZ.out.1]
  have c1 : Z.cell? ⟨w1.heap.size, 1, none⟩ = some (.int .i64 mg) := by simp [World.cell?, HZ.out.1]
  have c2 : Z.cell? ⟨w1.heap.size, 2, none⟩ = some (.int .i64 ml) := by simp [World.cell?, HZ.out.1]
  have c3 : Z.cell? ⟨w1.heap.size, 3, none⟩ = some (.int .i64 mt) := by simp [World.cell?, HZ.out.1]
  have c4 : Z.cell? ⟨w1.heap.size, 4, none⟩ = some (.bool false) := by simp [World.cell?, HZ.out.1]
  have c5 : Z.cell? ⟨w1.heap.size, 5, none⟩ = some (.bool mo) := by simp [World.cell?, HZ.out.1]
  have c6 : Z.cell? ⟨w1.heap.size, 6, none⟩ = some (.bool me) := by simp [World.cell?, HZ.out.1]
  have g0 : Z.cell? ⟨w2.heap.size, 0, none⟩ = some (.int .i64 mp) := by simp [World.cell?, HZ.out.2.2.1]
  have g1 : Z.cell? ⟨w2.heap.size, 1, none⟩ = some (.int .i64 (mg + 1)) := by simp [World.cell?, HZ.out.2.2.1]
  have g2 : Z.cell? ⟨w2.heap.size, 2, none⟩ = some (.int .i64 ml) := by simp [World.cell?, HZ.out.2.2.1]
  have g3 : Z.cell? ⟨w2.heap.size, 3, none⟩ = some (.int .i64 mt) := by simp [World.cell?, HZ.out.2.2.1]
  have g4 : Z.cell? ⟨w2.heap.size, 4, none⟩ = some (.bool false) := by simp [World.cell?, HZ.out.2.2.1]
  have g5 : Z.cell? ⟨w2.heap.size, 5, none⟩ = some (.bool mo) := by simp [World.cell?, HZ.out.2.2.1]
  have g6 : Z.cell? ⟨w2.heap.size, 6, none⟩ = some (.bool me) := by simp [World.cell?, HZ.out.2.2.1]
  have d0 : Z.cell? ⟨w1.heap.size + 1, 0, none⟩ = some (.int .i64 0) := by simp [World.cell?, HZ.out.2.1]
  have gf : Z.frozen? ⟨w2.heap.size, 1, none⟩ = false := by simp [World.frozen?, HZ.out.2.2.1]
  have kgn : (mg + 1 != mg + 1) = false := by simp
  go_upto_region 11 with fail
  obtain ⟨Z2, hZ2⟩ : ∃ Z2, Z2 = Z.setCell ⟨w2.heap.size, 1, none⟩ (.int .i64 mg) := ⟨_, rfl⟩
  have t1 : Z2.heap[w1.heap.size]? = some (.cells #[.int .i64 mp, .int .i64 mg, .int .i64 ml, .int .i64 mt, .bool false, .bool mo, .bool me] 42 (0, 0)) := by rw [hZ2, put_far _ _ _ _ hne3]; exact HZ.out.1
  have t2 : Z2.heap[w1.heap.size + 1]? = some (.cells #[.int .i64 0, .int .i64 0] 30 (0, 0)) := by rw [hZ2, put_far _ _ _ _ hne4]; exact HZ.out.2.1
  have t3 : Z2.heap[w2.heap.size]? = some (.cells #[.int .i64 mp, .int .i64 mg, .int .i64 ml, .int .i64 mt, .bool false, .bool mo, .bool me] 42 (0, 0)) := by rw [hZ2]; exact put_same _ _ _ _ HZ.out.2.2.1
  have hBZ2 : Below w.heap.size w Z2 := by rw [hZ2]; exact HZ.out.2.2.2.setCell (p := ⟨w2.heap.size, 1, none⟩) (by show w.heap.size ≤ w2.heap.size; omega) _
  rw [← hZ2]
  have HT := hideM (And.intro t1 (And.intro t2 hBZ2))
  clear c0 g0 c1 g1 c2 g2 c3 g3 c4 g4 c5 g5 c6 g6 d0 gf kgn hZ2 HZ
  have c0 : Z2.cell? ⟨w1.heap.size, 0, none⟩ = some (.int .i64 mp) := by simp [World.cell?, t1]
  have c1 : Z2.cell? ⟨w1.heap.size, 1, none⟩ = some (.int .i64 mg) := by simp [World.cell?, t1]
  have c2 : Z2.cell? ⟨w1.heap.size, 2, none⟩ = some (.int .i64 ml) := by simp [World.cell?, t1]
  have c3 : Z2.cell? ⟨w1.heap.size, 3, none⟩ = some (.int .i64 mt) := by simp [World.cell?, t1]
  have c4 : Z2.cell? ⟨w1.heap.size, 4, none⟩ = some (.bool false) := by simp [World.cell?, t1]
  have c5 : Z2.cell? ⟨w1.heap.size, 5, none⟩ = some (.bool mo) := by simp [World.cell?, t1]
  have c6 : Z2.cell? ⟨w1.heap.size, 6, none⟩ = some (.bool me) := by simp [World.cell?, t1]
  have g0 : Z2.cell? ⟨w2.heap.size, 0, none⟩ = some (.int .i64 mp) := by simp [World.cell?, t3]
  have g1 : Z2.cell? ⟨w2.heap.size, 1, none⟩ = some (.int .i64 mg) := by simp [World.cell?, t3]
  have g2 : Z2.cell? ⟨w2.heap.size, 2, none⟩ = some (.int .i64 ml) := by simp [World.cell?, t3]
  have g3 : Z2.cell? ⟨w2.heap.size, 3, none⟩ = some (.int .i64 mt) := by simp [World.cell?, t3]
  have g4 : Z2.cell? ⟨w2.heap.size, 4, none⟩ = some (.bool false) := by simp [World.cell?, t3]
  have g5 : Z2.cell? ⟨w2.heap.size, 5, none⟩ = some (.bool mo) := by simp [World.cell?, t3]
  have g6 : Z2.cell? ⟨w2.heap.size, 6, none⟩ = some (.bool me) := by simp [World.cell?, t3]
  clear t1 t2 t3 hBZ2
  have hconv := conv_one Z2 (48 + k)
  rw [show ((48 + k : Nat) : Int) = 48 + (k : Int) by omega] at hconv
  have kd : IntKind.i64.wrap (48 + (k : Int)) = 48 + (k : Int) := by rw [IntKind.wrap_i64]; omega
  have kd2 : IntKind.u8.wrap (48 + (k : Int)) = ((48 + k : Nat) : Int) := by show (48 + (k : Int)) % 256 = _; omega
  go_upto_region 13 with fail
  clear g0 g1 g2 g3 g4 g5 g6
  go_wp2_with fail
  have hBC := HT.out.2.2.alloc HT.out.2.2.size (.cells #[.int .u8 (48 + (k : Int))] 5)
  obtain ⟨C, hC⟩ : ∃ C, C = Z2.alloc (.cells #[.int .u8 (48 + (k : Int))] 5) := ⟨_, rfl⟩
  have s1 : C.heap[w1.heap.size]? = some (.cells #[.int .i64 mp, .int .i64 mg, .int .i64 ml, .int .i64 mt, .bool false, .bool mo, .bool me] 42 (0, 0)) := by rw [hC]; exact (Below.heap_alloc _ _ _ (Array.getElem?_eq_some_iff.1 HT.out.1).1).trans HT.out.1
  have s2 : C.heap[w1.heap.size + 1]? = some (.cells #[.int .i64 0, .int .i64 0] 30 (0, 0)) := by rw [hC]; exact (Below.heap_alloc _ _ _ (Array.getElem?_eq_some_iff.1 HT.out.2.1).1).trans HT.out.2.1
  rw [← hC] at hBC ⊢
  clear hC HT c0 c1 c2 c3 c4 c5 c6 hconv
  rw [digit_eq k k5]
  refine (HO3.out C (hg.below hBC (Nat.le_refl _))).mono ?_
  rintro e' w3 ⟨rfl, hB3⟩
  have hBw3 := below_next hBC hB3
  have lt2 := (Array.getElem?_eq_some_iff.1 s2).1
  have r1 := (hB3.block _ (Array.getElem?_eq_some_iff.1 s1).1).trans s1
  have r2 := (hB3.block _ lt2).trans s2
  have hl3 := hB3.size
  have v1 : (w3.alloc (.cells #[.int .i64 ((k : Int) * mp), .int .i64 (mg + 1), .int .i64 ((k : Int) * ml), .int .i64 (-1), .bool false, .bool mo, .bool me] 42)).heap[w1.heap.size]? = some (.cells #[.int .i64 mp, .int .i64 mg, .int .i64 ml, .int .i64 mt, .bool false, .bool mo, .bool me] 42 (0, 0)) := (Below.heap_alloc _ _ _ (by omega)).trans r1
  have v2 : (w3.alloc (.cells #[.int .i64 ((k : Int) * mp), .int .i64 (mg + 1), .int .i64 ((k : Int) * ml), .int .i64 (-1), .bool false, .bool mo, .bool me] 42)).heap[w1.heap.size + 1]? = some (.cells #[.int .i64 0, .int .i64 0] 30 (0, 0)) := (Below.heap_alloc _ _ _ (by omega)).trans r2
  have v3 : (w3.alloc (.cells #[.int .i64 ((k : Int) * mp), .int .i64 (mg + 1), .int .i64 ((k : Int) * ml), .int .i64 (-1), .bool false, .bool mo, .bool me] 42)).heap[w3.heap.size]? = some (.cells #[.int .i64 ((k : Int) * mp), .int .i64 (mg + 1), .int .i64 ((k : Int) * ml), .int .i64 (-1), .bool false, .bool mo, .bool me] 42 (0, 0)) := heap_alloc_new w3 _
  have e0 : (w3.alloc (.cells #[.int .i64 ((k : Int) * mp), .int .i64 (mg + 1), .int .i64 ((k : Int) * ml), .int .i64 (-1), .bool false, .bool mo, .bool me] 42)).cell? ⟨w1.heap.size + 1, 0, none⟩ = some (.int .i64 0) := by simp only [World.cell?, v2]; rfl
  have e1 : (w3.alloc (.cells #[.int .i64 ((k : Int) * mp), .int .i64 (mg + 1), .int .i64 ((k : Int) * ml), .int .i64 (-1), .bool false, .bool mo, .bool me] 42)).cell? ⟨w1.heap.size + 1, 1, none⟩ = some (.int .i64 0) := by simp only [World.cell?, v2]; rfl
  have e2 : (w3.alloc (.cells #[.int .i64 ((k : Int) * mp), .int .i64 (mg + 1), .int .i64 ((k : Int) * ml), .int .i64 (-1), .bool false, .bool mo, .bool me] 42)).frozen? ⟨w1.heap.size + 1, 0, none⟩ = false := by simp [World.frozen?, v2]
  have e3 : (w3.alloc (.cells #[.int .i64 ((k : Int) * mp), .int .i64 (mg + 1), .int .i64 ((k : Int) * ml), .int .i64 (-1), .bool false, .bool mo, .bool me] 42)).frozen? ⟨w1.heap.size + 1, 1, none⟩ = false := by simp [World.frozen?, v2]
  have hne : w1.heap.size ≠ w1.heap.size + 1 := by omega
  have hne2 : w3.heap.size ≠ w1.heap.size + 1 := by omega
  obtain ⟨D, hD⟩ : ∃ D, D = ((w3.alloc (.cells #[.int .i64 ((k : Int) * mp), .int .i64 (mg + 1), .int .i64 ((k : Int) * ml), .int .i64 (-1), .bool false, .bool mo, .bool me] 42)).setCell ⟨w1.heap.size + 1, 0, none⟩ (.int .i64 0)).setCell ⟨w1.heap.size + 1, 1, none⟩ (.int .i64 0) := ⟨_, rfl⟩
  have u1 : D.heap[w1.heap.size]? = some (.cells #[.int .i64 mp, .int .i64 mg, .int .i64 ml, .int .i64 mt, .bool false, .bool mo, .bool me] 42 (0, 0)) := by rw [hD, put_far _ _ _ _ hne, put_far _ _ _ _ hne]; exact v1
  have u2 : D.heap[w1.heap.size + 1]? = some (.cells #[.int .i64 0, .int .i64 0] 30 (0, 0)) := by rw [hD]; exact put_same _ _ _ _ (put_same _ _ _ _ v2)
  have u3 : D.heap[w3.heap.size]? = some (.cells #[.int .i64 ((k : Int) * mp), .int .i64 (mg + 1), .int .i64 ((k : Int) * ml), .int .i64 (-1), .bool false, .bool mo, .bool me] 42 (0, 0)) := by rw [hD, put_far _ _ _ _ hne2, put_far _ _ _ _ hne2]; exact v3
  have hBD : Below w.heap.size w D := by
    rw [hD]
    exact ((hBw3.alloc hBw3.size _).setCell (p := ⟨w1.heap.size + 1, 0, none⟩) (by show w.heap.size ≤ w1.heap.size + 1; omega) _).setCell (p := ⟨w1.heap.size + 1, 1, none⟩) (by show w.heap.size ≤ w1.heap.size + 1; omega) _
  have HD := hideM (And.intro u1 (And.intro u2 (And.intro u3 hBD)))
  clear u1 u2 u3 hBD v1 v2 v3 r1 r2 s1 s2 hB3 hBw3 hBC hl3 lt2 hne hne2 hne3 hne4
  go_upto_region 14 with fail
  rw [← hD]
  clear hD e0 e1 e2 e3
  have c0 : D.cell? ⟨w1.heap.size, 0, none⟩ = some (.int .i64 mp) := by simp [World.cell?, HD.out.1]
  have c1 : D.cell? ⟨w1.heap.size, 1, none⟩ = some (.int .i64 mg) := by simp [World.cell?, HD.out.1]
  have c2 : D.cell? ⟨w1.heap.size, 2, none⟩ = some (.int .i64 ml) := by simp [World.cell?, HD.out.1]
  have c3 : D.cell? ⟨w1.heap.size, 3, none⟩ = some (.int .i64 mt) := by simp [World.cell?, HD.out.1]
  have c4 : D.cell? ⟨w1.heap.size, 4, none⟩ = some (.bool false) := by simp [World.cell?, HD.out.1]
  have c5 : D.cell? ⟨w1.heap.size, 5, none⟩ = some (.bool mo) := by simp [World.cell?, HD.out.1]
  have c6 : D.cell? ⟨w1.heap.size, 6, none⟩ = some (.bool me) := by simp [World.cell?, HD.out.1]
  have o0 : D.cell? ⟨w3.heap.size, 0, none⟩ = some (.int .i64 ((k : Int) * mp)) := by simp [World.cell?, HD.out.2.2.1]
  have o1 : D.cell? ⟨w3.heap.size, 1, none⟩ = some (.int .i64 (mg + 1)) := by simp [World.cell?, HD.out.2.2.1]
  have o2 : D.cell? ⟨w3.heap.size, 2, none⟩ = some (.int .i64 ((k : Int) * ml)) := by simp [World.cell?, HD.out.2.2.1]
  have o3 : D.cell? ⟨w3.heap.size, 3, none⟩ = some (.int .i64 (-1)) := by simp [World.cell?, HD.out.2.2.1]
  have o4 : D.cell? ⟨w3.heap.size, 4, none⟩ = some (.bool false) := by simp [World.cell?, HD.out.2.2.1]
  have o5 : D.cell? ⟨w3.heap.size, 5, none⟩ = some (.bool mo) := by simp [World.cell?, HD.out.2.2.1]
  have o6 : D.cell? ⟨w3.heap.size, 6, none⟩ = some (.bool me) := by simp [World.cell?, HD.out.2.2.1]
  have d0 : D.cell? ⟨w1.heap.size + 1, 0, none⟩ = some (.int .i64 0) := by simp [World.cell?, HD.out.2.1]
  go_wp2
  go_ret
  exact ⟨rfl, HD.out.2.2.2⟩
set_option maxRecDepth 100000 in
set_option maxHeartbeats 1500000 in
theorem walk_fin (s : ByteArray) (z : Int) (hz : 0 ≤ z ∧ z ≤ 255) {mp mg ml mt : Int} {mo me : Bool} {p : Nat} (hm : ofM s = (⟨mp, mg, ml, mt, false, mo, me⟩, 0, p)) (h8 : ¬ 8 < mg) (hl : ¬ 490 < (s.size : Int)) (hf : FitM ⟨mp, mg, ml, mt, false, mo, me⟩) (h1 : ofM (brk1 s) = (⟨mp, mg + 1, ml, mt, false, mo, me⟩, 0, 0)) {k3 : Nat} (hk3 : (k3 : Int) = z % 5) (h3 : ofM (brkN s k3) = (⟨(k3 : Int) * mp, mg + 1, (k3 : Int) * ml, (mt * (k3 : Int)), false, mo, me⟩, 0, 0)) (ht : (mt < 0) = False) (w : World) (hg : Glob w) : Calls Try.prog 8 #[.string s, .int .u8 z] w fun e w' => e = .returned (.bool true) ∧ Below w.heap.size w w' := by
  have hO1 := fun w hg => mOf_any (brk1 s) w hg
  rw [h1] at hO1
  simp only at hO1
  obtain ⟨⟨a1, a2⟩, ⟨a3, a4⟩, ⟨a5, a6⟩, ⟨a7, a8⟩⟩ := hf
  simp only at a1 a2 a3 a4 a5 a6 a7 a8
  have kg : IntKind.i64.wrap (mg + 1) = mg + 1 := by rw [IntKind.wrap_i64]; omega
  have kg2 : IntKind.i64.wrap (mg + 1 - 1) = mg := by rw [IntKind.wrap_i64]; omega
  have heq := run_equal_ms7
  have hsame : (⟨mp, mg, ml, mt, false, mo, me⟩ : Ms).same ⟨mp, mg, ml, mt, false, mo, me⟩ = true := by simp [Ms.same]
  have hO3 := fun w hg => mOf_any (brkN s k3) w hg
  rw [h3] at hO3
  simp only at hO3
  have hj : ∀ x : Int, -1 ≤ x → x ≤ 1000 → IntKind.i64.wrap ((k3 : Int) * x) = (k3 : Int) * x ∧ IntKind.i64.wrap (x * (k3 : Int)) = x * (k3 : Int) := by
    intro x h1 h2
    have h5 : k3 < 5 := by omega
    rcases (show k3 = 0 ∨ k3 = 1 ∨ k3 = 2 ∨ k3 = 3 ∨ k3 = 4 by omega) with e | e | e | e | e <;> subst e <;> constructor <;> rw [IntKind.wrap_i64] <;> omega
  have kw1 := (hj mp (by omega) (by omega)).1
  have kw2 := (hj ml (by omega) (by omega)).1
  have kw3 := (hj mt (by omega) (by omega)).2
  clear hj
  obtain rfl : z.toNat % 5 = k3 := by omega
  have HO3 := hideM hO3
  clear hO3 hk3 h3
  have HO1 := hideM hO1
  clear hO1
  have hO := fun w hg => mOf_any s w hg
  rw [hm] at hO
  simp only at hO
  have kz : IntKind.u8.wrap (z.tmod 5) = ((z.toNat % 5 : Nat) : Int) := by
    rw [Int.tmod_eq_emod_of_nonneg hz.1]
    show (z % 5) % 256 = _
    omega
  have kz2 : IntKind.i64.wrap ((z.toNat % 5 : Nat) : Int) = ((z.toNat % 5 : Nat) : Int) := by rw [IntKind.wrap_i64]; omega
  have k5 : z.toNat % 5 < 5 := Nat.mod_lt _ (by omega)
  generalize hkk : z.toNat % 5 = k at *
  have kz : z % 5 = (k : Int) := by omega
  clear hkk
  have HO := hideM hO
  clear hO
  go_enter Try.func8, Try.ntmps8
  go_wp2_with fail
  refine (mAwake_any w hg).mono ?_
  rintro e' w0 ⟨rfl, hB0⟩
  go_wp2_with fail
  refine (HO.out w0 (hg.below hB0 (Nat.le_refl _))).mono ?_
  rintro e' w1 ⟨rfl, hB1⟩
  have hBw := below_next hB0 hB1
  obtain ⟨X, hX⟩ : ∃ X, X = (w1.alloc (.cells #[.int .i64 mp, .int .i64 mg, .int .i64 ml, .int .i64 mt, .bool false, .bool mo, .bool me] 42)).alloc (.cells #[.int .i64 0, .int .i64 (p : Nat)] 30) := ⟨_, rfl⟩
  have hBX : Below w1.heap.size w1 X := by rw [hX]; exact ((Below.refl _ _).alloc (Nat.le_refl _) _).alloc (by rw [World.size_alloc]; omega) _
  have x1 : X.heap[w1.heap.size]? = some (.cells #[.int .i64 mp, .int .i64 mg, .int .i64 ml, .int .i64 mt, .bool false, .bool mo, .bool me] 42 (0, 0)) := by
    rw [hX, Below.heap_alloc _ _ _ (by rw [World.size_alloc]; omega)]
    exact heap_alloc_new w1 _
  have x2 : X.heap[w1.heap.size + 1]? = some (.cells #[.int .i64 0, .int .i64 (p : Nat)] 30 (0, 0)) := by
    rw [hX, ← World.size_alloc w1 (.cells #[.int .i64 mp, .int .i64 mg, .int .i64 ml, .int .i64 mt, .bool false, .bool mo, .bool me] 42)]
    exact heap_alloc_new _ _
  have hsX : X.heap.size = w1.heap.size + 1 + 1 := by rw [hX, World.size_alloc, World.size_alloc]
  have hBwX := below_next hBw hBX
  have c0 : X.cell? ⟨w1.heap.size, 0, none⟩ = some (.int .i64 mp) := by simp [World.cell?, x1]
  have c1 : X.cell? ⟨w1.heap.size, 1, none⟩ = some (.int .i64 mg) := by simp [World.cell?, x1]
  have c2 : X.cell? ⟨w1.heap.size, 2, none⟩ = some (.int .i64 ml) := by simp [World.cell?, x1]
  have c3 : X.cell? ⟨w1.heap.size, 3, none⟩ = some (.int .i64 mt) := by simp [World.cell?, x1]
  have c4 : X.cell? ⟨w1.heap.size, 4, none⟩ = some (.bool false) := by simp [World.cell?, x1]
  have c5 : X.cell? ⟨w1.heap.size, 5, none⟩ = some (.bool mo) := by simp [World.cell?, x1]
  have c6 : X.cell? ⟨w1.heap.size, 6, none⟩ = some (.bool me) := by simp [World.cell?, x1]
  have d0 : X.cell? ⟨w1.heap.size + 1, 0, none⟩ = some (.int .i64 0) := by simp [World.cell?, x2]
  have HBw := hideM hBw
  have HX := hideM (And.intro hBwX (And.intro x1 (And.intro x2 hsX)))
  rw [hX] at d0 c0 c1 c2 c3 c4 c5 c6
  clear hBwX hBX x1 x2 hsX hBw hB1 hB0 HO
  go_wp2_with fail
  rw [← hX]
  clear d0 c0 c1 c2 c3 c4 c5 c6 hX
  refine (HO1.out X (hg.below HX.out.1 (Nat.le_refl _))).mono ?_
  rintro e' w2 ⟨rfl, hB2⟩
  have hl2 := hB2.size
  have hsX := HX.out.2.2.2
  have y1 := (hB2.block w1.heap.size (by omega)).trans HX.out.2.1
  have y2 := (hB2.block (w1.heap.size + 1) (by omega)).trans HX.out.2.2.1
  have v1 : (w2.alloc (.cells #[.int .i64 mp, .int .i64 (mg + 1), .int .i64 ml, .int .i64 mt, .bool false, .bool mo, .bool me] 42)).heap[w1.heap.size]? = some (.cells #[.int .i64 mp, .int .i64 mg, .int .i64 ml, .int .i64 mt, .bool false, .bool mo, .bool me] 42 (0, 0)) := (Below.heap_alloc _ _ _ (by omega)).trans y1
  have v2 : (w2.alloc (.cells #[.int .i64 mp, .int .i64 (mg + 1), .int .i64 ml, .int .i64 mt, .bool false, .bool mo, .bool me] 42)).heap[w1.heap.size + 1]? = some (.cells #[.int .i64 0, .int .i64 (p : Nat)] 30 (0, 0)) := (Below.heap_alloc _ _ _ (by omega)).trans y2
  have v3 : (w2.alloc (.cells #[.int .i64 mp, .int .i64 (mg + 1), .int .i64 ml, .int .i64 mt, .bool false, .bool mo, .bool me] 42)).heap[w2.heap.size]? = some (.cells #[.int .i64 mp, .int .i64 (mg + 1), .int .i64 ml, .int .i64 mt, .bool false, .bool mo, .bool me] 42 (0, 0)) := heap_alloc_new w2 _
  have e0 : (w2.alloc (.cells #[.int .i64 mp, .int .i64 (mg + 1), .int .i64 ml, .int .i64 mt, .bool false, .bool mo, .bool me] 42)).cell? ⟨w1.heap.size + 1, 0, none⟩ = some (.int .i64 0) := by simp only [World.cell?, v2]; rfl
  have e1 : (w2.alloc (.cells #[.int .i64 mp, .int .i64 (mg + 1), .int .i64 ml, .int .i64 mt, .bool false, .bool mo, .bool me] 42)).cell? ⟨w1.heap.size + 1, 1, none⟩ = some (.int .i64 (p : Nat)) := by simp only [World.cell?, v2]; rfl
  have e2 : (w2.alloc (.cells #[.int .i64 mp, .int .i64 (mg + 1), .int .i64 ml, .int .i64 mt, .bool false, .bool mo, .bool me] 42)).frozen? ⟨w1.heap.size + 1, 0, none⟩ = false := by simp [World.frozen?, v2]
  have e3 : (w2.alloc (.cells #[.int .i64 mp, .int .i64 (mg + 1), .int .i64 ml, .int .i64 mt, .bool false, .bool mo, .bool me] 42)).frozen? ⟨w1.heap.size + 1, 1, none⟩ = false := by simp [World.frozen?, v2]
  have hne : w1.heap.size ≠ w1.heap.size + 1 := by omega
  have hne2 : w2.heap.size ≠ w1.heap.size + 1 := by omega
  have hne4 : w1.heap.size + 1 ≠ w2.heap.size := by omega
  have hne3 : w1.heap.size ≠ w2.heap.size := by omega
  have hl1 : w.heap.size ≤ w1.heap.size := by have := HX.out.1.size; have := HBw.out.size; omega
  obtain ⟨Z, hZ⟩ : ∃ Z, Z = ((w2.alloc (.cells #[.int .i64 mp, .int .i64 (mg + 1), .int .i64 ml, .int .i64 mt, .bool false, .bool mo, .bool me] 42)).setCell ⟨w1.heap.size + 1, 0, none⟩ (.int .i64 0)).setCell ⟨w1.heap.size + 1, 1, none⟩ (.int .i64 0) := ⟨_, rfl⟩
  have u1 : Z.heap[w1.heap.size]? = some (.cells #[.int .i64 mp, .int .i64 mg, .int .i64 ml, .int .i64 mt, .bool false, .bool mo, .bool me] 42 (0, 0)) := by rw [hZ, put_far _ _ _ _ hne, put_far _ _ _ _ hne]; exact v1
  have u2 : Z.heap[w1.heap.size + 1]? = some (.cells #[.int .i64 0, .int .i64 0] 30 (0, 0)) := by rw [hZ]; exact put_same _ _ _ _ (put_same _ _ _ _ v2)
  have u3 : Z.heap[w2.heap.size]? = some (.cells #[.int .i64 mp, .int .i64 (mg + 1), .int .i64 ml, .int .i64 mt, .bool false, .bool mo, .bool me] 42 (0, 0)) := by rw [hZ, put_far _ _ _ _ hne2, put_far _ _ _ _ hne2]; exact v3
  have hBZ : Below w.heap.size w Z := by
    rw [hZ]
    have h := below_next HX.out.1 hB2
    exact ((h.alloc h.size _).setCell (p := ⟨w1.heap.size + 1, 0, none⟩) (by show w.heap.size ≤ w1.heap.size + 1; omega) _).setCell (p := ⟨w1.heap.size + 1, 1, none⟩) (by show w.heap.size ≤ w1.heap.size + 1; omega) _
  have HZ := hideM (And.intro u1 (And.intro u2 (And.intro u3 hBZ)))
  have hl12 : w.heap.size ≤ w2.heap.size := by omega
  clear u1 u2 u3 hBZ v1 v2 v3 y1 y2 hB2 hne hne2 HX HBw hsX hl2
  go_upto_region 8 with fail
  rw [← hZ]
  clear hZ e0 e1 e2 e3
  have c0 : Z.cell? ⟨w1.heap.size, 0, none⟩ = some (.int .i64 mp) := by simp [World.cell?, HZ.out.1]
  have c1 : Z.cell? ⟨w1.heap.size, 1, none⟩ = some (.int .i64 mg) := by simp [World.cell?, HZ.out.1]
  have c2 : Z.cell? ⟨w1.heap.size, 2, none⟩ = some (.int .i64 ml) := by simp [World.cell?, HZ.out.1]
  have c3 : Z.cell? ⟨w1.heap.size, 3, none⟩ = some (.int .i64 mt) := by simp [World.cell?, HZ.out.1]
  have c4 : Z.cell? ⟨w1.heap.size, 4, none⟩ = some (.bool false) := by simp [World.cell?, HZ.out.1]
  have c5 : Z.cell? ⟨w1.heap.size, 5, none⟩ = some (.bool mo) := by simp [World.cell?, HZ.out.1]
  have c6 : Z.cell? ⟨w1.heap.size, 6, none⟩ = some (.bool me) := by simp [World.cell?, HZ.out.1]
  have g0 : Z.cell? ⟨w2.heap.size, 0, none⟩ = some (.int .i64 mp) := by simp [World.cell?, HZ.out.2.2.1]
  have g1 : Z.cell? ⟨w2.heap.size, 1, none⟩ = some (.int .i64 (mg + 1)) := by simp [World.cell?, HZ.out.2.2.1]
  have g2 : Z.cell? ⟨w2.heap.size, 2, none⟩ = some (.int .i64 ml) := by simp [World.cell?, HZ.out.2.2.1]
  have g3 : Z.cell? ⟨w2.heap.size, 3, none⟩ = some (.int .i64 mt) := by simp [World.cell?, HZ.out.2.2.1]
  have g4 : Z.cell? ⟨w2.heap.size, 4, none⟩ = some (.bool false) := by simp [World.cell?, HZ.out.2.2.1]
  have g5 : Z.cell? ⟨w2.heap.size, 5, none⟩ = some (.bool mo) := by simp [World.cell?, HZ.out.2.2.1]
  have g6 : Z.cell? ⟨w2.heap.size, 6, none⟩ = some (.bool me) := by simp [World.cell?, HZ.out.2.2.1]
  have d0 : Z.cell? ⟨w1.heap.size + 1, 0, none⟩ = some (.int .i64 0) := by simp [World.cell?, HZ.out.2.1]
  have gf : Z.frozen? ⟨w2.heap.size, 1, none⟩ = false := by simp [World.frozen?, HZ.out.2.2.1]
  have kgn : (mg + 1 != mg + 1) = false := by simp
  go_upto_region 11 with fail
  obtain ⟨Z2, hZ2⟩ : ∃ Z2, Z2 = Z.setCell ⟨w2.heap.size, 1, none⟩ (.int .i64 mg) := ⟨_, rfl⟩
  have t1 : Z2.heap[w1.heap.size]? = some (.cells #[.int .i64 mp, .int .i64 mg, .int .i64 ml, .int .i64 mt, .bool false, .bool mo, .bool me] 42 (0, 0)) := by rw [hZ2, put_far _ _ _ _ hne3]; exact HZ.out.1
  have t2 : Z2.heap[w1.heap.size + 1]? = some (.cells #[.int .i64 0, .int .i64 0] 30 (0, 0)) := by rw [hZ2, put_far _ _ _ _ hne4]; exact HZ.out.2.1
  have t3 : Z2.heap[w2.heap.size]? = some (.cells #[.int .i64 mp, .int .i64 mg, .int .i64 ml, .int .i64 mt, .bool false, .bool mo, .bool me] 42 (0, 0)) := by rw [hZ2]; exact put_same _ _ _ _ HZ.out.2.2.1
  have hBZ2 : Below w.heap.size w Z2 := by rw [hZ2]; exact HZ.out.2.2.2.setCell (p := ⟨w2.heap.size, 1, none⟩) (by show w.heap.size ≤ w2.heap.size; omega) _
  rw [← hZ2]
  have HT := hideM (And.intro t1 (And.intro t2 hBZ2))
  clear c0 g0 c1 g1 c2 g2 c3 g3 c4 g4 c5 g5 c6 g6 d0 gf kgn hZ2 HZ
  have c0 : Z2.cell? ⟨w1.heap.size, 0, none⟩ = some (.int .i64 mp) := by simp [World.cell?, t1]
  have c1 : Z2.cell? ⟨w1.heap.size, 1, none⟩ = some (.int .i64 mg) := by simp [World.cell?, t1]
  have c2 : Z2.cell? ⟨w1.heap.size, 2, none⟩ = some (.int .i64 ml) := by simp [World.cell?, t1]
  have c3 : Z2.cell? ⟨w1.heap.size, 3, none⟩ = some (.int .i64 mt) := by simp [World.cell?, t1]
  have c4 : Z2.cell? ⟨w1.heap.size, 4, none⟩ = some (.bool false) := by simp [World.cell?, t1]
  have c5 : Z2.cell? ⟨w1.heap.size, 5, none⟩ = some (.bool mo) := by simp [World.cell?, t1]
  have c6 : Z2.cell? ⟨w1.heap.size, 6, none⟩ = some (.bool me) := by simp [World.cell?, t1]
  have g0 : Z2.cell? ⟨w2.heap.size, 0, none⟩ = some (.int .i64 mp) := by simp [World.cell?, t3]
  have g1 : Z2.cell? ⟨w2.heap.size, 1, none⟩ = some (.int .i64 mg) := by simp [World.cell?, t3]
  have g2 : Z2.cell? ⟨w2.heap.size, 2, none⟩ = some (.int .i64 ml) := by simp [World.cell?, t3]
  have g3 : Z2.cell? ⟨w2.heap.size, 3, none⟩ = some (.int .i64 mt) := by simp [World.cell?, t3]
  have g4 : Z2.cell? ⟨w2.heap.size, 4, none⟩ = some (.bool false) := by simp [World.cell?, t3]
  have g5 : Z2.cell? ⟨w2.heap.size, 5, none⟩ = some (.bool mo) := by simp [World.cell?, t3]
  have g6 : Z2.cell? ⟨w2.heap.size, 6, none⟩ = some (.bool me) := by simp [World.cell?, t3]
  clear t1 t2 t3 hBZ2
  have hconv := conv_one Z2 (48 + k)
  rw [show ((48 + k : Nat) : Int) = 48 + (k : Int) by omega] at hconv
  have kd : IntKind.i64.wrap (48 + (k : Int)) = 48 + (k : Int) := by rw [IntKind.wrap_i64]; omega
  have kd2 : IntKind.u8.wrap (48 + (k : Int)) = ((48 + k : Nat) : Int) := by show (48 + (k : Int)) % 256 = _; omega
  go_upto_region 13 with fail
  clear g0 g1 g2 g3 g4 g5 g6
  go_wp2_with fail
  have hBC := HT.out.2.2.alloc HT.out.2.2.size (.cells #[.int .u8 (48 + (k : Int))] 5)
  obtain ⟨C, hC⟩ : ∃ C, C = Z2.alloc (.cells #[.int .u8 (48 + (k : Int))] 5) := ⟨_, rfl⟩
  have s1 : C.heap[w1.heap.size]? = some (.cells #[.int .i64 mp, .int .i64 mg, .int .i64 ml, .int .i64 mt, .bool false, .bool mo, .bool me] 42 (0, 0)) := by rw [hC]; exact (Below.heap_alloc _ _ _ (Array.getElem?_eq_some_iff.1 HT.out.1).1).trans HT.out.1
  have s2 : C.heap[w1.heap.size + 1]? = some (.cells #[.int .i64 0, .int .i64 0] 30 (0, 0)) := by rw [hC]; exact (Below.heap_alloc _ _ _ (Array.getElem?_eq_some_iff.1 HT.out.2.1).1).trans HT.out.2.1
  rw [← hC] at hBC ⊢
  clear hC HT c0 c1 c2 c3 c4 c5 c6 hconv
  rw [digit_eq k k5]
  refine (HO3.out C (hg.below hBC (Nat.le_refl _))).mono ?_
  rintro e' w3 ⟨rfl, hB3⟩
  have hBw3 := below_next hBC hB3
  have lt2 := (Array.getElem?_eq_some_iff.1 s2).1
  have r1 := (hB3.block _ (Array.getElem?_eq_some_iff.1 s1).1).trans s1
  have r2 := (hB3.block _ lt2).trans s2
  have hl3 := hB3.size
  have v1 : (w3.alloc (.cells #[.int .i64 ((k : Int) * mp), .int .i64 (mg + 1), .int .i64 ((k : Int) * ml), .int .i64 (mt * (k : Int)), .bool false, .bool mo, .bool me] 42)).heap[w1.heap.size]? = some (.cells #[.int .i64 mp, .int .i64 mg, .int .i64 ml, .int .i64 mt, .bool false, .bool mo, .bool me] 42 (0, 0)) := (Below.heap_alloc _ _ _ (by omega)).trans r1
  have v2 : (w3.alloc (.cells #[.int .i64 ((k : Int) * mp), .int .i64 (mg + 1), .int .i64 ((k : Int) * ml), .int .i64 (mt * (k : Int)), .bool false, .bool mo, .bool me] 42)).heap[w1.heap.size + 1]? = some (.cells #[.int .i64 0, .int .i64 0] 30 (0, 0)) := (Below.heap_alloc _ _ _ (by omega)).trans r2
  have v3 : (w3.alloc (.cells #[.int .i64 ((k : Int) * mp), .int .i64 (mg + 1), .int .i64 ((k : Int) * ml), .int .i64 (mt * (k : Int)), .bool false, .bool mo, .bool me] 42)).heap[w3.heap.size]? = some (.cells #[.int .i64 ((k : Int) * mp), .int .i64 (mg + 1), .int .i64 ((k : Int) * ml), .int .i64 (mt * (k : Int)), .bool false, .bool mo, .bool me] 42 (0, 0)) := heap_alloc_new w3 _
  have e0 : (w3.alloc (.cells #[.int .i64 ((k : Int) * mp), .int .i64 (mg + 1), .int .i64 ((k : Int) * ml), .int .i64 (mt * (k : Int)), .bool false, .bool mo, .bool me] 42)).cell? ⟨w1.heap.size + 1, 0, none⟩ = some (.int .i64 0) := by simp only [World.cell?, v2]; rfl
  have e1 : (w3.alloc (.cells #[.int .i64 ((k : Int) * mp), .int .i64 (mg + 1), .int .i64 ((k : Int) * ml), .int .i64 (mt * (k : Int)), .bool false, .bool mo, .bool me] 42)).cell? ⟨w1.heap.size + 1, 1, none⟩ = some (.int .i64 0) := by simp only [World.cell?, v2]; rfl
  have e2 : (w3.alloc (.cells #[.int .i64 ((k : Int) * mp), .int .i64 (mg + 1), .int .i64 ((k : Int) * ml), .int .i64 (mt * (k : Int)), .bool false, .bool mo, .bool me] 42)).frozen? ⟨w1.heap.size + 1, 0, none⟩ = false := by simp [World.frozen?, v2]
  have e3 : (w3.alloc (.cells #[.int .i64 ((k : Int) * mp), .int .i64 (mg + 1), .int .i64 ((k : Int) * ml), .int .i64 (mt * (k : Int)), .bool false, .bool mo, .bool me] 42)).frozen? ⟨w1.heap.size + 1, 1, none⟩ = false := by simp [World.frozen?, v2]
  have hne : w1.heap.size ≠ w1.heap.size + 1 := by omega
  have hne2 : w3.heap.size ≠ w1.heap.size + 1 := by omega
  obtain ⟨D, hD⟩ : ∃ D, D = ((w3.alloc (.cells #[.int .i64 ((k : Int) * mp), .int .i64 (mg + 1), .int .i64 ((k : Int) * ml), .int .i64 (mt * (k : Int)), .bool false, .bool mo, .bool me] 42)).setCell ⟨w1.heap.size + 1, 0, none⟩ (.int .i64 0)).setCell ⟨w1.heap.size + 1, 1, none⟩ (.int .i64 0) := ⟨_, rfl⟩
  have u1 : D.heap[w1.heap.size]? = some (.cells #[.int .i64 mp, .int .i64 mg, .int .i64 ml, .int .i64 mt, .bool false, .bool mo, .bool me] 42 (0, 0)) := by rw [hD, put_far _ _ _ _ hne, put_far _ _ _ _ hne]; exact v1
  have u2 : D.heap[w1.heap.size + 1]? = some (.cells #[.int .i64 0, .int .i64 0] 30 (0, 0)) := by rw [hD]; exact put_same _ _ _ _ (put_same _ _ _ _ v2)
  have u3 : D.heap[w3.heap.size]? = some (.cells #[.int .i64 ((k : Int) * mp), .int .i64 (mg + 1), .int .i64 ((k : Int) * ml), .int .i64 (mt * (k : Int)), .bool false, .bool mo, .bool me] 42 (0, 0)) := by rw [hD, put_far _ _ _ _ hne2, put_far _ _ _ _ hne2]; exact v3
  have hBD : Below w.heap.size w D := by
    rw [hD]
    exact ((hBw3.alloc hBw3.size _).setCell (p := ⟨w1.heap.size + 1, 0, none⟩) (by show w.heap.size ≤ w1.heap.size + 1; omega) _).setCell (p := ⟨w1.heap.size + 1, 1, none⟩) (by show w.heap.size ≤ w1.heap.size + 1; omega) _
  have HD := hideM (And.intro u1 (And.intro u2 (And.intro u3 hBD)))
  clear u1 u2 u3 hBD v1 v2 v3 r1 r2 s1 s2 hB3 hBw3 hBC hl3 lt2 hne hne2 hne3 hne4
  go_upto_region 14 with fail
  rw [← hD]
  clear hD e0 e1 e2 e3
  have c0 : D.cell? ⟨w1.heap.size, 0, none⟩ = some (.int .i64 mp) := by simp [World.cell?, HD.out.1]
  have c1 : D.cell? ⟨w1.heap.size, 1, none⟩ = some (.int .i64 mg) := by simp [World.cell?, HD.out.1]
  have c2 : D.cell? ⟨w1.heap.size, 2, none⟩ = some (.int .i64 ml) := by simp [World.cell?, HD.out.1]
  have c3 : D.cell? ⟨w1.heap.size, 3, none⟩ = some (.int .i64 mt) := by simp [World.cell?, HD.out.1]
  have c4 : D.cell? ⟨w1.heap.size, 4, none⟩ = some (.bool false) := by simp [World.cell?, HD.out.1]
  have c5 : D.cell? ⟨w1.heap.size, 5, none⟩ = some (.bool mo) := by simp [World.cell?, HD.out.1]
  have c6 : D.cell? ⟨w1.heap.size, 6, none⟩ = some (.bool me) := by simp [World.cell?, HD.out.1]
  have o0 : D.cell? ⟨w3.heap.size, 0, none⟩ = some (.int .i64 ((k : Int) * mp)) := by simp [World.cell?, HD.out.2.2.1]
  have o1 : D.cell? ⟨w3.heap.size, 1, none⟩ = some (.int .i64 (mg + 1)) := by simp [World.cell?, HD.out.2.2.1]
  have o2 : D.cell? ⟨w3.heap.size, 2, none⟩ = some (.int .i64 ((k : Int) * ml)) := by simp [World.cell?, HD.out.2.2.1]
  have o3 : D.cell? ⟨w3.heap.size, 3, none⟩ = some (.int .i64 (mt * (k : Int))) := by simp [World.cell?, HD.out.2.2.1]
  have o4 : D.cell? ⟨w3.heap.size, 4, none⟩ = some (.bool false) := by simp [World.cell?, HD.out.2.2.1]
  have o5 : D.cell? ⟨w3.heap.size, 5, none⟩ = some (.bool mo) := by simp [World.cell?, HD.out.2.2.1]
  have o6 : D.cell? ⟨w3.heap.size, 6, none⟩ = some (.bool me) := by simp [World.cell?, HD.out.2.2.1]
  have d0 : D.cell? ⟨w1.heap.size + 1, 0, none⟩ = some (.int .i64 0) := by simp [World.cell?, HD.out.2.1]
  go_wp2
  go_ret
  exact ⟨rfl, HD.out.2.2.2⟩
set_option maxRecDepth 100000 in
set_option maxHeartbeats 1500000 in
theorem walk_none (s : ByteArray) (z : Int) (hz : 0 ≤ z ∧ z ≤ 255) {mp mg ml mt : Int} {mo me : Bool} {p : Nat} (hm : ofM s = (⟨mp, mg, ml, mt, false, mo, me⟩, 0, p)) (h8 : ¬ 8 < mg) (hl : ¬ 490 < (s.size : Int)) (hf : FitM ⟨mp, mg, ml, mt, false, mo, me⟩) (h1 : ofM (brk1 s) = (⟨mp, mg + 1, ml, mt, false, mo, me⟩, 0, 0)) {k3 : Nat} (hk3 : (k3 : Int) = z % 5) (h3 : ofM (brkN s k3) = (⟨(k3 : Int) * mp, mg + 1, (k3 : Int) * ml, (mt * (k3 : Int)), false, mo, me⟩, 0, 0)) (ht : mt < 0) (hkp : (0 < k3) = False) (w : World) (hg : Glob w) : Calls Try.prog 8 #[.string s, .int .u8 z] w fun e w' => e = .returned (.bool true) ∧ Below w.heap.size w w' := by
  have hO1 := fun w hg => mOf_any (brk1 s) w hg
  rw [h1] at hO1
  simp only at hO1
  obtain ⟨⟨a1, a2⟩, ⟨a3, a4⟩, ⟨a5, a6⟩, ⟨a7, a8⟩⟩ := hf
  simp only at a1 a2 a3 a4 a5 a6 a7 a8
  have kg : IntKind.i64.wrap (mg + 1) = mg + 1 := by rw [IntKind.wrap_i64]; omega
  have kg2 : IntKind.i64.wrap (mg + 1 - 1) = mg := by rw [IntKind.wrap_i64]; omega
  have heq := run_equal_ms7
  have hsame : (⟨mp, mg, ml, mt, false, mo, me⟩ : Ms).same ⟨mp, mg, ml, mt, false, mo, me⟩ = true := by simp [Ms.same]
  have hO3 := fun w hg => mOf_any (brkN s k3) w hg
  rw [h3] at hO3
  simp only at hO3
  have hj : ∀ x : Int, -1 ≤ x → x ≤ 1000 → IntKind.i64.wrap ((k3 : Int) * x) = (k3 : Int) * x ∧ IntKind.i64.wrap (x * (k3 : Int)) = x * (k3 : Int) := by
    intro x h1 h2
    have h5 : k3 < 5 := by omega
    rcases (show k3 = 0 ∨ k3 = 1 ∨ k3 = 2 ∨ k3 = 3 ∨ k3 = 4 by omega) with e | e | e | e | e <;> subst e <;> constructor <;> rw [IntKind.wrap_i64] <;> omega
  have kw1 := (hj mp (by omega) (by omega)).1
  have kw2 := (hj ml (by omega) (by omega)).1
  have kw3 := (hj mt (by omega) (by omega)).2
  clear hj
  obtain rfl : z.toNat % 5 = k3 := by omega
  have HO3 := hideM hO3
  clear hO3 hk3 h3
  have HO1 := hideM hO1
  clear hO1
  have hO := fun w hg => mOf_any s w hg
  rw [hm] at hO
  simp only at hO
  have kz : IntKind.u8.wrap (z.tmod 5) = ((z.toNat % 5 : Nat) : Int) := by
    rw [Int.tmod_eq_emod_of_nonneg hz.1]
    show (z % 5) % 256 = _
    omega
  have kz2 : IntKind.i64.wrap ((z.toNat % 5 : Nat) : Int) = ((z.toNat % 5 : Nat) : Int) := by rw [IntKind.wrap_i64]; omega
  have k5 : z.toNat % 5 < 5 := Nat.mod_lt _ (by omega)
  generalize hkk : z.toNat % 5 = k at *
  have kz : z % 5 = (k : Int) := by omega
  clear hkk
  have HO := hideM hO
  clear hO
  go_enter Try.func8, Try.ntmps8
  go_wp2_with fail
  refine (mAwake_any w hg).mono ?_
  rintro e' w0 ⟨rfl, hB0⟩
  go_wp2_with fail
  refine (HO.out w0 (hg.below hB0 (Nat.le_refl _))).mono ?_
  rintro e' w1 ⟨rfl, hB1⟩
  have hBw := below_next hB0 hB1
  obtain ⟨X, hX⟩ : ∃ X, X = (w1.alloc (.cells #[.int .i64 mp, .int .i64 mg, .int .i64 ml, .int .i64 mt, .bool false, .bool mo, .bool me] 42)).alloc (.cells #[.int .i64 0, .int .i64 (p : Nat)] 30) := ⟨_, rfl⟩
  have hBX : Below w1.heap.size w1 X := by rw [hX]; exact ((Below.refl _ _).alloc (Nat.le_refl _) _).alloc (by rw [World.size_alloc]; omega) _
  have x1 : X.heap[w1.heap.size]? = some (.cells #[.int .i64 mp, .int .i64 mg, .int .i64 ml, .int .i64 mt, .bool false, .bool mo, .bool me] 42 (0, 0)) := by
    rw [hX, Below.heap_alloc _ _ _ (by rw [World.size_alloc]; omega)]
    exact heap_alloc_new w1 _
  have x2 : X.heap[w1.heap.size + 1]? = some (.cells #[.int .i64 0, .int .i64 (p : Nat)] 30 (0, 0)) := by
    rw [hX, ← World.size_alloc w1 (.cells #[.int .i64 mp, .int .i64 mg, .int .i64 ml, .int .i64 mt, .bool false, .bool mo, .bool me] 42)]
    exact heap_alloc_new _ _
  have hsX : X.heap.size = w1.heap.size + 1 + 1 := by rw [hX, World.size_alloc, World.size_alloc]
  have hBwX := below_next hBw hBX
  have c0 : X.cell? ⟨w1.heap.size, 0, none⟩ = some (.int .i64 mp) := by simp [World.cell?, x1]
  have c1 : X.cell? ⟨w1.heap.size, 1, none⟩ = some (.int .i64 mg) := by simp [World.cell?, x1]
  have c2 : X.cell? ⟨w1.heap.size, 2, none⟩ = some (.int .i64 ml) := by simp [World.cell?, x1]
  have c3 : X.cell? ⟨w1.heap.size, 3, none⟩ = some (.int .i64 mt) := by simp [World.cell?, x1]
  have c4 : X.cell? ⟨w1.heap.size, 4, none⟩ = some (.bool false) := by simp [World.cell?, x1]
  have c5 : X.cell? ⟨w1.heap.size, 5, none⟩ = some (.bool mo) := by simp [World.cell?, x1]
  have c6 : X.cell? ⟨w1.heap.size, 6, none⟩ = some (.bool me) := by simp [World.cell?, x1]
  have d0 : X.cell? ⟨w1.heap.size + 1, 0, none⟩ = some (.int .i64 0) := by simp [World.cell?, x2]
  have HBw := hideM hBw
  have HX := hideM (And.intro hBwX (And.intro x1 (And.intro x2 hsX)))
  rw [hX] at d0 c0 c1 c2 c3 c4 c5 c6
  clear hBwX hBX x1 x2 hsX hBw hB1 hB0 HO
  go_wp2_with fail
  rw [← hX]
  clear d0 c0 c1 c2 c3 c4 c5 c6 hX
  refine (HO1.out X (hg.below HX.out.1 (Nat.le_refl _))).mono ?_
  rintro e' w2 ⟨rfl, hB2⟩
  have hl2 := hB2.size
  have hsX := HX.out.2.2.2
  have y1 := (hB2.block w1.heap.size (by omega)).trans HX.out.2.1
  have y2 := (hB2.block (w1.heap.size + 1) (by omega)).trans HX.out.2.2.1
  have v1 : (w2.alloc (.cells #[.int .i64 mp, .int .i64 (mg + 1), .int .i64 ml, .int .i64 mt, .bool false, .bool mo, .bool me] 42)).heap[w1.heap.size]? = some (.cells #[.int .i64 mp, .int .i64 mg, .int .i64 ml, .int .i64 mt, .bool false, .bool mo, .bool me] 42 (0, 0)) := (Below.heap_alloc _ _ _ (by omega)).trans y1
  have v2 : (w2.alloc (.cells #[.int .i64 mp, .int .i64 (mg + 1), .int .i64 ml, .int .i64 mt, .bool false, .bool mo, .bool me] 42)).heap[w1.heap.size + 1]? = some (.cells #[.int .i64 0, .int .i64 (p : Nat)] 30 (0, 0)) := (Below.heap_alloc _ _ _ (by omega)).trans y2
  have v3 : (w2.alloc (.cells #[.int .i64 mp, .int .i64 (mg + 1), .int .i64 ml, .int .i64 mt, .bool false, .bool mo, .bool me] 42)).heap[w2.heap.size]? = some (.cells #[.int .i64 mp, .int .i64 (mg + 1), .int .i64 ml, .int .i64 mt, .bool false, .bool mo, .bool me] 42 (0, 0)) := heap_alloc_new w2 _
  have e0 : (w2.alloc (.cells #[.int .i64 mp, .int .i64 (mg + 1), .int .i64 ml, .int .i64 mt, .bool false, .bool mo, .bool me] 42)).cell? ⟨w1.heap.size + 1, 0, none⟩ = some (.int .i64 0) := by simp only [World.cell?, v2]; rfl
  have e1 : (w2.alloc (.cells #[.int .i64 mp, .int .i64 (mg + 1), .int .i64 ml, .int .i64 mt, .bool false, .bool mo, .bool me] 42)).cell? ⟨w1.heap.size + 1, 1, none⟩ = some (.int .i64 (p : Nat)) := by simp only [World.cell?, v2]; rfl
  have e2 : (w2.alloc (.cells #[.int .i64 mp, .int .i64 (mg + 1), .int .i64 ml, .int .i64 mt, .bool false, .bool mo, .bool me] 42)).frozen? ⟨w1.heap.size + 1, 0, none⟩ = false := by simp [World.frozen?, v2]
  have e3 : (w2.alloc (.cells #[.int .i64 mp, .int .i64 (mg + 1), .int .i64 ml, .int .i64 mt, .bool false, .bool mo, .bool me] 42)).frozen? ⟨w1.heap.size + 1, 1, none⟩ = false := by simp [World.frozen?, v2]
  have hne : w1.heap.size ≠ w1.heap.size + 1 := by omega
  have hne2 : w2.heap.size ≠ w1.heap.size + 1 := by omega
  have hne4 : w1.heap.size + 1 ≠ w2.heap.size := by omega
  have hne3 : w1.heap.size ≠ w2.heap.size := by omega
  have hl1 : w.heap.size ≤ w1.heap.size := by have := HX.out.1.size; have := HBw.out.size; omega
  obtain ⟨Z, hZ⟩ : ∃ Z, Z = ((w2.alloc (.cells #[.int .i64 mp, .int .i64 (mg + 1), .int .i64 ml, .int .i64 mt, .bool false, .bool mo, .bool me] 42)).setCell ⟨w1.heap.size + 1, 0, none⟩ (.int .i64 0)).setCell ⟨w1.heap.size + 1, 1, none⟩ (.int .i64 0) := ⟨_, rfl⟩
  have u1 : Z.heap[w1.heap.size]? = some (.cells #[.int .i64 mp, .int .i64 mg, .int .i64 ml, .int .i64 mt, .bool false, .bool mo, .bool me] 42 (0, 0)) := by rw [hZ, put_far _ _ _ _ hne, put_far _ _ _ _ hne]; exact v1
  have u2 : Z.heap[w1.heap.size + 1]? = some (.cells #[.int .i64 0, .int .i64 0] 30 (0, 0)) := by rw [hZ]; exact put_same _ _ _ _ (put_same _ _ _ _ v2)
  have u3 : Z.heap[w2.heap.size]? = some (.cells #[.int .i64 mp, .int .i64 (mg + 1), .int .i64 ml, .int .i64 mt, .bool false, .bool mo, .bool me] 42 (0, 0)) := by rw [hZ, put_far _ _ _ _ hne2, put_far _ _ _ _ hne2]; exact v3
  have hBZ : Below w.heap.size w Z := by
    rw [hZ]
    have h := below_next HX.out.1 hB2
    exact ((h.alloc h.size _).setCell (p := ⟨w1.heap.size + 1, 0, none⟩) (by show w.heap.size ≤ w1.heap.size + 1; omega) _).setCell (p := ⟨w1.heap.size + 1, 1, none⟩) (by show w.heap.size ≤ w1.heap.size + 1; omega) _
  have HZ := hideM (And.intro u1 (And.intro u2 (And.intro u3 hBZ)))
  have hl12 : w.heap.size ≤ w2.heap.size := by omega
  clear u1 u2 u3 hBZ v1 v2 v3 y1 y2 hB2 hne hne2 HX HBw hsX hl2
  go_upto_region 8 with fail
  rw [← hZ]
  clear hZ e0 e1 e2 e3
  have c0 : Z.cell? ⟨w1.heap.size, 0, none⟩ = some (.int .i64 mp) := by simp [World.cell?, HZ.out.1]
  have c1 : Z.cell? ⟨w1.heap.size, 1, none⟩ = some (.int .i64 mg) := by simp [World.cell?, HZ.out.1]
  have c2 : Z.cell? ⟨w1.heap.size, 2, none⟩ = some (.int .i64 ml) := by simp [World.cell?, HZ.out.1]
  have c3 : Z.cell? ⟨w1.heap.size, 3, none⟩ = some (.int .i64 mt) := by simp [World.cell?, HZ.out.1]
  have c4 : Z.cell? ⟨w1.heap.size, 4, none⟩ = some (.bool false) := by simp [World.cell?, HZ.out.1]
  have c5 : Z.cell? ⟨w1.heap.size, 5, none⟩ = some (.bool mo) := by simp [World.cell?, HZ.out.1]
  have c6 : Z.cell? ⟨w1.heap.size, 6, none⟩ = some (.bool me) := by simp [World.cell?, HZ.out.1]
  have g0 : Z.cell? ⟨w2.heap.size, 0, none⟩ = some (.int .i64 mp) := by simp [World.cell?, HZ.out.2.2.1]
  have g1 : Z.cell? ⟨w2.heap.size, 1, none⟩ = some (.int .i64 (mg + 1)) := by simp [World.cell?, HZ.out.2.2.1]
  have g2 : Z.cell? ⟨w2.heap.size, 2, none⟩ = some (.int .i64 ml) := by simp [World.cell?, HZ.out.2.2.1]
  have g3 : Z.cell? ⟨w2.heap.size, 3, none⟩ = some (.int .i64 mt) := by simp [World.cell?, HZ.out.2.2.1]
  have g4 : Z.cell? ⟨w2.heap.size, 4, none⟩ = some (.bool false) := by simp [World.cell?, HZ.out.2.2.1]
  have g5 : Z.cell? ⟨w2.heap.size, 5, none⟩ = some (.bool mo) := by simp [World.cell?, HZ.out.2.2.1]
  have g6 : Z.cell? ⟨w2.heap.size, 6, none⟩ = some (.bool me) := by simp [World.cell?, HZ.out.2.2.1]
  have d0 : Z.cell? ⟨w1.heap.size + 1, 0, none⟩ = some (.int .i64 0) := by simp [World.cell?, HZ.out.2.1]
  have gf : Z.frozen? ⟨w2.heap.size, 1, none⟩ = false := by simp [World.frozen?, HZ.out.2.2.1]
  have kgn : (mg + 1 != mg + 1) = false := by simp
  go_upto_region 11 with fail
  obtain ⟨Z2, hZ2⟩ : ∃ Z2, Z2 = Z.setCell ⟨w2.heap.size, 1, none⟩ (.int .i64 mg) := ⟨_, rfl⟩
  have t1 : Z2.heap[w1.heap.size]? = some (.cells #[.int .i64 mp, .int .i64 mg, .int .i64 ml, .int .i64 mt, .bool false, .bool mo, .bool me] 42 (0, 0)) := by rw [hZ2, put_far _ _ _ _ hne3]; exact HZ.out.1
  have t2 : Z2.heap[w1.heap.size + 1]? = some (.cells #[.int .i64 0, .int .i64 0] 30 (0, 0)) := by rw [hZ2, put_far _ _ _ _ hne4]; exact HZ.out.2.1
  have t3 : Z2.heap[w2.heap.size]? = some (.cells #[.int .i64 mp, .int .i64 mg, .int .i64 ml, .int .i64 mt, .bool false, .bool mo, .bool me] 42 (0, 0)) := by rw [hZ2]; exact put_same _ _ _ _ HZ.out.2.2.1
  have hBZ2 : Below w.heap.size w Z2 := by rw [hZ2]; exact HZ.out.2.2.2.setCell (p := ⟨w2.heap.size, 1, none⟩) (by show w.heap.size ≤ w2.heap.size; omega) _
  rw [← hZ2]
  have HT := hideM (And.intro t1 (And.intro t2 hBZ2))
  clear c0 g0 c1 g1 c2 g2 c3 g3 c4 g4 c5 g5 c6 g6 d0 gf kgn hZ2 HZ
  have c0 : Z2.cell? ⟨w1.heap.size, 0, none⟩ = some (.int .i64 mp) := by simp [World.cell?, t1]
  have c1 : Z2.cell? ⟨w1.heap.size, 1, none⟩ = some (.int .i64 mg) := by simp [World.cell?, t1]
  have c2 : Z2.cell? ⟨w1.heap.size, 2, none⟩ = some (.int .i64 ml) := by simp [World.cell?, t1]
  have c3 : Z2.cell? ⟨w1.heap.size, 3, none⟩ = some (.int .i64 mt) := by simp [World.cell?, t1]
  have c4 : Z2.cell? ⟨w1.heap.size, 4, none⟩ = some (.bool false) := by simp [World.cell?, t1]
  have c5 : Z2.cell? ⟨w1.heap.size, 5, none⟩ = some (.bool mo) := by simp [World.cell?, t1]
  have c6 : Z2.cell? ⟨w1.heap.size, 6, none⟩ = some (.bool me) := by simp [World.cell?, t1]
  have g0 : Z2.cell? ⟨w2.heap.size, 0, none⟩ = some (.int .i64 mp) := by simp [World.cell?, t3]
  have g1 : Z2.cell? ⟨w2.heap.size, 1, none⟩ = some (.int .i64 mg) := by simp [World.cell?, t3]
  have g2 : Z2.cell? ⟨w2.heap.size, 2, none⟩ = some (.int .i64 ml) := by simp [World.cell?, t3]
  have g3 : Z2.cell? ⟨w2.heap.size, 3, none⟩ = some (.int .i64 mt) := by simp [World.cell?, t3]
  have g4 : Z2.cell? ⟨w2.heap.size, 4, none⟩ = some (.bool false) := by simp [World.cell?, t3]
  have g5 : Z2.cell? ⟨w2.heap.size, 5, none⟩ = some (.bool mo) := by simp [World.cell?, t3]
  have g6 : Z2.cell? ⟨w2.heap.size, 6, none⟩ = some (.bool me) := by simp [World.cell?, t3]
  clear t1 t2 t3 hBZ2
  have hconv := conv_one Z2 (48 + k)
  rw [show ((48 + k : Nat) : Int) = 48 + (k : Int) by omega] at hconv
  have kd : IntKind.i64.wrap (48 + (k : Int)) = 48 + (k : Int) := by rw [IntKind.wrap_i64]; omega
  have kd2 : IntKind.u8.wrap (48 + (k : Int)) = ((48 + k : Nat) : Int) := by show (48 + (k : Int)) % 256 = _; omega
  go_upto_region 13 with fail
  clear g0 g1 g2 g3 g4 g5 g6
  go_wp2_with fail
  have hBC := HT.out.2.2.alloc HT.out.2.2.size (.cells #[.int .u8 (48 + (k : Int))] 5)
  obtain ⟨C, hC⟩ : ∃ C, C = Z2.alloc (.cells #[.int .u8 (48 + (k : Int))] 5) := ⟨_, rfl⟩
  have s1 : C.heap[w1.heap.size]? = some (.cells #[.int .i64 mp, .int .i64 mg, .int .i64 ml, .int .i64 mt, .bool false, .bool mo, .bool me] 42 (0, 0)) := by rw [hC]; exact (Below.heap_alloc _ _ _ (Array.getElem?_eq_some_iff.1 HT.out.1).1).trans HT.out.1
  have s2 : C.heap[w1.heap.size + 1]? = some (.cells #[.int .i64 0, .int .i64 0] 30 (0, 0)) := by rw [hC]; exact (Below.heap_alloc _ _ _ (Array.getElem?_eq_some_iff.1 HT.out.2.1).1).trans HT.out.2.1
  rw [← hC] at hBC ⊢
  clear hC HT c0 c1 c2 c3 c4 c5 c6 hconv
  rw [digit_eq k k5]
  refine (HO3.out C (hg.below hBC (Nat.le_refl _))).mono ?_
  rintro e' w3 ⟨rfl, hB3⟩
  have hBw3 := below_next hBC hB3
  have lt2 := (Array.getElem?_eq_some_iff.1 s2).1
  have r1 := (hB3.block _ (Array.getElem?_eq_some_iff.1 s1).1).trans s1
  have r2 := (hB3.block _ lt2).trans s2
  have hl3 := hB3.size
  have v1 : (w3.alloc (.cells #[.int .i64 ((k : Int) * mp), .int .i64 (mg + 1), .int .i64 ((k : Int) * ml), .int .i64 (mt * (k : Int)), .bool false, .bool mo, .bool me] 42)).heap[w1.heap.size]? = some (.cells #[.int .i64 mp, .int .i64 mg, .int .i64 ml, .int .i64 mt, .bool false, .bool mo, .bool me] 42 (0, 0)) := (Below.heap_alloc _ _ _ (by omega)).trans r1
  have v2 : (w3.alloc (.cells #[.int .i64 ((k : Int) * mp), .int .i64 (mg + 1), .int .i64 ((k : Int) * ml), .int .i64 (mt * (k : Int)), .bool false, .bool mo, .bool me] 42)).heap[w1.heap.size + 1]? = some (.cells #[.int .i64 0, .int .i64 0] 30 (0, 0)) := (Below.heap_alloc _ _ _ (by omega)).trans r2
  have v3 : (w3.alloc (.cells #[.int .i64 ((k : Int) * mp), .int .i64 (mg + 1), .int .i64 ((k : Int) * ml), .int .i64 (mt * (k : Int)), .bool false, .bool mo, .bool me] 42)).heap[w3.heap.size]? = some (.cells #[.int .i64 ((k : Int) * mp), .int .i64 (mg + 1), .int .i64 ((k : Int) * ml), .int .i64 (mt * (k : Int)), .bool false, .bool mo, .bool me] 42 (0, 0)) := heap_alloc_new w3 _
  have e0 : (w3.alloc (.cells #[.int .i64 ((k : Int) * mp), .int .i64 (mg + 1), .int .i64 ((k : Int) * ml), .int .i64 (mt * (k : Int)), .bool false, .bool mo, .bool me] 42)).cell? ⟨w1.heap.size + 1, 0, none⟩ = some (.int .i64 0) := by simp only [World.cell?, v2]; rfl
  have e1 : (w3.alloc (.cells #[.int .i64 ((k : Int) * mp), .int .i64 (mg + 1), .int .i64 ((k : Int) * ml), .int .i64 (mt * (k : Int)), .bool false, .bool mo, .bool me] 42)).cell? ⟨w1.heap.size + 1, 1, none⟩ = some (.int .i64 0) := by simp only [World.cell?, v2]; rfl
  have e2 : (w3.alloc (.cells #[.int .i64 ((k : Int) * mp), .int .i64 (mg + 1), .int .i64 ((k : Int) * ml), .int .i64 (mt * (k : Int)), .bool false, .bool mo, .bool me] 42)).frozen? ⟨w1.heap.size + 1, 0, none⟩ = false := by simp [World.frozen?, v2]
  have e3 : (w3.alloc (.cells #[.int .i64 ((k : Int) * mp), .int .i64 (mg + 1), .int .i64 ((k : Int) * ml), .int .i64 (mt * (k : Int)), .bool false, .bool mo, .bool me] 42)).frozen? ⟨w1.heap.size + 1, 1, none⟩ = false := by simp [World.frozen?, v2]
  have hne : w1.heap.size ≠ w1.heap.size + 1 := by omega
  have hne2 : w3.heap.size ≠ w1.heap.size + 1 := by omega
  obtain ⟨D, hD⟩ : ∃ D, D = ((w3.alloc (.cells #[.int .i64 ((k : Int) * mp), .int .i64 (mg + 1), .int .i64 ((k : Int) * ml), .int .i64 (mt * (k : Int)), .bool false, .bool mo, .bool me] 42)).setCell ⟨w1.heap.size + 1, 0, none⟩ (.int .i64 0)).setCell ⟨w1.heap.size + 1, 1, none⟩ (.int .i64 0) := ⟨_, rfl⟩
  have u1 : D.heap[w1.heap.size]? = some (.cells #[.int .i64 mp, .int .i64 mg, .int .i64 ml, .int .i64 mt, .bool false, .bool mo, .bool me] 42 (0, 0)) := by rw [hD, put_far _ _ _ _ hne, put_far _ _ _ _ hne]; exact v1
  have u2 : D.heap[w1.heap.size + 1]? = some (.cells #[.int .i64 0, .int .i64 0] 30 (0, 0)) := by rw [hD]; exact put_same _ _ _ _ (put_same _ _ _ _ v2)
  have u3 : D.heap[w3.heap.size]? = some (.cells #[.int .i64 ((k : Int) * mp), .int .i64 (mg + 1), .int .i64 ((k : Int) * ml), .int .i64 (mt * (k : Int)), .bool false, .bool mo, .bool me] 42 (0, 0)) := by rw [hD, put_far _ _ _ _ hne2, put_far _ _ _ _ hne2]; exact v3
  have hBD : Below w.heap.size w D := by
    rw [hD]
    exact ((hBw3.alloc hBw3.size _).setCell (p := ⟨w1.heap.size + 1, 0, none⟩) (by show w.heap.size ≤ w1.heap.size + 1; omega) _).setCell (p := ⟨w1.heap.size + 1, 1, none⟩) (by show w.heap.size ≤ w1.heap.size + 1; omega) _
  have HD := hideM (And.intro u1 (And.intro u2 (And.intro u3 hBD)))
  clear u1 u2 u3 hBD v1 v2 v3 r1 r2 s1 s2 hB3 hBw3 hBC hl3 lt2 hne hne2 hne3 hne4
  go_upto_region 14 with fail
  rw [← hD]
  clear hD e0 e1 e2 e3
  have c0 : D.cell? ⟨w1.heap.size, 0, none⟩ = some (.int .i64 mp) := by simp [World.cell?, HD.out.1]
  have c1 : D.cell? ⟨w1.heap.size, 1, none⟩ = some (.int .i64 mg) := by simp [World.cell?, HD.out.1]
  have c2 : D.cell? ⟨w1.heap.size, 2, none⟩ = some (.int .i64 ml) := by simp [World.cell?, HD.out.1]
  have c3 : D.cell? ⟨w1.heap.size, 3, none⟩ = some (.int .i64 mt) := by simp [World.cell?, HD.out.1]
  have c4 : D.cell? ⟨w1.heap.size, 4, none⟩ = some (.bool false) := by simp [World.cell?, HD.out.1]
  have c5 : D.cell? ⟨w1.heap.size, 5, none⟩ = some (.bool mo) := by simp [World.cell?, HD.out.1]
  have c6 : D.cell? ⟨w1.heap.size, 6, none⟩ = some (.bool me) := by simp [World.cell?, HD.out.1]
  have o0 : D.cell? ⟨w3.heap.size, 0, none⟩ = some (.int .i64 ((k : Int) * mp)) := by simp [World.cell?, HD.out.2.2.1]
  have o1 : D.cell? ⟨w3.heap.size, 1, none⟩ = some (.int .i64 (mg + 1)) := by simp [World.cell?, HD.out.2.2.1]
  have o2 : D.cell? ⟨w3.heap.size, 2, none⟩ = some (.int .i64 ((k : Int) * ml)) := by simp [World.cell?, HD.out.2.2.1]
  have o3 : D.cell? ⟨w3.heap.size, 3, none⟩ = some (.int .i64 (mt * (k : Int))) := by simp [World.cell?, HD.out.2.2.1]
  have o4 : D.cell? ⟨w3.heap.size, 4, none⟩ = some (.bool false) := by simp [World.cell?, HD.out.2.2.1]
  have o5 : D.cell? ⟨w3.heap.size, 5, none⟩ = some (.bool mo) := by simp [World.cell?, HD.out.2.2.1]
  have o6 : D.cell? ⟨w3.heap.size, 6, none⟩ = some (.bool me) := by simp [World.cell?, HD.out.2.2.1]
  have d0 : D.cell? ⟨w1.heap.size + 1, 0, none⟩ = some (.int .i64 0) := by simp [World.cell?, HD.out.2.1]
  go_wp2
  go_ret
  exact ⟨rfl, HD.out.2.2.2⟩
end wraps
end Go.Proofs.Ytgpciekpmdihnaa
/- MeasureWraps: the walk, of every text. -/
namespace Go.Proofs.Ytgpciekpmdihnaa
open Go.RowKit
namespace wraps
theorem walk (s : ByteArray) (z : Int) (hz : 0 ≤ z ∧ z ≤ 255) (w : World) (hg : Glob w) : Calls Try.prog 8 #[.string s, .int .u8 z] w fun e w' => e = .returned (.bool true) ∧ Below w.heap.size w w' := by
  have hw := of_wraps s (z.toNat % 5) (Nat.mod_lt _ (by omega))
  obtain ⟨⟨⟨mp, mg, ml, mt, mb, mo, me⟩, er, p⟩, hm⟩ : ∃ x, ofM s = x := ⟨_, rfl⟩
  rw [hm] at hw
  simp only at hw
  by_cases he : er = 0
  · subst he
    cases mb with
    | true => exact walk_back s z hz hm w hg
    | false =>
      by_cases h8 : 8 < mg
      · exact walk_groups s z hz hm h8 w hg
      · by_cases hl : 490 < (s.size : Int)
        · exact walk_long s z hz hm h8 hl w hg
        · obtain ⟨hf, h1, h3⟩ := hw rfl rfl (by omega) (by omega)
          have hk3 : ((z.toNat % 5 : Nat) : Int) = z % 5 := by omega
          generalize z.toNat % 5 = k at hk3 h3
          rcases h3 with ⟨q, h3, hb⟩ | h3
          · exact walk_big s z hz hm h8 hl hf h1 hk3 h3 hb w hg
          · have ew : wrM (k : Int) k = k := by unfold wrM; rw [if_neg (by omega)]
            have e3 : (⟨mp, mg, ml, mt, false, mo, me⟩ : Ms).grp.rep k k = ⟨(k : Int) * mp, mg + 1, (k : Int) * ml, prodM k mt, false, mo, me⟩ := by
              show (⟨mp * wrM k k, mg + 1, ml * k, prodM k mt, false, mo, me⟩ : Ms) = _
              rw [ew, Int.mul_comm mp, Int.mul_comm ml]
            rw [e3] at h3
            by_cases ht : mt < 0
            · have hm1 : mt = -1 := by
                have := hf.2.2.2.1
                simp only at this
                omega
              by_cases hk0 : 0 < k
              · have e4 : prodM k mt = -1 := by
                  unfold prodM
                  rw [if_neg (by omega), if_pos (.inr hm1)]
                rw [e4] at h3
                exact walk_inf s z hz hm h8 hl hf h1 hk3 h3 ht (by omega) w hg
              · have e4 : prodM k mt = mt * k := by
                  have : (k : Int) = 0 := by omega
                  unfold prodM
                  rw [if_pos (.inl this), this, Int.mul_zero]
                rw [e4] at h3
                exact walk_none s z hz hm h8 hl hf h1 hk3 h3 ht (eq_false hk0) w hg
            · have e4 : prodM k mt = mt * k := by
                unfold prodM
                by_cases c : (k : Int) = 0 ∨ mt = 0
                · rw [if_pos c]
                  rcases c with c | c
                  · rw [c, Int.mul_zero]
                  · rw [c, Int.zero_mul]
                · rw [if_neg c, if_neg (by omega), Int.mul_comm]
              rw [e4] at h3
              exact walk_fin s z hz hm h8 hl hf h1 hk3 h3 (eq_false ht) w hg
  · exact walk_err s z hz hm he w hg
end wraps
end Go.Proofs.Ytgpciekpmdihnaa
