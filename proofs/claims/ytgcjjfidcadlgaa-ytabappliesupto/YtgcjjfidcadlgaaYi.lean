/- ytab: awake; the walk of YtabPieces. -/
import Derived.Test.YtgcjjfidcadlgaaYh
import Derived.Test.YtgcjjfidcadlgaaYc
namespace Go.Proofs.Ytgcjjfidcadlgaa
open Go.RowKit

/-- The table that New makes, and its error's number. -/
def newT (l m : List UInt8) : Nat → UInt8 := if l.length ≠ m.length ∨ twB l = true then fun _ => 0 else fun i => valL l m i (UInt8.ofNat i)
def newE (l m : List UInt8) : Nat := if l.length ≠ m.length ∨ twB l = true then 21 else 0
theorem newR_eq (l m : List UInt8) : newR l m = (btF (newT l m), newE l m) := by
  unfold newR newT newE
  split <;> rfl
theorem bt_one (T : Nat → UInt8) : ∀ v ∈ arV (btF T), v.oneCell' = true := by
  intro v hv
  simp only [arV, List.mem_map] at hv
  obtain ⟨i, _, rfl⟩ := hv
  rfl
theorem newC (f t : ByteArray) (hs : f.size ≤ 140737488355000) (w : World) {A : Array Value} (hA : A = (arV (btF (newT f.data.toList t.data.toList))).toArray) :
    Calls Try.prog 10 #[.string f, .string t] w fun e w' => e = .returned (.tuple #[.agg A, .int .i64 (newE f.data.toList t.data.toList : Nat)]) ∧ Below w.heap.size w w' := by
  have h := new_any f t hs w
  rw [newR_eq] at h
  rw [hA]
  exact h
theorem docNewC (f t : ByteArray) (hs : f.size ≤ 140737488355000) (w : World) {A : Array Value} (hA : A = (arV (btF (newT f.data.toList t.data.toList))).toArray) :
    Calls Try.prog 11 #[.string f, .string t] w fun e w' => e = .returned (.tuple #[.agg A, .int .i64 (newE f.data.toList t.data.toList : Nat)]) ∧ Below w.heap.size w w' := by
  have h := docNew_any f t hs w
  rw [newR_eq] at h
  rw [hA]
  exact h
theorem applyC (T : Nat → UInt8) (s : ByteArray) (hs : s.size ≤ 140737488355000) (w : World) {A : Array Value} (hA : A = (arV (btF T)).toArray) :
    Calls Try.prog 12 #[.agg A, .string s] w fun e w' => e = .returned (.string (bst (appL T s.data.toList))) ∧ Below w.heap.size w w' := by
  rw [hA]
  exact apply_any T s hs w
theorem docApplyC (T : Nat → UInt8) (s : ByteArray) (hs : s.size ≤ 140737488355000) (w : World) {A : Array Value} (hA : A = (arV (btF T)).toArray) :
    Calls Try.prog 13 #[.agg A, .string s] w fun e w' => e = .returned (.string (bst (appL T s.data.toList))) ∧ Below w.heap.size w w' := by
  rw [hA]
  exact docApply_any T s hs w
/-- A table is laid into a new variable. -/
theorem var_store (T : Nat → UInt8) (w2 : World) {Z Z0 : Array Value} (hZ : Z = (arV (btF T)).toArray) (hZ0 : Z0 = (arV fun _ => .int .u8 0).toArray) :
    ∃ W3, (storeCells ⟨w2.heap.size, 0, none⟩ Z.toList 0).run Try.prog (w2.alloc (.cells Z0 31)) = .ok () W3 ∧ ArAt W3 w2.heap.size 31 (btF T) ∧ Below w2.heap.size w2 W3 ∧ W3.heap.size = w2.heap.size + 1 := by
  have hN := ArAt.new w2 31 (fun _ => .int .u8 0)
  rw [← hZ0] at hN
  obtain ⟨W3, h1, h2, -, h4, h5⟩ := table_store (g := btF T) hN (bt_one T) hZ
  exact ⟨W3, h1, h2, h5 _ _ (Nat.le_refl _) ((Below.refl _ w2).alloc (Nat.le_refl _) _), by rw [h4]; simp⟩
theorem sizeA {T : Nat → UInt8} {A : Array Value} (hA : A = (arV (btF T)).toArray) : A.size = 256 := by rw [hA]; simp [arV_len]
theorem zero31 {Z0 : Array Value} (hZ0 : Z0 = (arV fun _ => .int .u8 0).toArray) : ∀ w, (zeroValue 31).run Try.prog w = .ok (.agg Z0) w := by rw [hZ0]; exact (zero_of_info inf31).1
theorem rangeA {T : Nat → UInt8} {W : World} {b : Nat} {A : Array Value} (hA : A = (arV (btF T)).toArray) (h : ArAt W b 31 (btF T)) : W.rangeAt b 0 A.toList := by rw [hA]; exact range_block h

theorem aw_piece : pieceR [97, 92, 110, 92, 92] = ([97, 10, 92], 0, 0) := by
  unfold pieceR
  rw [pc_pl _ _ _ _ (by decide), pc_n _ _ _ _ _ (by decide) (by decide), pc_esc _ _ _ _ _ (by decide) (by decide) (by unfold alnB; decide), pc_nil]
  rfl
theorem aw_new : newE [97, 98] [98, 97] = 0 := by decide
theorem aw_apply : appL (newT [97, 98] [98, 97]) [97, 98, 99] = [98, 97, 99] := by decide

set_option maxRecDepth 100000 in
set_option maxHeartbeats 2000000 in
theorem awake_any (w : World) : Calls Try.prog 9 #[] w fun e w' => e = .returned (.bool true) ∧ Below w.heap.size w w' := by
  have hp := piece_any ⟨#[97, 92, 110, 92, 92]⟩ (by decide) w
  rw [show (⟨#[97, 92, 110, 92, 92]⟩ : ByteArray).data.toList = [97, 92, 110, 92, 92] from rfl, aw_piece, show bst [97, 10, 92] = ⟨#[97, 10, 92]⟩ from rfl] at hp
  have HP := hideT hp
  obtain ⟨A, hA⟩ : ∃ A, A = (arV (btF (newT [97, 98] [98, 97]))).toArray := ⟨_, rfl⟩
  obtain ⟨Z, hZ⟩ : ∃ Z, Z = (arV fun _ => .int .u8 0).toArray := ⟨_, rfl⟩
  have hz := zero31 hZ
  have hAs := sizeA hA
  have HN := hideT (fun w => newC ⟨#[97, 98]⟩ ⟨#[98, 97]⟩ (by decide) w hA)
  have HV := hideT (fun w2 => var_store (newT [97, 98] [98, 97]) w2 hA hZ)
  have HQ := hideT (fun w => applyC (newT [97, 98] [98, 97]) ⟨#[97, 98, 99]⟩ (by decide) w hA)
  have HR := hideT (fun W b (h : ArAt W b 31 (btF (newT [97, 98] [98, 97]))) => rangeA hA h)
  clear hp hA hZ
  go_enter Try.func9, Try.ntmps9
  go_wp2_with fail
  refine HP.out.mono ?_
  rintro e w1 ⟨rfl, hb1⟩
  have hA1 := (Below.refl w1.heap.size w1).alloc (Nat.le_refl _) (.cells #[.int .i64 0, .int .i64 0] 24)
  have hN1 := heap_alloc_new w1 (.cells #[.int .i64 0, .int .i64 0] 24)
  have H1 := hideT (And.intro hb1 (And.intro hA1 hN1))
  clear hb1 hA1 hN1
  go_wp2_with fail
  refine (HN.out _).mono ?_
  rw [show newE (⟨#[97, 98]⟩ : ByteArray).data.toList (⟨#[98, 97]⟩ : ByteArray).data.toList = 0 from aw_new]
  rintro e w2 ⟨rfl, hb2⟩
  obtain ⟨W3, hst, hT3, hb3, hs3⟩ := HV.out w2
  have f2 := (hb2.block _ (by simp)).trans H1.out.2.2
  have hlt2 : w1.heap.size < w2.heap.size := by have := hb2.size; simp at this; omega
  have f3 := (hb3.block _ hlt2).trans f2
  have u0 : W3.cell? ⟨w1.heap.size, 0, none⟩ = some (.int .i64 0) := by simp [World.cell?, f3]
  have hX := H1.out.1.trans ((H1.out.2.1.trans (hb2.mono H1.out.2.1.size)).mono H1.out.1.size)
  have H3 := hideT (And.intro hT3 (hX.trans (hb3.mono hX.size)))
  clear hT3 hb3 hs3 f2 f3 hlt2 hb2 hX
  go_wp2_with fail
  refine wp_load_mid 31 _ rfl w2.heap.size 0 rfl A.toList _ (HR.out _ _ H3.out.1) und31 rfl (by rw [info31]; simp [hAs]) ?_
  rw [show A.toList.toArray = A from Array.toArray_toList]
  go_wp2_with fail
  refine (HQ.out _).mono ?_
  rw [show appL (newT [97, 98] [98, 97]) (⟨#[97, 98, 99]⟩ : ByteArray).data.toList = [98, 97, 99] from aw_apply, show bst [98, 97, 99] = ⟨#[98, 97, 99]⟩ from rfl]
  rintro e w4 ⟨rfl, hb4⟩
  have H4 := hideT (H3.out.2.trans (hb4.mono H3.out.2.size))
  clear hb4 u0 hst
  go_wp2
  go_ret
  exact ⟨rfl, H4.out⟩

set_option maxRecDepth 100000 in
set_option maxHeartbeats 2000000 in
theorem pieces_walk (s : ByteArray) (hs : s.size ≤ 140737488355000) (w : World) : Calls Try.prog 3 #[.string s] w fun e w' => e = .returned (.bool true) ∧ Below w.heap.size w w' := by
  have HP := hideT (piece_any s hs w)
  have HD := hideT (docPiece_any s hs)
  generalize pieceR s.data.toList = R at *
  obtain ⟨x, er, at'⟩ := R
  simp only at HP HD
  generalize bst x = bx at *
  go_enter Try.func3, Try.ntmps3
  go_wp2_with fail
  refine HP.out.mono ?_
  rintro e w1 ⟨rfl, hb1⟩
  have hA1 := (Below.refl w1.heap.size w1).alloc (Nat.le_refl _) (.cells #[.int .i64 (er : Nat), .int .i64 (at' : Nat)] 24)
  have hN := heap_alloc_new w1 (.cells #[.int .i64 (er : Nat), .int .i64 (at' : Nat)] 24)
  have H1 := hideT (And.intro hb1 (And.intro hA1 hN))
  clear hb1 hA1 hN
  go_wp2_with fail
  refine (HD.out _).mono ?_
  rintro e w2 ⟨rfl, hb2⟩
  have H2 := hideT hb2
  clear hb2
  go_wp2_with fail
  refine (awake_any _).mono ?_
  rintro e w3 ⟨rfl, hb3⟩
  have hX : Below w1.heap.size w1 w2 := H1.out.2.1.trans (H2.out.mono H1.out.2.1.size)
  have hs1 : w1.heap.size < w2.heap.size := by have := H2.out.size; simp at this; omega
  have f3 : w3.heap[w1.heap.size]? = some (.cells #[.int .i64 (er : Nat), .int .i64 (at' : Nat)] 24 (0, 0)) := (hb3.block _ hs1).trans ((H2.out.block _ (by simp)).trans H1.out.2.2)
  have u0 : w3.cell? ⟨w1.heap.size, 0, none⟩ = some (.int .i64 (er : Nat)) := by simp [World.cell?, f3]
  have u1 : w3.cell? ⟨w1.heap.size, 1, none⟩ = some (.int .i64 (at' : Nat)) := by simp [World.cell?, f3]
  have H4 := hideT (H1.out.1.trans ((hX.trans (hb3.mono hX.size)).mono H1.out.1.size))
  clear f3 hb3 hX hs1
  go_wp2
  go_ret
  exact ⟨rfl, H4.out⟩

end Go.Proofs.Ytgcjjfidcadlgaa
