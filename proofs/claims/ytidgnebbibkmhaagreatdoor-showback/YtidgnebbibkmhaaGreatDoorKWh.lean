/- show: texts exchanged, delimiters looked for. -/
import Derived.Test.YtidgnebbibkmhaaGreatDoorKWg
import Derived.Test.YtidgnebbibkmhaaGreatDoorKWf
import Derived.Test.YtidgnebbibkmhaaGreatDoorKShw
import Derived.Test.YtidgnebbibkmhaaGreatDoorKXw1
import Derived.Lib.SplitLaws
set_option maxRecDepth 100000
set_option maxHeartbeats 4000000
namespace Go.Proofs.YtidgnebbibkmhaaGreatDoor
open Go.RowKit
open scanP scrP tpl ytb
namespace sho

/-- What the library's functions read. -/
def Tab (w : World) : Prop := Lib.TabIs Tryz.prog w "internal/strconv.uint64pow10" .u64 Lib.pow10Tab
theorem tab_num : Tryz.prog.globalNamed "internal/strconv.uint64pow10" = some 2 := by kernel_rfl
structure Gs (w : World) : Prop where
  m : ∃ m : Int, w.cell? ⟨1, 0, none⟩ = some (.int .i64 m)
  t : Tab w
theorem Gs.keep {w w' : World} (h : Gs w) (h1 : w'.heap[1]? = w.heap[1]?) (h2 : w'.heap[2]? = w.heap[2]?) : Gs w' := by
  obtain ⟨⟨m, h3⟩, h4⟩ := h
  refine ⟨⟨m, (World.cell?_of_block (a := ⟨1, 0, none⟩) h1).trans h3⟩, ?_⟩
  unfold Tab Lib.TabIs World.var? at *
  rw [tab_num] at h4 ⊢
  simp only [Option.bind_some] at h4 ⊢
  rw [h2]
  exact h4
theorem Gs.below {w w' : World} {B : Nat} (h : Gs w) (hb : Below B w w') (hB : 2 < B) : Gs w' := h.keep (hb.block 1 (by omega)) (hb.block 2 hB)
theorem below_growN (w : World) (k : Nat) (os : Array Obj) : Below w.heap.size w (Go.Sort.grow (w.drewN k) os) :=
  ⟨rfl, rfl, rfl, by show w.heap.size ≤ (w.heap ++ os).size; rw [Array.size_append]; omega, fun j hj => by show (w.heap ++ os)[j]? = w.heap[j]?; exact Array.getElem?_append_left hj⟩
/-- A byte exchanged. -/
def rpB (c : UInt8) (new : List UInt8) : List UInt8 → List UInt8
  | [] => []
  | b :: r => (if b = c then new else [b]) ++ rpB c new r
theorem index_ne {b c : UInt8} (h : b ≠ c) (l : List UInt8) : Lib.index (b :: l) [c] = if Lib.index l [c] == -1 then -1 else Lib.index l [c] + 1 := by
  rw [Lib.index, if_neg (by simp [Ne.symm h])]
theorem repK_ne {b c : UInt8} (h : b ≠ c) (new : List UInt8) (k : Nat) (l : List UInt8) : Lib.replaceK [c] new k (b :: l) = b :: Lib.replaceK [c] new k l := by
  cases k with
  | zero => rfl
  | succ k =>
    rw [Lib.replaceK, Lib.replaceK, index_ne h]
    have hg := Lib.index_ge l [c]
    by_cases h1 : Lib.index l [c] = -1
    · rw [h1]; rfl
    · have h2 : (Lib.index l [c] == -1) = false := by simpa using h1
      obtain ⟨n, hn⟩ : ∃ n : Nat, Lib.index l [c] = n := ⟨(Lib.index l [c]).toNat, by omega⟩
      rw [h2, hn]
      have h3 : (((n : Int) + 1) == -1) = false := by rw [beq_eq_false_iff_ne]; omega
      have e : ((n : Int) + 1).toNat = n + 1 := by omega
      simp only [Bool.false_eq_true, if_false, h3, e, Int.toNat_natCast, List.length_singleton]
      rfl
theorem repK_eq (c : UInt8) (new : List UInt8) (k : Nat) (l : List UInt8) : Lib.replaceK [c] new (k + 1) (c :: l) = new ++ Lib.replaceK [c] new k l := by
  have e : Lib.index (c :: l) [c] = 0 := by rw [Lib.index, if_pos (by simp)]
  rw [Lib.replaceK, e]
  rfl
theorem rep_one {c : UInt8} {new : List UInt8} (hn : [c] ≠ new) (l : List UInt8) : Lib.replaceAll l [c] new = rpB c new l := by
  unfold Lib.replaceAll Lib.replace Lib.replaceNum
  rw [if_neg (by simpa using hn), if_pos (.inl (by decide))]
  induction l with
  | nil => rfl
  | cons b l ih =>
    unfold rpB
    by_cases h : b = c
    · subst h
      rw [if_pos rfl, Lib.count_cons_eq, Nat.add_comm, repK_eq, ih]
    · rw [if_neg h, Lib.count_cons_ne b c l h, repK_ne h, ih]
      rfl
theorem rp_two (nl : List UInt8) : ∀ l : List UInt8, rpB 10 nl (rpB 92 [92, 92] l) = eN nl l
  | [] => rfl
  | b :: r => by
    have ih := rp_two nl r
    have app : ∀ x y : List UInt8, rpB 10 nl (x ++ y) = rpB 10 nl x ++ rpB 10 nl y := by
      intro x y
      induction x with
      | nil => rfl
      | cons c x ihx => simp only [List.cons_append, rpB, ihx, List.append_assoc]
    rw [rpB, eN, app, ih]
    by_cases h : b = 92
    · rw [if_pos h, if_pos h]; rfl
    · rw [if_neg h, if_neg h]
      by_cases h2 : b = 10
      · rw [if_pos h2, h2]; simp [rpB]
      · rw [if_neg h2]; simp [rpB, h2]
theorem rpB_len (c : UInt8) (new : List UInt8) (h : new.length ≤ 2) : ∀ l : List UInt8, (rpB c new l).length ≤ 2 * l.length
  | [] => Nat.le_refl _
  | b :: r => by
    have ih := rpB_len c new h r
    rw [rpB, List.length_append, List.length_cons]
    split
    · omega
    · simp only [List.length_singleton]; omega
theorem xkb (s nl : ByteArray) (w : World) (hs : s.size ≤ 1000000) (hn : nl.size = 2) (hg : Gs w) (hw : 2 < w.heap.size) :
    Calls Tryz.prog 67 #[.string s, .string nl] w fun e w' => e = .returned (.string (bst (eN nl.data.toList s.data.toList))) ∧ Below w.heap.size w w' := by
  obtain ⟨⟨m, hm⟩, -⟩ := id hg
  have c1 := Tryz.strings_ReplaceAll s ⟨#[92]⟩ ⟨#[92, 92]⟩ m w (by omega) hm (by decide) (by have := Lib.countB_le ⟨#[92]⟩ (by decide) s.size s (Nat.le_refl _); have e : (⟨#[92, 92]⟩ : ByteArray).size = 2 := rfl; rw [e]; omega)
  rw [show (⟨#[92]⟩ : ByteArray).data.toList = [92] from rfl, show (⟨#[92, 92]⟩ : ByteArray).data.toList = [92, 92] from rfl, rep_one (by decide)] at c1
  have hl := rpB_len 92 [92, 92] (by decide) s.data.toList
  have hsl : s.data.toList.length = s.size := Array.length_toList
  rw [hsl] at hl
  have c2 : ∀ w', Below w.heap.size w w' → Calls Tryz.prog 85 #[.string ⟨(rpB 92 [92, 92] s.data.toList).toArray⟩, .string ⟨#[10]⟩, .string nl] w' fun e w'' => e = .returned (.string (bst (eN nl.data.toList s.data.toList))) ∧ Below w'.heap.size w' w'' := fun w' hb => by
    obtain ⟨⟨m, hm⟩, -⟩ := hg.below hb hw
    have hz : (⟨(rpB 92 [92, 92] s.data.toList).toArray⟩ : ByteArray).size = (rpB 92 [92, 92] s.data.toList).length := by simp [ByteArray.size]
    have c := Tryz.strings_ReplaceAll ⟨(rpB 92 [92, 92] s.data.toList).toArray⟩ ⟨#[10]⟩ nl m w' (by omega) hm (by decide) (by have := Lib.countB_le ⟨#[10]⟩ (by decide) _ ⟨(rpB 92 [92, 92] s.data.toList).toArray⟩ (Nat.le_refl _); rw [hn]; omega)
    rw [show (⟨#[10]⟩ : ByteArray).data.toList = [10] from rfl, rep_one (by intro e; have h2 := congrArg List.length e; rw [show nl.data.toList.length = nl.size from Array.length_toList, hn] at h2; cases h2), show (⟨(rpB 92 [92, 92] s.data.toList).toArray⟩ : ByteArray).data.toList = rpB 92 [92, 92] s.data.toList by simp, rp_two] at c
    exact c
  have C1 := hideT c1
  have C2 := hideT c2
  clear c1 c2 hl hsl hm hg
  go_enter Tryz.func67, Tryz.ntmps67
  go_wp2_with fail
  refine C1.out.mono ?_
  rintro e w1 ⟨rfl, hb1⟩
  have H1 := hideT hb1
  clear hb1
  go_wp2_with fail
  refine (C2.out w1 H1.out).mono ?_
  rintro e w2 ⟨rfl, hb2⟩
  go_wp2
  go_ret
  exact ⟨rfl, H1.out.trans (hb2.mono H1.out.size)⟩

end sho
end Go.Proofs.YtidgnebbibkmhaaGreatDoor
