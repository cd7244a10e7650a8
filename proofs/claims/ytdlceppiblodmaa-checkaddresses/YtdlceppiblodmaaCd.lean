/- check: IndexByte, mostAddresses, isMisaddressed. -/
import Derived.Test.YtdlceppiblodmaaRows
import Derived.Test.YtdlceppiblodmaaCa
import Derived.WalkKit
import Derived.WalkSpells
import Derived.WalkLawsBesides
import Derived.BigQuiet
import Derived.Deep.Cut
import Derived.Laws.StructEq
import Derived.Lib.Strings
import Derived.Lib.Bytealg
import Derived.OwnWalk
import Derived.Deep.RegionWith
import Derived.Deep.QuietTactic
namespace Go.Proofs.Ytdlceppiblodmaa
open Go.RowKit
open chkP

theorem hideT {p : Prop} (h : p) : Hid p := h
theorem dat_at (s : ByteArray) (k : Nat) (h : k < s.size) : s.data.toList[k]'h = s[k]'h := rfl
theorem ne_byte (b : UInt8) (k : Nat) (hk : k < 256) (h : b ≠ UInt8.ofNat k) : ((b.toNat : Int) == (k : Int)) = false := by
  rw [beq_eq_false_iff_ne]
  intro e
  refine h (UInt8.toNat_inj.1 ?_)
  have : (UInt8.ofNat k).toNat = k := by simp; omega
  omega
theorem below_drewN (B : Nat) (W : World) (n : Nat) : Below B W (W.drewN n) := { os := rfl, tape := rfl, output := rfl, size := Nat.le_refl _, block := fun _ _ => rfl }
theorem keep_cell {W w1 : World} {a : Addr} {v : Value} (hb : Below W.heap.size W w1) (h : W.cell? a = some v) : w1.cell? a = some v := (World.cell?_of_block (hb.block _ (World.block_lt_of_cell? W a h))).trans h

set_option maxRecDepth 100000 in
set_option maxHeartbeats 1000000 in
theorem index_any (s : ByteArray) (c : Int) (w : World) : Calls Try.prog 18 #[.string s, .int .u8 c] w fun e w' => e = .returned (.int .i64 (Lib.indexByte s.data.toList c.toNat.toUInt8)) ∧ w' = w := by
  have h : (callFunc 26 #[.string s, .int .u8 c]).run Try.prog w = .ok (.value (.int .i64 (Lib.indexByte s.data.toList c.toNat.toUInt8))) w := by
    rw [run_callFunc_extern Try.func26 (by kernel_rfl) (by kernel_rfl) (by kernel_rfl) (e := Extern.BytealgIndexByte.indexByte) (by kernel_rfl), Lib.run_indexByteString]
    rfl
  go_enter Try.func18, Try.ntmps18
  go_wp2
  go_ret
  exact ⟨rfl, rfl⟩

/-- Is a name one of the commands'? -/
def nameB (b : UInt8) : Bool := ([123, 125, 97, 98, 99, 100, 68, 103, 71, 104, 72, 105, 108, 110, 78, 112, 80, 113, 114, 115, 116, 119, 120, 121, 61, 58] : List UInt8).contains b
def mostN (b : UInt8) : Nat := if ([58, 125] : List UInt8).contains b then 0 else if ([97, 105, 114, 113, 61] : List UInt8).contains b then 1 else 2
def misB (m : Nat) (a b n : Bool) : Bool := (b && (decide (m < 2) || !a)) || (decide (m = 0) && (a || n))
def adrB (x : UInt8) (a b n : Bool) : Nat :=
  if ([58, 125] : List UInt8).contains x then (if a || b || n then 17 else 0)
  else if ([97, 105, 114, 113, 61] : List UInt8).contains x then (if b then 17 else 0)
  else if ([123, 98, 99, 100, 68, 103, 71, 104, 72, 108, 110, 78, 112, 80, 115, 116, 119, 120, 121] : List UInt8).contains x then (if b && !a then 17 else 0)
  else 18
theorem adr_bools (c : Cm) : adrR c = adrB c.nm (decide (c.ak ≠ 0)) (decide (c.bk ≠ 0)) c.nt := by
  unfold adrR adrB
  by_cases h1 : c.ak = 0 <;> by_cases h2 : c.bk = 0 <;> cases h3 : c.nt <;> simp [h1, h2]
theorem adr_names : ∀ k, k < 256 → ∀ a b n, adrB (UInt8.ofNat k) a b n = (if nameB (UInt8.ofNat k) = false then 18 else if misB (mostN (UInt8.ofNat k)) a b n = true then 17 else 0) := by decide +kernel
theorem adr_prog (c : Cm) : adrR c = (if nameB c.nm = false then 18 else if misB (mostN c.nm) (decide (c.ak ≠ 0)) (decide (c.bk ≠ 0)) c.nt = true then 17 else 0) := by
  have h := adr_names c.nm.toNat c.nm.toNat_lt (decide (c.ak ≠ 0)) (decide (c.bk ≠ 0)) c.nt
  rw [UInt8.ofNat_toNat] at h
  rw [adr_bools, h]
theorem index_name : ∀ k, k < 256 → (Lib.indexByte [123, 125, 97, 98, 99, 100, 68, 103, 71, 104, 72, 105, 108, 110, 78, 112, 80, 113, 114, 115, 116, 119, 120, 121, 61, 58] (UInt8.ofNat k) < 0) = (nameB (UInt8.ofNat k) = false) := by
  have h : ∀ k, k < 256 → (decide (Lib.indexByte [123, 125, 97, 98, 99, 100, 68, 103, 71, 104, 72, 105, 108, 110, 78, 112, 80, 113, 114, 115, 116, 119, 120, 121, 61, 58] (UInt8.ofNat k) < 0)) = !nameB (UInt8.ofNat k) := by decide +kernel
  intro k hk
  have := h k hk
  rw [eq_iff_iff]
  rw [Bool.eq_iff_iff] at this
  simpa using this

set_option maxRecDepth 100000 in
set_option maxHeartbeats 1000000 in
theorem most_any (b : UInt8) (w : World) : Calls Try.prog 25 #[.int .u8 (b.toNat : Nat)] w fun e w' => e = .returned (.int .i64 (mostN b : Nat)) ∧ w' = w := by
  by_cases h0 : b = 58
  · subst h0; go_enter Try.func25, Try.ntmps25; go_wp2; go_ret; exact ⟨rfl, rfl⟩
  by_cases h1 : b = 125
  · subst h1; go_enter Try.func25, Try.ntmps25; go_wp2; go_ret; exact ⟨rfl, rfl⟩
  by_cases h2 : b = 97
  · subst h2; go_enter Try.func25, Try.ntmps25; go_wp2; go_ret; exact ⟨rfl, rfl⟩
  by_cases h3 : b = 105
  · subst h3; go_enter Try.func25, Try.ntmps25; go_wp2; go_ret; exact ⟨rfl, rfl⟩
  by_cases h4 : b = 114
  · subst h4; go_enter Try.func25, Try.ntmps25; go_wp2; go_ret; exact ⟨rfl, rfl⟩
  by_cases h5 : b = 113
  · subst h5; go_enter Try.func25, Try.ntmps25; go_wp2; go_ret; exact ⟨rfl, rfl⟩
  by_cases h6 : b = 61
  · subst h6; go_enter Try.func25, Try.ntmps25; go_wp2; go_ret; exact ⟨rfl, rfl⟩
  have n0 : ((b.toNat : Int) == 58) = false := ne_byte b 58 (by decide) h0
  have n1 : ((b.toNat : Int) == 125) = false := ne_byte b 125 (by decide) h1
  have n2 : ((b.toNat : Int) == 97) = false := ne_byte b 97 (by decide) h2
  have n3 : ((b.toNat : Int) == 105) = false := ne_byte b 105 (by decide) h3
  have n4 : ((b.toNat : Int) == 114) = false := ne_byte b 114 (by decide) h4
  have n5 : ((b.toNat : Int) == 113) = false := ne_byte b 113 (by decide) h5
  have n6 : ((b.toNat : Int) == 61) = false := ne_byte b 61 (by decide) h6
  have HV := hideT (show mostN b = 2 by unfold mostN; simp [h0, h1, h2, h3, h4, h5, h6])
  clear h0 h1 h2 h3 h4 h5 h6
  go_enter Try.func25, Try.ntmps25
  go_wp2
  go_ret
  exact ⟨by rw [HV.out]; rfl, rfl⟩

set_option maxRecDepth 100000 in
set_option maxHeartbeats 4000000 in
theorem mis_any (c : Cm) (g o : Nat) (W : World) (c1 : W.cell? ⟨g, o + 1, none⟩ = some (.int .i64 c.ak)) (c4 : W.cell? ⟨g, o + 4, none⟩ = some (.int .i64 c.bk)) (c7 : W.cell? ⟨g, o + 7, none⟩ = some (.bool c.nt)) (c8 : W.cell? ⟨g, o + 8, none⟩ = some (.int .u8 (c.nm.toNat : Nat))) : Calls Try.prog 19 #[.pointer (some ⟨g, o, none⟩)] W fun e w' => e = .returned (.bool (misB (mostN c.nm) (decide (c.ak ≠ 0)) (decide (c.bk ≠ 0)) c.nt)) ∧ Below W.heap.size W w' := by
  have HM := hideT (fun w => most_any c.nm w)
  have hm3 : mostN c.nm = 0 ∨ mostN c.nm = 1 ∨ mostN c.nm = 2 := by
    unfold mostN
    split
    · exact .inl rfl
    · split
      · exact .inr (.inl rfl)
      · exact .inr (.inr rfl)
  have e1 : ∀ x : Int, (x != 0) = decide (x ≠ 0) := fun x => by by_cases h : x = 0 <;> simp [h]
  obtain ⟨m, hm⟩ : ∃ m, m = mostN c.nm := ⟨_, rfl⟩
  obtain ⟨x, hx⟩ : ∃ x, x = decide (c.ak ≠ 0) := ⟨_, rfl⟩
  obtain ⟨y, hy⟩ : ∃ y, y = decide (c.bk ≠ 0) := ⟨_, rfl⟩
  obtain ⟨z, hz⟩ : ∃ z, z = c.nt := ⟨_, rfl⟩
  have a1 : (c.ak != 0) = x := by rw [e1, hx]
  have a2 : (c.bk != 0) = y := by rw [e1, hy]
  rw [← hm] at HM hm3 ⊢
  rw [← hx, ← hy, ← hz]
  rw [← hz] at c7
  clear hm hx hy hz e1
  go_enter Try.func19, Try.ntmps19
  go_wp2_with fail
  go_quiet (fail)
  go_wp2_with fail
  refine (HM.out _).mono ?_
  rintro e w1 ⟨rfl, rfl⟩
  rcases hm3 with rfl | rfl | rfl
  · cases y <;> cases x
    · cases z
      · go_wp2
        go_ret
        exact ⟨rfl, below_drewN _ _ _⟩
      · go_wp2
        go_ret
        exact ⟨rfl, below_drewN _ _ _⟩
    · go_wp2
      go_ret
      exact ⟨rfl, below_drewN _ _ _⟩
    · go_wp2
      go_ret
      exact ⟨rfl, below_drewN _ _ _⟩
    · go_wp2
      go_ret
      exact ⟨rfl, below_drewN _ _ _⟩
  · cases y <;> cases x
    all_goals
      go_wp2
      go_ret
      exact ⟨rfl, below_drewN _ _ _⟩
  · cases y <;> cases x
    all_goals
      go_wp2
      go_ret
      exact ⟨rfl, below_drewN _ _ _⟩
end Go.Proofs.Ytdlceppiblodmaa
