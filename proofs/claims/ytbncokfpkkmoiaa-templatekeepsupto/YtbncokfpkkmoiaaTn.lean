/- template: awake. -/
import Derived.Test.YtbncokfpkkmoiaaTm
import Derived.Test.YtbncokfpkkmoiaaTg
namespace Go.Proofs.Ytbncokfpkkmoiaa
open Go.RowKit

def awP : List Pt := [⟨-1, bst [97]⟩, ⟨0, bst []⟩, ⟨1, bst []⟩, ⟨-1, bst [98, 38]⟩]

theorem aw_parse : parseR [97, 38, 92, 49, 98, 92, 38] = (⟨awP, []⟩, 0, 0) := by
  unfold parseR
  rw [if_neg (by decide), runP_pl _ _ _ _ (by decide) (by decide) (by decide), runP_amp _ _ _ _ (by decide), runP_esc _ _ _ _ _ (by decide), runP_pl _ _ _ _ (by decide) (by decide) (by decide), runP_esc _ _ _ _ _ (by decide), runP_nil]
  rfl
theorem aw_build : buildR [120, 121, 122] [(0, 2), (1, 2)] awP [] = ([97, 120, 121, 121, 98, 38], 0) := by decide +kernel

set_option maxRecDepth 100000 in
set_option maxHeartbeats 2000000 in
theorem awake_any (w : World) : Calls Try.prog 11 #[] w fun e w' => e = .returned (.bool true) ∧ Below w.heap.size w w' := by
  have hp := parse_any ⟨#[97, 38, 92, 49, 98, 92, 38]⟩ (by decide) w
  rw [show (⟨#[97, 38, 92, 49, 98, 92, 38]⟩ : ByteArray).data.toList = [97, 38, 92, 49, 98, 92, 38] from rfl, aw_parse] at hp
  have HP := hideT hp
  clear hp
  go_enter Try.func11, Try.ntmps11
  go_wp2_with fail
  refine HP.out.mono ?_
  rintro e w1 ⟨v, rfl, hO, hb1⟩
  obtain ⟨a, c, rfl⟩ := owns_shape hO
  have hA1 := (Below.refl w1.heap.size w1).alloc (Nat.le_refl _) (.cells #[.int .i64 0, .int .i64 0] 25)
  have hA2 := hA1.alloc (by simp) (.cells #[.int .i64 0, .int .i64 2, .int .i64 1, .int .i64 2] 45)
  have hR : PRow ((w1.alloc (.cells #[.int .i64 0, .int .i64 0] 25)).alloc (.cells #[.int .i64 0, .int .i64 2, .int .i64 1, .int .i64 2] 45)) (.slice a 4 c) awP := (PRow.of_owns hO).stay hA2 (Nat.le_refl _)
  have hN := new_cell (w1.alloc (.cells #[.int .i64 0, .int .i64 0] 25)) [.int .i64 0, .int .i64 2, .int .i64 1, .int .i64 2] 45
  rw [World.size_alloc] at hN
  have hS : SRow ((w1.alloc (.cells #[.int .i64 0, .int .i64 0] 25)).alloc (.cells #[.int .i64 0, .int .i64 2, .int .i64 1, .int .i64 2] 45)) (.slice (some ⟨w1.heap.size + 1, 0, none⟩) 2 2) [(0, 2), (1, 2)] := .inr ⟨_, 0, 2, rfl, fun i hi => by
    match i, hi with
    | 0, _ => exact ⟨hN 0 _ rfl, hN 1 _ rfl⟩
    | 1, _ => exact ⟨hN 2 _ rfl, hN 3 _ rfl⟩⟩
  have hB2 := build_any _ _ awP ⟨#[120, 121, 122]⟩ [(0, 2), (1, 2)] _ hR hS (by decide) (by decide) (by decide)
  rw [show (⟨#[120, 121, 122]⟩ : ByteArray).data.toList = [120, 121, 122] from rfl, aw_build, show bst [97, 120, 121, 121, 98, 38] = ⟨#[97, 120, 121, 121, 98, 38]⟩ from rfl] at hB2
  have HB := hideT hB2
  have HA := hideT (And.intro hA1 (And.intro hA2 (And.intro hR hb1)))
  clear hB2 hA1 hA2 hR hN hS hO hb1
  go_wp2_with fail
  refine HB.out.mono ?_
  rintro e w2 ⟨rfl, hb2⟩
  have hX : Below w1.heap.size w1 w2 := HA.out.2.1.trans (hb2.mono HA.out.2.1.size)
  have f0 : w2.heap[w1.heap.size]? = some (.cells #[.int .i64 0, .int .i64 0] 25 (0, 0)) := by
    rw [hb2.block _ (by simp; omega), Below.heap_alloc _ _ _ (by simp)]
    exact heap_alloc_new w1 _
  have u0 : w2.cell? ⟨w1.heap.size, 0, none⟩ = some (.int .i64 0) := by simp [World.cell?, f0]
  have hA3 := (Below.refl w2.heap.size w2).alloc (Nat.le_refl _) (.cells #[.int .i64 (-1), .string ⟨#[97]⟩, .int .i64 0, .string ⟨#[]⟩, .int .i64 1, .string ⟨#[]⟩, .int .i64 (-1), .string ⟨#[98, 38]⟩] 48)
  have hN := new_cell w2 [.int .i64 (-1), .string ⟨#[97]⟩, .int .i64 0, .string ⟨#[]⟩, .int .i64 1, .string ⟨#[]⟩, .int .i64 (-1), .string ⟨#[98, 38]⟩] 48
  have hR2 : PRow (w2.alloc (.cells #[.int .i64 (-1), .string ⟨#[97]⟩, .int .i64 0, .string ⟨#[]⟩, .int .i64 1, .string ⟨#[]⟩, .int .i64 (-1), .string ⟨#[98, 38]⟩] 48)) (.slice (some ⟨w2.heap.size, 0, none⟩) 4 4) awP := .inr ⟨_, 0, 4, rfl, fun i hi => by
    match i, hi with
    | 0, _ => exact ⟨hN 0 _ rfl, hN 1 _ rfl⟩
    | 1, _ => exact ⟨hN 2 _ rfl, hN 3 _ rfl⟩
    | 2, _ => exact ⟨hN 4 _ rfl, hN 5 _ rfl⟩
    | 3, _ => exact ⟨hN 6 _ rfl, hN 7 _ rfl⟩⟩
  have HS := hideT (same_any _ _ awP _ ((HA.out.2.2.1.stay hb2 (Nat.le_refl _)).stay hA3 (Nat.le_refl _)) hR2 (by decide))
  have HF := hideT (And.intro (HA.out.2.2.2.trans (hX.mono HA.out.2.2.2.size)) hA3)
  clear hX f0 hA3 hN hR2 hb2
  go_wp2_with fail
  refine HS.out.mono ?_
  rintro e w3 ⟨rfl, hb3⟩
  have HG := hideT (HF.out.1.trans ((HF.out.2.trans (hb3.mono HF.out.2.size)).mono HF.out.1.size))
  clear hb3 u0
  go_wp2
  go_ret
  exact ⟨rfl, HG.out⟩

end Go.Proofs.Ytbncokfpkkmoiaa
