/- template: group, escaped. -/
import Derived.Test.YtbncokfpkkmoiaaTd
namespace Go.Proofs.Ytbncokfpkkmoiaa
open Go.RowKit

set_option maxRecDepth 100000 in
set_option maxHeartbeats 1000000 in
theorem group_any {B b : Nat} {x : Ga} (n : Int) (w : World) (h : GaAt w B b x) (hp : x.ps.length ≤ 1000000000) (hn : x.bs.length ≤ 1073741824) :
    Calls Try.prog 19 #[.pointer (some ⟨b, 0, none⟩), .int .i64 n] w fun e w' => e = .returned (.tuple #[]) ∧ GaAt w' B b (x.group n) ∧ Below B w w' := by
  obtain ⟨i0, hi0, hz0, hz1, hz2⟩ := info_parts info48
  have ho := out_len x
  have hob := out_bs x
  have HL := hideT (letOut_any w h (by omega) hn)
  unfold Ga.group
  clear h
  generalize x.out = y at *
  go_enter Try.func19, Try.ntmps19
  go_wp2_with (go_at_call 22; refine HL.out.mono ?_)
  rintro e w1 ⟨rfl, h, hb1⟩
  have hlt := h.lt
  have hA := (Below.refl w1.heap.size w1).alloc (Nat.le_refl _) (.cells #[.int .i64 n, .string ⟨#[]⟩] 48)
  have hw := h.stay hA
  obtain ⟨hB, vp, vb, h0, h1, h2⟩ := h
  obtain ⟨_, vp', vb', k0, k1, k2⟩ := hw
  have e0 := (hA.block b hlt).trans h0
  rw [k0] at e0
  cases e0
  have c1 : w1.cell? ⟨b, 0, none⟩ = some vp := by simp [World.cell?, h0]
  have HN := hideT (new_cells w1 [.int .i64 n, .string ⟨#[]⟩] 48)
  have HS := hideT (And.intro hlt (And.intro hA hb1))
  have HK := hideT (And.intro k0 (And.intro k1 k2))
  clear hlt hA k0 k2 h0 h1 h2 hb1
  go_wp2_with (at_builtin; refine wpList_append_lies _ rfl _ _ 22 rfl B 48 i0 _ 2 24 und22 hi0 hz0 hz1 hz2 rfl (by omega) vp y.ps.length (ptV y.ps) rfl k1 ⟨w1.heap.size, 0, none⟩ 1 1 [.int .i64 n, .string ⟨#[]⟩] rfl rfl (fun j u hj => HN.out j u hj) (by simp [Value.oneCell']) (by omega) (by unfold maxLen; omega) (by omega) (by have := HS.out.1; simp; omega) _ rfl ?_)
  intro g gc w2 hown hgr hat hglt
  have b2 : w2.heap[b]? = some (.cells #[vp, vb] 52 (0, 0)) := (hgr.block b (Nat.lt_of_lt_of_le HS.out.1 HS.out.2.1.size) (fun e => by
    obtain ⟨_, _, cur, h3⟩ := owns_blk HK.out.2.1 e.symm
    rw [HK.out.1] at h3
    cases h3)).trans HK.out.1
  have d1 : w2.cell? ⟨b, 0, none⟩ = some vp := by simp [World.cell?, b2]
  have f1 : w2.frozen? ⟨b, 0, none⟩ = false := by simp [World.frozen?, b2]
  have HF := hideT (ga_parts (ps := y.ps ++ [⟨n, bst []⟩]) hB HK.out.1 HK.out.2.1 HK.out.2.2 hgr (by rw [ptV_app, List.length_append]; exact hown))
  clear hgr hown b2 k1
  go_wp2
  go_end0
  rw [hob] at HF
  exact ⟨rfl, HF.out.1, (HS.out.2.2.trans (HS.out.2.1.mono (Nat.le_of_lt (Nat.lt_of_le_of_lt hB HS.out.1)))).trans HF.out.2⟩

set_option maxRecDepth 100000 in
set_option maxHeartbeats 1000000 in
theorem escaped_any {B b : Nat} {x : Ga} (c : UInt8) (w : World) (h : GaAt w B b x) (hp : x.ps.length ≤ 1000000000) (hn : x.bs.length ≤ 1073741824) :
    Calls Try.prog 21 #[.pointer (some ⟨b, 0, none⟩), .int .u8 (c.toNat : Nat)] w fun e w' => e = .returned (.tuple #[]) ∧ GaAt w' B b (x.esc c) ∧ Below B w w' := by
  have hc := c.toNat_lt
  by_cases c1 : 48 ≤ c.toNat ∧ c.toNat ≤ 57
  · have HG := hideT (group_any ((c.toNat - 48 : Nat) : Int) w h hp hn)
    have j1 : (48 : Int) ≤ (c.toNat : Int) := by omega
    have j2 : (c.toNat : Int) ≤ 57 := by omega
    have j3 : IntKind.u8.wrap ((c.toNat : Int) - 48) = ((c.toNat - 48 : Nat) : Int) := by rw [IntKind.wrap_u8]; omega
    have j4 : IntKind.i64.wrap ((c.toNat - 48 : Nat) : Int) = ((c.toNat - 48 : Nat) : Int) := by rw [IntKind.wrap_i64]; omega
    have hx : x.esc c = x.group ((c.toNat - 48 : Nat) : Int) := by unfold Ga.esc; rw [if_pos c1]
    rw [hx]
    go_enter Try.func21, Try.ntmps21
    go_wp2_with (go_at_call 19; refine HG.out.mono ?_)
    rintro e w1 ⟨rfl, h1, hb1⟩
    go_wp2
    go_end0
    exact ⟨rfl, h1, hb1⟩
  · by_cases c2 : c.toNat = 110
    · have HG := hideT (plain_any 10 w h hn)
      have hx : x.esc c = x.plain 10 := by unfold Ga.esc; rw [if_neg c1, if_pos c2]
      rw [hx, c2]
      go_enter Try.func21, Try.ntmps21
      go_wp2_with (go_at_call 20; refine HG.out.mono ?_)
      rintro e w1 ⟨rfl, h1, hb1⟩
      go_wp2
      go_end0
      exact ⟨rfl, h1, hb1⟩
    · have HG := hideT (plain_any c w h hn)
      have hx : x.esc c = x.plain c := by unfold Ga.esc; rw [if_neg c1, if_neg c2]
      rw [hx]
      have j3 : ((c.toNat : Int) == 110) = false := by rw [beq_eq_false_iff_ne]; omega
      by_cases c3 : 48 ≤ c.toNat
      · have j1 : (48 : Int) ≤ (c.toNat : Int) := by omega
        have j2 : ((c.toNat : Int) ≤ 57) = False := by rw [eq_iff_iff, iff_false]; omega
        go_enter Try.func21, Try.ntmps21
        go_wp2_with (go_at_call 20; refine HG.out.mono ?_)
        rintro e w1 ⟨rfl, h1, hb1⟩
        go_wp2
        go_end0
        exact ⟨rfl, h1, hb1⟩
      · have j1 : ((48 : Int) ≤ (c.toNat : Int)) = False := by rw [eq_iff_iff, iff_false]; omega
        go_enter Try.func21, Try.ntmps21
        go_wp2_with (go_at_call 20; refine HG.out.mono ?_)
        rintro e w1 ⟨rfl, h1, hb1⟩
        go_wp2
        go_end0
        exact ⟨rfl, h1, hb1⟩

end Go.Proofs.Ytbncokfpkkmoiaa
