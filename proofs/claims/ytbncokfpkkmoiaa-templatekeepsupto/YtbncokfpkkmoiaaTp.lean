/- template: the walks of TemplateParses and TemplateBuilds. -/
import Derived.Test.YtbncokfpkkmoiaaTn
import Derived.Test.YtbncokfpkkmoiaaTi
namespace Go.Proofs.Ytbncokfpkkmoiaa
open Go.RowKit

theorem owns_len {W : World} {B e size n : Nat} {v : Value} {xs : List Value} (h : W.ownsRow B e size v n xs) : n ≤ 9223372036854775807 := by
  rcases h.2 with ⟨_, rfl⟩ | ⟨g, cap, cur, _, _, _, h1, h2, _⟩
  · omega
  · have e : maxLen = 9223372036854775807 := rfl
    rw [e] at h2
    omega

set_option maxRecDepth 100000 in
set_option maxHeartbeats 2000000 in
theorem parses_walk (s : ByteArray) (hs : s.size ≤ 4611686018427387904) (w : World) : Calls Try.prog 3 #[.string s] w fun e w' => e = .returned (.bool true) ∧ Below w.heap.size w w' := by
  have HP := hideT (parse_any s hs w)
  have HD := hideT (docParse_any s hs)
  generalize parseR s.data.toList = R at *
  obtain ⟨x, er, at'⟩ := R
  go_enter Try.func3, Try.ntmps3
  go_wp2_with fail
  refine HP.out.mono ?_
  rintro e w1 ⟨v, rfl, hO, hb1⟩
  obtain ⟨a, c, rfl⟩ := owns_shape hO
  have hA1 := (Below.refl w1.heap.size w1).alloc (Nat.le_refl _) (.cells #[.int .i64 (er : Nat), .int .i64 (at' : Nat)] 25)
  have hN := heap_alloc_new w1 (.cells #[.int .i64 (er : Nat), .int .i64 (at' : Nat)] 25)
  have H1 := hideT (And.intro hO (And.intro hb1 (And.intro hA1 hN)))
  clear hO hb1 hA1 hN
  go_wp2_with fail
  refine (HD.out _).mono ?_
  rintro e w2 ⟨v2, rfl, hO2, hb2⟩
  obtain ⟨a2, c2, rfl⟩ := owns_shape hO2
  have H2 := hideT (And.intro hO2 hb2)
  clear hO2 hb2
  go_wp2_with fail
  refine (awake_any _).mono ?_
  rintro e w3 ⟨rfl, hb3⟩
  have hX : Below w1.heap.size w1 w2 := H1.out.2.2.1.trans (H2.out.2.mono H1.out.2.2.1.size)
  have hs1 : w1.heap.size < w2.heap.size := by have := H2.out.2.size; simp at this; omega
  have r1 : PRow w3 (.slice a x.ps.length c) x.ps := ((PRow.of_owns H1.out.1).stay hX (Nat.le_refl _)).stay hb3 (Nat.le_refl _)
  have r2 : PRow w3 (.slice a2 x.ps.length c2) x.ps := (PRow.of_owns H2.out.1).stay hb3 (Nat.le_refl _)
  have f3 : w3.heap[w1.heap.size]? = some (.cells #[.int .i64 (er : Nat), .int .i64 (at' : Nat)] 25 (0, 0)) := (hb3.block _ hs1).trans ((H2.out.2.block _ (by simp)).trans H1.out.2.2.2)
  have hs3 : w1.heap.size < w3.heap.size := Nat.lt_of_lt_of_le hs1 hb3.size
  have H3 := hideT (And.intro (hX.trans (hb3.mono hX.size)) (And.intro f3 hs3))
  have HS := hideT (same_any _ _ x.ps w3 r1 r2 (owns_len H1.out.1))
  clear hX hs1 r1 r2 f3 hs3 hb3
  go_wp2_with fail
  refine HS.out.mono ?_
  rintro e w4 ⟨rfl, hb4⟩
  have f4 := (hb4.block _ H3.out.2.2).trans H3.out.2.1
  have u0 : w4.cell? ⟨w1.heap.size, 0, none⟩ = some (.int .i64 (er : Nat)) := by simp [World.cell?, f4]
  have u1 : w4.cell? ⟨w1.heap.size, 1, none⟩ = some (.int .i64 (at' : Nat)) := by simp [World.cell?, f4]
  have H4 := hideT (H1.out.2.1.trans ((H3.out.1.trans (hb4.mono H3.out.1.size)).mono H1.out.2.1.size))
  clear f4 hb4
  go_wp2
  go_ret
  exact ⟨rfl, H4.out⟩

set_option maxRecDepth 100000 in
set_option maxHeartbeats 2000000 in
theorem builds_walk (v vs : Value) (ps : List Pt) (s : ByteArray) (sp : List (Int × Int)) (w : World) (hv : PRow w v ps) (hvs : SRow w vs sp) (hn : ps.length ≤ 140737488355328) (ht : ∀ p ∈ ps, p.t.size ≤ 140737488355328) (hs : s.size ≤ 140737488355328) :
    Calls Try.prog 5 #[v, .string s, vs] w fun e w' => e = .returned (.bool true) ∧ Below w.heap.size w w' := by
  have HP := hideT (build_any v vs ps s sp w hv hvs hn ht hs)
  have HD := hideT (fun (w1 : World) (hb : Below w.heap.size w w1) => docBuild_any v vs ps s sp w1 (hv.stay hb (Nat.le_refl _)) (hvs.stay hb (Nat.le_refl _)) hn ht hs)
  obtain ⟨pa, ca, rfl⟩ := hv.shape
  obtain ⟨pb, cb, rfl⟩ := hvs.shape
  clear hv hvs hn ht hs
  generalize buildR s.data.toList sp ps [] = R at *
  obtain ⟨l, er⟩ := R
  go_enter Try.func5, Try.ntmps5
  go_wp2_with fail
  refine HP.out.mono ?_
  rintro e w1 ⟨rfl, hb1⟩
  have H1 := hideT hb1
  clear hb1
  go_wp2_with fail
  refine (HD.out _ H1.out).mono ?_
  rintro e w2 ⟨rfl, hb2⟩
  have H2 := hideT (H1.out.trans (hb2.mono H1.out.size))
  clear hb2
  go_wp2_with fail
  refine (awake_any _).mono ?_
  rintro e w3 ⟨rfl, hb3⟩
  have H3 := hideT (H2.out.trans (hb3.mono H2.out.size))
  clear hb3
  go_wp2
  go_ret
  exact ⟨rfl, H3.out⟩

end Go.Proofs.Ytbncokfpkkmoiaa
