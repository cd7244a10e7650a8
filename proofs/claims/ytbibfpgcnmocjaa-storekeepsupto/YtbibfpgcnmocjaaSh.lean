/- store: a store that is newer than a world; awake; an op's text. -/
import Derived.Test.YtbibfpgcnmocjaaSg
namespace Go.Proofs.Ytbibfpgcnmocjaa
open Go.RowKit

/-- A store all of which is newer than W0. -/
def Fr (W0 W : World) (b : Nat) (S : Sr) : Prop := ∃ F, I0 W F b S ∧ Below W0.heap.size W0 W ∧ ∀ k, F k → W0.heap.size ≤ k
theorem Fr.bel {W0 W : World} {b : Nat} {S : Sr} (h : Fr W0 W b S) : Below W0.heap.size W0 W := by
  obtain ⟨_, _, h, _⟩ := h
  exact h
theorem Fr.step {W0 W W' : World} {b : Nat} {S : Sr} (h : Fr W0 W b S) (hb : Below W.heap.size W W') : Fr W0 W' b S := by
  obtain ⟨F, hI, h0, hF⟩ := h
  exact ⟨F, hI.keep (fun k hk => hb.block k (hI.lt k hk)), h0.trans (hb.mono h0.size), hF⟩
theorem Fr.call {W0 W : World} {b : Nat} {S S' : Sr} {f : FuncId} {args : Array Value} {R : Value} (h : Fr W0 W b S) (c : ∀ F, I0 W F b S → Calls Try.prog f args W (Pst F W b S' R)) : Calls Try.prog f args W fun e w' => e = .returned R ∧ Fr W0 w' b S' := by
  obtain ⟨F, hI, h0, hF⟩ := h
  refine (c F hI).mono ?_
  rintro e w' ⟨rfl, ht, F', hI', hs⟩
  refine ⟨rfl, F', hI', below_of_tch h0 ht hF, fun k hk => ?_⟩
  rcases hs k hk with h | h
  · exact hF k h
  · exact Nat.le_trans h0.size h
theorem Fr.ask {W0 W : World} {b : Nat} {S : Sr} {f : FuncId} {args : Array Value} {R : Value} (h : Fr W0 W b S) (c : ∀ F, I0 W F b S → Calls Try.prog f args W fun e w' => e = .returned R ∧ w' = W) : Calls Try.prog f args W fun e w' => e = .returned R ∧ Fr W0 w' b S := by
  have h' := h
  obtain ⟨F, hI, h0, hF⟩ := h'
  refine (c F hI).mono ?_
  rintro e w' ⟨rfl, rfl⟩
  exact ⟨rfl, h⟩
/-- The store of one file. -/
def S1 : Sr := ⟨[([102], ⟨[97, 98], false⟩)], [], 0⟩
theorem ok1 : SOk S1 where
  wr := by decide
  out := by decide
  len := by decide
  dat := fun n f h => by
    simp only [S1, look] at h
    split at h
    · cases h
      decide
    · cases h
  nam := fun n h => by
    simp only [S1, List.map_cons, List.map_nil, List.mem_singleton] at h
    rw [h]
    decide
theorem frow_one {W : World} {g : Nat} (n d : ByteArray) (h : W.heap[g]? = some (.cells #[.string n, .string d] 52 (0, 0))) : FRow W (.slice (some ⟨g, 0, none⟩) 1 1) [(n, d)] := by
  refine ⟨_, 1, rfl, fun k x hx => ?_⟩
  have hk : k = 0 := by
    have := (List.getElem?_eq_some_iff.1 hx).1
    simpa using this
  subst hk
  simp at hx
  subst hx
  exact ⟨g, 0, rfl, by simp [World.cell?, h], by simp [World.cell?, h]⟩

set_option maxRecDepth 100000 in
set_option maxHeartbeats 4000000 in
theorem awake_any (W : World) : Calls Try.prog 9 #[] W fun e w' => e = .returned (.bool true) ∧ Below W.heap.size W w' := by
  have hX : Below W.heap.size W (W.alloc (.cells #[.string ⟨#[102]⟩, .string ⟨#[97, 98]⟩] 52)) := (Below.refl _ W).alloc (Nat.le_refl _) _
  have HX := hideT (And.intro hX (heap_alloc_new W (.cells #[.string ⟨#[102]⟩, .string ⟨#[97, 98]⟩] 52)))
  have O1 := hideT ok1
  have O2 := hideT (ok1.openS [102])
  have O3 := hideT ((ok1.openS [102]).write [102] [99])
  clear hX
  go_enter Try.func9, Try.ntmps9
  go_wp2_with fail
  refine (new_any _ _ [(⟨#[102]⟩, ⟨#[97, 98]⟩)] (frow_one _ _ HX.out.2) (by decide)).mono ?_
  rintro e w1 ⟨hb1, h1⟩
  have hR : newR [(⟨#[102]⟩, ⟨#[97, 98]⟩)] = (0, [([102], ⟨[97, 98], false⟩)]) := by kernel_rfl
  rw [hR] at h1
  rcases h1 with ⟨h1, _⟩ | ⟨_, b, F, rfl, hI, hF⟩
  · exact absurd rfl h1
  have H1 := hideT (show Fr W w1 b S1 from ⟨F, hI, HX.out.1.trans (hb1.mono HX.out.1.size), fun k hk => Nat.le_trans HX.out.1.size (hF k hk)⟩)
  clear hb1 hI hF hR HX
  go_wp2_with fail
  refine (H1.out.call (fun F hI => writeS_any hI O1.out ⟨#[102]⟩ ⟨#[99]⟩ (by decide) (by decide))).mono ?_
  rintro e w2 ⟨rfl, h2⟩
  have H2 := hideT (show Fr W w2 b S1 from h2)
  have E2 : ((writeE S1 [102] [99] : Nat) : Int) = 5 := by decide +kernel
  clear h2 H1
  go_wp2_with fail
  refine (H2.out.call (fun F hI => openS_any hI O1.out ⟨#[102]⟩ (by decide))).mono ?_
  rintro e w3 ⟨rfl, h3⟩
  have H3 := hideT h3
  have E3 : ((openE S1 [102] : Nat) : Int) = 0 := by decide +kernel
  clear h3 H2
  go_wp2_with fail
  refine (H3.out.call (fun F hI => writeS_any hI O2.out ⟨#[102]⟩ ⟨#[99]⟩ (by decide) (by decide))).mono ?_
  rintro e w4 ⟨rfl, h4⟩
  have H4 := hideT h4
  have E4 : ((writeE (S1.openS [102]) [102] [99] : Nat) : Int) = 0 := by decide +kernel
  clear h4 H3
  go_wp2_with fail
  refine (H4.out.call (fun F hI => print_any hI O3.out ⟨#[120]⟩ (by decide))).mono ?_
  rintro e w5 ⟨rfl, h5⟩
  have H5 := hideT h5
  have E5 : ((printE ((S1.openS [102]).write [102] [99]) [120] : Nat) : Int) = 0 := by decide +kernel
  clear h5 H4
  go_wp2_with fail
  refine (H5.out.call (fun F hI => read_any hI ⟨#[102]⟩ (by decide))).mono ?_
  rintro e w6 ⟨rfl, h6⟩
  have H6 := hideT h6
  have E6 : (⟨(readD (((S1.openS [102]).write [102] [99]).print [120]) [102]).toArray⟩ : ByteArray) = ⟨#[99]⟩ := by decide +kernel
  have E6b : (look (((S1.openS [102]).write [102] [99]).print [120]).fs [102]).isSome = true := by decide +kernel
  clear h6 H5
  go_wp2_with fail
  refine (H6.out.call (fun F hI => out_any hI)).mono ?_
  rintro e w7 ⟨rfl, h7⟩
  have H7 := hideT h7
  have E7 : (⟨(((S1.openS [102]).write [102] [99]).print [120]).out.toArray⟩ : ByteArray) = ⟨#[120]⟩ := by decide +kernel
  clear h7 H6
  go_wp2_with fail
  refine (H7.out.ask (fun F hI => written_any hI)).mono ?_
  rintro e w8 ⟨rfl, h8⟩
  have H8 := hideT h8
  have E8 : (((((S1.openS [102]).write [102] [99]).print [120]).wr : Nat) : Int) = 2 := by decide +kernel
  clear h8 H7
  go_wp2
  go_ret
  exact ⟨rfl, H8.out.bel⟩

/-- A text laid behind itself, so often. -/
def dbl : Nat → List UInt8 → List UInt8
  | 0, l => l
  | n + 1, l => dbl n (l ++ l)
def textL (s : List UInt8) (n : UInt8) : List UInt8 := dbl (n.toNat % 9) (s.take 200)
theorem dbl_len : ∀ (n : Nat) (l : List UInt8), (dbl n l).length = l.length * 2 ^ n
  | 0, l => by simp [dbl]
  | n + 1, l => by rw [dbl, dbl_len n, List.length_append, Nat.pow_succ]; rw [← Nat.two_mul, Nat.mul_comm 2, Nat.mul_assoc, Nat.mul_comm 2]
theorem text_len (s : List UInt8) (n : UInt8) : (textL s n).length ≤ 51200 := by
  unfold textL
  rw [dbl_len, List.length_take]
  have h : n.toNat % 9 ≤ 8 := by omega
  have h2 : 2 ^ (n.toNat % 9) ≤ 2 ^ 8 := Nat.pow_le_pow_right (by decide) h
  calc min 200 s.length * 2 ^ (n.toNat % 9) ≤ 200 * 2 ^ 8 := Nat.mul_le_mul (Nat.min_le_left _ _) h2
    _ = 51200 := by decide
end Go.Proofs.Ytbibfpgcnmocjaa
