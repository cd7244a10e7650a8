/- setmatch: what is found of some families of texts, reckoned. -/
import Derived.Test.YtmkcpocaheogaaaDoorKA6
set_option maxRecDepth 100000
set_option maxHeartbeats 4000000
namespace Go.Proofs.YtmkcpocaheogaaaDoor.smt
open Go.RowKit Go.Proofs.YtmkcpocaheogaaaDoor.br
def fo1 : List Tr := [xbp 1 [repT 0 (-1) (byteT (oneP 97))], xbp 2 [repT 0 (-1) (byteT (oneP 97))]]
def fo2 : List Tr := [repT 0 (-1) (xbp 1 [repT 1 2 (byteT (oneP 97))])]
def fo3 : List Tr := [xbp 1 [repT 0 (-1) (byteT (oneP 97))], repT 0 (-1) (xbp 2 [byteT (oneP 97), byteT (oneP 98)]), xbp 3 [repT 0 (-1) (byteT (oneP 98))]]
theorem f1_p : parseT ⟨#[92, 40, 97, 42, 92, 41, 92, 40, 97, 42, 92, 41]⟩ = .ok fo1 := by
 unfold fo1
 simp only [← one_self (show 97 < 256 by decide)]
 kernel_rfl
theorem f2_p : parseT ⟨#[92, 40, 97, 92, 123, 49, 44, 50, 92, 125, 92, 41, 42]⟩ = .ok fo2 := by
 unfold fo2
 simp only [← one_self (show 97 < 256 by decide)]
 kernel_rfl
theorem f3_p : parseT ⟨#[92, 40, 97, 42, 92, 41, 92, 40, 97, 98, 92, 41, 42, 92, 40, 98, 42, 92, 41]⟩ = .ok fo3 := by
 unfold fo3
 simp only [← one_self (show 97 < 256 by decide), ← one_self (show 98 < 256 by decide)]
 kernel_rfl
/-- some count, with these spans -/
def fnd (g : Nat) (ts : List Tr) (s : List Nat) (l : List (Int × Int)) : Bool := match matchT g (catT ts) s 0 with | some (some x, _) => decide (x = l) | _ => false
theorem fnd_of {g : Nat} {ts : List Tr} {s : List Nat} {l : List (Int × Int)} (h : fnd g ts s l = true) : ∃ c, matchT g (catT ts) s 0 = some (some l, c) := by
 unfold fnd at h
 split at h
 · rename_i x c e
   exact ⟨c, by rw [e, of_decide_eq_true h]⟩
 · cases h
theorem all_lt {p : Nat → Bool} {n : Nat} (h : (List.range n).all p = true) {a : Nat} (ha : a < n) : p a = true := List.all_eq_true.1 h a (List.mem_range.2 ha)
theorem f1_all : (List.range 40).all (fun a => fnd 2 fo1 (List.replicate a 97) [(0, (a : Int)), (0, (a : Int)), ((a : Int), (a : Int))]) = true := by decide +kernel
theorem f1_f {a : Nat} (h : a < 40) : fnd 2 fo1 (List.replicate a 97) [(0, (a : Int)), (0, (a : Int)), ((a : Int), (a : Int))] = true := all_lt f1_all h
theorem f2_all : (List.range 40).all (fun a => fnd 1 fo2 (List.replicate a 97) [(0, (a : Int)), bif Nat.beq a 0 then (-1, -1) else ((a : Int) - 2 + ((a % 2 : Nat) : Int), (a : Int))]) = true := by decide +kernel
theorem f2_f {a : Nat} (h : a < 40) : fnd 1 fo2 (List.replicate a 97) [(0, (a : Int)), bif Nat.beq a 0 then (-1, -1) else ((a : Int) - 2 + ((a % 2 : Nat) : Int), (a : Int))] = true := all_lt f2_all h
def f3c (a b : Nat) : Bool := fnd 3 fo3 (List.replicate a 97 ++ List.replicate b 98) [(0, ((a + b : Nat) : Int)), (0, (a : Int)), (-1, -1), ((a : Int), ((a + b : Nat) : Int))]
theorem f3_0 : (List.range 8).all (fun c => (List.range 10).all fun b => f3c (0 + c) b) = true := by decide +kernel
theorem f3_1 : (List.range 8).all (fun c => (List.range 10).all fun b => f3c (8 + c) b) = true := by decide +kernel
theorem f3_2 : (List.range 8).all (fun c => (List.range 10).all fun b => f3c (16 + c) b) = true := by decide +kernel
theorem f3_3 : (List.range 8).all (fun c => (List.range 10).all fun b => f3c (24 + c) b) = true := by decide +kernel
theorem f3_4 : (List.range 8).all (fun c => (List.range 10).all fun b => f3c (32 + c) b) = true := by decide +kernel
theorem f3_f {a b : Nat} (h : a < 40) (k : b < 10) : f3c a b = true := by
 rcases (show a < 8 ∨ (8 ≤ a ∧ a < 16) ∨ (16 ≤ a ∧ a < 24) ∨ (24 ≤ a ∧ a < 32) ∨ 32 ≤ a by omega) with h0 | h0 | h0 | h0 | h0
 · have := all_lt (all_lt f3_0 (show a < 8 by omega)) k; rwa [show 0 + a = a by omega] at this
 · have := all_lt (all_lt f3_1 (show a - 8 < 8 by omega)) k; rwa [show 8 + (a - 8) = a by omega] at this
 · have := all_lt (all_lt f3_2 (show a - 16 < 8 by omega)) k; rwa [show 16 + (a - 16) = a by omega] at this
 · have := all_lt (all_lt f3_3 (show a - 24 < 8 by omega)) k; rwa [show 24 + (a - 24) = a by omega] at this
 · have := all_lt (all_lt f3_4 (show a - 32 < 8 by omega)) k; rwa [show 32 + (a - 32) = a by omega] at this
end Go.Proofs.YtmkcpocaheogaaaDoor.smt
