/- store: an op's text, by the statements' own function. -/
import Derived.Test.YtbibfpgcnmocjaaSh
namespace Go.Proofs.Ytbibfpgcnmocjaa
open Go.RowKit

structure Op4 where
  kd : Int
  nm : ByteArray
  tx : ByteArray
  tm : UInt8
abbrev opV (x : Op4) : Value := .agg #[.int .i64 x.kd, .string x.nm, .string x.tx, .int .u8 (x.tm.toNat : Nat)]
/-- A script of calls, as it lies. -/
def ORow (W : World) (v : Value) (l : List Op4) : Prop := ∃ a cp, v = .slice a l.length cp ∧ ∀ (k : Nat) (x : Op4), l[k]? = some x → ∃ g o, a = some ⟨g, o, none⟩ ∧ W.cell? ⟨g, o + k * 4, none⟩ = some (.int .i64 x.kd) ∧ W.cell? ⟨g, o + k * 4 + 1, none⟩ = some (.string x.nm) ∧ W.cell? ⟨g, o + k * 4 + 2, none⟩ = some (.string x.tx) ∧ W.cell? ⟨g, o + k * 4 + 3, none⟩ = some (.int .u8 (x.tm.toNat : Nat))
def opT (x : Op4) : ByteArray := ⟨(textL x.tx.data.toList x.tm).toArray⟩
theorem opT_list (x : Op4) : (opT x).data.toList = textL x.tx.data.toList x.tm := by simp [opT]
theorem opT_size (x : Op4) : (opT x).size ≤ 51200 := by
  show (textL x.tx.data.toList x.tm).toArray.size ≤ _
  simp only [List.size_toArray]
  exact text_len _ _
theorem ext_take (s : ByteArray) (m : Nat) : (s.extract 0 m).data.toList = s.data.toList.take m := by
  rw [ByteArray.data_extract, Array.toList_extract]
  simp [List.extract]
theorem app_list (a b : ByteArray) : (a ++ b).data.toList = a.data.toList ++ b.data.toList := by simp [ByteArray.data_append]
theorem pow_le (k : Nat) (h : k ≤ 8) : 2 ^ k ≤ 256 := Nat.pow_le_pow_right (n := 2) (by decide) h

set_option maxRecDepth 100000 in
set_option maxHeartbeats 2000000 in
theorem text_any (W : World) (x : Op4) (hx : x.tx.size ≤ 140737488355000) : Calls Try.prog 18 #[opV x] W fun e w' => e = .returned (.string (opT x)) ∧ Below W.heap.size W w' := by
  obtain ⟨kd, nm, tx, tm⟩ := x
  dsimp only at hx
  have HB := hideT (show Below W.heap.size W (W.alloc (.cells #[.int .i64 kd, .string nm, .string tx, .int .u8 (tm.toNat : Nat)] 30)) from (Below.refl _ W).alloc (Nat.le_refl _) _)
  obtain ⟨m, hm⟩ : ∃ m : Nat, m = min tx.size 200 := ⟨_, rfl⟩
  have hm1 : m ≤ tx.size := by omega
  have hm2 : m ≤ 200 := by omega
  obtain ⟨n, hn⟩ : ∃ n : Nat, n = tm.toNat % 9 := ⟨_, rfl⟩
  have hn8 : n ≤ 8 := by omega
  have t1 : (tm.toNat : Int).tmod 9 = (n : Int) := by rw [hn, Int.tmod_eq_emod_of_nonneg (by omega)]; omega
  have t2 : IntKind.u8.wrap (n : Int) = (n : Int) := by rw [IntKind.wrap_u8]; omega
  have HT := hideT (show textL tx.data.toList tm = dbl n (tx.extract 0 m).data.toList by
    unfold textL
    rw [← hn, ext_take tx m, hm]
    congr 1
    rw [Nat.min_comm, List.take_eq_take_iff]
    show min 200 tx.size = min (min 200 tx.size) tx.size
    omega)
  have HX := hideT (show (tx.extract 0 m).size ≤ 200 by rw [ByteArray.size_extract]; omega)
  have x1 : min (tx.size : Int) 200 = (m : Int) := by omega
  have x2 : (0 : Int) ≤ (m : Int) := by omega
  have x3 : (m : Int) ≤ (tx.size : Int) := by omega
  obtain ⟨T, hT⟩ : ∃ T, T = textL tx.data.toList tm := ⟨_, rfl⟩
  have HTT := hideT hT
  rw [← hT] at HT
  generalize hE : tx.extract 0 m = E at *
  have HE := hideT hE
  clear hm hn hT hE
  go_enter Try.func18, Try.ntmps18
  go_wp2_with fail
  obtain ⟨X, hX⟩ : ∃ X, X = (W.alloc (.cells #[.int .i64 kd, .string nm, .string tx, .int .u8 (tm.toNat : Nat)] 30)) := ⟨_, rfl⟩
  rw [← hX] at HB ⊢
  clear hX
  go_loopw [3, 14] (fun tv iv wr => ∃ (k : Nat) (s : ByteArray), k ≤ n ∧ iv = .int .u8 (k : Nat) ∧ tv = .string s ∧ Hid (T = dbl (n - k) s.data.toList ∧ s.size ≤ 200 * 2 ^ k) ∧ wr = X) (fun _ iv _ => n - (intOf iv).toNat)
  case atStart => exact ⟨0, _, Nat.zero_le _, rfl, by first | rfl | (rw [HE.out]), hideT ⟨HT.out, by simpa using HX.out⟩, rfl⟩
  case round =>
    obtain ⟨k, s, hk, rfl, rfl, HI, rfl⟩ := hrel
    by_cases hlt : k < n
    · have i1 : (k : Int) < (n : Int) := by omega
      have hs : s.size ≤ 51200 := by
        have h1 := HI.out.2
        have h2 := pow_le k (by omega)
        calc s.size ≤ 200 * 2 ^ k := h1
          _ ≤ 200 * 256 := Nat.mul_le_mul_left _ h2
          _ = 51200 := by decide
      have z6 : (9223372036854775807 < s.size + s.size) = False := by rw [eq_iff_iff, iff_false]; omega
      have w1 : IntKind.u8.wrap ((k : Int) + 1) = (k : Int) + 1 := by rw [IntKind.wrap_u8]; omega
      have HN := hideT (show T = dbl (n - (k + 1)) (s ++ s).data.toList ∧ (s ++ s).size ≤ 200 * 2 ^ (k + 1) from by
        refine ⟨?_, ?_⟩
        · rw [HI.out.1, show n - k = (n - (k + 1)) + 1 by omega, dbl, app_list]
        · rw [ByteArray.size_append, Nat.pow_succ]
          have := HI.out.2
          omega)
      clear hs HI
      go_wp2
      exact ⟨⟨k + 1, _, by omega, by go_num, rfl, HN, by first | rfl | trivial⟩, by simp [intOf]; omega⟩
    · obtain rfl : k = n := by omega
      have i1 : ((k : Int) < (k : Int)) = False := by rw [eq_iff_iff, iff_false]; omega
      have HR := hideT (show opT ⟨kd, nm, tx, tm⟩ = s from by
        have h1 := HI.out.1
        rw [Nat.sub_self, dbl, HTT.out] at h1
        unfold opT
        dsimp only
        rw [h1])
      go_wp2
      go_ret
      exact ⟨by rw [HR.out]; rfl, HB.out⟩
end Go.Proofs.Ytbibfpgcnmocjaa
