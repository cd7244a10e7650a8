/- check: Check. -/
import Derived.Test.YtdlceppiblodmaaCi
namespace Go.Proofs.Ytdlceppiblodmaa
open Go.RowKit
open chkP

def chkV (l : List Cm) : Value := fltV ((chkR l).1 : Nat) (chkR l).2

/-- Behind the first k commands. -/
structure ChkI (N : Nat) (l : List Cm) (Y wr : World) (k : Nat) (v2 : Value) (st : List Int) (D : DataW Unit) : Prop where
  sof : Sof wr (N + 1) (N + 1 + 1) (N + 1) v2 st D k
  len : st.length ≤ 16
  labs : LabsIn D (l.take k)
  go : goR (l.take k) st.length (l.drop k) = goR [] 0 l
  op : openR (l.drop k) st.reverse = openR l []
  below : Below (N + 1) Y wr
theorem one_le {pre : List Cm} {d : Nat} {c : Cm} (hd : d ≤ 16) (h : (oneR pre d c).1 = 0) : (oneR pre d c).2 ≤ 16 := by
  unfold oneR at h ⊢
  split
  · exact hd
  · rename_i h1
    rw [if_neg h1] at h
    split
    · rename_i h2
      rw [if_pos h2] at h
      split at h
      · cases h
      · rw [if_neg (by assumption)]
        show d + 1 ≤ 16
        omega
    · rename_i h2
      rw [if_neg h2] at h
      split
      · split
        · exact Nat.zero_le _
        · show d - 1 ≤ 16
          omega
      · split <;> exact hd
theorem one_fault {pre : List Cm} {d : Nat} {c : Cm} : (oneR pre d c).1 ≤ 23 := by
  unfold oneR adrR
  repeat' split
  all_goals (first | decide | omega | skip)

set_option maxRecDepth 100000 in
set_option maxHeartbeats 4000000 in
theorem check_any {W : World} {lv : Value} {l : List Cm} (hr : CRow W lv l) (hl : l.length ≤ 1000000000) : Calls Try.prog 7 #[lv] W fun e w' => e = .returned (chkV l) ∧ Below W.heap.size W w' := by
  have HR := hideT hr
  obtain ⟨a, cp, rfl, hrow⟩ := hr
  obtain ⟨J, hJ⟩ : ∃ J, J = chkV l := ⟨_, rfl⟩
  rw [← hJ]
  have HJ := hideT hJ
  have HROW := hideT hrow
  clear hrow hJ
  have hmk : ∀ V : World, (Instr.makeMap 42 none).run Try.prog V = .ok (.map (some V.heap.size)) (V.alloc (.map #[] 0)) := fun V => run_makeMap _ V
  go_enter Try.func7, Try.ntmps7
  go_wp2_with fail
  have hA : Below W.heap.size W (((W.alloc (.cells #[.int .i64 0, .int .i64 0] 30)).alloc (.map #[] 0)).alloc (.cells #[.slice none 0 0, .map (some (W.heap.size + 1))] 45)) := (((Below.refl _ _).alloc (Nat.le_refl _) _).alloc (by simp) _).alloc (by simp; omega) _
  have hres : (((W.alloc (.cells #[.int .i64 0, .int .i64 0] 30)).alloc (.map #[] 0)).alloc (.cells #[.slice none 0 0, .map (some (W.heap.size + 1))] 45)).heap[W.heap.size]? = some (.cells #[.int .i64 0, .int .i64 0] 30 (0, 0)) := (Below.heap_alloc _ _ _ (by simp; omega)).trans ((Below.heap_alloc _ _ _ (by simp)).trans (heap_alloc_new W _))
  have hmap : ((((W.alloc (.cells #[.int .i64 0, .int .i64 0] 30)).alloc (.map #[] 0)).alloc (.cells #[.slice none 0 0, .map (some (W.heap.size + 1))] 45))).ownsMap Try.prog 9 (unitElem (H := Unit)) (W.heap.size + 1) 0 (.map []) := by
    have h1 := (World.ownsMap_made (W.alloc (.cells #[.int .i64 0, .int .i64 0] 30)) Try.prog 9 (unitElem (H := Unit))).alloc (.cells #[.slice none 0 0, .map (some (W.heap.size + 1))] 45)
    rw [World.size_alloc] at h1
    exact h1
  have hblk : (((W.alloc (.cells #[.int .i64 0, .int .i64 0] 30)).alloc (.map #[] 0)).alloc (.cells #[.slice none 0 0, .map (some (W.heap.size + 1))] 45)).heap[W.heap.size + 1 + 1]? = some (.cells #[.slice none 0 0, .map (some (W.heap.size + 1))] 45 (0, 0)) := by
    have h1 := heap_alloc_new ((W.alloc (.cells #[.int .i64 0, .int .i64 0] 30)).alloc (.map #[] 0)) (.cells #[.slice none 0 0, .map (some (W.heap.size + 1))] 45)
    rw [World.size_alloc, World.size_alloc] at h1
    exact h1
  have hsz : (((W.alloc (.cells #[.int .i64 0, .int .i64 0] 30)).alloc (.map #[] 0)).alloc (.cells #[.slice none 0 0, .map (some (W.heap.size + 1))] 45)).heap.size = W.heap.size + 1 + 1 + 1 := by rw [World.size_alloc, World.size_alloc, World.size_alloc]
  obtain ⟨N, hN⟩ : ∃ N, N = W.heap.size := ⟨_, rfl⟩
  have HWN := hideT hN
  rw [← hN] at hA hres hmap hblk hsz ⊢
  clear hN
  obtain ⟨Y, hY⟩ : ∃ Y, Y = (((W.alloc (.cells #[.int .i64 0, .int .i64 0] 30)).alloc (.map #[] 0)).alloc (.cells #[.slice none 0 0, .map (some (N + 1))] 45)) := ⟨_, rfl⟩
  rw [← hY] at hA hres hmap hblk hsz ⊢
  clear hY
  have HAY := hideT hA
  have HRES := hideT hres
  have HSZ := hideT hsz
  have H0 := hideT (show ChkI N l Y Y 0 (.slice none 0 0) [] (.map []) from ⟨⟨by omega, by omega, hblk, World.ownsRow_nil _ _ _ _, hmap⟩, by simp, fun s => rfl, rfl, rfl, Below.refl _ _⟩)
  clear hA hres hmap hblk hsz hmk
  go_loopw [10] (fun v wr => ∃ k : Nat, k ≤ l.length ∧ v = .int .i64 (k : Nat) ∧ Hid (∃ v2 st D, ChkI N l Y wr k v2 st D)) (fun v _ => l.length - (intOf v).toNat)
  case atStart => exact ⟨0, Nat.zero_le _, rfl, hideT ⟨_, _, _, H0.out⟩⟩
  case round =>
    obtain ⟨k, hk, rfl, HI⟩ := hrel
    obtain ⟨v2, st, D, hI⟩ := HI.out
    have HII := hideT hI
    have HBW := hideT (HAY.out.trans (hI.below.mono (Nat.le_succ N)))
    clear HI hI
    by_cases hlt : k < l.length
    · have i1 : (k : Int) < (l.length : Int) := by omega
      have i2 : (0 : Int) ≤ (k : Int) := by omega
      have hkx : l[k]? = some (l[k]'hlt) := List.getElem?_eq_getElem hlt
      obtain ⟨g, o, rfl, hcat, hlen⟩ := HROW.out k _ hkx
      have hgo : goR (l.take k) st.length (l.drop k) = if (oneR (l.take k) st.length (l[k]'hlt)).1 ≠ 0 then .inl ((oneR (l.take k) st.length (l[k]'hlt)).1, (l[k]'hlt).pl) else goR (l.take (k + 1)) (oneR (l.take k) st.length (l[k]'hlt)).2 (l.drop (k + 1)) := by
        rw [List.drop_eq_getElem_cons hlt, goR, List.take_succ_eq_append_getElem hlt]
      have hop : openR (l.drop k) st.reverse = openR (l.drop (k + 1)) (if (l[k]'hlt).nm = 123 then (l[k]'hlt).pl :: st.reverse else if (l[k]'hlt).nm = 125 then st.reverse.tail else st.reverse) := by
        rw [List.drop_eq_getElem_cons hlt, openR]
      have htk : l.take (k + 1) = l.take k ++ [l[k]'hlt] := List.take_succ_eq_append_getElem hlt
      generalize (l[k]'hlt) = x at *
      have hgN : g < N := by rw [HWN.out]; exact hcat.lt
      have hcw := hcat.keep (HBW.out.block g hgN)
      have HCW := hideT hcw
      have HGO := hideT hgo
      have HOP := hideT hop
      have HTK := hideT htk
      have HGN := hideT hgN
      have HCM := hideT (command_any HII.out.sof (by have := HII.out.below.size; rw [HSZ.out] at this; omega) HII.out.len (by omega) (l.take k) HII.out.labs x g (o + k * 19) hlen (by omega) hcw)
      clear hgo hop htk hkx hcat hcw hlen hgN
      obtain ⟨E, hE⟩ : ∃ E, E = (oneR (l.take k) st.length x).1 := ⟨_, rfl⟩
      go_wp2_with fail
      refine HCM.out.mono ?_
      rintro e w1 ⟨rfl, hb1, hp1⟩
      have HB1 := hideT hb1
      have HP1 := hideT hp1
      clear hb1 hp1 HCM
      rw [← hE] at HGO HP1 ⊢
      have HEE := hideT hE
      have HEL := hideT (show E ≤ 23 by rw [hE]; exact one_fault)
      clear hE
      have HYB := hideT (HII.out.below.trans HB1.out)
      have HWB := hideT (HAY.out.trans (HYB.out.mono (Nat.le_succ N)))
      by_cases he : E = 0
      · have z1 : ((E : Int) != 0) = false := by rw [he]; rfl
        have HN := hideT (show ∃ v2 st D, ChkI N l Y w1 (k + 1) v2 st D by
          obtain ⟨v3, st3, D3, q1, q2, q3, q4⟩ := HP1.out he
          refine ⟨v3, st3, D3, q1, ?_, by rw [HTK.out]; exact q4, ?_, ?_, HYB.out⟩
          · rw [q2]
            exact one_le HII.out.len (by rw [← HEE.out]; exact he)
          · rw [q2, ← HII.out.go, HGO.out, if_neg (by simpa using he)]
          · rw [q3, ← HII.out.op, HOP.out])
        subst he
        go_wp2
        exact ⟨⟨k + 1, by omega, by go_num, HN⟩, by simp [intOf]; omega⟩
      · have z1 : ((E : Int) != 0) = true := by rw [bne_iff_ne]; omega
        have HF := hideT (show J = fltV (E : Nat) x.pl by
          rw [HJ.out]
          have h1 : goR [] 0 l = .inl (E, x.pl) := by rw [← HII.out.go, HGO.out, if_pos he]
          simp only [chkV, chkR, h1])
        have d0 := (HCW.out.keep (HB1.out.block g (by have := HGN.out; omega))).c0
        have hrb : w1.heap[N]? = some (.cells #[.int .i64 0, .int .i64 0] 30 (0, 0)) := (HYB.out.block N (Nat.lt_succ_self N)).trans HRES.out
        have r0 : w1.cell? ⟨N, 0, none⟩ = some (.int .i64 0) := by simp [World.cell?, hrb]
        have r1 : w1.cell? ⟨N, 1, none⟩ = some (.int .i64 0) := by simp [World.cell?, hrb]
        have f0 : w1.frozen? ⟨N, 0, none⟩ = false := by simp [World.frozen?, hrb]
        have f1 : w1.frozen? ⟨N, 1, none⟩ = false := by simp [World.frozen?, hrb]
        have HZ := hideT he
        clear hrb he
        go_wp2
        rw [HF.out]
        exact bodyPost_ret (v := fltV (E : Nat) x.pl) (by simp [results, Try.results7, go_sem, fltV, r0, r1]) rfl ⟨rfl, by rw [← HWN.out]; exact below_put (below_put HWB.out (Nat.le_refl _) _ _) (Nat.le_refl _) _ _⟩
    · obtain rfl : k = l.length := by omega
      have i1 : ((l.length : Int) < (l.length : Int)) = False := by rw [eq_iff_iff, iff_false]; omega
      have hgo : goR [] 0 l = .inr st.length := by
        have h1 := HII.out.go
        rw [List.take_length, List.drop_of_length_le (Nat.le_refl _)] at h1
        exact h1.symm
      have hop : openR l [] = st.reverse := by
        have h1 := HII.out.op
        rw [List.drop_of_length_le (Nat.le_refl _)] at h1
        exact h1.symm
      have hlb : LabsIn D l := by
        have h1 := HII.out.labs
        rw [List.take_length] at h1
        exact h1
      have hrb : wr.heap[N]? = some (.cells #[.int .i64 0, .int .i64 0] 30 (0, 0)) := (HII.out.below.block N (Nat.lt_succ_self N)).trans HRES.out
      have m0 := HII.out.sof.c0.1
      have hown := HII.out.sof.own
      rcases List.eq_nil_or_concat st with rfl | ⟨st1, p1, rfl⟩
      · have HVV := hideT (show J = jmpV l by
          rw [HJ.out]
          simp only [chkV, chkR, hgo, List.length_nil, ne_eq, not_true, if_false, jmpV]
          cases jumpR l l <;> rfl)
        have HUN := hideT (unknown_any HII.out.sof (HR.out.keep (fun k hk => HBW.out.block k (by rw [HWN.out]; exact hk))) hlb hl)
        have HRB := hideT hrb
        have hv2 : v2 = .slice none 0 0 ∨ ∃ g c, v2 = .slice (some ⟨g, 0, none⟩) 0 c := by
          rcases hown.2 with ⟨h1, _⟩ | ⟨g, c, cur, h1, _⟩
          · exact .inl h1
          · exact .inr ⟨g, c, h1⟩
        clear hgo hop hlb hrb hown
        have key : ∀ w1, Below wr.heap.size wr w1 → w1.heap[N]? = some (.cells #[.int .i64 0, .int .i64 0] 30 (0, 0)) ∧ Below N W w1 := fun w1 h1 => ⟨(h1.block N (Array.getElem?_eq_some_iff.1 HRB.out).1).trans HRB.out, HBW.out.trans (h1.mono (by have := HBW.out.size; rw [← HWN.out] at this; exact this))⟩
        have HKEY := hideT key
        have hjs : ∃ ee pp, jmpV l = fltV ee pp := by
          unfold jmpV
          cases jumpR l l with
          | none => exact ⟨_, _, rfl⟩
          | some p => exact ⟨_, _, rfl⟩
        obtain ⟨ee, pp, hjv⟩ := hjs
        rw [hjv] at HUN HVV
        clear key hjv
        rcases hv2 with rfl | ⟨g, c, rfl⟩
        all_goals
          go_wp2_with fail
          refine HUN.out.mono ?_
          rintro e w1 ⟨rfl, hb1⟩
          obtain ⟨hrb, hbw⟩ := HKEY.out w1 hb1
          have r0 : w1.cell? ⟨N, 0, none⟩ = some (.int .i64 0) := by simp [World.cell?, hrb]
          have r1 : w1.cell? ⟨N, 1, none⟩ = some (.int .i64 0) := by simp [World.cell?, hrb]
          have f0 : w1.frozen? ⟨N, 0, none⟩ = false := by simp [World.frozen?, hrb]
          have f1 : w1.frozen? ⟨N, 1, none⟩ = false := by simp [World.frozen?, hrb]
          have HF := hideT hbw
          clear hrb hbw hb1
          unfold fltV
          go_wp2
          rw [HVV.out]
          exact bodyPost_ret (v := fltV ee pp) (by simp [results, Try.results7, go_sem, fltV, r0, r1]) rfl ⟨rfl, by rw [← HWN.out]; exact below_put (below_put HF.out (Nat.le_refl _) _ _) (Nat.le_refl _) _ _⟩
      · rw [List.concat_eq_append] at hgo hop hown
        have HVV := hideT (show J = fltV 23 p1 by
          rw [HJ.out]
          have hne : (st1 ++ [p1]).length ≠ 0 := by simp
          simp only [chkV, chkR, hgo]
          rw [if_pos hne, hop]
          simp)
        have HLEN := hideT HII.out.len
        rw [List.concat_eq_append, List.length_append, List.length_singleton] at HLEN
        rw [List.length_append, List.length_singleton, intsV_app] at hown
        rcases hown.2 with ⟨h1, h2⟩ | ⟨g, c, cur, rfl, _⟩
        · omega
        · have hlast : wr.cell? ⟨g, st1.length, none⟩ = some (.int .i64 p1) := by
            have h1 := hown.cells (g := g) rfl st1.length (.int .i64 p1) (by rw [List.getElem?_append_right (by rw [intsV_len]; exact Nat.le_refl _), intsV_len]; simp)
            have hadd : (⟨g, 0, none⟩ : Addr).add st1.length = ⟨g, st1.length, none⟩ := by unfold Addr.add; split <;> simp_all
            rw [hadd] at h1
            exact h1
          obtain ⟨M, hM⟩ : ∃ M : Nat, M = st1.length := ⟨_, rfl⟩
          rw [← hM] at hlast m0 HLEN
          have r0 : wr.cell? ⟨N, 0, none⟩ = some (.int .i64 0) := by simp [World.cell?, hrb]
          have r1 : wr.cell? ⟨N, 1, none⟩ = some (.int .i64 0) := by simp [World.cell?, hrb]
          have f0 : wr.frozen? ⟨N, 0, none⟩ = false := by simp [World.frozen?, hrb]
          have f1 : wr.frozen? ⟨N, 1, none⟩ = false := by simp [World.frozen?, hrb]
          have j1 : (0 : Int) < (M : Int) + 1 := by omega
          have j2 : IntKind.i64.wrap ((M : Int) + 1 - 1) = (M : Int) := by have := HLEN.out; rw [IntKind.wrap_i64]; omega
          have j2' : IntKind.i64.wrap (M : Int) = (M : Int) := by have := HLEN.out; rw [IntKind.wrap_i64]; omega
          have j3 : (0 : Int) ≤ (M : Int) := by omega
          have j4 : (M : Int) < (M : Int) + 1 := by omega
          clear hgo hop hlb hrb hown hM
          go_wp2
          rw [HVV.out]
          exact bodyPost_ret (v := fltV 23 p1) (by simp [results, Try.results7, go_sem, fltV, r0, r1]) rfl ⟨rfl, by rw [← HWN.out]; exact below_put (below_put HBW.out (Nat.le_refl _) _ _) (Nat.le_refl _) _ _⟩
end Go.Proofs.Ytdlceppiblodmaa
