/- input: the document's Feed. -/
import Derived.Test.YtpdmfopkcdphaaaQb
namespace Go.Proofs.Ytpdmfopkcdphaaa
open Go.RowKit

theorem dat_at (s : ByteArray) (i : Nat) (hi : i < s.size) : s.data.toList[i]'hi = s[i]'hi := by rw [Array.getElem_toList]; rfl
theorem strV_app (l : List (List UInt8)) (x : ByteArray) : strV (l ++ [x.data.toList]) = strV l ++ [.string x] := by simp [strV]
theorem mem_from {l : List UInt8} {k : Nat} (h : k < l.length) : (10 ∈ l.drop k) ↔ (l[k]'h = 10 ∨ 10 ∈ l.drop (k + 1)) := by
  rw [List.drop_eq_getElem_cons h, List.mem_cons, eq_comm]
/-- Its row grew by a line. -/
theorem QAt.grow {W X w2 : World} {B b : Nat} {v v2 : Value} {q : Qs} {t : List UInt8} (h : QAt W B b v q) (hX : Below W.heap.size W X) (hgr : X.grownBy w2 v.ownBlock) (hown : w2.ownsRow B 9 1 v2 (q.fed.length + 1) (strV (q.fed ++ [t]))) (hne : ∀ g, v2.ownBlock = some g → g ≠ b) : QAt (w2.setCell ⟨b, 0, none⟩ v2) B b v2 ⟨q.fed ++ [t], q.tk, q.cl⟩ := by
  have hb := h.blt
  have hs := hX.size
  have h1 : w2.heap[b]? = some (.cells #[v, .int .i64 (q.tk : Nat), .bool q.cl] 28 (0, 0)) := ((hgr.block b (by omega) (fun e => (h.ne e.symm).1 rfl)).trans (hX.block b hb)).trans h.blk
  refine ⟨h.hb, put_same _ _ 0 _ h1, ?_⟩
  show World.ownsRow _ B 9 1 v2 (q.fed ++ [t]).length (strV (q.fed ++ [t]))
  rw [List.length_append, List.length_singleton]
  exact owns_keep hown (fun g hg => put_far _ _ _ _ (hne g hg))

set_option maxRecDepth 100000 in
set_option maxHeartbeats 2000000 in
theorem docFeed_any {W : World} {B b n : Nat} {v : Value} {q : Qs} (h : QAt W B b v q) (ho : QOk q n) (hn : n ≤ 100000000) (hB : B ≤ W.heap.size) (s : ByteArray) (hs : s.size ≤ 140737488355000) : Calls Try.prog 9 #[.pointer (some ⟨b, 0, none⟩), .string s] W fun e w' => e = .returned (.int .i64 (feedE q s.data.toList : Nat)) ∧ Tch (foot b v) W w' ∧ ∃ v2, QAt w' B b v2 (q.feed s.data.toList) ∧ ∀ k, foot b v2 k → foot b v k ∨ W.heap.size ≤ k := by
  obtain ⟨i0, hi, hz0, hz1, hz2⟩ := info_parts infoStr
  obtain ⟨c0, f0⟩ := h.c0
  obtain ⟨c2, f2⟩ := h.c2
  have HH := hideT h
  have HSZ := hideT (show q.fed.length ≤ 100000000 from Nat.le_trans ho.len hn)
  have HB := hideT hB
  obtain ⟨E, hE⟩ : ∃ E, E = feedE q s.data.toList := ⟨_, rfl⟩
  rw [← hE]
  have same : E ≠ 0 → q.feed s.data.toList = q := fun h0 => by unfold Qs.feed; rw [← hE, if_neg h0]
  have HSM := hideT same
  clear same
  obtain ⟨cl, hcl⟩ : ∃ cl, cl = q.cl := ⟨_, rfl⟩
  rw [← hcl] at c2
  cases cl with
  | true =>
    have HE := hideT (show E = 25 by rw [hE]; unfold feedE; rw [← hcl]; rfl)
    clear h ho hn hB hE hcl hi hz0 hz1 hz2
    go_enter Try.func9, Try.ntmps9
    go_wp2
    go_ret
    exact ⟨by rw [HE.out]; rfl, Tch.refl _ _, _, by rw [HSM.out (by rw [HE.out]; decide)]; exact HH.out, fun _ hk => .inl hk⟩
  | false =>
    have HE := hideT (show E = if 10 ∈ s.data.toList then 19 else if 1024 < s.size then 15 else 0 by rw [hE]; unfold feedE; rw [← hcl]; rfl)
    have HEE := hideT hE
    clear h ho hn hB hE hcl
    go_enter Try.func9, Try.ntmps9
    go_wp2_with fail
    go_loopw [5] (fun v wr => ∃ k : Nat, k ≤ s.size ∧ v = .int .i64 k ∧ Hid (10 ∈ s.data.toList ↔ 10 ∈ s.data.toList.drop k) ∧ wr = W) (fun v _ => s.size - (intOf v).toNat)
    case atStart => exact ⟨0, by omega, rfl, hideT (by simp), rfl⟩
    case round =>
      obtain ⟨k, hk, rfl, HI, rfl⟩ := hrel
      by_cases hlt : k < s.size
      · have i1 : (k : Int) < (s.size : Int) := by omega
        have i2 : (0 : Int) ≤ (k : Int) := by omega
        have hm := mem_from (l := s.data.toList) (k := k) hlt
        rw [dat_at s k hlt] at hm
        have HM := hideT hm
        clear hm
        by_cases h10 : s[k]'hlt = 10
        · have c1 : (((s[k]'hlt).toNat : Int) == 10) = true := by rw [h10]; rfl
          have HR := hideT (show E = 19 by rw [HE.out, if_pos (HI.out.2 (HM.out.2 (.inl h10)))])
          clear h10 hi hz0 hz1 hz2
          go_wp2
          go_ret
          exact ⟨by rw [HR.out]; rfl, Tch.refl _ _, _, by rw [HSM.out (by rw [HR.out]; decide)]; exact HH.out, fun _ hk => .inl hk⟩
        · have c1 : (((s[k]'hlt).toNat : Int) == 10) = false := by
            rw [beq_eq_false_iff_ne]
            intro h
            exact h10 (UInt8.toNat_inj.1 (by have h' : ((s[k]'hlt).toNat : Int) = 10 := h; show _ = 10; omega))
          have HN := hideT (show 10 ∈ s.data.toList ↔ 10 ∈ s.data.toList.drop (k + 1) from HI.out.trans (HM.out.trans ⟨fun h => h.resolve_left h10, .inr⟩))
          clear h10 hi hz0 hz1 hz2
          go_wp2
          exact ⟨⟨k + 1, by omega, by go_num, HN, by first | rfl | trivial⟩, by simp [intOf]; omega⟩
      · obtain rfl : k = s.size := by omega
        have i1 : ((s.size : Int) < (s.size : Int)) = False := by rw [eq_iff_iff, iff_false]; omega
        have hno : ¬ 10 ∈ s.data.toList := fun hm => by
          have := HI.out.1 hm
          rw [List.drop_of_length_le (Nat.le_of_eq (show s.data.toList.length = s.size from rfl))] at this
          exact absurd this (by simp)
        by_cases hbig : 1024 < s.size
        · have k1 : (1024 : Int) < (s.size : Int) := by omega
          have HR := hideT (show E = 15 by rw [HE.out, if_neg hno, if_pos hbig])
          clear hno hi hz0 hz1 hz2 hbig
          go_wp2
          go_ret
          exact ⟨by rw [HR.out]; rfl, Tch.refl _ _, _, by rw [HSM.out (by rw [HR.out]; decide)]; exact HH.out, fun _ hk => .inl hk⟩
        · have k1 : ((1024 : Int) < (s.size : Int)) = False := by rw [eq_iff_iff, iff_false]; omega
          have hr : E = 0 := by rw [HE.out, if_neg hno, if_neg hbig]
          have HR := hideT hr
          have HQ := hideT (show q.feed s.data.toList = ⟨q.fed ++ [s.data.toList], q.tk, q.cl⟩ by unfold Qs.feed; rw [← HEE.out, if_pos hr])
          clear hr hno hbig HSM HI HE HEE
          have hlm := HH.out.blt
          have hX := (Below.refl wr.heap.size wr).alloc (Nat.le_refl _) (.cells #[.string s] 9)
          have HXX := hideT hX
          have HX := hideT (show ∀ (w2 : World), (wr.alloc (.cells #[.string s] 9)).grownBy w2 v.ownBlock → w2.cell? ⟨b, 0, none⟩ = some v ∧ w2.frozen? ⟨b, 0, none⟩ = false from by
            intro w2 hg
            have hh : w2.heap[b]? = wr.heap[b]? := (hg.block b (by rw [World.size_alloc]; omega) (fun e => (HH.out.ne e.symm).1 rfl)).trans (Below.heap_alloc wr _ b hlm)
            exact ⟨(World.cell?_of_block (a := ⟨b, 0, none⟩) hh).trans c0, (World.frozen?_of_block (a := ⟨b, 0, none⟩) hh).trans f0⟩)
          have ca : ∀ ob, (wr.alloc ob).cell? ⟨b, 0, none⟩ = some v := fun ob => (World.cell?_of_block (a := ⟨b, 0, none⟩) (Below.heap_alloc wr ob b hlm)).trans c0
          obtain ⟨N, hN⟩ : ∃ N : Nat, N = q.fed.length := ⟨_, rfl⟩
          have HN := hideT hN
          have own := HH.out.own
          have hsz := HSZ.out
          rw [← hN] at own hsz
          have HO := hideT own
          have HNZ := hideT hsz
          have hsl : (v = .slice none 0 0 ∧ N = 0) ∨ ∃ g cap, v = .slice (some ⟨g, 0, none⟩) N cap := by
            rcases own.2 with h | ⟨g, cap, cur, h, _⟩
            · exact .inl h
            · exact .inr ⟨g, cap, h⟩
          have HF := hideT (show ∀ (g gc : Nat) (w2 : World), w2.ownsRow B 9 1 (.slice (some ⟨g, 0, none⟩) (N + 1) gc) (N + 1) (strV q.fed ++ [.string s]) → (wr.alloc (.cells #[.string s] 9)).grownBy w2 v.ownBlock → (v.ownBlock = some g ∨ g = wr.heap.size + 1) → Tch (foot b v) wr (w2.setCell ⟨b, 0, none⟩ (.slice (some ⟨g, 0, none⟩) (N + 1) gc)) ∧ QAt (w2.setCell ⟨b, 0, none⟩ (.slice (some ⟨g, 0, none⟩) (N + 1) gc)) B b (.slice (some ⟨g, 0, none⟩) (N + 1) gc) (q.feed s.data.toList) ∧ ∀ k, foot b (.slice (some ⟨g, 0, none⟩) (N + 1) gc) k → foot b v k ∨ wr.heap.size ≤ k from by
            intro g gc w2 hown hgr hat
            refine ⟨(((Tch.of HXX.out : Tch (foot b v) _ _).trans (Tch.grown (F := foot b v) hgr (fun g' hg' => .inr hg')) (fun _ hj => .inl hj)).put (.inl rfl) _ _), ?_, fun k hk => ?_⟩
            rotate_left
            · rcases hk with e | e
              · exact .inl (.inl e)
              · cases e
                rcases hat with e | e
                · exact .inl (.inr e)
                · exact .inr (by show wr.heap.size ≤ g; omega)
            rw [HQ.out]
            refine HH.out.grow HXX.out hgr ?_ ?_
            · rw [strV_app, ← HN.out]
              exact hown
            · intro g' hg'
              cases hg'
              rcases hat with e | e
              · exact (HH.out.ne e).1
              · show g ≠ b
                omega)
          clear hX own hsz hN hlm HQ
          rcases hsl with ⟨rfl, rfl⟩ | ⟨g, cap, rfl⟩
          all_goals
            go_wp2_with (at_builtin; refine wpList_append_lies _ (by rfl) _ _ _ (by rfl) B 9 i0 (.string ⟨#[]⟩) 1 16 Try.underlying26 hi hz0 hz1 hz2 rfl (by omega) _ _ _ (by rfl) (World.ownsRow.alloc HO.out _) ⟨wr.heap.size, 0, none⟩ 1 1 [.string s] (by rfl) (by rfl) (World.news_of_block (cs := #[.string s]) (t := 9) (fr := (0, 0)) (heap_alloc_new wr _)) (by simp [Value.oneCell']) (by omega) (by have := HNZ.out; unfold maxLen; omega) (by have := HNZ.out; omega) (by have := HB.out; rw [World.size_alloc]; omega) (wr.heap.size + 1) (by simp) ?_)
            intro g2 gc2 w2 hown2 hgr2 hat2 hlt2
            obtain ⟨d0, e0⟩ := HX.out w2 hgr2
            have HP := hideT (HF.out g2 gc2 w2 hown2 hgr2 hat2)
            clear hown2 hgr2 hat2 hlt2
            go_wp2
            go_ret
            exact ⟨by rw [HR.out]; rfl, HP.out.1, _, HP.out.2.1, HP.out.2.2⟩
end Go.Proofs.Ytpdmfopkcdphaaa
