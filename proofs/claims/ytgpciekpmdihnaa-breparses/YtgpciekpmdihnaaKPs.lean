/- bre: the tokens of a text, one at a time. -/
import Derived.Test.YtgpciekpmdihnaaKPp
import Derived.Test.YtgpciekpmdihnaaKPr
import Derived.Shelf.Abstract
import Derived.WalkKit
import Derived.OwnWalkIn
import Derived.TacticsInMore
import Derived.LoopNIn
import Derived.LoopIn
namespace Go.Proofs.Ytgpciekpmdihnaa
open Go.RowKit Go.Shelf

attribute [local go_sem] Oper.semAt_some

/-- How far a text is read: the place, the kind of the token ahead, the parser. -/
structure St where
  i : Nat
  k : Nat
  P : Ps

noncomputable def St.tok (s : ByteArray) (x : St) : Tk := tokenT s x.i x.k
noncomputable def St.nx (s : ByteArray) (x : St) : St := ⟨(x.tok s).to, (x.tok s).kind, (x.P.take (x.tok s)).2⟩
def St.go (s : ByteArray) (x : St) : Prop := x.i < s.size ∧ x.k ≠ 0

/-- What a round keeps: all cells that aren't the parser's. -/
def Kp (W W' : World) : Prop := W.heap.size ≤ W'.heap.size ∧ W'.heap[0]? = W.heap[0]? ∧ ∀ (k : Nat) (o : Obj), W.heap[k]? = some o → o.isCells = true → mine o = false → W'.heap[k]? = some o

set_option maxRecDepth 100000 in
set_option maxHeartbeats 1000000 in
theorem tokens_feed (n : Nat) (hn : 1 ≤ n) (s : ByteArray) (hs : s.size ≤ 1073741824) (tb : Nat) (x0 : St) (h0 : x0.i = 0 ∧ x0.k = 4) (w : World) (hg : Glob w) (ht : w.heap[tb]? = some (.cells #[.string s] 9 (0, 0))) :
    Feeds n Try.prog 25 #[.pointer (some ⟨tb, 0, none⟩)] (fun x : St => #[(x.tok s).v]) (St.go s) (St.nx s) Kp x0 w := by
  intro l J Jx W hW hJ hY hJ0
  show CallsIn Fence.wide n Try.prog 25 #[.func (.yield l) #[] #[], .pointer (some ⟨tb, 0, none⟩)] W _
  have hgW := hg.below hW (Nat.le_refl _)
  have htW : W.heap[tb]? = some (.cells #[.string s] 9 (0, 0)) := (hW.block tb (Array.getElem?_eq_some_iff.1 ht).1).trans ht
  have HY := hideT (And.intro hY (And.intro hJ hJ0))
  clear hY hJ hJ0 hW hg ht
  refine callsIn_of_wp Try.func25 rfl trivial ?_ rfl
  simp only [Try.ntmps25, List.size_toArray, List.length_cons, List.length_nil, Nat.reduceAdd, Nat.reduceSub, Array.replicate_succ, Array.replicate_zero, List.push_toArray, List.append_toArray, List.nil_append, List.cons_append]
  gi_wp2
  gi_loopw [3, 4] (fun ah at' wr => ∃ x : St, J x wr ∧ ah = .int .i64 (x.k : Nat) ∧ at' = .int .i64 (x.i : Nat) ∧ x.k ≠ 0 ∧ Glob wr ∧ wr.heap[tb]? = some (.cells #[.string s] 9 (0, 0)) ∧ W.heap.size ≤ wr.heap.size) (fun _ at' _ => (s.size - intOf at').toNat)
  case atStart => exact ⟨x0, HY.out.2.2, by rw [h0.2]; rfl, by rw [h0.1]; rfl, by rw [h0.2]; omega, hgW, htW, Nat.le_refl _⟩
  case round =>
    obtain ⟨x, hJx, rfl, rfl, hk0, hgr, htr, hsz⟩ := hrel
    have ct : wr.cell? ⟨tb, 0, none⟩ = some (.string s) := by simp [World.cell?, htr]
    by_cases hlt : x.i < s.size
    · have hi : (x.i : Int) < (s.size : Int) := by omega
      gi_wp2_with fail
      refine ⟨trivial, ?_⟩
      refine (callsIn_wide.2 (readToken_any s hs x.i x.k hlt _ hgr)).mono ?_
      rintro e w1 ⟨rfl, hb1⟩
      obtain ⟨ob, hob⟩ : ∃ ob : Obj, ob = .cells #[.int .i64 (x.tok s).kind, .int .i64 (x.tok s).fr, .int .i64 (x.tok s).to, .int .i64 (x.tok s).e, .int .u64 (wd (x.tok s).q 0), .int .u64 (wd (x.tok s).q 1), .int .u64 (wd (x.tok s).q 2), .int .u64 (wd (x.tok s).q 3), .int .i64 (x.tok s).grp, .int .i64 (x.tok s).lo, .int .i64 (x.tok s).hi] 60 := ⟨_, rfl⟩
      have hJ1 : J x (w1.alloc ob) := HY.out.2.1 _ wr _ none hJx ⟨hb1.os, hb1.tape, hb1.output, by rw [World.size_alloc]; have := hb1.size; omega, fun j hj _ => (Below.heap_alloc w1 ob j (Nat.lt_of_lt_of_le hj hb1.size)).trans (hb1.block j hj)⟩ (fun r e => by cases e)
      have hy := HY.out.1 x (w1.alloc ob) ⟨hlt, hk0⟩ hJ1
      have hta := tokAt_token s x.i x.k hlt
      change TokAt s x.i x.k (x.tok s) at hta
      have htw1 : (w1.alloc ob).heap[tb]? = some (.cells #[.string s] 9 (0, 0)) := by
        have h1 := (Array.getElem?_eq_some_iff.1 htr).1
        exact (Below.heap_alloc w1 ob tb (Nat.lt_of_lt_of_le h1 hb1.size)).trans ((hb1.block tb h1).trans htr)
      have hgw1 : Glob (w1.alloc ob) := (hgr.below hb1 (Nat.le_refl _)).below ((Below.refl _ _).alloc (Nat.le_refl _) _) (Nat.le_refl _)
      have hsw1 : W.heap.size ≤ (w1.alloc ob).heap.size := by rw [World.size_alloc]; have := hb1.size; omega
      have hbx : (w1.alloc ob).heap[w1.heap.size]? = some ob := heap_alloc_new w1 ob
      show _
      have hv : tokenT s x.i x.k = x.tok s := rfl
      rw [hv]
      generalize hT : x.tok s = T at *
      obtain ⟨kd, fr, to, er, q, gp, lo, hi2⟩ := T
      simp only [Tk.v] at hy hob ⊢
      subst hob
      obtain ⟨fn, tmps, assign, body, hy1, hR⟩ := hy
      have HR := hideT (And.intro hta (And.intro htw1 (And.intro hgw1 (And.intro hsw1 (And.intro hbx hR)))))
      have HT := hideT hT
      clear hta htw1 hgw1 hsw1 hbx hR hT hJ1 hJx hgr htr hsz hgW htW hv ct hb1
      gi_wp2_with fail
      refine HR.out.2.2.2.2.2.mono ?_
      rintro e W3 (⟨rfl, hJ3, hk3⟩ | ⟨rfl, hJx3⟩)
      · have b3 := hk3.2.2 _ _ HR.out.2.2.2.2.1 rfl rfl
        have q0 : W3.cell? ⟨w1.heap.size, 0, none⟩ = some (.int .i64 (kd : Nat)) := by simp [World.cell?, b3]
        have q2 : W3.cell? ⟨w1.heap.size, 2, none⟩ = some (.int .i64 (to : Nat)) := by simp [World.cell?, b3]
        have t3 := hk3.2.2 _ _ HR.out.2.1 rfl rfl
        have g3 : Glob W3 := by
          obtain ⟨m, hm⟩ := HR.out.2.2.1
          exact ⟨m, (World.cell?_of_block (a := ⟨0, 0, none⟩) hk3.2.1).trans hm⟩
        have s3 : W.heap.size ≤ W3.heap.size := Nat.le_trans HR.out.2.2.2.1 hk3.1
        have nx3 : x.nx s = ⟨to, kd, (x.P.take (x.tok s)).2⟩ := by unfold St.nx; rw [HT.out]
        have ta := HR.out.1
        have H3 := hideT (And.intro hJ3 (And.intro t3 (And.intro g3 (And.intro s3 (And.intro nx3 ta)))))
        clear hJ3 hk3 b3 t3 g3 s3 nx3 ta HR HT hy1
        by_cases hkd : kd = 0
        · subst hkd
          gi_wp2
          refine bodyPost_ret (results_none rfl _ _ _) rfl ?_
          exact ⟨⟨_, rfl⟩, .inl ⟨x.nx s, fun h => h.2 (by rw [H3.out.2.2.2.2.1]), H3.out.1⟩⟩
        · have e0 : ((kd : Int) == 0) = false := by rw [beq_eq_false_iff_ne]; omega
          have hnx := H3.out.2.2.2.2.2.next hkd
          have hn2 : x.i < to ∧ to ≤ s.size := hnx
          clear hnx
          gi_wp2_with fail
          gi_region
          all_goals
            gi_wp2
            go_roundw
            case rel => exact ⟨x.nx s, HY.out.2.1 _ W3 _ none H3.out.1 ⟨rfl, rfl, rfl, Nat.le_refl _, fun _ _ _ => rfl⟩ (fun r e => by cases e), by rw [H3.out.2.2.2.2.1], by rw [H3.out.2.2.2.2.1], by rw [H3.out.2.2.2.2.1]; exact hkd, H3.out.2.2.1, H3.out.2.1, H3.out.2.2.2.1⟩
            case measure => simp [intOf]; omega
      · clear HR HT hy1
        gi_wp2
        refine bodyPost_ret (results_none rfl _ _ _) rfl ?_
        exact ⟨⟨_, rfl⟩, .inr ⟨x, hJx3⟩⟩
    · have hi : ¬ (x.i : Int) < (s.size : Int) := by omega
      gi_wp2
      go_end0
      exact ⟨⟨_, rfl⟩, .inl ⟨x, fun h => hlt h.1, hJx⟩⟩
end Go.Proofs.Ytgpciekpmdihnaa
