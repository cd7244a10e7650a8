/- bracket.Text's closure: what is gathered is let out. -/
import Derived.Test.YtolkbemclkgmmaaBrows
import Derived.RangeFuncBox
import Derived.RangeFuncNested
import Derived.Laws.AppendOwnNone
import Derived.Deep.RegionHeld3
import Derived.Deep.AppendLies
import Derived.Test.YtolkbemclkgmmaaLate
namespace Go.Proofs.Ytolkbemclkgmmaa
open Go.RowKit
namespace brows

theorem hide2 {p : Prop} (h : p) : Hid p := h

theorem Rows.box {W : World} {base : Nat} {rs : List R} (h : Rows W base rs) (B : Nat) (v : Value) (hb : ∀ r ∈ rs, some B ≠ r.1.ownBlock) : Rows (W.setCell ⟨B, 0, none⟩ v) base rs :=
  ⟨fun r hr => (h.1 r hr).kept (grownBy_setCell' W B v) (.inr fun e => hb r hr e.symm), h.2⟩

theorem Rows.trim {W : World} {base g n cap : Nat} {v : Value} {l run : List Nat} (h : Rows W base [(v, l), (.slice (some ⟨g, 0, none⟩) n cap, run)]) : Rows W base [(v, l), (.slice (some ⟨g, 0, none⟩) 0 cap, [])] := by
  obtain ⟨h1, h2⟩ := h
  rw [List.pairwise_cons] at h2
  refine ⟨fun r hr => ?_, List.pairwise_cons.2 ⟨fun r hr k hk hk2 => ?_, by simp⟩⟩
  · rcases List.mem_cons.1 hr with rfl | hr
    · exact h1 _ (by simp)
    · obtain rfl := List.mem_singleton.1 hr
      have ho := h1 (.slice (some ⟨g, 0, none⟩) n cap, run) (by simp)
      rcases ho.2 with ⟨h', _⟩ | ⟨g', cap', cur, h', hb, hg, hn, hc, hs, ht⟩
      · simp at h'
      · simp only [Value.slice.injEq, Option.some.injEq, Addr.mk.injEq, and_true] at h'
        obtain ⟨rfl, -, rfl⟩ := h'
        exact ⟨by simp [byteVals], .inr ⟨g, cap, cur, rfl, hb, hg, Nat.zero_le _, hc, hs, by simp [byteVals]⟩⟩
  · obtain rfl := List.mem_singleton.1 hr
    exact h2.1 (.slice (some ⟨g, 0, none⟩) n cap, run) (by simp) k hk (by simpa [Value.ownBlock] using hk2)

/-- All blocks but three lie as they lay. -/
def Kept3 (w w' : World) (a b c : Nat) : Prop := w'.os = w.os ∧ w'.tape = w.tape ∧ w'.output = w.output ∧ w.heap.size ≤ w'.heap.size ∧ ∀ k, k < w.heap.size → k ≠ a → k ≠ b → k ≠ c → w'.heap[k]? = w.heap[k]?

theorem kept3 {w w1 : World} {g bo br : Nat} {vo vr : Value} (h : w.grownBy w1 (some g)) : Kept3 w ((w1.setCell ⟨bo, 0, none⟩ vo).setCell ⟨br, 0, none⟩ vr) g bo br := by
  have h2 := grownBy_setCell' w1 bo vo
  have h3 := grownBy_setCell' (w1.setCell ⟨bo, 0, none⟩ vo) br vr
  have s1 := h.size
  have s2 := h2.size
  have s3 := h3.size
  refine ⟨h3.os.trans (h2.os.trans h.os), h3.tape.trans (h2.tape.trans h.tape), h3.output.trans (h2.output.trans h.output), by omega, fun k hk h4 h5 h6 => ?_⟩
  rw [h3.block k (by omega) (by simp [h6]), h2.block k (by omega) (by simp [h5]), h.block k hk (by simp [h4])]

/-- What letOut leaves. -/
def LetOut (w w' : World) (br bo base gr cr go : Nat) (t : List Nat) : Prop :=
  ∃ go' co', Boxed w' bo 47 (.slice (some ⟨go', 0, none⟩) t.length co') ∧ Boxed w' br 47 (.slice (some ⟨gr, 0, none⟩) 0 cr) ∧ Rows w' base [(.slice (some ⟨go', 0, none⟩) t.length co', t), (.slice (some ⟨gr, 0, none⟩) 0 cr, [])] ∧ Kept3 w w' go bo br

theorem letOut_done {w w1 : World} {br bo base gr cr n go co go' co' : Nat} {run out t : List Nat} (hne : br ≠ bo)
    (hR : Rows w1 base [(.slice (some ⟨go', 0, none⟩) t.length co', t), (.slice (some ⟨gr, 0, none⟩) n cr, run)]) (hbr : Boxed w1 br 47 (.slice (some ⟨gr, 0, none⟩) n cr)) (hbo : Boxed w1 bo 47 (.slice (some ⟨go, 0, none⟩) out.length co)) (hg : w.grownBy w1 (some go)) :
    LetOut w ((w1.setCell ⟨bo, 0, none⟩ (.slice (some ⟨go', 0, none⟩) t.length co')).setCell ⟨br, 0, none⟩ (.slice (some ⟨gr, 0, none⟩) 0 cr)) br bo base gr cr go t := by
  have hk1 : Boxed ((w1.setCell ⟨bo, 0, none⟩ (.slice (some ⟨go', 0, none⟩) t.length co')).setCell ⟨br, 0, none⟩ (.slice (some ⟨gr, 0, none⟩) 0 cr)) br 47 (.slice (some ⟨gr, 0, none⟩) 0 cr) := (Boxed.other hbr hne _).set _
  have hk2 : Boxed ((w1.setCell ⟨bo, 0, none⟩ (.slice (some ⟨go', 0, none⟩) t.length co')).setCell ⟨br, 0, none⟩ (.slice (some ⟨gr, 0, none⟩) 0 cr)) bo 47 (.slice (some ⟨go', 0, none⟩) t.length co') := Boxed.other (hbo.set _) (Ne.symm hne) _
  refine ⟨go', co', hk2, hk1, ?_, kept3 hg⟩
  have q1 := Rows.box hR bo (.slice (some ⟨go', 0, none⟩) t.length co') (fun r hr => hbo.not_row (by decide) (hR.1 r hr))
  have q2 := Rows.box q1 br (.slice (some ⟨gr, 0, none⟩) 0 cr) (fun r hr => hbr.not_row (by decide) (hR.1 r hr))
  exact Rows.trim q2

theorem apart_head {W : World} {base go n co gr m cr : Nat} {out run : List Nat} (h : Rows W base [(.slice (some ⟨go, 0, none⟩) n co, out), (.slice (some ⟨gr, 0, none⟩) m cr, run)]) : some gr ≠ (Value.slice (some ⟨go, 0, none⟩) n co).ownBlock := by
  intro e
  have h2 := h.2
  rw [List.pairwise_cons] at h2
  exact h2.1 (.slice (some ⟨gr, 0, none⟩) m cr, run) (by simp) gr e.symm rfl

theorem grown_drawn {w w1 : World} {o : Obj} {row : Option Nat} (h : ((w.alloc o).drew).grownBy w1 row) : w.grownBy w1 row := by
  have hs : ((w.alloc o).drew).heap.size = w.heap.size + 1 := by simp
  have h1 := h.size
  exact ⟨h.os, h.tape, h.output, by omega, fun k hk hr => (h.block k (by omega) hr).trans (Below.heap_alloc w o k hk)⟩


set_option maxRecDepth 100000 in
set_option maxHeartbeats 1000000 in
theorem letOut_few (br bo base : Nat) (run out : List Nat) (gr cr go co : Nat) (w : World) (hbr : Boxed w br 47 (.slice (some ⟨gr, 0, none⟩) run.length cr)) (hbo : Boxed w bo 47 (.slice (some ⟨go, 0, none⟩) out.length co))
    (hne : br ≠ bo) (hR : Rows w base [(.slice (some ⟨go, 0, none⟩) out.length co, out), (.slice (some ⟨gr, 0, none⟩) run.length cr, run)]) (hb : base ≤ w.heap.size) (h3 : run.length < 3) (ho : out.length ≤ 100000) (ho1 : 1 ≤ out.length) :
    Calls Try.prog 22 #[.pointer (some ⟨br, 0, none⟩), .pointer (some ⟨bo, 0, none⟩)] w fun e w' => (∃ v, e = .returned v) ∧ LetOut w w' br bo base gr cr go (out ++ run) := by
  obtain ⟨i0, hi, hz0, hz1, hz2⟩ := info_parts info5
  have c1 := hbr.cell
  have c2 := hbo.cell
  have HR := hide2 hR
  have HBR := hide2 hbr
  have HBO := hide2 hbo
  have hrun := hR.1 (.slice (some ⟨gr, 0, none⟩) run.length cr, run) (by simp)
  have HC := hide2 (hrun.cells (g := gr) rfl)
  clear hR hbr hbo hrun
  go_enter Try.func22, Try.ntmps22
  go_wp2_with (at_builtin; refine wpList_append_own_at _ rfl _ _ 47 rfl base 5 i0 (.int .u8 0) 1 1 Try.underlying47 hi hz0 hz1 hz2 rfl (by decide) _ _ _ rfl HR.out.head ⟨gr, 0, none⟩ run.length cr (byteVals run) rfl (by simp [byteVals]) HC.out (by intro u hu; simp only [byteVals, List.mem_map] at hu; obtain ⟨z, -, rfl⟩ := hu; rfl) (by unfold maxLen; omega) (by omega) hb ?_; intro vo' w1 hown hg _ hat; have hown2 : w1.ownsRow base 5 1 vo' (out ++ run).length (byteVals (out ++ run)) := (by rw [List.length_append]; have e : byteVals (out ++ run) = byteVals out ++ byteVals run := (by simp [byteVals]); rw [e]; exact hown); obtain ⟨go', co', rfl⟩ : ∃ g c, vo' = .slice (some ⟨g, 0, none⟩) (out.length + run.length) c := (by obtain ⟨k, hk⟩ : ∃ k, out.length + run.length = k + 1 := ⟨out.length + run.length - 1, by omega⟩; rw [hk] at hown ⊢; exact ownsRow_succ hown); have HR1 := hide2 (Rows.grown HR.out hown2 hg hat); have HG := hide2 hg; have hbr1 : Boxed w1 br 47 (.slice (some ⟨gr, 0, none⟩) run.length cr) := HBR.out.kept hg (HBR.out.not_row (by decide) HR.out.head); have hbo1 : Boxed w1 bo 47 (.slice (some ⟨go, 0, none⟩) out.length co) := HBO.out.kept hg (HBO.out.not_row (by decide) HR.out.head); have d1 := hbr1.cell; have d2 := hbo1.cell; have f1 := hbr1.frozen; have f2 := hbo1.frozen; have e1 := (Boxed.other hbr1 hne (.slice (some ⟨go', 0, none⟩) (out.length + run.length) co')).cell; have e2 := (Boxed.other hbr1 hne (.slice (some ⟨go', 0, none⟩) (out.length + run.length) co')).frozen; have HBR1 := hide2 hbr1; have HBO1 := hide2 hbo1; clear hbr1 hbo1; clear hown hown2 hg hat)
  go_end0
  refine ⟨⟨_, rfl⟩, ?_⟩
  have h := HR1.out
  have h' : Rows w1 base [(.slice (some ⟨go', 0, none⟩) (out ++ run).length co', out ++ run), (.slice (some ⟨gr, 0, none⟩) run.length cr, run)] := by rw [List.length_append]; exact h
  have := letOut_done hne h' HBR1.out HBO1.out HG.out
  rw [List.length_append] at this
  exact this

/-- The cells that the loads read. -/
def LC (bo br gr j go m co n cr x y : Nat) (w : World) : Prop := w.cell? ⟨bo, 0, none⟩ = some (.slice (some ⟨go, 0, none⟩) m co) ∧ w.cell? ⟨br, 0, none⟩ = some (.slice (some ⟨gr, 0, none⟩) n cr) ∧ w.cell? ⟨gr, 0, none⟩ = some (.int .u8 (x : Nat)) ∧ w.cell? ⟨gr, j, none⟩ = some (.int .u8 (y : Nat))

set_option maxRecDepth 100000 in
set_option maxHeartbeats 1000000 in
theorem letOut_many (br bo base : Nat) (run out : List Nat) (n m : Nat) (hn : run.length = n) (hm : out.length = m) (gr cr go co : Nat) (w : World) (hbr : Boxed w br 47 (.slice (some ⟨gr, 0, none⟩) n cr)) (hbo : Boxed w bo 47 (.slice (some ⟨go, 0, none⟩) m co))
    (hne : br ≠ bo) (hR : Rows w base [(.slice (some ⟨go, 0, none⟩) m co, out), (.slice (some ⟨gr, 0, none⟩) n cr, run)]) (hb : base ≤ w.heap.size) (h3 : 3 ≤ n) (h4 : n ≤ 100000) (ho : m ≤ 100000) (ho1 : 1 ≤ m) (x y : Nat) (hx : run[0]? = some x) (hy : run[n - 1]? = some y) :
    Calls Try.prog 22 #[.pointer (some ⟨br, 0, none⟩), .pointer (some ⟨bo, 0, none⟩)] w fun e w' => (∃ v, e = .returned v) ∧ LetOut w w' br bo base gr cr go (out ++ [x, 45, y]) := by
  obtain ⟨i0, hi, hz0, hz1, hz2⟩ := info_parts info5
  have c1 := hbr.cell
  have c2 := hbo.cell
  have HR := hide2 hR
  have HBR := hide2 hbr
  have HBO := hide2 hbo
  have hrun := hR.1 (.slice (some ⟨gr, 0, none⟩) n cr, run) (by simp)
  have hadd : ∀ k, (⟨gr, 0, none⟩ : Addr).add k = ⟨gr, k, none⟩ := fun k => by unfold Addr.add; split <;> simp_all
  have hrow : w.ownsRow base 5 1 (.slice (some ⟨go, 0, none⟩) m co) m (byteVals out) := by have := hR.head; rw [hm] at this; exact this
  simp only [hn] at hrun
  have hc0 := hrun.cells (g := gr) rfl 0 (.int .u8 (x : Nat)) (by simp [byteVals, hx])
  have hc1 := hrun.cells (g := gr) rfl (n - 1) (.int .u8 (y : Nat)) (by simp [byteVals, hy])
  rw [hadd] at hc0 hc1
  obtain ⟨j, hj⟩ : ∃ j, n - 1 = j := ⟨_, rfl⟩
  rw [hj] at hc1
  have n2 : (0 : Int) ≤ (j : Int) := by omega
  have n3 : (j : Int) < (n : Int) := by omega
  have n4 : (0 : Int) < (n : Int) := by omega
  have n5 : 0 < n := by omega
  have n6 : j < n := by omega
  have n7 : IntKind.i64.wrap ((n : Int) - 1) = (j : Int) := by rw [IntKind.wrap_i64]; omega
  have n8 : IntKind.i64.wrap (j : Int) = (j : Int) := by rw [IntKind.wrap_i64]; omega
  have HROW := hide2 hrow
  have HL := hide2 (And.intro hn hm)
  have f2 := HBO.out.frozen
  have lbr := World.block_lt_of_cell? w _ c1
  have lbo := World.block_lt_of_cell? w _ c2
  have lgr := World.block_lt_of_cell? w _ hc0
  have ago : some br ≠ (Value.slice (some ⟨go, 0, none⟩) m co).ownBlock := HBR.out.not_row (by decide) hrow
  have abo : some bo ≠ (Value.slice (some ⟨go, 0, none⟩) m co).ownBlock := HBO.out.not_row (by decide) hrow
  have agr : some gr ≠ (Value.slice (some ⟨go, 0, none⟩) m co).ownBlock := apart_head HR.out
  have agb : gr ≠ bo := fun e => HBO.out.not_row (by decide) hrun (by rw [← e]; rfl)
  have c3 := (HBO.out.alloc (.cells #[.int .u8 (x : Nat), .int .u8 45, .int .u8 (y : Nat)] 5)).cell
  clear hR hbr hbo hrun hadd hx hy hj hrow hn hm
  go_enter Try.func22, Try.ntmps22
  go_wp2_with fail
  have hS0 : LC bo br gr j go m co n cr x y w.drew := ⟨c2, c1, hc0, hc1⟩
  refine late.begin (LC bo br gr j go m co n cr x y) (fun i => i != 12) rfl ?_
  refine late.take (i := 0) (v := ?lv0) rfl (by kernel_rfl) (by kernel_rfl) (by kernel_rfl) (by kernel_rfl) (fun _ _ _ h => h) hS0 (Or.inl ⟨by rfl, ?ly0⟩) ?lr0
  case ly0 =>
    intro w hSw
    obtain ⟨s1, s2, s3, s4⟩ := hSw
    go_simp
    try with_reducible rfl
  simp only [Act.put, List.setIfInBounds_toArray, List.set_cons_zero, List.set_cons_succ]
  refine late.take (i := 1) (v := ?lv1) rfl (by kernel_rfl) (by kernel_rfl) (by kernel_rfl) (by kernel_rfl) (fun _ _ _ h => h) hS0 (Or.inl ⟨by rfl, ?ly1⟩) ?lr1
  case ly1 =>
    intro w hSw
    obtain ⟨s1, s2, s3, s4⟩ := hSw
    go_simp
    try with_reducible rfl
  simp only [Act.put, List.setIfInBounds_toArray, List.set_cons_zero, List.set_cons_succ]
  refine late.take (i := 2) (v := ?lv2) rfl (by kernel_rfl) (by kernel_rfl) (by kernel_rfl) (by kernel_rfl) (fun _ _ _ h => h) hS0 (Or.inl ⟨by rfl, ?ly2⟩) ?lr2
  case ly2 =>
    intro w hSw
    obtain ⟨s1, s2, s3, s4⟩ := hSw
    go_simp
    try with_reducible rfl
  simp only [Act.put, List.setIfInBounds_toArray, List.set_cons_zero, List.set_cons_succ]
  refine late.take (i := 3) (v := ?lv3) rfl (by kernel_rfl) (by kernel_rfl) (by kernel_rfl) (by kernel_rfl) (fun _ _ _ h => h) hS0 (Or.inl ⟨by rfl, ?ly3⟩) ?lr3
  case ly3 =>
    intro w hSw
    obtain ⟨s1, s2, s3, s4⟩ := hSw
    go_simp
    try with_reducible rfl
  simp only [Act.put, List.setIfInBounds_toArray, List.set_cons_zero, List.set_cons_succ]
  refine late.take (i := 4) (v := ?lv4) rfl (by kernel_rfl) (by kernel_rfl) (by kernel_rfl) (by kernel_rfl) (fun _ _ _ h => h) hS0 (Or.inl ⟨by rfl, ?ly4⟩) ?lr4
  case ly4 =>
    intro w hSw
    obtain ⟨s1, s2, s3, s4⟩ := hSw
    go_simp
    try with_reducible rfl
  simp only [Act.put, List.setIfInBounds_toArray, List.set_cons_zero, List.set_cons_succ]
  refine late.take (i := 5) (v := ?lv5) rfl (by kernel_rfl) (by kernel_rfl) (by kernel_rfl) (by kernel_rfl) (fun _ _ _ h => h) hS0 (Or.inl ⟨by rfl, ?ly5⟩) ?lr5
  case ly5 =>
    intro w hSw
    obtain ⟨s1, s2, s3, s4⟩ := hSw
    go_simp
    try with_reducible rfl
  simp only [Act.put, List.setIfInBounds_toArray, List.set_cons_zero, List.set_cons_succ]
  refine late.take (i := 6) (v := ?lv6) rfl (by kernel_rfl) (by kernel_rfl) (by kernel_rfl) (by kernel_rfl) (fun _ _ _ h => h) hS0 (Or.inl ⟨by rfl, ?ly6⟩) ?lr6
  case ly6 =>
    intro w hSw
    obtain ⟨s1, s2, s3, s4⟩ := hSw
    go_simp
    try with_reducible rfl
  simp only [Act.put, List.setIfInBounds_toArray, List.set_cons_zero, List.set_cons_succ]
  refine late.take (i := 7) (v := ?lv7) rfl (by kernel_rfl) (by kernel_rfl) (by kernel_rfl) (by kernel_rfl) (fun _ _ _ h => h) hS0 (Or.inl ⟨by rfl, ?ly7⟩) ?lr7
  case ly7 =>
    intro w hSw
    obtain ⟨s1, s2, s3, s4⟩ := hSw
    go_simp
    try with_reducible rfl
  simp only [Act.put, List.setIfInBounds_toArray, List.set_cons_zero, List.set_cons_succ]
  refine late.take (i := 8) (v := ?lv8) rfl (by kernel_rfl) (by kernel_rfl) (by kernel_rfl) (by kernel_rfl) (fun _ _ _ h => h) hS0 (Or.inl ⟨by rfl, ?ly8⟩) ?lr8
  case ly8 =>
    intro w hSw
    obtain ⟨s1, s2, s3, s4⟩ := hSw
    go_simp
    try with_reducible rfl
  simp only [Act.put, List.setIfInBounds_toArray, List.set_cons_zero, List.set_cons_succ]
  refine late.take (i := 9) (v := ?lv9) rfl (by kernel_rfl) (by kernel_rfl) (by kernel_rfl) (by kernel_rfl) (fun _ _ _ h => h) hS0 (Or.inl ⟨by rfl, ?ly9⟩) ?lr9
  case ly9 =>
    intro w hSw
    obtain ⟨s1, s2, s3, s4⟩ := hSw
    go_simp
    try with_reducible rfl
  simp only [Act.put, List.setIfInBounds_toArray, List.set_cons_zero, List.set_cons_succ]
  refine late.one (i := 10) (by kernel_rfl) rfl (fun K hK => ?_)
  go_simp
  refine hK.out _ _ (fun _ => ?_) ?_
  · exact ⟨c3, (HBR.out.alloc _).cell, (World.cell?_of_block (a := ⟨gr, 0, none⟩) (Below.heap_alloc w _ gr lgr)).trans hc0, (World.cell?_of_block (a := ⟨gr, j, none⟩) (Below.heap_alloc w _ gr lgr)).trans hc1⟩
  clear hK K
  refine late.one (i := 11) (by kernel_rfl) rfl (fun K hK => ?_)
  refine step_append_lies _ (by rfl) _ _ _ (by rfl) base 5 i0 (.int .u8 0) 1 1 Try.underlying47 hi hz0 hz1 hz2 rfl (by omega) _ _ _ (by rfl) ((HROW.out.alloc _).drew)
        ⟨w.heap.size, 0, none⟩ 3 3 [.int .u8 (x : Nat), .int .u8 45, .int .u8 (y : Nat)] (by rfl) (by rfl) (World.news_of_block (cs := #[.int .u8 (x : Nat), .int .u8 45, .int .u8 (y : Nat)]) (t := 5) (fr := (0, 0)) (heap_alloc_new w _)) (by simp [Value.oneCell'])
        (by omega) (by unfold maxLen; omega) (by omega) (by simp; omega) (w.heap.size + 1) (by simp) ?_
  intro go' co' w1 hown1 hgrow hat hlt
  have hg2 := grown_drawn hgrow
  have hbr1 := HBR.out.kept hg2 ago
  have hbo1 := HBO.out.kept hg2 abo
  have d1 := hbr1.cell
  have d2 := hbo1.cell
  have g1 := hbr1.frozen
  have g2 := hbo1.frozen
  have x1 := (hg2.cell_far ⟨gr, 0, none⟩ lgr agr).trans hc0
  have x2 := (hg2.cell_far ⟨gr, j, none⟩ lgr agr).trans hc1
  have e1 := (Boxed.other hbr1 hne (.slice (some ⟨go', 0, none⟩) (m + 3) co')).cell
  have e2 := (Boxed.other hbr1 hne (.slice (some ⟨go', 0, none⟩) (m + 3) co')).frozen
  refine hK.out _ _ (fun _ => ⟨d2, d1, x1, x2⟩) ?_
  clear hK K
  simp only [Act.put, List.setIfInBounds_toArray, List.set_cons_zero, List.set_cons_succ]
  refine late.one (i := 12) (by kernel_rfl) rfl (fun K hK => ?_)
  go_simp
  refine hK.out _ _ (fun h => (by cases h)) ?_
  clear hK K
  refine late.done (by kernel_rfl) ?_ _
  go_wp2
  go_end0
  refine ⟨⟨_, rfl⟩, ?_⟩
  have el : (out ++ [x, 45, y]).length = m + 3 := by rw [List.length_append, HL.out.2]; rfl
  have eb : byteVals (out ++ [x, 45, y]) = byteVals out ++ [.int .u8 (x : Nat), .int .u8 45, .int .u8 (y : Nat)] := by simp [byteVals]
  have hR1 : Rows w1 base [(.slice (some ⟨go', 0, none⟩) (m + 3) co', out ++ [x, 45, y]), (.slice (some ⟨gr, 0, none⟩) n cr, run)] := by
    refine Rows.grown (HR.out.alloc (.cells #[.int .u8 (x : Nat), .int .u8 45, .int .u8 (y : Nat)] 5)) ?_ ⟨hgrow.os, hgrow.tape, hgrow.output, hgrow.size, hgrow.block⟩ ?_
    · rw [el, eb]; exact hown1
    · rcases hat with h | h
      · exact .inl h.symm
      · refine .inr ?_
        rw [World.size_alloc, ← h]; rfl
  have h := letOut_done (w := w) (t := out ++ [x, 45, y]) (n := n) (out := out) (co := co) hne (by rw [el]; exact hR1) hbr1 (by rw [HL.out.2]; exact hbo1) hg2
  rw [el] at h
  exact h

/-- letOut: what is gathered is let out, as flush says. -/
theorem letOut_any (br bo base : Nat) (run out : List Nat) (gr cr go co : Nat) (w : World) (hbr : Boxed w br 47 (.slice (some ⟨gr, 0, none⟩) run.length cr)) (hbo : Boxed w bo 47 (.slice (some ⟨go, 0, none⟩) out.length co))
    (hne : br ≠ bo) (hR : Rows w base [(.slice (some ⟨go, 0, none⟩) out.length co, out), (.slice (some ⟨gr, 0, none⟩) run.length cr, run)]) (hb : base ≤ w.heap.size) (h4 : run.length ≤ 100000) (ho : out.length ≤ 100000) (ho1 : 1 ≤ out.length) :
    Calls Try.prog 22 #[.pointer (some ⟨br, 0, none⟩), .pointer (some ⟨bo, 0, none⟩)] w fun e w' => (∃ v, e = .returned v) ∧ LetOut w w' br bo base gr cr go (flush (out, run)) := by
  by_cases h3 : run.length < 3
  · have e : flush (out, run) = out ++ run := by simp [flush, h3]
    rw [e]
    exact letOut_few br bo base run out gr cr go co w hbr hbo hne hR hb h3 ho ho1
  · have e : flush (out, run) = out ++ [run.headD 0, 45, run.getLastD 0] := by simp [flush, h3]
    rw [e]
    have hx : run[0]? = some (run.headD 0) := by
      cases run with
      | nil => simp at h3
      | cons a l => rfl
    have hy : run[run.length - 1]? = some (run.getLastD 0) := by
      rw [← List.getLast?_eq_getElem?]
      cases run with
      | nil => simp at h3
      | cons a l => simp [List.getLast?_cons]
    exact letOut_many br bo base run out _ _ rfl rfl gr cr go co w hbr hbo hne hR hb (by omega) h4 ho ho1 _ _ hx hy
end brows
end Go.Proofs.Ytolkbemclkgmmaa
