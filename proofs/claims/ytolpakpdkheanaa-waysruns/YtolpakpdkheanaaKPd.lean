/- bre: the parser: add. -/
import Derived.Test.YtolpakpdkheanaaKPa
import Derived.Deep.RegionLaw
set_option maxRecDepth 100000
set_option maxHeartbeats 1000000
namespace Go.Proofs.Ytolpakpdkheanaa.br
open Go.RowKit
theorem add_walk (co cp : Array Value) (B pb go m cap n : Nat) (pa : Option Addr) (pc : Nat) (hm : m ≤ 1000) (hn : n ≤ 1000) (xs : List Value) (kd a0 a1 a2 a3 gp : Nat) (lo hi2 : Int) (ka : Option Addr) (kl kc : Nat) (sz la p : Int) (hp : -1000000 ≤ p ∧ p ≤ 1000000) (hsz : -1000000 ≤ sz ∧ sz ≤ 1000000)
  (w : World) (hB : B ≤ w.heap.size) (hgo : w.heap[go]? = some (.cells co 63 (0, 0))) (hpb : w.heap[pb]? = some (.cells cp 67 (0, 0))) (c0 : w.cell? ⟨pb, 0, none⟩ = some (.slice (some ⟨go, 0, none⟩) (m + 1) cap))
  (c12 : w.cell? ⟨pb, 12, none⟩ = some (.int .i64 sz)) (f12 : w.frozen? ⟨pb, 12, none⟩ = false) (c13 : w.cell? ⟨pb, 13, none⟩ = some (.int .i64 la)) (f13 : w.frozen? ⟨pb, 13, none⟩ = false)
  (cL : w.cell? ⟨go, m * 4 + 3, none⟩ = some (.slice pa n pc)) (fL : w.frozen? ⟨go, m * 4 + 3, none⟩ = false)
  (own : w.ownsRow B 41 9 (.slice pa n pc) n xs) (hne : (Value.slice pa n pc).ownBlock ≠ some go) (hne2 : (Value.slice pa n pc).ownBlock ≠ some pb) (hpg : pb ≠ go) :
  Calls Try.prog 38 #[.pointer (some ⟨pb, 0, none⟩), .agg #[.int .i64 kd, .int .u64 a0, .int .u64 a1, .int .u64 a2, .int .u64 a3, .int .i64 lo, .int .i64 hi2, .int .i64 gp, .slice ka kl kc], .int .i64 p] w fun e w' => (∃ v, e = .returned v) ∧ AddPost B pb go m n (.slice pa n pc) (xs ++ [.int .i64 kd, .int .u64 a0, .int .u64 a1, .int .u64 a2, .int .u64 a3, .int .i64 lo, .int .i64 hi2, .int .i64 gp, .slice ka kl kc]) sz p co cp w w' := by
 obtain ⟨i0, hi, hz0, hz1, hz2⟩ := info_parts info27
 have hlg := World.block_lt_of_cell? w _ cL
 have hlp := World.block_lt_of_cell? w _ c0
 have hxl := own.1
 go_enter Try.func38, Try.ntmps38
 go_wp2_with fail
 obtain ⟨W, hW⟩ : ∃ W, W = w.alloc (.cells #[.int .i64 kd, .int .u64 a0, .int .u64 a1, .int .u64 a2, .int .u64 a3, .int .i64 lo, .int .i64 hi2, .int .i64 gp, .slice ka kl kc] 41) := ⟨_, rfl⟩
 rw [← hW]
 have old : ∀ g, g < w.heap.size → W.heap[g]? = w.heap[g]? := fun g hg => by rw [hW]; exact Below.heap_alloc w _ g hg
 have d0 := (World.cell?_of_block (a := ⟨pb, 0, none⟩) (old pb hlp)).trans c0
 refine (xcf pb go m cap hm W d0).mono ?_
 rintro e w1 ⟨rfl, n1, rfl⟩
 obtain ⟨V, hV⟩ : ∃ V, V = W.drewN n1 := ⟨_, rfl⟩
 rw [← hV]
 have hVW : V.heap = W.heap := by rw [hV]; rfl
 have oldV : ∀ g, g < w.heap.size → V.heap[g]? = w.heap[g]? := fun g hg => by rw [hVW]; exact old g hg
 have hVs : V.heap.size = w.heap.size + 1 := by rw [hVW, hW]; simp
 obtain ⟨bx, hbx⟩ : ∃ bx, bx = w.heap.size := ⟨_, rfl⟩
 rw [← hbx]
 have hbox : V.heap[bx]? = some (.cells #[.int .i64 kd, .int .u64 a0, .int .u64 a1, .int .u64 a2, .int .u64 a3, .int .i64 lo, .int .i64 hi2, .int .i64 gp, .slice ka kl kc] 41) := by rw [hVW, hW, hbx]; exact heap_alloc_new w _
 have hSV : V.cell? ⟨bx, 0, none⟩ = some (.int .i64 kd) ∧ V.cell? ⟨bx, 1, none⟩ = some (.int .u64 a0) ∧ V.cell? ⟨bx, 2, none⟩ = some (.int .u64 a1) ∧ V.cell? ⟨bx, 3, none⟩ = some (.int .u64 a2) ∧ V.cell? ⟨bx, 4, none⟩ = some (.int .u64 a3) ∧ V.cell? ⟨bx, 5, none⟩ = some (.int .i64 lo) ∧ V.cell? ⟨bx, 6, none⟩ = some (.int .i64 hi2) ∧ V.cell? ⟨bx, 7, none⟩ = some (.int .i64 gp) ∧ V.cell? ⟨bx, 8, none⟩ = some (.slice ka kl kc) := by simp [World.cell?, hbox]
 have cLV := (World.cell?_of_block (a := ⟨go, m * 4 + 3, none⟩) (oldV go hlg)).trans cL
 have fLV := (World.frozen?_of_block (a := ⟨go, m * 4 + 3, none⟩) (oldV go hlg)).trans fL
 have c12V := (World.cell?_of_block (a := ⟨pb, 12, none⟩) (oldV pb hlp)).trans c12
 have f12V := (World.frozen?_of_block (a := ⟨pb, 12, none⟩) (oldV pb hlp)).trans f12
 have c13V := (World.cell?_of_block (a := ⟨pb, 13, none⟩) (oldV pb hlp)).trans c13
 have f13V := (World.frozen?_of_block (a := ⟨pb, 13, none⟩) (oldV pb hlp)).trans f13
 have ownV : V.ownsRow B 41 9 (.slice pa n pc) n xs := owns_keep own fun g hg => oldV g (owns_blk own hg).2.1
 have hlgV : go < V.heap.size := by omega
 have hlpV : pb < V.heap.size := by omega
 have hlbV : bx < V.heap.size := by omega
 have hbg : bx ≠ go := by omega
 have hbp : bx ≠ pb := by omega
 have hBV : B ≤ V.heap.size := by omega
 have hVo : V.os = w.os ∧ V.tape = w.tape ∧ V.output = w.output := by rw [hV, hW]; exact ⟨rfl, rfl, rfl⟩
 have HG := hideT (And.intro hgo hpb)
 have kS : IntKind.i64.wrap (sz + p) = sz + p := by rw [IntKind.wrap_i64]; omega
 have HV := hideT (And.intro oldV (And.intro hVs (And.intro hVo hbx)))
 have HL := hideT (And.intro hlgV (And.intro hlpV hlbV))
 have HS := hideT hSV
 have hSD : V.drew.cell? ⟨bx, 0, none⟩ = some (.int .i64 kd) ∧ V.drew.cell? ⟨bx, 1, none⟩ = some (.int .u64 a0) ∧ V.drew.cell? ⟨bx, 2, none⟩ = some (.int .u64 a1) ∧ V.drew.cell? ⟨bx, 3, none⟩ = some (.int .u64 a2) ∧ V.drew.cell? ⟨bx, 4, none⟩ = some (.int .u64 a3) ∧ V.drew.cell? ⟨bx, 5, none⟩ = some (.int .i64 lo) ∧ V.drew.cell? ⟨bx, 6, none⟩ = some (.int .i64 hi2) ∧ V.drew.cell? ⟨bx, 7, none⟩ = some (.int .i64 gp) ∧ V.drew.cell? ⟨bx, 8, none⟩ = some (.slice ka kl kc) := hSV
 have HSD := hideT hSD
 have HO := hideT ownV
 have HN := hideT (And.intro hne (And.intro hne2 (show (Value.slice pa n pc).ownBlock ≠ some bx from fun e => by have := (owns_blk own e).2.1; omega)))
 have HM := hideT (And.intro hxl hBV)
 clear hgo hpb hVo c0 c12 f12 c13 f13 cL fL own d0 hbox hV hW old oldV hVW hVs hbx hlgV hlpV hlbV hlg hlp hSV hSD ownV hne hne2 hB hxl hBV
 go_wp2_with fail
 have keep1 : V.drew.cell? ⟨bx, 0, none⟩ = some (.int .i64 kd) ∧ V.drew.cell? ⟨bx, 1, none⟩ = some (.int .u64 a0) ∧ V.drew.cell? ⟨bx, 2, none⟩ = some (.int .u64 a1) ∧ V.drew.cell? ⟨bx, 3, none⟩ = some (.int .u64 a2) ∧ V.drew.cell? ⟨bx, 4, none⟩ = some (.int .u64 a3) ∧ V.drew.cell? ⟨bx, 5, none⟩ = some (.int .i64 lo) ∧ V.drew.cell? ⟨bx, 6, none⟩ = some (.int .i64 hi2) ∧ V.drew.cell? ⟨bx, 7, none⟩ = some (.int .i64 gp) ∧ V.drew.cell? ⟨bx, 8, none⟩ = some (.slice ka kl kc) := HSD.out
 have keep2 : ∀ ob, (V.alloc ob).drew.cell? ⟨bx, 0, none⟩ = some (.int .i64 kd) ∧ (V.alloc ob).drew.cell? ⟨bx, 1, none⟩ = some (.int .u64 a0) ∧ (V.alloc ob).drew.cell? ⟨bx, 2, none⟩ = some (.int .u64 a1) ∧ (V.alloc ob).drew.cell? ⟨bx, 3, none⟩ = some (.int .u64 a2) ∧ (V.alloc ob).drew.cell? ⟨bx, 4, none⟩ = some (.int .u64 a3) ∧ (V.alloc ob).drew.cell? ⟨bx, 5, none⟩ = some (.int .i64 lo) ∧ (V.alloc ob).drew.cell? ⟨bx, 6, none⟩ = some (.int .i64 hi2) ∧ (V.alloc ob).drew.cell? ⟨bx, 7, none⟩ = some (.int .i64 gp) ∧ (V.alloc ob).drew.cell? ⟨bx, 8, none⟩ = some (.slice ka kl kc) := fun ob => N9.far HS.out (Below.heap_alloc V ob bx HL.out.2.2)
 have keep3 : ∀ (w2 : World), (V.alloc (.cells #[.int .i64 0, .int .u64 0, .int .u64 0, .int .u64 0, .int .u64 0, .int .i64 0, .int .i64 0, .int .i64 0, .slice none 0 0] 41)).drew.grownBy w2 (Value.slice pa n pc).ownBlock → w2.cell? ⟨bx, 0, none⟩ = some (.int .i64 kd) ∧ w2.cell? ⟨bx, 1, none⟩ = some (.int .u64 a0) ∧ w2.cell? ⟨bx, 2, none⟩ = some (.int .u64 a1) ∧ w2.cell? ⟨bx, 3, none⟩ = some (.int .u64 a2) ∧ w2.cell? ⟨bx, 4, none⟩ = some (.int .u64 a3) ∧ w2.cell? ⟨bx, 5, none⟩ = some (.int .i64 lo) ∧ w2.cell? ⟨bx, 6, none⟩ = some (.int .i64 hi2) ∧ w2.cell? ⟨bx, 7, none⟩ = some (.int .i64 gp) ∧ w2.cell? ⟨bx, 8, none⟩ = some (.slice ka kl kc) := fun w2 hg => N9.far HS.out ((hg.block bx (by show bx < (V.alloc _).heap.size; have := HL.out.2.2; simp; omega) (fun e => HN.out.2.2 e.symm)).trans (Below.heap_alloc V _ bx HL.out.2.2))
 have KEEP := hideT (And.intro keep1 (And.intro keep2 keep3))
 clear keep1 keep2 keep3
 have cLA : ∀ ob, (V.alloc ob).cell? ⟨go, m * 4 + 3, none⟩ = some (.slice pa n pc) := fun ob => (World.cell?_of_block (a := ⟨go, m * 4 + 3, none⟩) (Below.heap_alloc V ob go HL.out.1)).trans cLV
 have k1 : (n : Int) < (n : Int) + 1 := by omega
 have k2 : (0 : Int) ≤ (n : Int) := by omega
 have behind : ∀ (g gc : Nat) (w2 : World), w2.ownsRow B 41 9 (.slice (some ⟨g, 0, none⟩) (n + 1) gc) (n + 1) (xs ++ zeroV) → ∀ (k : Nat) (u : Value), zeroV[k]? = some u → w2.cell? ⟨g, n * 9 + k, none⟩ = some u ∧ w2.frozen? ⟨g, n * 9 + k, none⟩ = false := fun g gc w2 h k u hu => xbx h (n * 9 + k) u ((xa1 xs zeroV (n * 9) k HM.out.1).trans hu)
 have BH := hideT behind
 clear behind
 have apart : ∀ (g : Nat) (w2 : World), (V.alloc (.cells #[.int .i64 0, .int .u64 0, .int .u64 0, .int .u64 0, .int .u64 0, .int .i64 0, .int .i64 0, .int .i64 0, .slice none 0 0] 41)).drew.grownBy w2 (Value.slice pa n pc).ownBlock → ((Value.slice pa n pc).ownBlock = some g ∨ g = V.heap.size + 1) → bx ≠ g ∧ go ≠ g ∧ pb ≠ g ∧ w2.heap[go]? = V.heap[go]? ∧ w2.heap[pb]? = V.heap[pb]? := by
  intro g w2 hg ha
  obtain ⟨l1, l2, l3⟩ := HL.out
  obtain ⟨n1, n2, n3⟩ := HN.out
  refine ⟨fun e => ?_, fun e => ?_, fun e => ?_, (hg.block go (by show go < (V.alloc _).heap.size; simp; omega) (fun e => n1 e.symm)).trans (Below.heap_alloc V _ go l1), (hg.block pb (by show pb < (V.alloc _).heap.size; simp; omega) (fun e => n2 e.symm)).trans (Below.heap_alloc V _ pb l2)⟩
  ·rcases ha with ha | ha
   ·exact n3 (e ▸ ha)
   ·omega
  ·rcases ha with ha | ha
   ·exact n1 (e ▸ ha)
   ·omega
  ·rcases ha with ha | ha
   ·exact n2 (e ▸ ha)
   ·omega
 have AP := hideT apart
 clear apart
 have kA := KEEP.out.1
 have kB := KEEP.out.2.1
 go_region_law ((refine step_append_lies _ (by rfl) _ _ _ (by rfl) B 41 i0 (.agg #[.int .i64 0, .int .u64 0, .int .u64 0, .int .u64 0, .int .u64 0, .int .i64 0, .int .i64 0, .int .i64 0, .slice none 0 0]) 9 88 und25 hi hz0 hz1 hz2 rfl (by omega) _ _ _ (by rfl) ((HO.out.alloc _).drew) ⟨V.heap.size, 0, none⟩ 1 1 zeroV (by rfl) (by rfl) (World.news_of_block (cs := #[.int .i64 0, .int .u64 0, .int .u64 0, .int .u64 0, .int .u64 0, .int .i64 0, .int .i64 0, .int .i64 0, .slice none 0 0]) (t := 41) (fr := (0, 0)) (heap_alloc_new V _)) (by simp [zeroV, Value.oneCell']) (by omega) (by unfold maxLen; omega) (by omega) (by have := HM.out.2; simp; omega) (V.heap.size + 1) (by simp) ?_; intro g gc w2 hown1 hgrow hat hlt3; have hgr2 : (V.alloc (.cells #[.int .i64 0, .int .u64 0, .int .u64 0, .int .u64 0, .int .u64 0, .int .i64 0, .int .i64 0, .int .i64 0, .slice none 0 0] 41)).drew.grownBy w2 (Value.slice pa n pc).ownBlock := hgrow; obtain ⟨q1, q2, q3, q4, q5⟩ := AP.out g w2 hgr2 hat; obtain ⟨y0, z0⟩ := BH.out g gc w2 hown1 0 _ rfl; rw [Nat.add_zero] at y0 z0; obtain ⟨y1, z1⟩ := BH.out g gc w2 hown1 1 _ rfl; obtain ⟨y2, z2⟩ := BH.out g gc w2 hown1 2 _ rfl; obtain ⟨y3, z3⟩ := BH.out g gc w2 hown1 3 _ rfl; obtain ⟨y4, z4⟩ := BH.out g gc w2 hown1 4 _ rfl; obtain ⟨y5, z5⟩ := BH.out g gc w2 hown1 5 _ rfl; obtain ⟨y6, z6⟩ := BH.out g gc w2 hown1 6 _ rfl; obtain ⟨y7, z7⟩ := BH.out g gc w2 hown1 7 _ rfl; obtain ⟨y8, z8⟩ := BH.out g gc w2 hown1 8 _ rfl; have cL2 := (World.cell?_of_block (a := ⟨go, m * 4 + 3, none⟩) q4).trans cLV; have fL2 := (World.frozen?_of_block (a := ⟨go, m * 4 + 3, none⟩) q4).trans fLV; have hS2 := KEEP.out.2.2 w2 hgr2; have HQ := hideT (And.intro hown1 (And.intro hgr2 (And.intro hat (And.intro hlt3 (And.intro q4 q5))))); clear hown1 hgrow hgr2 hat hlt3 q4 q5))
 all_goals
  have HF := hideT (add_fin (m := m) (sz := sz) (p := p) (.int .i64 kd) (.int .u64 a0) (.int .u64 a1) (.int .u64 a2) (.int .u64 a3) (.int .i64 lo) (.int .i64 hi2) (.int .i64 gp) (.slice ka kl kc) HM.out.1 HV.out.1 HV.out.2.1 HV.out.2.2.1 HG.out.1 HG.out.2 HQ.out.1 HQ.out.2.1 HQ.out.2.2.1 HQ.out.2.2.2.2.1 HQ.out.2.2.2.2.2 ⟨q2, q3, hpg⟩)
  have c12w := (World.cell?_of_block (a := ⟨pb, 12, none⟩) HQ.out.2.2.2.2.2).trans c12V
  have f12w := (World.frozen?_of_block (a := ⟨pb, 12, none⟩) HQ.out.2.2.2.2.2).trans f12V
  have c13w := (World.cell?_of_block (a := ⟨pb, 13, none⟩) HQ.out.2.2.2.2.2).trans c13V
  have f13w := (World.frozen?_of_block (a := ⟨pb, 13, none⟩) HQ.out.2.2.2.2.2).trans f13V
  clear HQ HS HSD HO HN HM HV HG HL kA kB KEEP BH AP hS2 y0 y1 y2 y3 y4 y5 y6 y7 y8 z0 z1 z2 z3 z4 z5 z6 z7 z8 cL2 fL2 cLV fLV cLA c12V f12V c13V f13V
  go_wp2
  go_end0
  refine ⟨⟨_, rfl⟩, ?_⟩
  first
  | with_reducible exact HF.out.1
  | with_reducible exact HF.out.2
theorem Fr.of {B : Nat} {w w' : World} (T : Nat → Prop) (hT : ∀ k, T k → B ≤ k ∧ ∃ o, w.heap[k]? = some o ∧ mine o = true) (hB : B ≤ w.heap.size)
  (hk : ∀ k, k < w.heap.size → ¬ T k → w'.heap[k]? = w.heap[k]?) (hs : w.heap.size ≤ w'.heap.size) (ho : w'.os = w.os ∧ w'.tape = w.tape ∧ w'.output = w.output) : Fr B w w' :=
 ⟨⟨ho.1, ho.2.1, ho.2.2, hs, fun k h => hk k (by omega) (fun t => by have := (hT k t).1; omega)⟩, fun k o ho hm => (hk k (Array.getElem?_eq_some_iff.1 ho).1 (fun t => by
  obtain ⟨_, o', h1, h2⟩ := hT k t
  rw [ho] at h1
  cases h1
  rw [hm] at h2
  cases h2)).trans ho⟩
section
variable {W : World} {B pb : Nat} {P : Ps} {o v : Value} {vs : List Value} {fz : Nat → Prop}
theorem PsAt.levels (h : PsAt W B pb P o vs v fz) : ∃ go cap co, o = .slice (some ⟨go, 0, none⟩) (P.outer.length + 1) cap ∧ W.heap[go]? = some (.cells co 63 (0, 0)) ∧ B ≤ go ∧ pb ≠ go := by
 rcases h.own.2 with ⟨_, h0⟩ | ⟨g, cap, cur, hv, hb, hh, _⟩
 ·omega
 ·refine ⟨g, cap, cur, hv, hh, hb, fun e => ?_⟩
  have h1 := h.blk
  rw [e, hh] at h1
  cases h1
theorem PsAt.lt (h : PsAt W B pb P o vs v fz) : pb < W.heap.size := (Array.getElem?_eq_some_iff.1 h.blk).1
theorem PsAt.liveAt (h : PsAt W B pb P o vs v fz) {g : Nat} (hg : g ∈ xbk (vs ++ [v])) : B ≤ g ∧ g < W.heap.size ∧ ∃ cur, W.heap[g]? = some (.cells cur 41 (0, 0)) := by
 simp only [xbk, List.mem_filterMap] at hg
 obtain ⟨u, hu, hug⟩ := hg
 rcases List.mem_append.1 hu with hu | hu
 ·obtain ⟨i, hi, rfl⟩ := List.getElem_of_mem hu
  have hi2 : i < P.outer.length := by rw [← h.len]; exact hi
  obtain ⟨us, _, own, _⟩ := h.rows i P.outer[i] vs[i] (List.getElem?_eq_getElem hi2) (List.getElem?_eq_getElem hi)
  exact owns_blk own hug
 ·obtain rfl := List.mem_singleton.1 hu
  obtain ⟨us, _, own, _⟩ := h.row
  exact owns_blk own hug
theorem xaj {vs : List Value} {v : Value} {g : Nat} (h : v.ownBlock = some g) : g ∈ xbk (vs ++ [v]) := by
 simp only [xbk, List.mem_filterMap]
 exact ⟨v, by simp, h⟩
theorem xbh {vs : List Value} {v u : Value} {g : Nat} (hu : u ∈ vs) (h : u.ownBlock = some g) : g ∈ xbk (vs ++ [v]) := by
 simp only [xbk, List.mem_filterMap]
 exact ⟨u, List.mem_append_left _ hu, h⟩
theorem xbw (vs : List Value) (v : Value) : xbk (vs ++ [v]) = xbk vs ++ (match v.ownBlock with | some g => [g] | none => []) := by
 simp only [xbk, List.filterMap_append, List.filterMap_cons, List.filterMap_nil]
 cases v.ownBlock <;> rfl
theorem PsAt.apart (h : PsAt W B pb P o vs v fz) {u : Value} (hu : u ∈ vs) {g : Nat} (h1 : u.ownBlock = some g) : v.ownBlock ≠ some g := by
 intro h2
 have hn := h.nodup
 rw [xbw, h2] at hn
 have hm : g ∈ xbk vs := by simp only [xbk, List.mem_filterMap]; exact ⟨u, hu, h1⟩
 exact (List.nodup_append.1 hn).2.2 g hm g (List.mem_singleton.2 rfl) rfl
end
theorem xo9 (xs : List Value) (m : Nat) (hl : xs.length = m * 4) (a b c d u : Value) : (xs ++ [a, b, c, d]).set (m * 4 + 3) u = xs ++ [a, b, c, u] := by
 rw [← hl, List.set_append_right _ _ (by omega)]
 simp
def Ps.add (P : Ps) (t : Tr) (p : Int) : Ps := { P with top := { P.top with parts := P.top.parts ++ [t] }, size := P.size + p, last := p }
theorem add_step {w w' : World} {B pb : Nat} {P : Ps} {go cap : Nat} {vs : List Value} {v : Value} {fz : Nat → Prop} (h : PsAt w B pb P (.slice (some ⟨go, 0, none⟩) (P.outer.length + 1) cap) vs v fz) (hB : B ≤ w.heap.size) (t : Tr) (p : Int) (kv : Value) (hk : Kids w fz kv t.kids)
  {us : List Value} (hul : us.length = P.top.parts.length) (hkids : ∀ (i : Nat) (t : Tr) (u : Value), P.top.parts[i]? = some t → us[i]? = some u → Kids w fz u t.kids)
  {co : Array Value} (hgo : w.heap[go]? = some (.cells co 63 (0, 0)))
  (hp : AddPost B pb go P.outer.length P.top.parts.length v (rowV P.top.parts us ++ xex t kv) P.size p co (P.cells (.slice (some ⟨go, 0, none⟩) (P.outer.length + 1) cap)).toArray w w') :
  ∃ v', PsAt w' B pb (P.add t p) (.slice (some ⟨go, 0, none⟩) (P.outer.length + 1) cap) vs v' fz ∧ Fr B w w' := by
 obtain ⟨g, gc, own', hat, hgo', hpb', hot, hsz, ho⟩ := hp
 have hplt := h.lt
 have hgolt := (Array.getElem?_eq_some_iff.1 hgo).1
 have hpg : pb ≠ go := fun e => by have h1 := h.blk; rw [e, hgo] at h1; cases h1
 have hBgo : B ≤ go := (owns_blk h.own rfl).1
 have live27 : ∀ x, x ∈ xbk (vs ++ [v]) → x ≠ go ∧ x ≠ pb := fun x hx => by
  obtain ⟨_, _, cur, hc⟩ := h.liveAt hx
  exact ⟨(fun e => by rw [e, hgo] at hc; cases hc), (fun e => by rw [e, h.blk] at hc; cases hc)⟩
 have fz27 : ∀ x, fz x → x ≠ go ∧ x ≠ pb := fun x hx => by
  obtain ⟨_, _, cur, fr, hc⟩ := h.fzlt x hx
  exact ⟨(fun e => by rw [e, hgo] at hc; cases hc), (fun e => by rw [e, h.blk] at hc; cases hc)⟩
 have hfz : ∀ x, fz x → w'.heap[x]? = w.heap[x]? := fun x hx => hot x (h.fzlt x hx).2.1 (fz27 x hx).1 (fz27 x hx).2 (fun e => h.live x (xaj e.symm) hx)
 have hgnot : ∀ x, x ∈ xbk vs → x ≠ g := fun x hx e => by
  have hx2 : x ∈ xbk (vs ++ [v]) := by rw [xbw]; exact List.mem_append_left _ hx
  rcases hat with ha | ha
  ·simp only [xbk, List.mem_filterMap] at hx
   obtain ⟨u, hu, hug⟩ := hx
   exact h.apart hu hug (by rw [ha, e])
  ·have := (h.liveAt hx2).2.1
   omega
 refine ⟨.slice (some ⟨g, 0, none⟩) (P.top.parts.length + 1) gc, ⟨h.base, ?_, ?_, h.len, ?_, ?_, ?_, ?_, ?_⟩, ?_⟩
 ·rw [hpb']; rfl
 ·obtain ⟨hl, h2⟩ := h.own
  rcases h2 with ⟨_, h0⟩ | ⟨g2, cap2, cur, he, hb, hh, hn, hc, hs, ht⟩
  ·omega
  ·cases he
   rw [hgo] at hh
   cases hh
   refine ⟨?_, .inr ⟨go, cap, _, rfl, hBgo, hgo', hn, hc, by rw [Array.size_setIfInBounds]; exact hs, ?_⟩⟩
   ·show (lvsV P.outer vs ++ lvV _ _).length = (P.outer.length + 1) * 4
    rw [List.length_append, xb7 _ _ h.len]
    simp only [lvV, List.length_cons, List.length_nil]
    omega
   ·rw [Array.toList_setIfInBounds, List.take_set]
    show (co.toList.take ((P.outer.length + 1) * 4)).set _ _ = _
    rw [ht]
    exact xo9 _ _ (xb7 _ _ h.len) _ _ _ _ _
 ·intro i l u hl hu
  have hmem := List.mem_of_getElem? hu
  refine (h.rows i l u hl hu).keep (fun x hx => ?_) hfz (fun _ h => h)
  have hx2 := xbh (v := v) hmem hx
  exact hot x (h.liveAt hx2).2.1 (live27 x hx2).1 (live27 x hx2).2 (fun e => h.apart hmem hx e.symm)
 ·refine ⟨us ++ [kv], by simp [Ps.add, hul], ?_, ?_⟩
  ·show w'.ownsRow B 41 9 _ (P.top.parts ++ [t]).length (rowV (P.top.parts ++ [t]) (us ++ [kv]))
   rw [xfp t kv _ _ hul, List.length_append]
   exact own'
  ·intro i t' u ht hu
   have ht' : (P.top.parts ++ [t])[i]? = some t' := ht
   rcases Nat.lt_or_ge i P.top.parts.length with hi | hi
   ·rw [List.getElem?_append_left hi] at ht'
    rw [List.getElem?_append_left (by omega)] at hu
    exact (hkids i t' u ht' hu).keep hfz (fun _ h => h)
   ·rw [List.getElem?_append_right hi] at ht'
    rw [List.getElem?_append_right (by omega)] at hu
    obtain ⟨rfl⟩ : i = P.top.parts.length := by
     have := (List.getElem?_eq_some_iff.1 ht').1
     simp at this; omega
    simp [hul] at ht' hu
    subst ht' hu
    exact hk.keep hfz (fun _ h => h)
 ·rw [xbw]
  have hn := h.nodup
  rw [xbw] at hn
  refine List.nodup_append.2 ⟨(List.nodup_append.1 hn).1, by simp [Value.ownBlock], ?_⟩
  intro a ha b hb
  simp only [Value.ownBlock, List.mem_singleton] at hb
  rw [hb]
  exact hgnot a ha
 ·intro x hx hf
  rw [xbw, List.mem_append] at hx
  rcases hx with hx | hx
  ·exact h.live x (by rw [xbw]; exact List.mem_append_left _ hx) hf
  ·simp only [Value.ownBlock, List.mem_singleton] at hx
   rcases hat with ha | ha
   ·exact h.live x (xaj (by rw [ha, hx])) hf
   ·have := (h.fzlt x hf).2.1
    omega
 ·intro x hx
  obtain ⟨f1, f2, cur, fr, f3⟩ := h.fzlt x hx
  exact ⟨f1, Nat.lt_of_lt_of_le f2 hsz, cur, fr, (hfz x hx).trans f3⟩
 ·refine Fr.of (fun k => k = go ∨ k = pb ∨ v.ownBlock = some k) ?_ hB ?_ hsz ho
  ·rintro k (rfl | rfl | hv)
   ·exact ⟨hBgo, _, hgo, rfl⟩
   ·exact ⟨h.base, _, h.blk, rfl⟩
   ·obtain ⟨b1, b2, cur, hc⟩ := h.liveAt (xaj hv)
    exact ⟨b1, _, hc, rfl⟩
  ·intro k hk hn
   exact hot k hk (fun e => hn (.inl e)) (fun e => hn (.inr (.inl e))) (fun e => hn (.inr (.inr e.symm)))
theorem owns_shape {W : World} {B e size n : Nat} {v : Value} {xs : List Value} (h : W.ownsRow B e size v n xs) : ∃ a c, v = .slice a n c := by
 rcases h.2 with ⟨rfl, rfl⟩ | ⟨g, cap, cur, rfl, _⟩
 ·exact ⟨_, _, rfl⟩
 ·exact ⟨_, _, rfl⟩
theorem xpa {B pb : Nat} {P : Ps} {o v : Value} {vs : List Value} {fz : Nat → Prop} (w : World) (h : PsAt w B pb P o vs v fz) (hB : B ≤ w.heap.size) (hm : P.outer.length ≤ 1000) (hn : P.top.parts.length ≤ 1000) (hsz : -1000000 ≤ P.size ∧ P.size ≤ 1000000)
  (t : Tr) (ka : Option Addr) (kl kc : Nat) (hk : Kids w fz (.slice ka kl kc) t.kids) (p : Int) (hp : -1000000 ≤ p ∧ p ≤ 1000000) :
  Calls Try.prog 38 #[.pointer (some ⟨pb, 0, none⟩), .agg #[.int .i64 t.kind, .int .u64 (wd t.q 0), .int .u64 (wd t.q 1), .int .u64 (wd t.q 2), .int .u64 (wd t.q 3), .int .i64 t.lo, .int .i64 t.hi, .int .i64 t.grp, .slice ka kl kc], .int .i64 p] w
   fun e w' => (∃ x, e = .returned x) ∧ (∃ v', PsAt w' B pb (P.add t p) o vs v' fz ∧ Fr B w w') ∧ ∀ x, x < w.heap.size → o.ownBlock ≠ some x → x ≠ pb → v.ownBlock ≠ some x → w'.heap[x]? = w.heap[x]? := by
 obtain ⟨go, cap, co, rfl, hgo, hbgo, hpg⟩ := h.levels
 obtain ⟨us, hul, own, hkids⟩ := h.row
 obtain ⟨pa, pc, rfl⟩ := owns_shape own
 obtain ⟨c0, _⟩ := h.cell 0 _ rfl
 obtain ⟨c12, f12⟩ := h.cell 12 _ rfl
 obtain ⟨c13, f13⟩ := h.cell 13 _ rfl
 obtain ⟨cL, fL⟩ := xbx h.own (P.outer.length * 4 + 3) _ (by rw [xa1 _ _ _ _ (xb7 _ _ h.len)]; rfl)
 have hne : ∀ x, (Value.slice pa P.top.parts.length pc).ownBlock = some x → x ≠ go ∧ x ≠ pb := fun x hx => by
  obtain ⟨_, _, cur, hc⟩ := h.liveAt (xaj hx)
  exact ⟨(fun e => by rw [e, hgo] at hc; cases hc), (fun e => by rw [e, h.blk] at hc; cases hc)⟩
 refine (add_walk co _ B pb go P.outer.length cap P.top.parts.length pa pc hm hn _ t.kind (wd t.q 0) (wd t.q 1) (wd t.q 2) (wd t.q 3) t.grp t.lo t.hi ka kl kc P.size P.last p hp hsz w hB hgo h.blk c0 c12 f12 c13 f13 cL fL own (fun e => (hne _ e).1 rfl) (fun e => (hne _ e).2 rfl) hpg).mono ?_
 rintro e w' ⟨hx, hA⟩
 refine ⟨hx, add_step h hB t p _ hk hul hkids hgo hA, ?_⟩
 obtain ⟨g, gc, _, _, _, _, hot, _⟩ := hA
 exact fun x x1 x2 x3 x4 => hot x x1 (fun e => x2 (by rw [e]; rfl)) x3 (fun e => x4 e.symm)
end Go.Proofs.Ytolpakpdkheanaa.br
