/- bre: shaped, for any small tree in shape. -/
import Derived.Test.YtooanbbnjiogaaaKQl
import Derived.Test.YtooanbbnjiogaaaKQm
import Derived.Test.YtooanbbnjiogaaaKQn
import Derived.Deep.Cut
namespace Go.Proofs.Ytooanbbnjiogaaa
open Go.RowKit

theorem shL_bound : ∀ (ks : List Tr), (∀ x ∈ ks, ∀ (r r' : Sh), r.1 ≤ 100 → ShT x r r' → r'.1 ≤ 100) → ∀ (s s' : Sh), s.1 ≤ 100 → ShL ks s s' → s'.1 ≤ 100
  | [], _, s, s', hs, h => by
    have h' : s' = s := h
    rw [h']; exact hs
  | t :: ts, hx, s, s', hs, h => by
    obtain ⟨s1, h1, h2⟩ := h
    exact shL_bound ts (fun x hm => hx x (List.mem_cons_of_mem _ hm)) s1 s' (hx t (by simp) s s1 hs h1) h2

theorem node_none (k : Nat) (lo hi : Int) (g : Nat) (ks : List Tr) (u : Value) : nodeA (.mk k noneP lo hi g ks) u = .agg #[.int .i64 (k : Nat), .int .u64 0, .int .u64 0, .int .u64 0, .int .u64 0, .int .i64 lo, .int .i64 hi, .int .i64 (g : Nat), u] := by
  show Value.agg #[.int .i64 (k : Nat), .int .u64 (wd noneP 0 : Nat), .int .u64 (wd noneP 1 : Nat), .int .u64 (wd noneP 2 : Nat), .int .u64 (wd noneP 3 : Nat), .int .i64 lo, .int .i64 hi, .int .i64 (g : Nat), u] = _
  have e : ∀ i, wd noneP i = 0 := fun i => wd_none i
  rw [e, e, e, e]
  rfl

theorem shaped_any : ∀ (m : Nat) (t : Tr), SizeOf.sizeOf t < m → smallT t → ∀ (s s' : Sh), s.1 ≤ 100 → ShT t s s' → s'.1 ≤ 100 ∧ ∀ (w : World) (ok : Nat → Prop) (a : Option Addr) (n c : Nat), Kids w ok (.slice a n c) t.kids →
    Calls Try.prog 13 #[nodeA t (.slice a n c), .int .i64 (s.1 : Nat), .agg (boolsA s.2)] w fun e w' => e = shA s' ∧ Below w.heap.size w w'
  | 0, t, h, _, _, _, _, _ => absurd h (Nat.not_lt_zero _)
  | m + 1, t, h, hsm, s, s', hs, hsh => by
    have ih : ∀ x ∈ t.kids, ∀ (r r' : Sh), r.1 ≤ 100 → ShT x r r' → r'.1 ≤ 100 ∧ ∀ (w : World) (ok : Nat → Prop) (a : Option Addr) (n c : Nat), Kids w ok (.slice a n c) x.kids → Calls Try.prog 13 #[nodeA x (.slice a n c), .int .i64 (r.1 : Nat), .agg (boolsA r.2)] w fun e w' => e = shA r' ∧ Below w.heap.size w w' :=
      fun x hx => shaped_any m x (by have := kids_size hx; omega) (small_mem _ (smallT_pos t hsm).2.2.2 x hx)
    have hlen := (smallT_pos t hsm).2.2.1.2
    obtain ⟨kd, q, lo, hi, gp, ks⟩ := t
    have hnk : ∀ {w : World} {ok : Nat → Prop} {a : Option Addr} {n c : Nat}, Kids w ok (.slice a n c) ks → n = ks.length := fun hk => by
      obtain ⟨a', c', he⟩ := kids_shape hk
      injection he
    have hgk : ∀ {w : World} {ok : Nat → Prop} {a : Option Addr} {n c : Nat} {c0 : Tr}, ks[0]? = some c0 → Kids w ok (.slice a n c) ks → ∃ gA, a = some ⟨gA, 0, none⟩ := fun h0 hk => by
      obtain ⟨g, c', u, he, _⟩ := kids_at hk (i := 0) h0
      injection he with q1
      exact ⟨g, q1⟩
    have hbd : ∀ (r r' : Sh), r.1 ≤ 100 → ShL ks r r' → r'.1 ≤ 100 := fun r r' hr hl => shL_bound ks (fun x hx r r' hr hx' => (ih x hx r r' hr hx').1) r r' hr hl
    change ks.length ≤ 1000000 at hlen
    simp only [ShT] at hsh
    rcases hsh with ⟨rfl, rfl, rfl, rfl, rfl, hl⟩ | ⟨hk, rfl, rfl, rfl, rfl, rfl⟩ | ⟨rfl, rfl, rfl, rfl, rfl, h1, h9, hc, rfl⟩ | ⟨rfl, rfl, rfl, rfl, hg, h9, ⟨c0, hks, hc0⟩, s1, hl, rfl⟩ | ⟨rfl, rfl, rfl, ⟨h0, h255⟩, hhi, ⟨c0, hks, n0, n2, n3⟩, hl⟩
    · refine ⟨hbd _ _ hs hl, fun w ok a n c hk => ?_⟩
      obtain rfl := hnk hk
      rw [node_none]
      exact shaped_cat ks hlen s s' hs hl ih w ok a c hk
    · refine ⟨hs, fun w ok a n c hkk => ?_⟩
      obtain rfl : n = 0 := hnk hkk
      rcases hk with rfl | ⟨rfl | rfl, rfl⟩
      · exact shaped_byte q s' w a c
      · rw [node_none]; exact shaped_bol s' w a c
      · rw [node_none]; exact shaped_eol s' w a c
    · refine ⟨hs, fun w ok a n c hkk => ?_⟩
      obtain rfl : n = 0 := hnk hkk
      rw [node_none]
      exact shaped_back gp h1 h9 s' hc w a c
    · have hl' : ShL ks (gp, s.2) s1 := by rw [hg]; exact hl
      have hk0 : ks[0]? = some c0 := by rw [hks]; rfl
      have hb1 : s1.1 ≤ 100 := hbd (gp, s.2) s1 (show gp ≤ 100 by omega) hl'
      refine ⟨hb1, fun w ok a n c hk => ?_⟩
      obtain rfl := hnk hk
      obtain ⟨gA, rfl⟩ := hgk hk0 hk
      rw [node_none]
      exact shaped_group ks hlen (by rw [hks]; rfl) c0 hk0 hc0 s s1 gp hg h9 hl' ih w ok gA c hk
    · have hk0 : ks[0]? = some c0 := by rw [hks]; rfl
      refine ⟨hbd _ _ hs hl, fun w ok a n c hk => ?_⟩
      obtain rfl := hnk hk
      obtain ⟨gA, rfl⟩ := hgk hk0 hk
      rw [node_none]
      rcases hhi with hhi | hhi
      · exact shaped_star ks hlen (by rw [hks]; rfl) c0 hk0 n0 n2 n3 lo hi h0 h255 hhi s s' hs hl ih w ok gA c hk
      · exact shaped_times ks hlen (by rw [hks]; rfl) c0 hk0 n0 n2 n3 lo hi h0 h255 hhi s s' hs hl ih w ok gA c hk
end Go.Proofs.Ytooanbbnjiogaaa

/- BreShapes: the place of a fault; a text that is too long; the tree that is nothing. -/
namespace Go.Proofs.Ytooanbbnjiogaaa
open Go.RowKit

/-- Every level begins within the text. -/
def AllPos (P : Ps) (n : Nat) : Prop := ∀ l, l ∈ P.outer ++ [P.top] → l.pos ≤ n
theorem allPos_of {P Q : Ps} {n : Nat} (ho : Q.outer = P.outer) (ht : Q.top.pos = P.top.pos) (h : AllPos P n) : AllPos Q n := by
  intro l hl
  rw [ho] at hl
  rcases List.mem_append.1 hl with hl | hl
  · exact h l (List.mem_append_left _ hl)
  · rw [List.mem_singleton.1 hl, ht]; exact h P.top (by simp)
theorem grown_snd (P : Ps) : P.grown.2 = P := by
  unfold Ps.grown
  first | rfl | (split <;> rfl)
theorem pos_take {P : Ps} {n : Nat} (h : AllPos P n) (t : Tk) (hf : t.fr ≤ n) : AllPos (P.take t).2 n := by
  unfold Ps.take
  split
  · exact h
  · rw [grown_snd]; exact allPos_of (P := P) rfl rfl h
  · rw [grown_snd]; exact allPos_of (P := P) rfl rfl h
  · rw [grown_snd]; exact allPos_of (P := P) rfl rfl h
  · split
    · exact h
    · intro l hl
      have hl' : l ∈ (P.outer ++ [P.top]) ++ [⟨t.fr, P.groups + 1, P.size, []⟩] := hl
      rcases List.mem_append.1 hl' with hl | hl
      · exact h l hl
      · rw [List.mem_singleton.1 hl]; exact hf
  · split
    · exact h
    · rename_i l0 hl0
      have hne : P.outer = P.outer.dropLast ++ [l0] := by
        obtain ⟨ys, hys⟩ := List.getLast?_eq_some_iff.1 hl0
        rw [hys, List.dropLast_concat]
      have h0 : l0.pos ≤ n := h l0 (List.mem_append_left _ (by rw [hne]; simp))
      intro l hl
      rcases List.mem_append.1 hl with hl | hl
      · have hl' : l ∈ P.outer.dropLast := hl
        exact h l (List.mem_append_left _ (List.dropLast_subset _ hl'))
      · rw [List.mem_singleton.1 hl]; exact h0
  · split
    · rw [grown_snd]; exact allPos_of (P := P) rfl rfl h
    · exact h
  · split
    · exact h
    · rw [grown_snd]; exact allPos_of (P := P) rfl rfl h

theorem run_place (s : ByteArray) : ∀ (f i k : Nat) (P : Ps), AllPos P s.size → (∀ e p, runT s f i k P = .error (e, p) → e ≠ 0 ∧ p ≤ s.size) ∧ (∀ Q, runT s f i k P = .ok Q → AllPos Q s.size)
  | 0, i, k, P, h => ⟨(fun e p hr => by rw [runT] at hr; cases hr), (fun Q hr => by rw [runT] at hr; cases hr; exact h)⟩
  | f + 1, i, k, P, h => by
    rw [runT]
    by_cases hlt : i < s.size
    · rw [if_pos hlt]
      by_cases h0 : (P.take (tokenT s i k)).1 = 0
      · rw [if_pos h0]
        exact run_place s f _ _ _ (pos_take h _ (by rw [(tokAt_token s i k hlt).fr]; omega))
      · rw [if_neg h0]
        exact ⟨(fun e p hr => by cases hr; exact ⟨h0, by omega⟩), (fun Q hr => by cases hr)⟩
    · rw [if_neg hlt]
      exact ⟨(fun e p hr => by cases hr), (fun Q hr => by cases hr; exact h)⟩

/-- A fault is one, and lies within the text or at its end. -/
theorem parse_place (s : ByteArray) (e : Int) (p : Nat) (h : parseT s = .error (e, p)) : e ≠ 0 ∧ p ≤ s.size := by
  have hst : AllPos Ps.start s.size := fun l hl => by
    have hl' : l = ⟨0, 0, 0, []⟩ := by simpa [Ps.start] using hl
    rw [hl']; exact Nat.zero_le _
  have hr := run_place s (s.size + 1) 0 4 Ps.start hst
  unfold parseT at h
  split at h
  · cases h; exact ⟨by decide, Nat.zero_le _⟩
  · split at h
    · rename_i x hx
      cases h
      exact hr.1 _ _ hx
    · rename_i Q hx
      split at h
      · cases h
      · cases h
        exact ⟨by decide, hr.2 _ hx _ (by simp)⟩

set_option maxRecDepth 100000 in
set_option maxHeartbeats 400000 in
theorem parse_over (s : ByteArray) (hl : 512 < s.size) (w : World) :
    Calls Try.prog 9 #[.string s] w fun e w' => e = .returned (.tuple #[.agg #[.int .i64 0, .int .u64 0, .int .u64 0, .int .u64 0, .int .u64 0, .int .i64 0, .int .i64 0, .int .i64 0, .slice none 0 0], .agg #[.int .i64 2, .int .i64 0]]) ∧ Below w.heap.size w w' := by
  have k1 : (512 : Int) < (s.size : Int) := by omega
  go_enter Try.func9, Try.ntmps9
  go_wp2
  exact bodyPost_ret (v := .tuple #[.agg #[.int .i64 0, .int .u64 0, .int .u64 0, .int .u64 0, .int .u64 0, .int .i64 0, .int .i64 0, .int .i64 0, .slice none 0 0], .agg #[.int .i64 2, .int .i64 0]]) (by simp [results, Try.results9, go_sem]) rfl ⟨rfl, ((Below.refl _ _).alloc (Nat.le_refl _) _).alloc (by simp) _⟩

/-- A fault, at a text of any length. -/
theorem parse_fault (s : ByteArray) (er : Int) (p : Nat) (ht : parseT s = .error (er, p)) (w : World) (hg : Glob w) :
    Calls Try.prog 9 #[.string s] w fun e w' => e = .returned (.tuple #[.agg #[.int .i64 0, .int .u64 0, .int .u64 0, .int .u64 0, .int .u64 0, .int .i64 0, .int .i64 0, .int .i64 0, .slice none 0 0], .agg #[.int .i64 er, .int .i64 (p : Nat)]]) ∧ Below w.heap.size w w' := by
  by_cases h : s.size ≤ 512
  · exact parse_err s (by omega) er p ht w hg
  · unfold parseT at ht
    rw [if_pos (by omega)] at ht
    cases ht
    exact parse_over s (by omega) w

theorem neq_zero (w : World) : (binOp .neq 24 (.agg #[.int .u64 0, .int .u64 0, .int .u64 0, .int .u64 0]) (.agg #[.int .u64 0, .int .u64 0, .int .u64 0, .int .u64 0])).run Try.prog w = .ok (.bool false) w := by
  have h := run_neq_set noneP noneP w
  have e : ∀ i, wd noneP i = 0 := fun i => wd_none i
  rw [e, e, e, e] at h
  rw [show eqB noneP noneP = true by simp [eqB]] at h
  exact h
end Go.Proofs.Ytooanbbnjiogaaa

/- BreShapes: Same, of the tree that is nothing with itself. -/
namespace Go.Proofs.Ytooanbbnjiogaaa
open Go.RowKit

set_option maxRecDepth 100000 in
set_option maxHeartbeats 1000000 in
theorem same_zero (w : World) : Calls Try.prog 12 #[.agg #[.int .i64 0, .int .u64 0, .int .u64 0, .int .u64 0, .int .u64 0, .int .i64 0, .int .i64 0, .int .i64 0, .slice none 0 0], .agg #[.int .i64 0, .int .u64 0, .int .u64 0, .int .u64 0, .int .u64 0, .int .i64 0, .int .i64 0, .int .i64 0, .slice none 0 0]] w fun e w' => e = .returned (.bool true) ∧ Below w.heap.size w w' := by
  have hneq := neq_zero
  go_enter Try.func12, Try.ntmps12
  go_upto_region 1 with fail
  obtain ⟨X, hX⟩ : ∃ X, X = (w.alloc (.cells #[.int .i64 0, .int .u64 0, .int .u64 0, .int .u64 0, .int .u64 0, .int .i64 0, .int .i64 0, .int .i64 0, .slice none 0 0] 27)).alloc (.cells #[.int .i64 0, .int .u64 0, .int .u64 0, .int .u64 0, .int .u64 0, .int .i64 0, .int .i64 0, .int .i64 0, .slice none 0 0] 27) := ⟨_, rfl⟩
  have xb1 : X.heap[w.heap.size]? = some (.cells #[.int .i64 0, .int .u64 0, .int .u64 0, .int .u64 0, .int .u64 0, .int .i64 0, .int .i64 0, .int .i64 0, .slice none 0 0] 27 (0, 0)) := by
    rw [hX, Below.heap_alloc _ _ _ (by simp only [World.size_alloc]; omega)]
    exact heap_alloc_new w _
  have nw := fun (W : World) (ob : Obj) (H : Nat) (hH : W.heap.size = H) => (show (W.alloc ob).heap[H]? = some ob from hH ▸ heap_alloc_new W ob)
  have xb2 : X.heap[w.heap.size + 1]? = some (.cells #[.int .i64 0, .int .u64 0, .int .u64 0, .int .u64 0, .int .u64 0, .int .i64 0, .int .i64 0, .int .i64 0, .slice none 0 0] 27 (0, 0)) := by
    rw [hX]
    exact nw _ _ _ (by simp only [World.size_alloc])
  have hBX : Below w.heap.size w X := by
    rw [hX]
    exact ((Below.refl _ _).alloc (Nat.le_refl _) _).alloc (by rw [World.size_alloc]; omega) _
  rw [← hX]
  clear hX nw
  have z0 : X.cell? ⟨w.heap.size, 0, none⟩ = some (.int .i64 0) := by simp [World.cell?, xb1]
  have z1 : X.cell? ⟨w.heap.size, 1, none⟩ = some (.int .u64 0) := by simp [World.cell?, xb1]
  have z2 : X.cell? ⟨w.heap.size, 2, none⟩ = some (.int .u64 0) := by simp [World.cell?, xb1]
  have z3 : X.cell? ⟨w.heap.size, 3, none⟩ = some (.int .u64 0) := by simp [World.cell?, xb1]
  have z4 : X.cell? ⟨w.heap.size, 4, none⟩ = some (.int .u64 0) := by simp [World.cell?, xb1]
  have z5 : X.cell? ⟨w.heap.size, 5, none⟩ = some (.int .i64 0) := by simp [World.cell?, xb1]
  have z6 : X.cell? ⟨w.heap.size, 6, none⟩ = some (.int .i64 0) := by simp [World.cell?, xb1]
  have z7 : X.cell? ⟨w.heap.size, 7, none⟩ = some (.int .i64 0) := by simp [World.cell?, xb1]
  have z8 : X.cell? ⟨w.heap.size, 8, none⟩ = some (.slice none 0 0) := by simp [World.cell?, xb1]
  have y0 : X.cell? ⟨w.heap.size + 1, 0, none⟩ = some (.int .i64 0) := by simp [World.cell?, xb2]
  have y1 : X.cell? ⟨w.heap.size + 1, 1, none⟩ = some (.int .u64 0) := by simp [World.cell?, xb2]
  have y2 : X.cell? ⟨w.heap.size + 1, 2, none⟩ = some (.int .u64 0) := by simp [World.cell?, xb2]
  have y3 : X.cell? ⟨w.heap.size + 1, 3, none⟩ = some (.int .u64 0) := by simp [World.cell?, xb2]
  have y4 : X.cell? ⟨w.heap.size + 1, 4, none⟩ = some (.int .u64 0) := by simp [World.cell?, xb2]
  have y5 : X.cell? ⟨w.heap.size + 1, 5, none⟩ = some (.int .i64 0) := by simp [World.cell?, xb2]
  have y6 : X.cell? ⟨w.heap.size + 1, 6, none⟩ = some (.int .i64 0) := by simp [World.cell?, xb2]
  have y7 : X.cell? ⟨w.heap.size + 1, 7, none⟩ = some (.int .i64 0) := by simp [World.cell?, xb2]
  have y8 : X.cell? ⟨w.heap.size + 1, 8, none⟩ = some (.slice none 0 0) := by simp [World.cell?, xb2]
  have HX := hideT (And.intro xb1 hBX)
  clear xb1 xb2 hBX
  go_wp2_with fail
  go_loopw [5] (fun iv wr => iv = .int .i64 0 ∧ wr.heap[w.heap.size]? = some (.cells #[.int .i64 0, .int .u64 0, .int .u64 0, .int .u64 0, .int .u64 0, .int .i64 0, .int .i64 0, .int .i64 0, .slice none 0 0] 27 (0, 0)) ∧ Below w.heap.size w wr) (fun _ _ => 0)
  case atStart => exact ⟨rfl, HX.out⟩
  case round =>
    clear HX z0 y0 z1 y1 z2 y2 z3 y3 z4 y4 z5 y5 z6 y6 z7 y7 z8 y8
    obtain ⟨rfl, gb1, gB⟩ := hrel
    have z8 : wr.cell? ⟨w.heap.size, 8, none⟩ = some (.slice none 0 0) := by simp [World.cell?, gb1]
    have HB := hideT gB
    clear gb1 gB
    go_wp2
    go_ret
    exact ⟨rfl, HB.out⟩
end Go.Proofs.Ytooanbbnjiogaaa

/- BreShapes: the walk. -/
namespace Go.Proofs.Ytooanbbnjiogaaa
open Go.RowKit

namespace shapes
theorem small_size (s : ByteArray) (ts : List Tr) (h : parseT s = .ok ts) : s.size ≤ 1073741824 := by
  unfold parseT at h
  split at h
  · cases h
  · omega

theorem shaped_tree (ts : List Tr) (hsm : smallT (catT ts)) (s' : Sh) (hsh : ShT (catT ts) (0, fun _ => false) s') (a : Option Addr) (n c : Nat) (w : World) (ok : Nat → Prop) (hk : Kids w ok (.slice a n c) ts) :
    Calls Try.prog 13 #[.agg #[.int .i64 0, .int .u64 0, .int .u64 0, .int .u64 0, .int .u64 0, .int .i64 0, .int .i64 0, .int .i64 0, .slice a n c], .int .i64 0, .agg #[.bool false, .bool false, .bool false, .bool false, .bool false, .bool false, .bool false, .bool false, .bool false, .bool false]] w fun e w' => e = shA s' ∧ Below w.heap.size w w' := by
  have h := (shaped_any _ (catT ts) (Nat.lt_succ_self _) hsm (0, fun _ => false) s' (Nat.zero_le _) hsh).2 w ok a n c hk
  rw [show catT ts = .mk 0 noneP 0 0 0 ts from rfl, node_none] at h
  exact h
theorem pos_tree (ts : List Tr) (hsm : smallT (catT ts)) (a : Option Addr) (n c : Nat) (w : World) (ok : Nat → Prop) (hk : Kids w ok (.slice a n c) ts) :
    Calls Try.prog 14 #[.agg #[.int .i64 0, .int .u64 0, .int .u64 0, .int .u64 0, .int .u64 0, .int .i64 0, .int .i64 0, .int .i64 0, .slice a n c]] w fun e w' => e = .returned (.int .i64 (posT (catT ts))) ∧ Below w.heap.size w w' := by
  have h := pos_any _ (catT ts) (Nat.lt_succ_self _) hsm w ok a n c hk
  generalize posT (catT ts) = p at *
  rw [show catT ts = .mk 0 noneP 0 0 0 ts from rfl, node_none] at h
  exact h

set_option maxRecDepth 100000 in
set_option maxHeartbeats 4000000 in
theorem walk (s : ByteArray) (w : World) (hg : Glob w) : Calls Try.prog 4 #[.string s] w fun e w' => e = .returned (.bool true) ∧ Below w.heap.size w w' := by
  go_enter Try.func4, Try.ntmps4
  go_wp2_with fail
  refine (awake_any w hg).mono ?_
  rintro e w1 ⟨rfl, hB1⟩
  have hg1 := hg.below hB1 (Nat.le_refl _)
  cases hp : parseT s with
  | error x =>
    obtain ⟨er, p⟩ := x
    obtain ⟨he0, hp1⟩ := parse_place s er p hp
    have k0 : (er != 0) = true := by rw [bne_iff_ne]; exact he0
    have k1 : (0 : Int) ≤ (p : Int) := by omega
    have k2 : (p : Int) ≤ (s.size : Int) := by omega
    have HP := hideT (parse_fault s er p hp w1 hg1)
    clear he0 hp hp1
    go_wp2_with fail
    refine HP.out.mono ?_
    rintro e w2 ⟨rfl, hB2⟩
    have hB := hB1.trans (hB2.mono hB1.size)
    have HB := hideT hB
    clear hB hB1 hB2 HP
    go_wp2_with fail
    refine (same_zero _).mono ?_
    rintro e w3 ⟨rfl, hB3⟩
    have hBa := (HB.out.alloc HB.out.size (.cells #[.int .i64 0, .int .u64 0, .int .u64 0, .int .u64 0, .int .u64 0, .int .i64 0, .int .i64 0, .int .i64 0, .slice none 0 0] 27)).alloc (Nat.le_trans HB.out.size (by rw [World.size_alloc]; omega)) (.cells #[.int .i64 er, .int .i64 (p : Nat)] 30)
    have HE := hideT (hBa.trans (hB3.mono hBa.size))
    clear hBa hB3
    go_wp2
    go_ret
    exact ⟨rfl, HE.out⟩
  | ok ts =>
    obtain ⟨s', hsh⟩ := parse_shapes s ts hp
    have hsm := parse_small s ts hp
    have hps := (smallT_pos _ hsm).2.1
    have HP := hideT (parse_ok s (small_size s ts hp) ts hp w1 hg1)
    have HS := hideT (And.intro hsh (And.intro hsm hps))
    clear hp hsh hsm hps
    go_wp2_with fail
    refine HP.out.mono ?_
    rintro e w2 ⟨hB2, a, n, c, rfl, hk⟩
    have HB := hideT (And.intro (hB1.trans (hB2.mono hB1.size)) hk)
    clear hB1 hB2 HP hk
    go_upto_region 4 with fail
    obtain ⟨X, hX⟩ : ∃ X, X = (w2.alloc (.cells #[.int .i64 0, .int .u64 0, .int .u64 0, .int .u64 0, .int .u64 0, .int .i64 0, .int .i64 0, .int .i64 0, .slice a n c] 27)).alloc (.cells #[.int .i64 0, .int .i64 0] 30) := ⟨_, rfl⟩
    have nw := fun (W : World) (ob : Obj) (H : Nat) (hH : W.heap.size = H) => (show (W.alloc ob).heap[H]? = some ob from hH ▸ heap_alloc_new W ob)
    have xb1 : X.heap[w2.heap.size]? = some (.cells #[.int .i64 0, .int .u64 0, .int .u64 0, .int .u64 0, .int .u64 0, .int .i64 0, .int .i64 0, .int .i64 0, .slice a n c] 27 (0, 0)) := by
      rw [hX, Below.heap_alloc _ _ _ (by simp only [World.size_alloc]; omega)]
      exact heap_alloc_new w2 _
    have xb2 : X.heap[w2.heap.size + 1]? = some (.cells #[.int .i64 0, .int .i64 0] 30 (0, 0)) := by
      rw [hX]
      exact nw _ _ _ (by simp only [World.size_alloc])
    have hBX : Below w2.heap.size w2 X := by
      rw [hX]
      exact ((Below.refl _ _).alloc (Nat.le_refl _) _).alloc (by rw [World.size_alloc]; omega) _
    rw [← hX]
    clear hX nw
    have z0 : X.cell? ⟨w2.heap.size, 0, none⟩ = some (.int .i64 0) := by simp [World.cell?, xb1]
    have z1 : X.cell? ⟨w2.heap.size, 1, none⟩ = some (.int .u64 0) := by simp [World.cell?, xb1]
    have z2 : X.cell? ⟨w2.heap.size, 2, none⟩ = some (.int .u64 0) := by simp [World.cell?, xb1]
    have z3 : X.cell? ⟨w2.heap.size, 3, none⟩ = some (.int .u64 0) := by simp [World.cell?, xb1]
    have z4 : X.cell? ⟨w2.heap.size, 4, none⟩ = some (.int .u64 0) := by simp [World.cell?, xb1]
    have z5 : X.cell? ⟨w2.heap.size, 5, none⟩ = some (.int .i64 0) := by simp [World.cell?, xb1]
    have z6 : X.cell? ⟨w2.heap.size, 6, none⟩ = some (.int .i64 0) := by simp [World.cell?, xb1]
    have z7 : X.cell? ⟨w2.heap.size, 7, none⟩ = some (.int .i64 0) := by simp [World.cell?, xb1]
    have z8 : X.cell? ⟨w2.heap.size, 8, none⟩ = some (.slice a n c) := by simp [World.cell?, xb1]
    have y0 : X.cell? ⟨w2.heap.size + 1, 0, none⟩ = some (.int .i64 0) := by simp [World.cell?, xb2]
    have hkX := kids_below HB.out.2 hBX
    have HX := hideT (And.intro xb1 (And.intro xb2 (And.intro hBX hkX)))
    clear xb1 xb2 hBX hkX
    go_wp2_with fail
    refine (shaped_tree ts HS.out.2.1 s' HS.out.1 a n c X _ HX.out.2.2.2).mono ?_
    rintro e w3 ⟨rfl, hB3⟩
    have HC := hideT hB3
    clear hB3 z0 z1 z2 z3 z4 z5 z6 z7 z8 y0
    go_upto_region 7 with fail
    obtain ⟨Y, hY⟩ : ∃ Y, Y = w3.alloc (.cells (boolsA s'.2) 38) := ⟨_, rfl⟩
    have hBY : Below X.heap.size X Y := by rw [hY]; exact HC.out.alloc HC.out.size _
    rw [← hY]
    clear hY
    have yb1 := (hBY.block _ (Array.getElem?_eq_some_iff.1 HX.out.1).1).trans HX.out.1
    have yb2 := (hBY.block _ (Array.getElem?_eq_some_iff.1 HX.out.2.1).1).trans HX.out.2.1
    have z0 : Y.cell? ⟨w2.heap.size, 0, none⟩ = some (.int .i64 0) := by simp [World.cell?, yb1]
    have z1 : Y.cell? ⟨w2.heap.size, 1, none⟩ = some (.int .u64 0) := by simp [World.cell?, yb1]
    have z2 : Y.cell? ⟨w2.heap.size, 2, none⟩ = some (.int .u64 0) := by simp [World.cell?, yb1]
    have z3 : Y.cell? ⟨w2.heap.size, 3, none⟩ = some (.int .u64 0) := by simp [World.cell?, yb1]
    have z4 : Y.cell? ⟨w2.heap.size, 4, none⟩ = some (.int .u64 0) := by simp [World.cell?, yb1]
    have z5 : Y.cell? ⟨w2.heap.size, 5, none⟩ = some (.int .i64 0) := by simp [World.cell?, yb1]
    have z6 : Y.cell? ⟨w2.heap.size, 6, none⟩ = some (.int .i64 0) := by simp [World.cell?, yb1]
    have z7 : Y.cell? ⟨w2.heap.size, 7, none⟩ = some (.int .i64 0) := by simp [World.cell?, yb1]
    have z8 : Y.cell? ⟨w2.heap.size, 8, none⟩ = some (.slice a n c) := by simp [World.cell?, yb1]
    have y1 : Y.cell? ⟨w2.heap.size + 1, 1, none⟩ = some (.int .i64 0) := by simp [World.cell?, yb2]
    have hkY := kids_below HX.out.2.2.2 hBY
    have HY := hideT (And.intro hBY hkY)
    clear yb1 yb2 hBY hkY
    have k9 : posT (catT ts) ≤ 256 := HS.out.2.2
    go_wp2_with fail
    refine (pos_tree ts HS.out.2.1 a n c Y _ HY.out.2).mono ?_
    rintro e w4 ⟨rfl, hB4⟩
    have h1 := HB.out.1.trans (HX.out.2.2.1.mono HB.out.1.size)
    have h2 := h1.trans (HY.out.1.mono h1.size)
    have HE := hideT (h2.trans (hB4.mono h2.size))
    clear h1 h2 hB4
    go_wp2
    go_ret
    exact ⟨rfl, HE.out⟩
end shapes
end Go.Proofs.Ytooanbbnjiogaaa
