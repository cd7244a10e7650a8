/- KA3 -/
import Derived.Test.YtbekghinikjjeaaGreatDoorKSm
set_option maxRecDepth 100000
set_option maxHeartbeats 4000000
namespace Go.Proofs.YtbekghinikjjeaaGreatDoor.smt
open Go.RowKit Go.Proofs.YtbekghinikjjeaaGreatDoor.br
theorem kind_any {W : World} {b o : Nat} (s : ByteArray) (i : Nat) (c : W.cell? ⟨b, o, none⟩ = some (.string s)) : Calls Tryz.prog 66 #[.pointer (some ⟨b, o, none⟩), .int .i64 (i : Nat)] W fun e w' => e = .returned (.int .i64 (kindAt s.size i : Nat)) ∧ w' = W := by
 have b1 : bits .or .i64 0 1 = 1 := by decide
 have b2 : bits .or .i64 0 2 = 2 := by decide
 have b3 : bits .or .i64 1 2 = 3 := by decide
 have t : ∀ n m : Nat, Nat.beq n m = decide (n = m) := fun n m => by rw [Bool.eq_iff_iff, decide_eq_true_eq]; exact ⟨fun h => Nat.eq_of_beq_eq_true h, fun h => by rw [h]; exact Nat.beq_refl m⟩
 by_cases h1 : i = 0
 · have e1 : ((i : Int) == 0) = true := by subst h1; rfl
   by_cases h2 : i = s.size
   · have e2 : ((i : Int) == (s.size : Int)) = true := by rw [beq_iff_eq]; omega
     have hk : kindAt s.size i = 3 := by simp [kindAt, h1, ← h2]
     rw [hk]
     clear hk h2 h1
     go_enter Tryz.func66, Tryz.ntmps66
     go_wp2
     go_ret
     exact ⟨rfl, rfl⟩
   · have e2 : ((i : Int) == (s.size : Int)) = false := by rw [beq_eq_false_iff_ne]; omega
     have hk : kindAt s.size i = 1 := by simp [kindAt, t, h1, show ¬ 0 = s.size by omega]
     rw [hk]
     clear hk h2 h1
     go_enter Tryz.func66, Tryz.ntmps66
     go_wp2
     go_ret
     exact ⟨rfl, rfl⟩
 · have e1 : ((i : Int) == 0) = false := by rw [beq_eq_false_iff_ne]; omega
   by_cases h2 : i = s.size
   · have e2 : ((i : Int) == (s.size : Int)) = true := by rw [beq_iff_eq]; omega
     have hk : kindAt s.size i = 2 := by simp [kindAt, t, h1, ← h2]
     rw [hk]
     clear hk h2 h1
     go_enter Tryz.func66, Tryz.ntmps66
     go_wp2
     go_ret
     exact ⟨rfl, rfl⟩
   · have e2 : ((i : Int) == (s.size : Int)) = false := by rw [beq_eq_false_iff_ne]; omega
     have hk : kindAt s.size i = 0 := by simp [kindAt, t, h1, h2]
     rw [hk]
     clear hk h2 h1
     go_enter Tryz.func66, Tryz.ntmps66
     go_wp2
     go_ret
     exact ⟨rfl, rfl⟩
theorem kind_lt (n i : Nat) : kindAt n i < 4 := by
 unfold kindAt; cases Nat.beq i 0 <;> cases Nat.beq i n <;> decide
theorem pt_range {W : World} {b : Nat} {p : Pt} {vl vt vn : Value} (h : W.heap[b]? = some (.cells (ptV p vl vt vn).toArray 164 (0, 0))) : W.rangeAt b 5 (bsV p.bds) := fun j v hv => by
 have hj : j < 36 := by have := (List.getElem?_eq_some_iff.1 hv).1; simpa [bsV_len] using this
 simp only [World.cell?, h]
 rw [List.getElem?_toArray, ptV, split_get _ _ _ 5 j rfl (by rw [bsV_len]; exact hj), hv]
 rfl
theorem bs_cell {W : World} {b : Nat} {m : List Bd} {t : TypeId} (h : W.heap[b]? = some (.cells (bsV m).toArray t (0, 0))) {k : Nat} (hk : k < 4) (j : Nat) (hj : j < 9) (v : Value) (hv : (bdV (bat m k))[j]? = some v) : W.cell? ⟨b, k * 9 + j, none⟩ = some v ∧ W.frozen? ⟨b, k * 9 + j, none⟩ = false := by
 constructor
 · simp only [World.cell?, h]
   rw [List.getElem?_toArray, bs_get m k j hk hj, hv]
   rfl
 · simp [World.frozen?, h]
theorem bs_cF {W : World} {b : Nat} {m : List Bd} {t : TypeId} (h : W.heap[b]? = some (.cells (bsV m).toArray t (0, 0))) {k : Nat} (hk : k < 4) : (W.cell? ⟨b, k * 9 + 1, none⟩ = some (.int .u64 (wd (Nat.testBit (bat m k).fi) 0 : Nat)) ∧ W.cell? ⟨b, k * 9 + 1 + 1, none⟩ = some (.int .u64 (wd (Nat.testBit (bat m k).fi) 1 : Nat)) ∧ W.cell? ⟨b, k * 9 + 1 + 2, none⟩ = some (.int .u64 (wd (Nat.testBit (bat m k).fi) 2 : Nat)) ∧ W.cell? ⟨b, k * 9 + 1 + 3, none⟩ = some (.int .u64 (wd (Nat.testBit (bat m k).fi) 3 : Nat))) ∧ (W.frozen? ⟨b, k * 9 + 1, none⟩ = false ∧ W.frozen? ⟨b, k * 9 + 1 + 1, none⟩ = false ∧ W.frozen? ⟨b, k * 9 + 1 + 2, none⟩ = false ∧ W.frozen? ⟨b, k * 9 + 1 + 3, none⟩ = false) :=
 ⟨⟨(bs_cell h hk 1 (by omega) _ rfl).1, (bs_cell h hk 2 (by omega) _ rfl).1, (bs_cell h hk 3 (by omega) _ rfl).1, (bs_cell h hk 4 (by omega) _ rfl).1⟩, (bs_cell h hk 1 (by omega) _ rfl).2, (bs_cell h hk 2 (by omega) _ rfl).2, (bs_cell h hk 3 (by omega) _ rfl).2, (bs_cell h hk 4 (by omega) _ rfl).2⟩
theorem bs_cL {W : World} {b : Nat} {m : List Bd} {t : TypeId} (h : W.heap[b]? = some (.cells (bsV m).toArray t (0, 0))) {k : Nat} (hk : k < 4) : (W.cell? ⟨b, k * 9 + 5, none⟩ = some (.int .u64 (wd (Nat.testBit (bat m k).la) 0 : Nat)) ∧ W.cell? ⟨b, k * 9 + 5 + 1, none⟩ = some (.int .u64 (wd (Nat.testBit (bat m k).la) 1 : Nat)) ∧ W.cell? ⟨b, k * 9 + 5 + 2, none⟩ = some (.int .u64 (wd (Nat.testBit (bat m k).la) 2 : Nat)) ∧ W.cell? ⟨b, k * 9 + 5 + 3, none⟩ = some (.int .u64 (wd (Nat.testBit (bat m k).la) 3 : Nat))) ∧ (W.frozen? ⟨b, k * 9 + 5, none⟩ = false ∧ W.frozen? ⟨b, k * 9 + 5 + 1, none⟩ = false ∧ W.frozen? ⟨b, k * 9 + 5 + 2, none⟩ = false ∧ W.frozen? ⟨b, k * 9 + 5 + 3, none⟩ = false) :=
 ⟨⟨(bs_cell h hk 5 (by omega) _ rfl).1, (bs_cell h hk 6 (by omega) _ rfl).1, (bs_cell h hk 7 (by omega) _ rfl).1, (bs_cell h hk 8 (by omega) _ rfl).1⟩, (bs_cell h hk 5 (by omega) _ rfl).2, (bs_cell h hk 6 (by omega) _ rfl).2, (bs_cell h hk 7 (by omega) _ rfl).2, (bs_cell h hk 8 (by omega) _ rfl).2⟩
def stF (m : List Bd) (k q : Nat) : List Bd := m.set k ⟨(bat m k).no, q, (bat m k).la⟩
def stL (m : List Bd) (k q : Nat) : List Bd := m.set k ⟨(bat m k).no, (bat m k).fi, q⟩
theorem at_stF {W : World} {b : Nat} {m : List Bd} {t : TypeId} (h : W.heap[b]? = some (.cells (bsV m).toArray t (0, 0))) (hm : m.length = 4) {k : Nat} (hk : k < 4) (q : Nat) : (put4at W b (k * 9 + 1) q).heap[b]? = some (.cells (bsV (stF m k q)).toArray t (0, 0)) := by
 match m, hm, k, hk with
 | [x, y, z, u], _, 0, _ => exact setCells_at b t (0, 0) [.int .u64 (wd (Nat.testBit q) 0 : Nat), .int .u64 (wd (Nat.testBit q) 1 : Nat), .int .u64 (wd (Nat.testBit q) 2 : Nat), .int .u64 (wd (Nat.testBit q) 3 : Nat)] [.bool x.no] [.int .u64 (wd (Nat.testBit x.fi) 0 : Nat), .int .u64 (wd (Nat.testBit x.fi) 1 : Nat), .int .u64 (wd (Nat.testBit x.fi) 2 : Nat), .int .u64 (wd (Nat.testBit x.fi) 3 : Nat)] ([.int .u64 (wd (Nat.testBit x.la) 0 : Nat), .int .u64 (wd (Nat.testBit x.la) 1 : Nat), .int .u64 (wd (Nat.testBit x.la) 2 : Nat), .int .u64 (wd (Nat.testBit x.la) 3 : Nat)] ++ (bdV y ++ (bdV z ++ bdV u))) W 1 h rfl rfl
 | [x, y, z, u], _, 1, _ => exact setCells_at b t (0, 0) [.int .u64 (wd (Nat.testBit q) 0 : Nat), .int .u64 (wd (Nat.testBit q) 1 : Nat), .int .u64 (wd (Nat.testBit q) 2 : Nat), .int .u64 (wd (Nat.testBit q) 3 : Nat)] (bdV x ++ [.bool y.no]) [.int .u64 (wd (Nat.testBit y.fi) 0 : Nat), .int .u64 (wd (Nat.testBit y.fi) 1 : Nat), .int .u64 (wd (Nat.testBit y.fi) 2 : Nat), .int .u64 (wd (Nat.testBit y.fi) 3 : Nat)] ([.int .u64 (wd (Nat.testBit y.la) 0 : Nat), .int .u64 (wd (Nat.testBit y.la) 1 : Nat), .int .u64 (wd (Nat.testBit y.la) 2 : Nat), .int .u64 (wd (Nat.testBit y.la) 3 : Nat)] ++ (bdV z ++ bdV u)) W 10 h rfl rfl
 | [x, y, z, u], _, 2, _ => exact setCells_at b t (0, 0) [.int .u64 (wd (Nat.testBit q) 0 : Nat), .int .u64 (wd (Nat.testBit q) 1 : Nat), .int .u64 (wd (Nat.testBit q) 2 : Nat), .int .u64 (wd (Nat.testBit q) 3 : Nat)] (bdV x ++ (bdV y ++ [.bool z.no])) [.int .u64 (wd (Nat.testBit z.fi) 0 : Nat), .int .u64 (wd (Nat.testBit z.fi) 1 : Nat), .int .u64 (wd (Nat.testBit z.fi) 2 : Nat), .int .u64 (wd (Nat.testBit z.fi) 3 : Nat)] ([.int .u64 (wd (Nat.testBit z.la) 0 : Nat), .int .u64 (wd (Nat.testBit z.la) 1 : Nat), .int .u64 (wd (Nat.testBit z.la) 2 : Nat), .int .u64 (wd (Nat.testBit z.la) 3 : Nat)] ++ bdV u) W 19 h rfl rfl
 | [x, y, z, u], _, 3, _ => exact setCells_at b t (0, 0) [.int .u64 (wd (Nat.testBit q) 0 : Nat), .int .u64 (wd (Nat.testBit q) 1 : Nat), .int .u64 (wd (Nat.testBit q) 2 : Nat), .int .u64 (wd (Nat.testBit q) 3 : Nat)] (bdV x ++ (bdV y ++ (bdV z ++ [.bool u.no]))) [.int .u64 (wd (Nat.testBit u.fi) 0 : Nat), .int .u64 (wd (Nat.testBit u.fi) 1 : Nat), .int .u64 (wd (Nat.testBit u.fi) 2 : Nat), .int .u64 (wd (Nat.testBit u.fi) 3 : Nat)] [.int .u64 (wd (Nat.testBit u.la) 0 : Nat), .int .u64 (wd (Nat.testBit u.la) 1 : Nat), .int .u64 (wd (Nat.testBit u.la) 2 : Nat), .int .u64 (wd (Nat.testBit u.la) 3 : Nat)] W 28 h rfl rfl
theorem at_stL {W : World} {b : Nat} {m : List Bd} {t : TypeId} (h : W.heap[b]? = some (.cells (bsV m).toArray t (0, 0))) (hm : m.length = 4) {k : Nat} (hk : k < 4) (q : Nat) : (put4at W b (k * 9 + 5) q).heap[b]? = some (.cells (bsV (stL m k q)).toArray t (0, 0)) := by
 match m, hm, k, hk with
 | [x, y, z, u], _, 0, _ => exact setCells_at b t (0, 0) [.int .u64 (wd (Nat.testBit q) 0 : Nat), .int .u64 (wd (Nat.testBit q) 1 : Nat), .int .u64 (wd (Nat.testBit q) 2 : Nat), .int .u64 (wd (Nat.testBit q) 3 : Nat)] (.bool x.no :: [.int .u64 (wd (Nat.testBit x.fi) 0 : Nat), .int .u64 (wd (Nat.testBit x.fi) 1 : Nat), .int .u64 (wd (Nat.testBit x.fi) 2 : Nat), .int .u64 (wd (Nat.testBit x.fi) 3 : Nat)]) [.int .u64 (wd (Nat.testBit x.la) 0 : Nat), .int .u64 (wd (Nat.testBit x.la) 1 : Nat), .int .u64 (wd (Nat.testBit x.la) 2 : Nat), .int .u64 (wd (Nat.testBit x.la) 3 : Nat)] (bdV y ++ (bdV z ++ bdV u)) W 5 h rfl rfl
 | [x, y, z, u], _, 1, _ => exact setCells_at b t (0, 0) [.int .u64 (wd (Nat.testBit q) 0 : Nat), .int .u64 (wd (Nat.testBit q) 1 : Nat), .int .u64 (wd (Nat.testBit q) 2 : Nat), .int .u64 (wd (Nat.testBit q) 3 : Nat)] (bdV x ++ (.bool y.no :: [.int .u64 (wd (Nat.testBit y.fi) 0 : Nat), .int .u64 (wd (Nat.testBit y.fi) 1 : Nat), .int .u64 (wd (Nat.testBit y.fi) 2 : Nat), .int .u64 (wd (Nat.testBit y.fi) 3 : Nat)])) [.int .u64 (wd (Nat.testBit y.la) 0 : Nat), .int .u64 (wd (Nat.testBit y.la) 1 : Nat), .int .u64 (wd (Nat.testBit y.la) 2 : Nat), .int .u64 (wd (Nat.testBit y.la) 3 : Nat)] (bdV z ++ bdV u) W 14 h rfl rfl
 | [x, y, z, u], _, 2, _ => exact setCells_at b t (0, 0) [.int .u64 (wd (Nat.testBit q) 0 : Nat), .int .u64 (wd (Nat.testBit q) 1 : Nat), .int .u64 (wd (Nat.testBit q) 2 : Nat), .int .u64 (wd (Nat.testBit q) 3 : Nat)] (bdV x ++ (bdV y ++ (.bool z.no :: [.int .u64 (wd (Nat.testBit z.fi) 0 : Nat), .int .u64 (wd (Nat.testBit z.fi) 1 : Nat), .int .u64 (wd (Nat.testBit z.fi) 2 : Nat), .int .u64 (wd (Nat.testBit z.fi) 3 : Nat)]))) [.int .u64 (wd (Nat.testBit z.la) 0 : Nat), .int .u64 (wd (Nat.testBit z.la) 1 : Nat), .int .u64 (wd (Nat.testBit z.la) 2 : Nat), .int .u64 (wd (Nat.testBit z.la) 3 : Nat)] (bdV u) W 23 h rfl rfl
 | [x, y, z, u], _, 3, _ => exact setCells_at b t (0, 0) [.int .u64 (wd (Nat.testBit q) 0 : Nat), .int .u64 (wd (Nat.testBit q) 1 : Nat), .int .u64 (wd (Nat.testBit q) 2 : Nat), .int .u64 (wd (Nat.testBit q) 3 : Nat)] (bdV x ++ (bdV y ++ (bdV z ++ (.bool u.no :: [.int .u64 (wd (Nat.testBit u.fi) 0 : Nat), .int .u64 (wd (Nat.testBit u.fi) 1 : Nat), .int .u64 (wd (Nat.testBit u.fi) 2 : Nat), .int .u64 (wd (Nat.testBit u.fi) 3 : Nat)])))) [.int .u64 (wd (Nat.testBit u.la) 0 : Nat), .int .u64 (wd (Nat.testBit u.la) 1 : Nat), .int .u64 (wd (Nat.testBit u.la) 2 : Nat), .int .u64 (wd (Nat.testBit u.la) 3 : Nat)] [] W 32 h rfl rfl
def mvB (base : Nat) (b : List Bd) (k : Nat) : List Bd := (b.take k).map (fun x => (⟨x.no, up x.fi base, up x.la base⟩ : Bd)) ++ b.drop k
theorem mvB_len (base : Nat) {b : List Bd} (h : b.length = 4) (k : Nat) : (mvB base b k).length = 4 := by simp [mvB]; omega
theorem mvB_step (base : Nat) {b : List Bd} (h : b.length = 4) {k : Nat} (hk : k < 4) : stL (stF (mvB base b k) k (up (bat (mvB base b k) k).fi base)) k (up (bat (stF (mvB base b k) k (up (bat (mvB base b k) k).fi base)) k).la base) = mvB base b (k + 1) := by
 match b, h, k, hk with
 | [x, y, z, u], _, 0, _ => rfl
 | [x, y, z, u], _, 1, _ => rfl
 | [x, y, z, u], _, 2, _ => rfl
 | [x, y, z, u], _, 3, _ => rfl
theorem mvB_four (base : Nat) {b : List Bd} (h : b.length = 4) : mvB base b 4 = b.map (fun x => (⟨x.no, up x.fi base, up x.la base⟩ : Bd)) := by
 match b, h with
 | [x, y, z, u], _ => rfl
end Go.Proofs.YtbekghinikjjeaaGreatDoor.smt
namespace Go.Proofs.YtbekghinikjjeaaGreatDoor.smt
open Go.RowKit Go.Shelf Go.Proofs.YtbekghinikjjeaaGreatDoor.br
attribute [local go_sem] Oper.semAt_some
theorem cells_turn {W W' : World} {row : Option Nat} {B : Nat} (hg : W.grownBy W' row) (hr : ∀ r, row = some r → B ≤ r ∧ ∃ o : Obj, W.heap[r]? = some o ∧ o.isCells = false) {k : Nat} {o : Obj} (h : W.heap[k]? = some o) (ho : o.isCells = true) : W'.heap[k]? = some o := (grownBy_keeps_cells hg (fun r e => (hr r e).2) h ho).trans h
theorem Ps4.put {W : World} {b n : Nat} (h : Ps4 W b n) (q : Nat) : Ps4 (put4at W b 0 q) b q := setCells_whole (cs := [.int .u64 (wd (Nat.testBit n) 0 : Nat), .int .u64 (wd (Nat.testBit n) 1 : Nat), .int .u64 (wd (Nat.testBit n) 2 : Nat), .int .u64 (wd (Nat.testBit n) 3 : Nat)]) [.int .u64 (wd (Nat.testBit q) 0 : Nat), .int .u64 (wd (Nat.testBit q) 1 : Nat), .int .u64 (wd (Nat.testBit q) 2 : Nat), .int .u64 (wd (Nat.testBit q) 3 : Nat)] h rfl
theorem put_below {B : Nat} {X W : World} (h : Below B X W) {b : Nat} (hb : B ≤ b) (o q : Nat) : Below B X (put4at W b o q) := below_setCells b hb [.int .u64 (wd (Nat.testBit q) 0 : Nat), .int .u64 (wd (Nat.testBit q) 1 : Nat), .int .u64 (wd (Nat.testBit q) 2 : Nat), .int .u64 (wd (Nat.testBit q) 3 : Nat)] W o h
def Bx (W : World) (b t : Nat) (v : Value) : Prop := W.heap[b]? = some (.cells #[v] t)
theorem Bx.cell {W : World} {b t : Nat} {v : Value} (h : Bx W b t v) : W.cell? ⟨b, 0, none⟩ = some v := by
 have h : W.heap[b]? = _ := h
 simp [World.cell?, h]
theorem pt_cell {W : World} {b : Nat} {p : Pt} {vl vt vn : Value} (h : W.heap[b]? = some (.cells (ptV p vl vt vn).toArray 164 (0, 0))) : W.cell? ⟨b, 41, none⟩ = some vt ∧ W.cell? ⟨b, 42, none⟩ = some vn ∧ W.cell? ⟨b, 2, none⟩ = some vl := by
 refine ⟨?_, ?_, ?_⟩ <;> (simp only [World.cell?, h]; rfl)
theorem row_next {W : World} {v : Value} {ns : List Nat} (h : W.ownsRow 0 157 4 v ns.length (nxV ns)) {x y : Nat} (hy : ns[x]? = some y) : ∃ g cap, v = .slice (some ⟨g, 0, none⟩) ns.length cap ∧ g < W.heap.size ∧ (W.cell? ⟨g, x * 4, none⟩ = some (.int .u64 (wd (Nat.testBit y) 0 : Nat)) ∧ W.cell? ⟨g, x * 4 + 1, none⟩ = some (.int .u64 (wd (Nat.testBit y) 1 : Nat)) ∧ W.cell? ⟨g, x * 4 + 2, none⟩ = some (.int .u64 (wd (Nat.testBit y) 2 : Nat)) ∧ W.cell? ⟨g, x * 4 + 3, none⟩ = some (.int .u64 (wd (Nat.testBit y) 3 : Nat))) := by
 have hx := (List.getElem?_eq_some_iff.1 hy).1
 have h0 := h
 rcases h.2 with ⟨_, e⟩ | ⟨g, cap, cur, rfl, _, hh, _⟩
 · omega
 · exact ⟨g, cap, rfl, (Array.getElem?_eq_some_iff.1 hh).1, (owns_cell h0 _ _ (nxV_get hy 0 (by omega))).1, (owns_cell h0 _ _ (nxV_get hy 1 (by omega))).1, (owns_cell h0 _ _ (nxV_get hy 2 (by omega))).1, (owns_cell h0 _ _ (nxV_get hy 3 (by omega))).1⟩
def OnI (w : World) (b : Nat) (p : Pt) (tot : Nat) (l : List Nat) (W : World) : Prop :=
 ∃ acc, l.foldl (fun a i => a ||| p.next.getD i 0) acc = tot ∧ (∀ x ∈ l, x < p.next.length) ∧ Bx W w.heap.size 125 (.pointer (some ⟨b, 0, none⟩)) ∧ Ps4 W (w.heap.size + 1 + 1 + 1) acc ∧ Ps4 W (w.heap.size + 1 + 1) 0 ∧ Below w.heap.size w W ∧ w.heap.size + 5 ≤ W.heap.size
theorem onI_own (w : World) (b : Nat) (p : Pt) (tot n : Nat) (hn : w.heap.size ≤ n) : OwnFrom n (OnI w b p tot) := by
 rintro l W W' row ⟨k, h1, h2, h3, h4, h6, h8, h9⟩ hg hr
 exact ⟨k, h1, h2, cells_turn hg hr h3 rfl, cells_turn hg hr h4 rfl, cells_turn hg hr h6 rfl, h8.grown hg h8.size (fun k e => Nat.le_trans hn (hr k e).1), Nat.le_trans h9 hg.size⟩
theorem on_next {w W W1 W0 : World} {b acc tot y : Nat} {p : Pt} {l : List Nat} (hz : W0.heap.size = w.heap.size + 5) (h0 : 0 < w.heap.size) (hf : l.foldl (fun a i => a ||| p.next.getD i 0) (acc ||| y) = tot) (hin : ∀ x ∈ l, x < p.next.length) (hS : Ps4 W (w.heap.size + 1 + 1 + 1) acc) (hR : Ps4 W (w.heap.size + 1 + 1) 0) (hbx : Bx W w.heap.size 125 (.pointer (some ⟨b, 0, none⟩))) (hB : Below w.heap.size w W) (hsz : w.heap.size + 5 ≤ W.heap.size) (hb1 : Below W.heap.size W W1) :
  KeepsFrom W0.heap.size W (put4at W1 (w.heap.size + 1 + 1 + 1) 0 (acc ||| y)) ∧ Kp0 W (put4at W1 (w.heap.size + 1 + 1 + 1) 0 (acc ||| y)) ∧ OnI w b p tot l (put4at W1 (w.heap.size + 1 + 1 + 1) 0 (acc ||| y)) := by
 have hs : (put4at W1 (w.heap.size + 1 + 1 + 1) 0 (acc ||| y)).heap.size = W1.heap.size := put4at_size _ _ _ _
 have hs1 := hb1.size
 have far : ∀ k, k < W.heap.size → k ≠ w.heap.size + 1 + 1 + 1 → (put4at W1 (w.heap.size + 1 + 1 + 1) 0 (acc ||| y)).heap[k]? = W.heap[k]? := fun k h1 h2 => (put4at_far W1 _ 0 _ h2).trans (hb1.block k h1)
 refine ⟨⟨by omega, fun k o hk1 hk ho => ?_⟩, ⟨by omega, far 0 (by omega) (by omega)⟩, acc ||| y, hf, hin, (far _ (by omega) (by omega)).trans hbx, (hS.below hb1 hS.lt).put _, (far _ (by omega) (by omega)).trans hR, put_below (hB.trans (hb1.mono hB.size)) (by omega) _ _, by omega⟩
 exact (far k (Array.getElem?_eq_some_iff.1 hk).1 (by omega)).trans hk
theorem onward_any {S : Nat → Prop} {b took : Nat} {p : Pt} (w : World) (hp : PtAt w S b p) (hT : Tab w) (hin : ∀ x ∈ mem 256 took, x < p.next.length) : Calls Tryz.prog 71 #[.pointer (some ⟨b, 0, none⟩), .agg #[.int .u64 (wd (Nat.testBit took) 0 : Nat), .int .u64 (wd (Nat.testBit took) 1 : Nat), .int .u64 (wd (Nat.testBit took) 2 : Nat), .int .u64 (wd (Nat.testBit took) 3 : Nat)]] w fun e w' => e = .returned (.agg #[.int .u64 (wd (Nat.testBit (onward p took)) 0 : Nat), .int .u64 (wd (Nat.testBit (onward p took)) 1 : Nat), .int .u64 (wd (Nat.testBit (onward p took)) 2 : Nat), .int .u64 (wd (Nat.testBit (onward p took)) 3 : Nat)]) ∧ Below w.heap.size w w' := by
 obtain ⟨b, p, vl, vt, vn, cs, -, blk, -, -, -, on, -, -, -, -⟩ := hp
 have hblt : b < w.heap.size := (Array.getElem?_eq_some_iff.1 blk).1
 refine (callsIn_wide (n := 5)).1 ?_
 refine callsIn_of_wp_marks Tryz.func71 rfl trivial ?_ rfl
 simp only [Tryz.ntmps71, List.size_toArray, List.length_cons, List.length_nil, Nat.reduceAdd, Nat.reduceSub, Array.replicate_succ, Array.replicate_zero, List.push_toArray, List.append_toArray, List.nil_append, List.cons_append]
 gi_wp2_with (refine ⟨trivial, ?_⟩; gi_at_call 92; refine (all_in _ _ _).mono ?_; rintro e w' ⟨rfl, rfl⟩)
 obtain ⟨W0, hW0⟩ : ∃ W0, W0 = (((((w.alloc (.cells #[.pointer (some ⟨b, 0, none⟩)] 125)).alloc (.cells #[.int .u64 (wd (Nat.testBit took) 0 : Nat), .int .u64 (wd (Nat.testBit took) 1 : Nat), .int .u64 (wd (Nat.testBit took) 2 : Nat), .int .u64 (wd (Nat.testBit took) 3 : Nat)] 157)).alloc (.cells #[.int .u64 0, .int .u64 0, .int .u64 0, .int .u64 0] 157)).alloc (.cells #[.int .u64 0, .int .u64 0, .int .u64 0, .int .u64 0] 157)).alloc (.cells #[.int .u64 (wd (Nat.testBit took) 0 : Nat), .int .u64 (wd (Nat.testBit took) 1 : Nat), .int .u64 (wd (Nat.testBit took) 2 : Nat), .int .u64 (wd (Nat.testBit took) 3 : Nat)] 157)) := ⟨_, rfl⟩
 rw [← hW0]
 have hB0 : Below w.heap.size w W0 := by
  rw [hW0]; exact (((((Below.refl _ w).alloc (Nat.le_refl _) _).alloc (by simp only [World.size_alloc]; omega) _).alloc (by simp only [World.size_alloc]; omega) _).alloc (by simp only [World.size_alloc]; omega) _).alloc (by simp only [World.size_alloc]; omega) _
 have hsz0 : W0.heap.size = w.heap.size + 5 := by rw [hW0]; simp only [World.size_alloc]
 have nw := fun (W : World) (ob : Obj) (H : Nat) (hH : W.heap.size = H) => (show (W.alloc ob).heap[H]? = some ob from hH ▸ World.alloc_heap_new W ob)
 have x0 : Bx W0 w.heap.size 125 (.pointer (some ⟨b, 0, none⟩)) := by
  show W0.heap[_]? = _
  rw [hW0, Below.heap_alloc _ _ _ (by simp only [World.size_alloc]; omega), Below.heap_alloc _ _ _ (by simp only [World.size_alloc]; omega), Below.heap_alloc _ _ _ (by simp only [World.size_alloc]; omega), Below.heap_alloc _ _ _ (by simp only [World.size_alloc]; omega)]
  exact World.alloc_heap_new w _
 have x2 : Ps4 W0 (w.heap.size + 1 + 1) 0 := by
  show W0.heap[_]? = _
  rw [hW0, Below.heap_alloc _ _ _ (by simp only [World.size_alloc]; omega), Below.heap_alloc _ _ _ (by simp only [World.size_alloc]; omega), zero4]
  exact nw _ _ _ (by simp only [World.size_alloc])
 have x3 : Ps4 W0 (w.heap.size + 1 + 1 + 1) 0 := by
  show W0.heap[_]? = _
  rw [hW0, Below.heap_alloc _ _ _ (by simp only [World.size_alloc]; omega), zero4]
  exact nw _ _ _ (by simp only [World.size_alloc])
 have x4 : Ps4 W0 (w.heap.size + 1 + 1 + 1 + 1) took := by
  show W0.heap[_]? = _
  rw [hW0]; exact nw _ _ _ (by simp only [World.size_alloc])
 have hI0 : OnI w b p (onward p took) (mr (Nat.testBit took) 0) W0 := ⟨0, by rw [← mem_mr]; rfl, fun x hx => hin x (by rw [mem_mr]; exact hx), x0, x3, x2, hB0, by omega⟩
 have hT0 := hT.below hB0 hT.pos
 have hpos := hT.pos
 clear hW0 nw x0 x2 x3
 refine range_feed (by omega) (gf := 121) (lb := #[.pointer (some ⟨w.heap.size + 1 + 1 + 1 + 1, 0, none⟩)]) rfl (enters_of Tryz.func121 (by kernel_rfl) rfl)
  (all_feed 4 (by omega) took _ W0 hT0 x4) (fun _ => rfl) kp0_t (kp0_put (by omega)) (OnI w b p (onward p took)) (fun _ _ => False) (onI_own _ _ _ _ _ (by omega)) (fun s W W' row h hg hr => h) hI0 (fun l a' _ => a' = { tmps := #[.pointer (some ⟨b, 0, none⟩), .agg #[.int .u64 (wd (Nat.testBit took) 0 : Nat), .int .u64 (wd (Nat.testBit took) 1 : Nat), .int .u64 (wd (Nat.testBit took) 2 : Nat), .int .u64 (wd (Nat.testBit took) 3 : Nat)], .pointer (some ⟨w.heap.size, 0, none⟩), .pointer (some ⟨w.heap.size + 1, 0, none⟩), .pointer (some ⟨w.heap.size + 1 + 1, 0, none⟩), .pointer (some ⟨w.heap.size + 1 + 1 + 1, 0, none⟩), .int .i64 (l.headD 0 : Nat), .agg #[.int .u64 (wd (Nat.testBit took) 0 : Nat), .int .u64 (wd (Nat.testBit took) 1 : Nat), .int .u64 (wd (Nat.testBit took) 2 : Nat), .int .u64 (wd (Nat.testBit took) 3 : Nat)], .func (.func 121) #[] #[.pointer (some ⟨w.heap.size + 1 + 1 + 1 + 1, 0, none⟩)], .int .i64 (l.headD 0 : Nat), undef, undef, undef, undef, undef, undef, undef, undef, undef, undef], defers := [] }) (fun s a' x W W' row h hg hr => h) ?assign ?body ?done ?stop
 case assign =>
  intro lo l W K hgo hI hK
  obtain ⟨x, l', rfl⟩ : ∃ x l', l = x :: l' := List.exists_cons_of_ne_nil hgo
  simp only [List.headD_cons] at hK ⊢
  gi_wp2
  exact hK _ _ (KeepsFrom.refl _ _) (Kp0.refl _) hI rfl
 case body =>
  rintro lo l a' W hgo hI rfl
  obtain ⟨x, l', rfl⟩ : ∃ x l', l = x :: l' := List.exists_cons_of_ne_nil hgo
  simp only [List.headD_cons, List.tail_cons]
  obtain ⟨acc, hf, hl, hbx, hS, hR, hB, hsz⟩ := hI
  have hxp := hl x List.mem_cons_self
  obtain ⟨y, hy⟩ : ∃ y, p.next[x]? = some y := ⟨p.next[x], List.getElem?_eq_getElem hxp⟩
  rw [List.foldl_cons, List.getD_eq_getElem?_getD, hy, Option.getD_some] at hf
  have on' := owns_keep on (W' := W) fun g hg => hB.block g (owns_blk on hg).2.1
  obtain ⟨g, cap, rfl, hglt, n0, n1, n2, n3⟩ := row_next on' hy
  obtain ⟨-, cb, -⟩ := pt_cell ((hB.block b hblt).trans blk)
  have cw := hbx.cell
  obtain ⟨⟨c0, c1, c2, c3⟩, f0, f1, f2, f3⟩ := hS.cells
  have HOr := hideT (fun W => or_any acc y W)
  have i1 : (x : Int) < (p.next.length : Int) := by omega
  have i2 : (0 : Int) ≤ (x : Int) := by omega
  have HF := hideT (fun (W1 : World) (hb1 : Below W.heap.size W W1) => on_next (b := b) hsz0 hpos hf (fun z hz => hl z (List.mem_cons_of_mem _ hz)) hS hR hbx hB hsz hb1)
  have HS := hideT hS
  have hgw : g < w.heap.size := (owns_blk on rfl).2.1
  have hS0 : (fun V : World => V.cell? ⟨w.heap.size, 0, none⟩ = some (.pointer (some ⟨b, 0, none⟩)) ∧ V.cell? ⟨b, 42, none⟩ = some (.slice (some ⟨g, 0, none⟩) p.next.length cap) ∧ V.cell? ⟨g, x * 4, none⟩ = some (.int .u64 (wd (Nat.testBit y) 0 : Nat)) ∧ V.cell? ⟨g, x * 4 + 1, none⟩ = some (.int .u64 (wd (Nat.testBit y) 1 : Nat)) ∧ V.cell? ⟨g, x * 4 + 2, none⟩ = some (.int .u64 (wd (Nat.testBit y) 2 : Nat)) ∧ V.cell? ⟨g, x * 4 + 3, none⟩ = some (.int .u64 (wd (Nat.testBit y) 3 : Nat))) W.drew := ⟨cw, cb, n0, n1, n2, n3⟩
  have e0 : W.drew.cell? ⟨w.heap.size + 1 + 1 + 1, 0, none⟩ = some (.int .u64 (wd (Nat.testBit acc) 0 : Nat)) := c0
  have e1 : W.drew.cell? ⟨w.heap.size + 1 + 1 + 1, 1, none⟩ = some (.int .u64 (wd (Nat.testBit acc) 1 : Nat)) := c1
  have e2 : W.drew.cell? ⟨w.heap.size + 1 + 1 + 1, 2, none⟩ = some (.int .u64 (wd (Nat.testBit acc) 2 : Nat)) := c2
  have e3 : W.drew.cell? ⟨w.heap.size + 1 + 1 + 1, 3, none⟩ = some (.int .u64 (wd (Nat.testBit acc) 3 : Nat)) := c3
  clear hI0 hS hR hbx hB hf hl on' on hin cw cb n0 n1 n2 n3 c0 c1 c2 c3 f0 f1 f2 f3 x4 hB0 hT0
  gi_wp2_with fail
  refine heldIn (fun V : World => V.cell? ⟨w.heap.size, 0, none⟩ = some (.pointer (some ⟨b, 0, none⟩)) ∧ V.cell? ⟨b, 42, none⟩ = some (.slice (some ⟨g, 0, none⟩) p.next.length cap) ∧ V.cell? ⟨g, x * 4, none⟩ = some (.int .u64 (wd (Nat.testBit y) 0 : Nat)) ∧ V.cell? ⟨g, x * 4 + 1, none⟩ = some (.int .u64 (wd (Nat.testBit y) 1 : Nat)) ∧ V.cell? ⟨g, x * 4 + 2, none⟩ = some (.int .u64 (wd (Nat.testBit y) 2 : Nat)) ∧ V.cell? ⟨g, x * 4 + 3, none⟩ = some (.int .u64 (wd (Nat.testBit y) 3 : Nat))) (by kernel_rfl) (by kernel_rfl) (fun ⟨_, _, h⟩ => h) ?_
  refine tq 1 11 hS0 ?_
  refine tq 2 12 hS0 ?_
  refine tq 3 13 hS0 ?_
  refine tq 4 14 hS0 ?_
  refine tq 5 15 hS0 ?_
  refine tq 6 16 hS0 ?_
  refine tq 7 17 hS0 ?_
  refine wpAnyH_all (rs := [0]) (by kernel_rfl) (by simp) (fun i hi => ?_)
  obtain rfl : i = 0 := List.mem_singleton.1 hi
  refine op_value (some 10) rfl rfl (by rfl) (v := .agg #[.int .u64 (wd (Nat.testBit acc) 0 : Nat), .int .u64 (wd (Nat.testBit acc) 1 : Nat), .int .u64 (wd (Nat.testBit acc) 2 : Nat), .int .u64 (wd (Nat.testBit acc) 3 : Nat)]) (by go_simp; (try with_reducible rfl)) ⟨hS0, ?_⟩
  refine wpAnyH_all (rs := [8]) (by kernel_rfl) (by simp) (fun i hi => ?_)
  obtain rfl : i = 8 := List.mem_singleton.1 hi
  refine op_call (R := fun v w1 => v = .agg #[.int .u64 (wd (Nat.testBit (acc ||| y)) 0 : Nat), .int .u64 (wd (Nat.testBit (acc ||| y)) 1 : Nat), .int .u64 (wd (Nat.testBit (acc ||| y)) 2 : Nat), .int .u64 (wd (Nat.testBit (acc ||| y)) 3 : Nat)] ∧ Below W.heap.size W w1) (f := 93) (some 18) rfl rfl (by rfl) (by go_simp; (try with_reducible rfl)) ((HOr.out _).mono ?_) ?_
  · rintro e w1 ⟨rfl, hb0⟩
    exact ⟨_, rfl, rfl, ((Below.refl W.heap.size W).drew).trans hb0⟩
  rintro v w1 ⟨rfl, hb1⟩
  obtain ⟨⟨d0, d1, d2, d3⟩, g0, g1, g2, g3⟩ := (HS.out.below hb1 HS.out.lt).cells
  obtain ⟨s0, s1, s2, s3, s4, s5⟩ := hS0
  refine ⟨⟨keep_cell hb1 s0, keep_cell hb1 s1, keep_cell hb1 s2, keep_cell hb1 s3, keep_cell hb1 s4, keep_cell hb1 s5⟩, ?_⟩
  refine wpAnyH_all (rs := [9]) (by kernel_rfl) (by simp) (fun i hi => ?_)
  obtain rfl : i = 9 := List.mem_singleton.1 hi
  have pc : ∀ a : Addr, a.block ≠ w.heap.size + 1 + 1 + 1 → (put4at w1 (w.heap.size + 1 + 1 + 1) 0 (acc ||| y)).cell? a = w1.cell? a := fun a h => World.cell?_of_block (put4at_far w1 _ 0 _ h)
  refine op_skip rfl rfl (by rfl) (w' := put4at w1 (w.heap.size + 1 + 1 + 1) 0 (acc ||| y)) (by go_simp; (try with_reducible rfl)) ⟨⟨?_, ?_, ?_, ?_, ?_, ?_⟩, ?_⟩
  · exact (pc _ (by show w.heap.size ≠ _; omega)).trans (keep_cell hb1 s0)
  · exact (pc _ (by show b ≠ _; omega)).trans (keep_cell hb1 s1)
  · exact (pc _ (by show g ≠ _; omega)).trans (keep_cell hb1 s2)
  · exact (pc _ (by show g ≠ _; omega)).trans (keep_cell hb1 s3)
  · exact (pc _ (by show g ≠ _; omega)).trans (keep_cell hb1 s4)
  · exact (pc _ (by show g ≠ _; omega)).trans (keep_cell hb1 s5)
  exact wpAnyH_done (by kernel_rfl) (HF.out w1 hb1) _
 case done =>
  rintro D l W hD hng ⟨acc, hf, -, hbx, hS, hR, hB, hsz⟩ hK
  obtain rfl : l = [] := Classical.byContradiction hng
  obtain rfl : acc = onward p took := hf
  have HQ := hideT (And.intro hB (And.intro hK hD))
  clear hB hng hI0 x4 hbx
  have hne2 : w.heap.size + 1 + 1 ≠ D := by omega
  obtain ⟨⟨c0, c1, c2, c3⟩, -⟩ := hS.cells
  obtain ⟨⟨d0, d1, d2, d3⟩, f0, f1, f2, f3⟩ := hR.cells
  have hD2 : w.heap.size ≤ D := by omega
  have hX := hR.put (onward p took)
  clear hS hK hD hR
  have hKX : (put4at W (w.heap.size + 1 + 1) 0 (onward p took)).heap[D]? = some (.deferred (some [])) := (put4at_far W _ 0 _ (fun e => hne2 e.symm)).trans HQ.out.2.1
  have hZ : Ps4 ((put4at W (w.heap.size + 1 + 1) 0 (onward p took)).putObj D (.deferred none)) (w.heap.size + 1 + 1) (onward p took) := (World.putObj_heap_other hne2).trans hX
  obtain ⟨⟨z0, z1, z2, z3⟩, -⟩ := hZ.cells
  have hBZ : Below w.heap.size w ((put4at W (w.heap.size + 1 + 1) 0 (onward p took)).putObj D (.deferred none)) := (put_below HQ.out.1 (by omega) _ _).trans (belowK_b (w := w) (Nat.le_refl _) _ D _ _ (by omega) hKX rfl rfl)
  have HX := hideT (And.intro hKX hBZ)
  clear hX hKX hZ hBZ
  gi_wp2
  refine ⟨by simp, .inl ⟨_, _, rfl, run_takeDeferred HX.out.1, ?_⟩⟩
  exact ⟨.agg #[.int .u64 (wd (Nat.testBit (onward p took)) 0 : Nat), .int .u64 (wd (Nat.testBit (onward p took)) 1 : Nat), .int .u64 (wd (Nat.testBit (onward p took)) 2 : Nat), .int .u64 (wd (Nat.testBit (onward p took)) 3 : Nat)], by simp [results, Tryz.results71, go_sem, z0, z1, z2, z3], rfl, HX.out.2⟩
 case stop => rintro D l W hD h; exact h.elim
end Go.Proofs.YtbekghinikjjeaaGreatDoor.smt
namespace Go.Proofs.YtbekghinikjjeaaGreatDoor.smt
open Go.RowKit Go.Shelf Go.Proofs.YtbekghinikjjeaaGreatDoor.br
theorem and_bit (X : Nat) (hX : X < 18446744073709551616) (x : Int) (h0 : 0 ≤ x) :
    (bits .and .u64 ((X : Int) / 2 ^ (x % 64).toNat) 1 == 1) = X.testBit (x.toNat % 64) := by
  obtain ⟨n, rfl⟩ := Int.eq_ofNat_of_zero_le h0
  have e : ((n : Int) % 64).toNat = n % 64 := by omega
  have e1 : ((X : Int) / 2 ^ (n % 64)) = ((X / 2 ^ (n % 64) : Nat) : Int) := by simp
  have hle : X / 2 ^ (n % 64) ≤ X := Nat.div_le_self _ _
  have e2 := u64_and_nat (X / 2 ^ (n % 64)) 1 (by omega) (by omega)
  rw [e, e1, Int.toNat_natCast]
  rw [show ((1 : Int)) = ((1 : Nat) : Int) from rfl, e2, Nat.and_one_is_mod, Nat.testBit_eq_decide_div_mod_eq]
  rw [Bool.eq_iff_iff]
  simp only [beq_iff_eq, decide_eq_true_eq, Int.ofNat_inj]
theorem has0 (a b c d x : Int) (h0 : 0 ≤ x) (h1 : x < 256) (hq : x / 64 = 0) (w : World) :
    Calls Tryz.prog 108 #[.agg #[.int .u64 a, .int .u64 b, .int .u64 c, .int .u64 d], .int .u8 x] w fun e w' => e = .returned (.bool (bits .and .u64 (a / 2 ^ (x % 64).toNat) 1 == 1)) ∧ Below w.heap.size w w' := by
  go_enter Tryz.func108, Tryz.ntmps108
  go_wp2
  go_ret
  exact ⟨rfl, (Below.refl _ _).alloc (Nat.le_refl _) _⟩
theorem has1 (a b c d x : Int) (h0 : 0 ≤ x) (h1 : x < 256) (hq : x / 64 = 1) (w : World) :
    Calls Tryz.prog 108 #[.agg #[.int .u64 a, .int .u64 b, .int .u64 c, .int .u64 d], .int .u8 x] w fun e w' => e = .returned (.bool (bits .and .u64 (b / 2 ^ (x % 64).toNat) 1 == 1)) ∧ Below w.heap.size w w' := by
  go_enter Tryz.func108, Tryz.ntmps108
  go_wp2
  go_ret
  exact ⟨rfl, (Below.refl _ _).alloc (Nat.le_refl _) _⟩
theorem has2 (a b c d x : Int) (h0 : 0 ≤ x) (h1 : x < 256) (hq : x / 64 = 2) (w : World) :
    Calls Tryz.prog 108 #[.agg #[.int .u64 a, .int .u64 b, .int .u64 c, .int .u64 d], .int .u8 x] w fun e w' => e = .returned (.bool (bits .and .u64 (c / 2 ^ (x % 64).toNat) 1 == 1)) ∧ Below w.heap.size w w' := by
  go_enter Tryz.func108, Tryz.ntmps108
  go_wp2
  go_ret
  exact ⟨rfl, (Below.refl _ _).alloc (Nat.le_refl _) _⟩
theorem has3 (a b c d x : Int) (h0 : 0 ≤ x) (h1 : x < 256) (hq : x / 64 = 3) (w : World) :
    Calls Tryz.prog 108 #[.agg #[.int .u64 a, .int .u64 b, .int .u64 c, .int .u64 d], .int .u8 x] w fun e w' => e = .returned (.bool (bits .and .u64 (d / 2 ^ (x % 64).toNat) 1 == 1)) ∧ Below w.heap.size w w' := by
  go_enter Tryz.func108, Tryz.ntmps108
  go_wp2
  go_ret
  exact ⟨rfl, (Below.refl _ _).alloc (Nat.le_refl _) _⟩
theorem has_any (p : Nat → Bool) (x : Int) (h0 : 0 ≤ x) (h1 : x < 256) (w : World) :
    Calls Tryz.prog 108 #[.agg #[.int .u64 (wd p 0 : Nat), .int .u64 (wd p 1 : Nat), .int .u64 (wd p 2 : Nat), .int .u64 (wd p 3 : Nat)], .int .u8 x] w fun e w' => e = .returned (.bool (p x.toNat)) ∧ Below w.heap.size w w' := by
  have hq : x / 64 = 0 ∨ x / 64 = 1 ∨ x / 64 = 2 ∨ x / 64 = 3 := by omega
  rcases hq with hq | hq | hq | hq
  · have hb : p x.toNat = (wd p 0).testBit (x.toNat % 64) := by rw [xca p 0 _ (by omega), show 64 * 0 + x.toNat % 64 = x.toNat by omega]
    rw [hb, ← and_bit (wd p 0) (xea p 0) x h0]
    exact has0 _ _ _ _ x h0 h1 hq w
  · have hb : p x.toNat = (wd p 1).testBit (x.toNat % 64) := by rw [xca p 1 _ (by omega), show 64 * 1 + x.toNat % 64 = x.toNat by omega]
    rw [hb, ← and_bit (wd p 1) (xea p 1) x h0]
    exact has1 _ _ _ _ x h0 h1 hq w
  · have hb : p x.toNat = (wd p 2).testBit (x.toNat % 64) := by rw [xca p 2 _ (by omega), show 64 * 2 + x.toNat % 64 = x.toNat by omega]
    rw [hb, ← and_bit (wd p 2) (xea p 2) x h0]
    exact has2 _ _ _ _ x h0 h1 hq w
  · have hb : p x.toNat = (wd p 3).testBit (x.toNat % 64) := by rw [xca p 3 _ (by omega), show 64 * 3 + x.toNat % 64 = x.toNat by omega]
    rw [hb, ← and_bit (wd p 3) (xea p 3) x h0]
    exact has3 _ _ _ _ x h0 h1 hq w
structure Fs (sb : Nat) (W W' : World) : Prop where
 os : W'.os = W.os
 tape : W'.tape = W.tape
 output : W'.output = W.output
 size : W.heap.size ≤ W'.heap.size
 same : ∀ k, k < W.heap.size → k ≠ sb → W'.heap[k]? = W.heap[k]?
theorem Fs.refl (sb : Nat) (W : World) : Fs sb W W := ⟨rfl, rfl, rfl, Nat.le_refl _, fun _ _ _ => rfl⟩
theorem Fs.trans {sb : Nat} {X Y Z : World} (h : Fs sb X Y) (k : Fs sb Y Z) : Fs sb X Z := ⟨k.os.trans h.os, k.tape.trans h.tape, k.output.trans h.output, Nat.le_trans h.size k.size, fun i h1 h2 => (k.same i (Nat.lt_of_lt_of_le h1 h.size) h2).trans (h.same i h1 h2)⟩
theorem Fs.of {sb : Nat} {X Y : World} (h : Below X.heap.size X Y) : Fs sb X Y := ⟨h.os, h.tape, h.output, h.size, fun k hk _ => h.block k hk⟩
theorem Fs.below {sb B : Nat} {X Y : World} (h : Fs sb X Y) (hB : B ≤ sb) (hX : B ≤ X.heap.size) : Below B X Y := { os := h.os, tape := h.tape, output := h.output, size := h.size, block := fun k hk => h.same k (by omega) (by omega) }
theorem Fs.set {sb : Nat} {X Y : World} (h : Fs sb X Y) (o : Nat) (v : Value) : Fs sb X (Y.setCell ⟨sb, o, none⟩ v) := ⟨h.os, h.tape, h.output, by simpa using h.size, fun k h1 h2 => (Below.heap_setCell Y ⟨sb, o, none⟩ v k h2).trans (h.same k h1 h2)⟩
theorem Fs.drew {sb : Nat} {X Y : World} (h : Fs sb X Y) : Fs sb X Y.drew := ⟨h.os, h.tape, h.output, h.size, h.same⟩
theorem Fs.grown {sb : Nat} {X Y Z : World} {row : Option Nat} (h : Fs sb X Y) (g : Y.grownBy Z row) (hr : ∀ r, row = some r → X.heap.size ≤ r) : Fs sb X Z := ⟨g.os.trans h.os, g.tape.trans h.tape, g.output.trans h.output, Nat.le_trans h.size g.size, fun k h1 h2 => (g.block k (Nat.lt_of_lt_of_le h1 h.size) (fun e => by have := hr k e.symm; omega)).trans (h.same k h1 h2)⟩
def hz (h : Nat) : Int := IntKind.i64.wrap (h : Int)
theorem hz_next (h : Nat) : IntKind.i64.wrap (hz h + 1) = hz (h + 1) := by
 unfold hz; simp only [IntKind.wrap_i64]; omega
def SrAt (W : World) (sb : Nat) (s : ByteArray) (h : Nat) (tv sv : Value) : Prop := W.heap[sb]? = some (.cells #[.string s, .int .i64 (hz h), tv, sv] 132)
theorem SrAt.lt {W : World} {sb : Nat} {s : ByteArray} {h : Nat} {tv sv : Value} (k : SrAt W sb s h tv sv) : sb < W.heap.size := (Array.getElem?_eq_some_iff.1 k).1
theorem SrAt.cells {W : World} {sb : Nat} {s : ByteArray} {h : Nat} {tv sv : Value} (k : SrAt W sb s h tv sv) : W.cell? ⟨sb, 0, none⟩ = some (.string s) ∧ W.cell? ⟨sb, 1, none⟩ = some (.int .i64 (hz h)) ∧ W.cell? ⟨sb, 2, none⟩ = some tv ∧ W.cell? ⟨sb, 3, none⟩ = some sv ∧ W.frozen? ⟨sb, 1, none⟩ = false ∧ W.frozen? ⟨sb, 2, none⟩ = false := by
 have k : W.heap[sb]? = _ := k
 simp [World.cell?, World.frozen?, k]
theorem sr_held {W : World} {sb : Nat} {s : ByteArray} {z : Int} {tv sv : Value} (k : W.heap[sb]? = some (.cells #[.string s, .int .i64 z, tv, sv] 132)) (z' : Int) : (W.setCell ⟨sb, 1, none⟩ (.int .i64 z')).heap[sb]? = some (.cells #[.string s, .int .i64 z', tv, sv] 132) :=
 setCells_at sb 132 (0, 0) [.int .i64 z'] [.string s] [.int .i64 z] [tv, sv] W 1 k rfl rfl
theorem SrAt.held {W : World} {sb : Nat} {s : ByteArray} {h : Nat} {tv sv : Value} (k : SrAt W sb s h tv sv) (h' : Nat) : SrAt (W.setCell ⟨sb, 1, none⟩ (.int .i64 (hz h'))) sb s h' tv sv := sr_held k (hz h')
theorem row_takes {W : World} {v : Value} {ns : List (Nat → Bool)} (h : W.ownsRow 0 95 4 v ns.length (tkV ns)) {x : Nat} {y : Nat → Bool} (hy : ns[x]? = some y) : ∃ g cap, v = .slice (some ⟨g, 0, none⟩) ns.length cap ∧ g < W.heap.size ∧ (W.cell? ⟨g, x * 4, none⟩ = some (.int .u64 (wd y 0 : Nat)) ∧ W.cell? ⟨g, x * 4 + 1, none⟩ = some (.int .u64 (wd y 1 : Nat)) ∧ W.cell? ⟨g, x * 4 + 2, none⟩ = some (.int .u64 (wd y 2 : Nat)) ∧ W.cell? ⟨g, x * 4 + 3, none⟩ = some (.int .u64 (wd y 3 : Nat))) := by
 have hx := (List.getElem?_eq_some_iff.1 hy).1
 have h0 := h
 rcases h.2 with ⟨_, e⟩ | ⟨g, cap, cur, rfl, _, hh, _⟩
 · omega
 · exact ⟨g, cap, rfl, (Array.getElem?_eq_some_iff.1 hh).1, (owns_cell h0 _ _ (tkV_get hy 0 (by omega))).1, (owns_cell h0 _ _ (tkV_get hy 1 (by omega))).1, (owns_cell h0 _ _ (tkV_get hy 2 (by omega))).1, (owns_cell h0 _ _ (tkV_get hy 3 (by omega))).1⟩
def bl (s : ByteArray) : List Nat := s.data.toList.map UInt8.toNat
theorem bl_len (s : ByteArray) : (bl s).length = s.size := by rw [bl, List.length_map]; rfl
theorem bl_at (s : ByteArray) (i : Nat) (h : i < s.size) : (bl s).getD i 0 = s[i].toNat := by
 have e : s.data.toList[i]? = some s[i] := by rw [Array.getElem?_toList, Array.getElem?_eq_getElem h]; rfl
 rw [List.getD_eq_getElem?_getD, bl, List.getElem?_map, e]; rfl
theorem takes_any {S : Nat → Prop} {sb b h x pl : Nat} {p : Pt} {s : ByteArray} {tv sv : Value} {y : Nat → Bool} (w : World) (hs : SrAt w sb s h tv sv) (hp : PtAt w S b p) (hsb : ¬ S sb) (hy : p.takes[x]? = some y) (hpl : pl < s.size) : Calls Tryz.prog 96 #[.pointer (some ⟨sb, 0, none⟩), .pointer (some ⟨b, 0, none⟩), .int .i64 (x : Nat), .int .i64 (pl : Nat)] w fun e w' => e = .returned (.bool (y ((bl s).getD pl 0))) ∧ SrAt w' sb s (h + 1) tv sv ∧ Fs sb w w' := by
 obtain ⟨b, p, vl, vt, vn, cs, hSb, blk, -, -, ot, -, -, st, -, -⟩ := hp
 obtain ⟨g, cap, rfl, hglt, n0, n1, n2, n3⟩ := row_takes ot hy
 obtain ⟨cb, -, -⟩ := pt_cell blk
 obtain ⟨q0, q1, -, -, fz, -⟩ := hs.cells
 have nb : b ≠ sb := fun e => hsb (e ▸ hSb)
 have ng : g ≠ sb := fun e => hsb (e ▸ st g rfl)
 have hX := hs.held (h + 1)
 have hF := (Fs.refl sb w).set 1 (.int .i64 (hz (h + 1)))
 have hn := hz_next h
 have hxl := (List.getElem?_eq_some_iff.1 hy).1
 have i1 : (x : Int) < (p.takes.length : Int) := by omega
 have i2 : (0 : Int) ≤ (x : Int) := by omega
 have i3 : (pl : Int) < (s.size : Int) := by omega
 have i4 : (0 : Int) ≤ (pl : Int) := by omega
 have HB := hideT (And.intro (bl_at s pl hpl) (And.intro hX hF))
 have HH := hideT (fun W => has_any y (s[pl].toNat : Nat) (by omega) (by have := s[pl].toNat_lt; omega) W)
 have k0 : ∀ a : Addr, a.block ≠ sb → (w.setCell ⟨sb, 1, none⟩ (.int .i64 (hz (h + 1)))).cell? a = w.cell? a := fun a ha => World.cell?_of_block (Below.heap_setCell w ⟨sb, 1, none⟩ _ a.block ha)
 have s0 : (w.setCell ⟨sb, 1, none⟩ (.int .i64 (hz (h + 1)))).cell? ⟨sb, 0, none⟩ = some (.string s) := hX.cells.1
 have s1 := (k0 ⟨b, 41, none⟩ nb).trans cb
 have s2 := (k0 ⟨g, x * 4, none⟩ ng).trans n0
 have s3 := (k0 ⟨g, x * 4 + 1, none⟩ ng).trans n1
 have s4 := (k0 ⟨g, x * 4 + 2, none⟩ ng).trans n2
 have s5 := (k0 ⟨g, x * 4 + 3, none⟩ ng).trans n3
 clear hX hF k0 blk ot hs hy cb n0 n1 n2 n3 st
 generalize hz h = z at *
 generalize hz (h + 1) = z' at *
 go_enter Tryz.func96, Tryz.ntmps96
 go_wp2_with fail
 rename_i K1 hK1
 generalize w.setCell ⟨sb, 1, none⟩ (.int .i64 z') = X at *
 have hS0 : (fun V : World => V.cell? ⟨sb, 0, none⟩ = some (.string s) ∧ V.cell? ⟨b, 41, none⟩ = some (.slice (some ⟨g, 0, none⟩) p.takes.length cap) ∧ V.cell? ⟨g, x * 4, none⟩ = some (.int .u64 (wd y 0 : Nat)) ∧ V.cell? ⟨g, x * 4 + 1, none⟩ = some (.int .u64 (wd y 1 : Nat)) ∧ V.cell? ⟨g, x * 4 + 2, none⟩ = some (.int .u64 (wd y 2 : Nat)) ∧ V.cell? ⟨g, x * 4 + 3, none⟩ = some (.int .u64 (wd y 3 : Nat))) X.drew := ⟨s0, s1, s2, s3, s4, s5⟩
 clear s0 s1 s2 s3 s4 s5 q0 q1 fz hn
 refine wp_region_held (S := fun V : World => V.cell? ⟨sb, 0, none⟩ = some (.string s) ∧ V.cell? ⟨b, 41, none⟩ = some (.slice (some ⟨g, 0, none⟩) p.takes.length cap) ∧ V.cell? ⟨g, x * 4, none⟩ = some (.int .u64 (wd y 0 : Nat)) ∧ V.cell? ⟨g, x * 4 + 1, none⟩ = some (.int .u64 (wd y 1 : Nat)) ∧ V.cell? ⟨g, x * 4 + 2, none⟩ = some (.int .u64 (wd y 2 : Nat)) ∧ V.cell? ⟨g, x * 4 + 3, none⟩ = some (.int .u64 (wd y 3 : Nat))) (by kernel_rfl) ?_
 refine tq 0 16 hS0 ?_
 refine tq 1 17 hS0 ?_
 refine tq 2 18 hS0 ?_
 refine tq 3 19 hS0 ?_
 refine tq 4 20 hS0 ?_
 refine tq 5 21 hS0 ?_
 refine tq 6 22 hS0 ?_
 refine tq 7 23 hS0 ?_
 refine tq 8 24 hS0 ?_
 refine tq 9 25 hS0 ?_
 refine tq 10 26 hS0 ?_
 refine tq 11 27 hS0 ?_
 refine tq 12 28 hS0 ?_
 simp only [Act.put, List.setIfInBounds_toArray, List.set_cons_zero, List.set_cons_succ]
 refine wpAnyH_all (rs := [13]) (by kernel_rfl) (by simp) (fun i hi => ?_)
 obtain rfl : i = 13 := List.mem_singleton.1 hi
 refine op_call (R := fun v w1 => v = .bool (y (s[pl].toNat)) ∧ Below X.heap.size X w1) (f := 108) (some 29) rfl rfl (by rfl) (by go_simp; (try with_reducible rfl)) ((HH.out _).mono ?_) ?_
 · rintro e w1 ⟨rfl, hb0⟩
   exact ⟨_, rfl, by rw [Int.toNat_natCast], ((Below.refl X.heap.size X).drew).trans hb0⟩
 rintro v w1 ⟨rfl, hb1⟩
 obtain ⟨s0, s1, s2, s3, s4, s5⟩ := hS0
 have hS1 : (fun V : World => V.cell? ⟨sb, 0, none⟩ = some (.string s) ∧ V.cell? ⟨b, 41, none⟩ = some (.slice (some ⟨g, 0, none⟩) p.takes.length cap) ∧ V.cell? ⟨g, x * 4, none⟩ = some (.int .u64 (wd y 0 : Nat)) ∧ V.cell? ⟨g, x * 4 + 1, none⟩ = some (.int .u64 (wd y 1 : Nat)) ∧ V.cell? ⟨g, x * 4 + 2, none⟩ = some (.int .u64 (wd y 2 : Nat)) ∧ V.cell? ⟨g, x * 4 + 3, none⟩ = some (.int .u64 (wd y 3 : Nat))) w1 := ⟨keep_cell hb1 s0, keep_cell hb1 s1, keep_cell hb1 s2, keep_cell hb1 s3, keep_cell hb1 s4, keep_cell hb1 s5⟩
 refine ⟨hS1, ?_⟩
 refine tq 14 8 hS1 ?_
 refine wpAnyH_done (by kernel_rfl) ?_ _
 refine hK1 _ _ ?_
 simp only [Act.put, List.setIfInBounds_toArray, List.set_cons_zero, List.set_cons_succ]
 go_wp2_with fail
 go_ret
 have hlt := HB.out.2.1.lt
 have hbl := HB.out.1
 rw [List.getD_eq_getElem?_getD] at hbl
 exact ⟨by rw [hbl]; rfl, (hb1.block _ hlt).trans HB.out.2.1, HB.out.2.2.trans (Fs.of hb1)⟩
end Go.Proofs.YtbekghinikjjeaaGreatDoor.smt
namespace Go.Proofs.YtbekghinikjjeaaGreatDoor.smt
open Go.RowKit Go.Shelf Go.Proofs.YtbekghinikjjeaaGreatDoor.br
attribute [local go_sem] Oper.semAt_some
theorem Tab.ne {W : World} {sb h : Nat} {s : ByteArray} {tv sv : Value} (hT : Tab W) (hs : SrAt W sb s h tv sv) : sb ≠ 0 := fun e => by
 subst e
 have h1 := hs.cells.1
 rw [hT 0 (by omega)] at h1
 cases h1
theorem Ps4.added {W : World} {b n k : Nat} (h : Ps4 W b n) (hk : k < 256) : Ps4 (W.setCell ⟨b, 0 + k / 64, none⟩ (.int .u64 (wd (Nat.testBit (n ||| 1 <<< k)) (k / 64) : Nat))) b (n ||| 1 <<< k) := by
 have o : ∀ i, k / 64 ≠ i → wd (Nat.testBit (n ||| 1 <<< k)) i = wd (Nat.testBit n) i := fun i hi => by rw [← add_bits, xat _ _ _ hi]
 have hq : k / 64 = 0 ∨ k / 64 = 1 ∨ k / 64 = 2 ∨ k / 64 = 3 := by omega
 unfold Ps4
 rcases hq with hq | hq | hq | hq <;> rw [hq]
 · rw [o 1 (by omega), o 2 (by omega), o 3 (by omega)]
   exact setCells_at b 157 (0, 0) [_] [] [.int .u64 (wd (Nat.testBit n) 0 : Nat)] [.int .u64 (wd (Nat.testBit n) 1 : Nat), .int .u64 (wd (Nat.testBit n) 2 : Nat), .int .u64 (wd (Nat.testBit n) 3 : Nat)] W 0 h rfl rfl
 · rw [o 0 (by omega), o 2 (by omega), o 3 (by omega)]
   exact setCells_at b 157 (0, 0) [_] [.int .u64 (wd (Nat.testBit n) 0 : Nat)] [.int .u64 (wd (Nat.testBit n) 1 : Nat)] [.int .u64 (wd (Nat.testBit n) 2 : Nat), .int .u64 (wd (Nat.testBit n) 3 : Nat)] W 1 h rfl rfl
 · rw [o 0 (by omega), o 1 (by omega), o 3 (by omega)]
   exact setCells_at b 157 (0, 0) [_] [.int .u64 (wd (Nat.testBit n) 0 : Nat), .int .u64 (wd (Nat.testBit n) 1 : Nat)] [.int .u64 (wd (Nat.testBit n) 2 : Nat)] [.int .u64 (wd (Nat.testBit n) 3 : Nat)] W 2 h rfl rfl
 · rw [o 0 (by omega), o 1 (by omega), o 2 (by omega)]
   exact setCells_at b 157 (0, 0) [_] [.int .u64 (wd (Nat.testBit n) 0 : Nat), .int .u64 (wd (Nat.testBit n) 1 : Nat), .int .u64 (wd (Nat.testBit n) 2 : Nat)] [.int .u64 (wd (Nat.testBit n) 3 : Nat)] [] W 3 h rfl rfl
theorem add_ps {b n k : Nat} (hk : k < 256) (w : World) (h : Ps4 w b n) : Calls Tryz.prog 61 #[.pointer (some ⟨b, 0, none⟩), .int .i64 (k : Nat)] w fun e w' => (∃ v, e = .returned v) ∧ Ps4 w' b (n ||| 1 <<< k) ∧ Fs b w w' := by
 have hq : k / 64 = 0 ∨ k / 64 = 1 ∨ k / 64 = 2 ∨ k / 64 = 3 := by omega
 obtain ⟨⟨c0, c1, c2, c3⟩, f0, f1, f2, f3⟩ := h.cells
 have c : w.cell? ⟨b, 0 + k / 64, none⟩ = some (.int .u64 (wd (Nat.testBit n) (k / 64) : Nat)) ∧ w.frozen? ⟨b, 0 + k / 64, none⟩ = false := by
  rcases hq with hq | hq | hq | hq <;> rw [hq] <;> constructor <;> assumption
 refine (add_any hk w c.1 c.2).mono ?_
 rintro e w' ⟨he, m, rfl⟩
 refine ⟨he, Ps4.added (W := w.drewN m) h hk, ?_⟩
 exact Fs.set (X := w) (Y := w.drewN m) ⟨rfl, rfl, rfl, Nat.le_refl _, fun _ _ _ => rfl⟩ _ _
def tkF (p : Pt) (c : Nat) (a i : Nat) : Nat := bif (p.takes.getD i (fun _ => false)) c then a ||| 1 <<< i else a
def TkI (w : World) (sb b pl : Nat) (p : Pt) (s : ByteArray) (tv sv : Value) (tot ht : Nat) (l : List Nat) (W : World) : Prop :=
 ∃ acc h, l.foldl (tkF p ((bl s).getD pl 0)) acc = tot ∧ h + l.length = ht ∧ (∀ x ∈ l, x < p.takes.length ∧ x < 256) ∧ SrAt W sb s h tv sv ∧ Bx W w.heap.size 225 (.pointer (some ⟨sb, 0, none⟩)) ∧ Bx W (w.heap.size + 1) 125 (.pointer (some ⟨b, 0, none⟩)) ∧ Bx W (w.heap.size + 1 + 1 + 1) 3 (.int .i64 (pl : Nat)) ∧ Ps4 W (w.heap.size + 1 + 1 + 1 + 1) 0 ∧ Ps4 W (w.heap.size + 1 + 1 + 1 + 1 + 1) acc ∧ Fs sb w W ∧ w.heap.size + 7 ≤ W.heap.size
theorem tkI_own (w : World) (sb b pl : Nat) (p : Pt) (s : ByteArray) (tv sv : Value) (tot ht n : Nat) (hn : w.heap.size ≤ n) : OwnFrom n (TkI w sb b pl p s tv sv tot ht) := by
 rintro l W W' row ⟨a, h, h1, h2, h3, h4, h5, h6, h7, h8, h9, h10, h11⟩ hg hr
 exact ⟨a, h, h1, h2, h3, cells_turn hg hr h4 rfl, cells_turn hg hr h5 rfl, cells_turn hg hr h6 rfl, cells_turn hg hr h7 rfl, cells_turn hg hr h8 rfl, cells_turn hg hr h9 rfl, h10.grown hg (fun k e => Nat.le_trans hn (hr k e).1), Nat.le_trans h11 hg.size⟩
theorem takers_any {S : Nat → Prop} {sb b h wt pl : Nat} {p : Pt} {s : ByteArray} {tv sv : Value} (w : World) (hs : SrAt w sb s h tv sv) (hp : PtAt w S b p) (hSw : ∀ g, S g → g < w.heap.size ∧ g ≠ sb) (hT : Tab w) (hin : ∀ x ∈ mem 256 wt, x < p.takes.length) (hpl : pl < s.size) : Calls Tryz.prog 69 #[.pointer (some ⟨sb, 0, none⟩), .pointer (some ⟨b, 0, none⟩), .agg #[.int .u64 (wd (Nat.testBit wt) 0 : Nat), .int .u64 (wd (Nat.testBit wt) 1 : Nat), .int .u64 (wd (Nat.testBit wt) 2 : Nat), .int .u64 (wd (Nat.testBit wt) 3 : Nat)], .int .i64 (pl : Nat)] w fun e w' => e = .returned (.agg #[.int .u64 (wd (Nat.testBit (takers p (bl s) wt pl)) 0 : Nat), .int .u64 (wd (Nat.testBit (takers p (bl s) wt pl)) 1 : Nat), .int .u64 (wd (Nat.testBit (takers p (bl s) wt pl)) 2 : Nat), .int .u64 (wd (Nat.testBit (takers p (bl s) wt pl)) 3 : Nat)]) ∧ SrAt w' sb s (h + cnt wt) tv sv ∧ Fs sb w w' := by
 have hsb0 := hT.ne hs
 have hslt := hs.lt
 obtain ⟨tot, htot⟩ : ∃ tot, takers p (bl s) wt pl = tot := ⟨_, rfl⟩
 obtain ⟨ht, hht⟩ : ∃ ht, h + cnt wt = ht := ⟨_, rfl⟩
 rw [htot, hht]
 refine (callsIn_wide (n := 5)).1 ?_
 refine callsIn_of_wp_marks Tryz.func69 rfl trivial ?_ rfl
 simp only [Tryz.ntmps69, List.size_toArray, List.length_cons, List.length_nil, Nat.reduceAdd, Nat.reduceSub, Array.replicate_succ, Array.replicate_zero, List.push_toArray, List.append_toArray, List.nil_append, List.cons_append]
 gi_wp2_with (refine ⟨trivial, ?_⟩; gi_at_call 92; refine (all_in _ _ _).mono ?_; rintro e w' ⟨rfl, rfl⟩)
 obtain ⟨W0, hW0⟩ : ∃ W0, W0 = (((((((w.alloc (.cells #[.pointer (some ⟨sb, 0, none⟩)] 225)).alloc (.cells #[.pointer (some ⟨b, 0, none⟩)] 125)).alloc (.cells #[.int .u64 (wd (Nat.testBit wt) 0 : Nat), .int .u64 (wd (Nat.testBit wt) 1 : Nat), .int .u64 (wd (Nat.testBit wt) 2 : Nat), .int .u64 (wd (Nat.testBit wt) 3 : Nat)] 157)).alloc (.cells #[.int .i64 (pl : Nat)] 3)).alloc (.cells #[.int .u64 0, .int .u64 0, .int .u64 0, .int .u64 0] 157)).alloc (.cells #[.int .u64 0, .int .u64 0, .int .u64 0, .int .u64 0] 157)).alloc (.cells #[.int .u64 (wd (Nat.testBit wt) 0 : Nat), .int .u64 (wd (Nat.testBit wt) 1 : Nat), .int .u64 (wd (Nat.testBit wt) 2 : Nat), .int .u64 (wd (Nat.testBit wt) 3 : Nat)] 157)) := ⟨_, rfl⟩
 rw [← hW0]
 have hB0 : Below w.heap.size w W0 := by
  rw [hW0]; exact (((((((Below.refl _ w).alloc (Nat.le_refl _) _).alloc (by simp only [World.size_alloc]; omega) _).alloc (by simp only [World.size_alloc]; omega) _).alloc (by simp only [World.size_alloc]; omega) _).alloc (by simp only [World.size_alloc]; omega) _).alloc (by simp only [World.size_alloc]; omega) _).alloc (by simp only [World.size_alloc]; omega) _
 have hsz0 : W0.heap.size = w.heap.size + 7 := by rw [hW0]; simp only [World.size_alloc]
 have nw := fun (W : World) (ob : Obj) (H : Nat) (hH : W.heap.size = H) => (show (W.alloc ob).heap[H]? = some ob from hH ▸ World.alloc_heap_new W ob)
 have ho : ∀ (W : World) (ob : Obj) (k : Nat), k < W.heap.size → (W.alloc ob).heap[k]? = W.heap[k]? := fun W ob k hk => Below.heap_alloc W ob k hk
 have x0 : Bx W0 w.heap.size 225 (.pointer (some ⟨sb, 0, none⟩)) := by
  show W0.heap[_]? = _
  rw [hW0, ho _ _ _ (by simp only [World.size_alloc]; omega), ho _ _ _ (by simp only [World.size_alloc]; omega), ho _ _ _ (by simp only [World.size_alloc]; omega), ho _ _ _ (by simp only [World.size_alloc]; omega), ho _ _ _ (by simp only [World.size_alloc]; omega), ho _ _ _ (by simp only [World.size_alloc]; omega)]
  exact World.alloc_heap_new w _
 have x1 : Bx W0 (w.heap.size + 1) 125 (.pointer (some ⟨b, 0, none⟩)) := by
  show W0.heap[_]? = _
  rw [hW0, ho _ _ _ (by simp only [World.size_alloc]; omega), ho _ _ _ (by simp only [World.size_alloc]; omega), ho _ _ _ (by simp only [World.size_alloc]; omega), ho _ _ _ (by simp only [World.size_alloc]; omega), ho _ _ _ (by simp only [World.size_alloc]; omega)]
  exact nw _ _ _ (by simp only [World.size_alloc])
 have x3 : Bx W0 (w.heap.size + 1 + 1 + 1) 3 (.int .i64 (pl : Nat)) := by
  show W0.heap[_]? = _
  rw [hW0, ho _ _ _ (by simp only [World.size_alloc]; omega), ho _ _ _ (by simp only [World.size_alloc]; omega), ho _ _ _ (by simp only [World.size_alloc]; omega)]
  exact nw _ _ _ (by simp only [World.size_alloc])
 have x4 : Ps4 W0 (w.heap.size + 1 + 1 + 1 + 1) 0 := by
  show W0.heap[_]? = _
  rw [hW0, ho _ _ _ (by simp only [World.size_alloc]; omega), ho _ _ _ (by simp only [World.size_alloc]; omega), zero4]
  exact nw _ _ _ (by simp only [World.size_alloc])
 have x5 : Ps4 W0 (w.heap.size + 1 + 1 + 1 + 1 + 1) 0 := by
  show W0.heap[_]? = _
  rw [hW0, ho _ _ _ (by simp only [World.size_alloc]; omega), zero4]
  exact nw _ _ _ (by simp only [World.size_alloc])
 have x6 : Ps4 W0 (w.heap.size + 1 + 1 + 1 + 1 + 1 + 1) wt := by
  show W0.heap[_]? = _
  rw [hW0]; exact nw _ _ _ (by simp only [World.size_alloc])
 have hI0 : TkI w sb b pl p s tv sv tot ht (mr (Nat.testBit wt) 0) W0 := ⟨0, h, by rw [← mem_mr, ← htot]; rfl, by rw [← mem_mr, ← hht]; rfl, fun x hx => ⟨hin x (by rw [mem_mr]; exact hx), (mr_lt hx).1⟩, (hB0.block _ hslt).trans hs, x0, x1, x3, x4, x5, Fs.of hB0, by omega⟩
 have hT0 := hT.below hB0 hT.pos
 have hpos := hT.pos
 clear hW0 nw ho x0 x1 x3 x4 x5 htot hht hs hin
 refine range_feed (by omega) (gf := 121) (lb := #[.pointer (some ⟨w.heap.size + 1 + 1 + 1 + 1 + 1 + 1, 0, none⟩)]) rfl (enters_of Tryz.func121 (by kernel_rfl) rfl)
  (all_feed 4 (by omega) wt _ W0 hT0 x6) (fun _ => rfl) kp0_t (kp0_put (by omega)) (TkI w sb b pl p s tv sv tot ht) (fun _ _ => False) (tkI_own _ _ _ _ _ _ _ _ _ _ _ (by omega)) (fun s W W' row h hg hr => h) hI0 (fun l a' _ => ∃ u14 u15 u16 u17 u18 u19 u20, a' = { tmps := #[.pointer (some ⟨sb, 0, none⟩), .pointer (some ⟨b, 0, none⟩), .agg #[.int .u64 (wd (Nat.testBit wt) 0 : Nat), .int .u64 (wd (Nat.testBit wt) 1 : Nat), .int .u64 (wd (Nat.testBit wt) 2 : Nat), .int .u64 (wd (Nat.testBit wt) 3 : Nat)], .int .i64 (pl : Nat), .pointer (some ⟨w.heap.size, 0, none⟩), .pointer (some ⟨w.heap.size + 1, 0, none⟩), .pointer (some ⟨w.heap.size + 1 + 1, 0, none⟩), .pointer (some ⟨w.heap.size + 1 + 1 + 1, 0, none⟩), .pointer (some ⟨w.heap.size + 1 + 1 + 1 + 1, 0, none⟩), .pointer (some ⟨w.heap.size + 1 + 1 + 1 + 1 + 1, 0, none⟩), .int .i64 (l.headD 0 : Nat), .agg #[.int .u64 (wd (Nat.testBit wt) 0 : Nat), .int .u64 (wd (Nat.testBit wt) 1 : Nat), .int .u64 (wd (Nat.testBit wt) 2 : Nat), .int .u64 (wd (Nat.testBit wt) 3 : Nat)], .func (.func 121) #[] #[.pointer (some ⟨w.heap.size + 1 + 1 + 1 + 1 + 1 + 1, 0, none⟩)], .int .i64 (l.headD 0 : Nat), u14, u15, u16, u17, u18, u19, u20, undef], defers := [] }) (fun s a' x W W' row h hg hr => h) ?assign ?body ?done ?stop
 case assign =>
  intro lo l W K hgo hI hK
  obtain ⟨x, l', rfl⟩ : ∃ x l', l = x :: l' := List.exists_cons_of_ne_nil hgo
  simp only [List.headD_cons] at hK ⊢
  gi_wp2
  exact hK _ _ (KeepsFrom.refl _ _) (Kp0.refl _) hI ⟨_, _, _, _, _, _, _, rfl⟩
 case body =>
  rintro lo l a' W hgo hI ⟨u14, u15, u16, u17, u18, u19, u20, rfl⟩
  obtain ⟨x, l', rfl⟩ : ∃ x l', l = x :: l' := List.exists_cons_of_ne_nil hgo
  simp only [List.headD_cons, List.tail_cons]
  obtain ⟨acc, hh, hf, hc, hl, hS, h0, h1, h3, h4, h5, hF, hsz⟩ := hI
  obtain ⟨hxp, hx256⟩ := hl x List.mem_cons_self
  obtain ⟨y, hy⟩ : ∃ y, p.takes[x]? = some y := ⟨p.takes[x], List.getElem?_eq_getElem hxp⟩
  have hpW : PtAt W S b p := hp.keep (fun g hg => hF.same g (hSw g hg).1 (hSw g hg).2) (fun _ h => h)
  have hct := takes_any W hS hpW (fun h => (hSw sb h).2 rfl) hy hpl
  have k0 := h0.cell
  have k1 := h1.cell
  have k3 := h3.cell
  have HQ := hideT (And.intro hf (And.intro hc (And.intro hl (And.intro hS (And.intro h0 (And.intro h1 (And.intro h3 (And.intro h4 (And.intro h5 (And.intro hF hsz))))))))))
  clear hf hc hl hS h0 h1 h3 h4 h5 hF hsz hpW hI0 hB0 x6 hT0
  gi_wp2_with fail
  refine ⟨trivial, ?_⟩
  refine (CallsIn.inRound lo (callsIn_wide.2 hct)).mono ?_
  rintro e W1 ⟨rfl, hS1, hF1⟩
  obtain ⟨hf, hc, hl, hS, h0, h1, h3, h4, h5, hF, hsz⟩ := HQ.out
  have hs1 := hF1.size
  have far1 : ∀ k, w.heap.size ≤ k → k < w.heap.size + 7 → W1.heap[k]? = W.heap[k]? := fun k hk1 hk2 => hF1.same k (by omega) (by omega)
  have g5 : Ps4 W1 (w.heap.size + 1 + 1 + 1 + 1 + 1) acc := (far1 _ (by omega) (by omega)).trans h5
  rw [List.foldl_cons] at hf
  have hya : p.takes.getD x (fun _ => false) = y := by rw [List.getD_eq_getElem?_getD, hy]; rfl
  obtain ⟨v, hv⟩ : ∃ v, y ((bl s).getD pl 0) = v := ⟨_, rfl⟩
  have hlen : hh + 1 + l'.length = ht := by rw [← hc, List.length_cons]; omega
  have HN := hideT (fun (acc' : Nat) (W2 : World) (hfa : l'.foldl (tkF p ((bl s).getD pl 0)) acc' = tot) (g : Ps4 W2 (w.heap.size + 1 + 1 + 1 + 1 + 1) acc') (hF2 : Fs (w.heap.size + 1 + 1 + 1 + 1 + 1) W1 W2) => show KeepsFrom W0.heap.size W W2 ∧ Kp0 W W2 ∧ TkI w sb b pl p s tv sv tot ht l' W2 from by
   have hs2 := hF2.size
   have far : ∀ k, k < W.heap.size → k ≠ sb → k ≠ w.heap.size + 1 + 1 + 1 + 1 + 1 → W2.heap[k]? = W.heap[k]? := fun k a1 a2 a3 => (hF2.same k (by omega) a3).trans (hF1.same k a1 a2)
   refine ⟨⟨by omega, fun k o hk1 hk hoo => (far k (Array.getElem?_eq_some_iff.1 hk).1 (by omega) (by omega)).trans hk⟩, ⟨by omega, far 0 (by omega) (fun e => hsb0 e.symm) (by omega)⟩, acc', hh + 1, hfa, hlen, fun z hz => hl z (List.mem_cons_of_mem _ hz), (hF2.same sb (by omega) (by omega)).trans hS1, (far _ (by omega) (by omega) (by omega)).trans h0, (far _ (by omega) (by omega) (by omega)).trans h1, (far _ (by omega) (by omega) (by omega)).trans h3, (far _ (by omega) (by omega) (by omega)).trans h4, g, ⟨hF2.os.trans (hF1.os.trans hF.os), hF2.tape.trans (hF1.tape.trans hF.tape), hF2.output.trans (hF1.output.trans hF.output), by have := hF.size; omega, fun k a1 a2 => (far k (by have := hF.size; omega) a2 (by omega)).trans (hF.same k a1 a2)⟩, by omega⟩)
  rw [hv]
  have HV := hideT (And.intro hv (And.intro hya hf))
  clear hf hc hl hS h0 h1 h3 h4 h5 hF hsz HQ hct k0 k1 k3 hv hya hlen far1
  cases v with
  | false =>
   have hfa : l'.foldl (tkF p ((bl s).getD pl 0)) acc = tot := by
    have e := HV.out.2.2
    rw [tkF, HV.out.2.1, HV.out.1] at e; exact e
   have HG := hideT (HN.out acc W1 hfa g5 (Fs.refl _ _))
   clear HN HV hfa g5
   gi_wp2
   exact HG.out
  | true =>
   have hfa : l'.foldl (tkF p ((bl s).getD pl 0)) (acc ||| 1 <<< x) = tot := by
    have e := HV.out.2.2
    rw [tkF, HV.out.2.1, HV.out.1] at e; exact e
   have hca := add_ps hx256 W1 g5
   have HG := hideT (HN.out (acc ||| 1 <<< x))
   clear HN HV g5
   gi_wp2_with fail
   refine ⟨trivial, ?_⟩
   refine (CallsIn.inRound lo (callsIn_wide.2 hca)).mono ?_
   rintro e W2 ⟨⟨v, rfl⟩, g, hF2⟩
   have HZ := hideT (HG.out W2 hfa g hF2)
   clear HG hfa g hF2 hca
   gi_wp2
   exact HZ.out
 case done =>
  rintro D l W hD hng ⟨acc, hh, hf, hc, -, hS, h0, h1, h3, hR, hA, hF, hsz⟩ hK
  obtain rfl : l = [] := Classical.byContradiction hng
  obtain rfl : acc = tot := hf
  obtain rfl : hh = ht := hc
  have HQ := hideT (And.intro hF (And.intro hK (And.intro hD hS)))
  have hslW := hS.lt
  clear hF hng hI0 x6 h0 h1 h3 hS
  have hne2 : w.heap.size + 1 + 1 + 1 + 1 ≠ D := by omega
  obtain ⟨⟨c0, c1, c2, c3⟩, -⟩ := hA.cells
  obtain ⟨⟨d0, d1, d2, d3⟩, f0, f1, f2, f3⟩ := hR.cells
  have hD2 : w.heap.size ≤ D := by omega
  have hX := hR.put acc
  have hnesD : sb ≠ D := by omega
  clear hA hK hD hR
  have hKX : (put4at W (w.heap.size + 1 + 1 + 1 + 1) 0 acc).heap[D]? = some (.deferred (some [])) := (put4at_far W _ 0 _ (fun e => hne2 e.symm)).trans HQ.out.2.1
  have hZ : Ps4 ((put4at W (w.heap.size + 1 + 1 + 1 + 1) 0 acc).putObj D (.deferred none)) (w.heap.size + 1 + 1 + 1 + 1) acc := (World.putObj_heap_other hne2).trans hX
  obtain ⟨⟨z0, z1, z2, z3⟩, -⟩ := hZ.cells
  have hBZ : Fs sb w ((put4at W (w.heap.size + 1 + 1 + 1 + 1) 0 acc).putObj D (.deferred none)) := ⟨HQ.out.1.os, HQ.out.1.tape, HQ.out.1.output, by have := HQ.out.1.size; simpa [put4at] using this, fun k a1 a2 => (World.putObj_heap_other (by omega)).trans ((put4at_far W _ 0 _ (by omega)).trans (HQ.out.1.same k a1 a2))⟩
  have hSZ : SrAt ((put4at W (w.heap.size + 1 + 1 + 1 + 1) 0 acc).putObj D (.deferred none)) sb s hh tv sv := (World.putObj_heap_other hnesD).trans ((put4at_far W _ 0 _ (by omega)).trans HQ.out.2.2.2)
  have HX := hideT (And.intro hKX (And.intro hBZ hSZ))
  clear hX hKX hZ hBZ hSZ
  gi_wp2
  refine ⟨by simp, .inl ⟨_, _, rfl, run_takeDeferred HX.out.1, ?_⟩⟩
  exact ⟨.agg #[.int .u64 (wd (Nat.testBit acc) 0 : Nat), .int .u64 (wd (Nat.testBit acc) 1 : Nat), .int .u64 (wd (Nat.testBit acc) 2 : Nat), .int .u64 (wd (Nat.testBit acc) 3 : Nat)], by simp [results, Tryz.results69, go_sem, z0, z1, z2, z3], rfl, HX.out.2.2, HX.out.2.1⟩
 case stop => rintro D l W hD h; exact h.elim
end Go.Proofs.YtbekghinikjjeaaGreatDoor.smt
namespace Go.Proofs.YtbekghinikjjeaaGreatDoor.smt
open Go.RowKit Go.Proofs.YtbekghinikjjeaaGreatDoor.br
theorem pt_c5 {W : World} {b : Nat} {p : Pt} {vl vt vn : Value} (h : W.heap[b]? = some (.cells (ptV p vl vt vn).toArray 164 (0, 0))) : W.cell? ⟨b, 0, none⟩ = some (.int .i64 (p.grp : Nat)) ∧ W.cell? ⟨b, 1, none⟩ = some (.bool p.deep) ∧ W.cell? ⟨b, 2, none⟩ = some vl ∧ W.cell? ⟨b, 3, none⟩ = some (.bool p.again) ∧ W.cell? ⟨b, 4, none⟩ = some (.bool p.closed) := by
 refine ⟨?_, ?_, ?_, ?_, ?_⟩ <;> (simp only [World.cell?, h]; rfl)
theorem row_links {W : World} {v : Value} {ls : List (Pt × Nat × Bool)} {cs : List Nat} (h : W.ownsRow 0 177 3 v ls.length (lkV ls cs)) {x c : Nat} {l : Pt × Nat × Bool} (hl : ls[x]? = some l) (hc : cs[x]? = some c) : ∃ g cap, v = .slice (some ⟨g, 0, none⟩) ls.length cap ∧ g < W.heap.size ∧ (W.cell? ⟨g, x * 3, none⟩ = some (.pointer (some ⟨c, 0, none⟩)) ∧ W.cell? ⟨g, x * 3 + 1, none⟩ = some (.int .i64 (l.2.1 : Nat)) ∧ W.cell? ⟨g, x * 3 + 2, none⟩ = some (.bool l.2.2)) := by
 have hx := (List.getElem?_eq_some_iff.1 hl).1
 have h0 := h
 obtain ⟨k0, k1, k2⟩ := lkV_get hl hc
 rcases h.2 with ⟨_, e⟩ | ⟨g, cap, cur, rfl, _, hh, _⟩
 · omega
 · exact ⟨g, cap, rfl, (Array.getElem?_eq_some_iff.1 hh).1, (owns_cell h0 _ _ k0).1, (owns_cell h0 _ _ k1).1, (owns_cell h0 _ _ k2).1⟩
theorem alone_any {S : Nat → Prop} {b : Nat} {p : Pt} (w : World) (hp : PtAt w S b p) : Calls Tryz.prog 97 #[.pointer (some ⟨b, 0, none⟩)] w fun e w' => e = .returned (.bool (aloneP p)) ∧ w' = w := by
 obtain ⟨b, p, vl, vt, vn, cs, -, blk, hl, ol, -, -, -, -, -, kids⟩ := hp
 obtain ⟨-, -, k2, k3, -⟩ := pt_c5 blk
 by_cases hn : p.links.length = 1
 · obtain ⟨l, hll⟩ := List.length_eq_one_iff.1 hn
   obtain ⟨c, hcc⟩ := List.length_eq_one_iff.1 (hl.trans hn)
   have h1 : p.links[0]? = some l := by rw [hll]; rfl
   have h2 : cs[0]? = some c := by rw [hcc]; rfl
   obtain ⟨g, cap, rfl, -, r0, -, -⟩ := row_links ol h1 h2
   obtain ⟨c, q, vl', vt', vn', cs', -, blk', -, -, -, -, -, -, -, -⟩ := kids 0 l c h1 h2
   obtain ⟨-, -, -, -, q4⟩ := pt_c5 blk'
   have hA : aloneP p = (!p.again || l.1.closed) := by simp [aloneP, hll]
   rw [hA]
   rw [Nat.zero_mul] at r0
   have e1 : ((p.links.length : Int) == 1) = true := by rw [hn]; rfl
   have i1 : (0 : Int) < (p.links.length : Int) := by omega
   clear hA ol hl blk blk' kids h1 h2 hll hcc hn
   generalize p.links.length = n at *
   generalize p.again = ag at *
   generalize l.1.closed = cl at *
   cases ag
   · go_enter Tryz.func97, Tryz.ntmps97
     go_wp2
     go_ret
     exact ⟨rfl, rfl⟩
   · go_enter Tryz.func97, Tryz.ntmps97
     go_wp2
     go_ret
     exact ⟨rfl, rfl⟩
 · have hA : aloneP p = false := by
    unfold aloneP
    match h : p.links with
    | [] => rfl
    | [_] => rw [h] at hn; exact absurd rfl hn
    | _ :: _ :: _ => rfl
   obtain ⟨a, c, rfl⟩ := owns_shape ol
   rw [hA]
   have e1 : ((p.links.length : Int) == 1) = false := by rw [beq_eq_false_iff_ne]; omega
   clear hA ol hl blk kids hn
   generalize p.links.length = n at *
   go_enter Tryz.func97, Tryz.ntmps97
   go_wp2
   go_ret
   exact ⟨rfl, rfl⟩
theorem at_any {B fr te pl i x : Nat} {us : List Nat} {v : Value} (w : World) (ow : w.ownsRow B 157 4 v us.length (nxV us)) (hx : us[i]? = some x) (hpl : pl = fr + i) (hb : pl < 1073741824) : Calls Tryz.prog 124 #[.agg #[.int .i64 (fr : Nat), .int .i64 (te : Nat), v], .int .i64 (pl : Nat)] w fun e w' => e = .returned (.agg #[.int .u64 (wd (Nat.testBit x) 0 : Nat), .int .u64 (wd (Nat.testBit x) 1 : Nat), .int .u64 (wd (Nat.testBit x) 2 : Nat), .int .u64 (wd (Nat.testBit x) 3 : Nat)]) ∧ Below w.heap.size w w' := by
 obtain ⟨g, cap, rfl, -, n0, n1, n2, n3⟩ := row_next (owns_mono ow (Nat.zero_le _)) hx
 have hi := (List.getElem?_eq_some_iff.1 hx).1
 have e1 : IntKind.i64.wrap ((pl : Int) - (fr : Int)) = (i : Int) := by rw [IntKind.wrap_i64]; omega
 have i1 : (i : Int) < (us.length : Int) := by omega
 have i2 : (0 : Int) ≤ (i : Int) := by omega
 have hgl : g < w.heap.size := World.block_lt_of_cell? w _ n0
 clear ow hx hpl
 generalize us.length = n at *
 go_enter Tryz.func124, Tryz.ntmps124
 go_wp2
 exact bodyPost_ret (v := .agg #[.int .u64 (wd (Nat.testBit x) 0 : Nat), .int .u64 (wd (Nat.testBit x) 1 : Nat), .int .u64 (wd (Nat.testBit x) 2 : Nat), .int .u64 (wd (Nat.testBit x) 3 : Nat)]) (by simp [results, Tryz.results124, go_sem]) rfl ⟨rfl, by repeat (first | exact Below.refl _ _ | refine Below.drew ?_ | refine Below.setCell ?_ (by simp; try omega) _ | refine Below.alloc ?_ (by simp; try omega) _)⟩
end Go.Proofs.YtbekghinikjjeaaGreatDoor.smt
