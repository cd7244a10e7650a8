/- KA4 -/
import Derived.Test.YtbekghinikjjeaaGreatDoorKA7
import Derived.Test.YtbekghinikjjeaaGreatDoorKQf
import Derived.Test.YtbekghinikjjeaaGreatDoorKMf
set_option maxRecDepth 100000
set_option maxHeartbeats 4000000
namespace Go.Proofs.YtbekghinikjjeaaGreatDoor.smt
open Go.Proofs.YtbekghinikjjeaaGreatDoor.br
mutual
def LyT (ng : Nat) : Tr → Prop
 | .mk k q lo hi g kids => k ≤ 5 ∧ g < ng ∧ (k = 4 → kids ≠ []) ∧ (k = 2 ∨ k = 3 → kids = []) ∧ (k = 5 → (∃ c, kids = [c]) ∧ 0 ≤ lo ∧ lo ≤ 255 ∧ hi ≤ 255) ∧ kids.length ≤ 1000000 ∧ posT (.mk k q lo hi g kids) ≤ 256 ∧ LyL ng kids
def LyL (ng : Nat) : List Tr → Prop
 | [] => True
 | t :: ts => LyT ng t ∧ LyL ng ts
end
structure LayQ (Q : Nat → Pt → Prop) (QA : Nat → Ac → Prop) : Prop where
 up : ∀ {d e : Nat} {p : Pt}, Q d p → d ≤ e → Q e p
 zero : ∀ (d : Nat) (b : Bool), QA d ⟨b, [], [], []⟩
 add : ∀ {d : Nat} {a : Ac}, OkA a → QA d a → ∀ {kid : Pt}, OkP kid → Q d kid → ∀ free : Bool, QA d (a.add kid free)
 tie : ∀ {d : Nat} {a : Ac}, OkA a → QA d a → ∀ (grp : Nat) (again : Bool), a.takes.length ≤ 256 → Q (d + 1) (tie grp again a)
 leaf : ∀ (b : List Bd) (tk : List (Nat → Bool)) (nx : List Nat), ∃ d, Q d (.mk 0 false [] false false b tk nx)
theorem LayQ.no : LayQ (fun _ _ => True) (fun _ _ => True) := ⟨fun _ _ => trivial, fun _ _ => trivial, fun _ _ _ _ _ _ => trivial, fun _ _ _ _ _ => trivial, fun _ _ _ => ⟨0, trivial⟩⟩
variable {Q : Nat → Pt → Prop} {QA : Nat → Ac → Prop}
structure GdA (Q : Nat → Pt → Prop) (QA : Nat → Ac → Prop) (ng d n : Nat) (b : Bool) (a : Ac) : Prop where
 ok : OkA a
 ty : QA d a
 gr : ∀ l ∈ a.links, GrP ng l.1
 ln : a.links.length = n
 dp : a.deep = true → b = true ∨ 0 < n
theorem GdA.zero (hQ : LayQ Q QA) (ng d : Nat) (b : Bool) : GdA Q QA ng d 0 b ⟨b, [], [], []⟩ := ⟨OkA.zero b, hQ.zero d b, (fun _ h => nomatch h), rfl, .inl⟩
theorem uadd (a : Ac) (kid : Pt) (free : Bool) : (a.add kid free).takes.length = a.takes.length + kid.takes.length := by simp [Ac.add]
theorem GdA.add (hQ : LayQ Q QA) {ng d n : Nat} {b : Bool} {a : Ac} (h : GdA Q QA ng d n b a) {kid : Pt} (hk : OkP kid) (ht : Q d kid) (hg : GrP ng kid) (free : Bool) : GdA Q QA ng d (n + 1) b (a.add kid free) :=
 ⟨h.ok.add hk free, hQ.add h.ok h.ty hk ht free, fun l hl => by
   rcases List.mem_append.1 (show l ∈ a.links ++ [(kid, a.takes.length, free)] from hl) with h1 | h1
   · exact h.gr l h1
   · rw [List.mem_singleton.1 h1]; exact hg, by simp [Ac.add, h.ln], fun _ => .inr (by omega)⟩
theorem GdA.tie (hQ : LayQ Q QA) {ng d n : Nat} {b : Bool} {a : Ac} (h : GdA Q QA ng d n b a) (hb : b = true → 0 < n) {grp : Nat} (hg : grp < ng) (again : Bool) (hL : a.takes.length ≤ 256) (hn : n ≤ 1000000) : OkP (tie grp again a) ∧ Q (d + 1) (tie grp again a) ∧ GrP ng (tie grp again a) :=
 ⟨h.ok.tie grp again hL (by rw [h.ln]; exact hn), hQ.tie h.ok h.ty grp again hL, .mk _ hg (fun hd e => by
   have h0 : 0 < n := (h.dp hd).elim hb id
   have h1 : a.links = [] := e
   have := h.ln
   rw [h1] at this
   simp at this; omega) h.gr⟩
theorem utie (grp : Nat) (again : Bool) (a : Ac) : (tie grp again a).takes = a.takes := rfl
theorem addN_good (hQ : LayQ Q QA) {ng d : Nat} {b : Bool} {kid : Pt} (hk : OkP kid) (ht : Q d kid) (hg : GrP ng kid) (lo : Int) : ∀ (n c m : Nat) (a : Ac), GdA Q QA ng d m b a → GdA Q QA ng d (m + n) b (addN kid lo n c a) ∧ (addN kid lo n c a).takes.length = a.takes.length + n * kid.takes.length
 | 0, c, m, a, h => ⟨h, by simp [addN]⟩
 | n + 1, c, m, a, h => by
  obtain ⟨h1, h2⟩ := addN_good hQ hk ht hg lo n (c + 1) (m + 1) _ (h.add hQ hk ht hg (decide ((c : Int) >= lo)))
  refine ⟨by rw [show m + (n + 1) = m + 1 + n by omega]; exact h1, ?_⟩
  rw [addN, h2, uadd, Nat.succ_mul]; omega
theorem addL_good (hQ : LayQ Q QA) {ng d : Nat} {b : Bool} : ∀ (ps : List Pt) (m : Nat) (a : Ac), (∀ p ∈ ps, OkP p ∧ Q d p ∧ GrP ng p) → GdA Q QA ng d m b a → GdA Q QA ng d (m + ps.length) b (ps.foldl (fun a kid => a.add kid false) a) ∧ (ps.foldl (fun a kid => a.add kid false) a).takes.length = a.takes.length + (ps.map (fun p => p.takes.length)).sum
 | [], m, a, _, h => ⟨h, by simp⟩
 | p :: ps, m, a, hp, h => by
  obtain ⟨g1, g2, g3⟩ := hp p List.mem_cons_self
  obtain ⟨h1, h2⟩ := addL_good hQ ps (m + 1) _ (fun q hq => hp q (List.mem_cons_of_mem _ hq)) (h.add hQ g1 g2 g3 false)
  refine ⟨by rw [List.length_cons, show m + (ps.length + 1) = m + 1 + ps.length by omega]; exact h1, ?_⟩
  rw [List.foldl_cons, h2, uadd, List.map_cons, List.sum_cons]; omega
theorem leaf_ok (hQ : LayQ Q QA) (ng : Nat) (hng : 0 < ng) (b : List Bd) (tk : List (Nat → Bool)) (nx : List Nat) (h1 : tk.length ≤ 256) (h2 : nx.length = tk.length) (h3 : ∀ s ∈ nx, s < 2 ^ tk.length) (h4 : BdOk tk.length b) : OkP (.mk 0 false [] false false b tk nx) ∧ (∃ d, Q d (.mk 0 false [] false false b tk nx)) ∧ GrP ng (.mk 0 false [] false false b tk nx) :=
 ⟨.mk _ h1 h2 h3 h4 (Nat.zero_le _) (fun _ h => nomatch h) (fun _ h => nomatch h),
  hQ.leaf b tk nx,
  .mk _ hng (fun h => nomatch h) (fun _ h => nomatch h)⟩
theorem ulen : ∀ ts : List Tr, (layL ts).length = ts.length
 | [] => rfl
 | t :: ts => by rw [layL, List.length_cons, List.length_cons, ulen ts]
mutual
theorem lay_ok (hQ : LayQ Q QA) {ng : Nat} : ∀ t : Tr, LyT ng t → OkP (layT t) ∧ (∃ d, Q d (layT t)) ∧ GrP ng (layT t) ∧ ((layT t).takes.length : Int) = posT t
 | .mk k q lo hi g kids, h => by
  obtain ⟨hk5, hg, h4, h23, h5, hl, hp, hks⟩ := h
  obtain ⟨d, hd, hsum⟩ := layL_ok hQ kids hks
  have hng : 0 < ng := by omega
  have row : ∀ b : Bool, (b = true → kids ≠ []) → posT (.mk k q lo hi g kids) = posL kids → ∀ gr, gr < ng → OkP (tie gr false ((layL kids).foldl (fun a kid => a.add kid false) ⟨b, [], [], []⟩)) ∧ (∃ d, Q d (tie gr false ((layL kids).foldl (fun a kid => a.add kid false) ⟨b, [], [], []⟩))) ∧ GrP ng (tie gr false ((layL kids).foldl (fun a kid => a.add kid false) ⟨b, [], [], []⟩)) ∧ ((tie gr false ((layL kids).foldl (fun a kid => a.add kid false) ⟨b, [], [], []⟩)).takes.length : Int) = posT (.mk k q lo hi g kids) := fun b hb hpos gr hgr => by
   obtain ⟨g1, g2⟩ := addL_good hQ (layL kids) 0 _ hd (GdA.zero hQ ng d b)
   rw [ulen, Nat.zero_add] at g1
   rw [show (⟨b, [], [], []⟩ : Ac).takes.length = 0 from rfl, Nat.zero_add] at g2
   have hn : (b = true → 0 < kids.length) := fun e => List.length_pos_iff.2 (hb e)
   obtain ⟨r1, r2, r3⟩ := g1.tie hQ hn hgr false (by rw [g2]; omega) hl
   exact ⟨r1, ⟨_, r2⟩, r3, by rw [utie, g2, hpos]; exact hsum⟩
  match k, hk5 with
  | 0, _ => exact row false (fun h => nomatch h) (by simp [posT]) g hg
  | 4, _ => exact row true (fun _ => h4 rfl) (by simp [posT]) g hg
  | 1, _ =>
   obtain ⟨r1, r2, r3⟩ := leaf_ok hQ ng hng leafB [q] [0] (by simp) rfl (fun s hs => by rw [List.mem_singleton.1 hs]; exact Nat.pow_pos (by omega)) ⟨rfl, fun x hx => by
    obtain ⟨_, rfl⟩ := List.mem_replicate.1 hx
    exact ⟨show 1 < 2 ^ 1 by decide, show 1 < 2 ^ 1 by decide⟩⟩
   exact ⟨r1, r2, r3, by simp [layT, Pt.takes, posT]⟩
  | 2, _ =>
   obtain rfl := h23 (by simp)
   obtain ⟨r1, r2, r3⟩ := leaf_ok hQ ng hng (anchB 1) [] [] (by simp) rfl (fun _ h => nomatch h) ⟨rfl, fun x hx => by
    obtain ⟨_, _, rfl⟩ := List.mem_map.1 hx
    exact ⟨show 0 < 2 ^ 0 by decide, show 0 < 2 ^ 0 by decide⟩⟩
   exact ⟨r1, r2, r3, by simp [layT, Pt.takes, posT, posL]⟩
  | 3, _ =>
   obtain rfl := h23 (by simp)
   obtain ⟨r1, r2, r3⟩ := leaf_ok hQ ng hng (anchB 2) [] [] (by simp) rfl (fun _ h => nomatch h) ⟨rfl, fun x hx => by
    obtain ⟨_, _, rfl⟩ := List.mem_map.1 hx
    exact ⟨show 0 < 2 ^ 0 by decide, show 0 < 2 ^ 0 by decide⟩⟩
   exact ⟨r1, r2, r3, by simp [layT, Pt.takes, posT, posL]⟩
  | 5, _ =>
   obtain ⟨⟨c, rfl⟩, l1, l2, l3⟩ := h5 rfl
   have hd1 : OkP (layT c) ∧ Q d (layT c) ∧ GrP ng (layT c) := hd _ (by simp [layL])
   have hs1 : ((layT c).takes.length : Int) = posL [c] := by simpa [layL] using hsum
   obtain ⟨wr, hwr⟩ : ∃ wr : Nat, (bif decide (hi < 0) then max lo.toNat 1 else hi.toNat) = wr := ⟨_, rfl⟩
   have hpos : posT (.mk 5 q lo hi g [c]) = posL [c] * (wr : Int) := by
    rw [posT, if_neg (by decide), if_pos rfl, ← hwr]
    by_cases h0 : 0 ≤ hi
    · rw [if_pos h0, decide_eq_false (by omega), cond_false, Int.toNat_of_nonneg h0]
    · rw [if_neg h0, decide_eq_true (by omega), cond_true]
      by_cases h1 : 0 < lo
      · rw [if_pos h1, show ((max lo.toNat 1 : Nat) : Int) = lo by omega]
      · rw [if_neg h1, show ((max lo.toNat 1 : Nat) : Int) = 1 by omega, Int.mul_one]
   have hw255 : wr ≤ 255 := by rw [← hwr]; cases decide (hi < 0) <;> simp only [cond_true, cond_false] <;> omega
   rw [hpos, ← hs1] at hp
   have hlen : (layT c).takes.length * wr ≤ 256 := by exact_mod_cast hp
   have e : layT (.mk 5 q lo hi g [c]) = bif Nat.beq wr 0 then tie 0 (decide (hi < 0)) ⟨false, [], [], []⟩ else tie 0 (decide (hi < 0)) (addN (layT c) lo (bif Nat.beq (layT c).takes.length 0 then 1 else wr) 0 ⟨false, [], [], []⟩) := by
    rw [← hwr]; rfl
   rw [e, hpos, ← hs1]
   cases hw0 : Nat.beq wr 0 with
   | true =>
    obtain ⟨r1, r2, r3⟩ := (GdA.zero hQ ng d false).tie hQ (fun h => nomatch h) hng (decide (hi < 0)) (Nat.zero_le _) (Nat.zero_le _)
    refine ⟨r1, ⟨_, r2⟩, r3, ?_⟩
    rw [Nat.eq_of_beq_eq_true hw0]
    simp [utie]
   | false =>
    have hw1 : 0 < wr := by
     rcases Nat.eq_zero_or_pos wr with h | h
     · rw [h] at hw0; cases hw0
     · exact h
    rw [cond_false]
    obtain ⟨n, hn, hn2, hn3⟩ : ∃ n, (bif Nat.beq (layT c).takes.length 0 then 1 else wr) = n ∧ n ≤ 255 ∧ n * (layT c).takes.length = (layT c).takes.length * wr := by
     refine ⟨_, rfl, ?_, ?_⟩
     · cases Nat.beq (layT c).takes.length 0 <;> simp only [cond_true, cond_false] <;> omega
     · cases h0 : Nat.beq (layT c).takes.length 0 with
       | true => rw [Nat.eq_of_beq_eq_true h0]; simp
       | false => rw [cond_false, Nat.mul_comm]
    rw [hn]
    obtain ⟨g1, g2⟩ := addN_good hQ hd1.1 hd1.2.1 hd1.2.2 lo n 0 0 _ (GdA.zero hQ ng d false)
    rw [Nat.zero_add] at g1
    rw [show (⟨false, [], [], []⟩ : Ac).takes.length = 0 from rfl, Nat.zero_add, hn3] at g2
    obtain ⟨r1, r2, r3⟩ := g1.tie hQ (fun h => nomatch h) hng (decide (hi < 0)) (by rw [g2]; exact hlen) (by omega)
    exact ⟨r1, ⟨_, r2⟩, r3, by rw [utie, g2]; simp⟩
theorem layL_ok (hQ : LayQ Q QA) {ng : Nat} : ∀ ts : List Tr, LyL ng ts → ∃ d, (∀ p ∈ layL ts, OkP p ∧ Q d p ∧ GrP ng p) ∧ ((((layL ts).map (fun p => p.takes.length)).sum : Nat) : Int) = posL ts
 | [], _ => ⟨0, (fun _ h => nomatch h), rfl⟩
 | t :: ts, h => by
  obtain ⟨h1, ⟨d1, h2⟩, h3, h4⟩ := lay_ok hQ t h.1
  obtain ⟨d2, k1, k2⟩ := layL_ok hQ ts h.2
  refine ⟨max d1 d2, fun p hp => ?_, ?_⟩
  · rcases List.mem_cons.1 (show p ∈ layT t :: layL ts from hp) with rfl | hp
    · exact ⟨h1, hQ.up h2 (Nat.le_max_left _ _), h3⟩
    · obtain ⟨a, b, c⟩ := k1 p hp
      exact ⟨a, hQ.up b (Nat.le_max_right _ _), c⟩
  · rw [layL, List.map_cons, List.sum_cons, posL, ← h4, ← k2]; rfl
end
end Go.Proofs.YtbekghinikjjeaaGreatDoor.smt
namespace Go.Proofs.YtbekghinikjjeaaGreatDoor.smt
open Go.Proofs.YtbekghinikjjeaaGreatDoor.br
theorem msF_back : ∀ (ts : List Tr) (m : Ms), (msF m ts).back = false → m.back = false ∧ ∀ t ∈ ts, (msT t).back = false
 | [], m, h => ⟨h, fun _ h => nomatch h⟩
 | t :: ts, m, h => by
  rw [msF] at h
  obtain ⟨h1, h2⟩ := msF_back ts _ h
  have h3 : (m.back || (msT t).back) = false := h1
  rw [Bool.or_eq_false_iff] at h3
  refine ⟨h3.1, fun x hx => ?_⟩
  rcases List.mem_cons.1 hx with rfl | hx
  · exact h3.2
  · exact h2 x hx
mutual
theorem ly_shT {ng : Nat} : ∀ (t : Tr) (s s' : Sh), ShT t s s' → xcj t → s'.1 < ng → (msT t).back = false → LyT ng t
 | .mk k q lo hi g kids, s, s', h, hj, hg, hb => by
  obtain ⟨hp0, hp, ⟨_, hl⟩, hk⟩ := xdo _ hj
  have hm := ms_ok _ s s' h
  unfold LyT
  rcases h with ⟨rfl, _, _, _, rfl, h⟩ | ⟨hk3, rfl, rfl, rfl, rfl, rfl⟩ | ⟨rfl, _, rfl, rfl, rfl, _, _, _, rfl⟩ | ⟨rfl, _, _, _, hg1, hg9, ⟨c, hc, _⟩, s1, h, rfl⟩ | ⟨rfl, _, rfl, hlo, hhi, ⟨c, hc, _⟩, h⟩
  · have e : msT (.mk 0 q lo hi 0 kids) = msF .zero kids := by simp [msT]
    rw [e] at hb
    exact ⟨by omega, by omega, (fun h => nomatch h), (fun h => by omega), (fun h => nomatch h), hl, hp, ly_shL kids s s' h hk hg (msF_back _ _ hb).2⟩
  · refine ⟨by omega, by omega, (fun h => by omega), fun _ => rfl, (fun h => by omega), hl, hp, ?_⟩
    unfold LyL; trivial
  · exfalso
    simp [msT] at hb
  · have e : msT (.mk 4 q lo hi g kids) = (msF .zero kids).grp := by simp [msT]
    rw [e] at hb
    have h4 : s.1 + 1 ≤ s1.1 := (xmm kids .zero _ s1 xcr h).2.2.2.1
    have hg' : s1.1 < ng := hg
    exact ⟨by omega, by omega, fun _ => by rw [hc]; exact List.cons_ne_nil _ _, (fun h => by omega), (fun h => nomatch h), hl, hp, ly_shL kids _ s1 h hk hg' (msF_back _ _ (show (msF .zero kids).back = false from hb)).2⟩
  · have e : msT (.mk 5 q lo hi 0 kids) = (msF .zero kids).rep lo hi := by simp [msT]
    rw [e] at hb
    exact ⟨by omega, by omega, (fun h => nomatch h), (fun h => by omega), fun _ => ⟨⟨c, hc⟩, by omega, by omega, by omega⟩, hl, hp, ly_shL kids s s' h hk hg (msF_back _ _ (show (msF .zero kids).back = false from hb)).2⟩
theorem ly_shL {ng : Nat} : ∀ (ts : List Tr) (s s' : Sh), ShL ts s s' → xc0 ts → s'.1 < ng → (∀ t ∈ ts, (msT t).back = false) → LyL ng ts
 | [], _, _, _, _, _, _ => by unfold LyL; trivial
 | t :: ts, s, s', h, hj, hg, hb => by
  unfold ShL at h
  obtain ⟨s1, h1, h2⟩ := h
  have hle : s1.1 ≤ s'.1 := (xmm ts .zero s1 s' xcr h2).2.2.2.1
  have hj2 : xcj t ∧ xc0 ts := ⟨xei _ hj t List.mem_cons_self, xh1 _ fun x hx => xei _ hj x (List.mem_cons_of_mem _ hx)⟩
  unfold LyL
  exact ⟨ly_shT t s s1 h1 hj2.1 (by omega) (hb t List.mem_cons_self), ly_shL ts s1 s' h2 hj2.2 hg fun x hx => hb x (List.mem_cons_of_mem _ hx)⟩
end
theorem ly_parse {s : ByteArray} {ts : List Tr} (h : parseT s = .ok ts) (hb : (msF .zero ts).back = false) : ∃ n : Nat, (msF .zero ts).groups = (n : Int) ∧ LyT (n + 1) (catT ts) := by
 obtain ⟨s', hs⟩ := xfg s ts h
 have hm := ms_ok _ _ _ hs
 have e : msT (catT ts) = msF .zero ts := by simp [catT, msT]
 rw [e] at hm
 refine ⟨s'.1, ?_, ly_shT _ _ _ hs (xgk s ts h) (by omega) (by rw [e]; exact hb)⟩
 have := hm.2.2.1
 rw [this]; show (s'.1 : Int) - ((0 : Nat) : Int) = _; omega
end Go.Proofs.YtbekghinikjjeaaGreatDoor.smt
namespace Go.Proofs.YtbekghinikjjeaaGreatDoor.smt
open Go.Proofs.YtbekghinikjjeaaGreatDoor.br
def matchF (f g : Nat) (ts : Tr) (s : List Nat) (fr : Nat) : Option (Option (List (Int × Int)) × Nat) :=
 match findF (layT ts) s (s.length + 1 - fr) fr (List.replicate s.length 0, 0) with
 | (none, h) => some (none, h)
 | (some (a, b), h) => (settle s f (layT ts) a b ((List.replicate (g + 1) (-1, -1)).set 0 ((a : Int), (b : Int)), h)).map fun x => (some x.1, x.2)
theorem run_rng {p : Pt} {s : List Nat} {a : Nat} : ∀ (f wait pl : Nat) (tz : Option Nat) (tried : List Nat) (held : Nat), a ≤ pl → (∀ t, tz = some t → a ≤ t ∧ t ≤ s.length) → pl ≤ s.length → ∀ t, (runF p s f wait pl tz (tried, held)).1 = some t → a ≤ t ∧ t ≤ s.length
 | 0, _, _, _, _, _, _, h, _, t, e => h t e
 | f + 1, wait, pl, tz, tried, held, ha, h, hp, t, e => by
  rw [runF] at e
  cases hb : Nat.beq pl s.length with
  | true => rw [hb] at e; exact h t e
  | false =>
   have hlt : pl < s.length := by
    rcases Nat.lt_or_ge pl s.length with h1 | h1
    · exact h1
    · rw [show pl = s.length by omega, Nat.beq_refl] at hb; cases hb
   rw [hb, cond_false] at e
   dsimp only at e
   generalize wait ^^^ (wait &&& tried.getD pl 0) = w at e
   cases h0 : Nat.beq w 0 with
   | true => rw [h0] at e; exact h t e
   | false =>
    rw [h0, cond_false] at e
    refine run_rng f _ (pl + 1) _ _ _ (by omega) (fun u hu => ?_) (by omega) t e
    cases hc : Nat.beq (takers p s w pl &&& (bat p.bds (kindAt s.length (pl + 1))).la) 0 with
    | true => rw [hc] at hu; exact h u hu
    | false => rw [hc] at hu; cases hu; omega
theorem find_rng {p : Pt} {s : List Nat} : ∀ (f fr : Nat) (tried : List Nat) (held : Nat) (a b : Nat), fr + f ≤ s.length + 1 → (findF p s f fr (tried, held)).1 = some (a, b) → fr ≤ a ∧ a ≤ b ∧ b ≤ s.length
 | 0, _, _, _, _, _, _, h => nomatch h
 | f + 1, fr, tried, held, a, b, hf, h => by
  rw [findF] at h
  generalize hr : runF p s (s.length + 1) (bat p.bds (kindAt s.length fr)).fi fr (bif (bat p.bds (kindAt s.length fr)).no then some fr else none) (tried, held) = r at h
  obtain ⟨tz, st⟩ := r
  cases tz with
  | some t =>
   cases h
   have := run_rng (p := p) (s := s) (a := fr) (s.length + 1) (bat p.bds (kindAt s.length fr)).fi fr (bif (bat p.bds (kindAt s.length fr)).no then some fr else none) tried held (Nat.le_refl _) (fun u hu => by
    cases hn : (bat p.bds (kindAt s.length fr)).no with
    | true => rw [hn] at hu; cases hu; omega
    | false => rw [hn] at hu; cases hu) (by omega) b (by rw [hr])
   exact ⟨Nat.le_refl _, this⟩
  | none =>
   obtain ⟨tr, hd⟩ := st
   have := find_rng f (fr + 1) tr hd a b (by omega) h
   omega
end Go.Proofs.YtbekghinikjjeaaGreatDoor.smt
