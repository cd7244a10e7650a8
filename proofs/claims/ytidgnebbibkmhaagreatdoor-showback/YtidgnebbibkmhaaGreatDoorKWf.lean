/- show, pure: a script that is written is read as it was. -/
import Derived.Test.YtidgnebbibkmhaaGreatDoorKWe
set_option maxRecDepth 100000
set_option maxHeartbeats 4000000
namespace Go.Proofs.YtidgnebbibkmhaaGreatDoor
open Go.RowKit
open scanP scrP tpl ytb
namespace sho

structure FK (c : Co) : Prop where
  lb : kd c.nm ≠ 2 → c.lb = []
  tx : kd c.nm ≠ 1 → c.tx = []
  fl : kd c.nm ≠ 3 → kd c.nm ≠ 4 → c.fl = []
  fr : kd c.nm ≠ 5 → c.fr = [] ∧ c.to = []
  sd : kd c.nm ≠ 4 → c.re = [] ∧ c.ps = [] ∧ c.nh = 0 ∧ c.an = false ∧ c.pr = false
theorem kd_not {n m : UInt8} {k : Nat} (h : kd m = k) (hn : kd n ≠ k) : n ≠ m := fun e => hn (by rw [e, h])
theorem fk_of {c : Co} (F : FO c) : FK c :=
  ⟨fun h => F.lb (kd_not rfl h) (kd_not rfl h) (kd_not rfl h), fun h => F.tx (kd_not rfl h) (kd_not rfl h) (kd_not rfl h), fun h h' => F.fl (kd_not rfl h) (kd_not rfl h) (kd_not rfl h'), fun h => F.fr (kd_not rfl h), fun h => F.sd (kd_not rfl h)⟩
theorem co_ext (c : Co) (p : Nat) {lb tx fl re fr to : List UInt8} {ps : List Pt} {nh : Nat} {an pr : Bool} (h1 : c.lb = lb) (h2 : c.tx = tx) (h3 : c.fl = fl) (h4 : c.re = re) (h5 : c.ps = ps) (h6 : c.nh = nh) (h7 : c.an = an) (h8 : c.pr = pr) (h9 : c.fr = fr) (h10 : c.to = to) : (⟨p, c.a, c.b, c.nt, c.nm, lb, tx, fl, re, ps, nh, an, pr, fr, to⟩ : Co) = { c with pl := p } := by
  subst h1 h2 h3 h4 h5 h6 h7 h8 h9 h10
  rfl
theorem rst_of {G : Gr} {l : List UInt8} {i p : Nat} {c : Co} {z r : List UInt8} (hw : WfC G c) (hz : rsW c = some z) (hl : l.length ≤ 4096) (h : l.drop i = z ++ 10 :: r) : ∃ k, rstR G l (beg c p) i = .ok ({ c with pl := p }, k) ∧ (k = i + z.length ∨ k = i + z.length + 1) := by
  have F := fk_of hw.fo
  have en : (beg c p).nm = c.nm := rfl
  unfold rsW at hz
  unfold rstR
  rw [en]
  by_cases h2 : c.nm = 97 ∨ c.nm = 105 ∨ c.nm = 99
  · have hk : kd c.nm = 1 := by unfold kd; rw [if_pos h2]
    obtain ⟨f4, f5⟩ := F.fr (by rw [hk]; decide)
    obtain ⟨g1, g2, g3, g4, g5⟩ := F.sd (by rw [hk]; decide)
    obtain ⟨y, hy⟩ := hw.fo.te h2
    have ey : trN c.tx = y := by unfold trN; rw [hy]; simp
    rw [if_pos h2, ey] at hz
    cases hz
    rw [if_neg (by rintro e; rw [e] at h2; revert h2; decide), if_pos h2, text_of _ h]
    refine ⟨_, ok_eq ?_ rfl, .inr (by simp only [List.length_cons])⟩
    exact co_ext c p (F.lb (by rw [hk]; decide)) hy (F.fl (by rw [hk]; decide) (by rw [hk]; decide)) g1 g2 g3 g4 g5 f4 f5
  rw [if_neg h2] at hz
  by_cases h3 : c.nm = 58 ∨ c.nm = 98 ∨ c.nm = 116
  · have hk : kd c.nm = 2 := by unfold kd; rw [if_neg h2, if_pos h3]
    obtain ⟨f4, f5⟩ := F.fr (by rw [hk]; decide)
    obtain ⟨g1, g2, g3, g4, g5⟩ := F.sd (by rw [hk]; decide)
    obtain ⟨l1, l2, l3⟩ := hw.lb hk
    rw [if_pos h3] at hz
    cases hz
    rw [if_neg (by rintro e; rw [e] at h3; revert h3; decide), if_neg h2, if_pos h3]
    unfold labC labR
    rw [word_of l1 h, if_neg (by rintro (e | ⟨e1, e2⟩); exact absurd e (by show ¬ 32 < c.lb.length; omega); exact l3 e1 e2)]
    refine ⟨_, ok_eq ?_ rfl, .inl rfl⟩
    exact co_ext c p rfl (F.tx (by rw [hk]; decide)) (F.fl (by rw [hk]; decide) (by rw [hk]; decide)) g1 g2 g3 g4 g5 f4 f5
  rw [if_neg h3] at hz
  by_cases h4 : c.nm = 114 ∨ c.nm = 119
  · have hk : kd c.nm = 3 := by unfold kd; rw [if_neg h2, if_neg h3, if_pos h4]
    obtain ⟨f4, f5⟩ := F.fr (by rw [hk]; decide)
    obtain ⟨g1, g2, g3, g4, g5⟩ := F.sd (by rw [hk]; decide)
    rw [if_pos h4] at hz
    cases hz
    rw [if_neg (by rintro e; rw [e] at h4; revert h4; decide), if_neg h2, if_neg h3, if_pos h4, fil_of _ (hw.fl hk) h]
    refine ⟨_, ok_eq ?_ rfl, .inl rfl⟩
    exact co_ext c p (F.lb (by rw [hk]; decide)) (F.tx (by rw [hk]; decide)) rfl g1 g2 g3 g4 g5 f4 f5
  rw [if_neg h4] at hz
  by_cases h5 : c.nm = 115
  · have hk : kd c.nm = 4 := by rw [h5]; decide
    obtain ⟨f4, f5⟩ := F.fr (by rw [hk]; decide)
    obtain ⟨s1, s2, s3, s4, s5⟩ := hw.sd hk
    obtain ⟨n1, n2⟩ := hw.fo.nh h5
    rw [if_pos h5] at hz
    rw [if_neg (by rw [h5]; decide), if_neg h2, if_neg h3, if_neg h4, if_pos h5]
    unfold btw at hz
    cases hd : dlm [c.re, psW c.ps] with
    | none => rw [hd] at hz; cases hz
    | some d =>
      rw [hd] at hz
      cases hz
      obtain ⟨d1, d2⟩ := dlm_ok hd
      have hd1 : l.drop i = d :: (c.re ++ d :: (psW c.ps ++ d :: (flW c ++ 10 :: r))) := by rw [h]; simp [bws]
      have hd2 := drop_one hd1
      have hd3 : l.drop (i + 1 + c.re.length + 1) = psW c.ps ++ d :: (flW c ++ 10 :: r) := drop_one (drop_of hd2)
      have hd4 : l.drop (i + 1 + c.re.length + 1 + (psW c.ps).length + 1) = flW c ++ 10 :: r := drop_one (drop_of hd3)
      have hln := congrArg List.length hd1
      rw [List.length_drop] at hln
      simp only [List.length_cons, List.length_append] at hln
      obtain ⟨p1, p2⟩ := psW_ok s3
      obtain ⟨p3, p4⟩ := p2 (by omega)
      unfold sedR
      rw [del_of hd1 d1]
      simp only
      rw [pie_of hd2 d1 s1 (d2 _ (by simp))]
      simp only
      rw [pie_of hd3 d1 p1 (d2 _ (by simp))]
      simp only [grpR, s2, if_true]
      rw [if_neg (by rw [p3]; simp), if_neg (by rw [p4]; rintro ⟨e1, e2⟩; have := s4 e1; omega), p4]
      obtain ⟨n, hn⟩ : ∃ n, l.length + 1 = n + 1 + 1 + 1 + 1 := ⟨l.length - 3, by omega⟩
      obtain ⟨m, hm, he⟩ := flg_of (n := n) (c := { beg c p with re := c.re, ps := c.ps }) (d := c) rfl rfl rfl rfl s5 n1 n2 hd4
      rw [hn, he]
      simp only
      refine ⟨_, ok_eq ?_ rfl, .inl ?_⟩
      · exact co_ext c p (F.lb (by rw [hk]; decide)) (F.tx (by rw [hk]; decide)) rfl rfl rfl hm.symm rfl rfl f4 f5
      · simp [bws]; omega
  rw [if_neg h5] at hz
  by_cases h6 : c.nm = 121
  · have hk : kd c.nm = 5 := by rw [h6]; decide
    obtain ⟨g1, g2, g3, g4, g5⟩ := F.sd (by rw [hk]; decide)
    rw [if_pos h6] at hz
    rw [if_neg (by rw [h6]; decide), if_neg h2, if_neg h3, if_neg h4, if_neg h5, if_pos h6]
    unfold btw at hz
    cases hd : dlm [eN [92, 110] c.fr, eN [92, 110] c.to] with
    | none => rw [hd] at hz; cases hz
    | some d =>
      rw [hd] at hz
      cases hz
      obtain ⟨d1, d2⟩ := dlm_ok hd
      have hd1 : l.drop i = d :: (eN [92, 110] c.fr ++ d :: (eN [92, 110] c.to ++ d :: (10 :: r))) := by rw [h]; simp [bws]
      have hd2 := drop_one hd1
      have hd3 : l.drop (i + 1 + (eN [92, 110] c.fr).length + 1) = eN [92, 110] c.to ++ d :: (10 :: r) := drop_one (drop_of hd2)
      have hd4 : l.drop (i + 1 + (eN [92, 110] c.fr).length + 1 + (eN [92, 110] c.to).length + 1) = 10 :: r := drop_one (drop_of hd3)
      unfold tabR
      rw [del_of hd1 d1]
      simp only
      rw [sid_of hd2 d1 (d2 _ (by simp))]
      simp only
      rw [sid_of hd3 d1 (d2 _ (by simp))]
      simp only
      rw [if_neg (by rw [hw.yt hk]; rintro (e | e); exact e hw.fo.ft; cases e)]
      simp only
      rw [end_of _ hd4]
      refine ⟨_, ok_eq ?_ rfl, .inl (by simp [bws]; omega)⟩
      exact co_ext c p (F.lb (by rw [hk]; decide)) (F.tx (by rw [hk]; decide)) (F.fl (by rw [hk]; decide) (by rw [hk]; decide)) g1 g2 g3 g4 g5 rfl rfl
  rw [if_neg h6] at hz
  cases hz
  have hk : kd c.nm = 0 := by unfold kd; rw [if_neg h2, if_neg h3, if_neg h4, if_neg h5, if_neg h6]
  rw [← beg_end hw p hk]
  by_cases h1 : c.nm = 123
  · rw [if_pos h1]; exact ⟨_, rfl, .inl rfl⟩
  rw [if_neg h1, if_neg h2, if_neg h3, if_neg h4, if_neg h5, if_neg h6]
  have hn : plnS.contains c.nm = true := by
    have := hw.nm
    unfold nmS at this
    simp only [List.contains_eq_any_beq, List.any_append, Bool.or_eq_true] at this ⊢
    rcases this with e | e
    · exfalso
      simp only [List.any_cons, List.any_nil, Bool.or_false, Bool.or_eq_true, beq_iff_eq] at e
      rcases e with e | e | e | e | e | e | e | e | e | e | e
      · exact h1 e
      · exact h2 (.inl e)
      · exact h2 (.inr (.inl e))
      · exact h2 (.inr (.inr e))
      · exact h3 (.inl e)
      · exact h3 (.inr (.inl e))
      · exact h3 (.inr (.inr e))
      · exact h4 (.inl e)
      · exact h4 (.inr e)
      · exact h5 e
      · exact h6 e
    · exact e
  rw [if_pos hn, end_of _ h]
  exact ⟨_, rfl, .inl rfl⟩
theorem cmd_of {G : Gr} {l : List UInt8} {i : Nat} {c : Co} {t r : List UInt8} (hw : WfC G c) (ht : cmW c = some t) (hl : l.length ≤ 4096) (h : l.drop i = t ++ r) : ∃ p k, cmdR G l i = .ok ({ c with pl := p }, k) ∧ (l.drop k = 10 :: r ∨ l.drop k = r) ∧ k ≤ l.length := by
  unfold cmW at ht
  split at ht
  · rename_i x y z hx hy hz
    cases ht
    obtain ⟨s1, s2⟩ := nm_sg hw.nm
    have h' : l.drop i = x ++ (y ++ (ntW c ++ c.nm :: (z ++ 10 :: r))) := by rw [h]; simp
    have h2 : twoA G l i = .ok (c.a, c.b, i + (x.length + y.length)) := by
      unfold ntW at h'
      cases hn : c.nt with
      | true => rw [hn] at h'; exact two_of hw hx hy h' (by decide)
      | false => rw [hn] at h'; exact two_of hw hx hy h' s1
    have h3 : l.drop (i + (x.length + y.length)) = ntW c ++ c.nm :: (z ++ 10 :: r) := by
      rw [← Nat.add_assoc]; exact drop_of (drop_of h')
    have h4 := drop_of h3
    have h5 := drop_one h4
    obtain ⟨k, hk, hk2⟩ := rst_of (p := i + (x.length + y.length) + (ntW c).length) hw hz hl h5
    refine ⟨i + (x.length + y.length) + (ntW c).length, k, ?_, ?_⟩
    · unfold cmdR
      rw [h2]
      simp only
      rw [not_of h3 hw.nm]
      simp only
      rw [get_of h4]
      exact hk
    · have h6 := drop_of h5
      have h7 := le_of h6
      rcases hk2 with rfl | rfl
      · exact ⟨.inl h6, by omega⟩
      · exact ⟨.inr (drop_one h6), by omega⟩
  · cases ht
theorem cmW_hd {G : Gr} {c : Co} {t : List UInt8} (hw : WfC G c) (ht : cmW c = some t) : ∃ b q, t = b :: q ∧ [32, 9, 10, 59, 35].contains b = false := by
  unfold cmW at ht
  split at ht
  · rename_i x y z hx hy hz
    cases ht
    by_cases h0 : c.a.k = 0
    · have ex : x = [] := by unfold adW at hx; rw [h0] at hx; simpa using hx.symm
      have ey : y = [] := by unfold abW at hy; rw [if_pos (hw.fo.ad h0)] at hy; simpa using hy.symm
      subst ex ey
      unfold ntW
      cases c.nt with
      | true => exact ⟨33, _, rfl, by decide⟩
      | false =>
        obtain ⟨-, -, -, -, -, s6, s7, s8, s9, s10⟩ := sg_all (nm_sg hw.nm).1
        exact ⟨c.nm, _, rfl, by simp [s6, s7, s8, s9, s10]⟩
    · obtain ⟨b, q, e, hb⟩ := adW_hd hw.a h0 hx
      exact ⟨b, _, by rw [e]; rfl, hb⟩
  · cases ht
def nfC (c : Co) : Co := { c with pl := 0 }
theorem alW_acc : ∀ (cs : List Co) (l T : List UInt8), alW cs l = .ok T → ∃ b, T = l ++ b ∧ ∀ m, alW cs m = .ok (m ++ b)
  | [], l, T, h => by cases h; exact ⟨[], by simp, fun m => by simp [alW]⟩
  | c :: r, l, T, h => by
    unfold alW at h
    cases hc : cmW c with
    | none => rw [hc] at h; cases h
    | some t =>
      rw [hc] at h
      obtain ⟨b, e, hb⟩ := alW_acc r _ _ h
      exact ⟨t ++ b, by rw [e, List.append_assoc], fun m => by rw [alW, hc]; simp only; rw [hb, List.append_assoc]⟩
theorem al_skip (G : Gr) {l : List UInt8} {i : Nat} {x : List UInt8} (acc : List Co) (h : l.drop i = 10 :: x) : alF G l i acc = alF G l (i + 1) acc := by
  have hi := le_of h
  rw [xqp G l i acc (by omega), xqp G l (i + 1) acc (by omega), xqo l i (by omega), if_neg (by omega), mt_of h, if_pos (by decide)]
theorem all_of {G : Gr} {l : List UInt8} (hl : l.length ≤ 4096) : ∀ (cs : List Co) (body : List UInt8), (∀ c ∈ cs, WfC G c) → alW cs [] = .ok body → ∀ (i : Nat) (acc : List Co), i ≤ l.length → l.drop i = body → ∃ ds, ds.map nfC = cs.map nfC ∧ alF G l i acc = .ok (acc ++ ds)
  | [], body, _, h, i, acc, hi, hd => by
    cases h
    refine ⟨[], rfl, ?_⟩
    have : l.length ≤ i := by have := congrArg List.length hd; rw [List.length_drop] at this; simp at this; omega
    rw [xqp G l i acc hi, xqo l i hi, if_pos this]
    simp
  | c :: r, body, hw, h, i, acc, hi, hd => by
    unfold alW at h
    cases hc : cmW c with
    | none => rw [hc] at h; cases h
    | some t =>
      rw [hc] at h
      obtain ⟨b, e, hb⟩ := alW_acc r _ _ h
      rw [List.nil_append] at e
      have hwc := hw c List.mem_cons_self
      obtain ⟨x, q, et, hx⟩ := cmW_hd hwc hc
      rw [e] at hd
      have hd2 : l.drop i = x :: (q ++ b) := by rw [hd, et]; rfl
      obtain ⟨p, k, h1, h2, h3⟩ := cmd_of hwc hc hl hd
      have e1 : alF G l i acc = alF G l k (acc ++ [{ c with pl := p }]) := by
        have hx1 : [32, 9, 10, 59].contains x = false ∧ [35].contains x = false := by
          have := u8_all (p := fun b => ([32, 9, 10, 59, 35] : List UInt8).contains b || (!([32, 9, 10, 59] : List UInt8).contains b && !([35] : List UInt8).contains b)) (by decide +kernel) x
          rw [hx] at this
          simpa using this
        rw [xqp G l i acc hi, xqo l i hi, if_neg (by have := le_of hd2; omega), mt_of hd2, hx1.1, if_neg (by simp), mt_of hd2, hx1.2, if_neg (by simp)]
        simp only
        rw [h1]
      have key : ∀ j, j ≤ l.length → l.drop j = b → alF G l k (acc ++ [{ c with pl := p }]) = alF G l j (acc ++ [{ c with pl := p }]) → ∃ ds, ds.map nfC = (c :: r).map nfC ∧ alF G l i acc = .ok (acc ++ ds) := fun j hj hj2 hj3 => by
        obtain ⟨ds, g1, g2⟩ := all_of hl r b (fun d hd => hw d (List.mem_cons_of_mem _ hd)) (by rw [hb, List.nil_append]) j (acc ++ [{ c with pl := p }]) hj hj2
        exact ⟨{ c with pl := p } :: ds, by rw [List.map_cons, List.map_cons, g1]; rfl, by rw [e1, hj3, g2]; simp⟩
      rcases h2 with h2 | h2
      · exact key (k + 1) (by have := le_of h2; omega) (drop_one h2) (al_skip G _ h2)
      · exact key k h3 h2 rfl
theorem scr_back {G : Gr} {l T : List UInt8} (h0 : (scrR G l).2.2.1 = 0) (h : alW (scrR G l).1 (if (scrR G l).2.1 = true then [35, 110, 10] else []) = .ok T) (hT : T.length ≤ 4096) : ∃ ds, ds.map nfC = (scrR G l).1.map nfC ∧ scrR G T = (ds, (scrR G l).2.1, 0, 0) := by
  have hw := scr_wf h0
  obtain ⟨b, e, hb⟩ := alW_acc _ _ _ h
  have hb0 := hb []
  rw [List.nil_append] at hb0
  cases hq : (scrR G l).2.1 with
  | true =>
    rw [hq, if_pos rfl] at e
    have hd : T.drop 0 = 35 :: (110 :: 10 :: b) := e
    have hd2 : T.drop 2 = 10 :: b := by rw [e]; rfl
    have hd3 : T.drop 3 = b := by rw [e]; rfl
    have h2 := le_of hd2
    obtain ⟨ds, g1, g2⟩ := all_of hT _ b hw hb0 3 [] (by omega) hd3
    refine ⟨ds, g1, ?_⟩
    have hl : xbi T 0 = ([35, 110], 2) := by
      unfold xbi
      rw [bl_of hd (by decide)]
      simp only
      rw [hd]
      simp [lnN]
    have hq2 : quiB T = true := by rw [e]; unfold quiB; simp [lnN]
    have hc : cmF T 0 = cmF T 2 := by
      rw [xqo T 0 (by omega), if_neg (by omega), mt_of hd, if_neg (by decide), mt_of hd, if_pos (by decide), hl]
    have h3 : alF G T 0 [] = alF G T 2 [] := by rw [xqp G T 0 [] (by omega), xqp G T 2 [] (by omega), hc]
    rw [xqz G T hT, h3, al_skip G [] hd2, g2, hq2]
    rfl
  | false =>
    rw [hq, if_neg (by simp), List.nil_append] at e
    subst e
    obtain ⟨ds, g1, g2⟩ := all_of hT _ T hw hb0 0 [] (by omega) rfl
    refine ⟨ds, g1, ?_⟩
    have hq2 : quiB T = false := by
      unfold quiB
      cases hcs : (scrR G l).1 with
      | nil => rw [hcs] at hb0; cases hb0; simp [lnN]
      | cons c r =>
        rw [hcs] at hb0 hw
        unfold alW at hb0
        cases hc : cmW c with
        | none => rw [hc] at hb0; cases hb0
        | some t =>
          rw [hc] at hb0
          obtain ⟨b, e, -⟩ := alW_acc r _ _ hb0
          obtain ⟨x, q, et, hx⟩ := cmW_hd (hw c List.mem_cons_self) hc
          rw [e, et]
          have hx2 : x ≠ 35 := by rintro rfl; revert hx; decide
          show decide ((x :: (q ++ b)).take (lnN (x :: (q ++ b))) = [35, 110]) = false
          unfold lnN
          split
          · simp
          · rw [List.take_succ_cons, decide_eq_false_iff_not]
            intro e; exact hx2 (List.cons.inj e).1
    rw [xqz G T hT, g2, hq2]
    rfl
theorem alW_nf : ∀ (cs ds : List Co) (l : List UInt8), ds.map nfC = cs.map nfC → ∀ T, alW cs l = .ok T → alW ds l = .ok T
  | [], ds, l, h, T, hT => by
    cases ds with
    | nil => exact hT
    | cons d ds => cases h
  | c :: r, ds, l, h, T, hT => by
    cases ds with
    | nil => cases h
    | cons d ds =>
      rw [List.map_cons, List.map_cons] at h
      obtain ⟨h1, h2⟩ := List.cons.inj h
      have e : cmW (nfC d) = cmW (nfC c) := congrArg cmW h1
      replace e : cmW d = cmW c := e
      unfold alW at hT ⊢
      rw [e]
      cases hc : cmW c with
      | none => rw [hc] at hT; cases hT
      | some t =>
        rw [hc] at hT
        exact alW_nf r ds _ h2 T hT
theorem shR_ok {G : Gr} {l : List UInt8} (h : (shR G l).2.1 = 0) : (scrR G l).2.2.1 = 0 ∧ alW (scrR G l).1 (if (scrR G l).2.1 = true then [35, 110, 10] else []) = .ok (shR G l).1 ∧ shR G l = ((shR G l).1, 0, 0) := by
  unfold shR at h ⊢
  by_cases h0 : (scrR G l).2.2.1 ≠ 0
  · rw [if_pos h0] at h; exact absurd h h0
  · rw [if_neg h0] at h ⊢
    refine ⟨Decidable.not_not.1 h0, ?_⟩
    generalize alW (scrR G l).1 (if (scrR G l).2.1 = true then [35, 110, 10] else []) = R at h ⊢
    cases R with
    | error p => simp at h
    | ok t => exact ⟨rfl, rfl⟩
theorem show_back {G : Gr} {l : List UInt8} (h : (shR G l).2.1 = 0) (hT : (shR G l).1.length ≤ 4096) : shR G (shR G l).1 = ((shR G l).1, 0, 0) ∧ ∃ ds, ds.map nfC = (scrR G l).1.map nfC ∧ scrR G (shR G l).1 = (ds, (scrR G l).2.1, 0, 0) := by
  obtain ⟨h1, h2, -⟩ := shR_ok h
  obtain ⟨ds, g1, g2⟩ := scr_back h1 h2 hT
  refine ⟨?_, ds, g1, g2⟩
  generalize (shR G l).1 = T at *
  unfold shR
  rw [g2]
  simp only [ne_eq, not_true, if_false]
  rw [alW_nf _ ds _ g1 _ h2]
theorem show_ones {G : Gr} {a b : List UInt8} (ha : (shR G a).2.1 = 0) (hb : (shR G b).2.1 = 0) (la : (shR G a).1.length ≤ 4096) (lb : (shR G b).1.length ≤ 4096) : (shR G a).1 = (shR G b).1 ↔ (scrR G a).2.1 = (scrR G b).2.1 ∧ (scrR G a).1.map nfC = (scrR G b).1.map nfC := by
  constructor
  · intro e
    obtain ⟨-, ds, g1, g2⟩ := show_back ha la
    obtain ⟨-, es, g3, g4⟩ := show_back hb lb
    rw [e, g4] at g2
    obtain ⟨rfl, e2⟩ := Prod.mk.inj g2
    exact ⟨(Prod.mk.inj e2).1.symm, by rw [← g1, g3]⟩
  · rintro ⟨e1, e2⟩
    obtain ⟨-, h1, -⟩ := shR_ok ha
    obtain ⟨-, h2, -⟩ := shR_ok hb
    rw [e1] at h1
    have := alW_nf _ _ _ e2 _ h2
    rw [this] at h1
    exact (Except.ok.inj h1).symm

end sho
end Go.Proofs.YtidgnebbibkmhaaGreatDoor
