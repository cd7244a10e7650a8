/- WholeTexts: what the walk wants. -/
import Derived.Test.YtemgfbidfdhanaaDoorKPv
import Derived.Test.YtemgfbidfdhanaaDoorKQt
import Derived.Test.YtemgfbidfdhanaaDoorKCy
import Derived.Test.YtemgfbidfdhanaaDoorKDp
import Derived.Test.YtemgfbidfdhanaaDoorKMd
import Derived.Laws.StructEq
namespace Go.Proofs.YtemgfbidfdhanaaDoor
open Go.RowKit Go.Shelf
open Go.Sort

/-- What Text answers: the text, the fault's number, its place. -/
noncomputable def textX (s : ByteArray) : List UInt8 × Int × Nat := match parseT s with
  | .ok ts => (wrL stC ts, 0, 0)
  | .error (e, p) => ([], e, p)

theorem canonText_any (s : ByteArray) (w : World) (hg : Glob w) (ht : Tab w) : Calls Tryd.prog 6 #[.string s] w fun e w' => e = .returned (.tuple #[.string ⟨(textX s).1.toArray⟩, .agg #[.int .i64 (textX s).2.1, .int .i64 ((textX s).2.2 : Nat)]]) ∧ Below w.heap.size w w' := by
  cases hp : parseT s with
  | ok ts =>
    have e : textX s = (wrL stC ts, 0, 0) := by unfold textX; rw [hp]
    rw [e]
    exact canon_ok s ts hp w hg ht
  | error x =>
    obtain ⟨er, p⟩ := x
    have e : textX s = ([], er, p) := by unfold textX; rw [hp]
    rw [e]
    exact canon_err s er p hp (parse_place s er p hp).1 w hg

theorem wd_nf {q q' : Nat → Bool} (h : nfq q = nfq q') (i : Nat) (hi : i < 4) : wd q i = wd q' i := wd_congr _ _ _ (fun j hj => by
  have := congrFun h (64 * i + j)
  unfold nfq at this
  rwa [decide_eq_true (show 64 * i + j < 256 by omega), Bool.and_true, Bool.and_true] at this)

theorem node_nf {t u : Tr} (h : nfT t = nfT u) (v : Value) : nodeV t v = nodeV u v ∧ nfL t.kids = nfL u.kids := by
  obtain ⟨k, q, lo, hi, g, ks⟩ := t
  obtain ⟨k', q', lo', hi', g', ks'⟩ := u
  simp only [nfT, Tr.mk.injEq] at h
  obtain ⟨rfl, h2, rfl, rfl, rfl, h6⟩ := h
  refine ⟨?_, h6⟩
  simp only [nodeV, Tr.kind, Tr.q, Tr.lo, Tr.hi, Tr.grp]
  rw [wd_nf h2 0 (by omega), wd_nf h2 1 (by omega), wd_nf h2 2 (by omega), wd_nf h2 3 (by omega)]

theorem nfL_len : ∀ ts : List Tr, (nfL ts).length = ts.length
  | [] => by simp only [nfL]
  | t :: ts => by simp only [nfL, List.length_cons, nfL_len ts]

theorem row_nf : ∀ (ts us : List Tr) (vs : List Value), nfL ts = nfL us → rowV ts vs = rowV us vs
  | [], [], _, _ => rfl
  | [], _ :: _, _, h => by simp [nfL] at h
  | _ :: _, [], _, h => by simp [nfL] at h
  | t :: ts, u :: us, [], _ => by simp [rowV]
  | t :: ts, u :: us, v :: vs, h => by
    simp only [nfL, List.cons.injEq] at h
    simp only [rowV]
    rw [(node_nf h.1 v).1, row_nf ts us vs h.2]

theorem nfL_get : ∀ (ts us : List Tr) (i : Nat) (t u : Tr), nfL ts = nfL us → ts[i]? = some t → us[i]? = some u → nfT t = nfT u
  | [], _, _, _, _, _, h, _ => by simp at h
  | _ :: _, [], _, _, _, _, _, h => by simp at h
  | x :: ts, y :: us, 0, t, u, h, h1, h2 => by
    simp only [nfL, List.cons.injEq] at h
    simp only [List.getElem?_cons_zero, Option.some.injEq] at h1 h2
    rw [← h1, ← h2]
    exact h.1
  | x :: ts, y :: us, i + 1, t, u, h, h1, h2 => by
    simp only [nfL, List.cons.injEq] at h
    simp only [List.getElem?_cons_succ] at h1 h2
    exact nfL_get ts us i t u h.2 h1 h2

/-- Trees that can't be told apart lie alike. -/
theorem kids_swap {W : World} {ok : Nat → Prop} {v : Value} {us : List Tr} (h : Kids W ok v us) : ∀ ts, nfL us = nfL ts → Kids W ok v ts := by
  induction h with
  | mk v us vs hl own hok _ ih =>
    intro ts e
    have hlen : us.length = ts.length := by rw [← nfL_len us, e, nfL_len]
    refine .mk v ts vs (by omega) (by rw [← hlen, ← row_nf us ts vs e]; exact own) hok (fun i t u hi hu => ?_)
    have hx : i < us.length := by have := (List.getElem?_eq_some_iff.1 hi).1; omega
    have e2 := nfL_get us ts i us[i] t e (List.getElem?_eq_getElem hx) hi
    exact ih i us[i] u (List.getElem?_eq_getElem hx) hu t.kids (node_nf e2 u).2

theorem neq_fault (a b : Int) (w : World) : (binOp .neq 30 (.agg #[.int .i64 a, .int .i64 b]) (.agg #[.int .i64 a, .int .i64 b])).run Tryd.prog w = .ok (.bool false) w := by
  rw [run_neq_struct, run_equal_fault]
  simp

theorem back_of {s : ByteArray} (h1 : (textX s).2.1 = 0) (hl : (textX s).1.length ≤ 512) : ∃ ts us, parseT s = .ok ts ∧ parseT ⟨(textX s).1.toArray⟩ = .ok us ∧ nfL us = nfL ts ∧ textX ⟨(textX s).1.toArray⟩ = ((textX s).1, 0, 0) := by
  cases hp : parseT s with
  | error x =>
    obtain ⟨er, p⟩ := x
    have e : textX s = ([], er, p) := by unfold textX; rw [hp]
    rw [e] at h1
    exact absurd h1 (parse_place s er p hp).1
  | ok ts =>
    have e1 : textX s = (wrL stC ts, 0, 0) := by unfold textX; rw [hp]
    rw [e1] at hl ⊢
    have e : (⟨(wrL stC ts).toArray⟩ : ByteArray).data.toList = wrL stC ts := by simp
    have hz : (⟨(wrL stC ts).toArray⟩ : ByteArray).size ≤ 512 := by rw [size_of_list', e]; exact hl
    obtain ⟨us, h2, h3⟩ := canon_back hp e hz
    refine ⟨ts, us, rfl, h2, h3, ?_⟩
    have e2 : textX ⟨(wrL stC ts).toArray⟩ = (wrL stC us, 0, 0) := by unfold textX; rw [h2]
    rw [e2, ← wr_nfL us, h3, wr_nfL]

theorem parseX_any (s : ByteArray) (w : World) (hg : Glob w) : Calls Tryd.prog 4 #[.string s] w fun e w' => Below w.heap.size w w' ∧ ∃ a n c, e = .returned (.tuple #[.agg #[.int .i64 0, .int .u64 0, .int .u64 0, .int .u64 0, .int .u64 0, .int .i64 0, .int .i64 0, .int .i64 0, .slice a n c], .agg #[.int .i64 (textX s).2.1, .int .i64 ((textX s).2.2 : Nat)]]) ∧ ∀ ts, parseT s = .ok ts → Kids w' (fun g => w.heap.size ≤ g) (.slice a n c) ts := by
  cases hp : parseT s with
  | ok ts =>
    have e : textX s = (wrL stC ts, 0, 0) := by unfold textX; rw [hp]
    rw [e]
    refine (parse_ok s (by have := (parse_run hp).1; omega) ts hp w hg).mono ?_
    rintro e w' ⟨hb, a, n, c, he, hk⟩
    exact ⟨hb, a, n, c, he, fun us h => by injection h with h; rw [← h]; exact hk⟩
  | error x =>
    obtain ⟨er, p⟩ := x
    have e : textX s = ([], er, p) := by unfold textX; rw [hp]
    rw [e]
    refine (parse_fault s er p hp w hg).mono ?_
    rintro e w' ⟨he, hb⟩
    exact ⟨hb, none, 0, 0, he, fun us h => by cases h⟩

theorem und42 : Tryd.prog.underlying 34 = some (.struct (Tryd.prog.fieldsOf 34)) := by kernel_rfl
theorem held42 : Tryd.prog.stoodInHeld 34 = false := by kernel_rfl
theorem fields42 : (Tryd.prog.fieldsOf 34).toList.map (fun f => (f.type, f.name, f.offset)) = [(3, "Positions", 0), (3, "Groups", 1), (3, "Least", 2), (3, "Most", 3), (4, "Back", 4), (4, "Bol", 5), (4, "Eol", 6)] := by kernel_rfl

/-- Are two measures alike? -/
def Ms.same (a b : Ms) : Bool := decide (a.pos = b.pos) && (decide (a.groups = b.groups) && (decide (a.least = b.least) && (decide (a.most = b.most) && (a.back == b.back && (a.bol == b.bol && a.eol == b.eol)))))

theorem run_equal_ms (a b : Ms) (w : World) : (Op.equalIn 10000 34 (.agg a.arr) (.agg b.arr)).run Tryd.prog w = .ok (a.same b) w := by
  rw [run_equalIn_struct w 9999 34 _ _ und42 held42]
  have h := fields42
  generalize (Tryd.prog.fieldsOf 34).toList = L at h
  obtain ⟨f1, L, rfl, h1, h⟩ := List.map_eq_cons_iff.1 h
  obtain ⟨f2, L, rfl, h2, h⟩ := List.map_eq_cons_iff.1 h
  obtain ⟨f3, L, rfl, h3, h⟩ := List.map_eq_cons_iff.1 h
  obtain ⟨f4, L, rfl, h4, h⟩ := List.map_eq_cons_iff.1 h
  obtain ⟨f5, L, rfl, h5, h⟩ := List.map_eq_cons_iff.1 h
  obtain ⟨f6, L, rfl, h6, h⟩ := List.map_eq_cons_iff.1 h
  obtain ⟨f7, L, rfl, h7, h⟩ := List.map_eq_cons_iff.1 h
  obtain rfl := List.map_eq_nil_iff.1 h
  simp only [Prod.mk.injEq] at h1 h2 h3 h4 h5 h6 h7
  obtain ⟨t1, n1, o1⟩ := h1
  obtain ⟨t2, n2, o2⟩ := h2
  obtain ⟨t3, n3, o3⟩ := h3
  obtain ⟨t4, n4, o4⟩ := h4
  obtain ⟨t5, n5, o5⟩ := h5
  obtain ⟨t6, n6, o6⟩ := h6
  obtain ⟨t7, n7, o7⟩ := h7
  unfold Ms.same
  simp [Op.eqFields, t1, n1, o1, t2, n2, o2, t3, n3, o3, t4, n4, o4, t5, n5, o5, t6, n6, o6, t7, n7, o7, go_sem]
  by_cases c1 : a.pos = b.pos <;> simp [c1]
  by_cases c2 : a.groups = b.groups <;> simp [c2]
  by_cases c3 : a.least = b.least <;> simp [c3]
  by_cases c4 : a.most = b.most <;> simp [c4]
  by_cases c5 : a.back = b.back <;> simp [c5]
  by_cases c6 : a.bol = b.bol <;> simp [c6]
  by_cases c7 : a.eol = b.eol <;> simp [c7]


mutual
theorem ms_nfT : ∀ t : Tr, msT (nfT t) = msT t
  | .mk k q lo hi g kids => by simp only [nfT, msT, ms_nfF kids]
theorem ms_nfF : ∀ (ts : List Tr) (a : Ms), msF a (nfL ts) = msF a ts
  | [], a => by simp only [nfL]
  | t :: ts, a => by simp only [nfL, msF, ms_nfT t, ms_nfF ts]
end

theorem ofM_textX (s : ByteArray) : (ofM s).2 = (textX s).2 := by
  unfold ofM textX
  cases parseT s with
  | ok ts => rfl
  | error x => rfl

theorem ofM_back {s : ByteArray} (h1 : (textX s).2.1 = 0) (hl : (textX s).1.length ≤ 512) : ofM ⟨(textX s).1.toArray⟩ = ((ofM s).1, 0, 0) := by
  obtain ⟨ts, us, hp, hq, hn, he⟩ := back_of h1 hl
  have e1 : ofM s = (msF .zero ts, 0, 0) := by unfold ofM; rw [hp]
  have e2 : ofM ⟨(textX s).1.toArray⟩ = (msF .zero us, 0, 0) := by unfold ofM; rw [hq]
  rw [e1, e2, ← ms_nfF us, hn, ms_nfF]

theorem Ms.same_refl (a : Ms) : a.same a = true := by simp [Ms.same]

theorem eql_ms (a : Ms) (w : World) : (binOp .eql 34 (.agg a.arr) (.agg a.arr)).run Tryd.prog w = .ok (.bool true) w := by
  rw [run_eql_struct, run_equal_ms, Ms.same_refl]
  rfl

theorem awake_end : parseT ⟨#[97, 92]⟩ = .error (6, 1) := by kernel_rfl
end Go.Proofs.YtemgfbidfdhanaaDoor
