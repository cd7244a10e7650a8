/- bre: Parse, for any text. -/
import Derived.Test.YtolpakpdkheanaaKDet
import Derived.Test.YtolpakpdkheanaaKEntry
import Derived.Test.YtolpakpdkheanaaKPp
import Derived.Test.YtolpakpdkheanaaKPu
import Derived.Laws.StructEq
namespace Go.Proofs.Ytolpakpdkheanaa.br
open Go.RowKit
theorem xfd (s : ByteArray) (hs : s.size ≤ 1073741824) (w : World) (hg : Glob w) : Calls Try.prog 14 #[.string s] w (xjm s w) := by
 by_cases h : s.size ≤ 512
 ·exact xnt s h w hg
 ·refine (xnr s hs (by omega) w).mono ?_
  rintro e w' ⟨rfl, hB⟩
  exact ⟨hB, .inl ⟨2, 0, by unfold parseT; rw [if_pos (by omega)], rfl⟩⟩
def times (l : List Nat) : Nat → List Nat
 | 0 => []
 | n + 1 => times l n ++ l
theorem kids_at {W : World} {ok : Nat → Prop} {v : Value} {ts : List Tr} (h : Kids W ok v ts) {i : Nat} {t : Tr} (hi : ts[i]? = some t) :
  ∃ g c u, v = .slice (some ⟨g, 0, none⟩) ts.length c ∧ ok g ∧ g < W.heap.size ∧ (∀ (k : Nat) (x : Value), (xex t u)[k]? = some x → W.cell? ⟨g, i * 9 + k, none⟩ = some x ∧ W.frozen? ⟨g, i * 9 + k, none⟩ = false) ∧ Kids W ok u t.kids := by
 cases h with
 | mk _ _ vs hl own hok hk =>
  have hlt := (List.getElem?_eq_some_iff.1 hi).1
  obtain ⟨g, c, rfl, _, hg⟩ := own.form (by omega)
  have hv : i < vs.length := by omega
  refine ⟨g, c, vs[i], rfl, hok g rfl, hg, fun k x hx => ?_, hk i t _ hi (List.getElem?_eq_getElem hv)⟩
  have hk9 : k < 9 := (List.getElem?_eq_some_iff.1 hx).1
  exact xbx own _ _ ((xmg t vs[i] k hk9 ts vs i hi (List.getElem?_eq_getElem hv)).trans hx)
theorem parse_ok (s : ByteArray) (hs : s.size ≤ 1073741824) (ts : List Tr) (ht : parseT s = .ok ts) (w : World) (hg : Glob w) :
  Calls Try.prog 14 #[.string s] w fun e w' => Below w.heap.size w w' ∧ ∃ (a : Option Addr) (n c : Nat), e = .returned (.tuple #[.agg #[.int .i64 0, .int .u64 0, .int .u64 0, .int .u64 0, .int .u64 0, .int .i64 0, .int .i64 0, .int .i64 0, .slice a n c], .agg #[.int .i64 0, .int .i64 0]]) ∧ Kids w' (fun g => w.heap.size ≤ g) (.slice a n c) ts := by
 refine (xfd s hs w hg).mono ?_
 rintro e w' ⟨hB, ⟨er, p, h, _⟩ | ⟨ts', a, n, c, h, he, hk⟩⟩
 ·rw [ht] at h; cases h
 ·rw [ht] at h
  cases h
  exact ⟨hB, a, n, c, he, hk⟩
theorem xp2 (s : ByteArray) (hs : s.size ≤ 1073741824) (er : Int) (p : Nat) (ht : parseT s = .error (er, p)) (w : World) (hg : Glob w) :
  Calls Try.prog 14 #[.string s] w fun e w' => e = .returned (.tuple #[.agg #[.int .i64 0, .int .u64 0, .int .u64 0, .int .u64 0, .int .u64 0, .int .i64 0, .int .i64 0, .int .i64 0, .slice none 0 0], .agg #[.int .i64 er, .int .i64 p]]) ∧ Below w.heap.size w w' := by
 refine (xfd s hs w hg).mono ?_
 rintro e w' ⟨hB, ⟨er', p', h, he⟩ | ⟨ts', a, n, c, h, _⟩⟩
 ·rw [ht] at h
  cases h
  exact ⟨he, hB⟩
 ·rw [ht] at h; cases h
end Go.Proofs.Ytolpakpdkheanaa.br
