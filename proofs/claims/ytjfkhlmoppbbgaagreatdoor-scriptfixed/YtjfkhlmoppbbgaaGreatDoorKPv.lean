/- bre: Parse, for any text. -/
import Derived.Test.YtjfkhlmoppbbgaaGreatDoorKDet
import Derived.Test.YtjfkhlmoppbbgaaGreatDoorKEntry
import Derived.Test.YtjfkhlmoppbbgaaGreatDoorKPp
import Derived.Test.YtjfkhlmoppbbgaaGreatDoorKPu
import Derived.Laws.StructEq
namespace Go.Proofs.YtjfkhlmoppbbgaaGreatDoor.br
open Go.RowKit

theorem breParse_any (s : ByteArray) (hs : s.size ≤ 1073741824) (w : World) (hg : Glob w) : Calls Tryz.prog 143 #[.string s] w (ParsePost s w) := by
  by_cases h : s.size ≤ 512
  · exact parse_walk s h w hg
  · refine (parse_long s hs (by omega) w).mono ?_
    rintro e w' ⟨rfl, hB⟩
    exact ⟨hB, .inl ⟨2, 0, by unfold parseT; rw [if_pos (by omega)], rfl⟩⟩
end Go.Proofs.YtjfkhlmoppbbgaaGreatDoor.br

/- bre: texts that are reckoned. -/
namespace Go.Proofs.YtjfkhlmoppbbgaaGreatDoor.br
open Go.RowKit

/-- A text n times. -/
def times (l : List Nat) : Nat → List Nat
  | 0 => []
  | n + 1 => times l n ++ l

end Go.Proofs.YtjfkhlmoppbbgaaGreatDoor.br

/- bre: faults held against each other. -/
namespace Go.Proofs.YtjfkhlmoppbbgaaGreatDoor.br
open Go.RowKit

end Go.Proofs.YtjfkhlmoppbbgaaGreatDoor.br

/- bre: calls whose answers are known: awake. -/
namespace Go.Proofs.YtjfkhlmoppbbgaaGreatDoor.br
open Go.RowKit

/-- One tree of a list, cell by cell. -/
theorem kids_at {W : World} {ok : Nat → Prop} {v : Value} {ts : List Tr} (h : Kids W ok v ts) {i : Nat} {t : Tr} (hi : ts[i]? = some t) :
    ∃ g c u, v = .slice (some ⟨g, 0, none⟩) ts.length c ∧ ok g ∧ g < W.heap.size ∧ (∀ (k : Nat) (x : Value), (nodeV t u)[k]? = some x → W.cell? ⟨g, i * 9 + k, none⟩ = some x ∧ W.frozen? ⟨g, i * 9 + k, none⟩ = false) ∧ Kids W ok u t.kids := by
  cases h with
  | mk _ _ vs hl own hok hk =>
    have hlt := (List.getElem?_eq_some_iff.1 hi).1
    obtain ⟨g, c, rfl, _, hg⟩ := own.form (by omega)
    have hv : i < vs.length := by omega
    refine ⟨g, c, vs[i], rfl, hok g rfl, hg, fun k x hx => ?_, hk i t _ hi (List.getElem?_eq_getElem hv)⟩
    have hk9 : k < 9 := (List.getElem?_eq_some_iff.1 hx).1
    exact owns_cell own _ _ ((rowV_get t vs[i] k hk9 ts vs i hi (List.getElem?_eq_getElem hv)).trans hx)

/-- What Parse answers where its answer is known: a tree. -/
theorem parse_ok (s : ByteArray) (hs : s.size ≤ 1073741824) (ts : List Tr) (ht : parseT s = .ok ts) (w : World) (hg : Glob w) :
    Calls Tryz.prog 143 #[.string s] w fun e w' => Below w.heap.size w w' ∧ ∃ (a : Option Addr) (n c : Nat), e = .returned (.tuple #[.agg #[.int .i64 0, .int .u64 0, .int .u64 0, .int .u64 0, .int .u64 0, .int .i64 0, .int .i64 0, .int .i64 0, .slice a n c], .agg #[.int .i64 0, .int .i64 0]]) ∧ Kids w' (fun g => w.heap.size ≤ g) (.slice a n c) ts := by
  refine (breParse_any s hs w hg).mono ?_
  rintro e w' ⟨hB, ⟨er, p, h, _⟩ | ⟨ts', a, n, c, h, he, hk⟩⟩
  · rw [ht] at h; cases h
  · rw [ht] at h
    cases h
    exact ⟨hB, a, n, c, he, hk⟩

/-- A fault. -/
theorem parse_err (s : ByteArray) (hs : s.size ≤ 1073741824) (er : Int) (p : Nat) (ht : parseT s = .error (er, p)) (w : World) (hg : Glob w) :
    Calls Tryz.prog 143 #[.string s] w fun e w' => e = .returned (.tuple #[.agg #[.int .i64 0, .int .u64 0, .int .u64 0, .int .u64 0, .int .u64 0, .int .i64 0, .int .i64 0, .int .i64 0, .slice none 0 0], .agg #[.int .i64 er, .int .i64 (p : Nat)]]) ∧ Below w.heap.size w w' := by
  refine (breParse_any s hs w hg).mono ?_
  rintro e w' ⟨hB, ⟨er', p', h, he⟩ | ⟨ts', a, n, c, h, _⟩⟩
  · rw [ht] at h
    cases h
    exact ⟨he, hB⟩
  · rw [ht] at h; cases h

end Go.Proofs.YtjfkhlmoppbbgaaGreatDoor.br
