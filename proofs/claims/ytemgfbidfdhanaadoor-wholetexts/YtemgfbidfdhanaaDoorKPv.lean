/- bre: Parse, for any text. -/
import Derived.Test.YtemgfbidfdhanaaDoorKDet
import Derived.Test.YtemgfbidfdhanaaDoorKLoop
import Derived.Test.YtemgfbidfdhanaaDoorKPp
import Derived.Test.YtemgfbidfdhanaaDoorKPu
import Derived.KernelRfl
import Derived.Laws.StructEq
namespace Go.Proofs.YtemgfbidfdhanaaDoor
open Go.RowKit

theorem breParse_any (s : ByteArray) (hs : s.size ≤ 1073741824) (w : World) (hg : Glob w) : Calls Tryd.prog 4 #[.string s] w (ParsePost s w) := by
  by_cases h : s.size ≤ 512
  · exact parse_walk s h w hg
  · refine (parse_long s hs (by omega) w).mono ?_
    rintro e w' ⟨rfl, hB⟩
    exact ⟨hB, .inl ⟨2, 0, by unfold parseT; rw [if_pos (by omega)], rfl⟩⟩
end Go.Proofs.YtemgfbidfdhanaaDoor

/- bracket: what is read, reckoned out: the document's examples. -/
namespace Go.Proofs.YtemgfbidfdhanaaDoor

section
variable (cq : ByteArray → Nat → Bool)

def markG (s : ByteArray) (i : Nat) : It :=
  if closeI s (i + 3) (mkAt s i) = -1 then .err 6
  else if byteAt s (i + 1) = 58 then ⟨classC (s.extract (i + 2) (closeI s (i + 3) (mkAt s i)).toNat), cq (s.extract (i + 2) (closeI s (i + 3) (mkAt s i)).toNat), 0, false, (closeI s (i + 3) (mkAt s i)).toNat + 2⟩
  else if closeI s (i + 3) (mkAt s i) = (i : Int) + 3 then ⟨0, ofP (s.extract (i + 2) (i + 3)), byteAt s (i + 2), byteAt s (i + 1) == 46, i + 5⟩
  else .err 8

def itemG (s : ByteArray) (i : Nat) : It :=
  if i < s.size then (if markedB s i = true then markG cq s i else ⟨0, ofP (s.extract i (i + 1)), byteAt s i, true, i + 1⟩) else .err 6

def rangeG (s : ByteArray) (a : It) : It :=
  if a.next + 1 = s.size then .err 6
  else if a.bound = false then .err 7
  else if (itemG cq s (a.next + 1)).e ≠ 0 then .err (itemG cq s (a.next + 1)).e
  else if (itemG cq s (a.next + 1)).bound = false ∨ joinsB s (itemG cq s (a.next + 1)).next = true ∨ (itemG cq s (a.next + 1)).b < a.b then .err 7
  else ⟨0, spanP a.b.toNat (itemG cq s (a.next + 1)).b.toNat, 0, false, (itemG cq s (a.next + 1)).next⟩

def entryG (s : ByteArray) (i : Nat) : It :=
  if (itemG cq s i).e ≠ 0 then .err (itemG cq s i).e
  else if joinsB s (itemG cq s i).next = true then rangeG cq s (itemG cq s i)
  else ⟨0, (itemG cq s i).q, 0, false, (itemG cq s i).next⟩

def loopG (s : ByteArray) : Nat → Bool → (Nat → Bool) → Nat → It
  | 0, _, _, _ => .err 6
  | f + 1, first, q, i => if first = false ∧ byteAt s i = 93 then ⟨0, q, 0, false, i⟩ else if (entryG cq s i).e ≠ 0 then .err (entryG cq s i).e else loopG s f false (orP q (entryG cq s i).q) (entryG cq s i).next

def parseG (s : ByteArray) (i : Nat) : It :=
  if byteAt s i = 91 then
    if byteAt s (i + 1) = 94 then
      if (loopG cq s (s.size + 2) true noneP (i + 2)).e ≠ 0 then .err (loopG cq s (s.size + 2) true noneP (i + 2)).e
      else ⟨0, notP (loopG cq s (s.size + 2) true noneP (i + 2)).q, 0, false, (loopG cq s (s.size + 2) true noneP (i + 2)).next + 1⟩
    else
      if (loopG cq s (s.size + 2) true noneP (i + 1)).e ≠ 0 then .err (loopG cq s (s.size + 2) true noneP (i + 1)).e
      else ⟨0, (loopG cq s (s.size + 2) true noneP (i + 1)).q, 0, false, (loopG cq s (s.size + 2) true noneP (i + 1)).next + 1⟩
  else .err 1
end

theorem entry_gen (s : ByteArray) (i : Nat) : entryS s i = entryG classQ s i := rfl

theorem loop_gen (s : ByteArray) : ∀ (f : Nat) (first : Bool) (q : Nat → Bool) (i : Nat), loopS s f first q i = loopG classQ s f first q i
  | 0, _, _, _ => rfl
  | f + 1, first, q, i => by
    rw [loopS, loopG, entry_gen]
    split
    · rfl
    · split
      · rfl
      · exact loop_gen s f _ _ _

theorem parse_gen (s : ByteArray) (i : Nat) : parseS s i = parseG classQ s i := by
  unfold parseS parseG
  rw [loop_gen, loop_gen]

/-- The texts, their errors, and the sets of the first eight. -/
def fixT : List (List Nat) := [[91, 97, 98, 99, 93], [91, 94, 97, 93, 120], [91, 93, 97, 93], [91, 97, 45, 99, 45, 93], [91, 91, 46, 45, 46, 93, 45, 48, 93], [91, 97, 91, 93], [91, 45, 45, 48, 93], [91, 91, 61, 97, 61, 93, 98, 93], [91, 97], [91, 93], [91, 91, 58, 100, 105, 103, 105, 116, 93], [91, 91, 58, 110, 105, 120, 58, 93, 93], [91, 91, 46, 97, 98, 46, 93, 93], [91, 99, 45, 97, 93], [91, 91, 58, 100, 105, 103, 105, 116, 58, 93, 45, 122, 93], [91, 97, 45, 91, 61, 99, 61, 93, 93], [91, 97, 45, 99, 45, 101, 93], [91, 97, 45], [91, 91, 58, 100, 105, 103, 105, 116, 58, 93, 45], [91, 94, 93], [91]]
def fixE : List Int := [0, 0, 0, 0, 0, 0, 0, 0, 6, 6, 6, 8, 8, 7, 7, 7, 7, 6, 6, 6, 6]
def fixW : List (Nat → Bool) := [ofP ⟨#[97, 98, 99]⟩, notP (ofP ⟨#[97]⟩), ofP ⟨#[93, 97]⟩, ofP ⟨#[97, 98, 99, 45]⟩, ofP ⟨#[45, 46, 47, 48]⟩, ofP ⟨#[97, 91]⟩, ofP ⟨#[45, 46, 47, 48]⟩, ofP ⟨#[97, 98]⟩]
/-- A text as bytes. -/
def fixB (l : List Nat) : ByteArray := ⟨(l.map fun n => UInt8.ofNat n).toArray⟩

theorem fix_e (cq : ByteArray → Nat → Bool) : fixT.map (fun l => (parseG cq (fixB l) 0).e) = fixE := by kernel_rfl

theorem fix_w (cq : ByteArray → Nat → Bool) : (fixT.take 8).map (fun l => (parseG cq (fixB l) 0).q) = [orP (orP (orP noneP (ofP ⟨#[97]⟩)) (ofP ⟨#[98]⟩)) (ofP ⟨#[99]⟩), notP (orP noneP (ofP ⟨#[97]⟩)), orP (orP noneP (ofP ⟨#[93]⟩)) (ofP ⟨#[97]⟩), orP (orP noneP (spanP 97 99)) (ofP ⟨#[45]⟩), orP noneP (spanP 45 48), orP (orP noneP (ofP ⟨#[97]⟩)) (ofP ⟨#[91]⟩), orP noneP (spanP 45 48), orP (orP noneP (ofP ⟨#[97]⟩)) (ofP ⟨#[98]⟩)] := by kernel_rfl

theorem fix_q : (List.zipWith eqB [orP (orP (orP noneP (ofP ⟨#[97]⟩)) (ofP ⟨#[98]⟩)) (ofP ⟨#[99]⟩), notP (orP noneP (ofP ⟨#[97]⟩)), orP (orP noneP (ofP ⟨#[93]⟩)) (ofP ⟨#[97]⟩), orP (orP noneP (spanP 97 99)) (ofP ⟨#[45]⟩), orP noneP (spanP 45 48), orP (orP noneP (ofP ⟨#[97]⟩)) (ofP ⟨#[91]⟩), orP noneP (spanP 45 48), orP (orP noneP (ofP ⟨#[97]⟩)) (ofP ⟨#[98]⟩)] fixW) = [true, true, true, true, true, true, true, true] := by decide +kernel
end Go.Proofs.YtemgfbidfdhanaaDoor

/- bre: texts that are reckoned. -/
namespace Go.Proofs.YtemgfbidfdhanaaDoor
open Go.RowKit

theorem awake_tree : parseT ⟨#[97, 92, 40, 98, 92, 41, 42]⟩ = .ok [byteT (selfP 97), repT 0 (-1) (groupT 1 [byteT (selfP 98)])] := by kernel_rfl
theorem awake_fault : parseT ⟨#[97, 92, 40]⟩ = .error (10, 1) := by kernel_rfl

/-- The fault, or none. -/
def faultOf (r : Except (Int × Nat) (List Tr)) : Int × Nat := match r with | .error x => x | .ok _ => (0, 0)

def fixTx : List (List Nat) := [[92, 40, 97, 92, 49, 92, 41], [92, 49], [97, 92], [92, 40, 97], [97, 92, 41], [92, 123, 50, 92, 125], [97, 92, 123, 50], [97, 92, 123, 51, 44, 50, 92, 125], [97, 92, 123, 50, 53, 54, 92, 125], [92, 119], [91, 97], [97, 92, 123, 50, 53, 53, 92, 125, 98, 99], [92, 40, 97, 92, 123, 49, 54, 92, 125, 92, 41, 92, 123, 49, 55, 92, 125], [92, 40, 92, 40, 97], [97, 92, 125], [94, 92, 123, 49, 92, 125], [92, 40, 92, 123, 49, 92, 125, 92, 41], [97, 92, 123, 44, 50, 92, 125], [97, 92, 48], [92, 40, 97, 92, 41, 92, 50]]
def fixFx : List (Int × Nat) := [(11, 3), (11, 0), (6, 1), (10, 0), (10, 1), (9, 0), (9, 1), (9, 1), (9, 1), (12, 0), (6, 0), (13, 9), (13, 11), (10, 2), (9, 1), (9, 1), (9, 2), (9, 1), (12, 1), (11, 5)]

/-- A text n times. -/
def times (l : List Nat) : Nat → List Nat
  | 0 => []
  | n + 1 => times l n ++ l

theorem fix_nine : faultOf (parseT (fixB (times [92, 40, 92, 41] 9))) = (0, 0) := by kernel_rfl
theorem fix_ten : faultOf (parseT (fixB (times [92, 40, 92, 41] 9 ++ [92, 40, 92, 41]))) = (4, 36) := by kernel_rfl
theorem fix_long : faultOf (parseT (fixB (times [91, 97, 98, 93] 128))) = (0, 0) := by kernel_rfl
theorem fix_many : faultOf (parseT (fixB [97, 92, 123, 50, 53, 53, 92, 125, 98])) = (0, 0) := by kernel_rfl

theorem fix_faults : fixTx.map (fun l => faultOf (parseT (fixB l))) = fixFx := by kernel_rfl
end Go.Proofs.YtemgfbidfdhanaaDoor

/- bre: faults held against each other. -/
namespace Go.Proofs.YtemgfbidfdhanaaDoor
open Go.RowKit

theorem und30 : Tryd.prog.underlying 30 = some (.struct (Tryd.prog.fieldsOf 30)) := by kernel_rfl
theorem held30 : Tryd.prog.stoodInHeld 30 = false := by kernel_rfl
theorem fields30 : (Tryd.prog.fieldsOf 30).toList.map (fun f => (f.type, f.name, f.offset)) = [(28, "E", 0), (3, "At", 1)] := by kernel_rfl

theorem run_equal_fault (a b c d : Int) (w : World) : (Op.equalIn 10000 30 (.agg #[.int .i64 a, .int .i64 b]) (.agg #[.int .i64 c, .int .i64 d])).run Tryd.prog w = .ok (decide (a = c) && decide (b = d)) w := by
  rw [run_equalIn_struct w 9999 30 _ _ und30 held30]
  have h := fields30
  generalize (Tryd.prog.fieldsOf 30).toList = L at h
  obtain ⟨f1, L1, rfl, h1, h2⟩ := List.map_eq_cons_iff.1 h
  obtain ⟨f2, L2, rfl, h3, h4⟩ := List.map_eq_cons_iff.1 h2
  obtain rfl := List.map_eq_nil_iff.1 h4
  simp only [Prod.mk.injEq] at h1 h3
  obtain ⟨t1, n1, o1⟩ := h1
  obtain ⟨t2, n2, o2⟩ := h3
  simp [Op.eqFields, t1, n1, o1, t2, n2, o2, go_sem]
  by_cases ha : a = c <;> by_cases hb : b = d <;> simp [ha, hb]
end Go.Proofs.YtemgfbidfdhanaaDoor

/- bre: calls whose answers are known: awake. -/
namespace Go.Proofs.YtemgfbidfdhanaaDoor
open Go.RowKit

/-- One tree of a list, cell by cell. -/
theorem kids_at {W : World} {ok : Nat → Prop} {v : Value} {ts : List Tr} (h : Kids W ok v ts) {i : Nat} {t : Tr} (hi : ts[i]? = some t) :
    ∃ g c u, v = .slice (some ⟨g, 0, none⟩) ts.length c ∧ ok g ∧ g < W.heap.size ∧ (∀ (k : Nat) (x : Value), (nodeV t u)[k]? = some x → W.cell? ⟨g, i * 9 + k, none⟩ = some x ∧ W.frozen? ⟨g, i * 9 + k, none⟩ = false) ∧ Kids W ok u t.kids := by
  cases h with
  | mk _ _ vs hl own hok hk =>
    have hlt := (List.getElem?_eq_some_iff.1 hi).1
    obtain ⟨g, c, rfl, _, hg⟩ := own.form (by omega)
    have hv : i < vs.length := by omega
    refine ⟨g, c, vs[i], rfl, hok g rfl, hg, fun k x hx => ?_, hk i t _ hi (List.getElem?_eq_getElem hv)⟩
    have hk9 : k < 9 := (List.getElem?_eq_some_iff.1 hx).1
    exact owns_cell own _ _ ((rowV_get t vs[i] k hk9 ts vs i hi (List.getElem?_eq_getElem hv)).trans hx)

/-- What Parse answers where its answer is known: a tree. -/
theorem parse_ok (s : ByteArray) (hs : s.size ≤ 1073741824) (ts : List Tr) (ht : parseT s = .ok ts) (w : World) (hg : Glob w) :
    Calls Tryd.prog 4 #[.string s] w fun e w' => Below w.heap.size w w' ∧ ∃ (a : Option Addr) (n c : Nat), e = .returned (.tuple #[.agg #[.int .i64 0, .int .u64 0, .int .u64 0, .int .u64 0, .int .u64 0, .int .i64 0, .int .i64 0, .int .i64 0, .slice a n c], .agg #[.int .i64 0, .int .i64 0]]) ∧ Kids w' (fun g => w.heap.size ≤ g) (.slice a n c) ts := by
  refine (breParse_any s hs w hg).mono ?_
  rintro e w' ⟨hB, ⟨er, p, h, _⟩ | ⟨ts', a, n, c, h, he, hk⟩⟩
  · rw [ht] at h; cases h
  · rw [ht] at h
    cases h
    exact ⟨hB, a, n, c, he, hk⟩

/-- A fault. -/
theorem parse_err (s : ByteArray) (hs : s.size ≤ 1073741824) (er : Int) (p : Nat) (ht : parseT s = .error (er, p)) (w : World) (hg : Glob w) :
    Calls Tryd.prog 4 #[.string s] w fun e w' => e = .returned (.tuple #[.agg #[.int .i64 0, .int .u64 0, .int .u64 0, .int .u64 0, .int .u64 0, .int .i64 0, .int .i64 0, .int .i64 0, .slice none 0 0], .agg #[.int .i64 er, .int .i64 (p : Nat)]]) ∧ Below w.heap.size w w' := by
  refine (breParse_any s hs w hg).mono ?_
  rintro e w' ⟨hB, ⟨er', p', h, he⟩ | ⟨ts', a, n, c, h, _⟩⟩
  · rw [ht] at h
    cases h
    exact ⟨he, hB⟩
  · rw [ht] at h; cases h

theorem below_next {a b c : World} (h : Below a.heap.size a b) (k : Below b.heap.size b c) : Below a.heap.size a c := h.trans (k.mono h.size)

end Go.Proofs.YtemgfbidfdhanaaDoor
