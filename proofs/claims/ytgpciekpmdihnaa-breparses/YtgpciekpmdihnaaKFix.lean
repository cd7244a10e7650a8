/- bracket: what is read, reckoned out: the document's examples. -/
import Derived.Test.YtgpciekpmdihnaaKLoop
import Derived.KernelRfl
namespace Go.Proofs.Ytgpciekpmdihnaa

section
variable (cq : ByteArray → Nat → Bool)

def markG (s : ByteArray) (i : Nat) : It :=
  if closeI s (i + 3) (mkAt s i) = -1 then .err 6
  else if byteAt s (i + 1) = 58 then ⟨classC (s.extract (i + 2) (closeI s (i + 3) (mkAt s i)).toNat), cq (s.extract (i + 2) (closeI s (i + 3) (mkAt s i)).toNat), 0, false, (closeI s (i + 3) (mkAt s i)).toNat + 2⟩
  else if closeI s (i + 3) (mkAt s i) = (i : Int) + 3 then ⟨0, ofP (s.extract (i + 2) (i + 3)), byteAt s (i + 2), byteAt s (i + 1) == 46, i + 5⟩
  else .err 8

def itemG (s : ByteArray) (i : Nat) : It :=
  if i < s.size then (if markedB s i = true then markG cq s i else ⟨0, ofP (s.extract i (i + 1)), byteAt s i, true, i + 1⟩) else .err 6

def rangeG (s : ByteArray) (a : It) : It :=
  if a.next + 1 = s.size then .err 6
  else if a.bound = false then .err 7
  else if (itemG cq s (a.next + 1)).e ≠ 0 then .err (itemG cq s (a.next + 1)).e
  else if (itemG cq s (a.next + 1)).bound = false ∨ joinsB s (itemG cq s (a.next + 1)).next = true ∨ (itemG cq s (a.next + 1)).b < a.b then .err 7
  else ⟨0, spanP a.b.toNat (itemG cq s (a.next + 1)).b.toNat, 0, false, (itemG cq s (a.next + 1)).next⟩

def entryG (s : ByteArray) (i : Nat) : It :=
  if (itemG cq s i).e ≠ 0 then .err (itemG cq s i).e
  else if joinsB s (itemG cq s i).next = true then rangeG cq s (itemG cq s i)
  else ⟨0, (itemG cq s i).q, 0, false, (itemG cq s i).next⟩

def loopG (s : ByteArray) : Nat → Bool → (Nat → Bool) → Nat → It
  | 0, _, _, _ => .err 6
  | f + 1, first, q, i => if first = false ∧ byteAt s i = 93 then ⟨0, q, 0, false, i⟩ else if (entryG cq s i).e ≠ 0 then .err (entryG cq s i).e else loopG s f false (orP q (entryG cq s i).q) (entryG cq s i).next

def parseG (s : ByteArray) (i : Nat) : It :=
  if byteAt s i = 91 then
    if byteAt s (i + 1) = 94 then
      if (loopG cq s (s.size + 2) true noneP (i + 2)).e ≠ 0 then .err (loopG cq s (s.size + 2) true noneP (i + 2)).e
      else ⟨0, notP (loopG cq s (s.size + 2) true noneP (i + 2)).q, 0, false, (loopG cq s (s.size + 2) true noneP (i + 2)).next + 1⟩
    else
      if (loopG cq s (s.size + 2) true noneP (i + 1)).e ≠ 0 then .err (loopG cq s (s.size + 2) true noneP (i + 1)).e
      else ⟨0, (loopG cq s (s.size + 2) true noneP (i + 1)).q, 0, false, (loopG cq s (s.size + 2) true noneP (i + 1)).next + 1⟩
  else .err 1
end

theorem entry_gen (s : ByteArray) (i : Nat) : entryS s i = entryG classQ s i := rfl

theorem loop_gen (s : ByteArray) : ∀ (f : Nat) (first : Bool) (q : Nat → Bool) (i : Nat), loopS s f first q i = loopG classQ s f first q i
  | 0, _, _, _ => rfl
  | f + 1, first, q, i => by
    rw [loopS, loopG, entry_gen]
    split
    · rfl
    · split
      · rfl
      · exact loop_gen s f _ _ _

theorem parse_gen (s : ByteArray) (i : Nat) : parseS s i = parseG classQ s i := by
  unfold parseS parseG
  rw [loop_gen, loop_gen]

/-- The texts, their errors, and the sets of the first eight. -/
def fixT : List (List Nat) := [[91, 97, 98, 99, 93], [91, 94, 97, 93, 120], [91, 93, 97, 93], [91, 97, 45, 99, 45, 93], [91, 91, 46, 45, 46, 93, 45, 48, 93], [91, 97, 91, 93], [91, 45, 45, 48, 93], [91, 91, 61, 97, 61, 93, 98, 93], [91, 97], [91, 93], [91, 91, 58, 100, 105, 103, 105, 116, 93], [91, 91, 58, 110, 105, 120, 58, 93, 93], [91, 91, 46, 97, 98, 46, 93, 93], [91, 99, 45, 97, 93], [91, 91, 58, 100, 105, 103, 105, 116, 58, 93, 45, 122, 93], [91, 97, 45, 91, 61, 99, 61, 93, 93], [91, 97, 45, 99, 45, 101, 93], [91, 97, 45], [91, 91, 58, 100, 105, 103, 105, 116, 58, 93, 45], [91, 94, 93], [91]]
def fixE : List Int := [0, 0, 0, 0, 0, 0, 0, 0, 6, 6, 6, 8, 8, 7, 7, 7, 7, 6, 6, 6, 6]
def fixW : List (Nat → Bool) := [ofP ⟨#[97, 98, 99]⟩, notP (ofP ⟨#[97]⟩), ofP ⟨#[93, 97]⟩, ofP ⟨#[97, 98, 99, 45]⟩, ofP ⟨#[45, 46, 47, 48]⟩, ofP ⟨#[97, 91]⟩, ofP ⟨#[45, 46, 47, 48]⟩, ofP ⟨#[97, 98]⟩]
/-- A text as bytes. -/
def fixB (l : List Nat) : ByteArray := ⟨(l.map fun n => UInt8.ofNat n).toArray⟩

theorem fix_e (cq : ByteArray → Nat → Bool) : fixT.map (fun l => (parseG cq (fixB l) 0).e) = fixE := by kernel_rfl

theorem fix_w (cq : ByteArray → Nat → Bool) : (fixT.take 8).map (fun l => (parseG cq (fixB l) 0).q) = [orP (orP (orP noneP (ofP ⟨#[97]⟩)) (ofP ⟨#[98]⟩)) (ofP ⟨#[99]⟩), notP (orP noneP (ofP ⟨#[97]⟩)), orP (orP noneP (ofP ⟨#[93]⟩)) (ofP ⟨#[97]⟩), orP (orP noneP (spanP 97 99)) (ofP ⟨#[45]⟩), orP noneP (spanP 45 48), orP (orP noneP (ofP ⟨#[97]⟩)) (ofP ⟨#[91]⟩), orP noneP (spanP 45 48), orP (orP noneP (ofP ⟨#[97]⟩)) (ofP ⟨#[98]⟩)] := by kernel_rfl

theorem fix_q : (List.zipWith eqB [orP (orP (orP noneP (ofP ⟨#[97]⟩)) (ofP ⟨#[98]⟩)) (ofP ⟨#[99]⟩), notP (orP noneP (ofP ⟨#[97]⟩)), orP (orP noneP (ofP ⟨#[93]⟩)) (ofP ⟨#[97]⟩), orP (orP noneP (spanP 97 99)) (ofP ⟨#[45]⟩), orP noneP (spanP 45 48), orP (orP noneP (ofP ⟨#[97]⟩)) (ofP ⟨#[91]⟩), orP noneP (spanP 45 48), orP (orP noneP (ofP ⟨#[97]⟩)) (ofP ⟨#[98]⟩)] fixW) = [true, true, true, true, true, true, true, true] := by decide +kernel
end Go.Proofs.Ytgpciekpmdihnaa
