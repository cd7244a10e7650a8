/- bracket: the expression that awake reads: [a-c]. -/
import Derived.Test.YtolkbemclkgmmaaParse
namespace Go.Proofs.Ytolkbemclkgmmaa
open Go.RowKit

abbrev abcx : ByteArray := ⟨#[91, 97, 45, 99, 93, 120]⟩

theorem item_plain (s : ByteArray) (i : Nat) (h : i < s.size) (hm : markedB s i = false) : itemS s i = ⟨0, ofP (s.extract i (i + 1)), byteAt s i, true, i + 1⟩ := by
  rw [itemS, if_pos h, if_neg (by simp [hm])]

theorem abc_parse : parseX abcx 0 = ⟨0, orP noneP (spanP 97 99), 0, false, 5⟩ := by
  have b0 : byteAt abcx 0 = 91 := by decide
  have b1 : byteAt abcx 1 = 97 := by decide
  have b2 : byteAt abcx 2 = 45 := by decide
  have b3 : byteAt abcx 3 = 99 := by decide
  have b4 : byteAt abcx 4 = 93 := by decide
  have hsz : abcx.size = 6 := by decide
  have i1 : itemS abcx 1 = ⟨0, ofP (abcx.extract 1 2), 97, true, 2⟩ := by rw [item_plain abcx 1 (by decide) (by decide), b1]
  have i3 : itemS abcx 3 = ⟨0, ofP (abcx.extract 3 4), 99, true, 4⟩ := by rw [item_plain abcx 3 (by decide) (by decide), b3]
  have j2 : joinsB abcx 2 = true := by decide
  have j4 : joinsB abcx 4 = false := by decide
  have e1 : entryS abcx 1 = ⟨0, spanP 97 99, 0, false, 4⟩ := by
    unfold entryS rangeS
    rw [i1]
    simp only [i3, j2, j4, hsz]
    simp
  have l1 : loopS abcx (6 + 2) true noneP 1 = ⟨0, orP noneP (spanP 97 99), 0, false, 4⟩ := by
    rw [loopS_next abcx 7 true noneP 1 (by simp) (by rw [e1]), e1]
    exact loopS_close abcx 6 _ 4 b4
  have hp : parseX abcx 0 = parseS abcx 0 := by rw [parseX, if_pos (by decide)]; rfl
  rw [hp]
  unfold parseS
  rw [if_pos b0, if_neg (by rw [b1]; decide), hsz]
  simp only [Nat.zero_add, l1]
  simp
end Go.Proofs.Ytolkbemclkgmmaa
