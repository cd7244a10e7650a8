/- measure: the numbers of a tree, and how they are put together. -/
import Derived.WalkKit
import Derived.Test.YtgpciekpmdihnaaRows
import Derived.WalkSpells
import Derived.WalkLawsBesides
import Derived.Lib.QuietBelow
import Derived.Laws.OwnMore
import Derived.BigQuiet
import Derived.Below
namespace Go.Proofs.Ytgpciekpmdihnaa
structure Ms where
  pos : Int
  groups : Int
  least : Int
  most : Int
  back : Bool
  bol : Bool
  eol : Bool
def sumM (a b : Int) : Int := if a = -1 ∨ b = -1 then -1 else a + b
def prodM (a b : Int) : Int := if a = 0 ∨ b = 0 then 0 else if a = -1 ∨ b = -1 then -1 else a * b
def Ms.zero : Ms := ⟨0, 0, 0, 0, false, false, false⟩
def Ms.both (a m : Ms) : Ms := ⟨a.pos + m.pos, a.groups + m.groups, a.least + m.least, sumM a.most m.most, a.back || m.back, a.bol || m.bol, a.eol || m.eol⟩
def wrM (lo hi : Int) : Int := if hi = -1 then max lo 1 else hi
def Ms.rep (m : Ms) (lo hi : Int) : Ms := ⟨m.pos * wrM lo hi, m.groups, m.least * lo, prodM hi m.most, m.back, m.bol, m.eol⟩
def Ms.grp (m : Ms) : Ms := ⟨m.pos, m.groups + 1, m.least, m.most, m.back, m.bol, m.eol⟩
end Go.Proofs.Ytgpciekpmdihnaa
/- measure: sum, product and repeated. -/
namespace Go.Proofs.Ytgpciekpmdihnaa
open Go.RowKit
end Go.Proofs.Ytgpciekpmdihnaa
/- measure: repeated. -/
namespace Go.Proofs.Ytgpciekpmdihnaa
open Go.RowKit
end Go.Proofs.Ytgpciekpmdihnaa
