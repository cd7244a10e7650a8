/- check, pure: how many addresses each command may have. -/
import Derived.Test.YtdlceppiblodmaaCb
namespace Go.Proofs.Ytdlceppiblodmaa
namespace chkP

def mostR (b : UInt8) : Int :=
  if ([58, 125] : List UInt8).contains b then 0
  else if ([97, 105, 114, 113, 61] : List UInt8).contains b then 1
  else if ([123, 98, 99, 100, 68, 103, 71, 104, 72, 108, 110, 78, 112, 80, 115, 116, 119, 120, 121] : List UInt8).contains b then 2
  else -1
/-- The four commands of a name: two addresses, one, the second alone, none with a !. -/
def fourR (k : Int) (b : UInt8) : List Cm := [⟨0, k, k, false, b, [120]⟩, ⟨0, k, 0, false, b, [120]⟩, ⟨0, 0, k, false, b, [120]⟩, ⟨0, 0, 0, true, b, [120]⟩]
def fitR (b : UInt8) : List Bool := [decide (mostR b = 2), decide (1 ≤ mostR b), false, decide (1 ≤ mostR b)]
def addrB (k : Int) (b : UInt8) : Bool := ((fourR k b).zip (fitR b)).all fun p =>
  let e := (chkR [cm 123 0, p.1]).1
  ((decide (e = 17) || decide (e = 18)) != p.2) && (decide (e = 18) == decide (mostR b < 0))
set_option maxRecDepth 100000 in
theorem addrs_all : ∀ b, b < 256 → addrB 2 (UInt8.ofNat b) = true := by decide +kernel
end chkP
end Go.Proofs.Ytdlceppiblodmaa
