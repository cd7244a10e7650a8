/- bracket: what is read, reckoned out: the document's examples. -/
import Derived.Test.YtgpciekpmdihnaaKLoop
import Derived.KernelRfl
namespace Go.Proofs.Ytgpciekpmdihnaa
section
variable (cq : ByteArray → Nat → Bool)
end
end Go.Proofs.Ytgpciekpmdihnaa
