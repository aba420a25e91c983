/-
  What every law's row wants of the program.
-/
import Derived.Test.YtjkhbjgfoopomaaGreatBytes
import Derived.ProofKit
import Derived.OpenShut
import Derived.ShutString
import Derived.ChangeOld
import Derived.SizedLaws
namespace Go.Proofs.YtjkhbjgfoopomaaGreat
theorem own : ownKnob Tryz.prog.godebug = none := by kernel_rfl
theorem laidOut : laidOutB Tryz.prog = true := by kernel_rfl
end Go.Proofs.YtjkhbjgfoopomaaGreat
