/- Parted: for every input nibkeep.Parted returns true, and the arguments read behind the call as they read before. -/
import Derived.Test.YtlendfhehhacpaaGreatQ54
set_option linter.unusedVariables false
set_option linter.unusedSimpArgs false
set_option maxRecDepth 100000
set_option maxHeartbeats 8000000
namespace Go.Proofs.YtlendfhehhacpaaGreat
theorem parted_holds : Rows.PartedSaid := partedP.given anyOk
end Go.Proofs.YtlendfhehhacpaaGreat
