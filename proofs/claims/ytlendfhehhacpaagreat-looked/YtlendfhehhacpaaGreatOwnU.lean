/- Looked: for every input nibkeep.Looked returns true, and the arguments read behind the call as they read before. -/
import Derived.Test.YtlendfhehhacpaaGreatU54
set_option linter.unusedVariables false
set_option linter.unusedSimpArgs false
set_option maxRecDepth 100000
set_option maxHeartbeats 8000000
namespace Go.Proofs.YtlendfhehhacpaaGreat
theorem looked_holds : Rows.LookedSaid := lookedP.given anyOk
end Go.Proofs.YtlendfhehhacpaaGreat
