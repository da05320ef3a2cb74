/- Settled: for every input nibkeep.Settled returns true, and the arguments read behind the call as they read before. -/
import Derived.Test.YtlendfhehhacpaaGreatT54
set_option linter.unusedVariables false
set_option linter.unusedSimpArgs false
set_option maxRecDepth 100000
set_option maxHeartbeats 8000000
namespace Go.Proofs.YtlendfhehhacpaaGreat
theorem settled_holds : Rows.SettledSaid := settledP.given anyOk
end Go.Proofs.YtlendfhehhacpaaGreat
