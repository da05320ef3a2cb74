/- Laid: for every input nibkeep.Laid returns true, and the arguments read behind the call as they read before. -/
import Derived.Test.YtlendfhehhacpaaGreatR54
set_option linter.unusedVariables false
set_option linter.unusedSimpArgs false
set_option maxRecDepth 100000
set_option maxHeartbeats 8000000
namespace Go.Proofs.YtlendfhehhacpaaGreat
theorem laid_holds : Rows.LaidSaid := laidP.given anyOk
end Go.Proofs.YtlendfhehhacpaaGreat
