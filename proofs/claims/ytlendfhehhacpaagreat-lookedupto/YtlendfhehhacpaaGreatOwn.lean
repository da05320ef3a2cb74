/- Looked: for every text and every keys of at most 1048576 letters together nibkeep.Looked returns true, and the arguments read behind the call as they read before. -/
import Derived.Test.YtlendfhehhacpaaGreatP54
import Derived.Test.YtlendfhehhacpaaGreatP50
set_option linter.unusedVariables false
set_option linter.unusedSimpArgs false
set_option maxRecDepth 100000
set_option maxHeartbeats 8000000
namespace Go.Proofs.YtlendfhehhacpaaGreat
theorem looked_holds : Rows.LookedUptoSaid := lookedP.given anyOk
end Go.Proofs.YtlendfhehhacpaaGreat
