/- Goes: for every script of at most 1048576 values and letters (each counted each time it is reached) niblaw.Goes returns true, and the script reads behind the call as it read before. -/
import Derived.Test.YtlendfhehhacpaaGreatP52
import Derived.Test.YtlendfhehhacpaaGreatP47
set_option linter.unusedVariables false
set_option linter.unusedSimpArgs false
set_option maxRecDepth 100000
set_option maxHeartbeats 8000000
namespace Go.Proofs.YtlendfhehhacpaaGreat
theorem goes_holds : Rows.GoesUptoSaid := goesP.given anyOk
end Go.Proofs.YtlendfhehhacpaaGreat
