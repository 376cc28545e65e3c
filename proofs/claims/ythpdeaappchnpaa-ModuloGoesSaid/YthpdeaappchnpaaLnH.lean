/-
  What the reference's From answers, for stage 7 (limb).
-/
import Derived.Test.YthpdeaappchnpaaLimX
import Derived.Test.YthpdeaappchnpaaLnG
namespace Go.Proofs.Ythpdeaappchnpaa
open Go.RowKit
set_option linter.unusedVariables false

end Go.Proofs.Ythpdeaappchnpaa
