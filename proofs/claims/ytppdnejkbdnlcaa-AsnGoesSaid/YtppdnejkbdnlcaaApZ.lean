/-
  The package's four functions and awake, for stage 12 (asn).
-/
import Derived.Test.YtppdnejkbdnlcaaApD
import Derived.Test.YtppdnejkbdnlcaaApJ
import Derived.Test.YtppdnejkbdnlcaaApW
import Derived.Test.YtppdnejkbdnlcaaApH
import Derived.Test.YtppdnejkbdnlcaaAnA
namespace Go.Proofs.Ytppdnejkbdnlcaa

theorem pkJoin : PkJoin := pkJoin_of pkSorted
theorem pkWithin : PkWithin := pkWithin_of pkJoin
theorem pkMany : PkMany := pkMany_of pkJoin
theorem pkAwake : PkAwake := awakeR_any pkJoin pkHas pkMany

end Go.Proofs.Ytppdnejkbdnlcaa
