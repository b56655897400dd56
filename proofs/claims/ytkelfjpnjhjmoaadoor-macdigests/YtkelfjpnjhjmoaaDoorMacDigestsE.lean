/- MacDigests: the statement. -/
import Derived.Test.YtkelfjpnjhjmoaaDoorMacDigestsP
import Derived.Test.YtkelfjpnjhjmoaaDoorMacDigestsF
namespace Go.Proofs.YtkelfjpnjhjmoaaDoor

theorem macDigests_holds : Rows.MacDigestsCardSaid := macDigests_card macDigests_walk
#print axioms macDigests_holds
end Go.Proofs.YtkelfjpnjhjmoaaDoor
