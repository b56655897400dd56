/- MacPads: the statement. -/
import Derived.Test.YtkelfjpnjhjmoaaDoorMacPadsP
import Derived.Test.YtkelfjpnjhjmoaaDoorMacSameF
namespace Go.Proofs.YtkelfjpnjhjmoaaDoor

theorem macPads_holds : Rows.MacPadsCardSaid := macPads_card macPads_walk
#print axioms macPads_holds
end Go.Proofs.YtkelfjpnjhjmoaaDoor
