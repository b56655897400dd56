/- MacSame: the statement. -/
import Derived.Test.YtkelfjpnjhjmoaaDoorMacSameP
import Derived.Test.YtkelfjpnjhjmoaaDoorMacSameF
namespace Go.Proofs.YtkelfjpnjhjmoaaDoor

theorem macSame_holds : Rows.MacSameCardSaid := macSame_card macSame_walk
#print axioms macSame_holds
end Go.Proofs.YtkelfjpnjhjmoaaDoor
