/- MacKeys: the statement. -/
import Derived.Test.YtkelfjpnjhjmoaaDoorMacKeysP
import Derived.Test.YtkelfjpnjhjmoaaDoorMacSameF
namespace Go.Proofs.YtkelfjpnjhjmoaaDoor

theorem macKeys_holds : Rows.MacKeysCardSaid := macKeys_card macKeys_walk
#print axioms macKeys_holds
end Go.Proofs.YtkelfjpnjhjmoaaDoor
