/- MacTurned: the statement. -/
import Derived.Test.YtkelfjpnjhjmoaaDoorMacTurnedP
import Derived.Test.YtkelfjpnjhjmoaaDoorMacSameF
namespace Go.Proofs.YtkelfjpnjhjmoaaDoor

theorem macTurned_holds : Rows.MacTurnedCardSaid := macTurned_card macTurned_walk
#print axioms macTurned_holds
end Go.Proofs.YtkelfjpnjhjmoaaDoor
