/- GhostTwice: the statement. -/
import Derived.Test.YthpgjbblbhjndaaDoorGhostTwicePG
import Derived.Test.YthpgjbblbhjndaaDoorGhostTwiceF
namespace Go.Proofs.YthpgjbblbhjndaaDoor

theorem ghostTwice_holds : Rows.GhostTwiceCardSaid := ghostTwice_card ghostTwice_walk
#print axioms ghostTwice_holds
end Go.Proofs.YthpgjbblbhjndaaDoor
