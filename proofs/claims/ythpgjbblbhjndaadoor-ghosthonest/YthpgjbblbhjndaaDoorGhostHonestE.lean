/- GhostHonest: the statement. -/
import Derived.Test.YthpgjbblbhjndaaDoorGhostHonestP
import Derived.Test.YthpgjbblbhjndaaDoorGhostHonestF
namespace Go.Proofs.YthpgjbblbhjndaaDoor

theorem ghostHonest_holds : Rows.GhostHonestCardSaid := ghostHonest_card ghostHonest_walk
#print axioms ghostHonest_holds
end Go.Proofs.YthpgjbblbhjndaaDoor
