/- GhostClashes: the statement. -/
import Derived.Test.YthpgjbblbhjndaaDoorGhostClashesPG
import Derived.Test.YthpgjbblbhjndaaDoorGhostClashesF
namespace Go.Proofs.YthpgjbblbhjndaaDoor

theorem ghostClashes_holds : Rows.GhostClashesCardSaid := ghostClashes_card ghostClashes_walk
#print axioms ghostClashes_holds
end Go.Proofs.YthpgjbblbhjndaaDoor
