/- GhostForges: the statement. -/
import Derived.Test.YthpgjbblbhjndaaDoorGhostForgesPG
import Derived.Test.YthpgjbblbhjndaaDoorGhostForgesF
namespace Go.Proofs.YthpgjbblbhjndaaDoor

theorem ghostForges_holds : Rows.GhostForgesCardSaid := ghostForges_card ghostForges_walk
#print axioms ghostForges_holds
end Go.Proofs.YthpgjbblbhjndaaDoor
