/- GhostKeeps: the statement. -/
import Derived.Test.YthpgjbblbhjndaaDoorGhostKeepsPG
import Derived.Test.YthpgjbblbhjndaaDoorGhostKeepsF
namespace Go.Proofs.YthpgjbblbhjndaaDoor

theorem ghostKeeps_holds : Rows.GhostKeepsCardSaid := ghostKeeps_card ghostKeeps_walk
#print axioms ghostKeeps_holds
end Go.Proofs.YthpgjbblbhjndaaDoor
