/- GhostNil: the statement. -/
import Derived.Test.YthpgjbblbhjndaaDoorGhostNilP
import Derived.Test.YthpgjbblbhjndaaDoorGhostNilF
namespace Go.Proofs.YthpgjbblbhjndaaDoor

theorem ghostNil_holds : Rows.GhostNilCardSaid := ghostNil_card ghostNil_walk
#print axioms ghostNil_holds
end Go.Proofs.YthpgjbblbhjndaaDoor
