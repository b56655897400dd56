/- ShaGoesOn: the statement. -/
import Derived.Test.YtmilmaljahjgeaaDoorShaGoesP
import Derived.Test.YtmilmaljahjgeaaDoorShaGoesOnF
namespace Go.Proofs.YtmilmaljahjgeaaDoor

theorem shaGoesOn_holds : Rows.ShaGoesOnCardSaid := shaGoesOn_card shaGoesOn_walk
#print axioms shaGoesOn_holds
end Go.Proofs.YtmilmaljahjgeaaDoor
