/- ShaGrows: the statement. -/
import Derived.Test.YtmilmaljahjgeaaDoorShaGrowsP
import Derived.Test.YtmilmaljahjgeaaDoorShaGrowsF
namespace Go.Proofs.YtmilmaljahjgeaaDoor

theorem shaGrows_holds : Rows.ShaGrowsCardSaid := shaGrows_card shaGrows_walk
#print axioms shaGrows_holds
end Go.Proofs.YtmilmaljahjgeaaDoor
