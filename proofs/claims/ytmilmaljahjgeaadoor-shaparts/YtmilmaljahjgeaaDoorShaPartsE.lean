/- ShaParts: the statement. -/
import Derived.Test.YtmilmaljahjgeaaDoorShaPartsP
import Derived.Test.YtmilmaljahjgeaaDoorShaPartsF
namespace Go.Proofs.YtmilmaljahjgeaaDoor

theorem shaParts_holds : Rows.ShaPartsCardSaid := shaParts_card shaParts_walk
#print axioms shaParts_holds
end Go.Proofs.YtmilmaljahjgeaaDoor
