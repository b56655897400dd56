/- ShaDigests: the statement. -/
import Derived.Test.YtmilmaljahjgeaaDoorShaDigestsP
import Derived.Test.YtmilmaljahjgeaaDoorShaDigestsF
namespace Go.Proofs.YtmilmaljahjgeaaDoor

theorem shaDigests_holds : Rows.ShaDigestsCardSaid := shaDigests_card shaDigests_walk
#print axioms shaDigests_holds
end Go.Proofs.YtmilmaljahjgeaaDoor
