/- ShaKnown: the statement. -/
import Derived.Test.YtmilmaljahjgeaaDoorShaKnownP
import Derived.Test.YtmilmaljahjgeaaDoorShaKnownF
namespace Go.Proofs.YtmilmaljahjgeaaDoor

theorem shaKnown_holds : Rows.ShaKnownCardSaid := shaKnown_card (fun w hk hh => shaKnown_walk w hk hh)
#print axioms shaKnown_holds
end Go.Proofs.YtmilmaljahjgeaaDoor
