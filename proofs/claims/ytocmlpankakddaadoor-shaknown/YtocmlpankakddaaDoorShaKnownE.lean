/- ShaKnown: the statement. -/
import Derived.Test.YtocmlpankakddaaDoorShaKnownP
import Derived.Test.YtocmlpankakddaaDoorShaKnownF
namespace Go.Proofs.YtocmlpankakddaaDoor

theorem shaKnown_holds : Rows.ShaKnownCardSaid := shaKnown_card (fun w hk hh => shaKnown_walk w hk hh)
#print axioms shaKnown_holds
end Go.Proofs.YtocmlpankakddaaDoor
