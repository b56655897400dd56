/- TreeDigests: the statement. -/
import Derived.Test.YtbidllclcedjbaaDoorTreeDigestsPG
import Derived.Test.YtbidllclcedjbaaDoorTreeDigestsFG
namespace Go.Proofs.YtbidllclcedjbaaDoor

theorem treeDigests_holds : Rows.TreeDigestsCardSaid := treeDigests_card treeDigests_walk
#print axioms treeDigests_holds
end Go.Proofs.YtbidllclcedjbaaDoor
