/- TreePaths: the statement. -/
import Derived.Test.YtmlladpmecclbaaDoorTreePathsPG
import Derived.Test.YtmlladpmecclbaaDoorTreePathsFG
namespace Go.Proofs.YtmlladpmecclbaaDoor

theorem treePaths_holds : Rows.TreePathsCardSaid := treePaths_card treePaths_walk
#print axioms treePaths_holds
end Go.Proofs.YtmlladpmecclbaaDoor
