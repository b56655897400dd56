/- TreeBuilds: the statement. -/
import Derived.Test.YtbidllclcedjbaaDoorTreeBuildsPG
import Derived.Test.YtbidllclcedjbaaDoorTreeBuildsFG
namespace Go.Proofs.YtbidllclcedjbaaDoor

theorem treeBuilds_holds : Rows.TreeBuildsCardSaid := treeBuilds_card treeBuilds_walk
#print axioms treeBuilds_holds
end Go.Proofs.YtbidllclcedjbaaDoor
