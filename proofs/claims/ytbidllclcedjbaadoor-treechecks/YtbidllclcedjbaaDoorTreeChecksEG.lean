/- TreeChecks: the statement. -/
import Derived.Test.YtbidllclcedjbaaDoorTreeChecksPG
import Derived.Test.YtbidllclcedjbaaDoorTreeChecksFG
namespace Go.Proofs.YtbidllclcedjbaaDoor

theorem treeChecks_holds : Rows.TreeChecksCardSaid := treeChecks_card treeChecks_walk
#print axioms treeChecks_holds
end Go.Proofs.YtbidllclcedjbaaDoor
