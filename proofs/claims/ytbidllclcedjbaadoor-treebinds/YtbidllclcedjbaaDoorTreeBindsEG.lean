/- TreeBinds: the statement. -/
import Derived.Test.YtbidllclcedjbaaDoorTreeBindsPG
import Derived.Test.YtbidllclcedjbaaDoorTreeBindsFG
namespace Go.Proofs.YtbidllclcedjbaaDoor

theorem treeBinds_holds : Rows.TreeBindsCardSaid := treeBinds_card treeBinds_walk
#print axioms treeBinds_holds
end Go.Proofs.YtbidllclcedjbaaDoor
