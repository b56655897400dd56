/- TreeKids: the statement. -/
import Derived.Test.YtbidllclcedjbaaDoorTreeKidsPG
import Derived.Test.YtbidllclcedjbaaDoorTreeKidsFG
namespace Go.Proofs.YtbidllclcedjbaaDoor

theorem treeKids_holds : Rows.TreeKidsCardSaid := treeKids_card treeKids_walk
#print axioms treeKids_holds
end Go.Proofs.YtbidllclcedjbaaDoor
