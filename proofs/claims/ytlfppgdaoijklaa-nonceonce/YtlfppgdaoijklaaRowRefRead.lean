/- The reference's reader: Num, Take, Left, End. -/
import Derived.Test.YtlfppgdaoijklaaRowRefPut
import Derived.Deep.RegionWith
import Derived.BigRegion
namespace Go.Proofs.Ytlfppgdaoijklaa
open Go.RowKit

end Go.Proofs.Ytlfppgdaoijklaa
