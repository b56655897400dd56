/- row: Num. -/
import Derived.Test.YtlfppgdaoijklaaRowTake
import Derived.Test.YtlfppgdaoijklaaVals
import Derived.Laws.BitsAllLaws
namespace Go.Proofs.Ytlfppgdaoijklaa
open Go.RowKit

end Go.Proofs.Ytlfppgdaoijklaa
