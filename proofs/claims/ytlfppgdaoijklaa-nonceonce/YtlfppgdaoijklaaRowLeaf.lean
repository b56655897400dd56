/- row: isSize, bytes.Clone, New, Left, Fault, End: the small ones. -/
import Derived.Test.YtlfppgdaoijklaaSizes
import Derived.Test.YtlfppgdaoijklaaBytesLeaf
import Derived.Laws.Cover3
import Derived.Laws.Pointers
namespace Go.Proofs.Ytlfppgdaoijklaa
open Go.RowKit

theorem Ow.slice {w : World} {base : Nat} {v : Value} {zs : List Nat} (h : Ow w base v zs) : ∃ ao n cap, v = .slice ao n cap := by
  obtain ⟨ao, cap, e, _⟩ := h.bs.gen; exact ⟨_, _, _, e⟩

end Go.Proofs.Ytlfppgdaoijklaa
