/- Memory: cells of a row read and laid in its middle; bytes copied into it. -/
import Derived.Test.YthpgjbblbhjndaaDoorShaGrow
import Derived.Test.YthpgjbblbhjndaaDoorCuts
import Derived.Laws.CopyRow
namespace Go.Proofs.YthpgjbblbhjndaaDoor
open Go.RowKit

theorem u32s_mem_one (l : List (BitVec 32)) : ∀ v ∈ u32s l, v.oneCell' = true := by
  intro u hu
  simp only [u32s, List.mem_map] at hu
  obtain ⟨x, _, rfl⟩ := hu
  rfl
end Go.Proofs.YthpgjbblbhjndaaDoor
