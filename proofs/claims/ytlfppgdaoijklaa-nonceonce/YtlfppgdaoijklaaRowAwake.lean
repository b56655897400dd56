/- The document's example (awake). -/
import Derived.Test.YtlfppgdaoijklaaRowPut
namespace Go.Proofs.Ytlfppgdaoijklaa
open Go.RowKit

theorem lit_ow (w : World) (zs : List Nat) (hz : ∀ z ∈ zs, z < 256) (hl : zs.length ≤ 281474976710656) : Ow (w.alloc (.cells (u8s zs).toArray 5)) w.heap.size (.slice (some ⟨w.heap.size, 0, none⟩) zs.length zs.length) zs :=
  block_own (heap_alloc_new w _) (Nat.le_refl _) hz hl
theorem Bs.drewN {w : World} {v : Value} {zs : List Nat} (h : Bs w v zs) (d : Nat) : Bs (w.drewN d) v zs := h.below (below_drewN (Below.refl _ _) d)

end Go.Proofs.Ytlfppgdaoijklaa
