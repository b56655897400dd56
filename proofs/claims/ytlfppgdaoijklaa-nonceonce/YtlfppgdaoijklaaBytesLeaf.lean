/- bytes.Clone, bytes.Equal; rows made of literals. -/
import Derived.Test.YtlfppgdaoijklaaRefBytes
import Derived.Test.YtlfppgdaoijklaaBlocks
import Derived.Laws.Cover3
import Derived.Laws.Pointers
import Derived.Laws.BitsAllLaws
import Derived.Laws.CopyOwn
import Derived.Laws.IdiomStrings
import Derived.Great.BuildSlice
import Derived.Great.FillDense
namespace Go.Proofs.Ytlfppgdaoijklaa
open Go.RowKit

theorem nil_eql (w : World) (ao : Option Addr) (n cap : Nat) : Sem.run Try.prog (binOp .eql 44 (.slice ao n cap) (.slice none 0 0)) w = .ok (.bool ao.isNone) w := by
  have h := run_equal_slice_nil (P := Try.prog) w 44 5 ao n cap Try.underlying44
  simp [binOp, h]

/-- A row made of some values. -/
theorem run_rowlit {t e : TypeId} {s : Nat} {z : Value} {ie : TypeInfo} (w : World) (hu : Try.prog.underlying t = some (.slice e)) (hie : Try.prog.info? e = some ie) (hz : ie.zero = some z) (hsz : ie.size = s) (hs : 0 < s) (vs : List Value) (hv : ∀ v ∈ vs, v.cells.size = s) (h0 : 0 < vs.length) (hl : vs.length * s ≤ 16777216)
    (parts : Array (Nat × Value)) (hp : parts.toList = (vs.zipIdx 0).map fun x => (x.2, x.1)) :
    (Instr.buildSlice t vs.length parts).run Try.prog w = .ok (.slice (some ⟨w.heap.size, 0, none⟩) vs.length vs.length) (w.alloc (.cells (vs.flatMap fun v => v.cells.toList).toArray e)) := by
  subst hsz
  have h1 : ¬ vs.length * ie.size > 2 ^ 24 := by
    have : (2 : Nat) ^ 24 = 16777216 := by decide
    omega
  have h2 : ¬ vs.length * ie.size = 0 := by
    have := Nat.mul_pos h0 hs
    omega
  refine run_buildSlice w t e vs.length parts _ ie z hu hie hz h1 h2 ?_
  rw [hp]
  exact Great.fill_whole hs vs _ hv (by simp)
end Go.Proofs.Ytlfppgdaoijklaa
