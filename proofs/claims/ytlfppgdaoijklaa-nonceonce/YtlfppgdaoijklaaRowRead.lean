/- row: next, and the steps of a reader: they give up by a panic, which is caught. -/
import Derived.Test.YtlfppgdaoijklaaRowLeaf
import Derived.Defers
import Derived.Recover
namespace Go.Proofs.Ytlfppgdaoijklaa
open Go.RowKit

theorem errinfo : (Try.prog.info? 31).map (fun i => (i.zero, i.size, i.bytes)) = some (some (.int .i64 0), 1, 8) := by kernel_rfl
theorem errnil (w : World) (c : Int) : Sem.run Try.prog (Instr.typeAssert (.iface 31 (.int .i64 c)) 20 31 true) w = .ok (.tuple #[.int .i64 c, .bool true]) w := by
  simp [Instr.typeAssert, go_sem]
theorem errnone (w : World) : Sem.run Try.prog (Instr.typeAssert .nilIface 20 31 true) w = .ok (.tuple #[.int .i64 0, .bool false]) w := by
  obtain ⟨i0, hi, hz0, hz1, hz2⟩ := info_parts errinfo
  simp [Instr.typeAssert, go_sem, zeroValue, typeInfo, hi, hz0]
/-- The world behind a fault c of the reader at r. -/
def down (w : World) (r : Nat) (c : Int) : World := (w.setCell ⟨r, 0, none⟩ (.slice none 0 0)).setCell ⟨r, 1, none⟩ (.int .i64 c)

end Go.Proofs.Ytlfppgdaoijklaa
