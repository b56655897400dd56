/- An entry is laid into a variable. -/
import Derived.Test.YtlfppgdaoijklaaEntry
import Derived.Test.YtlfppgdaoijklaaChain
import Derived.Test.YtlfppgdaoijklaaGuards
namespace Go.Proofs.Ytlfppgdaoijklaa
open Go.RowKit

/-- An entry is laid into a variable that is there. -/
theorem boxEn {w : World} {g : Nat} {L : List Value} (hL : L.length = 3) (hb : Blk w g 30 L) (x : En) : ∃ w2, (storeVar 30 ⟨g, 0, none⟩ (evalE x)).run Try.prog w = .ok () w2 ∧ Blk w2 g 30 (ecells x) ∧ But (· = g) w w2 := by
  obtain ⟨w2, h1, h2, h3⟩ := run_storeVar_at w g 0 30 30 [] L [] (ecells x) (by simpa using hb) rfl (by rw [hL]; rfl) (by rw [iEn]; rfl) (ecells_one x)
  exact ⟨w2, h1, by simpa using h2, h3⟩
/-- An entry is laid into a new variable. -/
theorem newEn (w : World) (x : En) : ∃ w2, (storeVar 30 ⟨w.heap.size, 0, none⟩ (evalE x)).run Try.prog (w.alloc (.cells #[.int .u32 0, .int .u32 0, .int .u64 0] 30)) = .ok () w2 ∧ Blk w2 w.heap.size 30 (ecells x) ∧ Grow w w2 := by
  obtain ⟨w2, q1, q2, q3⟩ := boxEn (w := w.alloc (.cells #[.int .u32 0, .int .u32 0, .int .u64 0] 30)) (g := w.heap.size) (L := [.int .u32 0, .int .u32 0, .int .u64 0]) rfl (Blk.new rfl) x
  exact ⟨w2, q1, q2, ((But.refl (fun _ => False) w).alloc _).then q3 (fun b hb e => by omega)⟩
/-- An operation behind a guard that holds. -/
theorem wpList_want_runN {ops : Array Oper} {rest : List Oper} {o : Oper} {a : Act} {w w' : World} {Q : Exit → Act → World → Prop} {v : Value} (hw : Region.wanted o (yielded ops a.tmps) = true) (hr : (execOp a.eval o).run Try.prog w = .ok (.value v) w') (h : wpList Try.prog ops Q rest (a.put o.dst v) w') : wpList Try.prog ops Q (o :: rest) a w :=
  wpList_want hw fun _ hK => by
    unfold Oper.wp
    rw [hr]
    exact hK _ _ h
end Go.Proofs.Ytlfppgdaoijklaa
