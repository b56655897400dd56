/- A row of noughts is made. -/
import Derived.Test.YtehajgfjdmhdpaaOwnOps
import Derived.Laws.MakeOwn
namespace Go.Proofs.Ytehajgfjdmhdpaa
open Go.RowKit

theorem made_row {z : Value} (hz : z.cells = #[z]) (n : Nat) : madeCells z.cells n = (List.replicate n z).toArray := by
  rw [hz]
  apply Array.ext
  · simp [madeCells]
  · intro i h1 h2
    simp [madeCells, Nat.mod_one]
theorem make_row {t e : TypeId} {z : Value} {bytes : Nat} (ht : Try.prog.underlying t = some (.slice e)) (hinf : (Try.prog.info? e).map (fun i => (i.zero, i.size, i.bytes)) = some (some z, 1, bytes)) (hz : z.cells = #[z]) (hb : bytes ≤ 8) (w : World) (n : Nat) (h : n ≤ 100000) : (Instr.makeSlice t (.int .i64 (n : Int)) (.int .i64 (n : Int))).run Try.prog w = .ok (.slice (some ⟨w.heap.size, 0, none⟩) n n) (w.alloc (.cells (List.replicate n z).toArray e)) := by
  obtain ⟨i, hi, hz0, hs, hby⟩ := info_parts hinf
  have hnb : bytes * n ≤ 8 * 100000 := Nat.mul_le_mul hb h
  have hnc : (bytes : Int) * (n : Int) ≤ 281474976710656 := by rw [← Int.natCast_mul]; omega
  have h1 := run_makeSlice (P := Try.prog) (w := w) t e i z ht hi hz0 .i64 .i64 (n : Int) (n : Int) (by omega) (Int.le_refl _) (by rw [hs]; omega) (by rw [hby]; exact hnc) (by omega)
  have e1 : (n : Int).toNat * i.size = n := by rw [hs]; omega
  rw [e1, made_row hz] at h1
  exact h1
theorem exec_mkS {w w' : World} {o : Oper} {ρ : Operand → Value} {t : TypeId} {x y : Operand} {u v r : Value} (ho : o.op = .makeSlice t x y) (hx : ρ x = u) (hy : ρ y = v) (h : (Instr.makeSlice t u v).run Try.prog w = .ok r w') : (execOp ρ o).run Try.prog w = .ok (.value r) w' := by
  unfold execOp
  simp only [ho, hx, hy, Sem.run_bind, h, Result.andThen_ok, Sem.run_pure]
end Go.Proofs.Ytehajgfjdmhdpaa
