/- Operations on maps, one by one. -/
import Derived.Test.YtcikldklacgafaaDvWrote
namespace Go.Proofs.Ytcikldklacgafaa
open Go.RowKit

section
variable {w w' : World} {o : Oper} {ρ : Operand → Value}
theorem exec_range {t : TypeId} {x : Operand} {u r : Value} (ho : o.op = .range t x) (hx : ρ x = u) (h : (Instr.range t u).run Try.prog w = .ok r w') : (execOp ρ o).run Try.prog w = .ok (.value r) w' := by
  unfold execOp
  simp only [ho, hx, Sem.run_bind, h, Result.andThen_ok, Sem.run_pure]
theorem exec_next {x : Operand} {u r : Value} {ty : TypeId} (ho : o.op = .next x false) (hx : ρ x = u) (hty : o.type = ty) (h : (Instr.next u false ty).run Try.prog w = .ok r w') : (execOp ρ o).run Try.prog w = .ok (.value r) w' := by
  unfold execOp
  simp only [ho, hx, hty, Sem.run_bind, h, Result.andThen_ok, Sem.run_pure]
theorem exec_entry {x : Operand} {u r : Value} (ho : o.op = .entry x) (hx : ρ x = u) (h : (Instr.entry u).run Try.prog w = .ok r w') : (execOp ρ o).run Try.prog w = .ok (.value r) w' := by
  unfold execOp
  simp only [ho, hx, Sem.run_bind, h, Result.andThen_ok, Sem.run_pure]
theorem exec_clear {t : TypeId} {x : Operand} {u r : Value} (ho : o.op = .call { callee := .builtin .clear, args := #[x], argTypes := #[t] }) (hx : ρ x = u) (h : (Builtin.clear_ #[t] o.type #[u]).run Try.prog w = .ok r w') : (execOp ρ o).run Try.prog w = .ok (.value r) w' := by
  unfold execOp
  simp only [ho, resolve, invoke, builtin, Sem.run_bind, Sem.run_pure, Result.andThen_ok, List.map_toArray, List.map_cons, List.map_nil, hx, h]
theorem exec_delete {t k : TypeId} {x y : Operand} {u v r : Value} (ho : o.op = .call { callee := .builtin .delete, args := #[x, y], argTypes := #[t, k] }) (hx : ρ x = u) (hy : ρ y = v) (h : (Builtin.delete_ #[t, k] o.type #[u, v]).run Try.prog w = .ok r w') : (execOp ρ o).run Try.prog w = .ok (.value r) w' := by
  unfold execOp
  simp only [ho, resolve, invoke, builtin, Sem.run_bind, Sem.run_pure, Result.andThen_ok, List.map_toArray, List.map_cons, List.map_nil, hx, hy, h]
end
/-- The act of a goal brought down. -/
theorem act_down {P : Program} {c : Code} {Q : Exit → Act → World → Prop} {a : Act} {w : World} (h : ∀ K : Act → Prop, (∀ a, Code.wp P c Q a w → K a) → K a) : Code.wp P c Q a w := h _ (fun _ h => h)
/-- How many an iterator has left. -/
def leftN (w : World) (r b : Nat) : Nat := match w.heap[r]?, w.heap[b]? with
  | some (.mapIter _ _ seen _), some (.map es _) => (leftOf es seen).size
  | _, _ => 0
theorem Rg.left {w : World} {r b : Nat} {M L : List (Value × Value)} (h : Rg w r b M L) : leftN w r b = L.length := by
  obtain ⟨es, clock, seen, c0, h1, -, h2, -, -, -, rfl⟩ := h.ex
  unfold leftN
  rw [h1, h2]
  simp
end Go.Proofs.Ytcikldklacgafaa
