/- Two places held against each other; of an array of two the one or the other. -/
import Derived.Test.YtidblaepklgkcaaPlAgree
import Derived.Laws.StructEq
namespace Go.Proofs.Ytidblaepklgkcaa
open Go.RowKit

theorem eqf_consP {d : Nat} {xs ys : Array Value} {f : Field} {fs : List Field} {u v : Value} {b r : Bool} {w : World} (hn : f.name ≠ "_") (hx : (part f.type xs f.offset).run Try.prog w = .ok u w) (hy : (part f.type ys f.offset).run Try.prog w = .ok v w)
    (he : (Op.equalIn d f.type u v).run Try.prog w = .ok b w) (hr : (Op.eqFields d xs ys fs).run Try.prog w = .ok r w) : (Op.eqFields d xs ys (f :: fs)).run Try.prog w = .ok (b && r) w := by
  unfold Op.eqFields
  rw [if_pos hn]
  simp only [Sem.run_bind, hx, hy, he, Result.andThen_ok, Sem.run_ite, Sem.run_pure]
  cases b
  · rfl
  · simpa using hr
theorem part_oneP {t : TypeId} {cs : Array Value} {o : Nat} {v : Value} {w : World} (h : (isAgg t).run Try.prog w = .ok false w) (hc : cs[o]? = some v) : (part t cs o).run Try.prog w = .ok v w := by
  unfold part
  rw [Sem.run_bind, h, Result.andThen_ok, hc]
  rfl
theorem exec_binP {w : World} {o : Oper} {ρ : Operand → Value} {op : BinOp} {t t' : TypeId} {x y : Operand} {u v r : Value} (ho : o.op = .binOp op t x y t') (hx : ρ x = u) (hy : ρ y = v) (hg : (eqGuard op t x y u v).run Try.prog w = .ok () w) (hr : (binOp op t u v).run Try.prog w = .ok r w) : (execOp ρ o).run Try.prog w = .ok (.value r) w := by
  unfold execOp
  simp only [ho, hx, hy, Sem.run_bind, hg, hr, Result.andThen_ok, Sem.run_pure]
theorem exec_neP {w : World} {o : Oper} {ρ : Operand → Value} {t t' : TypeId} {x y : Operand} {N M : Array Value} {b : Bool} (ho : o.op = .binOp .neq t x y t') (hx : ρ x = .agg N) (hy : ρ y = .agg M) (hT : Try.prog.eqGuardType Try.prog.depth t = false) (h : (Op.equalIn 10000 t (.agg N) (.agg M)).run Try.prog w = .ok b w) : (execOp ρ o).run Try.prog w = .ok (.value (.bool (!b))) w :=
  exec_binP ho hx hy (run_eqGuard_agg (P := Try.prog) (w := w) .neq t x y N M hT) (by rw [run_neq_struct, h]; rfl)
theorem equalPc (a b : Int) (w : World) : (Op.equalIn 10000 53 (.agg (plc a b).toArray) (.agg (plc a b).toArray)).run Try.prog w = .ok true w := by
  rw [run_equalIn_struct w 9999 53 _ _ (by kernel_rfl) (by kernel_rfl)]
  have i3 : (isAgg 3).run Try.prog w = .ok false w := by kernel_rfl
  have hf : (Try.prog.fieldsOf 53).toList = [⟨ "Block", 3, 0, false, "", "", 0⟩, ⟨ "At", 3, 1, false, "", "", 8⟩] := by kernel_rfl
  rw [hf]
  have hi : ∀ x : Int, (Op.equalIn 9999 3 (.int .i64 x) (.int .i64 x)).run Try.prog w = .ok true w := fun x => by
    unfold Op.equalIn
    simp
  exact eqf_consP (b := true) (r := true) (by decide) (part_oneP i3 rfl) (part_oneP i3 rfl) (hi a) (eqf_consP (b := true) (r := true) (by decide) (part_oneP i3 rfl) (part_oneP i3 rfl) (hi b) rfl)
theorem exec_idx {w : World} {o : Oper} {ρ : Operand → Value} {t : TypeId} {x y : Operand} {u v r : Value} (ho : o.op = .index t x y) (hx : ρ x = u) (hy : ρ y = v) (h : (Instr.index t u v).run Try.prog w = .ok r w) : (execOp ρ o).run Try.prog w = .ok (.value r) w := by
  unfold execOp
  simp only [ho, hx, hy, Sem.run_bind, h, Result.andThen_ok, Sem.run_pure]
theorem idx2 (a b : Int) (k : Nat) (hk : k < 2) (w : World) : (Instr.index 51 (.agg #[.int .i64 a, .int .i64 b]) (.int .i64 (k : Int))).run Try.prog w = .ok (.int .i64 (if k = 0 then a else b)) w := by
  rcases (by omega : k = 0 ∨ k = 1) with rfl | rfl
  · kernel_rfl
  · kernel_rfl
end Go.Proofs.Ytidblaepklgkcaa
