/- Whole structs and arrays, loaded; also behind a guard. -/
import Derived.Test.YtcikldklacgafaaDvReads
import Derived.Test.YtcikldklacgafaaGuards
import Derived.Laws.StructEq
namespace Go.Proofs.Ytcikldklacgafaa
open Go.RowKit

theorem exec_ld {w : World} {o : Oper} {ρ : Operand → Value} {T : TypeId} {d : TypeDesc} (hu : Try.prog.underlying T = some d) (hd : (match d with | .struct _ | .array _ _ => true | _ => false) = true) {cs : List Value} (hi : (Try.prog.info? T).map (·.size) = some cs.length) {x : Operand} {ad : Addr} (hc : ∀ j u, cs[j]? = some u → w.cell? (ad.add j) = some u)
    (ho : o.op = .load T x) (hx : ρ x = .pointer (some ad)) : (execOp ρ o).run Try.prog w = .ok (.value (.agg cs.toArray)) w := by
  have h := run_loadVar_cells w ad T cs _ hc hu hd hi
  unfold execOp
  simp only [ho, hx, Instr.loadAt, Instr.sureAddr, Sem.run_bind, Sem.run_pure, Result.andThen_ok, h]
theorem wpList_want_run {ops : Array Oper} {rest : List Oper} {o : Oper} {a : Act} {w w' : World} {Q : Exit → Act → World → Prop} {v : Value} (hw : Region.wanted o (yielded ops a.tmps) = true) (hr : (execOp a.eval o).run Try.prog w = .ok (.value v) w') (h : wpList Try.prog ops Q rest (a.put o.dst v) w') : wpList Try.prog ops Q (o :: rest) a w :=
  wpList_want hw fun _ hK => by
    unfold Oper.wp
    rw [hr]
    exact hK _ _ h
theorem exec_bin {w : World} {o : Oper} {ρ : Operand → Value} {op : BinOp} {t t' : TypeId} {x y : Operand} {u v r : Value} (ho : o.op = .binOp op t x y t') (hx : ρ x = u) (hy : ρ y = v) (hg : (eqGuard op t x y u v).run Try.prog w = .ok () w) (hr : (binOp op t u v).run Try.prog w = .ok r w) : (execOp ρ o).run Try.prog w = .ok (.value r) w := by
  unfold execOp
  simp only [ho, hx, hy, Sem.run_bind, hg, hr, Result.andThen_ok, Sem.run_pure]
/-- Two structs or arrays held against each other. -/
theorem exec_eqA {w : World} {o : Oper} {ρ : Operand → Value} {t t' : TypeId} {x y : Operand} {N M : Array Value} {b : Bool} (ho : o.op = .binOp .eql t x y t') (hx : ρ x = .agg N) (hy : ρ y = .agg M) (hT : Try.prog.eqGuardType Try.prog.depth t = false) (h : (Op.equalIn 10000 t (.agg N) (.agg M)).run Try.prog w = .ok b w) : (execOp ρ o).run Try.prog w = .ok (.value (.bool b)) w :=
  exec_bin ho hx hy (run_eqGuard_agg (P := Try.prog) (w := w) .eql t x y N M hT) (by rw [run_eql_struct, h]; rfl)
theorem exec_neA {w : World} {o : Oper} {ρ : Operand → Value} {t t' : TypeId} {x y : Operand} {N M : Array Value} {b : Bool} (ho : o.op = .binOp .neq t x y t') (hx : ρ x = .agg N) (hy : ρ y = .agg M) (hT : Try.prog.eqGuardType Try.prog.depth t = false) (h : (Op.equalIn 10000 t (.agg N) (.agg M)).run Try.prog w = .ok b w) : (execOp ρ o).run Try.prog w = .ok (.value (.bool (!b))) w :=
  exec_bin ho hx hy (run_eqGuard_agg (P := Try.prog) (w := w) .neq t x y N M hT) (by rw [run_neq_struct, h]; rfl)
end Go.Proofs.Ytcikldklacgafaa
