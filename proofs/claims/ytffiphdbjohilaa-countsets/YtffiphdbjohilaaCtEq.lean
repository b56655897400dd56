/- count: two entries held against each other; loads of entries within a region that draws. -/
import Derived.Test.YtffiphdbjohilaaCtView
import Derived.Test.YtffiphdbjohilaaPast
import Derived.Laws.StructEq
namespace Go.Proofs.Ytffiphdbjohilaa
open Go.RowKit

theorem eqf_consE {d : Nat} {xs ys : Array Value} {f : Field} {fs : List Field} {u v : Value} {b r : Bool} {w : World} (hn : f.name ≠ "_") (hx : (part f.type xs f.offset).run Try.prog w = .ok u w) (hy : (part f.type ys f.offset).run Try.prog w = .ok v w)
    (he : (Op.equalIn d f.type u v).run Try.prog w = .ok b w) (hr : (Op.eqFields d xs ys fs).run Try.prog w = .ok r w) : (Op.eqFields d xs ys (f :: fs)).run Try.prog w = .ok (b && r) w := by
  unfold Op.eqFields
  rw [if_pos hn]
  simp only [Sem.run_bind, hx, hy, he, Result.andThen_ok, Sem.run_ite, Sem.run_pure]
  cases b
  · rfl
  · simpa using hr
theorem part_oneE {t : TypeId} {cs : Array Value} {o : Nat} {v : Value} {w : World} (h : (isAgg t).run Try.prog w = .ok false w) (hc : cs[o]? = some v) : (part t cs o).run Try.prog w = .ok v w := by
  unfold part
  rw [Sem.run_bind, h, Result.andThen_ok, hc]
  rfl
theorem exec_binE {w : World} {o : Oper} {ρ : Operand → Value} {op : BinOp} {t t' : TypeId} {x y : Operand} {u v r : Value} (ho : o.op = .binOp op t x y t') (hx : ρ x = u) (hy : ρ y = v) (hg : (eqGuard op t x y u v).run Try.prog w = .ok () w) (hr : (binOp op t u v).run Try.prog w = .ok r w) : (execOp ρ o).run Try.prog w = .ok (.value r) w := by
  unfold execOp
  simp only [ho, hx, hy, Sem.run_bind, hg, hr, Result.andThen_ok, Sem.run_pure]
theorem exec_neE {w : World} {o : Oper} {ρ : Operand → Value} {t t' : TypeId} {x y : Operand} {N M : Array Value} {b : Bool} (ho : o.op = .binOp .neq t x y t') (hx : ρ x = .agg N) (hy : ρ y = .agg M) (hT : Try.prog.eqGuardType Try.prog.depth t = false) (h : (Op.equalIn 10000 t (.agg N) (.agg M)).run Try.prog w = .ok b w) : (execOp ρ o).run Try.prog w = .ok (.value (.bool (!b))) w :=
  exec_binE ho hx hy (run_eqGuard_agg (P := Try.prog) (w := w) .neq t x y N M hT) (by rw [run_neq_struct, h]; rfl)
theorem exec_eqE {w : World} {o : Oper} {ρ : Operand → Value} {t t' : TypeId} {x y : Operand} {N M : Array Value} {b : Bool} (ho : o.op = .binOp .eql t x y t') (hx : ρ x = .agg N) (hy : ρ y = .agg M) (hT : Try.prog.eqGuardType Try.prog.depth t = false) (h : (Op.equalIn 10000 t (.agg N) (.agg M)).run Try.prog w = .ok b w) : (execOp ρ o).run Try.prog w = .ok (.value (.bool b)) w :=
  exec_binE ho hx hy (run_eqGuard_agg (P := Try.prog) (w := w) .eql t x y N M hT) (by rw [run_eql_struct, h]; rfl)
theorem equalEn (x : En) (w : World) : (Op.equalIn 10000 39 (evalE x) (evalE x)).run Try.prog w = .ok true w := by
  unfold evalE
  rw [run_equalIn_struct w 9999 39 _ _ (by kernel_rfl) (by kernel_rfl)]
  have i3 : (isAgg 36).run Try.prog w = .ok false w := by kernel_rfl
  have i6 : (isAgg 37).run Try.prog w = .ok false w := by kernel_rfl
  have hf : (Try.prog.fieldsOf 39).toList = [⟨ "Epoch", 36, 0, false, "", "", 0⟩, ⟨ "Boot", 36, 1, false, "", "", 4⟩, ⟨ "Seq", 37, 2, false, "", "", 8⟩] := by kernel_rfl
  rw [hf]
  have hi : ∀ x : Int, (Op.equalIn 9999 36 (.int .u32 x) (.int .u32 x)).run Try.prog w = .ok true w := fun x => by
    unfold Op.equalIn
    simp
  have hj : ∀ x : Int, (Op.equalIn 9999 37 (.int .u64 x) (.int .u64 x)).run Try.prog w = .ok true w := fun x => by
    unfold Op.equalIn
    simp
  exact eqf_consE (b := true) (r := true) (by decide) (part_oneE i3 rfl) (part_oneE i3 rfl) (hi x.e) (eqf_consE (b := true) (r := true) (by decide) (part_oneE i3 rfl) (part_oneE i3 rfl) (hi x.b) (eqf_consE (b := true) (r := true) (by decide) (part_oneE i6 rfl) (part_oneE i6 rfl) (hj x.s) rfl))
theorem exec_ldE {w : World} {o : Oper} {ρ : Operand → Value} {cs : En} {x : Operand} {ad : Addr} (hc : ∀ j u, (ecells cs)[j]? = some u → w.cell? (ad.add j) = some u)
    (ho : o.op = .load 39 x) (hx : ρ x = .pointer (some ad)) : (execOp ρ o).run Try.prog w = .ok (.value (evalE cs)) w := by
  have h := run_loadVar_cells w ad 39 (ecells cs) _ hc Try.underlying39 rfl (by rw [iEn]; rfl)
  unfold execOp
  simp only [ho, hx, Instr.loadAt, Instr.sureAddr, Sem.run_bind, Sem.run_pure, Result.andThen_ok, h]
  rfl
theorem gE : Try.prog.eqGuardType Try.prog.depth 39 = false := by kernel_rfl
theorem g12 : Try.prog.eqGuardType Try.prog.depth 47 = false := by kernel_rfl
theorem equalNn (x y : En) (w : World) : (Op.equalIn 10000 47 (.agg (u8s (nbs x)).toArray) (.agg (u8s (nbs y)).toArray)).run Try.prog w = .ok (decide (nbs x = nbs y)) w :=
  equalN Try.underlying47 (nbs x) (nbs y) (nbs_len x) (nbs_len y) w
end Go.Proofs.Ytffiphdbjohilaa
