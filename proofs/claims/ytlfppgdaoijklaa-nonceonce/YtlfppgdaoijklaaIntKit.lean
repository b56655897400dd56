/- General: numbers as keys, single operations. -/
import Derived.Test.YtlfppgdaoijklaaRanges
namespace Go.Proofs.Ytlfppgdaoijklaa
open Go.RowKit

def i64 (K : Int) : Prop := -9223372036854775808 ≤ K ∧ K ≤ 9223372036854775807
theorem keyIa : Go.Maps.Keyed Try.prog 3 := Go.Maps.int_keyed Try.underlying3
theorem keyOfIa (K : Int) (h : i64 K) : keyOf Try.prog 3 (.int .i64 K) = some (.int .i64 K) := by
  refine Go.Maps.keyOf_int_mk Try.underlying3 ?_
  have e1 : IntKind.i64.min = -9223372036854775808 := rfl
  have e2 : IntKind.i64.max = 9223372036854775807 := rfl
  simp only [Lit.wf, e1, e2, Bool.and_eq_true, decide_eq_true_eq]
  exact h
theorem wpList_runH {ops : Array Oper} {rest : List Oper} {o : Oper} {a : Act} {w w' : World} {Q : Exit → Act → World → Prop} {v : Value} (hgd : o.guard = none) (hr : (execOp a.eval o).run Try.prog w = .ok (.value v) w') (h : wpList Try.prog ops Q rest (a.put o.dst v) w') : wpList Try.prog ops Q (o :: rest) a w :=
  wpList_plain hgd fun _ hK => by
    unfold Oper.wp
    rw [hr]
    exact hK _ _ h
theorem wrapN (n : Nat) (h : n ≤ 1000000000) : IntKind.i64.wrap (n : Int) = (n : Int) := by
  simp [IntKind.wrap, IntKind.bits, IntKind.signed]; omega
theorem wpList_someH {ops : Array Oper} {rest : List Oper} {o : Oper} {a : Act} {w : World} {Q : Exit → Act → World → Prop} {Φ : Value → World → Prop} (hgd : o.guard = none) (hr : ∃ v w', (execOp a.eval o).run Try.prog w = .ok (.value v) w' ∧ Φ v w') (h : ∀ v w', Φ v w' → wpList Try.prog ops Q rest (a.put o.dst v) w') : wpList Try.prog ops Q (o :: rest) a w := by
  obtain ⟨v, w', h1, h2⟩ := hr
  exact wpList_runH hgd h1 (h v w' h2)
section
variable {w w' : World} {o : Oper} {ρ : Operand → Value}
theorem exec_mkMap {t : TypeId} {r : Value} (ho : o.op = .makeMap t none) (h : (Instr.makeMap t none).run Try.prog w = .ok r w') : (execOp ρ o).run Try.prog w = .ok (.value r) w' := by
  unfold execOp
  simp only [ho, Option.map_none, Sem.run_bind, h, Result.andThen_ok, Sem.run_pure]
end
def kn (k : Int) : Nat := match k with
  | .ofNat n => 2 * n + 1
  | .negSucc n => 2 * n + 2
theorem kn_inj {a b : Int} (h : kn a = kn b) : a = b := by
  unfold kn at h
  cases a with
  | ofNat a =>
    cases b with
    | ofNat b => simp only at h; rw [show a = b by omega]
    | negSucc b => simp only at h; omega
  | negSucc a =>
    cases b with
    | ofNat b => simp only at h; omega
    | negSucc b => simp only at h; rw [show a = b by omega]
theorem kn_pos (a : Int) : kn a ≠ 0 := by unfold kn; cases a <;> simp
abbrev iv (k : Int) : Value := .int .i64 k
abbrev ptr (g : Nat) : Value := .pointer (some ⟨g, 0, none⟩)
theorem iv_inj {a b : Int} (h : iv a = iv b) : a = b := by simpa using h
theorem zInt (w : World) : (zeroValue 3).run Try.prog w = .ok (.int .i64 0) w := by kernel_rfl
theorem mkM (w : World) (t : TypeId) : (Instr.makeMap t none).run Try.prog w = .ok (.map (some w.heap.size)) (w.alloc (.map #[] 0)) := by
  simp [Instr.makeMap]
theorem wpList_skipH {ops : Array Oper} {rest : List Oper} {o : Oper} {a : Act} {w w' : World} {Q : Exit → Act → World → Prop} (hgd : o.guard = none) (hr : (execOp a.eval o).run Try.prog w = .ok .skip w') (h : wpList Try.prog ops Q rest (a.put o.dst undef) w') : wpList Try.prog ops Q (o :: rest) a w :=
  wpList_plain hgd fun _ hK => by
    unfold Oper.wp
    rw [hr]
    exact hK _ _ h
theorem wrapI {x : Int} (h : -9223372036854775808 ≤ x) (h2 : x ≤ 9223372036854775807) : IntKind.i64.wrap x = x := by
  simp [IntKind.wrap, IntKind.bits, IntKind.signed]; omega
theorem exec_ldF {w : World} {o : Oper} {ρ : Operand → Value} {T : TypeId} {d : TypeDesc} (hu : Try.prog.underlying T = some d) (hd : (match d with | .struct _ | .array _ _ => true | _ => false) = true) {cs : List Value} (hi : (Try.prog.info? T).map (·.size) = some cs.length) {x : Operand} {ad : Addr} (hc : ∀ j u, cs[j]? = some u → w.cell? (ad.add j) = some u)
    (ho : o.op = .load T x) (hx : ρ x = .pointer (some ad)) : (execOp ρ o).run Try.prog w = .ok (.value (.agg cs.toArray)) w := by
  have h := run_loadVar_cells w ad T cs _ hc hu hd hi
  unfold execOp
  simp only [ho, hx, Instr.loadAt, Instr.sureAddr, Sem.run_bind, Sem.run_pure, Result.andThen_ok, h]
theorem exec_allocF {w : World} {o : Oper} {ρ : Operand → Value} {T : TypeId} {Z : Array Value} (ho : o.op = .alloc T) (hz : (zeroValue T).run Try.prog w = .ok (.agg Z) w) : (execOp ρ o).run Try.prog w = .ok (.value (.pointer (some ⟨w.heap.size, 0, none⟩))) (w.alloc (.cells Z T)) := by
  simp [execOp, ho, go_sem, hz]
theorem exec_stF {w w' : World} {o : Oper} {ρ : Operand → Value} {T : TypeId} {x y : Operand} {ad : Addr} {v : Value} (ho : o.op = .store T x y) (hx : ρ x = .pointer (some ad)) (hy : ρ y = v) (hr : (storeVar T ad v).run Try.prog w = .ok () w') : (execOp ρ o).run Try.prog w = .ok .skip w' := by
  unfold execOp
  simp only [ho, hx, hy, Instr.storeAt, Instr.sureAddr, Sem.run_bind, Sem.run_pure, Result.andThen_ok, hr]
end Go.Proofs.Ytlfppgdaoijklaa
