/- Operations behind a guard that holds; regions that draw, all of whose operations yield the same values in every world of a class. -/
import Derived.Test.YtlfppgdaoijklaaClasses
import Derived.Test.YtlfppgdaoijklaaBlocks
namespace Go.Proofs.Ytlfppgdaoijklaa
open Go.RowKit
theorem wpList_want {P : Program} {ops : Array Oper} {Q : Exit → Act → World → Prop} {a : Act} {w : World} {rest : List Oper} {o : Oper} (hw : Region.wanted o (yielded ops a.tmps) = true)
    (h : ∀ K : Act → World → Prop, (∀ a w, wpList P ops Q rest a w → K a w) → o.wp P a w K Q) : wpList P ops Q (o :: rest) a w :=
  wpList_step fun K hK => by simp only [hw, if_true]; exact h K hK
/-- A whole array of bytes out of a variable, behind a guard. -/
theorem wpList_load_u8s_g {T : TypeId} {n : Nat} {l : Nat} {e : TypeId} (hu : Try.prog.underlying T = some (.array l e)) (hi : (Try.prog.info? T).map (·.size) = some n)
    {w : World} {ops : Array Oper} {rest : List Oper} {o : Oper} {a : Act} {Q : Exit → Act → World → Prop} (hw : Region.wanted o (yielded ops a.tmps) = true) (x : Operand) (ho : o.op = .load T x)
    (g : Nat) (D : List Nat) (hD : D.length = n) (hx : a.eval x = .pointer (some ⟨g, 0, none⟩)) (hb : Blk w g T (u8s D))
    (h : wpList Try.prog ops Q rest (a.put o.dst (.agg (u8s D).toArray)) w) : wpList Try.prog ops Q (o :: rest) a w :=
  wpList_want hw fun _ hK => op_load_u8s hu hi x ho g D hD hx hb (hK _ _ h)
section
variable {P : Program} {l : List Oper} {o : Oper} {Q : Exit → Act → World → Prop}
theorem region_same {id : Nat} {a : Act} {w : World} (C : World → Prop) (hm : P.follows .mixedOrders = true) (hB : Region.lexB .any l.toArray = true)
    (h0 : C w.drew) (h : wpQuiet P l.toArray C (fun a' => ∀ w', C w' → Q .normal a' w') l a) : (Code.region id l.toArray true).wp P Q a w :=
  wp_region_quiet (C := C) hm hB h0 (by simpa using h)
variable {ops : Array Oper} {C : World → Prop} {rest : List Oper} {a : Act} {Qa : Act → Prop}
theorem guard_val (v : Value) (hw : Region.wanted o (yielded ops a.tmps) = true) (h : ∀ w, C w → (execOp a.eval o).run P w = .ok (.value v) w) (h2 : ∀ K : Act → Prop, (∀ a, wpQuiet P ops C Qa rest a → K a) → K (a.put o.dst v)) : wpQuiet P ops C Qa (o :: rest) a := by
  unfold wpQuiet
  rw [if_pos hw]
  refine ⟨v, fun w hw => ?_, h2 _ (fun _ h => h)⟩
  unfold Oper.quietAt
  rw [h w hw]
  exact ⟨rfl, rfl⟩
theorem guard_call (v : Value) (f : FuncId) (args : Array Value) (hw : Region.wanted o (yielded ops a.tmps) = true) (h : ∀ w, C w → (execOp a.eval o).run P w = .ok (.enter f args) w) (hc : ∀ w, C w → Calls P f args w fun e w' => e = .returned v ∧ C w') (h2 : ∀ K : Act → Prop, (∀ a, wpQuiet P ops C Qa rest a → K a) → K (a.put o.dst v)) : wpQuiet P ops C Qa (o :: rest) a := by
  unfold wpQuiet
  rw [if_pos hw]
  refine ⟨v, fun w hw => ?_, h2 _ (fun _ h => h)⟩
  unfold Oper.quietAt
  rw [h w hw]
  exact ⟨rfl, hc w hw⟩
/-- An operation behind a guard that does not hold. -/
theorem guard_skip (hw : Region.wanted o (yielded ops a.tmps) = false) (h2 : ∀ K : Act → Prop, (∀ a, wpQuiet P ops C Qa rest a → K a) → K (a.put o.dst undef)) : wpQuiet P ops C Qa (o :: rest) a := by
  unfold wpQuiet
  rw [if_neg (by rw [hw]; decide)]
  exact h2 _ (fun _ h => h)
end
/-- A whole array of bytes, as what an operation runs to. -/
theorem run_load_u8s {T : TypeId} {n l : Nat} {e : TypeId} (hu : Try.prog.underlying T = some (.array l e)) (hi : (Try.prog.info? T).map (·.size) = some n) {w : World} {o : Oper} {a : Act} {x : Operand} {g : Nat} {D : List Nat} (hb : Blk w g T (u8s D)) (hD : D.length = n)
    (ho : o.op = .load T x) (hx : a.eval x = .pointer (some ⟨g, 0, none⟩)) : (execOp a.eval o).run Try.prog w = .ok (.value (.agg (u8s D).toArray)) w := by
  have h := run_loadVar_cells w ⟨g, 0, none⟩ T (u8s D) _ (by
    intro j v hv
    have e : (⟨g, 0, none⟩ : Addr).add j = ⟨g, j, none⟩ := by simp [Addr.add]; exact fun h => h.symm
    rw [e, hb.cell]; exact hv) hu rfl (by rw [hi]; simp [u8s, hD])
  unfold execOp
  simp only [ho, hx, Instr.loadAt, Instr.sureAddr, Sem.run_bind, Sem.run_pure, Result.andThen_ok, h]
end Go.Proofs.Ytlfppgdaoijklaa
