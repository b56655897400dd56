/- Operations on maps, one by one; a key is taken out while the map is ranged over. -/
import Derived.Test.YtlfppgdaoijklaaIntMaps
import Derived.Test.YtlfppgdaoijklaaOwnOps
namespace Go.Proofs.Ytlfppgdaoijklaa
open Go.RowKit Go.ChangeMaps Go.WideMaps Go.MapKept Go.Maps

section
variable {w w' : World} {o : Oper} {ρ : Operand → Value}
theorem exec_range {t : TypeId} {x : Operand} {u r : Value} (ho : o.op = .range t x) (hx : ρ x = u) (h : (Instr.range t u).run Try.prog w = .ok r w') : (execOp ρ o).run Try.prog w = .ok (.value r) w' := by
  unfold execOp
  simp only [ho, hx, Sem.run_bind, h, Result.andThen_ok, Sem.run_pure]
theorem exec_next {x : Operand} {u r : Value} {ty : TypeId} (ho : o.op = .next x false) (hx : ρ x = u) (hty : o.type = ty) (h : (Instr.next u false ty).run Try.prog w = .ok r w') : (execOp ρ o).run Try.prog w = .ok (.value r) w' := by
  unfold execOp
  simp only [ho, hx, hty, Sem.run_bind, h, Result.andThen_ok, Sem.run_pure]
theorem exec_entry {x : Operand} {u r : Value} (ho : o.op = .entry x) (hx : ρ x = u) (h : (Instr.entry u).run Try.prog w = .ok r w') : (execOp ρ o).run Try.prog w = .ok (.value r) w' := by
  unfold execOp
  simp only [ho, hx, Sem.run_bind, h, Result.andThen_ok, Sem.run_pure]
theorem exec_clear {t : TypeId} {x : Operand} {u r : Value} (ho : o.op = .call { callee := .builtin .clear, args := #[x], argTypes := #[t] }) (hx : ρ x = u) (h : (Builtin.clear_ #[t] o.type #[u]).run Try.prog w = .ok r w') : (execOp ρ o).run Try.prog w = .ok (.value r) w' := by
  unfold execOp
  simp only [ho, resolve, invoke, builtin, Sem.run_bind, Sem.run_pure, Result.andThen_ok, List.map_toArray, List.map_cons, List.map_nil, hx, h]
theorem exec_delete {t k : TypeId} {x y : Operand} {u v r : Value} (ho : o.op = .call { callee := .builtin .delete, args := #[x, y], argTypes := #[t, k] }) (hx : ρ x = u) (hy : ρ y = v) (h : (Builtin.delete_ #[t, k] o.type #[u, v]).run Try.prog w = .ok r w') : (execOp ρ o).run Try.prog w = .ok (.value r) w' := by
  unfold execOp
  simp only [ho, resolve, invoke, builtin, Sem.run_bind, Sem.run_pure, Result.andThen_ok, List.map_toArray, List.map_cons, List.map_nil, hx, hy, h]
end
/-- The act of a goal brought down. -/
theorem act_down {P : Program} {c : Code} {Q : Exit → Act → World → Prop} {a : Act} {w : World} (h : ∀ K : Act → Prop, (∀ a, Code.wp P c Q a w → K a) → K a) : Code.wp P c Q a w := h _ (fun _ h => h)
/-- How many an iterator has left. -/
def leftN (w : World) (r b : Nat) : Nat := match w.heap[r]?, w.heap[b]? with
  | some (.mapIter _ _ seen _), some (.map es _) => (leftOf es seen).size
  | _, _ => 0
theorem Rg.left {w : World} {r b : Nat} {M L : List (Value × Value)} (h : Rg w r b M L) : leftN w r b = L.length := by
  obtain ⟨es, clock, seen, c0, h1, -, h2, -, -, -, rfl⟩ := h.ex
  unfold leftN
  rw [h1, h2]
  simp
section
variable {P : Program} {w w' : World} {b r : Nat} {M L : List (Value × Value)} {t kt et : TypeId}
theorem Mq.len (ht : P.underlying t = some (.map kt et)) (h : Mq P kt w b M) (ty : TypeId) : (Builtin.len_ #[t] ty #[.map (some b)]).run P w = .ok (.int .i64 (M.length : Int)) w := by
  obtain ⟨⟨es, clock, hb, rfl, -⟩, -⟩ := h
  simp [Builtin.len_, run_underlying ht, MapKept.run_getObj_map hb, goInt, Result.andThen]
theorem exec_lenM {o : Oper} {ρ : Operand → Value} {x : Operand} {u r : Value} (ho : o.op = .call { callee := .builtin .len, args := #[x], argTypes := #[t] }) (hx : ρ x = u) (h : (Builtin.len_ #[t] o.type #[u]).run P w = .ok r w) : (execOp ρ o).run P w = .ok (.value r) w := by
  unfold execOp
  simp only [ho, resolve, invoke, builtin, Sem.run_bind, Sem.run_pure, Result.andThen_ok, List.map_toArray, List.map_cons, List.map_nil, hx, h]
/-- An entry that was handed out is taken out: what is left stays. -/
theorem Rg.del (K : Keyed P kt) (ht : P.underlying t = some (.map kt et)) (h : Mq P kt w b M) (hr : Rg w r b M L) {key v : Value} {l : Lit} (hkey : keyOf P kt key = some l) (hin : (key, v) ∈ M) (hout : ∀ u, (key, u) ∉ L) (ty : TypeId) :
    ∃ w' M', (Builtin.delete_ #[t, kt] ty #[.map (some b), key]).run P w = .ok (.tuple #[]) w' ∧ Mq P kt w' b M' ∧ Rg w' r b M' L ∧ But (· = b) w w' ∧ w'.heap.size = w.heap.size ∧ ∀ k u, (k, u) ∈ M' ↔ (k, u) ∈ M ∧ k ≠ key := by
  obtain ⟨w', M', hrun, hM, hbut, hsz, hmem⟩ := h.del (t := t) (et := et) K ht hkey ty
  refine ⟨w', M', hrun, hM, ?_, hbut, hsz, hmem⟩
  have hne := hr.ne
  have hlt := hr.lt
  obtain ⟨es, clock, seen, c0, h1, h2, h3, hMe, h4, h5, h6⟩ := hr.ex
  have hk := h.key
  have hks : ∀ e ∈ es.toList, ∃ l, keyOf P kt e.key = some l := fun e he => hk (e.key, e.val) (by rw [← hMe]; exact List.mem_map.2 ⟨e, he, rfl⟩)
  rcases K.find w hkey es.toList hks with ⟨g1, g2⟩ | ⟨j, e0, g1, g2, g3⟩
  · rw [← hMe] at hin
    obtain ⟨e, he, e2⟩ := List.mem_map.1 hin
    exact absurd (Prod.mk.inj e2).1 (g2 e he)
  have hjs : j < es.size := by
    have := (List.getElem?_eq_some_iff.1 g2).1
    simpa using this
  have hsub : (es.eraseIdxIfInBounds j).toList = es.toList.eraseIdx j := by
    unfold Array.eraseIdxIfInBounds
    rw [dif_pos hjs]
    simp
  have hrun2 : (Builtin.delete_ #[t, kt] ty #[.map (some b), key]).run P w = .ok (.tuple #[]) (setBlock w b (.map (es.eraseIdxIfInBounds j) clock)) := by
    simp [Builtin.delete_, run_underlying ht, MapKept.run_getObj_map h3, K.check w _ hkey, g1, MapKept.run_setObj_map _ h3, Result.andThen, setBlock]
  rw [hrun] at hrun2
  have hw' : w' = setBlock w b (.map (es.eraseIdxIfInBounds j) clock) := by
    simp only [Result.ok.injEq, true_and] at hrun2
    exact hrun2
  have hb' : w'.heap[b]? = some (.map (es.eraseIdxIfInBounds j) clock) := by rw [hw']; exact (setB h3 _ _).1
  have hr' : w'.heap[r]? = some (.mapIter (some b) clock seen c0) := (hbut.block r hlt.1 hne).trans h1
  obtain ⟨es2, clock2, hb2, hM2, -⟩ := hM.blk
  rw [hb'] at hb2
  simp only [Option.some.injEq, Obj.map.injEq] at hb2
  obtain ⟨rfl, -⟩ := hb2
  have hsl : (es.toList.eraseIdx j).Sublist es.toList := List.eraseIdx_sublist _ _
  refine ⟨_, clock, seen, c0, hr', h2, hb', hM2, fun x hx => ?_, ?_, ?_⟩
  · rw [hsub] at hx; exact h4 x (hsl.subset hx)
  · rw [hsub]; exact h5.sublist (hsl.map _)
  · rw [← h6]
    congr 1
    unfold leftOf
    rw [Array.toList_filter, Array.toList_filter, hsub]
    have hseen : seen.contains e0.born = true := by
      cases hc : seen.contains e0.born with
      | true => rfl
      | false =>
        refine absurd ?_ (hout e0.val)
        rw [← h6]
        refine List.mem_map.2 ⟨e0, ?_, by rw [g3]⟩
        unfold leftOf
        rw [Array.toList_filter]
        exact List.mem_filter.2 ⟨List.mem_of_getElem? g2, by rw [hc]; rfl⟩
    obtain ⟨hj2, hj3⟩ := List.getElem?_eq_some_iff.1 g2
    have e1 : es.toList = es.toList.take j ++ e0 :: es.toList.drop (j + 1) := by
      rw [← hj3, List.getElem_cons_drop, List.take_append_drop]
    rw [List.eraseIdx_eq_take_drop_succ]
    conv => rhs; rw [e1]
    rw [List.filter_append, List.filter_append, List.filter_cons, if_neg (by rw [hseen]; simp)]
end
end Go.Proofs.Ytlfppgdaoijklaa
