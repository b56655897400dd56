/- A region that draws its order, by what holds behind each part of it: no order is walked. -/
import Derived.Test.YtlfppgdaoijklaaBytes
import Derived.Orders
import Derived.RegionTactic
namespace Go.Proofs.Ytlfppgdaoijklaa
open Go.RowKit

section
variable {P : Program} {md : Region.Mode} {ops : Array Oper} {Q : Exit → Act → World → Prop}

theorem ready_open {l : List Bool} {i : Nat} (h : i ∈ Region.ready md ops l.toArray) : i < ops.size ∧ l.getD i true = false := by
  simp only [Region.ready, List.mem_filter, List.mem_range, Bool.and_eq_true, Bool.not_eq_true'] at h
  refine ⟨h.1, ?_⟩
  have := h.2.1
  simpa using this
theorem ready_dep {l : List Bool} {i : Nat} {o : Oper} (h : i ∈ Region.ready md ops l.toArray) (ho : ops[i]? = some o) : o.after.all (fun e => !Region.binds md e || l.getD e.on false) = true := by
  simp only [Region.ready, List.mem_filter, List.mem_range, Bool.and_eq_true, ho, Option.map_some, Option.getD_some] at h
  have := h.2.2
  simpa using this
theorem ready_none {l : List Bool} (hl : l.length = ops.size) (h : l.count false = 0) : Region.ready md ops l.toArray = [] := by
  cases hr : Region.ready md ops l.toArray with
  | nil => rfl
  | cons x xs =>
    have hx := ready_open (md := md) (ops := ops) (l := l) (i := x) (by rw [hr]; exact List.mem_cons_self)
    have hlt : x < l.length := by rw [hl]; exact hx.1
    have hm : false ∈ l := by
      have e : l.getD x true = l[x] := by simp [List.getD, hlt]
      rw [← hx.2, e]; exact List.getElem_mem hlt
    exact absurd h (Nat.pos_iff_ne_zero.1 (List.count_pos_iff.2 hm))
theorem count_listed {l : List Bool} {i : Nat} (hi : i < l.length) (h : l.getD i true = false) : (l.set i true).count false + 1 = l.count false := by
  have e : l[i] = false := by simpa [List.getD, hi] using h
  have hm : 0 < l.count false := List.count_pos_iff.2 (by rw [← e]; exact List.getElem_mem hi)
  rw [List.count_set hi]
  simp [e]; omega

theorem wpAny_inv (J : List Bool → Act → World → Prop)
    (step : ∀ l a w i o, J l a w → l.length = ops.size → i ∈ Region.ready md ops l.toArray → ops[i]? = some o → o.wp P a w (J (l.set i true)) Q)
    (hg : ops.all (fun o => o.guard.isNone) = true)
    (fin : ∀ l a w, J l a w → l.length = ops.size → Region.ready md ops l.toArray = [] → Q .normal a w) :
    ∀ (fuel : Nat) (l : List Bool) (a : Act) (w : World), l.length = ops.size → l.count false ≤ fuel → J l a w → wpAny P md ops Q fuel l.toArray a w := by
  intro fuel
  induction fuel with
  | zero =>
    intro l a w hl hc hj
    have hr := ready_none (md := md) hl (by omega)
    exact ⟨hr, fin l a w hj hl hr⟩
  | succ fuel ih =>
    intro l a w hl hc hj
    refine ⟨fun hr => fin l a w hj hl hr, fun i hi => ?_⟩
    obtain ⟨hlt, hf⟩ := ready_open hi
    have hlt' : i < l.length := by omega
    have ho : ops[i]? = some ops[i] := by simp [hlt]
    have hst := step l a w i _ hj hl hi ho
    have e : l.toArray.setIfInBounds i true = (l.set i true).toArray := by simp
    rw [e]
    have hw : Region.wanted ops[i] (yielded ops a.tmps) = true := by
      have h' : (ops[i]).guard.isNone = true := by
        rw [Array.all_eq_true] at hg
        exact hg i hlt
      have h2 : (ops[i]).guard = none := by simpa using h'
      simp [Region.wanted, h2]
    unfold wpOp
    rw [ho]
    simp only [hw, if_true]
    refine .inl (Oper.wp_mono (fun a' w' hj' => ih _ a' w' (by simp [hl]) ?_ hj') hst)
    have := count_listed hlt' hf
    omega

/-- Each operation waits only for ones ahead of it. -/
def ahead (ops : Array Oper) : Bool := (List.range ops.size).all fun i => ((ops[i]?).map fun o => o.after.all fun e => !Region.binds .any e || decide (e.on < i)).getD true
theorem ready_all {l : List Bool} (ha : ahead ops = true) (hl : l.length = ops.size) (hr : Region.ready .any ops l.toArray = []) : l = List.replicate ops.size true := by
  have key : ∀ n i, i ≤ n → i < ops.size → l.getD i false = true := by
    intro n
    induction n with
    | zero =>
      intro i hi hlt
      obtain rfl : i = 0 := by omega
      cases h : l.getD 0 false with
      | true => rfl
      | false =>
        exfalso
        have hm : 0 ∈ Region.ready .any ops l.toArray := by
          simp only [Region.ready, List.mem_filter, List.mem_range, Bool.and_eq_true]
          refine ⟨hlt, ?_, ?_⟩
          · have : l[0]? = some l[0] := List.getElem?_eq_getElem (by omega)
            simp [List.getD, this] at h
            simp [this, h]
          · have ho : ops[0]? = some ops[0] := by simp [hlt]
            simp only [ho, Option.map_some, Option.getD_some, Array.all_eq_true]
            intro j hj
            have h2 := (List.all_eq_true.1 ha) 0 (by simpa using hlt)
            simp only [ho, Option.map_some, Option.getD_some, Array.all_eq_true] at h2
            have := h2 j hj
            simp at this
            simp [this]
        rw [hr] at hm; cases hm
    | succ n ih =>
      intro i hi hlt
      cases h : l.getD i false with
      | true => rfl
      | false =>
        exfalso
        have hm : i ∈ Region.ready .any ops l.toArray := by
          simp only [Region.ready, List.mem_filter, List.mem_range, Bool.and_eq_true]
          refine ⟨hlt, ?_, ?_⟩
          · have : l[i]? = some l[i] := List.getElem?_eq_getElem (by omega)
            simp [List.getD, this] at h
            simp [this, h]
          · have ho : ops[i]? = some ops[i] := by simp [hlt]
            simp only [ho, Option.map_some, Option.getD_some, Array.all_eq_true]
            intro j hj
            have h2 := (List.all_eq_true.1 ha) i (by simpa using hlt)
            simp only [ho, Option.map_some, Option.getD_some, Array.all_eq_true] at h2
            have h3' := h2 j hj
            rw [Bool.or_eq_true] at h3' ⊢
            rcases h3' with h3' | h3'
            · exact .inl h3'
            have h3 : ((ops[i]).after[j]).on < i := by simpa using h3'
            have h4 := ih _ (show ((ops[i]).after[j]).on ≤ n by omega) (by omega)
            right
            simpa using h4
        rw [hr] at hm; cases hm
  apply List.ext_getElem (by simpa using hl)
  intro i h1 h2
  have h3 := key i i (Nat.le_refl _) (by omega)
  simpa [List.getD, h1] using h3

/-- A region that draws: J holds at first and goes on by each operation that is ready; behind all of them it gives the post. -/
theorem region_inv {id : Nat} {a : Act} {w : World} (hm : P.follows .mixedOrders = true) (hg : ops.all (fun o => o.guard.isNone) = true) (ha : ahead ops = true) (J : List Bool → Act → World → Prop)
    (h0 : J (List.replicate ops.size false) a w.drew)
    (step : ∀ l a w i o, J l a w → l.getD i true = false → o.after.all (fun e => !Region.binds .any e || l.getD e.on false) = true → i < ops.size → ops[i]? = some o → o.wp P a w (J (l.set i true)) Q)
    (fin : ∀ a w, J (List.replicate ops.size true) a w → Q .normal a w) : (Code.region id ops true).wp P Q a w := by
  refine wp_region_any hm ?_
  have e : Array.replicate ops.size false = (List.replicate ops.size false).toArray := by simp
  rw [e]
  exact wpAny_inv J (fun l a w i o hj _ hi ho => step l a w i o hj (ready_open hi).2 (ready_dep hi ho) (ready_open hi).1 ho) hg (fun l a w hj hl hr => fin a w (by rw [← ready_all ha hl hr]; exact hj)) ops.size _ a _ (by simp) (by simp) h0

section
variable {o : Oper} {a : Act} {w w' : World} {K : Act → World → Prop}
theorem op_value (v : Value) (hrun : (execOp a.eval o).run P w = .ok (.value v) w') (h : K (a.put o.dst v) w') : o.wp P a w K Q := by
  unfold Oper.wp; rw [hrun]; exact h
theorem op_skip (hrun : (execOp a.eval o).run P w = .ok .skip w') (h : K (a.put o.dst undef) w') : o.wp P a w K Q := by
  unfold Oper.wp; rw [hrun]; exact h
theorem op_enter (f : FuncId) (args : Array Value) (hrun : (execOp a.eval o).run P w = .ok (.enter f args) w) (h : Calls P f args w fun e w'' => ∃ v, e = .returned v ∧ K (a.put o.dst v) w'') : o.wp P a w K Q := by
  unfold Oper.wp; rw [hrun, Oper.upon_enter]
  refine h.mono fun e w'' hh => ?_
  obtain ⟨v, rfl, hk⟩ := hh
  exact hk
/-- A variable is made. -/
theorem op_alloc (T : TypeId) (Z : Array Value) (ho : o.op = .alloc T) (hz : (zeroValue T).run P w = .ok (.agg Z) w)
    (h : K (a.put o.dst (.pointer (some ⟨w.heap.size, 0, none⟩))) (w.alloc (.cells Z T))) : o.wp P a w K Q := by
  refine op_value (.pointer (some ⟨w.heap.size, 0, none⟩)) ?_ h
  simp [execOp, ho, go_sem, hz]
/-- A function of the program is called. -/
theorem op_call (f : FuncId) (A : List Operand) (T : Array TypeId) (args : Array Value) (ho : o.op = .call { callee := .value (.func f), args := A.toArray, argTypes := T }) (hA : (A.map a.eval).toArray = args) (hf : (callFunc f args).run P w = .ok (.enter f args) w)
    (h : Calls P f args w fun e w'' => ∃ v, e = .returned v ∧ K (a.put o.dst v) w'') : o.wp P a w K Q := by
  refine op_enter f args ?_ h
  subst hA
  simp [execOp, ho, go_sem, Act.eval, hf]
/-- A slice of all of a variable, or of a slice. -/
theorem op_slice (T : TypeId) (x : Operand) (u v : Value) (ho : o.op = .slice T x none none none) (hx : a.eval x = u) (hr : (Instr.sliceAt T u none none none).run P w = .ok v w)
    (h : K (a.put o.dst v) w) : o.wp P a w K Q := by
  refine op_value v ?_ h
  unfold execOp
  simp only [ho, Option.map_none, hx]
  simp only [Sem.run_bind, hr, Result.andThen_ok, Sem.run_pure]
end
end
end Go.Proofs.Ytlfppgdaoijklaa
