/- A region that draws its order and only makes new memory: each operation by what it yields. -/
import Derived.Test.YtdlalpklopnpjaaDraws
namespace Go.Proofs.Ytdlalpklopnpjaa
open Go.RowKit

section
variable {P : Program} {ops : Array Oper} {Q : Exit → Act → World → Prop}

def slotOf (ops : Array Oper) (j : Nat) : Option Tmp := (ops[j]?).bind (·.dst)
/-- Each operation has a slot of its own, within the frame. -/
def ownSlots (ops : Array Oper) (sz : Nat) : Bool :=
  (List.range ops.size).all fun i => match slotOf ops i with
    | some d => decide (d < sz) && (List.range ops.size).all fun j => j == i || !(slotOf ops j == some d)
    | none => false
def isSlot (ops : Array Oper) (d : Nat) : Bool := (List.range ops.size).any fun j => slotOf ops j == some d
theorem slotOf_lt {j : Nat} {d : Tmp} (h : slotOf ops j = some d) : j < ops.size := by
  unfold slotOf at h
  cases ho : ops[j]? with
  | none => rw [ho] at h; cases h
  | some o => exact (Array.getElem?_eq_some_iff.1 ho).1
theorem ownSlots_at {sz i : Nat} (h : ownSlots ops sz = true) (hi : i < ops.size) : ∃ d, slotOf ops i = some d ∧ d < sz ∧ ∀ j, j ≠ i → slotOf ops j ≠ some d := by
  have h1 := List.all_eq_true.1 h i (by simpa using hi)
  cases hs : slotOf ops i with
  | none => rw [hs] at h1; cases h1
  | some d =>
    rw [hs] at h1
    simp only [Bool.and_eq_true, decide_eq_true_eq] at h1
    refine ⟨d, rfl, h1.1, fun j hj e => ?_⟩
    have h2 := List.all_eq_true.1 h1.2 j (by simpa using slotOf_lt e)
    simp [hj, e] at h2
theorem isSlot_of {j : Nat} {d : Tmp} (h : slotOf ops j = some d) : isSlot ops d = true :=
  List.any_eq_true.2 ⟨j, by simpa using slotOf_lt h, by simp [h]⟩

/-- What an operation may know when its turn comes. -/
structure Know (ops : Array Oper) (R : Nat → Value → World → Prop) (a0 a : Act) (w : World) (o : Oper) : Prop where
  dep : ∀ j d, (o.after.any fun e => Region.binds .any e && e.on == j) = true → slotOf ops j = some d → ∃ v, a.tmps[d]? = some v ∧ R j v w
  old : ∀ d, isSlot ops d = false → a.tmps[d]? = a0.tmps[d]?

structure Yields (ops : Array Oper) (R : Nat → Value → World → Prop) (a0 : Act) (w0 : World) (l : List Bool) (a : Act) (w : World) : Prop where
  but : But (fun _ => False) w0 w
  defers : a.defers = a0.defers
  size : a.tmps.size = a0.tmps.size
  done : ∀ j d, slotOf ops j = some d → l.getD j false = true → ∃ v, a.tmps[d]? = some v ∧ R j v w
  old : ∀ d, isSlot ops d = false → a.tmps[d]? = a0.tmps[d]?

theorem wpAny_know (J : List Bool → Act → World → Prop)
    (step : ∀ l a w i o, J l a w → l.length = ops.size → i ∈ Region.ready .any ops l.toArray → ops[i]? = some o → Region.wanted o (yielded ops a.tmps) = true ∧ o.wp P a w (J (l.set i true)) Q)
    (fin : ∀ l a w, J l a w → l.length = ops.size → Region.ready .any ops l.toArray = [] → Q .normal a w) :
    ∀ (fuel : Nat) (l : List Bool) (a : Act) (w : World), l.length = ops.size → l.count false ≤ fuel → J l a w → wpAny P .any ops Q fuel l.toArray a w := by
  intro fuel
  induction fuel with
  | zero =>
    intro l a w hl hc hj
    have hr := ready_none (md := .any) hl (by omega)
    exact ⟨hr, fin l a w hj hl hr⟩
  | succ fuel ih =>
    intro l a w hl hc hj
    refine ⟨fun hr => fin l a w hj hl hr, fun i hi => ?_⟩
    obtain ⟨hlt, hf⟩ := ready_open hi
    have hlt' : i < l.length := by omega
    have ho : ops[i]? = some ops[i] := by simp [hlt]
    obtain ⟨hw, hst⟩ := step l a w i _ hj hl hi ho
    have e : l.toArray.setIfInBounds i true = (l.set i true).toArray := by simp
    rw [e]
    unfold wpOp
    rw [ho]
    simp only [hw, if_true]
    refine .inl (Oper.wp_mono (fun a' w' hj' => ih _ a' w' (by simp [hl]) ?_ hj') hst)
    have := count_listed hlt' hf
    omega

theorem region_grow {id : Nat} {a0 : Act} {w0 : World} (hm : P.follows .mixedOrders = true) (ha : ahead ops = true) (hs : ownSlots ops a0.tmps.size = true) (R : Nat → Value → World → Prop)
    (mono : ∀ i v w w', R i v w → But (fun _ => False) w w' → R i v w')
    (step : ∀ i o a w, ops[i]? = some o → But (fun _ => False) w0 w → Know ops R a0 a w o → Region.wanted o (yielded ops a.tmps) = true ∧ o.wp P a w (fun a' w' => ∃ v, a' = a.put o.dst v ∧ But (fun _ => False) w w' ∧ R i v w') Q)
    (fin : ∀ a w, But (fun _ => False) w0 w → a.defers = a0.defers → (∀ j d, slotOf ops j = some d → ∃ v, a.tmps[d]? = some v ∧ R j v w) → (∀ d, isSlot ops d = false → a.tmps[d]? = a0.tmps[d]?) → Q .normal a w) :
    (Code.region id ops true).wp P Q a0 w0 := by
  refine wp_region_any hm ?_
  have e : Array.replicate ops.size false = (List.replicate ops.size false).toArray := by simp
  rw [e]
  refine wpAny_know (Yields ops R a0 w0) ?_ ?_ ops.size _ a0 _ (by simp) (by simp) ⟨(But.refl _ w0).drew, rfl, rfl, fun j d _ h => ?_, fun _ _ => rfl⟩
  · intro l a w i o hj hl hi ho
    obtain ⟨hlt, hf⟩ := ready_open hi
    have hdep := ready_dep hi ho
    obtain ⟨d, hd, hdl, hdn⟩ := ownSlots_at hs hlt
    have hod : o.dst = some d := by unfold slotOf at hd; rw [ho] at hd; exact hd
    have hkn : Know ops R a0 a w o := ⟨fun j d' hj1 hj2 => hj.done j d' hj2 (by
      rw [Array.any_eq_true] at hj1
      obtain ⟨x, hx, hx2⟩ := hj1
      simp only [Bool.and_eq_true, beq_iff_eq] at hx2
      rw [Array.all_eq_true] at hdep
      have := hdep x hx
      rw [hx2.1, hx2.2] at this
      simpa using this), hj.old⟩
    obtain ⟨hw, hwp⟩ := step i o a w ho hj.but hkn
    refine ⟨hw, Oper.wp_mono ?_ hwp⟩
    rintro a' w' ⟨v, rfl, hbut, hR⟩
    rw [hod]
    have htm : (a.put (some d) v).tmps = a.tmps.setIfInBounds d v := rfl
    have hil : i < l.length := by omega
    refine ⟨hj.but.trans hbut, hj.defers, by rw [htm]; simpa using hj.size, fun j d' hj1 hj2 => ?_, fun d' hd' => ?_⟩
    · by_cases hji : j = i
      · subst hji
        have : d' = d := Option.some.inj (hj1.symm.trans hd)
        subst this
        exact ⟨v, by rw [htm]; simp [hj.size, hdl], hR⟩
      · have hj3 : l.getD j false = true := by
          simp only [List.getD] at hj2 ⊢
          rwa [List.getElem?_set_ne (by omega)] at hj2
        obtain ⟨u, hu, hRu⟩ := hj.done j d' hj1 hj3
        have hne : d ≠ d' := fun e => hdn j hji (by rw [hj1, e])
        exact ⟨u, by rw [htm, Array.getElem?_setIfInBounds_ne hne]; exact hu, mono j u w w' hRu hbut⟩
    · have hne : d ≠ d' := fun e => by
        have := isSlot_of hd
        rw [e, hd'] at this
        cases this
      rw [htm, Array.getElem?_setIfInBounds_ne hne]
      exact hj.old d' hd'
  · intro l a w hj hl hr
    have hall := ready_all ha hl hr
    exact fin a w hj.but hj.defers (fun j d hd => hj.done j d hd (by
      rw [hall]
      have := slotOf_lt hd
      simp [List.getD, this])) hj.old
  · exfalso
    simp only [List.getD, List.getElem?_replicate] at h
    split at h <;> cases h

section
variable {R : Nat → Value → World → Prop} {a0 a : Act} {w : World} {o : Oper}
/-- The value of a slot. -/
theorem eval_slot {d : Tmp} {v : Value} (h : a.tmps[d]? = some v) : a.eval (.tmp d) = v := by
  unfold Act.eval
  simp [Array.getD_eq_getD_getElem?, h]
theorem Know.val (h : Know ops R a0 a w o) (j : Nat) (d : Tmp) (h1 : (o.after.any fun e => Region.binds .any e && e.on == j) = true) (h2 : slotOf ops j = some d) : R j (a.eval (.tmp d)) w := by
  obtain ⟨v, hv, hr⟩ := h.dep j d h1 h2
  rw [eval_slot hv]; exact hr
theorem Know.was (h : Know ops R a0 a w o) (d : Tmp) (h1 : isSlot ops d = false) : a.eval (.tmp d) = a0.eval (.tmp d) := by
  unfold Act.eval
  simp [Array.getD_eq_getD_getElem?, h.old d h1]
theorem Know.guard (h : Know ops R a0 a w o) (j : Nat) (d : Tmp) (b : Bool) (hg : o.guard = some (j, b)) (h1 : (o.after.any fun e => Region.binds .any e && e.on == j) = true) (h2 : slotOf ops j = some d) (h3 : ∀ v, R j v w → v = .bool b) : Region.wanted o (yielded ops a.tmps) = true := by
  obtain ⟨v, hv, hr⟩ := h.dep j d h1 h2
  rw [h3 v hr] at hv
  unfold slotOf at h2
  simp [Region.wanted, hg, yielded, h2, hv]
theorem Know.free (hg : o.guard = none) : Region.wanted o (yielded ops a.tmps) = true := by simp [Region.wanted, hg]
end
end
end Go.Proofs.Ytdlalpklopnpjaa
