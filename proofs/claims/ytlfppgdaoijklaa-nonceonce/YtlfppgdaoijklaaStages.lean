/- A region that draws its order: operations that only read, each with its value, and a few that turn memory, told by what holds behind each of them. -/
import Derived.Test.YtlfppgdaoijklaaLasts
namespace Go.Proofs.Ytlfppgdaoijklaa
open Go.RowKit

section
variable {P : Program} {ops : Array Oper} {Q : Exit → Act → World → Prop}

def slotAt (ops : Array Oper) (j : Nat) : Option Tmp := (ops[j]?).bind (·.dst)
/-- No two operations have one slot. -/
def okSlots (ops : Array Oper) (sz : Nat) : Bool :=
  (List.range ops.size).all fun i => match slotAt ops i with
    | some d => decide (d < sz) && (List.range ops.size).all fun j => j == i || !(slotAt ops j == some d)
    | none => true
def hasSlot (ops : Array Oper) (d : Nat) : Bool := (List.range ops.size).any fun j => slotAt ops j == some d
theorem slotAt_lt {j : Nat} {d : Tmp} (h : slotAt ops j = some d) : j < ops.size := by
  unfold slotAt at h
  cases ho : ops[j]? with
  | none => rw [ho] at h; cases h
  | some o => exact (Array.getElem?_eq_some_iff.1 ho).1
theorem okSlots_at {sz i : Nat} {d : Tmp} (h : okSlots ops sz = true) (hd : slotAt ops i = some d) : d < sz ∧ ∀ j, j ≠ i → slotAt ops j ≠ some d := by
  have h1 := List.all_eq_true.1 h i (by simpa using slotAt_lt hd)
  rw [hd] at h1
  simp only [Bool.and_eq_true, decide_eq_true_eq] at h1
  refine ⟨h1.1, fun j hj e => ?_⟩
  have h2 := List.all_eq_true.1 h1.2 j (by simpa using slotAt_lt e)
  simp [hj, e] at h2
theorem hasSlot_of {j : Nat} {d : Tmp} (h : slotAt ops j = some d) : hasSlot ops d = true :=
  List.any_eq_true.2 ⟨j, by simpa using slotAt_lt h, by simp [h]⟩
def upd {α : Type} (f : Nat → α) (i : Nat) (v : α) : Nat → α := fun j => if j = i then v else f j
theorem upd_same {α : Type} (f : Nat → α) (i : Nat) (v : α) : upd f i v i = v := by simp [upd]
theorem upd_other {α : Type} (f : Nat → α) {i j : Nat} (v : α) (h : j ≠ i) : upd f i v j = f j := by simp [upd, h]

/-- What an operation sees when its turn comes: the values of those it waits for, and the other slots as they were. -/
structure Sees (ops : Array Oper) (tab : Nat → Option Value) (f : Nat → Value) (a0 a : Act) (o : Oper) : Prop where
  dep : ∀ j d, waitsFor o j = true → slotAt ops j = some d → a.eval (.tmp d) = f j
  tab : ∀ j d u, waitsFor o j = true → slotAt ops j = some d → tab j = some u → a.eval (.tmp d) = u
  old : ∀ d, hasSlot ops d = false → a.eval (.tmp d) = a0.eval (.tmp d)

theorem eval_at {a : Act} {d : Tmp} {v : Value} (h : a.tmps[d]? = some v) : a.eval (.tmp d) = v := by
  unfold Act.eval
  simp [Array.getD_eq_getD_getElem?, h]

/-- The frame behind all operations. -/
def putAll (ops : Array Oper) (f : Nat → Value) : List Nat → Act → Act
  | [], a => a
  | i :: l, a => putAll ops f l (a.put (slotAt ops i) (f i))
theorem putAll_defers (f : Nat → Value) : ∀ (l : List Nat) (a : Act), (putAll ops f l a).defers = a.defers
  | [], a => rfl
  | i :: l, a => by
    show (putAll ops f l (a.put (slotAt ops i) (f i))).defers = _
    rw [putAll_defers f l]
    cases slotAt ops i <;> rfl
theorem put_get (a : Act) (s : Option Tmp) (v : Value) (d : Tmp) : (a.put s v).tmps[d]? = if s = some d ∧ d < a.tmps.size then some v else a.tmps[d]? := by
  cases s with
  | none => simp [Act.put]
  | some t =>
    show (a.tmps.setIfInBounds t v)[d]? = _
    by_cases h : t = d
    · subst h
      by_cases hs : t < a.tmps.size
      · simp [hs]
      · simp [hs]
    · rw [Array.getElem?_setIfInBounds_ne h]
      simp [h]
theorem put_size (a : Act) (s : Option Tmp) (v : Value) : (a.put s v).tmps.size = a.tmps.size := by
  cases s <;> simp [Act.put]
theorem putAll_size (f : Nat → Value) : ∀ (l : List Nat) (a : Act), (putAll ops f l a).tmps.size = a.tmps.size
  | [], a => rfl
  | i :: l, a => by
    show (putAll ops f l (a.put (slotAt ops i) (f i))).tmps.size = _
    rw [putAll_size f l, put_size]
theorem putAll_get (f : Nat → Value) (hs : ∀ i j d, slotAt ops i = some d → slotAt ops j = some d → i = j) : ∀ (l : List Nat) (a : Act) (d : Tmp), d < a.tmps.size → (putAll ops f l a).tmps[d]? = match l.find? (fun j => slotAt ops j == some d) with | some j => some (f j) | none => a.tmps[d]?
  | [], a, d, _ => rfl
  | i :: l, a, d, hd => by
    show (putAll ops f l (a.put (slotAt ops i) (f i))).tmps[d]? = _
    rw [putAll_get f hs l _ d (by rw [put_size]; exact hd)]
    by_cases hi : slotAt ops i = some d
    · have e : (i :: l).find? (fun j => slotAt ops j == some d) = some i := by simp [List.find?, hi]
      rw [e]
      cases h : l.find? (fun j => slotAt ops j == some d) with
      | none => simp [put_get, hi, hd]
      | some j =>
        have hj := List.find?_some h
        have : slotAt ops j = some d := by simpa using hj
        rw [hs i j d hi this]
    · have e : (i :: l).find? (fun j => slotAt ops j == some d) = l.find? (fun j => slotAt ops j == some d) := by
        have hb : (slotAt ops i == some d) = false := by simpa using hi
        simp [List.find?, hb]
      rw [e]
      cases h : l.find? (fun j => slotAt ops j == some d) with
      | none => simp [put_get, hi]
      | some j => rfl

/-- What is done waited for nothing that isn't. -/
def Shut (ops : Array Oper) (d : Nat → Bool) : Prop := ∀ i o j, ops[i]? = some o → waitsFor o j = true → d i = true → d j = true
structure StageI (ops : Array Oper) (tab : Nat → Option Value) (C : (Nat → Bool) → (Nat → Value) → World → Prop) (a0 : Act) (f : Nat → Value) (l : List Bool) (a : Act) (w : World) : Prop where
  world : C (fun i => l.getD i false) f w
  shut : Shut ops (fun i => l.getD i false)
  defers : a.defers = a0.defers
  size : a.tmps.size = a0.tmps.size
  done : ∀ j d, slotAt ops j = some d → l.getD j false = true → a.tmps[d]? = some (f j)
  told : ∀ j u, tab j = some u → l.getD j false = true → f j = u
  old : ∀ d, hasSlot ops d = false → a.tmps[d]? = a0.tmps[d]?

theorem region_stage {id : Nat} {a0 : Act} {w0 : World} (hm : P.follows .mixedOrders = true) (hg : ops.all (fun o => o.guard.isNone) = true) (ha : ahead ops = true) (hs : okSlots ops a0.tmps.size = true)
    (tab : Nat → Option Value) (C : (Nat → Bool) → (Nat → Value) → World → Prop)
    (h0 : ∀ f, C (fun _ => false) f w0.drew)
    (keep : ∀ i v d f w, tab i = some v → C d f w → C (upd d i true) (upd f i v) w)
    (quiet : ∀ i o v d f a w, ops[i]? = some o → tab i = some v → d i = false → Shut ops d → C d f w → Sees ops tab f a0 a o → o.wp P a w (fun a' w' => a' = a.put o.dst v ∧ C d f w') Q)
    (turn : ∀ i o d f a w, ops[i]? = some o → tab i = none → d i = false → Shut ops d → (∀ j, waitsFor o j = true → d j = true) → C d f w → Sees ops tab f a0 a o → o.wp P a w (fun a' w' => ∃ v, a' = a.put o.dst v ∧ C (upd d i true) (upd f i v) w') Q)
    (fin : ∀ f w, C (fun i => decide (i < ops.size)) f w → (∀ j u, j < ops.size → tab j = some u → f j = u) → Q .normal (putAll ops f (List.range ops.size) a0) w) :
    (Code.region id ops true).wp P Q a0 w0 := by
  have huniq : ∀ i j d, slotAt ops i = some d → slotAt ops j = some d → i = j := by
    intro i j d hi hj
    by_cases e : i = j
    · exact e
    · exact absurd hj ((okSlots_at hs hi).2 j (fun h => e h.symm))
  refine region_inv hm hg ha (fun l a w => ∃ f, l.length = ops.size ∧ StageI ops tab C a0 f l a w) ?_ ?_ ?_
  · refine ⟨fun _ => undef, by simp, ?_, fun i o j _ _ h => ?_, rfl, rfl, fun j d _ h => ?_, fun j u _ h => ?_, fun _ _ => rfl⟩
    · have e : (fun i => (List.replicate ops.size false).getD i false) = fun _ => false := by
        funext i
        simp only [List.getD, List.getElem?_replicate]
        split <;> rfl
      rw [e]; exact h0 _
    · exfalso
      simp only [List.getD, List.getElem?_replicate] at h
      split at h <;> cases h
    · exfalso
      simp only [List.getD, List.getElem?_replicate] at h
      split at h <;> cases h
    · exfalso
      simp only [List.getD, List.getElem?_replicate] at h
      split at h <;> cases h
  · rintro l a w i o ⟨f, hl, hj⟩ hf hd hi ho
    have hsee : Sees ops tab f a0 a o := ⟨fun j d hw hsl => eval_at (hj.done j d hsl (dep_done hd j hw)), fun j d u hw hsl ht => by rw [← hj.told j u ht (dep_done hd j hw)]; exact eval_at (hj.done j d hsl (dep_done hd j hw)), fun d hn => by
      unfold Act.eval
      simp [Array.getD_eq_getD_getElem?, hj.old d hn]⟩
    have hil : i < l.length := by omega
    have hfd : l.getD i false = false := by
      simp only [List.getD, List.getElem?_eq_getElem hil] at hf ⊢
      simpa using hf
    have hod : slotAt ops i = o.dst := by unfold slotAt; rw [ho]; rfl
    have hup : (fun k => (l.set i true).getD k false) = upd (fun k => l.getD k false) i true := by
      funext k
      unfold upd
      by_cases hk : k = i
      · subst hk; simp [List.getD, hil]
      · rw [if_neg hk]; simp only [List.getD]; rw [List.getElem?_set_ne (fun e => hk e.symm)]
    have build : ∀ v w', C (upd (fun k => l.getD k false) i true) (upd f i v) w' → (∀ u, tab i = some u → v = u) → ∃ f', (l.set i true).length = ops.size ∧ StageI ops tab C a0 f' (l.set i true) (a.put o.dst v) w' := by
      intro v w' hC hv
      refine ⟨upd f i v, by simpa using hl, by rw [hup]; exact hC, ?_, ?_, by rw [put_size]; exact hj.size, ?_, ?_, ?_⟩
      · rw [hup]
        intro k x j hk hwt hdn
        by_cases hji : j = i
        · rw [hji]; exact upd_same _ _ _
        · rw [upd_other _ _ hji]
          by_cases hki : k = i
          · subst hki
            obtain rfl := Option.some.inj (ho.symm.trans hk)
            exact dep_done hd j hwt
          · rw [upd_other _ _ hki] at hdn
            exact hj.shut k x j hk hwt hdn
      · rw [← hj.defers]; cases o.dst <;> rfl
      · intro j d hsl hdn
        rw [put_get]
        by_cases hji : j = i
        · subst hji
          have hdd : o.dst = some d := by rw [← hod]; exact hsl
          rw [if_pos ⟨hdd, by rw [hj.size]; exact (okSlots_at hs hsl).1⟩, upd_same]
        · have hne : ¬ (o.dst = some d ∧ d < a.tmps.size) := fun h => hji (huniq j i d hsl (by rw [hod]; exact h.1))
          rw [if_neg hne, upd_other f v hji]
          refine hj.done j d hsl ?_
          simp only [List.getD] at hdn ⊢
          rwa [List.getElem?_set_ne (fun e => hji e.symm)] at hdn
      · intro j u ht hdn
        by_cases hji : j = i
        · subst hji; rw [upd_same]; exact hv u ht
        · rw [upd_other f v hji]
          refine hj.told j u ht ?_
          simp only [List.getD] at hdn ⊢
          rwa [List.getElem?_set_ne (fun e => hji e.symm)] at hdn
      · intro d hn
        rw [put_get]
        have hne : ¬ (o.dst = some d ∧ d < a.tmps.size) := fun h => by
          have h2 := hasSlot_of (ops := ops) (j := i) (d := d) (by rw [hod]; exact h.1)
          rw [hn] at h2; cases h2
        rw [if_neg hne]
        exact hj.old d hn
    cases ht : tab i with
    | some v =>
      refine Oper.wp_mono ?_ (quiet i o v _ f a w ho ht hfd hj.shut hj.world hsee)
      rintro a' w' ⟨rfl, hCw⟩
      exact build v w' (keep i v _ f w' ht hCw) (fun u hu => by rw [ht] at hu; exact Option.some.inj hu)
    | none =>
      refine Oper.wp_mono ?_ (turn i o _ f a w ho ht hfd hj.shut (fun j hw => dep_done hd j hw) hj.world hsee)
      rintro a' w' ⟨v, rfl, hC⟩
      exact build v w' hC (fun u hu => by rw [ht] at hu; cases hu)
  · rintro a w ⟨f, hl, hj⟩
    have hall : ∀ j, j < ops.size → (List.replicate ops.size true).getD j false = true := fun j h => by simp [List.getD, h]
    have e : (fun i => (List.replicate ops.size true).getD i false) = fun i => decide (i < ops.size) := by
      funext i
      by_cases h : i < ops.size
      · simp [List.getD, h]
      · simp [List.getD, h]
    have hC := hj.world
    rw [e] at hC
    have h := fin f w hC (fun j u h1 h2 => hj.told j u h2 (hall j h1))
    have ea : putAll ops f (List.range ops.size) a0 = a := by
      have e1 : (putAll ops f (List.range ops.size) a0).tmps = a.tmps := by
        apply Array.ext_getElem?
        intro d
        by_cases hd : d < a0.tmps.size
        · rw [putAll_get f huniq _ _ d hd]
          cases hfd : (List.range ops.size).find? (fun j => slotAt ops j == some d) with
          | some j =>
            have h1 : slotAt ops j = some d := by simpa using List.find?_some hfd
            exact (hj.done j d h1 (hall j (slotAt_lt h1))).symm
          | none =>
            refine (hj.old d ?_).symm
            cases hh : hasSlot ops d with
            | false => rfl
            | true =>
              obtain ⟨j, h1, h2⟩ := List.any_eq_true.1 hh
              have := List.find?_eq_none.1 hfd j h1
              exact absurd h2 this
        · rw [Array.getElem?_eq_none (by rw [putAll_size]; omega), Array.getElem?_eq_none (by rw [hj.size]; omega)]
      have e2 : (putAll ops f (List.range ops.size) a0).defers = a.defers := by rw [putAll_defers, hj.defers]
      cases hp : putAll ops f (List.range ops.size) a0
      rw [hp] at e1 e2
      cases a
      simp only at e1 e2
      rw [e1, e2]
    rw [← ea]
    exact h

/-- A call of a function whose contract leaves the class. -/
theorem quiet_call {C : World → Prop} {ρ : Operand → Value} {o : Oper} {w : World} {v : Value} (f : FuncId) (A : List Operand) (T : Array TypeId) (args : Array Value) (ho : o.op = .call { callee := .value (.func f), args := A.toArray, argTypes := T }) (hρ : ρ (.func f) = .func (.func f) #[] #[]) (hA : (A.map ρ).toArray = args) (hf : (callFunc f args).run P w = .ok (.enter f args) w)
    (h : Calls P f args w fun e w'' => e = .returned v ∧ C w'') : Oper.quietUpon P C w v ((execOp ρ o).run P w) := by
  have e : (execOp ρ o).run P w = .ok (.enter f args) w := by
    subst hA
    simp [execOp, ho, go_sem, hρ, hf]
  rw [e]
  exact ⟨rfl, h⟩
/-- A row of one made, as one operation. -/
theorem op_row1 {w w' : World} {o : Oper} {a : Act} {K : Act → World → Prop} (t : TypeId) (x : Operand) (u v : Value) (ho : o.op = .buildSlice t 1 #[(0, x)]) (hx : a.eval x = u) (hr : (Instr.buildSlice t 1 #[(0, u)]).run P w = .ok v w') (h : K (a.put o.dst v) w') : o.wp P a w K Q := by
  refine op_value (w' := w') v ?_ h
  unfold execOp
  simp only [ho, List.map_toArray, List.map_cons, List.map_nil, hx, Sem.run_bind, hr, Result.andThen_ok, Sem.run_pure]
/-- The frame behind all operations, by their slots. -/
def putL : List (Option Tmp) → (Nat → Value) → Nat → Act → Act
  | [], _, _, a => a
  | t :: l, f, i, a => putL l f (i + 1) (a.put t (f i))
theorem putAll_putL (f : Nat → Value) : ∀ (n k : Nat) (a : Act), putAll ops f (List.range' k n) a = putL ((List.range' k n).map (slotAt ops)) f k a
  | 0, k, a => rfl
  | n + 1, k, a => by
    rw [List.range'_succ, List.map_cons]
    exact putAll_putL f n (k + 1) (a.put (slotAt ops k) (f k))
/-- Each operation that has a value looks at slots of such ones that it waits for, or at slots of none. -/
def readsOk (ops : Array Oper) (vals : List (Option Value)) : Bool :=
  (List.range ops.size).all fun i => !(vals.getD i none).isSome || ((ops[i]?).map fun o => o.op.operands.all fun x => match x with
    | .tmp d => !hasSlot ops d || (List.range ops.size).any fun j => waitsFor o j && (slotAt ops j == some d) && (vals.getD j none).isSome
    | _ => true).getD true

/-- The same, those that only read by one frame that has all their values. -/
theorem region_frame {id : Nat} {a0 : Act} {w0 : World} (slots : List (Option Tmp)) (hslots : (List.range' 0 ops.size).map (slotAt ops) = slots) (vals : List (Option Value)) (C : (Nat → Bool) → (Nat → Value) → World → Prop)
    (hm : P.follows .mixedOrders = true) (hg : ops.all (fun o => o.guard.isNone) = true) (ha : ahead ops = true) (hs : okSlots ops a0.tmps.size = true) (hr : readsOk ops vals = true) (hsel : Region.noSelect ops = true)
    (h0 : ∀ f, C (fun _ => false) f w0.drew)
    (keep : ∀ i v d f w, vals.getD i none = some v → C d f w → C (upd d i true) (upd f i v) w)
    (quiet : ∀ ρ : Operand → Value, (∀ c, ρ (.const c) = c) ∧ (∀ h, ρ (.func h) = .func (.func h) #[] #[]) → (∀ j d u, slotAt ops j = some d → vals.getD j none = some u → ρ (.tmp d) = u) → (∀ d, hasSlot ops d = false → ρ (.tmp d) = a0.eval (.tmp d)) →
      ∀ i o v d f w, ops[i]? = some o → vals.getD i none = some v → d i = false → Shut ops d → C d f w → Oper.quietUpon P (C d f) w v ((execOp ρ o).run P w))
    (turn : ∀ i o d f a w, ops[i]? = some o → vals.getD i none = none → d i = false → Shut ops d → (∀ j, waitsFor o j = true → d j = true) → C d f w → Sees ops (fun i => vals.getD i none) f a0 a o → o.wp P a w (fun a' w' => ∃ v, a' = a.put o.dst v ∧ C (upd d i true) (upd f i v) w') Q)
    (fin : ∀ f w, C (fun i => decide (i < ops.size)) f w → (∀ j u, j < ops.size → vals.getD j none = some u → f j = u) → Q .normal (putL slots f 0 a0) w) :
    (Code.region id ops true).wp P Q a0 w0 := by
  have huniq : ∀ i j d, slotAt ops i = some d → slotAt ops j = some d → i = j := by
    intro i j d hi hj
    by_cases e : i = j
    · exact e
    · exact absurd hj ((okSlots_at hs hi).2 j (fun h => e h.symm))
  obtain ⟨az, haz⟩ : ∃ az, az = putAll ops (fun i => (vals.getD i none).getD undef) (List.range ops.size) a0 := ⟨_, rfl⟩
  have z1 : ∀ j d u, slotAt ops j = some d → vals.getD j none = some u → az.eval (.tmp d) = u := by
    intro j d u hsl hv
    refine eval_at ?_
    rw [haz, putAll_get _ huniq _ _ d (okSlots_at hs hsl).1]
    cases h : (List.range ops.size).find? (fun j => slotAt ops j == some d) with
    | none =>
      have := List.find?_eq_none.1 h j (by simpa using slotAt_lt hsl)
      exact absurd (by simp [hsl]) this
    | some k =>
      have h1 : slotAt ops k = some d := by simpa using List.find?_some h
      obtain rfl := huniq k j d h1 hsl
      show some ((vals.getD k none).getD undef) = some u
      rw [hv]; rfl
  have z2 : ∀ d, hasSlot ops d = false → az.eval (.tmp d) = a0.eval (.tmp d) := by
    intro d hn
    have e : az.tmps[d]? = a0.tmps[d]? := by
      by_cases hd : d < a0.tmps.size
      · rw [haz, putAll_get _ huniq _ _ d hd]
        cases h : (List.range ops.size).find? (fun j => slotAt ops j == some d) with
        | none => rfl
        | some k =>
          have h1 : slotAt ops k = some d := by simpa using List.find?_some h
          rw [hasSlot_of h1] at hn; cases hn
      · rw [Array.getElem?_eq_none (by rw [haz, putAll_size]; omega), Array.getElem?_eq_none (by omega)]
    unfold Act.eval
    simp [Array.getD_eq_getD_getElem?, e]
  refine region_stage hm hg ha hs (fun i => vals.getD i none) C h0 keep ?_ turn (fun f w h1 h2 => by
    rw [List.range_eq_range', putAll_putL, hslots]
    exact fin f w h1 h2)
  intro i o v d f a w ho ht hd hsh hC hsee
  have hcong : execOp a.eval o = execOp az.eval o := by
    refine execOp_congr o (fun cs b => Region.noSelect_spec hsel i o cs b ho) (fun x hx => ?_)
    have h1 := List.all_eq_true.1 hr i (by simpa using (Array.getElem?_eq_some_iff.1 ho).1)
    rw [ht, ho] at h1
    simp only [Option.isSome_some, Bool.not_true, Bool.false_or, Option.map_some, Option.getD_some, Array.all_eq_true'] at h1
    have h2 := h1 x hx
    cases x with
    | tmp t =>
      simp only [Bool.or_eq_true, Bool.not_eq_true'] at h2
      rcases h2 with h2 | h2
      · rw [z2 t h2]; exact hsee.old t h2
      · obtain ⟨j, _, hj⟩ := List.any_eq_true.1 h2
        simp only [Bool.and_eq_true, beq_iff_eq] at hj
        obtain ⟨⟨hj1, hj2⟩, hj3⟩ := hj
        obtain ⟨u, hu⟩ := Option.isSome_iff_exists.1 hj3
        rw [z1 j t u hj2 hu]
        exact hsee.tab j t u hj1 hj2 hu
    | const c => rfl
    | global g => rfl
    | func g => rfl
  refine Oper.wp_of_quiet (C := C d f) (K := fun a' => a' = a.put o.dst v) hC (fun a' w' hw hk => ⟨hk, hw⟩) ⟨v, fun w hw => ?_, rfl⟩
  have h := quiet az.eval ⟨fun c => rfl, fun h => rfl⟩ z1 z2 i o v d f w ho ht hd hsh hw
  unfold Oper.quietAt
  rw [hcong]
  exact h
end
end Go.Proofs.Ytlfppgdaoijklaa
