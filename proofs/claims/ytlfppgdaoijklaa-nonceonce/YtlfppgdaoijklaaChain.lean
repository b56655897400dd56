/- A region that draws its order: operations that only read (or call what only makes new memory), each with one value, and a chain of others, one behind the other, that turn memory. -/
import Derived.Test.YtlfppgdaoijklaaStages
namespace Go.Proofs.Ytlfppgdaoijklaa
open Go.RowKit

section
variable {P : Program} {ops : Array Oper} {Q : Exit → Act → World → Prop}

def waits (ops : Array Oper) (i j : Nat) : Bool := ((ops[i]?).map fun o => waitsFor o j).getD false
theorem waits_of {i j : Nat} {o : Oper} (ho : ops[i]? = some o) : waits ops i j = waitsFor o j := by unfold waits; rw [ho]; rfl

/-- Each one waits only for what is ahead in the list, looks only at slots of those it waits for, or of those that wait for it. -/
def slotsOk (ops : Array Oper) (i : Nat) (o : Oper) : Bool :=
  (o.op.operands.all fun x => match x with
    | .tmp d => (List.range ops.size).all fun j => !(slotAt ops j == some d) || waitsFor o j || waits ops j i
    | _ => true) &&
  (match o.guard with | some (g, _) => waitsFor o g && (slotAt ops g).isSome | none => true)
def topoOk (ops : Array Oper) : List Nat → List Nat → Bool
  | _, [] => true
  | pre, i :: l => !pre.contains i && ((ops[i]?).map fun o => (o.after.all fun e => !Region.binds .any e || pre.contains e.on) && slotsOk ops i o).getD false && topoOk ops (pre ++ [i]) l
def ordOf : List (List Nat × Nat) → List Nat → List Nat
  | [], tl => tl
  | (rs, t) :: ph, tl => rs ++ t :: ordOf ph tl
/-- Behind a turn all wait for it, or for one that does. -/
def lateOk (ops : Array Oper) : List (List Nat × Nat) → List Nat → Bool
  | [], _ => true
  | (_, t) :: ph, tl => (ordOf ph tl).all (fun i => (t :: ordOf ph tl).any fun j => waits ops i j) && lateOk ops ph tl
def chainOk (ops : Array Oper) (sz : Nat) (ph : List (List Nat × Nat)) (tl : List Nat) : Bool :=
  okSlots ops sz && ahead ops && Region.noSelect ops && topoOk ops [] (ordOf ph tl) && ((List.range ops.size).all fun i => (ordOf ph tl).contains i) && lateOk ops ph tl

abbrev Grow (w w' : World) : Prop := But (fun _ => False) w w'
/-- One value each, whatever world of the class it is. -/
def wpStill (P : Program) (ops : Array Oper) {ι : Type} (W : ι → World) (Qa : Act → Prop) : List Nat → Act → Prop
  | [], a => Qa a
  | i :: rest, a => match ops[i]? with
    | none => False
    | some o => if Region.wanted o (yielded ops a.tmps) then ∃ v, (∀ x, Oper.quietUpon P (Grow (W x)) (W x) v ((execOp a.eval o).run P (W x))) ∧ wpStill P ops W Qa rest (a.put o.dst v) else wpStill P ops W Qa rest (a.put o.dst undef)
/-- One that turns memory: K' is what holds behind it, S' what those may lean on that come behind it. -/
def TurnAt (P : Program) (ops : Array Oper) (t : Nat) (full : Bool) (S K : World → Prop) (next : (World → Prop) → (World → Prop) → Act → Prop) (a : Act) : Prop :=
  match ops[t]? with
  | none => False
  | some o => if Region.wanted o (yielded ops a.tmps) then ∃ K' S' : Value → World → Prop, (∀ v w w', K' v w → Grow w w' → K' v w') ∧ (∀ v w, K' v w → S' v w) ∧ (full = true ∨ ∀ v w, S' v w → S w) ∧
      (∀ w, K w → o.wp P a w (fun a'' w' => ∃ v, a'' = a.put o.dst v ∧ K' v w') (fun _ _ _ => False)) ∧ ∀ v, (∃ w, K' v w) → next (S' v) (K' v) (a.put o.dst v)
    else next S K (a.put o.dst undef)
def isFull (ops : Array Oper) (t : Nat) (prs : List Nat) : Bool := prs.all fun k => waits ops t k || (List.range ops.size).any fun m => waits ops t m && waits ops m k
def Chain (P : Program) (ops : Array Oper) (Q : Exit → Act → World → Prop) : List (List Nat × Nat) → List Nat → List Nat → (World → Prop) → (World → Prop) → Act → Prop
  | [], tl, _, S, K, a => ∀ (ι : Type) [Nonempty ι] (W : ι → World), (∀ x, S (W x)) → wpStill P ops W (fun a' => ∀ w, K w → Q .normal a' w) tl a
  | (rs, t) :: ph, tl, prs, S, K, a => ∀ (ι : Type) [Nonempty ι] (W : ι → World), (∀ x, S (W x)) →
      wpStill P ops W (TurnAt P ops t (isFull ops t (prs ++ rs)) S K (fun S' K' => Chain P ops Q ph tl (prs ++ rs) S' K')) rs a

/-- What an operation sees of the values of those it waits for. -/
def rho (ops : Array Oper) (a0 : Act) (V : Nat → Value) (o : Oper) : Operand → Value
  | .tmp d => match (List.range ops.size).find? (fun j => waitsFor o j && slotAt ops j == some d) with
    | some j => V j
    | none => a0.eval (.tmp d)
  | x => a0.eval x
def boolOf : Value → Option Bool
  | .bool b => some b
  | _ => none
structure Holds1 (P : Program) (ops : Array Oper) (a0 : Act) (V : Nat → Value) (S : World → Prop) (k : Nat) (o : Oper) : Prop where
  yes : Region.wanted o (fun g => boolOf (V g)) = true → ∀ w, S w → Oper.quietUpon P (Grow w) w (V k) ((execOp (rho ops a0 V o) o).run P w)
  no : Region.wanted o (fun g => boolOf (V g)) = false → V k = undef

theorem wanted_congr {o : Oper} {y y' : Nat → Option Bool} (h : ∀ g b, o.guard = some (g, b) → y g = y' g) : Region.wanted o y = Region.wanted o y' := by
  unfold Region.wanted
  cases hg : o.guard with
  | none => rfl
  | some p => obtain ⟨g, b⟩ := p; simp only [h g b hg]

/-- An act in whose slots the values of those that it waits for lie, and that is otherwise as it was. -/
structure SeesV (ops : Array Oper) (a0 a : Act) (V : Nat → Value) (i : Nat) (o : Oper) : Prop where
  dep : ∀ j d, waitsFor o j = true → slotAt ops j = some d → a.tmps[d]? = some (V j)
  ant : ∀ j d, waits ops j i = true → slotAt ops j = some d → waitsFor o j = false → a.tmps[d]? = a0.tmps[d]?
  old : ∀ d, hasSlot ops d = false → a.tmps[d]? = a0.tmps[d]?

theorem SeesV.exec {a0 a : Act} {V : Nat → Value} {i : Nat} {o : Oper} (h : SeesV ops a0 a V i o) (ho : ops[i]? = some o) (hsel : Region.noSelect ops = true) (hok : slotsOk ops i o = true) : execOp a.eval o = execOp (rho ops a0 V o) o := by
  refine execOp_congr o (fun cs b => Region.noSelect_spec hsel i o cs b ho) (fun x hx => ?_)
  simp only [slotsOk, Bool.and_eq_true, Array.all_eq_true'] at hok
  have h1 := hok.1 x hx
  cases x with
  | tmp d =>
    show a.eval (.tmp d) = match (List.range ops.size).find? (fun j => waitsFor o j && slotAt ops j == some d) with | some j => V j | none => a0.eval (.tmp d)
    cases hf : (List.range ops.size).find? (fun j => waitsFor o j && slotAt ops j == some d) with
    | some j =>
      have := List.find?_some hf
      simp only [Bool.and_eq_true, beq_iff_eq] at this
      exact eval_at (h.dep j d this.1 this.2)
    | none =>
      have hno := List.find?_eq_none.1 hf
      have he : a.tmps[d]? = a0.tmps[d]? := by
        cases hh : hasSlot ops d with
        | false => exact h.old d hh
        | true =>
          obtain ⟨j, hj1, hj2⟩ := List.any_eq_true.1 hh
          have hsl : slotAt ops j = some d := by simpa using hj2
          have hw : waitsFor o j = false := by
            cases hw : waitsFor o j with
            | false => rfl
            | true => exact absurd (by simp [hw, hsl]) (hno j hj1)
          have h2 := List.all_eq_true.1 h1 j hj1
          simp only [hsl, hw, beq_self_eq_true, Bool.not_true, Bool.false_or] at h2
          exact h.ant j d h2 hsl hw
      unfold Act.eval
      simp [Array.getD_eq_getD_getElem?, he]
  | const c => rfl
  | global g => rfl
  | func g => rfl
theorem SeesV.wanted {a0 a : Act} {V : Nat → Value} {i : Nat} {o : Oper} (h : SeesV ops a0 a V i o) (hok : slotsOk ops i o = true) : Region.wanted o (yielded ops a.tmps) = Region.wanted o (fun g => boolOf (V g)) := by
  refine wanted_congr fun g b hg => ?_
  simp only [slotsOk, hg, Bool.and_eq_true] at hok
  obtain ⟨d, hd⟩ := Option.isSome_iff_exists.1 hok.2.2
  have h1 := h.dep g d hok.2.1 hd
  have hd' : (ops[g]?).bind (·.dst) = some d := hd
  unfold yielded
  rw [hd']
  simp only [Option.bind_some, h1]
  cases V g <;> rfl

theorem putAll_append (f : Nat → Value) : ∀ (l m : List Nat) (a : Act), putAll ops f (l ++ m) a = putAll ops f m (putAll ops f l a)
  | [], _, _ => rfl
  | _ :: l, m, _ => putAll_append f l m _
theorem putAll_congr {f g : Nat → Value} : ∀ (l : List Nat) (a : Act), (∀ i ∈ l, f i = g i) → putAll ops f l a = putAll ops g l a
  | [], _, _ => rfl
  | i :: l, a, h => by
    show putAll ops f l (a.put (slotAt ops i) (f i)) = putAll ops g l (a.put (slotAt ops i) (g i))
    rw [h i List.mem_cons_self]
    exact putAll_congr l _ (fun j hj => h j (List.mem_cons_of_mem _ hj))
theorem rho_congr {a0 : Act} {V V' : Nat → Value} {o : Oper} (h : ∀ j, waitsFor o j = true → V j = V' j) : rho ops a0 V o = rho ops a0 V' o := by
  funext x
  cases x with
  | tmp d =>
    show (match (List.range ops.size).find? (fun j => waitsFor o j && slotAt ops j == some d) with | some j => V j | none => a0.eval (.tmp d)) = (match (List.range ops.size).find? (fun j => waitsFor o j && slotAt ops j == some d) with | some j => V' j | none => a0.eval (.tmp d))
    cases hf : (List.range ops.size).find? (fun j => waitsFor o j && slotAt ops j == some d) with
    | none => rfl
    | some j =>
      have := List.find?_some hf
      simp only [Bool.and_eq_true] at this
      exact h j this.1
  | const c => rfl
  | global g => rfl
  | func g => rfl
theorem Holds1.congr {a0 : Act} {V V' : Nat → Value} {S : World → Prop} {k : Nat} {o : Oper} (h : Holds1 P ops a0 V S k o) (hk : V k = V' k) (hw : ∀ j, waitsFor o j = true → V j = V' j) (hg : ∀ g b, o.guard = some (g, b) → V g = V' g) : Holds1 P ops a0 V' S k o := by
  have e : Region.wanted o (fun g => boolOf (V g)) = Region.wanted o (fun g => boolOf (V' g)) := wanted_congr fun g b h => by rw [hg g b h]
  exact ⟨fun h1 w hS => by rw [← rho_congr hw, ← hk]; exact h.yes (e.trans h1) w hS, fun h1 => by rw [← hk]; exact h.no (e.trans h1)⟩

theorem topoOk_mem : ∀ {l pre : List Nat}, topoOk ops pre l = true → ∀ i ∈ l, i ∉ pre
  | [], _, _, i, hi => by cases hi
  | k :: l, pre, h, i, hi => by
    simp only [topoOk, Bool.and_eq_true, Bool.not_eq_true'] at h
    rcases List.mem_cons.1 hi with rfl | hi
    · simpa using h.1.1
    · exact fun hp => topoOk_mem h.2 i hi (List.mem_append_left _ hp)
theorem topoOk_cons {i : Nat} {l pre : List Nat} (h : topoOk ops pre (i :: l) = true) : i ∉ pre ∧ topoOk ops (pre ++ [i]) l = true ∧ ∃ o, ops[i]? = some o ∧ (∀ j, waitsFor o j = true → j ∈ pre) ∧ slotsOk ops i o = true := by
  simp only [topoOk, Bool.and_eq_true, Bool.not_eq_true'] at h
  refine ⟨by simpa using h.1.1, h.2, ?_⟩
  cases ho : ops[i]? with
  | none => rw [ho] at h; simp at h
  | some o =>
    rw [ho] at h
    simp only [Option.map_some, Option.getD_some, Bool.and_eq_true, Array.all_eq_true'] at h
    refine ⟨o, rfl, fun j hj => ?_, h.1.2.2⟩
    unfold waitsFor at hj
    rw [Array.any_eq_true'] at hj
    obtain ⟨e, he, he2⟩ := hj
    simp only [Bool.and_eq_true, beq_iff_eq] at he2
    have := h.1.2.1 e he
    rw [he2.1] at this
    rw [← he2.2]
    simpa using this
theorem topoOk_drop : ∀ {m l pre : List Nat}, topoOk ops pre (m ++ l) = true → topoOk ops (pre ++ m) l = true
  | [], _, _, h => by simpa using h
  | i :: m, l, pre, h => by
    have := topoOk_drop (topoOk_cons h).2.1
    simpa using this
theorem topoOk_lt : ∀ {l pre : List Nat}, topoOk ops pre l = true → ∀ i ∈ l, ∃ (o : Oper) (pre' : List Nat), ops[i]? = some o ∧ (∀ j, waitsFor o j = true → j ∈ pre') ∧ slotsOk ops i o = true ∧ i ∉ pre'
  | [], _, _, i, hi => by cases hi
  | k :: l, pre, h, i, hi => by
    obtain ⟨h1, h2, o, h3, h4, h5⟩ := topoOk_cons h
    rcases List.mem_cons.1 hi with rfl | hi
    · exact ⟨o, pre, h3, h4, h5, h1⟩
    · exact topoOk_lt h2 i hi

theorem okSlots_uniq {sz : Nat} (hs : okSlots ops sz = true) : ∀ i j d, slotAt ops i = some d → slotAt ops j = some d → i = j := by
  intro i j d hi hj
  by_cases e : i = j
  · exact e
  · exact absurd hj ((okSlots_at hs hi).2 j (fun h => e h.symm))

/-- The canonical act at a place of the list sees what an operation looks at. -/
theorem putAll_sees {a0 : Act} {V : Nat → Value} {don : List Nat} {i : Nat} {o : Oper} (hs : okSlots ops a0.tmps.size = true) (hw : ∀ j, waitsFor o j = true → j ∈ don) (hn : ∀ j, waits ops j i = true → j ∉ don) : SeesV ops a0 (putAll ops V don a0) V i o := by
  have hu := okSlots_uniq hs
  refine ⟨fun j d h1 h2 => ?_, fun j d h1 h2 _ => ?_, fun d hd => ?_⟩
  · rw [putAll_get V hu don a0 d (okSlots_at hs h2).1]
    cases hf : don.find? (fun j => slotAt ops j == some d) with
    | none => exact absurd (by simp [h2]) (List.find?_eq_none.1 hf j (hw j h1))
    | some k =>
      have : slotAt ops k = some d := by simpa using List.find?_some hf
      rw [hu k j d this h2]
  · rw [putAll_get V hu don a0 d (okSlots_at hs h2).1]
    cases hf : don.find? (fun j => slotAt ops j == some d) with
    | none => rfl
    | some k =>
      have : slotAt ops k = some d := by simpa using List.find?_some hf
      exact absurd (List.mem_of_find?_eq_some hf) (by rw [hu k j d this h2]; exact hn j h1)
  · by_cases hsz : d < a0.tmps.size
    · rw [putAll_get V hu don a0 d hsz]
      cases hf : don.find? (fun j => slotAt ops j == some d) with
      | none => rfl
      | some k =>
        have : slotAt ops k = some d := by simpa using List.find?_some hf
        rw [hasSlot_of this] at hd; cases hd
    · rw [Array.getElem?_eq_none (by rw [putAll_size]; omega), Array.getElem?_eq_none (by omega)]

/-- None of the prefix waits for what is behind it. -/
def Pre (ops : Array Oper) (don l : List Nat) : Prop := ∀ k ∈ don, ∀ j ∈ l, waits ops k j = false
theorem topoOk_pre : ∀ {m l pre : List Nat}, Pre ops pre (m ++ l) → topoOk ops pre (m ++ l) = true → Pre ops (pre ++ m) l
  | [], l, pre, hp, _ => by simpa using hp
  | i :: m, l, pre, hp, h => by
    obtain ⟨h1, h2, o, h3, h4, h5⟩ := topoOk_cons h
    have hp' : Pre ops (pre ++ [i]) (m ++ l) := by
      intro k hk j hj
      rcases List.mem_append.1 hk with hk | hk
      · exact hp k hk j (List.mem_cons_of_mem _ hj)
      · obtain rfl : k = i := by simpa using hk
        rw [waits_of h3]
        cases hw : waitsFor o j with
        | false => rfl
        | true => exact absurd (List.mem_append_left [k] (h4 j hw)) (topoOk_mem h2 j hj)
    have := topoOk_pre (m := m) hp' h2
    simpa using this

theorem still_out {a0 : Act} (hs : okSlots ops a0.tmps.size = true) (hsel : Region.noSelect ops = true) {S : World → Prop} {Qa : Act → Prop} {l : List Nat} : ∀ (rs don : List Nat) (V : Nat → Value), topoOk ops don (rs ++ l) = true → Pre ops don (rs ++ l) →
    wpStill P ops (fun x : {w // S w} => x.1) Qa rs (putAll ops V don a0) → ∃ V', (∀ i, i ∉ rs → V' i = V i) ∧ (∀ k ∈ rs, ∀ o, ops[k]? = some o → Holds1 P ops a0 V' S k o) ∧ Qa (putAll ops V' (don ++ rs) a0)
  | [], don, V, _, _, h => ⟨V, fun _ _ => rfl, (fun k hk => absurd hk List.not_mem_nil), by rw [List.append_nil]; exact h⟩
  | i :: rs, don, V, ht, hp, h => by
    obtain ⟨h1, h2, o, ho, h4, h5⟩ := topoOk_cons ht
    have hp' : Pre ops (don ++ [i]) (rs ++ l) := topoOk_pre (m := [i]) hp ht
    have hsee : SeesV ops a0 (putAll ops V don a0) V i o := putAll_sees hs h4 (fun j hj hd => by
      have := hp j hd i List.mem_cons_self
      rw [this] at hj; cases hj)
    have hslot : slotAt ops i = o.dst := by unfold slotAt; rw [ho]; rfl
    have key : ∀ v, wpStill P ops (fun x : {w // S w} => x.1) Qa rs ((putAll ops V don a0).put o.dst v) → Holds1 P ops a0 (upd V i v) S i o → ∃ V', (∀ j, j ∉ i :: rs → V' j = V j) ∧ (∀ k ∈ i :: rs, ∀ o, ops[k]? = some o → Holds1 P ops a0 V' S k o) ∧ Qa (putAll ops V' (don ++ i :: rs) a0) := by
      intro v hst hh
      have e : (putAll ops V don a0).put o.dst v = putAll ops (upd V i v) (don ++ [i]) a0 := by
        rw [putAll_append, putAll_congr (f := upd V i v) (g := V) don a0 (fun j hj => upd_other _ _ (fun e => h1 (e ▸ hj)))]
        show _ = (putAll ops V don a0).put (slotAt ops i) (upd V i v i)
        rw [upd_same, hslot]
      rw [e] at hst
      obtain ⟨V', g1, g2, g3⟩ := still_out hs hsel rs (don ++ [i]) (upd V i v) h2 hp' hst
      have hni : i ∉ rs := fun hi => topoOk_mem h2 i (List.mem_append_left _ hi) (by simp)
      refine ⟨V', fun j hj => ?_, fun k hk x hx => ?_, by simpa using g3⟩
      · rw [g1 j (fun h => hj (List.mem_cons_of_mem _ h)), upd_other _ _ (fun e => hj (by rw [e]; exact List.mem_cons_self))]
      · rcases List.mem_cons.1 hk with rfl | hk
        · obtain rfl := Option.some.inj (ho.symm.trans hx)
          have agree : ∀ j, j ∈ don → upd V k v j = V' j := fun j hj => (g1 j (fun hr => topoOk_mem h2 j (List.mem_append_left _ hr) (List.mem_append_left _ hj))).symm
          refine hh.congr (g1 k hni).symm (fun j hj => agree j (h4 j hj)) (fun g b hg => agree g (h4 g ?_))
          simp only [slotsOk, hg, Bool.and_eq_true] at h5
          exact h5.2.1
        · exact g2 k hk x hx
    unfold wpStill at h
    rw [ho] at h
    simp only at h
    have hne : ∀ v j, waitsFor o j = true → V j = upd V i v j := fun v j hj => (upd_other _ _ (fun e => h1 (by rw [← e]; exact h4 j hj))).symm
    have hge : ∀ v g b, o.guard = some (g, b) → V g = upd V i v g := fun v g b hg => hne v g (by simp only [slotsOk, hg, Bool.and_eq_true] at h5; exact h5.2.1)
    by_cases hw : Region.wanted o (yielded ops (putAll ops V don a0).tmps) = true
    · rw [if_pos hw] at h
      obtain ⟨v, hq, hst⟩ := h
      refine key v hst ⟨fun _ w hS => ?_, fun hno => ?_⟩
      · rw [upd_same, ← rho_congr (hne v), ← hsee.exec ho hsel h5]
        exact hq ⟨w, hS⟩
      · exfalso
        rw [hsee.wanted h5, wanted_congr (y' := fun g => boolOf (upd V i v g)) (fun g b hg => by rw [hge v g b hg]), hno] at hw
        cases hw
    · rw [if_neg hw] at h
      refine key undef h ⟨fun hyes => ?_, fun _ => upd_same _ _ _⟩
      exfalso
      rw [hsee.wanted h5, wanted_congr (y' := fun g => boolOf (upd V i undef g)) (fun g b hg => by rw [hge undef g b hg]), hyes] at hw
      exact hw rfl

theorem wpAny_both (J : List Bool → Act → World → Prop)
    (step : ∀ l a w i o, J l a w → l.length = ops.size → i ∈ Region.ready .any ops l.toArray → ops[i]? = some o → (Region.wanted o (yielded ops a.tmps) = true ∧ o.wp P a w (J (l.set i true)) Q) ∨ (Region.wanted o (yielded ops a.tmps) = false ∧ J (l.set i true) (a.put o.dst undef) w))
    (fin : ∀ l a w, J l a w → l.length = ops.size → Region.ready .any ops l.toArray = [] → Q .normal a w) :
    ∀ (fuel : Nat) (l : List Bool) (a : Act) (w : World), l.length = ops.size → l.count false ≤ fuel → J l a w → wpAny P .any ops Q fuel l.toArray a w := by
  intro fuel
  induction fuel with
  | zero =>
    intro l a w hl hc hj
    have hr := ready_none (md := .any) hl (by omega)
    exact ⟨hr, fin l a w hj hl hr⟩
  | succ fuel ih =>
    intro l a w hl hc hj
    refine ⟨fun hr => fin l a w hj hl hr, fun i hi => ?_⟩
    obtain ⟨hlt, hf⟩ := ready_open hi
    have hlt' : i < l.length := by omega
    have ho : ops[i]? = some ops[i] := by simp [hlt]
    have e : l.toArray.setIfInBounds i true = (l.set i true).toArray := by simp
    have hc' : (l.set i true).count false ≤ fuel := by
      have := count_listed hlt' hf
      omega
    rw [e]
    unfold wpOp
    rw [ho]
    rcases step l a w i _ hj hl hi ho with ⟨hw, hst⟩ | ⟨hw, hst⟩
    · simp only [hw, if_true]
      exact .inl (Oper.wp_mono (fun a' w' hj' => ih _ a' w' (by simp [hl]) hc' hj') hst)
    · simp only [hw]
      exact ih _ _ _ (by simp [hl]) hc' hst

theorem wp_still {o : Oper} {a : Act} {w : World} {v : Value} {K : Act → World → Prop} {r : Result Next} (h : Oper.quietUpon P (Grow w) w v r) (hK : ∀ w', Grow w w' → K (a.put o.dst v) w') : o.upon P a K Q r := by
  cases r with
  | halt x w' => cases h
  | ok n w' =>
    cases n with
    | value u => obtain ⟨rfl, rfl⟩ := h; exact hK _ (But.refl _ _)
    | skip => obtain ⟨rfl, rfl⟩ := h; exact hK _ (But.refl _ _)
    | enter f args =>
      obtain ⟨rfl, h⟩ := h
      refine Calls.mono h ?_
      rintro e w'' ⟨rfl, hg⟩
      exact hK _ hg
    | _ => cases h
theorem put_eq {a b : Act} (hs : a.tmps.size = b.tmps.size) {d : Option Tmp} {u v : Value} (h : a.put d u = a.put d v) : b.put d u = b.put d v := by
  cases d with
  | none => rfl
  | some t =>
    have h1 : a.tmps.setIfInBounds t u = a.tmps.setIfInBounds t v := congrArg Act.tmps h
    show ({ b with tmps := b.tmps.setIfInBounds t u } : Act) = { b with tmps := b.tmps.setIfInBounds t v }
    by_cases ht : t < b.tmps.size
    · have h2 : (a.tmps.setIfInBounds t u)[t]? = (a.tmps.setIfInBounds t v)[t]? := by rw [h1]
      have ht' : t < a.tmps.size := by rw [hs]; exact ht
      simp [ht'] at h2
      rw [h2]
    · rw [Array.setIfInBounds_eq_of_size_le (Nat.le_of_not_lt ht), Array.setIfInBounds_eq_of_size_le (Nat.le_of_not_lt ht)]
theorem put_defer {a : Act} {o : Oper} {d : Deferred} {v : Value} : ({ a with defers := d :: a.defers }.put o.dst undef : Act) ≠ a.put o.dst v := by
  intro h
  have h1 : ({ a with defers := d :: a.defers }.put o.dst undef : Act).defers = (a.put o.dst v).defers := by rw [h]
  have h2 : ({ a with defers := d :: a.defers }.put o.dst undef : Act).defers = d :: a.defers := by cases o.dst <;> rfl
  have h3 : (a.put o.dst v).defers = a.defers := by cases o.dst <;> rfl
  rw [h2, h3] at h1
  exact absurd (congrArg List.length h1) (by simp)
theorem wp_transfer {o : Oper} {a ac : Act} {w : World} {K' : Value → World → Prop} (he : execOp a.eval o = execOp ac.eval o) (hs : ac.tmps.size = a.tmps.size)
    (h : o.wp P ac w (fun a'' w' => ∃ v, a'' = ac.put o.dst v ∧ K' v w') (fun _ _ _ => False)) : o.wp P a w (fun a'' w' => ∃ v, a'' = a.put o.dst v ∧ K' v w') Q := by
  unfold Oper.wp at *
  rw [he]
  generalize (execOp ac.eval o).run P w = r at *
  have key : ∀ v w', (∃ u, ac.put o.dst v = ac.put o.dst u ∧ K' u w') → ∃ u, a.put o.dst v = a.put o.dst u ∧ K' u w' := fun v w' ⟨u, h1, h2⟩ => ⟨u, put_eq hs h1, h2⟩
  cases r with
  | halt x w' => cases x <;> simp only [Oper.upon] at h
  | ok n w' =>
    cases n with
    | value u => exact key _ _ h
    | skip => exact key _ _ h
    | defer d => obtain ⟨v, h1, _⟩ := h; exact absurd h1 put_defer
    | enter f args =>
      refine Calls.mono h ?_
      intro e w'' he
      cases e with
      | returned v => exact key _ _ he
      | panicked c => exact he.elim
      | outgrown => exact absurd he (by simp [LetsOut])
    | row r2 as2 => exact Rows.mono h (fun v w'' he => key _ _ he)
    | _ => simp only [Oper.upon] at h

theorem don_closed : ∀ {don r pre : List Nat}, topoOk ops pre (don ++ r) = true → ∀ k ∈ don, ∀ o j, ops[k]? = some o → waitsFor o j = true → j ∈ pre ++ don
  | [], _, _, _, k, hk, _, _, _, _ => absurd hk List.not_mem_nil
  | i :: don, r, pre, h, k, hk, o, j, ho, hj => by
    obtain ⟨_, h2, x, hx, h4, _⟩ := topoOk_cons h
    rcases List.mem_cons.1 hk with rfl | hk
    · obtain rfl := Option.some.inj (hx.symm.trans ho)
      exact List.mem_append_left _ (h4 j hj)
    · have := don_closed h2 k hk o j ho hj
      simpa using this
structure CBase (P : Program) (ops : Array Oper) (a0 : Act) (S K : World → Prop) (V : Nat → Value) (prs don : List Nat) (l : List Bool) (a : Act) (w : World) : Prop where
  kw : K w
  kc : ∀ w w', K w → Grow w w' → K w'
  ks : ∀ w, K w → S w
  sub : ∀ i ∈ prs, i ∈ don
  rest : ∀ i, i ∉ don → l.getD i false = false
  turned : ∀ i, i ∈ don → i ∉ prs → l.getD i false = true
  shut : ∀ i o j, ops[i]? = some o → waitsFor o j = true → l.getD i false = true → l.getD j false = true
  done : ∀ j d, slotAt ops j = some d → l.getD j false = true → a.tmps[d]? = some (V j)
  opn : ∀ j d, slotAt ops j = some d → l.getD j false = false → a.tmps[d]? = a0.tmps[d]?
  old : ∀ d, hasSlot ops d = false → a.tmps[d]? = a0.tmps[d]?
  size : a.tmps.size = a0.tmps.size
  defers : a.defers = a0.defers
  claim : ∀ k ∈ prs, ∀ o, ops[k]? = some o → l.getD k false = false → Holds1 P ops a0 V S k o
def CInv (P : Program) (ops : Array Oper) (Q : Exit → Act → World → Prop) (a0 : Act) (ord tl : List Nat) (l : List Bool) (a : Act) (w : World) : Prop :=
  ∃ S K V prs don, CBase P ops a0 S K V prs don l a w ∧ ((don = ord ∧ ∀ w, K w → Q .normal (putAll ops V don a0) w) ∨
    ∃ t ph, don ++ t :: ordOf ph tl = ord ∧ ((ordOf ph tl).all (fun i => (t :: ordOf ph tl).any fun j => waits ops i j) = true) ∧ lateOk ops ph tl = true ∧
      TurnAt P ops t (isFull ops t prs) S K (fun S' K' => Chain P ops Q ph tl prs S' K') (putAll ops V don a0))
theorem CBase.on {a0 : Act} {S K : World → Prop} {V V' : Nat → Value} {prs don rs r : List Nat} {l : List Bool} {a : Act} {w : World} (h : CBase P ops a0 S K V prs don l a w) (ht : topoOk ops [] (don ++ (rs ++ r)) = true)
    (g1 : ∀ i, i ∉ rs → V' i = V i) (g2 : ∀ k ∈ rs, ∀ o, ops[k]? = some o → Holds1 P ops a0 V' S k o) : CBase P ops a0 S K V' (prs ++ rs) (don ++ rs) l a w := by
  have hdis : ∀ i ∈ don, i ∉ rs := fun i hi hr => topoOk_mem (topoOk_drop ht) i (List.mem_append_left _ hr) (by simpa using hi)
  have hv : ∀ i ∈ don, V i = V' i := fun i hi => (g1 i (hdis i hi)).symm
  refine ⟨h.kw, h.kc, h.ks, fun i hi => ?_, fun i hi => h.rest i (fun hd => hi (List.mem_append_left _ hd)), fun i hi hn => ?_, h.shut, fun j d hs hd => ?_, h.opn, h.old, h.size, h.defers, fun k hk o ho hd => ?_⟩
  · rcases List.mem_append.1 hi with hi | hi
    · exact List.mem_append_left _ (h.sub i hi)
    · exact List.mem_append_right _ hi
  · have hn1 : i ∉ prs := fun hp => hn (List.mem_append_left _ hp)
    have hn2 : i ∉ rs := fun hp => hn (List.mem_append_right _ hp)
    rcases List.mem_append.1 hi with hi | hi
    · exact h.turned i hi hn1
    · exact absurd hi hn2
  · have hj : j ∈ don := by
      by_cases hj : j ∈ don
      · exact hj
      · rw [h.rest j hj] at hd; cases hd
    rw [← hv j hj]
    exact h.done j d hs hd
  · rcases List.mem_append.1 hk with hk | hk
    · have hkd := h.sub k hk
      have hcl := fun j hj => don_closed ht k hkd o j ho hj
      refine (h.claim k hk o ho hd).congr (hv k hkd) (fun j hj => hv j (by simpa using hcl j hj)) (fun g b hg => hv g ?_)
      obtain ⟨x, _, hx, _, h5, _⟩ := topoOk_lt ht k (List.mem_append_left _ hkd)
      obtain rfl := Option.some.inj (hx.symm.trans ho)
      simp only [slotsOk, hg, Bool.and_eq_true] at h5
      simpa using hcl g h5.2.1
    · exact g2 k hk o ho
theorem chain_enter {a0 : Act} (hs : okSlots ops a0.tmps.size = true) (hsel : Region.noSelect ops = true) {ord tl : List Nat} (htopo : topoOk ops [] ord = true) {ph : List (List Nat × Nat)} {S K : World → Prop} {V : Nat → Value} {prs don : List Nat} {l : List Bool} {a : Act} {w : World}
    (h : CBase P ops a0 S K V prs don l a w) (hord : don ++ ordOf ph tl = ord) (hl : lateOk ops ph tl = true) (hc : Chain P ops Q ph tl prs S K (putAll ops V don a0)) : CInv P ops Q a0 ord tl l a w := by
  have hne : Nonempty {w // S w} := ⟨⟨w, h.ks w h.kw⟩⟩
  have hpre0 : Pre ops [] ord := fun k hk => absurd hk List.not_mem_nil
  cases ph with
  | nil =>
    have hq := hc {w // S w} (fun x => x.1) (fun x => x.2)
    have e : don ++ (tl ++ []) = ord := by rw [List.append_nil]; exact hord
    have ht := htopo
    rw [← e] at ht hpre0
    obtain ⟨V', g1, g2, g3⟩ := still_out (l := []) hs hsel tl don V (by simpa using topoOk_drop ht) (by simpa using topoOk_pre (m := don) hpre0 ht) hq
    exact ⟨S, K, V', prs ++ tl, don ++ tl, h.on ht g1 g2, .inl ⟨hord, g3⟩⟩
  | cons p ph =>
    obtain ⟨rs, t⟩ := p
    have hq := hc {w // S w} (fun x => x.1) (fun x => x.2)
    have e : don ++ (rs ++ t :: ordOf ph tl) = ord := hord
    have ht := htopo
    rw [← e] at ht hpre0
    obtain ⟨V', g1, g2, g3⟩ := still_out (l := t :: ordOf ph tl) hs hsel rs don V (by simpa using topoOk_drop ht) (by simpa using topoOk_pre (m := don) hpre0 ht) hq
    simp only [lateOk, Bool.and_eq_true] at hl
    exact ⟨S, K, V', prs ++ rs, don ++ rs, h.on ht g1 g2, .inr ⟨t, ph, by rw [List.append_assoc]; exact e, hl.1, hl.2, g3⟩⟩
theorem getD_set {l : List Bool} {i : Nat} (hi : i < l.length) (k : Nat) : (l.set i true).getD k false = if k = i then true else l.getD k false := by
  by_cases hk : k = i
  · subst hk; simp [List.getD, hi]
  · rw [if_neg hk]; simp only [List.getD]; rw [List.getElem?_set_ne (fun e => hk e.symm)]
/-- One more is done. -/
theorem CBase.more {a0 : Act} {S K S' K' : World → Prop} {V V' : Nat → Value} {prs don don' : List Nat} {l : List Bool} {a : Act} {w w' : World} {i : Nat} {o : Oper} {v : Value} (hs : okSlots ops a0.tmps.size = true) (h : CBase P ops a0 S K V prs don l a w)
    (hi : i < l.length) (ho : ops[i]? = some o) (hdep : ∀ j, waitsFor o j = true → l.getD j false = true) (hV : V' i = v) (hVo : ∀ j, j ≠ i → V' j = V j) (hd1 : ∀ j ∈ don, j ∈ don') (hd2 : i ∈ don') (hd3 : ∀ j ∈ don', j ∈ don ∨ j = i)
    (kw : K' w') (kc : ∀ w w', K' w → Grow w w' → K' w') (ks : ∀ w, K' w → S' w) (claim : ∀ k ∈ prs, ∀ o, ops[k]? = some o → k ≠ i → l.getD k false = false → Holds1 P ops a0 V' S' k o) : CBase P ops a0 S' K' V' prs don' (l.set i true) (a.put o.dst v) w' := by
  have hslot : slotAt ops i = o.dst := by unfold slotAt; rw [ho]; rfl
  have hu := okSlots_uniq hs
  refine ⟨kw, kc, ks, fun k hk => hd1 k (h.sub k hk), fun k hk => ?_, fun k hk hn => ?_, fun k x j hx hw hd => ?_, fun j d hsl hd => ?_, fun j d hsl hd => ?_, fun d hd => ?_, by rw [put_size]; exact h.size, ?_, fun k hk x hx hd => ?_⟩
  · rw [getD_set hi, if_neg (fun e => hk (by rw [e]; exact hd2))]
    exact h.rest k (fun hd => hk (hd1 k hd))
  · rw [getD_set hi]
    split
    · rfl
    · rename_i hne
      rcases hd3 k hk with hk | hk
      · exact h.turned k hk hn
      · exact absurd hk hne
  · rw [getD_set hi] at hd ⊢
    split
    · rfl
    · split at hd
      · rename_i _ he
        subst he
        obtain rfl := Option.some.inj (ho.symm.trans hx)
        exact hdep j hw
      · exact h.shut k x j hx hw hd
  · rw [getD_set hi] at hd
    rw [put_get]
    by_cases hji : j = i
    · subst hji
      rw [if_pos ⟨by rw [← hslot]; exact hsl, by rw [h.size]; exact (okSlots_at hs hsl).1⟩, hV]
    · rw [if_neg hji] at hd
      rw [if_neg (fun hh => hji (hu j i d hsl (by rw [hslot]; exact hh.1))), hVo j hji]
      exact h.done j d hsl hd
  · rw [getD_set hi] at hd
    split at hd
    · cases hd
    · rename_i hji
      rw [put_get, if_neg (fun hh => hji (hu j i d hsl (by rw [hslot]; exact hh.1)))]
      exact h.opn j d hsl hd
  · rw [put_get, if_neg (fun hh => by
      have := hasSlot_of (ops := ops) (j := i) (d := d) (by rw [hslot]; exact hh.1)
      rw [hd] at this; cases this)]
    exact h.old d hd
  · rw [← h.defers]; cases o.dst <;> rfl
  · rw [getD_set hi] at hd
    split at hd
    · cases hd
    · rename_i hki
      exact claim k hk x hx hki hd

theorem region_chain {id : Nat} {a0 : Act} {w0 : World} (ph : List (List Nat × Nat)) (tl : List Nat) (S K : World → Prop) (hm : P.follows .mixedOrders = true) (hchk : chainOk ops a0.tmps.size ph tl = true)
    (kc : ∀ w w', K w → Grow w w' → K w') (ks : ∀ w, K w → S w) (h0 : K w0.drew) (h : Chain P ops Q ph tl [] S K a0) : (Code.region id ops true).wp P Q a0 w0 := by
  simp only [chainOk, Bool.and_eq_true] at hchk
  obtain ⟨⟨⟨⟨⟨hs, ha⟩, hsel⟩, htopo⟩, hall⟩, hlate⟩ := hchk
  obtain ⟨ord, hord⟩ : ∃ ord, ord = ordOf ph tl := ⟨_, rfl⟩
  rw [← hord] at htopo hall
  have hu := okSlots_uniq hs
  have hin : ∀ i, i < ops.size → i ∈ ord := fun i hi => by simpa using List.all_eq_true.1 hall i (by simpa using hi)
  refine wp_region_any hm ?_
  have e : Array.replicate ops.size false = (List.replicate ops.size false).toArray := by simp
  rw [e]
  have hr : ∀ i, (List.replicate ops.size false).getD i false = false := fun i => by
    simp only [List.getD, List.getElem?_replicate]; split <;> rfl
  refine wpAny_both (CInv P ops Q a0 ord tl) ?_ ?_ ops.size _ a0 _ (by simp) (by simp) ?_
  · rintro l a w i o ⟨S, K, V, prs, don, hb, hcont⟩ hl hi ho
    obtain ⟨hlt, hf⟩ := ready_open hi
    have hdep := fun j hj => dep_done (ready_dep hi ho) j hj
    have hil : i < l.length := by omega
    have hfd : l.getD i false = false := by
      simp only [List.getD, List.getElem?_eq_getElem hil] at hf ⊢
      simpa using hf
    obtain ⟨x, _, hx, _, hsl, _⟩ := topoOk_lt htopo i (hin i hlt)
    obtain rfl := Option.some.inj (hx.symm.trans ho)
    have hsee : SeesV ops a0 a V i x := ⟨fun j d h1 h2 => hb.done j d h2 (hdep j h1), fun j d h1 h2 _ => hb.opn j d h2 (by
      cases hj : l.getD j false with
      | false => rfl
      | true =>
        exfalso
        unfold waits at h1
        cases hoj : ops[j]? with
        | none => rw [hoj] at h1; cases h1
        | some y =>
          rw [hoj] at h1
          have := hb.shut j y i hoj h1 hj
          rw [hfd] at this; cases this), hb.old⟩
    by_cases hp : i ∈ prs
    · have hcl := hb.claim i hp x hx hfd
      have hnext : ∀ w', Grow w w' → CInv P ops Q a0 ord tl (l.set i true) (a.put x.dst (V i)) w' := fun w' hg =>
        ⟨S, K, V, prs, don, hb.more hs hil hx hdep rfl (fun _ _ => rfl) (fun _ h => h) (hb.sub i hp) (fun _ h => .inl h) (hb.kc w w' hb.kw hg) hb.kc hb.ks (fun k hk y hy _ hd => hb.claim k hk y hy hd), hcont⟩
      cases hw : Region.wanted x (yielded ops a.tmps) with
      | true =>
        refine .inl ⟨rfl, ?_⟩
        have h1 := hcl.yes ((hsee.wanted hsl).symm.trans hw) w (hb.ks w hb.kw)
        unfold Oper.wp
        rw [hsee.exec hx hsel hsl]
        exact wp_still h1 hnext
      | false =>
        refine .inr ⟨rfl, ?_⟩
        have h1 := hcl.no ((hsee.wanted hsl).symm.trans hw)
        have := hnext w (But.refl _ _)
        rwa [h1] at this
    · have hnd : i ∉ don := fun hd => by
        have := hb.turned i hd hp
        rw [hfd] at this; cases this
      rcases hcont with ⟨rfl, _⟩ | ⟨t, ph', ho2, hlt2, hl2, hturn⟩
      · exact absurd (hin i hlt) hnd
      have htp := htopo
      rw [← ho2] at htp
      have hmem : i ∈ t :: ordOf ph' tl := by
        have := hin i hlt
        rw [← ho2] at this
        rcases List.mem_append.1 this with h | h
        · exact absurd h hnd
        · exact h
      have hrest : ∀ j ∈ t :: ordOf ph' tl, l.getD j false = false := fun j hj => hb.rest j (fun hd => topoOk_mem (topoOk_drop htp) j hj (by simpa using hd))
      have hit : i = t := by
        rcases List.mem_cons.1 hmem with h | h
        · exact h
        · exfalso
          obtain ⟨j, hj1, hj2⟩ := List.any_eq_true.1 (List.all_eq_true.1 hlt2 i h)
          rw [waits_of hx] at hj2
          have := hdep j hj2
          rw [hrest j hj1] at this; cases this
      subst hit
      have hpre : Pre ops don (i :: ordOf ph' tl) := by
        have h1 : Pre ops [] (don ++ i :: ordOf ph' tl) := fun k hk => absurd hk List.not_mem_nil
        simpa using topoOk_pre (m := don) h1 htp
      have hwd : ∀ j, waitsFor x j = true → j ∈ don := fun j hj => by
        obtain ⟨_, _, y, hy, h4, _⟩ := topoOk_cons (topoOk_drop htp)
        obtain rfl := Option.some.inj (hy.symm.trans hx)
        simpa using h4 j hj
      have hsee2 : SeesV ops a0 (putAll ops V don a0) V i x := putAll_sees hs hwd (fun j hj hd => by
        have := hpre j hd i List.mem_cons_self
        rw [this] at hj; cases hj)
      have hslot : slotAt ops i = x.dst := by unfold slotAt; rw [hx]; rfl
      have hput : ∀ v, (putAll ops V don a0).put x.dst v = putAll ops (upd V i v) (don ++ [i]) a0 := fun v => by
        rw [putAll_append, putAll_congr (f := upd V i v) (g := V) don a0 (fun j hj => upd_other _ _ (fun e => hnd (e ▸ hj)))]
        show _ = (putAll ops V don a0).put (slotAt ops i) (upd V i v i)
        rw [upd_same, hslot]
      have hcong : ∀ v k y, k ∈ prs → ops[k]? = some y → ∀ S', Holds1 P ops a0 V S' k y → Holds1 P ops a0 (upd V i v) S' k y := fun v k y hk hy S' hh => by
        have hkd := hb.sub k hk
        have hcl := fun j hj => don_closed htp k hkd y j hy hj
        have hv : ∀ j ∈ don, V j = upd V i v j := fun j hj => (upd_other V v (fun e => hnd (by rw [← e]; exact hj))).symm
        refine hh.congr (hv k hkd) (fun j hj => hv j (by simpa using hcl j hj)) (fun g b hg => hv g ?_)
        obtain ⟨z, _, hz, _, h5, _⟩ := topoOk_lt htp k (List.mem_append_left _ hkd)
        obtain rfl := Option.some.inj (hz.symm.trans hy)
        simp only [slotsOk, hg, Bool.and_eq_true] at h5
        simpa using hcl g h5.2.1
      have hord' : (don ++ [i]) ++ ordOf ph' tl = ord := by rw [List.append_assoc]; exact ho2
      have hd3 : ∀ j ∈ don ++ [i], j ∈ don ∨ j = i := fun j hj => by
        rcases List.mem_append.1 hj with h | h
        · exact .inl h
        · exact .inr (by simpa using h)
      unfold TurnAt at hturn
      rw [hx] at hturn
      simp only at hturn
      have hww : Region.wanted x (yielded ops (putAll ops V don a0).tmps) = Region.wanted x (yielded ops a.tmps) := (hsee2.wanted hsl).trans (hsee.wanted hsl).symm
      rw [hww] at hturn
      cases hw : Region.wanted x (yielded ops a.tmps) with
      | true =>
        rw [hw] at hturn
        simp only [if_true] at hturn
        obtain ⟨K', S', kc', ks', hfull, hwp, hnext⟩ := hturn
        refine .inl ⟨rfl, Oper.wp_mono ?_ (wp_transfer (Q := Q) ((hsee.exec hx hsel hsl).trans (hsee2.exec hx hsel hsl).symm) (by rw [putAll_size, hb.size]) (hwp w hb.kw))⟩
        rintro a' w' ⟨v, rfl, hK'⟩
        have hch := hnext v ⟨w', hK'⟩
        rw [hput] at hch
        refine chain_enter hs hsel htopo (hb.more hs hil hx hdep (upd_same _ _ _) (fun j hj => upd_other _ _ hj) (fun j hj => List.mem_append_left _ hj) (by simp) hd3 hK' (kc' v) (ks' v) (fun k hk y hy _ hd => ?_)) hord' hl2 hch
        rcases hfull with hfull | hS
        · exfalso
          have hkd : l.getD k false = true := by
            have := List.all_eq_true.1 hfull k hk
            simp only [Bool.or_eq_true] at this
            rcases this with h1 | h1
            · rw [waits_of hx] at h1
              exact hdep k h1
            · obtain ⟨m, _, hm⟩ := List.any_eq_true.1 h1
              simp only [Bool.and_eq_true] at hm
              rw [waits_of hx] at hm
              have hmd := hdep m hm.1
              have hm2 := hm.2
              unfold waits at hm2
              cases hom : ops[m]? with
              | none => rw [hom] at hm2; cases hm2
              | some z =>
                rw [hom] at hm2
                exact hb.shut m z k hom hm2 hmd
          rw [hd] at hkd; cases hkd
        · have hh := hb.claim k hk y hy hd
          exact hcong v k y hk hy _ ⟨fun h1 w hS' => hh.yes h1 w (hS v w hS'), hh.no⟩
      | false =>
        rw [hw] at hturn
        simp only [Bool.false_eq_true, if_false] at hturn
        refine .inr ⟨rfl, ?_⟩
        rw [hput] at hturn
        exact chain_enter hs hsel htopo (hb.more hs hil hx hdep (upd_same _ _ _) (fun j hj => upd_other _ _ hj) (fun j hj => List.mem_append_left _ hj) (by simp) hd3 hb.kw hb.kc hb.ks (fun k hk y hy _ hd => hcong undef k y hk hy _ (hb.claim k hk y hy hd))) hord' hl2 hturn
  · rintro l a w ⟨S, K, V, prs, don, hb, hcont⟩ hl hrd
    have hal := ready_all ha hl hrd
    have hdn : ∀ j, j < ops.size → l.getD j false = true := fun j hj => by rw [hal]; simp [List.getD, hj]
    rcases hcont with ⟨rfl, hq⟩ | ⟨t, ph', ho2, _, _, _⟩
    · have ea : putAll ops V don a0 = a := by
        have e1 : (putAll ops V don a0).tmps = a.tmps := by
          apply Array.ext_getElem?
          intro d
          by_cases hd : d < a0.tmps.size
          · rw [putAll_get V hu _ _ d hd]
            cases hfd : don.find? (fun j => slotAt ops j == some d) with
            | some j =>
              have h1 : slotAt ops j = some d := by simpa using List.find?_some hfd
              exact (hb.done j d h1 (hdn j (slotAt_lt h1))).symm
            | none =>
              refine (hb.old d ?_).symm
              cases hh : hasSlot ops d with
              | false => rfl
              | true =>
                obtain ⟨j, h1, h2⟩ := List.any_eq_true.1 hh
                exact absurd h2 (List.find?_eq_none.1 hfd j (hin j (by simpa using h1)))
          · rw [Array.getElem?_eq_none (by rw [putAll_size]; omega), Array.getElem?_eq_none (by rw [hb.size]; omega)]
        have e2 : (putAll ops V don a0).defers = a.defers := by rw [putAll_defers, hb.defers]
        cases hp : putAll ops V don a0
        rw [hp] at e1 e2
        cases a
        simp only at e1 e2
        rw [e1, e2]
      rw [← ea]
      exact hq w hb.kw
    · exfalso
      have htp := htopo
      rw [← ho2] at htp
      have hnt : t ∉ don := fun hd => topoOk_mem (topoOk_drop htp) t List.mem_cons_self (by simpa using hd)
      have hto : t ∈ ord := by rw [← ho2]; simp
      obtain ⟨y, _, hy, _⟩ := topoOk_lt htopo t hto
      have h1 := hdn t (Array.getElem?_eq_some_iff.1 hy).1
      rw [hb.rest t hnt] at h1; cases h1
  · refine chain_enter (V := fun _ => undef) (prs := []) (don := []) hs hsel htopo ⟨h0, kc, ks, fun i hi => absurd hi List.not_mem_nil, fun i _ => hr i, fun i hi => absurd hi List.not_mem_nil, fun i x j _ _ hd => ?_, fun j d _ hd => ?_, fun _ _ _ _ => rfl, fun _ _ => rfl, rfl, rfl, fun k hk => absurd hk List.not_mem_nil⟩ (by rw [List.nil_append]; exact hord.symm) hlate h
    · rw [hr i] at hd; cases hd
    · rw [hr j] at hd; cases hd

section
variable {ι : Type} {W : ι → World} {Qa : Act → Prop} {i : Nat} {rest : List Nat} {a : Act} {o : Oper}
theorem still_nil (h : Qa a) : wpStill P ops W Qa [] a := h
/-- One operation at a time, what follows behind a letter. -/
theorem still_step (ho : ops[i]? = some o) (h : ∀ K : Act → Prop, (∀ a, wpStill P ops W Qa rest a → K a) → if Region.wanted o (yielded ops a.tmps) then ∃ v, (∀ x, Oper.quietUpon P (Grow (W x)) (W x) v ((execOp a.eval o).run P (W x))) ∧ K (a.put o.dst v) else K (a.put o.dst undef)) :
    wpStill P ops W Qa (i :: rest) a := by
  have := h _ (fun _ h => h)
  unfold wpStill
  rw [ho]
  exact this
theorem still_val (ho : ops[i]? = some o) (v : Value) (hw : Region.wanted o (yielded ops a.tmps) = true) (h : ∀ x, (execOp a.eval o).run P (W x) = .ok (.value v) (W x)) (h2 : ∀ K : Act → Prop, (∀ a, wpStill P ops W Qa rest a → K a) → K (a.put o.dst v)) :
    wpStill P ops W Qa (i :: rest) a :=
  still_step ho fun K hK => by
    rw [if_pos hw]
    exact ⟨v, fun x => by rw [h x]; exact ⟨rfl, rfl⟩, h2 K hK⟩
theorem still_call (ho : ops[i]? = some o) (v : Value) (f : FuncId) (args : Array Value) (hw : Region.wanted o (yielded ops a.tmps) = true) (h : ∀ x, (execOp a.eval o).run P (W x) = .ok (.enter f args) (W x))
    (hc : ∀ x, Calls P f args (W x) fun e w' => e = .returned v ∧ Grow (W x) w') (h2 : ∀ K : Act → Prop, (∀ a, wpStill P ops W Qa rest a → K a) → K (a.put o.dst v)) : wpStill P ops W Qa (i :: rest) a :=
  still_step ho fun K hK => by
    rw [if_pos hw]
    exact ⟨v, fun x => by rw [h x]; exact ⟨rfl, hc x⟩, h2 K hK⟩
theorem still_skip (ho : ops[i]? = some o) (hw : Region.wanted o (yielded ops a.tmps) = false) (h2 : ∀ K : Act → Prop, (∀ a, wpStill P ops W Qa rest a → K a) → K (a.put o.dst undef)) : wpStill P ops W Qa (i :: rest) a :=
  still_step ho fun K hK => by
    rw [if_neg (by rw [hw]; decide)]
    exact h2 K hK
/-- Some that are all passed by, at once. -/
def putUndef (ops : Array Oper) : List Nat → Act → Act
  | [], a => a
  | i :: l, a => putUndef ops l (a.put (slotAt ops i) undef)
def skipsAll (ops : Array Oper) (g : Nat) (b : Bool) (l : List Nat) : Bool := l.all fun i => ((ops[i]?).map fun o => o.guard == some (g, !b)).getD false && !(slotAt ops i == slotAt ops g)
theorem still_skips (g : Nat) (b : Bool) (d : Tmp) (hg : slotAt ops g = some d) : ∀ (l : List Nat) (a : Act), skipsAll ops g b l = true → a.tmps[d]? = some (.bool b) → wpStill P ops W Qa rest (putUndef ops l a) → wpStill P ops W Qa (l ++ rest) a
  | [], _, _, _, h => h
  | i :: l, a, hs, hv, h => by
    simp only [skipsAll, List.all_cons, Bool.and_eq_true, Bool.not_eq_true'] at hs
    obtain ⟨⟨h1, h2⟩, h3⟩ := hs
    cases ho : ops[i]? with
    | none => rw [ho] at h1; cases h1
    | some o =>
      rw [ho] at h1
      have hgd : o.guard = some (g, !b) := by simpa using h1
      have hsl : slotAt ops i = o.dst := by unfold slotAt; rw [ho]; rfl
      refine still_skip ho ?_ (fun K hK => hK _ ?_)
      · have hg' : (ops[g]?).bind (·.dst) = some d := hg
        unfold Region.wanted
        rw [hgd]
        simp only [yielded, hg', Option.bind_some, hv]
        cases b <;> rfl
      · refine still_skips g b d hg l _ (by unfold skipsAll; exact h3) ?_ (by rw [← hsl]; exact h)
        rw [put_get, if_neg]
        · exact hv
        · rintro ⟨e, _⟩
          rw [hsl, e, hg] at h2
          simp at h2
theorem turn_on {t : Nat} {full : Bool} {S K : World → Prop} {next : (World → Prop) → (World → Prop) → Act → Prop} (ho : ops[t]? = some o) (hw : Region.wanted o (yielded ops a.tmps) = true) (K' S' : Value → World → Prop)
    (kc : ∀ v w w', K' v w → Grow w w' → K' v w') (ks : ∀ v w, K' v w → S' v w) (hf : full = true ∨ ∀ v w, S' v w → S w)
    (hwp : ∀ w, K w → wpList P ops (fun ex a'' w' => ex = .normal ∧ ∃ v, a'' = a.put o.dst v ∧ K' v w') [o] a w)
    (hn : ∀ v, (∃ w, K' v w) → ∀ X : Act → Prop, (∀ a, next (S' v) (K' v) a → X a) → X (a.put o.dst v)) : TurnAt P ops t full S K next a := by
  unfold TurnAt
  rw [ho]
  simp only [hw, if_true]
  refine ⟨K', S', kc, ks, hf, fun w hK => ?_, fun v hv => hn v hv _ (fun _ h => h)⟩
  have h := hwp w hK
  unfold wpList at h
  rw [if_pos hw] at h
  rcases h with h | ⟨_, a', w', h, _⟩
  · unfold Oper.wp at *
    generalize (execOp a.eval o).run P w = r at *
    cases r with
    | halt x w' => cases x <;> simp only [Oper.upon] at h <;> first | exact h | (exact absurd h.1 (by simp))
    | ok n w' =>
      cases n <;> simp only [Oper.upon] at h ⊢ <;> first
        | exact h.2
        | exact Calls.mono h (fun e w'' he => by
            cases e with
            | returned v => exact he.2
            | panicked c => exact absurd he.1 (by simp)
            | outgrown => obtain ⟨_, _, he, _⟩ := he; cases he)
        | exact Rows.mono h (fun _ _ he => he.2)
        | exact h
  · cases h
/-- A call that turns memory, or makes some. -/
theorem turn_call {t : Nat} {full : Bool} {S K : World → Prop} {next : (World → Prop) → (World → Prop) → Act → Prop} (ho : ops[t]? = some o) (hw : Region.wanted o (yielded ops a.tmps) = true) (K' S' : Value → World → Prop)
    (kc : ∀ v w w', K' v w → Grow w w' → K' v w') (ks : ∀ v w, K' v w → S' v w) (hf : full = true ∨ ∀ v w, S' v w → S w) (f : FuncId) (args : Array Value)
    (hr : ∀ w, (execOp a.eval o).run P w = .ok (.enter f args) w) (hc : ∀ w, K w → Calls P f args w fun e w' => ∃ v, e = .returned v ∧ K' v w')
    (hn : ∀ v, (∃ w, K' v w) → ∀ X : Act → Prop, (∀ a, next (S' v) (K' v) a → X a) → X (a.put o.dst v)) : TurnAt P ops t full S K next a := by
  unfold TurnAt
  rw [ho]
  simp only [hw, if_true]
  refine ⟨K', S', kc, ks, hf, fun w hK => ?_, fun v hv => hn v hv _ (fun _ h => h)⟩
  unfold Oper.wp
  rw [hr w, Oper.upon_enter]
  refine (hc w hK).mono fun e w'' hh => ?_
  obtain ⟨v, rfl, hk⟩ := hh
  exact ⟨v, rfl, hk⟩
/-- One that turns memory, by what it runs to. -/
theorem turn_run {t : Nat} {full : Bool} {S K : World → Prop} {next : (World → Prop) → (World → Prop) → Act → Prop} (ho : ops[t]? = some o) (hw : Region.wanted o (yielded ops a.tmps) = true) (K' S' : Value → World → Prop)
    (kc : ∀ v w w', K' v w → Grow w w' → K' v w') (ks : ∀ v w, K' v w → S' v w) (hf : full = true ∨ ∀ v w, S' v w → S w)
    (hr : ∀ w, K w → ∃ v w', ((execOp a.eval o).run P w = .ok (.value v) w' ∨ ((execOp a.eval o).run P w = .ok .skip w' ∧ v = undef)) ∧ K' v w')
    (hn : ∀ v, (∃ w, K' v w) → ∀ X : Act → Prop, (∀ a, next (S' v) (K' v) a → X a) → X (a.put o.dst v)) : TurnAt P ops t full S K next a := by
  unfold TurnAt
  rw [ho]
  simp only [hw, if_true]
  refine ⟨K', S', kc, ks, hf, fun w hK => ?_, fun v hv => hn v hv _ (fun _ h => h)⟩
  obtain ⟨v, w', h, hk⟩ := hr w hK
  unfold Oper.wp
  rcases h with h | ⟨h, rfl⟩
  · rw [h]; exact ⟨v, rfl, hk⟩
  · rw [h]; exact ⟨undef, rfl, hk⟩
theorem turn_off {t : Nat} {full : Bool} {S K : World → Prop} {next : (World → Prop) → (World → Prop) → Act → Prop} (ho : ops[t]? = some o) (hw : Region.wanted o (yielded ops a.tmps) = false) 
    (hn : ∀ X : Act → Prop, (∀ a, next S K a → X a) → X (a.put o.dst undef)) : TurnAt P ops t full S K next a := by
  unfold TurnAt
  rw [ho]
  simp only [hw]
  exact hn _ (fun _ h => h)
end
end
end Go.Proofs.Ytlfppgdaoijklaa
