/- Chain, RefBytes, Cuts, BytesLeaf, OwnOps, HtLeaf, HtOf, HtTouch, HtNew, Ints, HtCold, HtLook, FhRef, FhDo, FhTo, RefCold, FhCold. -/
import Derived.Test.YtmlklmhochihbaaAllA
import Derived.Deep.QuietTactic
import Derived.BigQuiet
import Derived.RegionTactic
import Derived.Laws.CopyRow
import Derived.Laws.Cover3
import Derived.Laws.Pointers
import Derived.Laws.BitsAllLaws
import Derived.Laws.CopyOwn
import Derived.Laws.IdiomStrings
import Derived.Great.BuildSlice
import Derived.Great.FillDense
import Derived.Maps.AppendAt
import Derived.Deep.Cut
import Derived.ProofKit
import Derived.OpenShut
import Derived.ChangeOld
import Derived.Below
/- A region that draws its order: operations that only read (or call what only makes new memory), each with one value, and a chain of others, one behind the other, that turn memory. -/
namespace Go.Proofs.Ytmlklmhochihbaa
open Go.RowKit

section
variable {P : Program} {ops : Array Oper} {Q : Exit → Act → World → Prop}

def waits (ops : Array Oper) (i j : Nat) : Bool := ((ops[i]?).map fun o => waitsFor o j).getD false
theorem waits_of {i j : Nat} {o : Oper} (ho : ops[i]? = some o) : waits ops i j = waitsFor o j := by unfold waits; rw [ho]; rfl

/-- Each one waits only for what is ahead in the list, looks only at slots of those it waits for, or of those that wait for it. -/
def slotsOk (ops : Array Oper) (i : Nat) (o : Oper) : Bool :=
  (o.op.operands.all fun x => match x with
    | .tmp d => (List.range ops.size).all fun j => !(slotAt ops j == some d) || waitsFor o j || waits ops j i
    | _ => true) &&
  (match o.guard with | some (g, _) => waitsFor o g && (slotAt ops g).isSome | none => true)
def topoOk (ops : Array Oper) : List Nat → List Nat → Bool
  | _, [] => true
  | pre, i :: l => !pre.contains i && ((ops[i]?).map fun o => (o.after.all fun e => !Region.binds .any e || pre.contains e.on) && slotsOk ops i o).getD false && topoOk ops (pre ++ [i]) l
def ordOf : List (List Nat × Nat) → List Nat → List Nat
  | [], tl => tl
  | (rs, t) :: ph, tl => rs ++ t :: ordOf ph tl
/-- Behind a turn all wait for it, or for one that does. -/
def lateOk (ops : Array Oper) : List (List Nat × Nat) → List Nat → Bool
  | [], _ => true
  | (_, t) :: ph, tl => (ordOf ph tl).all (fun i => (t :: ordOf ph tl).any fun j => waits ops i j) && lateOk ops ph tl
def chainOk (ops : Array Oper) (sz : Nat) (ph : List (List Nat × Nat)) (tl : List Nat) : Bool :=
  okSlots ops sz && ahead ops && Region.noSelect ops && topoOk ops [] (ordOf ph tl) && ((List.range ops.size).all fun i => (ordOf ph tl).contains i) && lateOk ops ph tl

abbrev Grow (w w' : World) : Prop := But (fun _ => False) w w'
/-- One value each, whatever world of the class it is. -/
def wpStill (P : Program) (ops : Array Oper) {ι : Type} (W : ι → World) (Qa : Act → Prop) : List Nat → Act → Prop
  | [], a => Qa a
  | i :: rest, a => match ops[i]? with
    | none => False
    | some o => if Region.wanted o (yielded ops a.tmps) then ∃ v, (∀ x, Oper.quietUpon P (Grow (W x)) (W x) v ((execOp a.eval o).run P (W x))) ∧ wpStill P ops W Qa rest (a.put o.dst v) else wpStill P ops W Qa rest (a.put o.dst undef)
/-- One that turns memory: K' is what holds behind it, S' what those may lean on that come behind it. -/
def TurnAt (P : Program) (ops : Array Oper) (t : Nat) (full : Bool) (S K : World → Prop) (next : (World → Prop) → (World → Prop) → Act → Prop) (a : Act) : Prop :=
  match ops[t]? with
  | none => False
  | some o => if Region.wanted o (yielded ops a.tmps) then ∃ K' S' : Value → World → Prop, (∀ v w w', K' v w → Grow w w' → K' v w') ∧ (∀ v w, K' v w → S' v w) ∧ (full = true ∨ ∀ v w, S' v w → S w) ∧
      (∀ w, K w → o.wp P a w (fun a'' w' => ∃ v, a'' = a.put o.dst v ∧ K' v w') (fun _ _ _ => False)) ∧ ∀ v, (∃ w, K' v w) → next (S' v) (K' v) (a.put o.dst v)
    else next S K (a.put o.dst undef)
def isFull (ops : Array Oper) (t : Nat) (prs : List Nat) : Bool := prs.all fun k => waits ops t k || (List.range ops.size).any fun m => waits ops t m && waits ops m k
def Chain (P : Program) (ops : Array Oper) (Q : Exit → Act → World → Prop) : List (List Nat × Nat) → List Nat → List Nat → (World → Prop) → (World → Prop) → Act → Prop
  | [], tl, _, S, K, a => ∀ (ι : Type) [Nonempty ι] (W : ι → World), (∀ x, S (W x)) → wpStill P ops W (fun a' => ∀ w, K w → Q .normal a' w) tl a
  | (rs, t) :: ph, tl, prs, S, K, a => ∀ (ι : Type) [Nonempty ι] (W : ι → World), (∀ x, S (W x)) →
      wpStill P ops W (TurnAt P ops t (isFull ops t (prs ++ rs)) S K (fun S' K' => Chain P ops Q ph tl (prs ++ rs) S' K')) rs a

/-- What an operation sees of the values of those it waits for. -/
def rho (ops : Array Oper) (a0 : Act) (V : Nat → Value) (o : Oper) : Operand → Value
  | .tmp d => match (List.range ops.size).find? (fun j => waitsFor o j && slotAt ops j == some d) with
    | some j => V j
    | none => a0.eval (.tmp d)
  | x => a0.eval x
def boolOf : Value → Option Bool
  | .bool b => some b
  | _ => none
structure Holds1 (P : Program) (ops : Array Oper) (a0 : Act) (V : Nat → Value) (S : World → Prop) (k : Nat) (o : Oper) : Prop where
  yes : Region.wanted o (fun g => boolOf (V g)) = true → ∀ w, S w → Oper.quietUpon P (Grow w) w (V k) ((execOp (rho ops a0 V o) o).run P w)
  no : Region.wanted o (fun g => boolOf (V g)) = false → V k = undef

theorem wanted_congr {o : Oper} {y y' : Nat → Option Bool} (h : ∀ g b, o.guard = some (g, b) → y g = y' g) : Region.wanted o y = Region.wanted o y' := by
  unfold Region.wanted
  cases hg : o.guard with
  | none => rfl
  | some p => obtain ⟨g, b⟩ := p; simp only [h g b hg]

/-- An act in whose slots the values of those that it waits for lie, and that is otherwise as it was. -/
structure SeesV (ops : Array Oper) (a0 a : Act) (V : Nat → Value) (i : Nat) (o : Oper) : Prop where
  dep : ∀ j d, waitsFor o j = true → slotAt ops j = some d → a.tmps[d]? = some (V j)
  ant : ∀ j d, waits ops j i = true → slotAt ops j = some d → waitsFor o j = false → a.tmps[d]? = a0.tmps[d]?
  old : ∀ d, hasSlot ops d = false → a.tmps[d]? = a0.tmps[d]?

theorem SeesV.exec {a0 a : Act} {V : Nat → Value} {i : Nat} {o : Oper} (h : SeesV ops a0 a V i o) (ho : ops[i]? = some o) (hsel : Region.noSelect ops = true) (hok : slotsOk ops i o = true) : execOp a.eval o = execOp (rho ops a0 V o) o := by
  refine execOp_congr o (fun cs b => Region.noSelect_spec hsel i o cs b ho) (fun x hx => ?_)
  simp only [slotsOk, Bool.and_eq_true, Array.all_eq_true'] at hok
  have h1 := hok.1 x hx
  cases x with
  | tmp d =>
    show a.eval (.tmp d) = match (List.range ops.size).find? (fun j => waitsFor o j && slotAt ops j == some d) with | some j => V j | none => a0.eval (.tmp d)
    cases hf : (List.range ops.size).find? (fun j => waitsFor o j && slotAt ops j == some d) with
    | some j =>
      have := List.find?_some hf
      simp only [Bool.and_eq_true, beq_iff_eq] at this
      exact eval_at (h.dep j d this.1 this.2)
    | none =>
      have hno := List.find?_eq_none.1 hf
      have he : a.tmps[d]? = a0.tmps[d]? := by
        cases hh : hasSlot ops d with
        | false => exact h.old d hh
        | true =>
          obtain ⟨j, hj1, hj2⟩ := List.any_eq_true.1 hh
          have hsl : slotAt ops j = some d := by simpa using hj2
          have hw : waitsFor o j = false := by
            cases hw : waitsFor o j with
            | false => rfl
            | true => exact absurd (by simp [hw, hsl]) (hno j hj1)
          have h2 := List.all_eq_true.1 h1 j hj1
          simp only [hsl, hw, beq_self_eq_true, Bool.not_true, Bool.false_or] at h2
          exact h.ant j d h2 hsl hw
      unfold Act.eval
      simp [Array.getD_eq_getD_getElem?, he]
  | const c => rfl
  | global g => rfl
  | func g => rfl
theorem SeesV.wanted {a0 a : Act} {V : Nat → Value} {i : Nat} {o : Oper} (h : SeesV ops a0 a V i o) (hok : slotsOk ops i o = true) : Region.wanted o (yielded ops a.tmps) = Region.wanted o (fun g => boolOf (V g)) := by
  refine wanted_congr fun g b hg => ?_
  simp only [slotsOk, hg, Bool.and_eq_true] at hok
  obtain ⟨d, hd⟩ := Option.isSome_iff_exists.1 hok.2.2
  have h1 := h.dep g d hok.2.1 hd
  have hd' : (ops[g]?).bind (·.dst) = some d := hd
  unfold yielded
  rw [hd']
  simp only [Option.bind_some, h1]
  cases V g <;> rfl

theorem putAll_append (f : Nat → Value) : ∀ (l m : List Nat) (a : Act), putAll ops f (l ++ m) a = putAll ops f m (putAll ops f l a)
  | [], _, _ => rfl
  | _ :: l, m, _ => putAll_append f l m _
theorem putAll_congr {f g : Nat → Value} : ∀ (l : List Nat) (a : Act), (∀ i ∈ l, f i = g i) → putAll ops f l a = putAll ops g l a
  | [], _, _ => rfl
  | i :: l, a, h => by
    show putAll ops f l (a.put (slotAt ops i) (f i)) = putAll ops g l (a.put (slotAt ops i) (g i))
    rw [h i List.mem_cons_self]
    exact putAll_congr l _ (fun j hj => h j (List.mem_cons_of_mem _ hj))
theorem rho_congr {a0 : Act} {V V' : Nat → Value} {o : Oper} (h : ∀ j, waitsFor o j = true → V j = V' j) : rho ops a0 V o = rho ops a0 V' o := by
  funext x
  cases x with
  | tmp d =>
    show (match (List.range ops.size).find? (fun j => waitsFor o j && slotAt ops j == some d) with | some j => V j | none => a0.eval (.tmp d)) = (match (List.range ops.size).find? (fun j => waitsFor o j && slotAt ops j == some d) with | some j => V' j | none => a0.eval (.tmp d))
    cases hf : (List.range ops.size).find? (fun j => waitsFor o j && slotAt ops j == some d) with
    | none => rfl
    | some j =>
      have := List.find?_some hf
      simp only [Bool.and_eq_true] at this
      exact h j this.1
  | const c => rfl
  | global g => rfl
  | func g => rfl
theorem Holds1.congr {a0 : Act} {V V' : Nat → Value} {S : World → Prop} {k : Nat} {o : Oper} (h : Holds1 P ops a0 V S k o) (hk : V k = V' k) (hw : ∀ j, waitsFor o j = true → V j = V' j) (hg : ∀ g b, o.guard = some (g, b) → V g = V' g) : Holds1 P ops a0 V' S k o := by
  have e : Region.wanted o (fun g => boolOf (V g)) = Region.wanted o (fun g => boolOf (V' g)) := wanted_congr fun g b h => by rw [hg g b h]
  exact ⟨fun h1 w hS => by rw [← rho_congr hw, ← hk]; exact h.yes (e.trans h1) w hS, fun h1 => by rw [← hk]; exact h.no (e.trans h1)⟩

theorem topoOk_mem : ∀ {l pre : List Nat}, topoOk ops pre l = true → ∀ i ∈ l, i ∉ pre
  | [], _, _, i, hi => by cases hi
  | k :: l, pre, h, i, hi => by
    simp only [topoOk, Bool.and_eq_true, Bool.not_eq_true'] at h
    rcases List.mem_cons.1 hi with rfl | hi
    · simpa using h.1.1
    · exact fun hp => topoOk_mem h.2 i hi (List.mem_append_left _ hp)
theorem topoOk_cons {i : Nat} {l pre : List Nat} (h : topoOk ops pre (i :: l) = true) : i ∉ pre ∧ topoOk ops (pre ++ [i]) l = true ∧ ∃ o, ops[i]? = some o ∧ (∀ j, waitsFor o j = true → j ∈ pre) ∧ slotsOk ops i o = true := by
  simp only [topoOk, Bool.and_eq_true, Bool.not_eq_true'] at h
  refine ⟨by simpa using h.1.1, h.2, ?_⟩
  cases ho : ops[i]? with
  | none => rw [ho] at h; simp at h
  | some o =>
    rw [ho] at h
    simp only [Option.map_some, Option.getD_some, Bool.and_eq_true, Array.all_eq_true'] at h
    refine ⟨o, rfl, fun j hj => ?_, h.1.2.2⟩
    unfold waitsFor at hj
    rw [Array.any_eq_true'] at hj
    obtain ⟨e, he, he2⟩ := hj
    simp only [Bool.and_eq_true, beq_iff_eq] at he2
    have := h.1.2.1 e he
    rw [he2.1] at this
    rw [← he2.2]
    simpa using this
theorem topoOk_drop : ∀ {m l pre : List Nat}, topoOk ops pre (m ++ l) = true → topoOk ops (pre ++ m) l = true
  | [], _, _, h => by simpa using h
  | i :: m, l, pre, h => by
    have := topoOk_drop (topoOk_cons h).2.1
    simpa using this
theorem topoOk_lt : ∀ {l pre : List Nat}, topoOk ops pre l = true → ∀ i ∈ l, ∃ (o : Oper) (pre' : List Nat), ops[i]? = some o ∧ (∀ j, waitsFor o j = true → j ∈ pre') ∧ slotsOk ops i o = true ∧ i ∉ pre'
  | [], _, _, i, hi => by cases hi
  | k :: l, pre, h, i, hi => by
    obtain ⟨h1, h2, o, h3, h4, h5⟩ := topoOk_cons h
    rcases List.mem_cons.1 hi with rfl | hi
    · exact ⟨o, pre, h3, h4, h5, h1⟩
    · exact topoOk_lt h2 i hi

theorem okSlots_uniq {sz : Nat} (hs : okSlots ops sz = true) : ∀ i j d, slotAt ops i = some d → slotAt ops j = some d → i = j := by
  intro i j d hi hj
  by_cases e : i = j
  · exact e
  · exact absurd hj ((okSlots_at hs hi).2 j (fun h => e h.symm))

/-- The canonical act at a place of the list sees what an operation looks at. -/
theorem putAll_sees {a0 : Act} {V : Nat → Value} {don : List Nat} {i : Nat} {o : Oper} (hs : okSlots ops a0.tmps.size = true) (hw : ∀ j, waitsFor o j = true → j ∈ don) (hn : ∀ j, waits ops j i = true → j ∉ don) : SeesV ops a0 (putAll ops V don a0) V i o := by
  have hu := okSlots_uniq hs
  refine ⟨fun j d h1 h2 => ?_, fun j d h1 h2 _ => ?_, fun d hd => ?_⟩
  · rw [putAll_get V hu don a0 d (okSlots_at hs h2).1]
    cases hf : don.find? (fun j => slotAt ops j == some d) with
    | none => exact absurd (by simp [h2]) (List.find?_eq_none.1 hf j (hw j h1))
    | some k =>
      have : slotAt ops k = some d := by simpa using List.find?_some hf
      rw [hu k j d this h2]
  · rw [putAll_get V hu don a0 d (okSlots_at hs h2).1]
    cases hf : don.find? (fun j => slotAt ops j == some d) with
    | none => rfl
    | some k =>
      have : slotAt ops k = some d := by simpa using List.find?_some hf
      exact absurd (List.mem_of_find?_eq_some hf) (by rw [hu k j d this h2]; exact hn j h1)
  · by_cases hsz : d < a0.tmps.size
    · rw [putAll_get V hu don a0 d hsz]
      cases hf : don.find? (fun j => slotAt ops j == some d) with
      | none => rfl
      | some k =>
        have : slotAt ops k = some d := by simpa using List.find?_some hf
        rw [hasSlot_of this] at hd; cases hd
    · rw [Array.getElem?_eq_none (by rw [putAll_size]; omega), Array.getElem?_eq_none (by omega)]

/-- None of the prefix waits for what is behind it. -/
def Pre (ops : Array Oper) (don l : List Nat) : Prop := ∀ k ∈ don, ∀ j ∈ l, waits ops k j = false
theorem topoOk_pre : ∀ {m l pre : List Nat}, Pre ops pre (m ++ l) → topoOk ops pre (m ++ l) = true → Pre ops (pre ++ m) l
  | [], l, pre, hp, _ => by simpa using hp
  | i :: m, l, pre, hp, h => by
    obtain ⟨h1, h2, o, h3, h4, h5⟩ := topoOk_cons h
    have hp' : Pre ops (pre ++ [i]) (m ++ l) := by
      intro k hk j hj
      rcases List.mem_append.1 hk with hk | hk
      · exact hp k hk j (List.mem_cons_of_mem _ hj)
      · obtain rfl : k = i := by simpa using hk
        rw [waits_of h3]
        cases hw : waitsFor o j with
        | false => rfl
        | true => exact absurd (List.mem_append_left [k] (h4 j hw)) (topoOk_mem h2 j hj)
    have := topoOk_pre (m := m) hp' h2
    simpa using this

theorem still_out {a0 : Act} (hs : okSlots ops a0.tmps.size = true) (hsel : Region.noSelect ops = true) {S : World → Prop} {Qa : Act → Prop} {l : List Nat} : ∀ (rs don : List Nat) (V : Nat → Value), topoOk ops don (rs ++ l) = true → Pre ops don (rs ++ l) →
    wpStill P ops (fun x : {w // S w} => x.1) Qa rs (putAll ops V don a0) → ∃ V', (∀ i, i ∉ rs → V' i = V i) ∧ (∀ k ∈ rs, ∀ o, ops[k]? = some o → Holds1 P ops a0 V' S k o) ∧ Qa (putAll ops V' (don ++ rs) a0)
  | [], don, V, _, _, h => ⟨V, fun _ _ => rfl, (fun k hk => absurd hk List.not_mem_nil), by rw [List.append_nil]; exact h⟩
  | i :: rs, don, V, ht, hp, h => by
    obtain ⟨h1, h2, o, ho, h4, h5⟩ := topoOk_cons ht
    have hp' : Pre ops (don ++ [i]) (rs ++ l) := topoOk_pre (m := [i]) hp ht
    have hsee : SeesV ops a0 (putAll ops V don a0) V i o := putAll_sees hs h4 (fun j hj hd => by
      have := hp j hd i List.mem_cons_self
      rw [this] at hj; cases hj)
    have hslot : slotAt ops i = o.dst := by unfold slotAt; rw [ho]; rfl
    have key : ∀ v, wpStill P ops (fun x : {w // S w} => x.1) Qa rs ((putAll ops V don a0).put o.dst v) → Holds1 P ops a0 (upd V i v) S i o → ∃ V', (∀ j, j ∉ i :: rs → V' j = V j) ∧ (∀ k ∈ i :: rs, ∀ o, ops[k]? = some o → Holds1 P ops a0 V' S k o) ∧ Qa (putAll ops V' (don ++ i :: rs) a0) := by
      intro v hst hh
      have e : (putAll ops V don a0).put o.dst v = putAll ops (upd V i v) (don ++ [i]) a0 := by
        rw [putAll_append, putAll_congr (f := upd V i v) (g := V) don a0 (fun j hj => upd_other _ _ (fun e => h1 (e ▸ hj)))]
        show _ = (putAll ops V don a0).put (slotAt ops i) (upd V i v i)
        rw [upd_same, hslot]
      rw [e] at hst
      obtain ⟨V', g1, g2, g3⟩ := still_out hs hsel rs (don ++ [i]) (upd V i v) h2 hp' hst
      have hni : i ∉ rs := fun hi => topoOk_mem h2 i (List.mem_append_left _ hi) (by simp)
      refine ⟨V', fun j hj => ?_, fun k hk x hx => ?_, by simpa using g3⟩
      · rw [g1 j (fun h => hj (List.mem_cons_of_mem _ h)), upd_other _ _ (fun e => hj (by rw [e]; exact List.mem_cons_self))]
      · rcases List.mem_cons.1 hk with rfl | hk
        · obtain rfl := Option.some.inj (ho.symm.trans hx)
          have agree : ∀ j, j ∈ don → upd V k v j = V' j := fun j hj => (g1 j (fun hr => topoOk_mem h2 j (List.mem_append_left _ hr) (List.mem_append_left _ hj))).symm
          refine hh.congr (g1 k hni).symm (fun j hj => agree j (h4 j hj)) (fun g b hg => agree g (h4 g ?_))
          simp only [slotsOk, hg, Bool.and_eq_true] at h5
          exact h5.2.1
        · exact g2 k hk x hx
    unfold wpStill at h
    rw [ho] at h
    simp only at h
    have hne : ∀ v j, waitsFor o j = true → V j = upd V i v j := fun v j hj => (upd_other _ _ (fun e => h1 (by rw [← e]; exact h4 j hj))).symm
    have hge : ∀ v g b, o.guard = some (g, b) → V g = upd V i v g := fun v g b hg => hne v g (by simp only [slotsOk, hg, Bool.and_eq_true] at h5; exact h5.2.1)
    by_cases hw : Region.wanted o (yielded ops (putAll ops V don a0).tmps) = true
    · rw [if_pos hw] at h
      obtain ⟨v, hq, hst⟩ := h
      refine key v hst ⟨fun _ w hS => ?_, fun hno => ?_⟩
      · rw [upd_same, ← rho_congr (hne v), ← hsee.exec ho hsel h5]
        exact hq ⟨w, hS⟩
      · exfalso
        rw [hsee.wanted h5, wanted_congr (y' := fun g => boolOf (upd V i v g)) (fun g b hg => by rw [hge v g b hg]), hno] at hw
        cases hw
    · rw [if_neg hw] at h
      refine key undef h ⟨fun hyes => ?_, fun _ => upd_same _ _ _⟩
      exfalso
      rw [hsee.wanted h5, wanted_congr (y' := fun g => boolOf (upd V i undef g)) (fun g b hg => by rw [hge undef g b hg]), hyes] at hw
      exact hw rfl

theorem wpAny_both (J : List Bool → Act → World → Prop)
    (step : ∀ l a w i o, J l a w → l.length = ops.size → i ∈ Region.ready .any ops l.toArray → ops[i]? = some o → (Region.wanted o (yielded ops a.tmps) = true ∧ o.wp P a w (J (l.set i true)) Q) ∨ (Region.wanted o (yielded ops a.tmps) = false ∧ J (l.set i true) (a.put o.dst undef) w))
    (fin : ∀ l a w, J l a w → l.length = ops.size → Region.ready .any ops l.toArray = [] → Q .normal a w) :
    ∀ (fuel : Nat) (l : List Bool) (a : Act) (w : World), l.length = ops.size → l.count false ≤ fuel → J l a w → wpAny P .any ops Q fuel l.toArray a w := by
  intro fuel
  induction fuel with
  | zero =>
    intro l a w hl hc hj
    have hr := ready_none (md := .any) hl (by omega)
    exact ⟨hr, fin l a w hj hl hr⟩
  | succ fuel ih =>
    intro l a w hl hc hj
    refine ⟨fun hr => fin l a w hj hl hr, fun i hi => ?_⟩
    obtain ⟨hlt, hf⟩ := ready_open hi
    have hlt' : i < l.length := by omega
    have ho : ops[i]? = some ops[i] := by simp [hlt]
    have e : l.toArray.setIfInBounds i true = (l.set i true).toArray := by simp
    have hc' : (l.set i true).count false ≤ fuel := by
      have := count_listed hlt' hf
      omega
    rw [e]
    unfold wpOp
    rw [ho]
    rcases step l a w i _ hj hl hi ho with ⟨hw, hst⟩ | ⟨hw, hst⟩
    · simp only [hw, if_true]
      exact .inl (Oper.wp_mono (fun a' w' hj' => ih _ a' w' (by simp [hl]) hc' hj') hst)
    · simp only [hw]
      exact ih _ _ _ (by simp [hl]) hc' hst

theorem wp_still {o : Oper} {a : Act} {w : World} {v : Value} {K : Act → World → Prop} {r : Result Next} (h : Oper.quietUpon P (Grow w) w v r) (hK : ∀ w', Grow w w' → K (a.put o.dst v) w') : o.upon P a K Q r := by
  cases r with
  | halt x w' => cases h
  | ok n w' =>
    cases n with
    | value u => obtain ⟨rfl, rfl⟩ := h; exact hK _ (But.refl _ _)
    | skip => obtain ⟨rfl, rfl⟩ := h; exact hK _ (But.refl _ _)
    | enter f args =>
      obtain ⟨rfl, h⟩ := h
      refine Calls.mono h ?_
      rintro e w'' ⟨rfl, hg⟩
      exact hK _ hg
    | _ => cases h
theorem put_eq {a b : Act} (hs : a.tmps.size = b.tmps.size) {d : Option Tmp} {u v : Value} (h : a.put d u = a.put d v) : b.put d u = b.put d v := by
  cases d with
  | none => rfl
  | some t =>
    have h1 : a.tmps.setIfInBounds t u = a.tmps.setIfInBounds t v := congrArg Act.tmps h
    show ({ b with tmps := b.tmps.setIfInBounds t u } : Act) = { b with tmps := b.tmps.setIfInBounds t v }
    by_cases ht : t < b.tmps.size
    · have h2 : (a.tmps.setIfInBounds t u)[t]? = (a.tmps.setIfInBounds t v)[t]? := by rw [h1]
      have ht' : t < a.tmps.size := by rw [hs]; exact ht
      simp [ht'] at h2
      rw [h2]
    · rw [Array.setIfInBounds_eq_of_size_le (Nat.le_of_not_lt ht), Array.setIfInBounds_eq_of_size_le (Nat.le_of_not_lt ht)]
theorem put_defer {a : Act} {o : Oper} {d : Deferred} {v : Value} : ({ a with defers := d :: a.defers }.put o.dst undef : Act) ≠ a.put o.dst v := by
  intro h
  have h1 : ({ a with defers := d :: a.defers }.put o.dst undef : Act).defers = (a.put o.dst v).defers := by rw [h]
  have h2 : ({ a with defers := d :: a.defers }.put o.dst undef : Act).defers = d :: a.defers := by cases o.dst <;> rfl
  have h3 : (a.put o.dst v).defers = a.defers := by cases o.dst <;> rfl
  rw [h2, h3] at h1
  exact absurd (congrArg List.length h1) (by simp)
theorem wp_transfer {o : Oper} {a ac : Act} {w : World} {K' : Value → World → Prop} (he : execOp a.eval o = execOp ac.eval o) (hs : ac.tmps.size = a.tmps.size)
    (h : o.wp P ac w (fun a'' w' => ∃ v, a'' = ac.put o.dst v ∧ K' v w') (fun _ _ _ => False)) : o.wp P a w (fun a'' w' => ∃ v, a'' = a.put o.dst v ∧ K' v w') Q := by
  unfold Oper.wp at *
  rw [he]
  generalize (execOp ac.eval o).run P w = r at *
  have key : ∀ v w', (∃ u, ac.put o.dst v = ac.put o.dst u ∧ K' u w') → ∃ u, a.put o.dst v = a.put o.dst u ∧ K' u w' := fun v w' ⟨u, h1, h2⟩ => ⟨u, put_eq hs h1, h2⟩
  cases r with
  | halt x w' => cases x <;> simp only [Oper.upon] at h
  | ok n w' =>
    cases n with
    | value u => exact key _ _ h
    | skip => exact key _ _ h
    | defer d => obtain ⟨v, h1, _⟩ := h; exact absurd h1 put_defer
    | enter f args =>
      refine Calls.mono h ?_
      intro e w'' he
      cases e with
      | returned v => exact key _ _ he
      | panicked c => exact he.elim
      | outgrown => exact absurd he (by simp [LetsOut])
    | row r2 as2 => exact Rows.mono h (fun v w'' he => key _ _ he)
    | _ => simp only [Oper.upon] at h

theorem don_closed : ∀ {don r pre : List Nat}, topoOk ops pre (don ++ r) = true → ∀ k ∈ don, ∀ o j, ops[k]? = some o → waitsFor o j = true → j ∈ pre ++ don
  | [], _, _, _, k, hk, _, _, _, _ => absurd hk List.not_mem_nil
  | i :: don, r, pre, h, k, hk, o, j, ho, hj => by
    obtain ⟨_, h2, x, hx, h4, _⟩ := topoOk_cons h
    rcases List.mem_cons.1 hk with rfl | hk
    · obtain rfl := Option.some.inj (hx.symm.trans ho)
      exact List.mem_append_left _ (h4 j hj)
    · have := don_closed h2 k hk o j ho hj
      simpa using this
structure CBase (P : Program) (ops : Array Oper) (a0 : Act) (S K : World → Prop) (V : Nat → Value) (prs don : List Nat) (l : List Bool) (a : Act) (w : World) : Prop where
  kw : K w
  kc : ∀ w w', K w → Grow w w' → K w'
  ks : ∀ w, K w → S w
  sub : ∀ i ∈ prs, i ∈ don
  rest : ∀ i, i ∉ don → l.getD i false = false
  turned : ∀ i, i ∈ don → i ∉ prs → l.getD i false = true
  shut : ∀ i o j, ops[i]? = some o → waitsFor o j = true → l.getD i false = true → l.getD j false = true
  done : ∀ j d, slotAt ops j = some d → l.getD j false = true → a.tmps[d]? = some (V j)
  opn : ∀ j d, slotAt ops j = some d → l.getD j false = false → a.tmps[d]? = a0.tmps[d]?
  old : ∀ d, hasSlot ops d = false → a.tmps[d]? = a0.tmps[d]?
  size : a.tmps.size = a0.tmps.size
  defers : a.defers = a0.defers
  claim : ∀ k ∈ prs, ∀ o, ops[k]? = some o → l.getD k false = false → Holds1 P ops a0 V S k o
def CInv (P : Program) (ops : Array Oper) (Q : Exit → Act → World → Prop) (a0 : Act) (ord tl : List Nat) (l : List Bool) (a : Act) (w : World) : Prop :=
  ∃ S K V prs don, CBase P ops a0 S K V prs don l a w ∧ ((don = ord ∧ ∀ w, K w → Q .normal (putAll ops V don a0) w) ∨
    ∃ t ph, don ++ t :: ordOf ph tl = ord ∧ ((ordOf ph tl).all (fun i => (t :: ordOf ph tl).any fun j => waits ops i j) = true) ∧ lateOk ops ph tl = true ∧
      TurnAt P ops t (isFull ops t prs) S K (fun S' K' => Chain P ops Q ph tl prs S' K') (putAll ops V don a0))
theorem CBase.on {a0 : Act} {S K : World → Prop} {V V' : Nat → Value} {prs don rs r : List Nat} {l : List Bool} {a : Act} {w : World} (h : CBase P ops a0 S K V prs don l a w) (ht : topoOk ops [] (don ++ (rs ++ r)) = true)
    (g1 : ∀ i, i ∉ rs → V' i = V i) (g2 : ∀ k ∈ rs, ∀ o, ops[k]? = some o → Holds1 P ops a0 V' S k o) : CBase P ops a0 S K V' (prs ++ rs) (don ++ rs) l a w := by
  have hdis : ∀ i ∈ don, i ∉ rs := fun i hi hr => topoOk_mem (topoOk_drop ht) i (List.mem_append_left _ hr) (by simpa using hi)
  have hv : ∀ i ∈ don, V i = V' i := fun i hi => (g1 i (hdis i hi)).symm
  refine ⟨h.kw, h.kc, h.ks, fun i hi => ?_, fun i hi => h.rest i (fun hd => hi (List.mem_append_left _ hd)), fun i hi hn => ?_, h.shut, fun j d hs hd => ?_, h.opn, h.old, h.size, h.defers, fun k hk o ho hd => ?_⟩
  · rcases List.mem_append.1 hi with hi | hi
    · exact List.mem_append_left _ (h.sub i hi)
    · exact List.mem_append_right _ hi
  · have hn1 : i ∉ prs := fun hp => hn (List.mem_append_left _ hp)
    have hn2 : i ∉ rs := fun hp => hn (List.mem_append_right _ hp)
    rcases List.mem_append.1 hi with hi | hi
    · exact h.turned i hi hn1
    · exact absurd hi hn2
  · have hj : j ∈ don := by
      by_cases hj : j ∈ don
      · exact hj
      · rw [h.rest j hj] at hd; cases hd
    rw [← hv j hj]
    exact h.done j d hs hd
  · rcases List.mem_append.1 hk with hk | hk
    · have hkd := h.sub k hk
      have hcl := fun j hj => don_closed ht k hkd o j ho hj
      refine (h.claim k hk o ho hd).congr (hv k hkd) (fun j hj => hv j (by simpa using hcl j hj)) (fun g b hg => hv g ?_)
      obtain ⟨x, _, hx, _, h5, _⟩ := topoOk_lt ht k (List.mem_append_left _ hkd)
      obtain rfl := Option.some.inj (hx.symm.trans ho)
      simp only [slotsOk, hg, Bool.and_eq_true] at h5
      simpa using hcl g h5.2.1
    · exact g2 k hk o ho
theorem chain_enter {a0 : Act} (hs : okSlots ops a0.tmps.size = true) (hsel : Region.noSelect ops = true) {ord tl : List Nat} (htopo : topoOk ops [] ord = true) {ph : List (List Nat × Nat)} {S K : World → Prop} {V : Nat → Value} {prs don : List Nat} {l : List Bool} {a : Act} {w : World}
    (h : CBase P ops a0 S K V prs don l a w) (hord : don ++ ordOf ph tl = ord) (hl : lateOk ops ph tl = true) (hc : Chain P ops Q ph tl prs S K (putAll ops V don a0)) : CInv P ops Q a0 ord tl l a w := by
  have hne : Nonempty {w // S w} := ⟨⟨w, h.ks w h.kw⟩⟩
  have hpre0 : Pre ops [] ord := fun k hk => absurd hk List.not_mem_nil
  cases ph with
  | nil =>
    have hq := hc {w // S w} (fun x => x.1) (fun x => x.2)
    have e : don ++ (tl ++ []) = ord := by rw [List.append_nil]; exact hord
    have ht := htopo
    rw [← e] at ht hpre0
    obtain ⟨V', g1, g2, g3⟩ := still_out (l := []) hs hsel tl don V (by simpa using topoOk_drop ht) (by simpa using topoOk_pre (m := don) hpre0 ht) hq
    exact ⟨S, K, V', prs ++ tl, don ++ tl, h.on ht g1 g2, .inl ⟨hord, g3⟩⟩
  | cons p ph =>
    obtain ⟨rs, t⟩ := p
    have hq := hc {w // S w} (fun x => x.1) (fun x => x.2)
    have e : don ++ (rs ++ t :: ordOf ph tl) = ord := hord
    have ht := htopo
    rw [← e] at ht hpre0
    obtain ⟨V', g1, g2, g3⟩ := still_out (l := t :: ordOf ph tl) hs hsel rs don V (by simpa using topoOk_drop ht) (by simpa using topoOk_pre (m := don) hpre0 ht) hq
    simp only [lateOk, Bool.and_eq_true] at hl
    exact ⟨S, K, V', prs ++ rs, don ++ rs, h.on ht g1 g2, .inr ⟨t, ph, by rw [List.append_assoc]; exact e, hl.1, hl.2, g3⟩⟩
theorem getD_set {l : List Bool} {i : Nat} (hi : i < l.length) (k : Nat) : (l.set i true).getD k false = if k = i then true else l.getD k false := by
  by_cases hk : k = i
  · subst hk; simp [List.getD, hi]
  · rw [if_neg hk]; simp only [List.getD]; rw [List.getElem?_set_ne (fun e => hk e.symm)]
/-- One more is done. -/
theorem CBase.more {a0 : Act} {S K S' K' : World → Prop} {V V' : Nat → Value} {prs don don' : List Nat} {l : List Bool} {a : Act} {w w' : World} {i : Nat} {o : Oper} {v : Value} (hs : okSlots ops a0.tmps.size = true) (h : CBase P ops a0 S K V prs don l a w)
    (hi : i < l.length) (ho : ops[i]? = some o) (hdep : ∀ j, waitsFor o j = true → l.getD j false = true) (hV : V' i = v) (hVo : ∀ j, j ≠ i → V' j = V j) (hd1 : ∀ j ∈ don, j ∈ don') (hd2 : i ∈ don') (hd3 : ∀ j ∈ don', j ∈ don ∨ j = i)
    (kw : K' w') (kc : ∀ w w', K' w → Grow w w' → K' w') (ks : ∀ w, K' w → S' w) (claim : ∀ k ∈ prs, ∀ o, ops[k]? = some o → k ≠ i → l.getD k false = false → Holds1 P ops a0 V' S' k o) : CBase P ops a0 S' K' V' prs don' (l.set i true) (a.put o.dst v) w' := by
  have hslot : slotAt ops i = o.dst := by unfold slotAt; rw [ho]; rfl
  have hu := okSlots_uniq hs
  refine ⟨kw, kc, ks, fun k hk => hd1 k (h.sub k hk), fun k hk => ?_, fun k hk hn => ?_, fun k x j hx hw hd => ?_, fun j d hsl hd => ?_, fun j d hsl hd => ?_, fun d hd => ?_, by rw [put_size]; exact h.size, ?_, fun k hk x hx hd => ?_⟩
  · rw [getD_set hi, if_neg (fun e => hk (by rw [e]; exact hd2))]
    exact h.rest k (fun hd => hk (hd1 k hd))
  · rw [getD_set hi]
    split
    · rfl
    · rename_i hne
      rcases hd3 k hk with hk | hk
      · exact h.turned k hk hn
      · exact absurd hk hne
  · rw [getD_set hi] at hd ⊢
    split
    · rfl
    · split at hd
      · rename_i _ he
        subst he
        obtain rfl := Option.some.inj (ho.symm.trans hx)
        exact hdep j hw
      · exact h.shut k x j hx hw hd
  · rw [getD_set hi] at hd
    rw [put_get]
    by_cases hji : j = i
    · subst hji
      rw [if_pos ⟨by rw [← hslot]; exact hsl, by rw [h.size]; exact (okSlots_at hs hsl).1⟩, hV]
    · rw [if_neg hji] at hd
      rw [if_neg (fun hh => hji (hu j i d hsl (by rw [hslot]; exact hh.1))), hVo j hji]
      exact h.done j d hsl hd
  · rw [getD_set hi] at hd
    split at hd
    · cases hd
    · rename_i hji
      rw [put_get, if_neg (fun hh => hji (hu j i d hsl (by rw [hslot]; exact hh.1)))]
      exact h.opn j d hsl hd
  · rw [put_get, if_neg (fun hh => by
      have := hasSlot_of (ops := ops) (j := i) (d := d) (by rw [hslot]; exact hh.1)
      rw [hd] at this; cases this)]
    exact h.old d hd
  · rw [← h.defers]; cases o.dst <;> rfl
  · rw [getD_set hi] at hd
    split at hd
    · cases hd
    · rename_i hki
      exact claim k hk x hx hki hd

theorem region_chain {id : Nat} {a0 : Act} {w0 : World} (ph : List (List Nat × Nat)) (tl : List Nat) (S K : World → Prop) (hm : P.follows .mixedOrders = true) (hchk : chainOk ops a0.tmps.size ph tl = true)
    (kc : ∀ w w', K w → Grow w w' → K w') (ks : ∀ w, K w → S w) (h0 : K w0.drew) (h : Chain P ops Q ph tl [] S K a0) : (Code.region id ops true).wp P Q a0 w0 := by
  simp only [chainOk, Bool.and_eq_true] at hchk
  obtain ⟨⟨⟨⟨⟨hs, ha⟩, hsel⟩, htopo⟩, hall⟩, hlate⟩ := hchk
  obtain ⟨ord, hord⟩ : ∃ ord, ord = ordOf ph tl := ⟨_, rfl⟩
  rw [← hord] at htopo hall
  have hu := okSlots_uniq hs
  have hin : ∀ i, i < ops.size → i ∈ ord := fun i hi => by simpa using List.all_eq_true.1 hall i (by simpa using hi)
  refine wp_region_any hm ?_
  have e : Array.replicate ops.size false = (List.replicate ops.size false).toArray := by simp
  rw [e]
  have hr : ∀ i, (List.replicate ops.size false).getD i false = false := fun i => by
    simp only [List.getD, List.getElem?_replicate]; split <;> rfl
  refine wpAny_both (CInv P ops Q a0 ord tl) ?_ ?_ ops.size _ a0 _ (by simp) (by simp) ?_
  · rintro l a w i o ⟨S, K, V, prs, don, hb, hcont⟩ hl hi ho
    obtain ⟨hlt, hf⟩ := ready_open hi
    have hdep := fun j hj => dep_done (ready_dep hi ho) j hj
    have hil : i < l.length := by omega
    have hfd : l.getD i false = false := by
      simp only [List.getD, List.getElem?_eq_getElem hil] at hf ⊢
      simpa using hf
    obtain ⟨x, _, hx, _, hsl, _⟩ := topoOk_lt htopo i (hin i hlt)
    obtain rfl := Option.some.inj (hx.symm.trans ho)
    have hsee : SeesV ops a0 a V i x := ⟨fun j d h1 h2 => hb.done j d h2 (hdep j h1), fun j d h1 h2 _ => hb.opn j d h2 (by
      cases hj : l.getD j false with
      | false => rfl
      | true =>
        exfalso
        unfold waits at h1
        cases hoj : ops[j]? with
        | none => rw [hoj] at h1; cases h1
        | some y =>
          rw [hoj] at h1
          have := hb.shut j y i hoj h1 hj
          rw [hfd] at this; cases this), hb.old⟩
    by_cases hp : i ∈ prs
    · have hcl := hb.claim i hp x hx hfd
      have hnext : ∀ w', Grow w w' → CInv P ops Q a0 ord tl (l.set i true) (a.put x.dst (V i)) w' := fun w' hg =>
        ⟨S, K, V, prs, don, hb.more hs hil hx hdep rfl (fun _ _ => rfl) (fun _ h => h) (hb.sub i hp) (fun _ h => .inl h) (hb.kc w w' hb.kw hg) hb.kc hb.ks (fun k hk y hy _ hd => hb.claim k hk y hy hd), hcont⟩
      cases hw : Region.wanted x (yielded ops a.tmps) with
      | true =>
        refine .inl ⟨rfl, ?_⟩
        have h1 := hcl.yes ((hsee.wanted hsl).symm.trans hw) w (hb.ks w hb.kw)
        unfold Oper.wp
        rw [hsee.exec hx hsel hsl]
        exact wp_still h1 hnext
      | false =>
        refine .inr ⟨rfl, ?_⟩
        have h1 := hcl.no ((hsee.wanted hsl).symm.trans hw)
        have := hnext w (But.refl _ _)
        rwa [h1] at this
    · have hnd : i ∉ don := fun hd => by
        have := hb.turned i hd hp
        rw [hfd] at this; cases this
      rcases hcont with ⟨rfl, _⟩ | ⟨t, ph', ho2, hlt2, hl2, hturn⟩
      · exact absurd (hin i hlt) hnd
      have htp := htopo
      rw [← ho2] at htp
      have hmem : i ∈ t :: ordOf ph' tl := by
        have := hin i hlt
        rw [← ho2] at this
        rcases List.mem_append.1 this with h | h
        · exact absurd h hnd
        · exact h
      have hrest : ∀ j ∈ t :: ordOf ph' tl, l.getD j false = false := fun j hj => hb.rest j (fun hd => topoOk_mem (topoOk_drop htp) j hj (by simpa using hd))
      have hit : i = t := by
        rcases List.mem_cons.1 hmem with h | h
        · exact h
        · exfalso
          obtain ⟨j, hj1, hj2⟩ := List.any_eq_true.1 (List.all_eq_true.1 hlt2 i h)
          rw [waits_of hx] at hj2
          have := hdep j hj2
          rw [hrest j hj1] at this; cases this
      subst hit
      have hpre : Pre ops don (i :: ordOf ph' tl) := by
        have h1 : Pre ops [] (don ++ i :: ordOf ph' tl) := fun k hk => absurd hk List.not_mem_nil
        simpa using topoOk_pre (m := don) h1 htp
      have hwd : ∀ j, waitsFor x j = true → j ∈ don := fun j hj => by
        obtain ⟨_, _, y, hy, h4, _⟩ := topoOk_cons (topoOk_drop htp)
        obtain rfl := Option.some.inj (hy.symm.trans hx)
        simpa using h4 j hj
      have hsee2 : SeesV ops a0 (putAll ops V don a0) V i x := putAll_sees hs hwd (fun j hj hd => by
        have := hpre j hd i List.mem_cons_self
        rw [this] at hj; cases hj)
      have hslot : slotAt ops i = x.dst := by unfold slotAt; rw [hx]; rfl
      have hput : ∀ v, (putAll ops V don a0).put x.dst v = putAll ops (upd V i v) (don ++ [i]) a0 := fun v => by
        rw [putAll_append, putAll_congr (f := upd V i v) (g := V) don a0 (fun j hj => upd_other _ _ (fun e => hnd (e ▸ hj)))]
        show _ = (putAll ops V don a0).put (slotAt ops i) (upd V i v i)
        rw [upd_same, hslot]
      have hcong : ∀ v k y, k ∈ prs → ops[k]? = some y → ∀ S', Holds1 P ops a0 V S' k y → Holds1 P ops a0 (upd V i v) S' k y := fun v k y hk hy S' hh => by
        have hkd := hb.sub k hk
        have hcl := fun j hj => don_closed htp k hkd y j hy hj
        have hv : ∀ j ∈ don, V j = upd V i v j := fun j hj => (upd_other V v (fun e => hnd (by rw [← e]; exact hj))).symm
        refine hh.congr (hv k hkd) (fun j hj => hv j (by simpa using hcl j hj)) (fun g b hg => hv g ?_)
        obtain ⟨z, _, hz, _, h5, _⟩ := topoOk_lt htp k (List.mem_append_left _ hkd)
        obtain rfl := Option.some.inj (hz.symm.trans hy)
        simp only [slotsOk, hg, Bool.and_eq_true] at h5
        simpa using hcl g h5.2.1
      have hord' : (don ++ [i]) ++ ordOf ph' tl = ord := by rw [List.append_assoc]; exact ho2
      have hd3 : ∀ j ∈ don ++ [i], j ∈ don ∨ j = i := fun j hj => by
        rcases List.mem_append.1 hj with h | h
        · exact .inl h
        · exact .inr (by simpa using h)
      unfold TurnAt at hturn
      rw [hx] at hturn
      simp only at hturn
      have hww : Region.wanted x (yielded ops (putAll ops V don a0).tmps) = Region.wanted x (yielded ops a.tmps) := (hsee2.wanted hsl).trans (hsee.wanted hsl).symm
      rw [hww] at hturn
      cases hw : Region.wanted x (yielded ops a.tmps) with
      | true =>
        rw [hw] at hturn
        simp only [if_true] at hturn
        obtain ⟨K', S', kc', ks', hfull, hwp, hnext⟩ := hturn
        refine .inl ⟨rfl, Oper.wp_mono ?_ (wp_transfer (Q := Q) ((hsee.exec hx hsel hsl).trans (hsee2.exec hx hsel hsl).symm) (by rw [putAll_size, hb.size]) (hwp w hb.kw))⟩
        rintro a' w' ⟨v, rfl, hK'⟩
        have hch := hnext v ⟨w', hK'⟩
        rw [hput] at hch
        refine chain_enter hs hsel htopo (hb.more hs hil hx hdep (upd_same _ _ _) (fun j hj => upd_other _ _ hj) (fun j hj => List.mem_append_left _ hj) (by simp) hd3 hK' (kc' v) (ks' v) (fun k hk y hy _ hd => ?_)) hord' hl2 hch
        rcases hfull with hfull | hS
        · exfalso
          have hkd : l.getD k false = true := by
            have := List.all_eq_true.1 hfull k hk
            simp only [Bool.or_eq_true] at this
            rcases this with h1 | h1
            · rw [waits_of hx] at h1
              exact hdep k h1
            · obtain ⟨m, _, hm⟩ := List.any_eq_true.1 h1
              simp only [Bool.and_eq_true] at hm
              rw [waits_of hx] at hm
              have hmd := hdep m hm.1
              have hm2 := hm.2
              unfold waits at hm2
              cases hom : ops[m]? with
              | none => rw [hom] at hm2; cases hm2
              | some z =>
                rw [hom] at hm2
                exact hb.shut m z k hom hm2 hmd
          rw [hd] at hkd; cases hkd
        · have hh := hb.claim k hk y hy hd
          exact hcong v k y hk hy _ ⟨fun h1 w hS' => hh.yes h1 w (hS v w hS'), hh.no⟩
      | false =>
        rw [hw] at hturn
        simp only [Bool.false_eq_true, if_false] at hturn
        refine .inr ⟨rfl, ?_⟩
        rw [hput] at hturn
        exact chain_enter hs hsel htopo (hb.more hs hil hx hdep (upd_same _ _ _) (fun j hj => upd_other _ _ hj) (fun j hj => List.mem_append_left _ hj) (by simp) hd3 hb.kw hb.kc hb.ks (fun k hk y hy _ hd => hcong undef k y hk hy _ (hb.claim k hk y hy hd))) hord' hl2 hturn
  · rintro l a w ⟨S, K, V, prs, don, hb, hcont⟩ hl hrd
    have hal := ready_all ha hl hrd
    have hdn : ∀ j, j < ops.size → l.getD j false = true := fun j hj => by rw [hal]; simp [List.getD, hj]
    rcases hcont with ⟨rfl, hq⟩ | ⟨t, ph', ho2, _, _, _⟩
    · have ea : putAll ops V don a0 = a := by
        have e1 : (putAll ops V don a0).tmps = a.tmps := by
          apply Array.ext_getElem?
          intro d
          by_cases hd : d < a0.tmps.size
          · rw [putAll_get V hu _ _ d hd]
            cases hfd : don.find? (fun j => slotAt ops j == some d) with
            | some j =>
              have h1 : slotAt ops j = some d := by simpa using List.find?_some hfd
              exact (hb.done j d h1 (hdn j (slotAt_lt h1))).symm
            | none =>
              refine (hb.old d ?_).symm
              cases hh : hasSlot ops d with
              | false => rfl
              | true =>
                obtain ⟨j, h1, h2⟩ := List.any_eq_true.1 hh
                exact absurd h2 (List.find?_eq_none.1 hfd j (hin j (by simpa using h1)))
          · rw [Array.getElem?_eq_none (by rw [putAll_size]; omega), Array.getElem?_eq_none (by rw [hb.size]; omega)]
        have e2 : (putAll ops V don a0).defers = a.defers := by rw [putAll_defers, hb.defers]
        cases hp : putAll ops V don a0
        rw [hp] at e1 e2
        cases a
        simp only at e1 e2
        rw [e1, e2]
      rw [← ea]
      exact hq w hb.kw
    · exfalso
      have htp := htopo
      rw [← ho2] at htp
      have hnt : t ∉ don := fun hd => topoOk_mem (topoOk_drop htp) t List.mem_cons_self (by simpa using hd)
      have hto : t ∈ ord := by rw [← ho2]; simp
      obtain ⟨y, _, hy, _⟩ := topoOk_lt htopo t hto
      have h1 := hdn t (Array.getElem?_eq_some_iff.1 hy).1
      rw [hb.rest t hnt] at h1; cases h1
  · refine chain_enter (V := fun _ => undef) (prs := []) (don := []) hs hsel htopo ⟨h0, kc, ks, fun i hi => absurd hi List.not_mem_nil, fun i _ => hr i, fun i hi => absurd hi List.not_mem_nil, fun i x j _ _ hd => ?_, fun j d _ hd => ?_, fun _ _ _ _ => rfl, fun _ _ => rfl, rfl, rfl, fun k hk => absurd hk List.not_mem_nil⟩ (by rw [List.nil_append]; exact hord.symm) hlate h
    · rw [hr i] at hd; cases hd
    · rw [hr j] at hd; cases hd

section
variable {ι : Type} {W : ι → World} {Qa : Act → Prop} {i : Nat} {rest : List Nat} {a : Act} {o : Oper}
theorem still_nil (h : Qa a) : wpStill P ops W Qa [] a := h
/-- One operation at a time, what follows behind a letter. -/
theorem still_step (ho : ops[i]? = some o) (h : ∀ K : Act → Prop, (∀ a, wpStill P ops W Qa rest a → K a) → if Region.wanted o (yielded ops a.tmps) then ∃ v, (∀ x, Oper.quietUpon P (Grow (W x)) (W x) v ((execOp a.eval o).run P (W x))) ∧ K (a.put o.dst v) else K (a.put o.dst undef)) :
    wpStill P ops W Qa (i :: rest) a := by
  have := h _ (fun _ h => h)
  unfold wpStill
  rw [ho]
  exact this
theorem still_val (ho : ops[i]? = some o) (v : Value) (hw : Region.wanted o (yielded ops a.tmps) = true) (h : ∀ x, (execOp a.eval o).run P (W x) = .ok (.value v) (W x)) (h2 : ∀ K : Act → Prop, (∀ a, wpStill P ops W Qa rest a → K a) → K (a.put o.dst v)) :
    wpStill P ops W Qa (i :: rest) a :=
  still_step ho fun K hK => by
    rw [if_pos hw]
    exact ⟨v, fun x => by rw [h x]; exact ⟨rfl, rfl⟩, h2 K hK⟩
theorem still_call (ho : ops[i]? = some o) (v : Value) (f : FuncId) (args : Array Value) (hw : Region.wanted o (yielded ops a.tmps) = true) (h : ∀ x, (execOp a.eval o).run P (W x) = .ok (.enter f args) (W x))
    (hc : ∀ x, Calls P f args (W x) fun e w' => e = .returned v ∧ Grow (W x) w') (h2 : ∀ K : Act → Prop, (∀ a, wpStill P ops W Qa rest a → K a) → K (a.put o.dst v)) : wpStill P ops W Qa (i :: rest) a :=
  still_step ho fun K hK => by
    rw [if_pos hw]
    exact ⟨v, fun x => by rw [h x]; exact ⟨rfl, hc x⟩, h2 K hK⟩
theorem still_skip (ho : ops[i]? = some o) (hw : Region.wanted o (yielded ops a.tmps) = false) (h2 : ∀ K : Act → Prop, (∀ a, wpStill P ops W Qa rest a → K a) → K (a.put o.dst undef)) : wpStill P ops W Qa (i :: rest) a :=
  still_step ho fun K hK => by
    rw [if_neg (by rw [hw]; decide)]
    exact h2 K hK
/-- Some that are all passed by, at once. -/
def putUndef (ops : Array Oper) : List Nat → Act → Act
  | [], a => a
  | i :: l, a => putUndef ops l (a.put (slotAt ops i) undef)
def skipsAll (ops : Array Oper) (g : Nat) (b : Bool) (l : List Nat) : Bool := l.all fun i => ((ops[i]?).map fun o => o.guard == some (g, !b)).getD false && !(slotAt ops i == slotAt ops g)
theorem still_skips (g : Nat) (b : Bool) (d : Tmp) (hg : slotAt ops g = some d) : ∀ (l : List Nat) (a : Act), skipsAll ops g b l = true → a.tmps[d]? = some (.bool b) → wpStill P ops W Qa rest (putUndef ops l a) → wpStill P ops W Qa (l ++ rest) a
  | [], _, _, _, h => h
  | i :: l, a, hs, hv, h => by
    simp only [skipsAll, List.all_cons, Bool.and_eq_true, Bool.not_eq_true'] at hs
    obtain ⟨⟨h1, h2⟩, h3⟩ := hs
    cases ho : ops[i]? with
    | none => rw [ho] at h1; cases h1
    | some o =>
      rw [ho] at h1
      have hgd : o.guard = some (g, !b) := by simpa using h1
      have hsl : slotAt ops i = o.dst := by unfold slotAt; rw [ho]; rfl
      refine still_skip ho ?_ (fun K hK => hK _ ?_)
      · have hg' : (ops[g]?).bind (·.dst) = some d := hg
        unfold Region.wanted
        rw [hgd]
        simp only [yielded, hg', Option.bind_some, hv]
        cases b <;> rfl
      · refine still_skips g b d hg l _ (by unfold skipsAll; exact h3) ?_ (by rw [← hsl]; exact h)
        rw [put_get, if_neg]
        · exact hv
        · rintro ⟨e, _⟩
          rw [hsl, e, hg] at h2
          simp at h2
theorem turn_on {t : Nat} {full : Bool} {S K : World → Prop} {next : (World → Prop) → (World → Prop) → Act → Prop} (ho : ops[t]? = some o) (hw : Region.wanted o (yielded ops a.tmps) = true) (K' S' : Value → World → Prop)
    (kc : ∀ v w w', K' v w → Grow w w' → K' v w') (ks : ∀ v w, K' v w → S' v w) (hf : full = true ∨ ∀ v w, S' v w → S w)
    (hwp : ∀ w, K w → wpList P ops (fun ex a'' w' => ex = .normal ∧ ∃ v, a'' = a.put o.dst v ∧ K' v w') [o] a w)
    (hn : ∀ v, (∃ w, K' v w) → ∀ X : Act → Prop, (∀ a, next (S' v) (K' v) a → X a) → X (a.put o.dst v)) : TurnAt P ops t full S K next a := by
  unfold TurnAt
  rw [ho]
  simp only [hw, if_true]
  refine ⟨K', S', kc, ks, hf, fun w hK => ?_, fun v hv => hn v hv _ (fun _ h => h)⟩
  have h := hwp w hK
  unfold wpList at h
  rw [if_pos hw] at h
  rcases h with h | ⟨_, a', w', h, _⟩
  · unfold Oper.wp at *
    generalize (execOp a.eval o).run P w = r at *
    cases r with
    | halt x w' => cases x <;> simp only [Oper.upon] at h <;> first | exact h | (exact absurd h.1 (by simp))
    | ok n w' =>
      cases n <;> simp only [Oper.upon] at h ⊢ <;> first
        | exact h.2
        | exact Calls.mono h (fun e w'' he => by
            cases e with
            | returned v => exact he.2
            | panicked c => exact absurd he.1 (by simp)
            | outgrown => obtain ⟨_, _, he, _⟩ := he; cases he)
        | exact Rows.mono h (fun _ _ he => he.2)
        | exact h
  · cases h
/-- A call that turns memory, or makes some. -/
theorem turn_call {t : Nat} {full : Bool} {S K : World → Prop} {next : (World → Prop) → (World → Prop) → Act → Prop} (ho : ops[t]? = some o) (hw : Region.wanted o (yielded ops a.tmps) = true) (K' S' : Value → World → Prop)
    (kc : ∀ v w w', K' v w → Grow w w' → K' v w') (ks : ∀ v w, K' v w → S' v w) (hf : full = true ∨ ∀ v w, S' v w → S w) (f : FuncId) (args : Array Value)
    (hr : ∀ w, (execOp a.eval o).run P w = .ok (.enter f args) w) (hc : ∀ w, K w → Calls P f args w fun e w' => ∃ v, e = .returned v ∧ K' v w')
    (hn : ∀ v, (∃ w, K' v w) → ∀ X : Act → Prop, (∀ a, next (S' v) (K' v) a → X a) → X (a.put o.dst v)) : TurnAt P ops t full S K next a := by
  unfold TurnAt
  rw [ho]
  simp only [hw, if_true]
  refine ⟨K', S', kc, ks, hf, fun w hK => ?_, fun v hv => hn v hv _ (fun _ h => h)⟩
  unfold Oper.wp
  rw [hr w, Oper.upon_enter]
  refine (hc w hK).mono fun e w'' hh => ?_
  obtain ⟨v, rfl, hk⟩ := hh
  exact ⟨v, rfl, hk⟩
/-- One that turns memory, by what it runs to. -/
theorem turn_run {t : Nat} {full : Bool} {S K : World → Prop} {next : (World → Prop) → (World → Prop) → Act → Prop} (ho : ops[t]? = some o) (hw : Region.wanted o (yielded ops a.tmps) = true) (K' S' : Value → World → Prop)
    (kc : ∀ v w w', K' v w → Grow w w' → K' v w') (ks : ∀ v w, K' v w → S' v w) (hf : full = true ∨ ∀ v w, S' v w → S w)
    (hr : ∀ w, K w → ∃ v w', ((execOp a.eval o).run P w = .ok (.value v) w' ∨ ((execOp a.eval o).run P w = .ok .skip w' ∧ v = undef)) ∧ K' v w')
    (hn : ∀ v, (∃ w, K' v w) → ∀ X : Act → Prop, (∀ a, next (S' v) (K' v) a → X a) → X (a.put o.dst v)) : TurnAt P ops t full S K next a := by
  unfold TurnAt
  rw [ho]
  simp only [hw, if_true]
  refine ⟨K', S', kc, ks, hf, fun w hK => ?_, fun v hv => hn v hv _ (fun _ h => h)⟩
  obtain ⟨v, w', h, hk⟩ := hr w hK
  unfold Oper.wp
  rcases h with h | ⟨h, rfl⟩
  · rw [h]; exact ⟨v, rfl, hk⟩
  · rw [h]; exact ⟨undef, rfl, hk⟩
theorem turn_off {t : Nat} {full : Bool} {S K : World → Prop} {next : (World → Prop) → (World → Prop) → Act → Prop} (ho : ops[t]? = some o) (hw : Region.wanted o (yielded ops a.tmps) = false) 
    (hn : ∀ X : Act → Prop, (∀ a, next S K a → X a) → X (a.put o.dst undef)) : TurnAt P ops t full S K next a := by
  unfold TurnAt
  rw [ho]
  simp only [hw]
  exact hn _ (fun _ h => h)
end
end
end Go.Proofs.Ytmlklmhochihbaa
/- The reference's bytes: Same, Copy, Lent, Kept. -/
namespace Go.Proofs.Ytmlklmhochihbaa
open Go.RowKit

theorem u8info : (Try.prog.info? 5).map (fun i => (i.zero, i.size, i.bytes)) = some (some (.int .u8 0), 1, 1) := by kernel_rfl

theorem take_next' (l : List Nat) (k : Nat) (h : k < l.length) : l.take (k + 1) = l.take k ++ [l.getD k 0] := by
  rw [List.take_succ_eq_append_getElem h]; simp [List.getD, List.getElem?_eq_getElem h]
theorem getD_of_eq {l m : List Nat} (h : l = m) (i : Nat) : l.getD i 0 = m.getD i 0 := by rw [h]
theorem eq_of_getD {l m : List Nat} {n : Nat} (h1 : l.length = n) (h2 : m.length = n) (h : l.take n = m.take n) : l = m := by
  rw [List.take_of_length_le (by omega), List.take_of_length_le (by omega)] at h; exact h

theorem same_lens (a0 a1 : Option Addr) (n m c0 c1 : Nat) (h : n ≠ m) (w : World) :
    Calls Try.prog 19 #[.slice a0 n c0, .slice a1 m c1] w fun e w' => e = .returned (.bool false) ∧ w' = w := by
  have h' : ¬ ((n : Int) = (m : Int)) := by omega
  go_enter Try.func19, Try.ntmps19
  go_wp2
  go_ret
  exact ⟨rfl, rfl⟩
theorem same_none (a0 a1 : Option Addr) (c0 c1 : Nat) (w : World) :
    Calls Try.prog 19 #[.slice a0 0 c0, .slice a1 0 c1] w fun e w' => e = .returned (.bool true) ∧ w' = w := by
  go_enter Try.func19, Try.ntmps19
  go_wp2
  refine wp_loop_rounds 1 ?_
  rw [rounds_succ]
  go_wp2
  go_ret
  exact ⟨rfl, rfl⟩
theorem same_some (b0 o0 c0 b1 o1 c1 n : Nat) (xs ys : List Nat) (w : World) (hx : xs.length = n) (hy : ys.length = n) (hn : n ≤ 281474976710656)
    (hc0 : ∀ i, i < n → w.cell? ⟨b0, o0 + i, none⟩ = some (.int .u8 (xs.getD i 0 : Nat))) (hc1 : ∀ i, i < n → w.cell? ⟨b1, o1 + i, none⟩ = some (.int .u8 (ys.getD i 0 : Nat))) :
    Calls Try.prog 19 #[.slice (some ⟨b0, o0, none⟩) n c0, .slice (some ⟨b1, o1, none⟩) n c1] w fun e w' => e = .returned (.bool (decide (xs = ys))) ∧ ∃ d, w' = w.drewN d := by
  have HX : Hid (xs.length = n) := hx
  have HY : Hid (ys.length = n) := hy
  have H0 : Hid (∀ i, i < n → w.cell? ⟨b0, o0 + i, none⟩ = some (.int .u8 (xs.getD i 0 : Nat))) := hc0
  have H1 : Hid (∀ i, i < n → w.cell? ⟨b1, o1 + i, none⟩ = some (.int .u8 (ys.getD i 0 : Nat))) := hc1
  clear hx hy hc0 hc1
  go_enter Try.func19, Try.ntmps19
  go_wp2
  go_loopw [5] (fun i wr => ∃ k d : Nat, k ≤ n ∧ i = .int .i64 k ∧ xs.take k = ys.take k ∧ wr = w.drewN d) (fun i _ => n - (intOf i).toNat)
  case atStart => exact ⟨0, 0, Nat.zero_le _, rfl, rfl, rfl⟩
  case round =>
    obtain ⟨k, d, hk, rfl, hr, rfl⟩ := hrel
    have HR : Hid (xs.take k = ys.take k) := hr
    clear hr
    by_cases hlt : k < n
    · obtain ⟨x, hx⟩ : ∃ x, xs.getD k 0 = x := ⟨_, rfl⟩
      obtain ⟨y, hy⟩ : ∃ y, ys.getD k 0 = y := ⟨_, rfl⟩
      have f0 : w.cell? ⟨b0, o0 + k, none⟩ = some (.int .u8 (x : Nat)) := by rw [← hx]; exact H0.out k hlt
      have f1 : w.cell? ⟨b1, o1 + k, none⟩ = some (.int .u8 (y : Nat)) := by rw [← hy]; exact H1.out k hlt
      by_cases hxy : x = y
      · have HS : Hid (xs.take (k + 1) = ys.take (k + 1)) := by
          show _ = _
          rw [take_next' xs k (by rw [HX.out]; exact hlt), take_next' ys k (by rw [HY.out]; exact hlt), hx, hy, HR.out, hxy]
        clear hx hy
        subst hxy
        go_wp2
        go_quiet (fail)
        go_wp2
        go_roundw
        case rel => exact ⟨k + 1, _, by omega, by go_num, HS.out, rfl⟩
        case measure => simp [intOf]; omega
      · have hd : decide (xs = ys) = false := by
          rw [decide_eq_false_iff_not]
          intro e; exact hxy (by rw [← hx, ← hy, getD_of_eq e])
        have hxy' : ¬ ((x : Int) = (y : Int)) := by omega
        clear hx hy
        go_wp2
        go_quiet (fail)
        go_wp2
        go_ret
        exact ⟨by rw [hd]; rfl, _, World.drewN_drewN _ _ _⟩
    · have hd : decide (xs = ys) = true := by
        rw [decide_eq_true_iff]
        exact eq_of_getD HX.out HY.out (by have : k = n := by omega
                                           rw [← this]; exact HR.out)
      go_wp2
      go_ret
      exact ⟨by rw [hd]; rfl, _, rfl⟩
theorem same_any {v u : Value} {xs ys : List Nat} {w : World} (hv : Bs w v xs) (hu : Bs w u ys) :
    Calls Try.prog 19 #[v, u] w fun e w' => e = .returned (.bool (decide (xs = ys))) ∧ ∃ d, w' = w.drewN d := by
  have sh : ∀ {v : Value} {zs : List Nat}, Bs w v zs → ∃ ao cap, v = .slice ao zs.length cap := by
    rintro v zs ⟨_, _, ⟨rfl, rfl | ⟨a, cap, rfl⟩⟩ | ⟨_, b, off, cap, rfl, _⟩⟩
    · exact ⟨_, _, rfl⟩
    · exact ⟨_, _, rfl⟩
    · exact ⟨_, _, rfl⟩
  by_cases hl : xs.length = ys.length
  · obtain ⟨_, l1, c1⟩ := hv
    obtain ⟨_, l2, c2⟩ := hu
    rcases c1 with ⟨rfl, hc⟩ | ⟨h1, b, off, cap, rfl, _, _, f1⟩
    · have : ys = [] := List.eq_nil_of_length_eq_zero (by rw [← hl]; rfl)
      subst this
      obtain ⟨a0, c0, rfl⟩ : ∃ ao cap, v = .slice ao 0 cap := by rcases hc with rfl | ⟨a, cap, rfl⟩ <;> exact ⟨_, _, rfl⟩
      rcases c2 with ⟨_, hc⟩ | ⟨h2, _⟩
      · obtain ⟨a1, c1, rfl⟩ : ∃ ao cap, u = .slice ao 0 cap := by rcases hc with rfl | ⟨a, cap, rfl⟩ <;> exact ⟨_, _, rfl⟩
        exact (same_none a0 a1 c0 c1 w).mono fun e w' h => ⟨by simpa using h.1, 0, h.2⟩
      · simp at h2
    · rcases c2 with ⟨rfl, _⟩ | ⟨_, b2, off2, cap2, rfl, _, _, f2⟩
      · exfalso; rw [hl] at h1; exact Nat.lt_irrefl 0 h1
      · rw [← hl] at f2 ⊢
        exact same_some _ _ _ _ _ _ _ xs ys w rfl hl.symm l1 f1 f2
  · obtain ⟨a0, c0, rfl⟩ := sh hv
    obtain ⟨a1, c1, rfl⟩ := sh hu
    have hne : xs ≠ ys := fun e => hl (by rw [e])
    rw [decide_eq_false hne]
    exact (same_lens _ _ _ _ _ _ hl w).mono fun e w' h => ⟨h.1, 0, h.2⟩
theorem cell_new (w : World) (v : Value) (T : TypeId) : ∀ j u, [v][j]? = some u → (w.alloc (.cells #[v] T)).cell? ((⟨w.heap.size, 0, none⟩ : Addr).add j) = some u := by
  intro j u h
  rcases j with _ | j
  · simp at h; subst h; simp [go_sem]
  · simp at h
theorem cell_new3 (w : World) (x y z : Nat) (T : TypeId) : ∀ j u, (u8s [x, y, z])[j]? = some u → (w.alloc (.cells #[.int .u8 (x : Nat), .int .u8 (y : Nat), .int .u8 (z : Nat)] T)).cell? ((⟨w.heap.size, 0, none⟩ : Addr).add j) = some u := by
  intro j u h
  match j, h with
  | 0, h => simp [u8s] at h; subst h; simp [go_sem, Addr.add]
  | 1, h => simp [u8s] at h; subst h; simp [go_sem, Addr.add]
  | 2, h => simp [u8s] at h; subst h; simp [go_sem, Addr.add]
  | j + 3, h => simp [u8s] at h
/-- One byte more behind own bytes. -/
theorem Ow.push {w w' : World} {base : Nat} {v : Value} {zs : List Nat} {y : Nat} (h : Ow w base v zs) (hy : y < 256) (hl : zs.length + 1 ≤ 281474976710656) {v' : Value} (h' : w'.ownsRow base 5 1 v' (zs.length + 1) (u8s zs ++ [.int .u8 (y : Nat)])) : Ow w' base v' (zs ++ [y]) := by
  refine ⟨?_, by simpa using hl, ?_⟩
  · intro z hz
    rcases List.mem_append.1 hz with hz | hz
    · exact h.lt z hz
    · simp at hz; subst hz; exact hy
  · have e : u8s (zs ++ [y]) = u8s zs ++ [.int .u8 (y : Nat)] := by simp [u8s]
    rw [e, List.length_append]; exact h'
theorem Ow.alloc {w : World} {base : Nat} {v : Value} {zs : List Nat} (h : Ow w base v zs) (o : Obj) : Ow (w.alloc o) base v zs := ⟨h.lt, h.len, h.own.alloc o⟩

theorem copy_any {v : Value} {xs : List Nat} {w : World} (hv : Bs w v xs) (hl : xs.length ≤ 140737488355328) :
    Calls Try.prog 33 #[v] w fun e w' => ∃ v', e = .returned v' ∧ Ow w' w.heap.size v' xs ∧ Below w.heap.size w w' := by
  obtain ⟨i0, hi, hz0, hz1, hz2⟩ := info_parts u8info
  obtain ⟨hb, _, hcase⟩ := hv
  rcases hcase with ⟨rfl, hc⟩ | ⟨h0, b, off, cap, rfl, hcap, hblk, hcell⟩
  · obtain ⟨a0, c0, rfl⟩ : ∃ ao cap, v = .slice ao 0 cap := by rcases hc with rfl | ⟨a, cap, rfl⟩ <;> exact ⟨_, _, rfl⟩
    clear hc
    go_enter Try.func33, Try.ntmps33
    go_wp2_with (at_make; refine wpList_make_own _ rfl _ _ 31 rfl w.heap.size 5 i0 (.int .u8 0) 1 Try.underlying31 hi hz0 hz1 .i64 .i64 0 0 rfl rfl rfl (by simp) (by decide) (Nat.le_refl _) ?_; intro w1 hown hgrow)
    refine wp_loop_rounds 1 ?_
    rw [rounds_succ]
    go_wp2
    go_ret
    exact ⟨_, rfl, ⟨by simp, by simp, by assumption⟩, (Below.refl _ _).grown (by assumption) (Nat.le_refl _) (by simp)⟩
  · obtain ⟨n, hn⟩ : ∃ n, xs.length = n := ⟨_, rfl⟩
    rw [hn] at hl h0 hcap hcell ⊢
    have HN : Hid (xs.length = n) := hn
    have HC : Hid (∀ i, i < n → w.cell? ⟨b, off + i, none⟩ = some (.int .u8 (xs.getD i 0 : Nat))) := hcell
    have HB : Hid (∀ z ∈ xs, z < 256) := hb
    clear hn hcell hb
    go_enter Try.func33, Try.ntmps33
    go_wp2_with (at_make; refine wpList_make_own _ rfl _ _ 31 rfl w.heap.size 5 i0 (.int .u8 0) 1 Try.underlying31 hi hz0 hz1 .i64 .i64 _ n rfl rfl rfl (by rw [hz2]; omega) (by unfold maxLen; omega) (Nat.le_refl _) ?_; intro w1 hown hgrow)
    go_loopw [3, 4] (fun o i wr => ∃ k : Nat, k ≤ n ∧ i = .int .i64 k ∧ Ow wr w.heap.size o (xs.take k) ∧ Below w.heap.size w wr) (fun _ i _ => n - (intOf i).toNat)
    case atStart => exact ⟨0, Nat.zero_le _, rfl, ⟨by simp, by simp, by simpa using hown⟩, (Below.refl _ _).grown hgrow (Nat.le_refl _) (by simp)⟩
    case round =>
      obtain ⟨k, hk, rfl, ho, hbel⟩ := hrel
      have hsz := hbel.size
      by_cases hlt : k < n
      · obtain ⟨y, hy⟩ : ∃ y, xs.getD k 0 = y := ⟨_, rfl⟩
        have hkl : k < xs.length := by rw [HN.out]; exact hlt
        have HT : Hid (xs.take (k + 1) = xs.take k ++ [y]) := by rw [← hy]; exact take_next' xs k hkl
        have f : wr.cell? ⟨b, off + k, none⟩ = some (.int .u8 (y : Nat)) := by rw [← hy]; exact (hbel.cell (by exact hblk)).trans (HC.out k hlt)
        have hy1 : y < 256 := by rw [← hy]; exact HB.out _ (getD_mem xs k hkl)
        clear hy
        have hlk : (xs.take k).length = k := by rw [List.length_take]; omega
        have HO : Hid (Ow wr w.heap.size u3 (xs.take k)) := ho
        have HR : Hid (wr.ownsRow w.heap.size 5 1 u3 k (u8s (xs.take k))) := by have := ho.own; rw [hlk] at this; exact this
        clear ho
        go_wp2_with (at_builtin; refine wpList_append_own _ rfl _ _ 31 rfl w.heap.size 5 i0 (.int .u8 0) 1 1 Try.underlying31 hi hz0 hz1 hz2 rfl (by decide) _ _ _ rfl (HR.out.alloc _) ⟨wr.heap.size, 0, none⟩ 1 1 [.int .u8 (y : Nat)] rfl rfl (cell_new _ _ _) (by intro u hu; simp at hu; subst hu; rfl) (by unfold maxLen; omega) (by omega) (by simp; omega) ?_; intro v' w2 hown' hgrow' hnil')
        go_roundw
        case rel =>
          refine ⟨k + 1, by omega, by go_num, ?_, (hbel.alloc hsz _).grown (by assumption) (by simp; omega) (fun j hj => (HO.out.ge j hj).1)⟩
          rw [HT.out]
          exact HO.out.push hy1 (by rw [hlk]; omega) (by rw [hlk]; assumption)
        case measure => simp [intOf]; omega
      · have hkn : k = n := by omega
        subst hkn
        rw [List.take_of_length_le (by rw [HN.out]; omega)] at ho
        go_wp2
        go_ret
        exact ⟨_, rfl, ho, hbel⟩

theorem Bs.gen {w : World} {v : Value} {xs : List Nat} (h : Bs w v xs) : ∃ ao cap, v = .slice ao xs.length cap ∧ (ao = none → xs.length = 0 ∧ cap = 0) ∧
    ∀ ad, ao = some ad → ∀ j u, (u8s xs)[j]? = some u → w.cell? (ad.add j) = some u := by
  obtain ⟨_, _, ⟨rfl, rfl | ⟨a, cap, rfl⟩⟩ | ⟨h0, b, off, cap, rfl, hcap, _, hc⟩⟩ := h
  · exact ⟨none, 0, rfl, fun _ => ⟨rfl, rfl⟩, fun ad h => by cases h⟩
  · exact ⟨some a, cap, rfl, fun h => (by cases h), fun ad _ j u h => by simp [u8s] at h⟩
  · refine ⟨_, _, rfl, fun h => (by cases h), ?_⟩
    rintro ad ⟨⟩ j u hj
    have hjl : j < xs.length := by
      have := (List.getElem?_eq_some_iff.1 hj).1
      simpa [u8s] using this
    rw [u8s_get xs j hjl] at hj
    have e : (⟨b, off, none⟩ : Addr).add j = ⟨b, off + j, none⟩ := by simp [Addr.add]
    rw [e, hc j hjl]; exact hj
theorem Bs.cells {w : World} {ao : Option Addr} {n cap : Nat} {xs : List Nat} (h : Bs w (.slice ao n cap) xs) : ∀ ad, ao = some ad → ∀ j u, (u8s xs)[j]? = some u → w.cell? (ad.add j) = some u := by
  obtain ⟨ao', cap', e, _, h3⟩ := h.gen
  simp only [Value.slice.injEq] at e
  obtain ⟨rfl, _, _⟩ := e
  exact h3
theorem Bs.grown {w w' : World} {row : Option Nat} {v : Value} {xs : List Nat} (h : Bs w v xs) (hg : w.grownBy w' row) (hr : ∀ k, row = some k → v.ownBlock ≠ some k) : Bs w' v xs :=
  h.keep hg.size fun k e hk => hg.block k hk (fun e' => hr k e'.symm e)
theorem u8s_append (xs ys : List Nat) : u8s (xs ++ ys) = u8s xs ++ u8s ys := by simp [u8s]


end Go.Proofs.Ytmlklmhochihbaa
/- Bytes copied into a row; a slice of bytes cut at its front. -/
namespace Go.Proofs.Ytmlklmhochihbaa
open Go.RowKit

/-- Bytes copied into a row. -/
theorem run_copy_blk {w : World} {g off dLen dCap sCap b so n : Nat} {t : TypeId} {A old B : List Value} {ys : List Nat} (ty : TypeId) (hb : Blk w g t (A ++ old ++ B)) (hA : A.length = off) (hold : old.length = n)
    (hn : n = Nat.min ys.length dLen) (hc : ∀ i, i < ys.length → w.cell? ⟨b, so + i, none⟩ = some (.int .u8 (ys.getD i 0 : Nat))) :
    (Builtin.copy_ #[31, 31] ty #[.slice (some ⟨g, off, none⟩) dLen dCap, .slice (some ⟨b, so, none⟩) ys.length sCap]).run Try.prog w = .ok (.int .i64 (n : Int)) (w.setRow g (A ++ u8s (ys.take n) ++ B).toArray) := by
  have hle : n ≤ ys.length := by rw [hn]; exact Nat.min_le_left _ _
  have hlen : (u8s (ys.take n)).length = n := by simp [u8s]; omega
  have hsz : (Try.prog.info? 5).map (·.size) = some 1 := by kernel_rfl
  have hr := run_copy_row (P := Try.prog) w 31 31 ty 5 g off dLen dCap ⟨b, so, none⟩ ys.length sCap _ t (u8s (ys.take n)) Try.underlying31 hsz hb (by rw [hlen]; exact hn)
    (by
      intro j v hv
      have hj : j < n := by have := (List.getElem?_eq_some_iff.1 hv).1; omega
      have e : (⟨b, so, none⟩ : Addr).add j = ⟨b, so + j, none⟩ := by simp [Addr.add]
      rw [e, hc j (by omega), ← hv, u8s_get _ j (by simp; omega)]
      simp [List.getD, hj]) (by rw [hlen]; simp; omega) (u8s_one _)
  have e : (A ++ old ++ B).toArray.toList.take off ++ u8s (ys.take n) ++ (A ++ old ++ B).toArray.toList.drop (off + (u8s (ys.take n)).length) = A ++ u8s (ys.take n) ++ B := by
    subst hA
    rw [hlen, ← hold]
    simp [List.drop_append]
  rw [e, hlen] at hr
  exact hr
theorem Bs.cut {w : World} {b so m cap n : Nat} {ys : List Nat} (h : Bs w (.slice (some ⟨b, so, none⟩) m cap) ys) (hm : ys.length = m) (h0 : 0 < m) (hn : n ≤ m) (hc : m ≤ cap) :
    ∃ p', (∀ w0 : World, (Instr.sliceAt 31 (.slice (some ⟨b, so, none⟩) m cap) (some (.int .i64 (n : Int))) none none).run Try.prog w0 = .ok p' w0) ∧ Bs w p' (ys.drop n) ∧ p'.ownBlock = some b ∧ ∃ so' cap', p' = .slice (some ⟨b, so', none⟩) (m - n) cap' := by
  have hu : Try.prog.underlying 31 = some (.slice (Try.prog.elem 31)) := by kernel_rfl
  have he : Try.prog.elem 31 = 5 := by kernel_rfl
  have hs : ∀ w0 : World, (sizeOf 5).run Try.prog w0 = .ok 1 w0 := fun w0 => by kernel_rfl
  obtain ⟨h1, h2, ⟨rfl, _⟩ | ⟨h3, b', so1, cap', e, hcap, hb, hcell⟩⟩ := h
  · simp at hm; omega
  simp only [Value.slice.injEq, Option.some.injEq, Addr.mk.injEq, and_true] at e
  obtain ⟨⟨rfl, rfl⟩, _, rfl⟩ := e
  refine ⟨.slice (some (if cap = n then ⟨b, so, none⟩ else ⟨b, so + n, none⟩)) (m - n) (cap - n), ?_, ?_, ?_, ?_⟩
  · intro w0
    rw [run_sliceAt_slice _ _ _ _ _ _ hu, run_slice_l w0 _ _ _ _ hu .i64 (n : Int) (by omega) (by omega), he, hs]
    by_cases hcn : cap = n <;> simp [Result.andThen, sliced, hcn, Addr.add]
  · refine ⟨fun z hz => h1 z (List.mem_of_mem_drop hz), by simp; omega, ?_⟩
    by_cases hmn : m = n
    · left
      refine ⟨by rw [List.drop_eq_nil_iff]; omega, .inr ⟨_, cap - n, by rw [hmn, Nat.sub_self]⟩⟩
    · right
      have hcn : ¬ cap = n := by omega
      refine ⟨by simp; omega, b, so + n, cap - n, by simp [hcn, hm], by simp; omega, hb, fun i hi => ?_⟩
      have hi' : n + i < ys.length := by simp at hi; omega
      have := hcell (n + i) hi'
      rw [Nat.add_assoc, this]
      simp [List.getD]
  · by_cases hcn : cap = n <;> simp [Value.ownBlock, hcn]
  · by_cases hcn : cap = n
    · exact ⟨so, cap - n, by simp [hcn]⟩
    · exact ⟨so + n, cap - n, by simp [hcn]⟩
theorem Bs.front {w : World} {ao : Option Addr} {l cap n : Nat} {zs : List Nat} (h : Bs w (.slice ao l cap) zs) (hn : n ≤ zs.length) (hao : ao = none → cap = 0) : Bs w (.slice ao n cap) (zs.take n) := by
  obtain ⟨h1, h2, h3⟩ := h
  refine ⟨fun z hz => h1 z (List.mem_of_mem_take hz), by rw [List.length_take]; omega, ?_⟩
  by_cases h0 : n = 0
  · subst h0
    refine .inl ⟨rfl, ?_⟩
    cases ao with
    | none => rw [hao rfl]; exact .inl rfl
    | some a => exact .inr ⟨a, cap, rfl⟩
  · rcases h3 with ⟨rfl, _⟩ | ⟨_, b, off, cap', e, hcap, hb, hc⟩
    · simp at hn; omega
    · simp only [Value.slice.injEq] at e
      obtain ⟨rfl, _, rfl⟩ := e
      have hl : (zs.take n).length = n := by rw [List.length_take]; omega
      refine .inr ⟨by omega, b, off, cap, by rw [hl], by omega, hb, fun i hi => ?_⟩
      rw [hl] at hi
      rw [hc i (by omega)]
      simp [List.getD, hi]
end Go.Proofs.Ytmlklmhochihbaa
/- bytes.Clone, bytes.Equal; rows made of literals. -/
namespace Go.Proofs.Ytmlklmhochihbaa
open Go.RowKit

theorem nil_eql (w : World) (ao : Option Addr) (n cap : Nat) : Sem.run Try.prog (binOp .eql 31 (.slice ao n cap) (.slice none 0 0)) w = .ok (.bool ao.isNone) w := by
  have h := run_equal_slice_nil (P := Try.prog) w 31 5 ao n cap Try.underlying31
  simp [binOp, h]

theorem clone_any {v : Value} {xs : List Nat} {w : World} (hv : Bs w v xs) (hl : xs.length ≤ 140737488355328) :
    Calls Try.prog 46 #[v] w fun e w' => ∃ v', e = .returned v' ∧ Ow w' w.heap.size v' xs ∧ Below w.heap.size w w' := by
  obtain ⟨i0, hi, hz0, hz1, hz2⟩ := info_parts u8info
  have HV : Hid (Bs w v xs) := hv
  obtain ⟨ao, cap, rfl, hnone, _⟩ := hv.gen
  clear hv
  cases ao with
  | none =>
    obtain ⟨h0, rfl⟩ := hnone rfl
    have := List.eq_nil_of_length_eq_zero h0
    subst this
    clear hnone
    simp only [List.length_nil]
    have hn0 := nil_eql w none 0 0
    go_enter Try.func46, Try.ntmps46
    go_wp2
    go_ret
    exact ⟨_, rfl, Ow.nil _ _, Below.refl _ _⟩
  | some ad =>
    obtain ⟨n, hn⟩ : ∃ n, xs.length = n := ⟨_, rfl⟩
    have HN : Hid (xs.length = n) := hn
    have hlit : (w.alloc (.cells #[] 5)).ownsRow w.heap.size 5 1 (.slice (some ⟨w.heap.size, 0, none⟩) 0 0) 0 [] := by
      have := World.ownsRow_lit (base := w.heap.size) (size := 1) (e := 5) w #[] 0 (Nat.le_refl _) (by decide) rfl
      simpa using this
    have hb0 : Below w.heap.size w (w.alloc (.cells #[] 5)) := (Below.refl _ _).alloc (Nat.le_refl _) _
    rw [hn] at hl ⊢
    clear hn hnone
    have hn0 := nil_eql w (some ad) n cap
    go_enter Try.func46, Try.ntmps46
    go_wp2_with (at_builtin; refine wpList_append_own _ rfl _ _ 31 rfl w.heap.size 5 i0 (.int .u8 0) 1 1 Try.underlying31 hi hz0 hz1 hz2 rfl (by decide) _ _ _ rfl hlit ad n cap (u8s xs) rfl (by simp [u8s]; exact HN.out) ((HV.out.below hb0).cells ad rfl) (u8s_one xs) (by unfold maxLen; omega) (by omega) (by simp) ?_; intro v' w2 hown' hgrow' hnil')
    go_ret
    refine ⟨_, rfl, ⟨HV.out.1, HV.out.2.1, ?_⟩, ?_⟩
    · rw [HN.out]; simpa using hown'
    · exact hb0.grown hgrow' (by simp) (fun k hk => by have hk' : some w.heap.size = some k := hk; cases hk'; exact Nat.le_refl _)


/-- A row made of some values. -/
theorem run_rowlit {t e : TypeId} {s : Nat} {z : Value} {ie : TypeInfo} (w : World) (hu : Try.prog.underlying t = some (.slice e)) (hie : Try.prog.info? e = some ie) (hz : ie.zero = some z) (hsz : ie.size = s) (hs : 0 < s) (vs : List Value) (hv : ∀ v ∈ vs, v.cells.size = s) (h0 : 0 < vs.length) (hl : vs.length * s ≤ 16777216)
    (parts : Array (Nat × Value)) (hp : parts.toList = (vs.zipIdx 0).map fun x => (x.2, x.1)) :
    (Instr.buildSlice t vs.length parts).run Try.prog w = .ok (.slice (some ⟨w.heap.size, 0, none⟩) vs.length vs.length) (w.alloc (.cells (vs.flatMap fun v => v.cells.toList).toArray e)) := by
  subst hsz
  have h1 : ¬ vs.length * ie.size > 2 ^ 24 := by
    have : (2 : Nat) ^ 24 = 16777216 := by decide
    omega
  have h2 : ¬ vs.length * ie.size = 0 := by
    have := Nat.mul_pos h0 hs
    omega
  refine run_buildSlice w t e vs.length parts _ ie z hu hie hz h1 h2 ?_
  rw [hp]
  exact Great.fill_whole hs vs _ hv (by simp)
end Go.Proofs.Ytmlklmhochihbaa
/- General: own rows, tags of blocks, single operations. -/
namespace Go.Proofs.Ytmlklmhochihbaa
open Go.RowKit

theorem ownsRow_but {R : Nat → Prop} {w w' : World} {base e s n : Nat} {v : Value} {xs : List Value} (h : w.ownsRow base e s v n xs) (k : But R w w') (hr : ∀ j, v.ownBlock = some j → ¬ R j) : w'.ownsRow base e s v n xs := by
  obtain ⟨h1, h2 | ⟨g, cap, cur, rfl, hg, hh, r⟩⟩ := h
  · exact ⟨h1, .inl h2⟩
  · exact ⟨h1, .inr ⟨g, cap, cur, rfl, hg, (k.block g (lt_of_block hh) (hr g rfl)).trans hh, r⟩⟩
/-- An own row whose block lies in Fr. -/
structure RowOf (w : World) (Fr : Nat → Prop) (e s : Nat) (v : Value) (n : Nat) (xs : List Value) : Prop where
  own : w.ownsRow 0 e s v n xs
  inF : ∀ k, v.ownBlock = some k → Fr k
theorem RowOf.but {R Fr Fr' : Nat → Prop} {w w' : World} {e s n : Nat} {v : Value} {xs : List Value} (h : RowOf w Fr e s v n xs) (k : But R w w') (hr : ∀ j, Fr j → ¬ R j) (hf : ∀ j, Fr j → Fr' j) : RowOf w' Fr' e s v n xs :=
  ⟨ownsRow_but h.own k (fun j hj => hr j (h.inF j hj)), fun j hj => hf j (h.inF j hj)⟩
theorem RowOf.nil (w : World) (Fr : Nat → Prop) (e s : Nat) : RowOf w Fr e s (.slice none 0 0) 0 [] := ⟨World.ownsRow_nil _ _ _ _, fun k hk => by cases hk⟩
theorem RowOf.shape {w : World} {Fr : Nat → Prop} {e s n : Nat} {v : Value} {xs : List Value} (h : RowOf w Fr e s v n xs) : ∃ ao cap, v = .slice ao n cap ∧ (0 < n → ∃ g, ao = some ⟨g, 0, none⟩ ∧ Fr g ∧ g < w.heap.size ∧ ∀ j u, xs[j]? = some u → w.cell? ⟨g, j, none⟩ = some u) := by
  have hc := h.own
  obtain ⟨⟨h1, ⟨rfl, rfl⟩ | ⟨g, cap, cur, rfl, hg, hh, r⟩⟩, hF⟩ := h
  · exact ⟨none, 0, rfl, fun h => absurd h (by omega)⟩
  · refine ⟨_, cap, rfl, fun _ => ⟨g, rfl, hF g rfl, lt_of_block hh, fun j u hj => ?_⟩⟩
    have := hc.cells (g := g) rfl j u hj
    have e : (⟨g, 0, none⟩ : Addr).add j = ⟨g, j, none⟩ := by simp [Addr.add]; exact fun h => h.symm
    rwa [e] at this

theorem flat_at {α : Type} {f : α → List Value} {s : Nat} : ∀ (L : List α), (∀ e ∈ L, (f e).length = s) → ∀ i e c u, L[i]? = some e → (f e)[c]? = some u → (L.flatMap f)[i * s + c]? = some u
  | [], _, i, e, c, u, h, _ => by simp at h
  | x :: L, hl, i, e, c, u, h, hu => by
    rw [List.flatMap_cons]
    cases i with
    | zero =>
      obtain rfl : x = e := by simpa using h
      rw [Nat.zero_mul, Nat.zero_add, List.getElem?_append_left (List.getElem?_eq_some_iff.1 hu).1]
      exact hu
    | succ i =>
      have hx := hl x List.mem_cons_self
      rw [List.getElem?_append_right (by rw [hx, Nat.succ_mul]; omega), hx]
      have e2 : (i + 1) * s + c - s = i * s + c := by rw [Nat.succ_mul]; omega
      rw [e2]
      exact flat_at L (fun e he => hl e (List.mem_cons_of_mem _ he)) i e c u (by simpa using h) hu
theorem flat_len {α : Type} {f : α → List Value} {s : Nat} : ∀ (L : List α), (∀ e ∈ L, (f e).length = s) → (L.flatMap f).length = L.length * s
  | [], _ => by simp
  | x :: L, hl => by
    rw [List.flatMap_cons, List.length_append, hl x List.mem_cons_self, flat_len L (fun e he => hl e (List.mem_cons_of_mem _ he)), List.length_cons, Nat.succ_mul]; omega

/-- Whose a block is. -/
inductive Tag where
  | none | dev | sto | wri | map | imr | pic
  | row (b : Nat)
  deriving DecidableEq
abbrev Owner := Nat → Tag
def Is (own : Owner) (t : Tag) : Nat → Prop := fun b => own b = t
def tagAt (own : Owner) (g : Nat) (t : Tag) : Owner := fun b => if b = g then t else own b
def Ext (own own' : Owner) : Prop := ∀ b, own b ≠ .none → own' b = own b
theorem Ext.refl (own : Owner) : Ext own own := fun _ _ => rfl
theorem Ext.trans {a b c : Owner} (h : Ext a b) (k : Ext b c) : Ext a c := fun i hi => (k i (by rw [h i hi]; exact hi)).trans (h i hi)
theorem Ext.is {own own' : Owner} (h : Ext own own') {t : Tag} (ht : t ≠ .none) : ∀ b, Is own t b → Is own' t b := fun b hb => (h b (by rw [hb]; exact ht)).trans hb
theorem Ext.tagAt {own : Owner} {g : Nat} {t : Tag} (h : own g = .none ∨ own g = t) : Ext own (tagAt own g t) := fun b hb => by
  unfold Go.Proofs.Ytmlklmhochihbaa.tagAt
  split
  · rename_i e
    subst e
    rcases h with h | h
    · exact absurd h hb
    · exact h.symm
  · rfl
def tagV (own : Owner) (v : Value) (t : Tag) : Owner := match v.ownBlock with | some k => tagAt own k t | none => own
theorem Ext.tagV {own : Owner} {v : Value} {t : Tag} (h : ∀ k, v.ownBlock = some k → own k = .none ∨ own k = t) : Ext own (tagV own v t) := by
  unfold Go.Proofs.Ytmlklmhochihbaa.tagV
  cases hv : v.ownBlock with
  | none => exact Ext.refl _
  | some k => exact Ext.tagAt (h k hv)
theorem tagV_own {own : Owner} {v : Value} {t : Tag} {k : Nat} (h : v.ownBlock = some k) : tagV own v t k = t := by
  unfold tagV; rw [h]; simp [tagAt]
theorem tagAt_own {own : Owner} {g : Nat} {t : Tag} : tagAt own g t g = t := by simp [tagAt]
/-- Only what is new has a new tag. -/
def Fresh (w : World) (own own' : Owner) : Prop := ∀ b, own' b ≠ own b → w.heap.size ≤ b
theorem Fresh.refl (w : World) (own : Owner) : Fresh w own own := fun _ h => absurd rfl h
theorem Fresh.tagAt {w : World} {own own' : Owner} {g : Nat} {t : Tag} (h : Fresh w own own') (hg : w.heap.size ≤ g ∨ own g = t) : Fresh w own (tagAt own' g t) := fun b hb => by
  unfold Go.Proofs.Ytmlklmhochihbaa.tagAt at hb
  split at hb
  · rename_i e
    subst e
    rcases hg with hg | hg
    · exact hg
    · exact absurd hg.symm hb
  · exact h b hb
theorem Fresh.tagV {w : World} {own own' : Owner} {v : Value} {t : Tag} (h : Fresh w own own') (hg : ∀ k, v.ownBlock = some k → w.heap.size ≤ k ∨ own k = t) : Fresh w own (tagV own' v t) := by
  unfold Go.Proofs.Ytmlklmhochihbaa.tagV
  cases hv : v.ownBlock with
  | none => exact h
  | some k => exact h.tagAt (hg k hv)
def Top (w : World) (own : Owner) : Prop := ∀ b, w.heap.size ≤ b → own b = .none
theorem Top.grow {w w' : World} {own : Owner} (h : Top w own) (hs : w.heap.size ≤ w'.heap.size) : Top w' own := fun b hb => h b (Nat.le_trans hs hb)
theorem Top.lt {w : World} {own : Owner} (h : Top w own) {b : Nat} (hb : own b ≠ .none) : b < w.heap.size := by
  by_cases hl : b < w.heap.size
  · exact hl
  · exact absurd (h b (by omega)) hb
theorem Top.tagAt {w : World} {own : Owner} {g : Nat} {t : Tag} (h : Top w own) (hg : g < w.heap.size) : Top w (tagAt own g t) := fun b hb => by
  unfold Go.Proofs.Ytmlklmhochihbaa.tagAt
  rw [if_neg (by omega)]
  exact h b hb
theorem Top.tagV {w : World} {own : Owner} {v : Value} {t : Tag} (h : Top w own) (hg : ∀ k, v.ownBlock = some k → k < w.heap.size) : Top w (tagV own v t) := by
  unfold Go.Proofs.Ytmlklmhochihbaa.tagV
  cases hv : v.ownBlock with
  | none => exact h
  | some k => exact h.tagAt (hg k hv)

/-- Bytes whose memory lies in F. -/
def Bf (w : World) (F : Nat → Prop) (v : Value) (xs : List Nat) : Prop := Bs w v xs ∧ (0 < xs.length → ∀ j, v.ownBlock = some j → F j)
theorem Bf.but {F R : Nat → Prop} {w w' : World} {v : Value} {xs : List Nat} (h : Bf w F v xs) (k : But R w w') (hr : ∀ j, F j → ¬ R j) : Bf w' F v xs := by
  refine ⟨?_, h.2⟩
  by_cases h0 : 0 < xs.length
  · exact h.1.but k (fun j hj _ => hr j (h.2 h0 j hj))
  · obtain ⟨⟨h1, h2, h3 | h3⟩, _⟩ := h
    · exact ⟨h1, h2, .inl h3⟩
    · exact absurd h3.1 h0
theorem But.set1 (w : World) (g i : Nat) (u : Value) : But (· = g) w (w.setCell ⟨g, i, none⟩ u) :=
  But.setCell (R := (· = g)) (p := ⟨g, i, none⟩) (But.refl _ w) (fun _ => rfl) u
section
variable {P : Program} {w w' : World} {o : Oper} {ρ : Operand → Value}
theorem run_load_arr {T : TypeId} {n l : Nat} {e : TypeId} (hu : Try.prog.underlying T = some (.array l e)) (hi : (Try.prog.info? T).map (·.size) = some n) {x : Operand} {ad : Addr} {D : List Nat} (hc : ∀ j u, (u8s D)[j]? = some u → w.cell? (ad.add j) = some u) (hD : D.length = n)
    (ho : o.op = .load T x) (hx : ρ x = .pointer (some ad)) : (execOp ρ o).run Try.prog w = .ok (.value (.agg (u8s D).toArray)) w := by
  have h := run_loadVar_cells w ad T (u8s D) _ hc hu rfl (by rw [hi]; simp [u8s, hD])
  unfold execOp
  simp only [ho, hx, Instr.loadAt, Instr.sureAddr, Sem.run_bind, Sem.run_pure, Result.andThen_ok, h]
theorem exec_lookup {t : TypeId} {m x : Operand} {c : Bool} {vm key r : Value} (ho : o.op = .lookup t m x c) (hm : ρ m = vm) (hx : ρ x = key) (h : (Instr.lookup t vm key c).run P w = .ok r w) : (execOp ρ o).run P w = .ok (.value r) w := by
  simp [execOp, ho, hm, hx, h, Result.andThen]
theorem exec_mapUpdate {t : TypeId} {m x y : Operand} {vm key v : Value} (ho : o.op = .mapUpdate t m x y) (hm : ρ m = vm) (hx : ρ x = key) (hy : ρ y = v) (h : (Instr.mapUpdate t vm key v).run P w = .ok () w') : (execOp ρ o).run P w = .ok .skip w' := by
  simp [execOp, ho, hm, hx, hy, h, Result.andThen]
end
/-- What lies in an own row is appended to. -/
structure Appd (w w' : World) (e s : Nat) (v v' : Value) (n : Nat) (xs : List Value) : Prop where
  own : w'.ownsRow 0 e s v' n xs
  but : But (fun b => v.ownBlock = some b) w w'
  at' : v'.ownBlock = v.ownBlock ∨ v'.ownBlock = some w.heap.size
  lt : ∀ k, v'.ownBlock = some k → k < w'.heap.size
theorem exec_append {w : World} {o : Oper} {ρ : Operand → Value} {t e : TypeId} {s bytes : Nat} {z : Value} (ht : Try.prog.underlying t = some (.slice e)) (hinf : (Try.prog.info? e).map (fun i => (i.zero, i.size, i.bytes)) = some (some z, s, bytes)) (hzs : z.cells.size = s) (hs0 : 0 < s)
    {x y : Operand} (ho : o.op = .call { callee := .builtin .append, args := #[x, y], argTypes := #[t, t] }) {v : Value} {n : Nat} {xs : List Value} (hx : ρ x = v) (hv : w.ownsRow 0 e s v n xs)
    {ad : Addr} {m c : Nat} {news : List Value} (hy : ρ y = .slice (some ad) m c) (hl : news.length = m * s) (hc : ∀ j u, news[j]? = some u → w.cell? (ad.add j) = some u) (h1 : ∀ u ∈ news, u.oneCell' = true) (hn : n + m ≤ 1000000) (hb : bytes ≤ 1000) :
    ∃ v' w', (execOp ρ o).run Try.prog w = .ok (.value v') w' ∧ Appd w w' e s v v' (n + m) (xs ++ news) := by
  obtain ⟨i0, hi, hz0, hz1, hz2⟩ := info_parts hinf
  have hmul : (n + m) * bytes ≤ 1000000 * 1000 := Nat.mul_le_mul hn hb
  obtain ⟨v', w', hr, h2, h3, _, h5⟩ := run_append_own_at (P := Try.prog) w 0 t o.type e i0 z s bytes ht hi hz0 hz1 hz2 hzs hs0 v n xs hv ad m c news hl hc h1 (by unfold maxLen; omega) (by omega) (Nat.zero_le _)
  refine ⟨v', w', ?_, h2, ⟨h3.os, h3.tape, h3.output, h3.size, fun k hk hne => h3.block k hk (fun e => hne e.symm)⟩, h5, fun k hk => (h2.lt k hk).2⟩
  unfold execOp
  simp only [ho, resolve, invoke, builtin, Sem.run_bind, Sem.run_pure, Result.andThen_ok, List.map_toArray, List.map_cons, List.map_nil, hx, hy, hr]
theorem infS : (Try.prog.info? 31).map (fun i => (i.zero, i.size, i.bytes)) = some (some (.slice none 0 0), 1, 24) := by kernel_rfl
/-- A row of one, or of two, is made. -/
theorem exec_row1 {w : World} {o : Oper} {ρ : Operand → Value} {t e : TypeId} {s bytes : Nat} {z : Value} (ht : Try.prog.underlying t = some (.slice e)) (hinf : (Try.prog.info? e).map (fun i => (i.zero, i.size, i.bytes)) = some (some z, s, bytes)) (hs0 : 0 < s) (hs1 : s ≤ 1000)
    {x : Operand} (ho : o.op = .buildSlice t 1 #[(0, x)]) {v : Value} (hx : ρ x = v) (hv : v.cells.size = s) : (execOp ρ o).run Try.prog w = .ok (.value (.slice (some ⟨w.heap.size, 0, none⟩) 1 1)) (w.alloc (.cells v.cells e)) := by
  obtain ⟨i0, hi, hz0, hz1, _⟩ := info_parts hinf
  have h := run_rowlit w ht hi hz0 hz1 hs0 [v] (by simpa using hv) (by simp) (by simp; omega) #[(0, v)] rfl
  unfold execOp
  simp only [ho, List.map_toArray, List.map_cons, List.map_nil, hx]
  simp at h
  simp [h, Result.andThen]
theorem exec_row2 {w : World} {o : Oper} {ρ : Operand → Value} {t e : TypeId} {s bytes : Nat} {z : Value} (ht : Try.prog.underlying t = some (.slice e)) (hinf : (Try.prog.info? e).map (fun i => (i.zero, i.size, i.bytes)) = some (some z, s, bytes)) (hs0 : 0 < s) (hs1 : s ≤ 1000)
    {x y : Operand} (ho : o.op = .buildSlice t 2 #[(0, x), (1, y)]) {v u : Value} (hx : ρ x = v) (hy : ρ y = u) (hv : v.cells.size = s) (hu : u.cells.size = s) : (execOp ρ o).run Try.prog w = .ok (.value (.slice (some ⟨w.heap.size, 0, none⟩) 2 2)) (w.alloc (.cells (v.cells.toList ++ u.cells.toList).toArray e)) := by
  obtain ⟨i0, hi, hz0, hz1, _⟩ := info_parts hinf
  have hvu : ∀ x ∈ [v, u], x.cells.size = s := by
    intro x hx
    rcases List.mem_cons.1 hx with h | h
    · rw [h]; exact hv
    · rw [show x = u by simpa using h]; exact hu
  have h := run_rowlit w ht hi hz0 hz1 hs0 [v, u] hvu (by simp) (by simp; omega) #[(0, v), (1, u)] rfl
  have hfl : ([v, u].flatMap fun v => v.cells.toList) = v.cells.toList ++ u.cells.toList := by simp
  rw [hfl] at h
  unfold execOp
  simp only [ho, List.map_toArray, List.map_cons, List.map_nil, hx, hy]
  have h' : (Instr.buildSlice t 2 #[(0, v), (1, u)]).run Try.prog w = .ok (.slice (some ⟨w.heap.size, 0, none⟩) 2 2) (w.alloc (.cells (v.cells.toList ++ u.cells.toList).toArray e)) := h
  simp only [Sem.run_bind, h', Result.andThen_ok, Sem.run_pure]
/-- A cell of a block is stored into. -/
theorem exec_store {w : World} {o : Oper} {ρ : Operand → Value} {t T : TypeId} (hsz : (Try.prog.info? t).map (·.size) = some 1) {x y : Operand} (ho : o.op = .store t x y) {g i : Nat} {v : Value} {L : List Value} (hx : ρ x = .pointer (some ⟨g, i, none⟩)) (hy : ρ y = v) (hv : v.oneCell' = true) (hb : Blk w g T L) (hi : i < L.length) :
    (execOp ρ o).run Try.prog w = .ok .skip (w.setCell ⟨g, i, none⟩ v) := by
  have hc : w.cell? ⟨g, i, none⟩ = some L[i] := by rw [hb.cell, List.getElem?_eq_getElem hi]
  have hf := hb.free i
  have hcs : v.cells = #[v] := by cases v <;> first | rfl | cases hv
  have ea : (⟨g, i, none⟩ : Addr).add 0 = ⟨g, i, none⟩ := by simp [Addr.add]
  have hst : (store ⟨g, i, none⟩ v).run Try.prog w = .ok () (w.setCell ⟨g, i, none⟩ v) := by
    rw [run_store Try.prog w _ v _ hv, hc, hf]
    simp
  cases hq : Try.prog.info? t with
  | none => simp [hq] at hsz
  | some ti =>
    have hs : ti.size = 1 := by simpa [hq] using hsz
    unfold execOp
    simp [ho, hx, hy, Instr.storeAt, Instr.sureAddr, storeVar, sizeOf, typeInfo, hq, hs, hcs, storeCells, ea, hst, Result.andThen]
/-- A row that was made of literals. -/
theorem RowOf.lit {w : World} {Fr : Nat → Prop} {e s n g : Nat} {L : List Value} (hb : Blk w g e L) (hl : L.length = n * s) (hn : n ≤ 1000) (hF : Fr g) : RowOf w Fr e s (.slice (some ⟨g, 0, none⟩) n n) n L :=
  ⟨⟨hl, .inr ⟨g, n, L.toArray, rfl, Nat.zero_le _, hb, Nat.le_refl _, by unfold maxLen; omega, by simpa using hl, by simp [← hl]⟩⟩, fun k hk => by cases hk; exact hF⟩
section
variable {w : World} {o : Oper} {ρ : Operand → Value} {K' : Value → World → Prop}
/-- The like as turns of a chain. -/
theorem turn_append {t e : TypeId} {s bytes : Nat} {z : Value} (ht : Try.prog.underlying t = some (.slice e)) (hinf : (Try.prog.info? e).map (fun i => (i.zero, i.size, i.bytes)) = some (some z, s, bytes)) (hzs : z.cells.size = s) (hs0 : 0 < s)
    {x y : Operand} (ho : o.op = .call { callee := .builtin .append, args := #[x, y], argTypes := #[t, t] }) {v : Value} {n : Nat} {xs : List Value} (hx : ρ x = v) (hv : w.ownsRow 0 e s v n xs)
    {ad : Addr} {m c : Nat} {news : List Value} (hy : ρ y = .slice (some ad) m c) (hl : news.length = m * s) (hc : ∀ j u, news[j]? = some u → w.cell? (ad.add j) = some u) (h1 : ∀ u ∈ news, u.oneCell' = true) (hn : n + m ≤ 1000000) (hb : bytes ≤ 1000)
    (hk : ∀ v' w', Appd w w' e s v v' (n + m) (xs ++ news) → K' v' w') : ∃ v' w', ((execOp ρ o).run Try.prog w = .ok (.value v') w' ∨ ((execOp ρ o).run Try.prog w = .ok .skip w' ∧ v' = undef)) ∧ K' v' w' := by
  obtain ⟨v', w', hr, ha⟩ := exec_append ht hinf hzs hs0 ho hx hv hy hl hc h1 hn hb
  exact ⟨v', w', .inl hr, hk v' w' ha⟩
theorem turn_row1 {t e : TypeId} {s bytes : Nat} {z : Value} (ht : Try.prog.underlying t = some (.slice e)) (hinf : (Try.prog.info? e).map (fun i => (i.zero, i.size, i.bytes)) = some (some z, s, bytes)) (hs0 : 0 < s) (hs1 : s ≤ 1000)
    {x : Operand} (ho : o.op = .buildSlice t 1 #[(0, x)]) {v : Value} (hx : ρ x = v) (hv : v.cells.size = s) (hk : K' (.slice (some ⟨w.heap.size, 0, none⟩) 1 1) (w.alloc (.cells v.cells e))) :
    ∃ v' w', ((execOp ρ o).run Try.prog w = .ok (.value v') w' ∨ ((execOp ρ o).run Try.prog w = .ok .skip w' ∧ v' = undef)) ∧ K' v' w' :=
  ⟨_, _, .inl (exec_row1 ht hinf hs0 hs1 ho hx hv), hk⟩
theorem turn_row2 {t e : TypeId} {s bytes : Nat} {z : Value} (ht : Try.prog.underlying t = some (.slice e)) (hinf : (Try.prog.info? e).map (fun i => (i.zero, i.size, i.bytes)) = some (some z, s, bytes)) (hs0 : 0 < s) (hs1 : s ≤ 1000)
    {x y : Operand} (ho : o.op = .buildSlice t 2 #[(0, x), (1, y)]) {v u : Value} (hx : ρ x = v) (hy : ρ y = u) (hv : v.cells.size = s) (hu : u.cells.size = s) (hk : K' (.slice (some ⟨w.heap.size, 0, none⟩) 2 2) (w.alloc (.cells (v.cells.toList ++ u.cells.toList).toArray e))) :
    ∃ v' w', ((execOp ρ o).run Try.prog w = .ok (.value v') w' ∨ ((execOp ρ o).run Try.prog w = .ok .skip w' ∧ v' = undef)) ∧ K' v' w' :=
  ⟨_, _, .inl (exec_row2 ht hinf hs0 hs1 ho hx hy hv hu), hk⟩
theorem turn_store {t T : TypeId} (hsz : (Try.prog.info? t).map (·.size) = some 1) {x y : Operand} (ho : o.op = .store t x y) {g i : Nat} {v : Value} {L : List Value} (hx : ρ x = .pointer (some ⟨g, i, none⟩)) (hy : ρ y = v) (hv : v.oneCell' = true) (hb : Blk w g T L) (hi : i < L.length) (hk : K' undef (w.setCell ⟨g, i, none⟩ v)) :
    ∃ v' w', ((execOp ρ o).run Try.prog w = .ok (.value v') w' ∨ ((execOp ρ o).run Try.prog w = .ok .skip w' ∧ v' = undef)) ∧ K' v' w' :=
  ⟨undef, _, .inr ⟨exec_store hsz ho hx hy hv hb hi, rfl⟩, hk⟩
theorem turn_put {t : TypeId} {m x y : Operand} {vm key v : Value} {w' : World} (ho : o.op = .mapUpdate t m x y) (hm : ρ m = vm) (hx : ρ x = key) (hy : ρ y = v) (h : (Instr.mapUpdate t vm key v).run Try.prog w = .ok () w') (hk : K' undef w') :
    ∃ v' w', ((execOp ρ o).run Try.prog w = .ok (.value v') w' ∨ ((execOp ρ o).run Try.prog w = .ok .skip w' ∧ v' = undef)) ∧ K' v' w' :=
  ⟨undef, _, .inr ⟨exec_mapUpdate ho hm hx hy h, rfl⟩, hk⟩
end
theorem ownsRow_one {w : World} {base e s n : Nat} {v : Value} {xs : List Value} (h : w.ownsRow base e s v n xs) : v.oneCell' = true := by
  obtain ⟨_, ⟨rfl, _⟩ | ⟨g, cap, cur, rfl, _⟩⟩ := h <;> rfl
theorem Bs.cs {w : World} {v : Value} {xs : List Nat} (h : Bs w v xs) : v.cells = #[v] := by
  obtain ⟨ao, cap, rfl, _⟩ := h.gen
  rfl
theorem ownsRow_grow {w w' : World} {base e s n : Nat} {v : Value} {xs : List Value} (h : w.ownsRow base e s v n xs) (k : Grow w w') : w'.ownsRow base e s v n xs := ownsRow_but h k (fun _ _ h => h)
/-- A build, by what it runs to. -/
theorem wpList_build_run {ops : Array Oper} {rest : List Oper} {o : Oper} {a : Act} {w : World} {Q : Exit → Act → World → Prop} (hgd : o.guard = none) (t : TypeId) (parts : List (Nat × Operand)) (ho : o.op = .build t parts.toArray) (ps : List (Nat × Value)) (hp : (parts.map fun x => (x.1, a.eval x.2)) = ps) (v : Value) (hr : (Instr.build t ps.toArray).run Try.prog w = .ok v w)
    (h : wpList Try.prog ops Q rest (a.put o.dst v) w) : wpList Try.prog ops Q (o :: rest) a w :=
  wpList_plain hgd fun _ hK => by
    unfold Oper.wp execOp
    simp only [ho, List.map_toArray]
    rw [hp]
    simp only [Sem.run_bind, hr, Result.andThen_ok, Sem.run_pure]
    exact hK _ _ h
theorem exec_build {w : World} {o : Oper} {ρ : Operand → Value} (t : TypeId) (parts : List (Nat × Operand)) (ho : o.op = .build t parts.toArray) (ps : List (Nat × Value)) (hp : (parts.map fun x => (x.1, ρ x.2)) = ps) (v : Value) (hr : (Instr.build t ps.toArray).run Try.prog w = .ok v w) : (execOp ρ o).run Try.prog w = .ok (.value v) w := by
  unfold execOp
  simp only [ho, List.map_toArray]
  rw [hp]
  simp only [Sem.run_bind, hr, Result.andThen_ok, Sem.run_pure]
theorem Bs.one {w : World} {v : Value} {xs : List Nat} (h : Bs w v xs) : v.oneCell' = true := by
  obtain ⟨ao, cap, rfl, _⟩ := h.gen
  rfl
theorem Bs.sl {w : World} {v : Value} {xs : List Nat} (h : Bs w v xs) : ∃ ao n cap, v = .slice ao n cap := by
  obtain ⟨ao, cap, rfl, _⟩ := h.gen
  exact ⟨_, _, _, rfl⟩
/-- An own row laid open, and shut. -/
theorem Ow.opn {w : World} {base : Nat} {v : Value} {zs : List Nat} (h : Ow w base v zs) (h0 : 0 < zs.length) :
    ∃ g cap R, v = .slice (some ⟨g, 0, none⟩) zs.length cap ∧ base ≤ g ∧ Blk w g 5 (u8s zs ++ R) ∧ R.length = cap - zs.length ∧ zs.length ≤ cap ∧ cap ≤ maxLen := by
  obtain ⟨hl, ⟨_, h1⟩ | ⟨g, cap, cur, rfl, hge, hb, h1, h2, h3, h4⟩⟩ := h.own
  · omega
  · refine ⟨g, cap, cur.toList.drop zs.length, rfl, hge, ?_, by rw [List.length_drop, Array.length_toList, h3, Nat.mul_one], h1, h2⟩
    rw [Nat.mul_one] at h4
    have e : u8s zs ++ cur.toList.drop zs.length = cur.toList := by rw [← h4, List.take_append_drop]
    show w.heap[g]? = some (.cells (u8s zs ++ cur.toList.drop zs.length).toArray _ _)
    rw [e, hb]
theorem Ow.shu {w : World} {base g cap : Nat} {zs : List Nat} {R : List Value} (hb : Blk w g 5 (u8s zs ++ R)) (hg : base ≤ g) (hz : ∀ z ∈ zs, z < 256) (hl : zs.length ≤ 281474976710656) (hR : R.length = cap - zs.length) (hc : zs.length ≤ cap) (hm : cap ≤ maxLen) :
    Ow w base (.slice (some ⟨g, 0, none⟩) zs.length cap) zs := by
  refine ⟨hz, hl, by simp [u8s], .inr ⟨g, cap, (u8s zs ++ R).toArray, rfl, hg, hb, hc, hm, ?_, ?_⟩⟩
  · rw [List.size_toArray, List.length_append, hR]; unfold u8s; rw [List.length_map]; omega
  · rw [Nat.mul_one]
    show (u8s zs ++ R).take zs.length = u8s zs
    have hs : (u8s zs).length = zs.length := by simp [u8s]
    rw [← hs, List.take_append_of_le_length (Nat.le_refl _), List.take_of_length_le (Nat.le_refl _)]
/-- A byte of an own row turned. -/
theorem Ow.setA {w : World} {base g n cap i y : Nat} {zs : List Nat} (h : Ow w base (.slice (some ⟨g, 0, none⟩) n cap) zs) (hn : zs.length = n) (hi : i < zs.length) (hy : y < 256) : Ow (w.setCell ⟨g, i, none⟩ (.int .u8 (y : Int))) base (.slice (some ⟨g, 0, none⟩) n cap) (zs.set i y) := by
  obtain ⟨g', cap', R, e, hge, hb, hR, hc, hm⟩ := h.opn (by omega)
  simp only [Value.slice.injEq, Option.some.injEq, Addr.mk.injEq, and_true] at e
  obtain ⟨rfl, e2, rfl⟩ := e
  have h2 := hb.set i (.int .u8 (y : Int))
  rw [List.set_append_left _ _ (by simp [u8s]; exact hi), u8s_set] at h2
  have h3 := Ow.shu (base := base) (cap := cap) h2 hge (by
    intro z hz
    rcases List.mem_or_eq_of_mem_set hz with h4 | h4
    · exact h.lt z h4
    · rw [h4]; exact hy) (by rw [List.length_set]; exact h.len) (by rw [List.length_set]; exact hR) (by rw [List.length_set]; exact hc) hm
  rw [List.length_set, hn] at h3
  exact h3
theorem u8_next : ∀ z : Nat, z < 256 → IntKind.u8.wrap ((z : Int) + 1) = (((z + 1) % 256 : Nat) : Int) := by decide +kernel
theorem exec_slc {w : World} {o : Oper} {ρ : Operand → Value} {T : TypeId} {x : Operand} {lo hi : Option Operand} (ho : o.op = .slice T x lo hi none) {v r : Value} {l h : Option Value} (hx : ρ x = v) (hl : lo.map ρ = l) (hh : hi.map ρ = h) (hr : (Instr.sliceAt T v l h none).run Try.prog w = .ok r w) : (execOp ρ o).run Try.prog w = .ok (.value r) w := by
  unfold execOp
  simp only [ho, Option.map_none, hx, hl, hh]
  simp only [Sem.run_bind, hr, Result.andThen_ok, Sem.run_pure]
theorem addr_add (b o c : Nat) : (⟨b, o, none⟩ : Addr).add c = ⟨b, o + c, none⟩ := by
  by_cases hz : c = 0
  · subst hz; simp [Addr.add]
  · simp [Addr.add]; exact fun h => absurd h hz
theorem Bs.own {w : World} {v : Value} {xs : List Nat} (h : Bs w v xs) (h0 : 0 < xs.length) {g : Nat} (hg : w.heap.size ≤ g) : v.ownBlock ≠ some g := by
  obtain ⟨_, _, ⟨rfl, _⟩ | ⟨_, b, off, cap, rfl, _, hb, _⟩⟩ := h
  · simp at h0
  · intro e
    have e' : some b = some g := e
    have := Option.some.inj e'
    omega
theorem Bs.bf {w : World} {v : Value} {xs : List Nat} (h : Bs w v xs) : Bf w (· < w.heap.size) v xs := ⟨h, fun h0 j hj => by
  rcases Nat.lt_or_ge j w.heap.size with e | e
  · exact e
  · exact absurd hj (h.own h0 e)⟩
theorem grow_cell {w w' : World} (h : Grow w w') {b i : Nat} {u : Value} (hc : w.cell? ⟨b, i, none⟩ = some u) : w'.cell? ⟨b, i, none⟩ = some u := by
  rcases Nat.lt_or_ge b w.heap.size with hb | hb
  · exact (World.cell?_of_block (h.block b hb (fun h => h))).trans hc
  · exfalso
    have h1 : w.heap[b]? = none := by simpa using hb
    simp [World.cell?, h1] at hc
theorem Blk.cells0 {w : World} {g : Nat} {T : TypeId} {L : List Value} (h : Blk w g T L) : ∀ j v, L[j]? = some v → w.cell? ((⟨g, 0, none⟩ : Addr).add j) = some v := by
  intro j v hv
  have e : (⟨g, 0, none⟩ : Addr).add j = ⟨g, j, none⟩ := by simp [Addr.add]; exact fun h => h.symm
  rw [e, h.cell]; exact hv
end Go.Proofs.Ytmlklmhochihbaa
/- Heats in memory; the short functions. -/
namespace Go.Proofs.Ytmlklmhochihbaa
open Go.RowKit

theorem isNaN_any (b : Nat) (w : World) (hb : b < 18446744073709551616) :
    Calls Try.prog 71 #[.float .f64 b] w fun e w' => e = .returned (.bool (nn b)) ∧ w' = w := by
  have h := ne_self b hb
  go_enter Try.func71, Try.ntmps71
  go_wp2
  go_ret
  exact ⟨rfl, rfl⟩
theorem eq_zero (b : Nat) (hb : b < 18446744073709551616) (hn : nn b = false) : (FloatKind.f64.format.order b 0 == some Ordering.eq) = (mg b == 0) := by
  have h := ord_eq b 0 hb (by omega)
  rw [hn, nn_zero, sm_zero] at h
  show (Ieee.double.order b 0 == some Ordering.eq) = _
  rw [h, Bool.eq_iff_iff]
  unfold sm
  split <;> simp
theorem right_any (b : Nat) (w : World) (hb : b < 18446744073709551616) :
    Calls Try.prog 62 #[.float .f64 b] w fun e w' => e = .returned (.float .f64 (rt b)) ∧ w' = w := by
  have HN := Hid.mk' (isNaN_any b w hb)
  cases hn : nn b
  · have h0 := eq_zero b hb hn
    rw [hn] at HN
    cases hm : (mg b == 0)
    · rw [hm] at h0
      rw [show rt b = b by unfold rt; rw [hn, hm]; rfl]
      clear hm hn
      go_enter Try.func62, Try.ntmps62
      go_wp2_with fail
      refine Calls.mono HN.out ?_
      rintro e w' ⟨rfl, rfl⟩
      go_wp2
      go_ret
      exact ⟨rfl, rfl⟩
    · rw [hm] at h0
      rw [show rt b = 0 by unfold rt; rw [hn, hm]; rfl]
      clear hm hn
      go_enter Try.func62, Try.ntmps62
      go_wp2_with fail
      refine Calls.mono HN.out ?_
      rintro e w' ⟨rfl, rfl⟩
      go_wp2
      go_ret
      exact ⟨rfl, rfl⟩
  · rw [hn] at HN
    rw [show rt b = 0 by unfold rt; rw [hn]; rfl]
    clear hn
    go_enter Try.func62, Try.ntmps62
    go_wp2_with fail
    refine Calls.mono HN.out ?_
    rintro e w' ⟨rfl, rfl⟩
    go_wp2
    go_ret
    exact ⟨rfl, rfl⟩
theorem rright_any (b : Nat) (w : World) (hb : b < 18446744073709551616) :
    Calls Try.prog 55 #[.float .f64 b] w fun e w' => e = .returned (.float .f64 (rt b)) ∧ w' = w := by
  have hs := ne_self b hb
  cases hn : nn b
  · have h0 := eq_zero b hb hn
    rw [hn] at hs
    cases hm : (mg b == 0)
    · rw [hm] at h0
      rw [show rt b = b by unfold rt; rw [hn, hm]; rfl]
      clear hm hn
      go_enter Try.func55, Try.ntmps55
      go_wp2
      go_ret
      exact ⟨rfl, rfl⟩
    · rw [hm] at h0
      rw [show rt b = 0 by unfold rt; rw [hn, hm]; rfl]
      clear hm hn
      go_enter Try.func55, Try.ntmps55
      go_wp2
      go_ret
      exact ⟨rfl, rfl⟩
  · rw [hn] at hs
    rw [show rt b = 0 by unfold rt; rw [hn]; rfl]
    clear hn
    go_enter Try.func55, Try.ntmps55
    go_wp2
    go_ret
    exact ⟨rfl, rfl⟩

/-- A heat as a value. -/
abbrev tol (b t : Nat) : Value := .agg #[.float .f64 b, .int .i64 (t : Int)]
def i64 (K : Int) : Prop := -9223372036854775808 ≤ K ∧ K ≤ 9223372036854775807
structure HtM (w : World) (gh gm half now : Nat) (T : Tb) : Prop where
  blk : Blk w gh 110 [.int .i64 (half : Int), .int .i64 (now : Int), .map (some gm)]
  map : ∃ M, Mq Try.prog 3 w gm M ∧ (∀ p ∈ M, ∃ K b t, p = (.int .i64 K, tol b t) ∧ T K = some (b, t)) ∧ ∀ K b t, T K = some (b, t) → ((.int .i64 K : Value), tol b t) ∈ M
  h1 : 1 ≤ half
  h2 : half ≤ 1000
  nw : now ≤ 1000000
  ok : Tok now T
section
variable {w w' : World} {gh gm half now : Nat} {T : Tb} {R : Nat → Prop}
theorem HtM.but (h : HtM w gh gm half now T) (k : But R w w') (h1 : ¬ R gh) (h2 : ¬ R gm) : HtM w' gh gm half now T := by
  obtain ⟨M, h3, h4, h5⟩ := h.map
  exact ⟨h.blk.but k h1, ⟨M, h3.but k h2, h4, h5⟩, h.h1, h.h2, h.nw, h.ok⟩
theorem HtM.grow (h : HtM w gh gm half now T) (k : Grow w w') : HtM w' gh gm half now T := h.but k (fun h => h) (fun h => h)
theorem HtM.lt (h : HtM w gh gm half now T) : gh < w.heap.size ∧ gm < w.heap.size := by
  obtain ⟨M, h3, -⟩ := h.map
  exact ⟨h.blk.lt, h3.lt⟩
theorem HtM.ne (h : HtM w gh gm half now T) : gh ≠ gm := by
  obtain ⟨M, h3, -⟩ := h.map
  obtain ⟨es, c, h4, -⟩ := h3.blk
  intro e
  have h5 := h.blk
  rw [e] at h5
  have h6 : w.heap[gm]? = _ := h5
  rw [h4] at h6
  cases h6
theorem keyIa : Go.Maps.Keyed Try.prog 3 := Go.Maps.int_keyed Try.underlying3
theorem keyOfIa (K : Int) (h : i64 K) : keyOf Try.prog 3 (.int .i64 K) = some (.int .i64 K) := by
  refine Go.Maps.keyOf_int_mk Try.underlying3 ?_
  have e1 : IntKind.i64.min = -9223372036854775808 := rfl
  have e2 : IntKind.i64.max = 9223372036854775807 := rfl
  simp only [Lit.wf, e1, e2, Bool.and_eq_true, decide_eq_true_eq]
  exact h
theorem ztol (w : World) : (zeroValue 113).run Try.prog w = .ok (tol 0 0) w := by kernel_rfl
/-- What the map tells of a key. -/
theorem HtM.look (h : HtM w gh gm half now T) {K : Int} (hK : i64 K) : ∃ b t, b < 18446744073709551616 ∧ t ≤ now ∧ rt (fd b ((now - t) / half)) = hof half now T K ∧ ∀ w', Grow w w' → (Instr.lookup 108 (.map (some gm)) (.int .i64 K) false).run Try.prog w' = .ok (tol b t) w' := by
  obtain ⟨M, h3, h4, h5⟩ := h.map
  have hl := fun w' (k : Grow w w') => (h3.but k (fun h => h)).look (t := 108) (et := 113) keyIa Try.underlying108 (ztol w') (keyOfIa K hK) false
  cases hT : T K with
  | some p =>
    obtain ⟨b, t⟩ := p
    have := h.ok.lt K b t hT
    exact ⟨b, t, this.1, this.2, by unfold hof; rw [hT], fun w' k => (hl w' k).1 _ (h5 K b t hT)⟩
  | none =>
    refine ⟨0, 0, by omega, Nat.zero_le _, by unfold hof; rw [hT, fd_nought]; rfl, fun w' k => (hl w' k).2 (fun p hp => ?_)⟩
    obtain ⟨K', b, t, rfl, e⟩ := h4 p hp
    intro e2
    simp only [Value.int.injEq, true_and] at e2
    rw [e2, hT] at e
    cases e
end
section
variable {w w' : World} {gh gm half now : Nat} {T : Tb} {R : Nat → Prop}
theorem made_nil (w : World) : Calls Try.prog 58 #[.pointer none] w fun e w' => e = .returned (.bool false) ∧ w' = w := by
  go_enter Try.func58, Try.ntmps58
  go_wp2
  go_ret
  exact ⟨rfl, rfl⟩
theorem made_any (h : HtM w gh gm half now T) : Calls Try.prog 58 #[.pointer (some ⟨gh, 0, none⟩)] w fun e w' => e = .returned (.bool true) ∧ w' = w := by
  obtain ⟨H, hH⟩ : ∃ H : Int, (half : Int) = H := ⟨_, rfl⟩
  have hH0 : 0 < H := by have := h.h1; omega
  have c0 : w.cell? ⟨gh, 0, none⟩ = some (.int .i64 H) := by rw [← hH]; exact h.blk.cell 0
  clear h hH
  go_enter Try.func58, Try.ntmps58
  go_wp2
  go_ret
  exact ⟨rfl, rfl⟩
end
end Go.Proofs.Ytmlklmhochihbaa
/- Of: a heat at the time. -/
namespace Go.Proofs.Ytmlklmhochihbaa
open Go.RowKit

theorem wpList_runH {ops : Array Oper} {rest : List Oper} {o : Oper} {a : Act} {w w' : World} {Q : Exit → Act → World → Prop} {v : Value} (hgd : o.guard = none) (hr : (execOp a.eval o).run Try.prog w = .ok (.value v) w') (h : wpList Try.prog ops Q rest (a.put o.dst v) w') : wpList Try.prog ops Q (o :: rest) a w :=
  wpList_plain hgd fun _ hK => by
    unfold Oper.wp
    rw [hr]
    exact hK _ _ h
theorem iTol : (Try.prog.info? 113).map (·.size) = some 2 := by kernel_rfl
theorem wrapN (n : Nat) (h : n ≤ 1000000000) : IntKind.i64.wrap (n : Int) = (n : Int) := by
  simp [IntKind.wrap, IntKind.bits, IntKind.signed]; omega
theorem of_nil (w : World) (K : Int) : Calls Try.prog 63 #[.pointer none, .int .i64 K] w fun e w' => e = .returned (.float .f64 0) ∧ w' = w := by
  go_enter Try.func63, Try.ntmps63
  go_wp2_with fail
  refine Calls.mono (made_nil w) ?_
  rintro e w' ⟨rfl, rfl⟩
  go_wp2
  go_ret
  exact ⟨rfl, rfl⟩
section
variable {w w' : World} {gh gm half now : Nat} {T : Tb} {R : Nat → Prop}
set_option maxRecDepth 100000 in
set_option maxHeartbeats 1000000 in
theorem of_any (h : HtM w gh gm half now T) {K : Int} (hK : i64 K) : Calls Try.prog 63 #[.pointer (some ⟨gh, 0, none⟩), .int .i64 K] w fun e w' => e = .returned (.float .f64 (hof half now T K)) ∧ Grow w w' := by
  have HM := Hid.mk' (made_any h)
  obtain ⟨b, t, hb, ht, he, hlk⟩ := h.look hK
  have HE := Hid.mk' he
  have HH := Hid.mk' h
  have HLK := Hid.mk' (hlk w (But.refl _ _))
  have c2 : w.cell? ⟨gh, 2, none⟩ = some (.map (some gm)) := h.blk.cell 2
  have hh1 := h.h1
  have hh2 := h.h2
  have hnw := h.nw
  obtain ⟨d, hd⟩ : ∃ d, d = now - t := ⟨_, rfl⟩
  obtain ⟨q, hq⟩ : ∃ q, q = d / half := ⟨_, rfl⟩
  have hqd : q ≤ d := by rw [hq]; exact Nat.div_le_self _ _
  rw [← hd, ← hq] at HE
  have HF := Hid.mk' (fun w => fade_any b (q : Int) w hb (by omega) (by omega))
  rw [show (q : Int).toNat = q by omega] at HF
  have HR := Hid.mk' (fun w => right_any (fd b q) w (fd_lt b q hb))
  have HQ : Hid (Int.tdiv (d : Int) (half : Int) = (q : Int) ∧ ¬ half = 0 ∧ (now : Int) - (t : Int) = (d : Int) ∧ IntKind.i64.wrap (d : Int) = (d : Int) ∧ IntKind.i64.wrap (q : Int) = (q : Int)) := by
    refine ⟨?_, by omega, by omega, wrapN _ (by omega), wrapN _ (by omega)⟩
    rw [hq]; rfl
  obtain ⟨gn, hgn⟩ : ∃ gn, gn = w.heap.size := ⟨_, rfl⟩
  have HGN := Hid.mk' hgn
  have HG0 : Hid (Grow w (w.alloc (.cells #[.float .f64 0, .int .i64 0] 113))) := (But.refl _ w).alloc _
  have HB0 : Hid (Blk (w.alloc (.cells #[.float .f64 0, .int .i64 0] 113)) gn 113 [.float .f64 0, .int .i64 0]) := Blk.new (L := [.float .f64 0, .int .i64 0]) hgn.symm
  clear he hlk hd hq hqd hnw hh1 hh2 hb ht h hgn
  obtain ⟨f, hf⟩ : ∃ f, f = fd b q := ⟨_, rfl⟩
  rw [← hf] at HF HR HE
  clear hf
  go_enter Try.func63, Try.ntmps63
  go_wp2_with fail
  refine Calls.mono HM.out ?_
  rintro e w' ⟨rfl, hw⟩
  have h2 := hw.symm
  subst h2
  clear hw
  go_upto_region 4 with (first
    | (refine wpList_runH rfl (exec_lookup rfl rfl rfl HLK.out) ?_)
    | (refine wpList_store_at rfl _ _ _ rfl gn 0 [.float .f64 b, .int .i64 (t : Int)] (by rw [HGN.out]; rfl) rfl 113 [] [.float .f64 0, .int .i64 0] [] (by simpa using HB0.out) rfl rfl iTol (by intro v hv; rcases List.mem_cons.1 hv with rfl | hv; rfl; rcases List.mem_cons.1 hv with rfl | hv; rfl; cases hv) ?_; intro w1 hb1 hbut1; rw [List.nil_append, List.append_nil] at hb1)
    | fail)
  rw [← HGN.out]
  have HG1 : Hid (Grow w w1) := HG0.out.then hbut1 (fun i hi e => by have := HGN.out; omega)
  have HB1 := Hid.mk' hb1
  have HH1 := Hid.mk' (HH.out.grow HG1.out)
  clear hb1 hbut1 HG0 HB0 HLK c2 HM
  refine region_chain [] [0, 1, 2, 3, 4, 5, 6, 7, 8, 9, 10, 11, 12, 13, 14, 15, 16] (Grow w1) (Grow w1) (by kernel_rfl) (by kernel_rfl) (fun _ _ h k => h.trans k) (fun _ h => h) ((But.refl _ w1).drew) ?_
  intro ι hne X hX
  have d1 : ∀ x, (X x).cell? ⟨gn, 0, none⟩ = some (.float .f64 b) := fun x => (HB1.out.but (hX x) (fun h => h)).cell 0
  have d2 : ∀ x, (X x).cell? ⟨gn, 1, none⟩ = some (.int .i64 (t : Int)) := fun x => (HB1.out.but (hX x) (fun h => h)).cell 1
  have d3 : ∀ x, (X x).cell? ⟨gh, 0, none⟩ = some (.int .i64 (half : Int)) := fun x => ((HH1.out.grow (hX x)).blk).cell 0
  have d4 : ∀ x, (X x).cell? ⟨gh, 1, none⟩ = some (.int .i64 (now : Int)) := fun x => ((HH1.out.grow (hX x)).blk).cell 1
  obtain ⟨q1, q2, q3, q4, q5⟩ := HQ.out
  iterate 14 (refine still_step rfl (fun K hK => ?_); go_simp; refine hK _ ?_; clear hK K)
  refine still_call rfl (.float .f64 f) 72 #[.float .f64 b, .int .i64 (q : Int)] rfl (fun x => by kernel_rfl) (fun x => (HF.out (X x)).mono (fun e w' h => ⟨h.1, by rw [h.2]; exact But.refl _ _⟩)) ?_
  intro K hK; go_simp; refine hK _ ?_; clear hK K
  refine still_call rfl (.float .f64 (rt f)) 62 #[.float .f64 f] rfl (fun x => by kernel_rfl) (fun x => (HR.out (X x)).mono (fun e w' h => ⟨h.1, by rw [h.2]; exact But.refl _ _⟩)) ?_
  intro K hK; go_simp; refine hK _ ?_; clear hK K
  iterate 1 (refine still_step rfl (fun K hK => ?_); go_simp; refine hK _ ?_; clear hK K)
  refine still_nil ?_
  clear hX hne d1 d2 d3 d4 q1 q2 q3 q4 q5
  intro w2 hw2
  have HW2 := Hid.mk' (HG1.out.trans hw2)
  clear hw2
  go_wp2
  go_ret
  exact ⟨by rw [HE.out]; rfl, HW2.out⟩
end
end Go.Proofs.Ytmlklmhochihbaa
/- Touch, Drop, New. -/
namespace Go.Proofs.Ytmlklmhochihbaa
open Go.RowKit

theorem exec_add {P : Program} {w w' : World} {o : Oper} {ρ : Operand → Value} {t t2 : TypeId} {x y : Operand} {u v r : Value} (ho : o.op = .binOp .add t x y t2) (hx : ρ x = u) (hy : ρ y = v) (h : (binOp .add t u v).run P w = .ok r w') : (execOp ρ o).run P w = .ok (.value r) w' := by
  have e : (eqGuard .add t x y u v).run P w = .ok () w := rfl
  unfold execOp
  simp only [ho, hx, hy, Sem.run_bind, e, Result.andThen_ok, h, Sem.run_pure]
theorem touch_nil (w : World) (K : Int) (y : Nat) : Calls Try.prog 49 #[.pointer none, .int .i64 K, .float .f64 y] w fun e w' => e = .returned (.tuple #[]) ∧ w' = w := by
  go_enter Try.func49, Try.ntmps49
  go_wp2_with fail
  refine Calls.mono (made_nil w) ?_
  rintro e w' ⟨rfl, rfl⟩
  go_wp2
  exact bodyPost_ret (results_none rfl _ _ _) rfl ⟨rfl, rfl⟩
theorem drop_nil (w : World) (K : Int) : Calls Try.prog 45 #[.pointer none, .int .i64 K] w fun e w' => e = .returned (.tuple #[]) ∧ w' = w := by
  go_enter Try.func45, Try.ntmps45
  go_wp2_with fail
  refine Calls.mono (made_nil w) ?_
  rintro e w' ⟨rfl, rfl⟩
  go_wp2
  go_end0
  exact ⟨rfl, rfl⟩
section
variable {w w' : World} {gh gm half now : Nat} {T : Tb} {R : Nat → Prop}
/-- What a call on a heat leaves. -/
structure HtTo (w : World) (gh gm half now : Nat) (T : Tb) (w' : World) : Prop where
  ht : HtM w' gh gm half now T
  but : But (fun b => b = gh ∨ b = gm) w w'
theorem HtTo.grow {w'' : World} (h : HtTo w gh gm half now T w') (k : Grow w' w'') : HtTo w gh gm half now T w'' := ⟨h.ht.grow k, h.but.trans (k.mono (fun _ _ h => h.elim))⟩
/-- The time goes on. -/
theorem HtM.on (h : HtM w gh gm half now T) (hn : now < 1000000) : HtM (w.setCell ⟨gh, 1, none⟩ (.int .i64 ((now + 1 : Nat) : Int))) gh gm half (now + 1) T := by
  obtain ⟨M, h3, h4, h5⟩ := h.map
  exact ⟨h.blk.set 1 _, ⟨M, h3.but (But.set1 _ _ _ _) (fun e => h.ne e.symm), h4, h5⟩, h.h1, h.h2, by omega, h.ok.on⟩
/-- A key is put. -/
theorem HtM.put (h : HtM w gh gm half now T) {K : Int} (hK : i64 K) {x : Nat} (hx : x < 18446744073709551616) : ∃ w', (Instr.mapUpdate 108 (.map (some gm)) (.int .i64 K) (tol x now)).run Try.prog w = .ok () w' ∧ HtM w' gh gm half now (tput T K x now) ∧ But (· = gm) w w' := by
  obtain ⟨M, h3, h4, h5⟩ := h.map
  obtain ⟨w', M', hr, hM, hb, -, hin, hot⟩ := h3.put (t := 108) (et := 113) (v := tol x now) keyIa Try.underlying108 (keyOfIa K hK)
  refine ⟨w', hr, ⟨h.blk.but hb h.ne, ⟨M', hM, fun p hp => ?_, fun K' b t e => ?_⟩, h.h1, h.h2, h.nw, ⟨fun k b t e => ?_⟩⟩, hb⟩
  · by_cases hk : p.1 = .int .i64 K
    · have hpv : p.2 = tol x now := hM.uniq (k := .int .i64 K) (by rw [← hk]; exact hp) hin
      exact ⟨K, x, now, by rw [← hk, ← hpv], by unfold tput; rw [if_pos rfl]⟩
    · obtain ⟨K', b, t, e, e2⟩ := h4 p ((hot p.1 p.2 hk).1 hp)
      refine ⟨K', b, t, e, ?_⟩
      unfold tput
      rw [if_neg (fun e3 => hk (by rw [e, e3]))]
      exact e2
  · unfold tput at e
    split at e
    · rename_i e2
      cases e
      rw [e2]; exact hin
    · rename_i e2
      refine (hot _ _ (fun e3 => e2 ?_)).2 (h5 K' b t e)
      simpa using e3
  · unfold tput at e
    split at e
    · cases e; exact ⟨hx, Nat.le_refl _⟩
    · exact h.ok.lt k b t e
theorem HtM.del (h : HtM w gh gm half now T) {K : Int} (hK : i64 K) (ty : TypeId) : ∃ w', (Builtin.delete_ #[108, 3] ty #[.map (some gm), .int .i64 K]).run Try.prog w = .ok (.tuple #[]) w' ∧ HtM w' gh gm half now (tdrop T K) ∧ But (· = gm) w w' := by
  obtain ⟨M, h3, h4, h5⟩ := h.map
  obtain ⟨w', M', hr, hM, hb, -, hot⟩ := h3.del (t := 108) (et := 113) keyIa Try.underlying108 (keyOfIa K hK) ty
  refine ⟨w', hr, ⟨h.blk.but hb h.ne, ⟨M', hM, fun p hp => ?_, fun K' b t e => ?_⟩, h.h1, h.h2, h.nw, h.ok.drop K⟩, hb⟩
  · obtain ⟨h6, h7⟩ := (hot p.1 p.2).1 hp
    obtain ⟨K', b, t, e, e2⟩ := h4 p h6
    refine ⟨K', b, t, e, ?_⟩
    unfold tdrop
    rw [if_neg (fun e3 => h7 (by rw [e, e3]))]
    exact e2
  · unfold tdrop at e
    split at e
    · cases e
    · rename_i e2
      exact (hot _ _).2 ⟨h5 K' b t e, fun e3 => e2 (by simpa using e3)⟩
set_option maxRecDepth 100000 in
set_option maxHeartbeats 1000000 in
theorem touch_any (h : HtM w gh gm half now T) {K : Int} (hK : i64 K) {y : Nat} (hn : now < 1000000) : Calls Try.prog 49 #[.pointer (some ⟨gh, 0, none⟩), .int .i64 K, .float .f64 y] w fun e w' => e = .returned (.tuple #[]) ∧ HtTo w gh gm half (now + 1) (ttouch half now T K y) w' := by
  have HM := Hid.mk' (made_any h)
  have HH1 := Hid.mk' (h.on hn)
  have HKK := Hid.mk' hK
  have HB1 : Hid (But (fun b => b = gh ∨ b = gm) w (w.setCell ⟨gh, 1, none⟩ (.int .i64 ((now + 1 : Nat) : Int)))) := (But.set1 w gh 1 _).mono (fun b _ e => .inl e)
  have c1 : w.cell? ⟨gh, 1, none⟩ = some (.int .i64 (now : Int)) := h.blk.cell 1
  have f1 : w.frozen? ⟨gh, 1, none⟩ = false := h.blk.free 1
  have hw1 : IntKind.i64.wrap ((now : Int) + 1) = ((now + 1 : Nat) : Int) := by have := wrapN (now + 1) (by omega); push_cast at this ⊢; exact this
  have e1 : (now : Int) + 1 = ((now + 1 : Nat) : Int) := by push_cast; rfl
  have e2 : ((now + 1 : Nat) : Int) ≤ 1000000 := by omega
  clear h hK hn
  obtain ⟨n1, hn1⟩ : ∃ n1, n1 = now + 1 := ⟨_, rfl⟩
  rw [← hn1] at HH1 HB1 hw1 e1 e2
  have HN1 := Hid.mk' hn1
  clear hn1
  go_enter Try.func49, Try.ntmps49
  go_wp2_with fail
  refine Calls.mono HM.out ?_
  rintro e w' ⟨rfl, hw⟩
  have h2 := hw.symm
  subst h2
  clear hw HM
  go_upto_region 2 with fail
  clear c1 f1 e1 hw1 e2
  generalize w.setCell ⟨gh, 1, none⟩ (.int .i64 (n1 : Int)) = w1 at *
  have HO : Hid (∀ x, Grow w1 x → Calls Try.prog 63 #[.pointer (some ⟨gh, 0, none⟩), .int .i64 K] x fun e w' => e = .returned (.float .f64 (hof half n1 T K)) ∧ Grow x w') := fun x k => of_any (HH1.out.grow k) HKK.out
  obtain ⟨f, hf⟩ : ∃ f, f = hof half n1 T K := ⟨_, rfl⟩
  rw [← hf] at HO
  have HF := Hid.mk' hf
  clear hf
  refine region_chain [([0, 1, 2, 3, 4, 5, 6, 7, 8, 11, 12, 13, 14], 9), ([10, 15], 16)] [] (Grow w1) (Grow w1) (by kernel_rfl) (by kernel_rfl) (fun _ _ h k => h.trans k) (fun _ h => h) ((But.refl _ w1).drew) ?_
  intro ι hne X hX
  have d1 : ∀ x, (X x).cell? ⟨gh, 1, none⟩ = some (.int .i64 (n1 : Int)) := fun x => ((HH1.out.grow (hX x)).blk).cell 1
  have d2 : ∀ x, (X x).cell? ⟨gh, 2, none⟩ = some (.map (some gm)) := fun x => ((HH1.out.grow (hX x)).blk).cell 2
  iterate 7 (refine still_step rfl (fun K hK => ?_); go_simp; refine hK _ ?_; clear hK K)
  refine still_call rfl (.float .f64 f) 63 #[.pointer (some ⟨gh, 0, none⟩), .int .i64 K] rfl (fun x => by kernel_rfl) (fun x => HO.out _ (hX x)) ?_
  intro K hK; go_simp; refine hK _ ?_; clear hK K
  iterate 5 (refine still_step rfl (fun K hK => ?_); go_simp; refine hK _ ?_; clear hK K)
  refine still_nil ?_
  clear d1 d2 hX hne X ι
  refine turn_run rfl rfl (fun v w' => Grow w1 w' ∧ ∃ r, v = .float .f64 r ∧ r < 18446744073709551616 ∧ rt r = radd f y) (fun v w' => Grow w1 w' ∧ ∃ r, v = .float .f64 r ∧ r < 18446744073709551616 ∧ rt r = radd f y) (fun _ _ _ h k => ⟨h.1.trans k, h.2⟩) (fun _ _ h => h) (.inr (fun _ _ h => h.1)) ?_ ?_
  · intro w4 h4
    obtain ⟨r, w5, hr, h1, h2, h3⟩ := add_run 32 f y w4
    refine ⟨.float .f64 r, w5, .inl (exec_add rfl rfl rfl hr), h4.trans ?_, r, rfl, h1, h2⟩
    rcases h3 with rfl | rfl
    · exact But.refl _ _
    · exact (But.refl _ w4).drew
  rintro v5 ⟨w5, -, r, rfl, hr1, hr2⟩ Y hY
  have HR := Hid.mk' (fun w => right_any r w hr1)
  rw [hr2] at HR
  have HX := Hid.mk' (radd_lt f y)
  clear hr1 hr2
  generalize hx5 : radd f y = x5 at *
  have HX5 := Hid.mk' hx5
  clear hx5
  go_simp
  refine hY _ ?_
  clear hY Y w5
  intro ι hne X hX
  refine still_call rfl (.float .f64 x5) 62 #[.float .f64 r] rfl (fun x => by kernel_rfl) (fun x => (HR.out (X x)).mono (fun e w' h => ⟨h.1, by rw [h.2]; exact But.refl _ _⟩)) ?_
  intro K hK; go_simp; refine hK _ ?_; clear hK K
  iterate 1 (refine still_step rfl (fun K hK => ?_); go_simp; refine hK _ ?_; clear hK K)
  refine still_nil ?_
  clear hX hne X ι
  refine turn_run rfl rfl (fun _ w' => HtTo w gh gm half n1 (tput T K x5 n1) w') (fun _ _ => True) (fun _ _ _ h k => h.grow k) (fun _ _ _ => trivial) (.inl (by kernel_rfl)) ?_ ?_
  · rintro w4 ⟨h4, -⟩
    obtain ⟨w6, h5, h6, h7⟩ := (HH1.out.grow h4).put HKK.out HX.out
    exact turn_put rfl rfl rfl rfl h5 ⟨h6, (HB1.out.trans (h4.mono (fun _ _ h => h.elim))).trans (h7.mono (fun _ _ e => .inr e))⟩
  rintro v5 - Y hY
  go_simp
  refine hY _ ?_
  clear hY Y
  intro ι hne X hX
  refine still_nil ?_
  clear hX hne
  intro w6 hw6
  have HW6 := Hid.mk' hw6
  clear hw6
  go_wp2
  go_end0
  refine ⟨rfl, ?_⟩
  have h8 := HW6.out
  rw [← HX5.out, HF.out, HN1.out] at h8
  exact h8
end
end Go.Proofs.Ytmlklmhochihbaa
/- Drop, New. -/
namespace Go.Proofs.Ytmlklmhochihbaa
open Go.RowKit

section
variable {w w' : World} {o : Oper} {ρ : Operand → Value}
theorem exec_deleteH {t k : TypeId} {x y : Operand} {u v r : Value} (ho : o.op = .call { callee := .builtin .delete, args := #[x, y], argTypes := #[t, k] }) (hx : ρ x = u) (hy : ρ y = v) (h : (Builtin.delete_ #[t, k] o.type #[u, v]).run Try.prog w = .ok r w') : (execOp ρ o).run Try.prog w = .ok (.value r) w' := by
  unfold execOp
  simp only [ho, resolve, invoke, builtin, Sem.run_bind, Sem.run_pure, Result.andThen_ok, List.map_toArray, List.map_cons, List.map_nil, hx, hy, h]
theorem exec_mkMap {t : TypeId} {r : Value} (ho : o.op = .makeMap t none) (h : (Instr.makeMap t none).run Try.prog w = .ok r w') : (execOp ρ o).run Try.prog w = .ok (.value r) w' := by
  unfold execOp
  simp only [ho, Option.map_none, Sem.run_bind, h, Result.andThen_ok, Sem.run_pure]
end
theorem mk_mapH (w : World) : (Instr.makeMap 108 none).run Try.prog w = .ok (.map (some w.heap.size)) (w.alloc (.map #[] 0)) := by
  simp [Instr.makeMap]
section
variable {w w' : World} {gh gm half now : Nat} {T : Tb} {R : Nat → Prop}
set_option maxRecDepth 100000 in
theorem drop_any (h : HtM w gh gm half now T) {K : Int} (hK : i64 K) : Calls Try.prog 45 #[.pointer (some ⟨gh, 0, none⟩), .int .i64 K] w fun e w' => e = .returned (.tuple #[]) ∧ HtTo w gh gm half now (tdrop T K) w' := by
  have HM := Hid.mk' (made_any h)
  obtain ⟨w6, h5, h6, h7⟩ := h.del hK 0
  have HD := Hid.mk' h5
  have HF : Hid (HtTo w gh gm half now (tdrop T K) w6) := ⟨h6, h7.mono (fun _ _ e => .inr e)⟩
  have c2 : w.cell? ⟨gh, 2, none⟩ = some (.map (some gm)) := h.blk.cell 2
  clear h5 h6 h7 h hK
  go_enter Try.func45, Try.ntmps45
  go_wp2_with fail
  refine Calls.mono HM.out ?_
  rintro e w' ⟨rfl, hw⟩
  have h2 := hw.symm
  subst h2
  clear hw HM
  go_wp2_with (first
    | (refine wpList_runH rfl (exec_deleteH rfl rfl rfl HD.out) ?_)
    | fail)
  go_end0
  exact ⟨rfl, HF.out⟩
theorem new_arg (w : World) (x : Int) (hx : ¬ (1 ≤ x ∧ x ≤ 1000)) :
    Calls Try.prog 43 #[.int .i64 x] w fun e w' => e = .returned (.tuple #[.pointer none, .int .i64 1]) ∧ w' = w := by
  by_cases h1 : x < 1
  · go_enter Try.func43, Try.ntmps43
    go_wp2
    exact bodyPost_ret (results_tmp2 rfl _ _ _) rfl ⟨rfl, rfl⟩
  · have h2 : 1000 < x := by omega
    clear hx
    go_enter Try.func43, Try.ntmps43
    go_wp2
    exact bodyPost_ret (results_tmp2 rfl _ _ _) rfl ⟨rfl, rfl⟩
set_option maxRecDepth 100000 in
theorem new_any (w : World) (half : Nat) (h1 : 1 ≤ half) (h2 : half ≤ 1000) :
    Calls Try.prog 43 #[.int .i64 (half : Int)] w fun e w' => e = .returned (.tuple #[.pointer (some ⟨w.heap.size + 1, 0, none⟩), .int .i64 0]) ∧ HtM w' (w.heap.size + 1) w.heap.size half 0 tnone ∧ Grow w w' := by
  have HMM := Hid.mk' (mk_mapH w)
  obtain ⟨N, hN⟩ : ∃ N : Int, N = (half : Int) := ⟨_, rfl⟩
  obtain ⟨g, hg⟩ : ∃ g, g = w.heap.size := ⟨_, rfl⟩
  obtain ⟨w1, hw1⟩ : ∃ w1, w1 = w.alloc (.map #[] 0) := ⟨_, rfl⟩
  rw [← hg, ← hw1] at HMM
  have s1 : w1.heap.size = g + 1 := by rw [hw1, hg]; simp
  have k1 : Grow w w1 := by rw [hw1]; exact (But.refl _ w).alloc _
  have m1 : Mq Try.prog 3 w1 g [] := by rw [hw1]; exact Mq.new g hg.symm
  have HF : Hid (HtM (w1.alloc (.cells #[.int .i64 N, .int .i64 0, .map (some g)] 110)) (g + 1) g half 0 tnone ∧ Grow w (w1.alloc (.cells #[.int .i64 N, .int .i64 0, .map (some g)] 110))) := by
    have k2 : Grow w1 (w1.alloc (.cells #[.int .i64 N, .int .i64 0, .map (some g)] 110)) := (But.refl _ w1).alloc _
    refine ⟨⟨?_, ⟨[], m1.but k2 (fun h => h), fun p hp => absurd hp List.not_mem_nil, fun K b t e => by cases e⟩, h1, h2, by omega, Tok.none 0⟩, k1.trans k2⟩
    rw [hN]
    exact Blk.new (L := [.int .i64 (half : Int), .int .i64 0, .map (some g)]) s1
  have HS1 := Hid.mk' s1
  have i1 : ¬ (N < 1) := by omega
  have i2 : ¬ (1000 < N) := by omega
  rw [← hg, ← hN]
  clear hN h1 h2 s1 k1 m1 hw1 hg
  go_enter Try.func43, Try.ntmps43
  go_wp2_with (first
    | (refine wpList_runH rfl (exec_mkMap rfl HMM.out) ?_)
    | fail)
  rw [HS1.out]
  exact bodyPost_ret (results_tmp2 rfl _ _ _) rfl ⟨rfl, HF.out⟩
end
end Go.Proofs.Ytmlklmhochihbaa
/- Slices of numbers; an argument that is one. -/
namespace Go.Proofs.Ytmlklmhochihbaa
open Go.ChangeShapes Go.WideShapes Go.ChangeAt Go.RowKit Go.Deep

/-- The slice v holds these numbers. -/
def Nums (w : World) (v : Value) (fs : List Int) : Prop := (∀ x ∈ fs, -9223372036854775808 ≤ x ∧ x ≤ 9223372036854775807) ∧ fs.length ≤ 140737488355328 ∧ ((fs = [] ∧ (v = .slice none 0 0 ∨ ∃ a cap, v = .slice (some a) 0 cap)) ∨ (0 < fs.length ∧ ∃ b off cap, v = .slice (some ⟨b, off, none⟩) fs.length cap ∧ fs.length ≤ cap ∧ b < w.heap.size ∧ ∀ i, i < fs.length → w.cell? ⟨b, off + i, none⟩ = some (.int .i64 (fs.getD i 0))))
theorem Nums.but {R : Nat → Prop} {w w' : World} {v : Value} {fs : List Int} (h : Nums w v fs) (k : But R w w') (hr : ∀ j, v.ownBlock = some j → j < w.heap.size → ¬ R j) : Nums w' v fs := by
  obtain ⟨h1, h2, h3 | ⟨h0, b, off, cap, rfl, hcap, hb, hc⟩⟩ := h
  · exact ⟨h1, h2, .inl h3⟩
  · exact ⟨h1, h2, .inr ⟨h0, b, off, cap, rfl, hcap, Nat.lt_of_lt_of_le hb k.size, fun i hi => (World.cell?_of_block (k.block b hb (hr b rfl hb))).trans (hc i hi)⟩⟩
theorem Nums.grow {w w' : World} {v : Value} {fs : List Int} (h : Nums w v fs) (k : Grow w w') : Nums w' v fs := h.but k (fun _ _ _ h => h)
theorem Nums.len {w : World} {v : Value} {fs : List Int} (h : Nums w v fs) : ∃ ao cap, v = .slice ao fs.length cap := by
  obtain ⟨h1, h2, ⟨rfl, rfl | ⟨a, cap, rfl⟩⟩ | ⟨h0, b, off, cap, rfl, hb, hc⟩⟩ := h
  · exact ⟨none, 0, rfl⟩
  · exact ⟨some a, cap, rfl⟩
  · exact ⟨_, cap, rfl⟩
theorem Nums.at {w : World} {v : Value} {fs : List Int} (h : Nums w v fs) (h0 : 0 < fs.length) : ∃ b off cap, v = .slice (some ⟨b, off, none⟩) fs.length cap ∧ fs.length ≤ cap ∧ b < w.heap.size ∧ ∀ i, i < fs.length → w.cell? ⟨b, off + i, none⟩ = some (.int .i64 (fs.getD i 0)) := by
  obtain ⟨h1, h2, ⟨rfl, -⟩ | ⟨h0, h3⟩⟩ := h
  · simp at h0
  · exact h3
abbrev numv (ks : List Int) : List Value := ks.map fun k => Value.int .i64 k
theorem infNum : (Try.prog.info? 3).map (fun i => (i.zero, i.size, i.bytes)) = some (some (.int .i64 0), 1, 8) := by kernel_rfl
/-- An own row of numbers. -/
theorem Nums.ofRow {w : World} {base : Nat} {v : Value} {ks : List Int} (h : w.ownsRow base 3 1 v ks.length (numv ks)) (hk : ∀ x ∈ ks, -9223372036854775808 ≤ x ∧ x ≤ 9223372036854775807) (hl : ks.length ≤ 140737488355328) : Nums w v ks := by
  have hc := h
  obtain ⟨h1, ⟨e, h0⟩ | ⟨g, cap, cur, rfl, hg, hh, hcap, r⟩⟩ := h
  · have := List.eq_nil_of_length_eq_zero h0
    exact ⟨hk, hl, .inl ⟨this, .inl e⟩⟩
  · by_cases h0 : ks.length = 0
    · refine ⟨hk, hl, .inl ⟨List.eq_nil_of_length_eq_zero h0, .inr ⟨_, cap, by rw [h0]⟩⟩⟩
    · refine ⟨hk, hl, .inr ⟨by omega, g, 0, cap, rfl, hcap, lt_of_block hh, fun i hi => ?_⟩⟩
      have h2 := hc.cells (g := g) rfl i (.int .i64 (ks.getD i 0)) (by simp [numv, hi])
      have e : (⟨g, 0, none⟩ : Addr).add i = ⟨g, 0 + i, none⟩ := addr_add g 0 i
      rw [e] at h2
      exact h2
/-- Numbers are put behind none. -/
theorem exec_clone {w : World} {o : Oper} {ρ : Operand → Value} {g : Nat} {u : Value} {ks : List Int} {x y : Operand} (ho : o.op = .call { callee := .builtin .append, args := #[x, y], argTypes := #[40, 40] }) (hx : ρ x = .slice (some ⟨g, 0, none⟩) 0 0) (hg : Blk w g 3 []) (hy : ρ y = u) (hu : Nums w u ks) (hl : ks.length ≤ 100000) :
    ∃ v' w', (execOp ρ o).run Try.prog w = .ok (.value v') w' ∧ Nums w' v' ks ∧ (∀ k, v'.ownBlock = some k → k = g ∨ k = w.heap.size) ∧ But (· = g) w w' := by
  have hrow : w.ownsRow 0 3 1 (.slice (some ⟨g, 0, none⟩) 0 0) 0 [] := ⟨rfl, .inr ⟨g, 0, #[], rfl, Nat.zero_le _, hg, Nat.le_refl _, Nat.zero_le _, rfl, rfl⟩⟩
  have key : ∀ (ad : Addr) (c : Nat), u = .slice (some ad) ks.length c → (∀ j z, (numv ks)[j]? = some z → w.cell? (ad.add j) = some z) → ∃ v' w', (execOp ρ o).run Try.prog w = .ok (.value v') w' ∧ Nums w' v' ks ∧ (∀ k, v'.ownBlock = some k → k = g ∨ k = w.heap.size) ∧ But (· = g) w w' := fun ad c e hc => by
    obtain ⟨v', w', hr, ha⟩ := exec_append (news := numv ks) Try.underlying40 infNum rfl (by decide) ho hx hrow (hy.trans e) (by simp [numv]) hc (fun z hz => by obtain ⟨k, -, rfl⟩ := List.mem_map.1 hz; rfl) (by omega) (by decide)
    refine ⟨v', w', hr, Nums.ofRow (base := 0) (by have := ha.own; rw [List.nil_append, Nat.zero_add] at this; exact this) hu.1 hu.2.1, fun k hk => ?_, ha.but.mono (fun b _ e => by
      have e' : some g = some b := e
      exact (Option.some.inj e').symm)⟩
    rcases ha.at' with e2 | e2
    · rw [e2] at hk
      have hk' : some g = some k := hk
      exact .inl (Option.some.inj hk').symm
    · rw [e2] at hk
      exact .inr (Option.some.inj hk).symm
  obtain ⟨h1, h2, ⟨rfl, e | ⟨a, cap, e⟩⟩ | ⟨h0, b, off, cap, e, hcap, hb, hc⟩⟩ := hu
  · obtain ⟨i0, hi, hz0, hz1, hz2⟩ := info_parts infNum
    have hrun := run_append_owned_none (P := Try.prog) w 0 40 o.type 3 i0 1 Try.underlying40 hi _ 0 [] hrow
    refine ⟨.slice (some ⟨g, 0, none⟩) 0 0, w, ?_, ⟨h1, h2, .inl ⟨rfl, .inr ⟨⟨g, 0, none⟩, 0, rfl⟩⟩⟩, fun k hk => ?_, But.refl _ _⟩
    · unfold execOp
      simp only [ho, resolve, invoke, builtin, Sem.run_bind, Sem.run_pure, Result.andThen_ok, List.map_toArray, List.map_cons, List.map_nil, hx, hy, e, hrun]
    · have hk' : some g = some k := hk
      exact .inl (Option.some.inj hk').symm
  · exact key a cap e (fun j z hz => by simp [numv] at hz)
  · refine key ⟨b, off, none⟩ cap e (fun j z hz => ?_)
    have hj : j < ks.length := by
      rcases Nat.lt_or_ge j ks.length with h | h
      · exact h
      · rw [List.getElem?_eq_none (by simpa [numv] using h)] at hz; cases hz
    rw [addr_add, hc j hj, ← hz]
    simp [numv, hj]
theorem i64slice : Try.prog.underlying 40 = some (.slice (Try.prog.elem 40)) := by kernel_rfl
/-- A slice from its second number on. -/
theorem cut_one {b off n cap : Nat} (hc : n + 1 ≤ cap) : ∃ A c, (∀ w0 : World, (Instr.sliceAt 40 (.slice (some ⟨b, off, none⟩) (n + 1) cap) (some (.int .i64 1)) none none).run Try.prog w0 = .ok (.slice (some A) n c) w0) ∧ (0 < n → A = ⟨b, off + 1, none⟩) := by
  have he : Try.prog.elem 40 = 3 := by kernel_rfl
  have hs : ∀ w0 : World, (sizeOf 3).run Try.prog w0 = .ok 1 w0 := fun w0 => by kernel_rfl
  refine ⟨if cap = 1 then ⟨b, off, none⟩ else ⟨b, off + 1, none⟩, cap - 1, fun w0 => ?_, fun h => by rw [if_neg (by omega)]⟩
  rw [run_sliceAt_slice _ _ _ _ _ _ i64slice, run_slice_l w0 _ _ _ _ i64slice .i64 1 (by omega) (by omega), he, hs]
  by_cases hcn : cap = 1 <;> simp [Result.andThen, sliced, hcn, Addr.add]
section
variable {H : Type} {enc : TypeId × Value → H} {P : Program} {w : World} {base : Nat} {spare : Nat → Bool} {held : Bool}
theorem view_nums {t e : TypeId} {v : Value} {d : DataW H} {ps : List MemPlace} {r : Reach} {b0 : Nat} {ts : List TypeId} {ds : List (DataW H)} {j : Nat}
    (hu : P.underlying t = some (.slice e)) (hf : P.underlying e = some (.int .i64)) (hc : P.cellsOf e = 1) (hb : P.bytesOf e = 8)
    (hval : Value.okWide P w r b0 t v) (h : DataW.Trod enc P w base spare held t v d ps) (hlt : ∀ x ∈ ps, x.block < w.heap.size)
    (hsz : (DataW.weightsEach P ts ds).all (· ≤ reachBytes) = true) (ht : ts[j]? = some t) (hd : ds[j]? = some d) : ∃ fs, Nums w v fs := by
  obtain ⟨a0, len, cap, rfl⟩ := okWide_slice hu hval
  obtain ⟨fuel, hf1⟩ := h
  rcases open_slice1 hu hc hf1 with ⟨hcs, _⟩ | ⟨a, len', cap', m, n, V, D, Pl, hcs, _, hl, hm, hmm, hx, hcell⟩
  · simp [Value.cells] at hcs
    obtain ⟨rfl, rfl, rfl⟩ := hcs
    exact ⟨[], nofun, by simp, .inl ⟨rfl, .inl rfl⟩⟩
  · simp [Value.cells] at hcs
    obtain ⟨rfl, rfl, rfl⟩ := hcs
    simp only [Prod.mk.injEq] at hx
    obtain ⟨rfl, rfl⟩ := hx
    have hlm : len ≤ m := by rw [hmm]; split <;> omega
    have hreach : len * 8 ≤ 140737488351232 := by
      have := sized_slice hsz ht hd hu
      rw [hb] at this
      simp only [List.length_map, List.length_range, reachBytes] at this
      omega
    have hfl : ∀ i, i < len → ∃ b : Int, V i = .int .i64 b ∧ -9223372036854775808 ≤ b ∧ b ≤ 9223372036854775807 := by
      intro i hi
      obtain ⟨b, hb1, _, hw0⟩ := DataW.trod_int hf (hcell i (by omega)).2
      have h8 : IntKind.i64.min ≤ b ∧ b ≤ IntKind.i64.max := by simpa [Lit.wf, go_sem] using hw0
      have e1 : IntKind.i64.min = -9223372036854775808 := rfl
      have e2 : IntKind.i64.max = 9223372036854775807 := rfl
      simp only [List.cons.injEq, and_true] at hb1
      exact ⟨b, hb1, by omega, by omega⟩
    obtain ⟨B, hB⟩ := choose_lt (α := Int) (p := fun i b => V i = .int .i64 b ∧ -9223372036854775808 ≤ b ∧ b ≤ 9223372036854775807) hfl
    refine ⟨(List.range len).map B, ?_, by simp; omega, ?_⟩
    · intro z hz
      obtain ⟨i, hi, rfl⟩ := List.mem_map.1 hz
      exact (hB i (by simpa using hi)).2
    · by_cases h0 : len = 0
      · subst h0; exact .inl ⟨by simp, .inr ⟨_, _, rfl⟩⟩
      · right
        obtain ⟨b, off, spot⟩ := a
        have hspot : spot = none := by simpa [Addr.add] using World.cell?_spot (hcell 0 (by omega)).1
        subst hspot
        refine ⟨by simp; omega, b, off, cap, by simp, by simpa using hl, hlt (.cell b off) (List.mem_append_left _ (MemPlace.mem_row.2 ⟨0, by omega, by simp⟩)), ?_⟩
        intro i hi
        have hi' : i < len := by simpa using hi
        rw [← add_plain, (hcell i (by omega)).1, (hB i hi').1]
        simp [hi']
end
end Go.Proofs.Ytmlklmhochihbaa
/- Coldest. -/
namespace Go.Proofs.Ytmlklmhochihbaa
open Go.RowKit

/-- What Of tells, whatever memory is made. -/
structure Ofs (w : World) (f : Nat) (p : Value) (H : Int → Nat) : Prop where
  call : ∀ w', Grow w w' → ∀ K, i64 K → Calls Try.prog f #[p, .int .i64 K] w' fun e w'' => e = .returned (.float .f64 (H K)) ∧ Grow w' w''
  lt : ∀ K, H K < 18446744073709551616
theorem Ofs.grow {w w' : World} {f : Nat} {p : Value} {H : Int → Nat} (h : Ofs w f p H) (k : Grow w w') : Ofs w' f p H := ⟨fun w2 k2 => h.call w2 (k.trans k2), h.lt⟩
theorem ofs_nil (w : World) : Ofs w 63 (.pointer none) (fun _ => 0) :=
  ⟨fun w' _ K _ => (of_nil w' K).mono (fun e w'' h => ⟨h.1, by rw [h.2]; exact But.refl _ _⟩), fun _ => by decide⟩
theorem ofs_any {w : World} {gh gm half now : Nat} {T : Tb} (h : HtM w gh gm half now T) : Ofs w 63 (.pointer (some ⟨gh, 0, none⟩)) (hof half now T) :=
  ⟨fun _ k _ hK => of_any (h.grow k) hK, fun K => hof_lt h.ok K⟩
theorem coldest_none (w : World) (p v : Value) (h : ∃ ao cap, v = .slice ao 0 cap) : Calls Try.prog 52 #[p, v] w fun e w' => e = .returned (.tuple #[.int .i64 0, .bool false]) ∧ w' = w := by
  obtain ⟨ao, cap, rfl⟩ := h
  go_enter Try.func52, Try.ntmps52
  go_wp2
  exact bodyPost_ret (results_tmp2 rfl _ _ _) rfl ⟨rfl, rfl⟩
set_option maxRecDepth 100000 in
set_option maxHeartbeats 1000000 in
theorem coldest_some {w : World} {p : Value} {H : Int → Nat} {v : Value} {ks : List Int} (h : Ofs w 63 p H) (hv : Nums w v ks) (h0 : 0 < ks.length) :
    Calls Try.prog 52 #[p, v] w fun e w' => e = .returned (.tuple #[.int .i64 (coldest H ks), .bool true]) ∧ Grow w w' := by
  have HV := Hid.mk' hv
  have HI : Hid (∀ x ∈ ks, i64 x) := hv.1
  have hlen := hv.2.1
  obtain ⟨b, off, cap, rfl, hcap0, hb, hc⟩ := hv.at h0
  have hcap : ∃ n, ks.length = n + 1 := ⟨ks.length - 1, by omega⟩
  obtain ⟨n, hn⟩ := hcap
  have HC : Hid (∀ w', Grow w w' → ∀ i, i < n + 1 → w'.cell? ⟨b, off + i, none⟩ = some (.int .i64 (ks.getD i 0))) := fun w' k i hi => grow_cell k (hc i (by omega))
  have HN := Hid.mk' hn
  have HO := Hid.mk' h
  have HG : Hid (∀ i, i < n + 1 → i64 (ks.getD i 0)) := fun i hi => HI.out _ (by
    have hi' : i < ks.length := by have := HN.out; omega
    rw [List.getD_eq_getElem?_getD, List.getElem?_eq_getElem hi']
    exact List.getElem_mem hi')
  obtain ⟨A, c9, hsl, hA⟩ := cut_one (b := b) (off := off) (n := n) (cap := cap) (by omega)
  have HSL := Hid.mk' hsl
  have HA := Hid.mk' hA
  clear hsl hA hcap0
  rw [hn] at hlen ⊢
  clear hv hc hb h0 hn h
  obtain ⟨k0, hk0⟩ : ∃ k0, k0 = ks.getD 0 0 := ⟨_, rfl⟩
  have c0 : w.cell? ⟨b, off, none⟩ = some (.int .i64 k0) := by rw [hk0]; exact HC.out w (But.refl _ _) 0 (by omega)
  have HK0 : Hid (coldest H (ks.take 1) = k0) := by
    show _ = _
    rw [hk0]
    have := HN.out
    cases ks with
    | nil => simp at this
    | cons a l => rfl
  have HI0 : Hid (i64 k0) := by rw [hk0]; exact HG.out 0 (by omega)
  clear hk0
  go_enter Try.func52, Try.ntmps52
  go_wp2_with fail
  refine Calls.mono (HO.out.call _ (But.refl _ _) k0 HI0.out) ?_
  rintro e w' ⟨rfl, hg1⟩
  have HG1 := Hid.mk' hg1
  clear hg1 c0
  go_wp2_with (first
    | (refine wpList_runH rfl (exec_slc rfl rfl rfl rfl (HSL.out _)) ?_)
    | fail)
  go_loopw [24, 6, 7] (fun i c l wr => ∃ k : Nat, k ≤ n ∧ i = .int .i64 k ∧ c = .int .i64 (coldest H (ks.take (k + 1))) ∧ l = .float .f64 (H (coldest H (ks.take (k + 1)))) ∧ i64 (coldest H (ks.take (k + 1))) ∧ Grow w wr) (fun i _ _ _ => n - (intOf i).toNat)
  case atStart => exact ⟨0, Nat.zero_le _, rfl, by rw [HK0.out], by rw [HK0.out], by rw [HK0.out]; exact HI0.out, HG1.out⟩
  case round =>
    obtain ⟨k, hk, rfl, rfl, rfl, hic, hgr⟩ := hrel
    have HIC := Hid.mk' hic
    have HGR := Hid.mk' hgr
    have HNX := Hid.mk' (coldest_next H ks (k + 1) (by omega))
    by_cases hlt : k < n
    · have hA := HA.out (by omega)
      subst hA
      have hnx := HNX.out (by have := HN.out; omega)
      obtain ⟨x, hx⟩ : ∃ x, x = ks.getD (k + 1) 0 := ⟨_, rfl⟩
      have cx : wr.cell? ⟨b, off + 1 + k, none⟩ = some (.int .i64 x) := by
        rw [hx, show off + 1 + k = off + (k + 1) by omega]
        exact HC.out wr hgr (k + 1) (by omega)
      have HX : Hid (i64 x) := by rw [hx]; exact HG.out (k + 1) (by omega)
      rw [← hx] at hnx
      obtain ⟨c, hc⟩ : ∃ c, c = coldest H (ks.take (k + 1)) := ⟨_, rfl⟩
      rw [← hc] at hnx HIC ⊢
      have HC1 := Hid.mk' hc
      rw [← colder_prog] at hnx
      have HNN := Hid.mk' hnx
      have hki : (k : Int) < (n : Int) := by omega
      have HLX := Hid.mk' (HO.out.lt x)
      have HLC := Hid.mk' (HO.out.lt c)
      have HOX := Hid.mk' (HO.out.call wr hgr x HX.out)
      obtain ⟨hX, hhX⟩ : ∃ y, y = H x := ⟨_, rfl⟩
      obtain ⟨hCc, hhC⟩ : ∃ y, y = H c := ⟨_, rfl⟩
      have HHX := Hid.mk' hhX
      have HHC := Hid.mk' hhC
      rw [← hhX] at HLX HOX HNN
      rw [← hhC] at HLC HNN ⊢
      clear hgr hic hx hc hnx hhX hhC HNX
      go_wp2_with fail
      refine Calls.mono HOX.out ?_
      rintro e w2 ⟨rfl, hg2⟩
      have HG2 := Hid.mk' (HGR.out.trans hg2)
      clear hg2
      go_wp2_with fail
      refine Calls.mono (less_any hX hCc w2 HLX.out HLC.out) ?_
      rintro e w3 ⟨rfl, hw⟩
      have h2 := hw.symm
      subst h2
      clear hw
      cases h1 : ls hX hCc
      case true =>
        have HE : Hid (coldest H (ks.take (k + 1 + 1)) = x) := by show _ = _; rw [HNN.out, h1]; rfl
        clear h1 HNN
        go_wp2
        go_roundw
        case rel => exact ⟨k + 1, by omega, by go_num, by rw [HE.out], by rw [HE.out, HHX.out], by rw [HE.out]; exact HX.out, HG2.out⟩
        case measure => simp [intOf]; omega
      case false =>
        by_cases h2 : x < c
        · have h2d : decide (x < c) = true := by simpa using h2
          go_wp2_with fail
          refine Calls.mono (less_any hCc hX w2 HLC.out HLX.out) ?_
          rintro e w3 ⟨rfl, hw⟩
          have h4 := hw.symm
          subst h4
          clear hw
          cases h3 : ls hCc hX
          case true =>
            have HE : Hid (coldest H (ks.take (k + 1 + 1)) = c) := by show _ = _; rw [HNN.out, h1, h2d, h3]; rfl
            clear h1 h2 h2d h3 HNN
            go_wp2
            go_roundw
            case rel => exact ⟨k + 1, by omega, by go_num, by rw [HE.out], by rw [HE.out, HHC.out], by rw [HE.out]; exact HIC.out, HG2.out⟩
            case measure => simp [intOf]; omega
          case false =>
            have HE : Hid (coldest H (ks.take (k + 1 + 1)) = x) := by show _ = _; rw [HNN.out, h1, h2d, h3]; rfl
            clear h1 h2 h2d h3 HNN
            go_wp2
            go_roundw
            case rel => exact ⟨k + 1, by omega, by go_num, by rw [HE.out], by rw [HE.out, HHX.out], by rw [HE.out]; exact HX.out, HG2.out⟩
            case measure => simp [intOf]; omega
        · have h2d : decide (x < c) = false := by simpa using h2
          have HE : Hid (coldest H (ks.take (k + 1 + 1)) = c) := by show _ = _; rw [HNN.out, h1, h2d]; rfl
          clear h1 HNN h2d
          go_wp2
          go_roundw
          case rel => exact ⟨k + 1, by omega, by go_num, by rw [HE.out], by rw [HE.out, HHC.out], by rw [HE.out]; exact HIC.out, HG2.out⟩
          case measure => simp [intOf]; omega
    · have hki : ¬ ((k : Int) < (n : Int)) := by omega
      have HE : Hid (coldest H (ks.take (k + 1)) = coldest H ks) := by
        show _ = _
        rw [List.take_of_length_le (by have := HN.out; omega)]
      clear hic hgr
      go_wp2
      exact bodyPost_ret (results_tmp2 rfl _ _ _) rfl ⟨by rw [HE.out]; rfl, HGR.out⟩
end Go.Proofs.Ytmlklmhochihbaa
/- The reference's heats as a list: which heat a key has. -/
namespace Go.Proofs.Ytmlklmhochihbaa
open Go.RowKit

abbrev Sp := Int × Nat × Nat
def spc (e : Sp) : List Value := [.int .i64 e.1, .float .f64 e.2.1, .int .i64 (e.2.2 : Int)]
theorem spc_len (e : Sp) : (spc e).length = 3 := rfl
/-- Of a list the first one of a key. -/
def look (L : List Sp) : Tb := fun k => (L.find? (fun e => e.1 == k)).map (·.2)
section
variable {L : List Sp}
theorem look_at {K : Int} {i : Nat} (hi : i < L.length) (hk : (L.getD i (0, 0, 0)).1 = K) (hn : ∀ j, j < i → (L.getD j (0, 0, 0)).1 ≠ K) : look L K = some (L.getD i (0, 0, 0)).2 := by
  unfold look
  have h : List.find? (fun e : Sp => e.1 == K) L = some (L.getD i (0, 0, 0)) := by
    rw [List.find?_eq_some_iff_getElem]
    refine ⟨by simpa using hk, i, hi, ?_, fun j hj => ?_⟩
    · rw [List.getD_eq_getElem?_getD, List.getElem?_eq_getElem hi]; rfl
    · have := hn j hj
      rw [List.getD_eq_getElem?_getD, List.getElem?_eq_getElem (by omega)] at this
      simpa using this
  rw [h]
  rfl
theorem look_none' {K : Int} (hn : ∀ j, j < L.length → (L.getD j (0, 0, 0)).1 ≠ K) : look L K = none := by
  unfold look
  rw [List.find?_eq_none.2]
  · rfl
  · intro e he
    obtain ⟨j, hj, rfl⟩ := List.getElem_of_mem he
    have := hn j hj
    rw [List.getD_eq_getElem?_getD, List.getElem?_eq_getElem hj] at this
    simpa using this
theorem look_drop (L : List Sp) (K k : Int) : look (L.filter (fun e => !(e.1 == K))) k = tdrop (look L) K k := by
  unfold look tdrop
  rw [List.find?_filter]
  by_cases hk : k = K
  · rw [if_pos hk, List.find?_eq_none.2]
    · rfl
    · intro e he; subst hk; simp
  · rw [if_neg hk]
    congr 1
    congr 1
    funext e
    by_cases h : e.1 = k
    · simp [h, hk]
    · simp [h]
theorem look_put (L : List Sp) (K k : Int) (x t : Nat) : look (L.filter (fun e => !(e.1 == K)) ++ [(K, x, t)]) k = tput (look L) K x t k := by
  have h := look_drop L K k
  unfold look at h ⊢
  rw [List.find?_append]
  unfold tput
  by_cases hk : k = K
  · rw [if_pos hk, List.find?_eq_none.2]
    · subst hk; simp
    · intro e he
      have := (List.mem_filter.1 he).2
      subst hk
      simpa using this
  · rw [if_neg hk]
    unfold tdrop at h
    rw [if_neg hk] at h
    rw [← h]
    have e2 : (List.find? (fun e : Sp => e.1 == k) [(K, x, t)]) = none := by
      simp; exact fun e => hk e.symm
    rw [e2, Option.or_none]
end
theorem wpList_someH {ops : Array Oper} {rest : List Oper} {o : Oper} {a : Act} {w : World} {Q : Exit → Act → World → Prop} {Φ : Value → World → Prop} (hgd : o.guard = none) (hr : ∃ v w', (execOp a.eval o).run Try.prog w = .ok (.value v) w' ∧ Φ v w') (h : ∀ v w', Φ v w' → wpList Try.prog ops Q rest (a.put o.dst v) w') : wpList Try.prog ops Q (o :: rest) a w := by
  obtain ⟨v, w', h1, h2⟩ := hr
  exact wpList_runH hgd h1 (h v w' h2)
theorem infSp : (Try.prog.info? 107).map (fun i => (i.zero, i.size, i.bytes)) = some (some (.agg #[.int .i64 0, .float .f64 0, .int .i64 0]), 3, 24) := by kernel_rfl
theorem iSp : (Try.prog.info? 107).map (·.size) = some 3 := by kernel_rfl
theorem spc_one (e : Sp) : ∀ u ∈ spc e, u.oneCell' = true := by
  intro u hu
  unfold spc at hu
  rcases List.mem_cons.1 hu with rfl | hu
  · rfl
  rcases List.mem_cons.1 hu with rfl | hu
  · rfl
  rcases List.mem_cons.1 hu with rfl | hu
  · rfl
  · cases hu
theorem built_sp (K : Int) (x t : Nat) (w : World) : (Instr.build 107 #[(0, .int .i64 K), (1, .float .f64 x), (2, .int .i64 (t : Int))]).run Try.prog w = .ok (.agg #[.int .i64 K, .float .f64 x, .int .i64 (t : Int)]) w := run_build w _ _ _ (by kernel_rfl)
/-- One more. -/
def touched (half now : Nat) (L : List Sp) (K : Int) (y : Nat) : List Sp := L.filter (fun e => !(e.1 == K)) ++ [(K, radd (hof half (now + 1) (look L) K) y, now + 1)]
theorem touched_len (half now : Nat) (L : List Sp) (K : Int) (y : Nat) (h : L.length ≤ now) : (touched half now L K y).length ≤ now + 1 := by
  unfold touched
  rw [List.length_append, List.length_singleton]
  have := List.length_filter_le (fun e : Sp => !(e.1 == K)) L
  omega
theorem look_touched (half now : Nat) (L : List Sp) (K : Int) (y : Nat) : look (touched half now L K y) = ttouch half now (look L) K y := by
  funext k
  unfold touched ttouch
  exact look_put L K k _ _
theorem look_dropped (L : List Sp) (K : Int) : look (L.filter (fun e => !(e.1 == K))) = tdrop (look L) K := by
  funext k
  exact look_drop L K k
end Go.Proofs.Ytmlklmhochihbaa
/- The reference's heats: how they lie in memory; Of. -/
namespace Go.Proofs.Ytmlklmhochihbaa
open Go.RowKit

structure FhM (w : World) (gx : Nat) (m0 m1 m2 m3 v : Value) (half now : Nat) (L : List Sp) : Prop where
  blk : Blk w gx 72 [m0, m1, m2, m3, .int .i64 (half : Int), .int .i64 (now : Int), v]
  row : RowOf w (fun k => k ≠ gx) 107 3 v L.length (L.flatMap spc)
  h1 : 1 ≤ half
  h2 : half ≤ 1000
  nw : now ≤ 1000000
  ln : L.length ≤ now
  ok : ∀ e ∈ L, i64 e.1 ∧ e.2.1 < 18446744073709551616 ∧ e.2.2 ≤ now
section
variable {w w' : World} {gx half now : Nat} {m0 m1 m2 m3 v : Value} {L : List Sp} {R : Nat → Prop}
theorem FhM.but (h : FhM w gx m0 m1 m2 m3 v half now L) (k : But R w w') (h1 : ¬ R gx) (h2 : ∀ j, v.ownBlock = some j → ¬ R j) : FhM w' gx m0 m1 m2 m3 v half now L :=
  ⟨h.blk.but k h1, ⟨ownsRow_but h.row.own k h2, h.row.inF⟩, h.h1, h.h2, h.nw, h.ln, h.ok⟩
theorem FhM.grow (h : FhM w gx m0 m1 m2 m3 v half now L) (k : Grow w w') : FhM w' gx m0 m1 m2 m3 v half now L := h.but k (fun h => h) (fun _ _ h => h)
theorem FhM.at (h : FhM w gx m0 m1 m2 m3 v half now L) {i : Nat} (hi : i < L.length) : ∃ g cap, v = .slice (some ⟨g, 0, none⟩) L.length cap ∧ ∀ c u, (spc (L.getD i (0, 0, 0)))[c]? = some u → w.cell? ⟨g, i * 3 + c, none⟩ = some u := by
  obtain ⟨ao, cap, e, h2⟩ := h.row.shape
  obtain ⟨g, rfl, h3, -, h5⟩ := h2 (by omega)
  exact ⟨g, cap, e, fun c u hu => h5 _ _ (flat_at L (fun e _ => spc_len e) i _ c u (by rw [List.getD_eq_getElem?_getD, List.getElem?_eq_getElem hi]; rfl) hu)⟩
theorem FhM.len (h : FhM w gx m0 m1 m2 m3 v half now L) : ∃ ao cap, v = .slice ao L.length cap := by
  obtain ⟨ao, cap, e, -⟩ := h.row.shape
  exact ⟨ao, cap, e⟩
set_option maxRecDepth 100000 in
set_option maxHeartbeats 1000000 in
theorem frof_any (h : FhM w gx m0 m1 m2 m3 v half now L) (K : Int) : Calls Try.prog 56 #[.pointer (some ⟨gx, 4, none⟩), .int .i64 K] w fun e w' => e = .returned (.float .f64 (hof half now (look L) K)) ∧ Grow w w' := by
  have HH := Hid.mk' h
  obtain ⟨ao, cap, rfl⟩ := h.len
  obtain ⟨n, hn⟩ : ∃ n, n = L.length := ⟨_, rfl⟩
  have c2 : w.cell? ⟨gx, 6, none⟩ = some (.slice ao n cap) := by rw [hn]; exact h.blk.cell 6
  have HN := Hid.mk' hn
  have hnb : (n : Int) ≤ 1000000 := by have := h.ln; have := h.nw; omega
  clear h hn
  go_enter Try.func56, Try.ntmps56
  go_wp2
  go_loopw [5] (fun iv wr => ∃ i : Nat, i ≤ n ∧ iv = .int .i64 i ∧ (∀ j, j < i → (L.getD j (0, 0, 0)).1 ≠ K) ∧ wr = w) (fun iv _ => n - (intOf iv).toNat)
  case atStart => exact ⟨0, Nat.zero_le _, rfl, fun j hj => absurd hj (by omega), rfl⟩
  case round =>
    obtain ⟨i, hin, rfl, hne, rfl⟩ := hrel
    have HNE := Hid.mk' hne
    clear hne
    by_cases hlt : i < n
    · have hlti : (i : Int) < (n : Int) := by omega
      have hiL : i < L.length := by rw [← HN.out]; exact hlt
      obtain ⟨g, cp, e1, hcell⟩ := HH.out.at hiL
      simp only [Value.slice.injEq] at e1
      obtain ⟨rfl, -, rfl⟩ := e1
      have HOK := Hid.mk' (HH.out.ok _ (show L.getD i (0, 0, 0) ∈ L by rw [List.getD_eq_getElem?_getD, List.getElem?_eq_getElem hiL]; exact List.getElem_mem hiL))
      have HLK := Hid.mk' (fun hk => look_at (K := K) hiL hk HNE.out)
      have HST : Hid (¬ (L.getD i (0, 0, 0)).1 = K → ∀ j, j < i + 1 → (L.getD j (0, 0, 0)).1 ≠ K) := fun hk j hj => by
        by_cases e : j < i
        · exact HNE.out j e
        · rw [show j = i by omega]; exact hk
      obtain ⟨e, he⟩ : ∃ e, e = L.getD i (0, 0, 0) := ⟨_, rfl⟩
      rw [← he] at hcell HOK HLK HST
      obtain ⟨q, b, t⟩ := e
      have c3 : wr.cell? ⟨g, i * 3, none⟩ = some (.int .i64 q) := hcell 0 _ rfl
      have HC4 : Hid (wr.cell? ⟨g, i * 3 + 1, none⟩ = some (.float .f64 b)) := hcell 1 _ rfl
      have HC5 : Hid (wr.cell? ⟨g, i * 3 + 2, none⟩ = some (.int .i64 (t : Int))) := hcell 2 _ rfl
      clear hiL he hcell
      by_cases hq : q = K
      · have hqi : (q == K) = true := by simpa using hq
        obtain ⟨-, hb, ht⟩ := HOK.out
        have hlk := HLK.out hq
        have hh1 := HH.out.h1
        have hh2 := HH.out.h2
        have hnw := HH.out.nw
        obtain ⟨d, hd⟩ : ∃ d, d = now - t := ⟨_, rfl⟩
        obtain ⟨p, hp⟩ : ∃ p, p = d / half := ⟨_, rfl⟩
        have hpd : p ≤ d := by rw [hp]; exact Nat.div_le_self _ _
        have HE : Hid (rt (fd b p) = hof half now (look L) K) := by show _ = _; unfold hof; rw [hlk]; rw [hp, hd]
        have HF := Hid.mk' (fun w => refFade_any b (p : Int) w hb (by omega) (by omega))
        rw [show (p : Int).toNat = p by omega] at HF
        have HR := Hid.mk' (fun w => rright_any (fd b p) w (fd_lt b p hb))
        have HQ : Hid (Int.tdiv (d : Int) (half : Int) = (p : Int) ∧ ¬ half = 0 ∧ (now : Int) - (t : Int) = (d : Int) ∧ IntKind.i64.wrap (d : Int) = (d : Int) ∧ IntKind.i64.wrap (p : Int) = (p : Int)) := by
          simp only at ht
          refine ⟨?_, by omega, by omega, wrapN _ (by omega), wrapN _ (by omega)⟩
          rw [hp]; rfl
        obtain ⟨f, hf⟩ : ∃ f, f = fd b p := ⟨_, rfl⟩
        rw [← hf] at HF HR HE
        clear hb ht hlk hh1 hh2 hnw hd hp hpd hf hq HST HLK HOK
        go_upto_region 5 with fail
        clear c3 c2 hqi hlti
        refine region_chain [] [0, 1, 2, 3, 4, 5, 6, 7, 8, 9, 10, 11, 12, 13, 14, 15, 16, 17, 18, 19, 20, 21, 22, 23, 24, 25, 26, 27, 28] (Grow wr) (Grow wr) (by kernel_rfl) (by kernel_rfl) (fun _ _ h k => h.trans k) (fun _ h => h) ((But.refl _ wr).drew) ?_
        intro ι hne X hX
        have d0 : ∀ x, (X x).cell? ⟨gx, 4, none⟩ = some (.int .i64 (half : Int)) := fun x => ((HH.out.grow (hX x)).blk).cell 4
        have d1 : ∀ x, (X x).cell? ⟨gx, 5, none⟩ = some (.int .i64 (now : Int)) := fun x => ((HH.out.grow (hX x)).blk).cell 5
        have d2 : ∀ x, (X x).cell? ⟨gx, 6, none⟩ = some (.slice (some ⟨g, 0, none⟩) n cap) := fun x => by rw [HN.out]; exact ((HH.out.grow (hX x)).blk).cell 6
        have d4 : ∀ x, (X x).cell? ⟨g, i * 3 + 1, none⟩ = some (.float .f64 b) := fun x => grow_cell (hX x) HC4.out
        have d5 : ∀ x, (X x).cell? ⟨g, i * 3 + 2, none⟩ = some (.int .i64 (t : Int)) := fun x => grow_cell (hX x) HC5.out
        obtain ⟨q1, q2, q3, q4, q5⟩ := HQ.out
        iterate 26 (refine still_step rfl (fun K hK => ?_); go_simp; refine hK _ ?_; clear hK K)
        refine still_call rfl (.float .f64 f) 65 #[.float .f64 b, .int .i64 (p : Int)] rfl (fun x => by kernel_rfl) (fun x => (HF.out (X x)).mono (fun e w' h => ⟨h.1, by rw [h.2]; exact But.refl _ _⟩)) ?_
        intro K hK; go_simp; refine hK _ ?_; clear hK K
        refine still_call rfl (.float .f64 (rt f)) 55 #[.float .f64 f] rfl (fun x => by kernel_rfl) (fun x => (HR.out (X x)).mono (fun e w' h => ⟨h.1, by rw [h.2]; exact But.refl _ _⟩)) ?_
        intro K hK; go_simp; refine hK _ ?_; clear hK K
        iterate 1 (refine still_step rfl (fun K hK => ?_); go_simp; refine hK _ ?_; clear hK K)
        refine still_nil ?_
        clear hX hne d0 d1 d2 d4 d5 q1 q2 q3 q4 q5
        intro w2 hw2
        have HW2 := Hid.mk' hw2
        clear hw2
        go_wp2
        go_ret
        exact ⟨by rw [HE.out]; rfl, HW2.out⟩
      · have hqi : (q == K) = false := by simpa using hq
        have HS2 := Hid.mk' (HST.out hq)
        clear hq HST HLK HOK HC4 HC5
        go_wp2
        exact ⟨⟨i + 1, by omega, by go_num, HS2.out, by first | rfl | trivial⟩, by simp [intOf]; omega⟩
    · have hlti : ¬ ((i : Int) < (n : Int)) := by omega
      have HE : Hid (hof half now (look L) K = 0) := by
        show _ = _
        unfold hof
        rw [look_none' (K := K) (fun j hj => HNE.out j (by have := HN.out; omega))]
      go_wp2
      go_ret
      exact ⟨by rw [HE.out]; rfl, But.refl _ _⟩
end
end Go.Proofs.Ytmlklmhochihbaa
/- The reference: Drop, Touch, Coldest. -/
namespace Go.Proofs.Ytmlklmhochihbaa
open Go.RowKit

/-- What a call on the reference leaves: its row is new. -/
structure FhTo (w : World) (gx : Nat) (m0 m1 m2 m3 : Value) (half now : Nat) (L : List Sp) (w' : World) : Prop where
  ex : ∃ v, FhM w' gx m0 m1 m2 m3 v half now L ∧ ∀ k, v.ownBlock = some k → w.heap.size ≤ k
  but : But (· = gx) w w'
section
variable {w w' : World} {gx half now : Nat} {m0 m1 m2 m3 v : Value} {L : List Sp} {R : Nat → Prop}
theorem FhTo.grow {w'' : World} (h : FhTo w gx m0 m1 m2 m3 half now L w') (k : Grow w' w'') : FhTo w gx m0 m1 m2 m3 half now L w'' := by
  obtain ⟨v, h1, h2⟩ := h.ex
  exact ⟨⟨v, h1.grow k, h2⟩, h.but.trans (k.mono (fun _ _ h => h.elim))⟩
set_option maxRecDepth 100000 in
set_option maxHeartbeats 1000000 in
theorem frdrop_any (h : FhM w gx m0 m1 m2 m3 v half now L) (K : Int) : Calls Try.prog 54 #[.pointer (some ⟨gx, 4, none⟩), .int .i64 K] w fun e w' => e = .returned (.tuple #[]) ∧ FhTo w gx m0 m1 m2 m3 half now (L.filter (fun e => !(e.1 == K))) w' := by
  have HH := Hid.mk' h
  obtain ⟨ao, cap, rfl⟩ := h.len
  obtain ⟨n, hn⟩ : ∃ n, n = L.length := ⟨_, rfl⟩
  have hbk := h.blk
  rw [← hn] at hbk
  have HBK := Hid.mk' hbk
  have HN := Hid.mk' hn
  have hnb : (n : Int) ≤ 1000000 := by have := h.ln; have := h.nw; omega
  have hgx := h.blk.lt
  clear h hn hbk
  go_enter Try.func54, Try.ntmps54
  go_wp2
  go_loopw [4, 5] (fun rv iv wr => ∃ (i : Nat) (r : Value), i ≤ n ∧ iv = .int .i64 i ∧ r = rv ∧ wr.ownsRow 0 107 3 r ((L.take i).filter (fun e => !(e.1 == K))).length (((L.take i).filter (fun e => !(e.1 == K))).flatMap spc) ∧ (∀ k, r.ownBlock = some k → w.heap.size ≤ k) ∧ Grow w wr) (fun _ iv _ => n - (intOf iv).toNat)
  case atStart => exact ⟨0, _, Nat.zero_le _, rfl, rfl, by rw [List.take_zero]; exact World.ownsRow_nil _ _ _ _, (fun k hk => by cases hk), But.refl _ _⟩
  case round =>
    rename_i rv
    obtain ⟨i, r, hin, rfl, rfl, hT, hV, hG⟩ := hrel
    have c2 : wr.cell? ⟨gx, 6, none⟩ = some (.slice ao n cap) := (HBK.out.but hG (fun h => h)).cell 6
    have HT := Hid.mk' hT
    have HV := Hid.mk' hV
    have HG := Hid.mk' hG
    by_cases hlt : i < n
    · have hlti : (i : Int) < (n : Int) := by omega
      have hiL : i < L.length := by rw [← HN.out]; exact hlt
      have HNX : Hid ((L.take (i + 1)).filter (fun e => !(e.1 == K)) = (L.take i).filter (fun e => !(e.1 == K)) ++ (if (L.getD i (0, 0, 0)).1 == K then [] else [L.getD i (0, 0, 0)])) := by
        show _ = _
        rw [List.take_succ_eq_append_getElem hiL, List.filter_append, List.getD_eq_getElem?_getD, List.getElem?_eq_getElem hiL]
        congr 1
        rw [List.filter_cons]
        simp only [Option.getD_some]
        cases (L[i].1 == K) <;> rfl
      obtain ⟨g, cp, e1, hcell⟩ := (HH.out.grow hG).at hiL
      simp only [Value.slice.injEq] at e1
      obtain ⟨rfl, -, rfl⟩ := e1
      obtain ⟨e, he⟩ : ∃ e, e = L.getD i (0, 0, 0) := ⟨_, rfl⟩
      rw [← he] at hcell HNX
      obtain ⟨q, b, t⟩ := e
      have c3 : wr.cell? ⟨g, i * 3, none⟩ = some (.int .i64 q) := hcell 0 _ rfl
      have HCW : Hid (∀ c u, (spc (q, b, t))[c]? = some u → wr.cell? ((⟨g, i * 3, none⟩ : Addr).add c) = some u) := fun c u hc => by
        rw [addr_add]; exact hcell c u hc
      clear hT hV hG hiL he hcell
      by_cases hq : q = K
      · have hqi : (q != K) = false := by simpa using hq
        have HN2 : Hid ((L.take (i + 1)).filter (fun e => !(e.1 == K)) = (L.take i).filter (fun e => !(e.1 == K))) := by show _ = _; rw [HNX.out, if_pos (by simpa using hq), List.append_nil]
        clear hq
        go_wp2
        exact ⟨⟨i + 1, r, by omega, by go_num, rfl, by rw [HN2.out]; exact HT.out, HV.out, HG.out⟩, by simp [intOf]; omega⟩
      · have hqi : (q != K) = true := by simpa using hq
        have HN2 : Hid ((L.take (i + 1)).filter (fun e => !(e.1 == K)) = (L.take i).filter (fun e => !(e.1 == K)) ++ [(q, b, t)]) := by show _ = _; rw [HNX.out, if_neg (by simpa using hq)]
        obtain ⟨F, hF⟩ : ∃ F, F = (L.take i).filter (fun e => !(e.1 == K)) := ⟨_, rfl⟩
        rw [← hF] at HT HN2
        have HFL : Hid (F.length ≤ 1000000 - 1) := by
          show _ ≤ _
          have h5 : F.length ≤ (L.take i).length := by rw [hF]; exact List.length_filter_le _ _
          rw [List.length_take] at h5
          have := HH.out.ln
          have := HH.out.nw
          have := HN.out
          omega
        have HAL : Hid (Grow wr (wr.alloc (.cells #[.int .i64 q, .float .f64 b, .int .i64 (t : Int)] 107))) := (But.refl _ wr).alloc _
        have HBL : Hid (Blk (wr.alloc (.cells #[.int .i64 q, .float .f64 b, .int .i64 (t : Int)] 107)) wr.heap.size 107 (spc (q, b, t))) := Blk.new (L := spc (q, b, t)) rfl
        clear hq hF HNX
        go_wp2_with (first
          | (refine wpList_load_cells rfl _ _ rfl ⟨g, i * 3, none⟩ rfl (spc (q, b, t)) _ HCW.out Try.underlying107 rfl iSp ?_)
          | (refine wpList_runH rfl (exec_row1 Try.underlying68 infSp (by decide) (by decide) rfl rfl rfl) ?_)
          | (refine wpList_someH rfl (exec_append (v := r) (n := F.length) (xs := F.flatMap spc) (news := spc (q, b, t)) Try.underlying68 infSp rfl (by decide) rfl rfl (ownsRow_grow HT.out HAL.out) rfl rfl (fun j u hj => HBL.out.cells0 j u hj) (spc_one _) (by have := HFL.out; omega) (by decide)) ?_; intro v4 w4 hap)
          | fail)
        refine ⟨⟨i + 1, v4, by omega, by go_num, rfl, ?_, fun k hk => ?_, ?_⟩, by simp [intOf]; omega⟩
        · rw [HN2.out, List.length_append, List.length_singleton, List.flatMap_append, show ([(q, b, t)] : List Sp).flatMap spc = spc (q, b, t) by simp]
          exact hap.own
        · rcases hap.at' with e | e
          · exact HV.out k (by rw [← e]; exact hk)
          · rw [e] at hk
            cases hk
            exact Nat.le_trans HG.out.size HAL.out.size
        · exact (HG.out.trans HAL.out).then hap.but (fun j hj e => by have := HV.out j e; omega)
    · have hlti : ¬ ((i : Int) < (n : Int)) := by omega
      have hT2 : wr.ownsRow 0 107 3 r (L.filter (fun e => !(e.1 == K))).length ((L.filter (fun e => !(e.1 == K))).flatMap spc) := by
        rw [List.take_of_length_le (by have := HN.out; omega)] at hT
        exact hT
      have hbk := HBK.out.but hG (fun h => h)
      have f2 : wr.frozen? ⟨gx, 6, none⟩ = false := hbk.free 6
      have hbut : But (· = gx) wr (wr.setCell ⟨gx, 6, none⟩ r) := But.set1 _ _ _ _
      have HFIN : Hid (FhTo w gx m0 m1 m2 m3 half now (L.filter (fun e => !(e.1 == K))) (wr.setCell ⟨gx, 6, none⟩ r)) := by
        have hle := List.length_filter_le (fun e : Sp => !(e.1 == K)) L
        refine ⟨⟨r, ⟨hbk.set 6 r, ⟨ownsRow_but hT2 hbut (fun j hj e => by have := hV j hj; omega), fun k hk e => by have := hV k hk; omega⟩, HH.out.h1, HH.out.h2, HH.out.nw, by have := HH.out.ln; omega, fun e he => HH.out.ok e (List.mem_filter.1 he).1⟩, hV⟩, (hG.mono (fun _ _ h => h.elim)).trans hbut⟩
      obtain ⟨va, vn, vk, rfl⟩ : ∃ a n k, r = .slice a n k := by obtain ⟨-, ⟨e, -⟩ | ⟨g', c', cu, e, -⟩⟩ := hT <;> exact ⟨_, _, _, e⟩
      clear hT hV hG hT2 hbk hbut HT HV HG
      go_wp2
      go_end0
      exact ⟨rfl, HFIN.out⟩
end
end Go.Proofs.Ytmlklmhochihbaa
/- The reference: Touch, Coldest. -/
namespace Go.Proofs.Ytmlklmhochihbaa
open Go.RowKit

section
variable {w w' : World} {gx half now : Nat} {m0 m1 m2 m3 v : Value} {L : List Sp} {R : Nat → Prop}
theorem FhM.on (h : FhM w gx m0 m1 m2 m3 v half now L) (hn : now < 1000000) : FhM (w.setCell ⟨gx, 5, none⟩ (.int .i64 ((now + 1 : Nat) : Int))) gx m0 m1 m2 m3 v half (now + 1) L :=
  ⟨h.blk.set 5 _, h.row.but (But.set1 _ _ _ _) (fun j hj => hj) (fun j hj => hj), h.h1, h.h2, by omega, by have := h.ln; omega, fun e he => by have := h.ok e he; exact ⟨this.1, this.2.1, by omega⟩⟩
set_option maxRecDepth 100000 in
set_option maxHeartbeats 2000000 in
theorem frtouch_any (h : FhM w gx m0 m1 m2 m3 v half now L) {K : Int} (hK : i64 K) {y : Nat} (hn : now < 1000000) : Calls Try.prog 37 #[.pointer (some ⟨gx, 4, none⟩), .int .i64 K, .float .f64 y] w fun e w' => e = .returned (.tuple #[]) ∧ FhTo w gx m0 m1 m2 m3 half (now + 1) (touched half now L K y) w' := by
  have HH1 := Hid.mk' (h.on hn)
  have HL := Hid.mk' h.ln
  have HKK := Hid.mk' hK
  have HB1 : Hid (But (· = gx) w (w.setCell ⟨gx, 5, none⟩ (.int .i64 ((now + 1 : Nat) : Int)))) := But.set1 w gx 5 _
  have c1 : w.cell? ⟨gx, 5, none⟩ = some (.int .i64 (now : Int)) := h.blk.cell 5
  have f1 : w.frozen? ⟨gx, 5, none⟩ = false := h.blk.free 5
  have HGX := Hid.mk' h.blk.lt
  have hw1 : IntKind.i64.wrap ((now : Int) + 1) = ((now + 1 : Nat) : Int) := by have := wrapN (now + 1) (by omega); push_cast at this ⊢; exact this
  have e1 : (now : Int) + 1 = ((now + 1 : Nat) : Int) := by push_cast; rfl
  have e2 : ((now + 1 : Nat) : Int) ≤ 1000000 := by omega
  have HNB : Hid (now + 1 ≤ 1000000) := by show _ ≤ _; omega
  clear h hK hn
  have HTC : Hid (touched half now L K y = L.filter (fun e => !(e.1 == K)) ++ [(K, radd (hof half (now + 1) (look L) K) y, now + 1)]) := rfl
  obtain ⟨n1, hn1⟩ : ∃ n1, n1 = now + 1 := ⟨_, rfl⟩
  have HTL := Hid.mk' (touched_len half now L K y HL.out)
  rw [← hn1] at HH1 HB1 hw1 e1 e2 HNB HTC HTL ⊢
  clear hn1 HL
  obtain ⟨TC, hTC⟩ : ∃ TC, TC = touched half now L K y := ⟨_, rfl⟩
  rw [← hTC] at HTC HTL ⊢
  clear hTC
  have HO := Hid.mk' (frof_any HH1.out K)
  obtain ⟨f, hf⟩ : ∃ f, f = hof half n1 (look L) K := ⟨_, rfl⟩
  rw [← hf] at HO HTC
  clear hf
  go_enter Try.func37, Try.ntmps37
  go_wp2_with fail
  refine Calls.mono HO.out ?_
  rintro e w2 ⟨rfl, hg2⟩
  clear c1 f1 e1 hw1 e2 HO
  have HH2 := Hid.mk' (HH1.out.grow hg2)
  have HB2 := Hid.mk' (HB1.out.trans (hg2.mono (fun _ _ h => h.elim)))
  clear HH1 HB1 hg2
  generalize hx : radd f y = x at *
  obtain ⟨r, w3, hr, hr1, hr2, hr3⟩ := add_run 32 f y w2
  rw [hx] at hr2
  have HX : Hid (x < 18446744073709551616) := by rw [← hx]; exact radd_lt f y
  have HR := Hid.mk' hr
  have hg3 : Grow w2 w3 := by
    rcases hr3 with rfl | rfl
    · exact But.refl _ _
    · exact (But.refl _ w2).drew
  have HRI := Hid.mk' (rright_any r w3 hr1)
  rw [hr2] at HRI
  have HH3 := Hid.mk' (HH2.out.grow hg3)
  have HB3 := Hid.mk' (HB2.out.trans (hg3.mono (fun _ _ h => h.elim)))
  clear hr hr1 hr2 hr3 hx hg3 HH2 HB2
  go_wp2_with (first
    | (refine wpList_runH rfl (exec_add rfl rfl rfl HR.out) ?_)
    | fail)
  refine Calls.mono HRI.out ?_
  rintro e w4 ⟨rfl, hw⟩
  have h2 := hw.symm
  subst h2
  clear hw HRI HR
  go_wp2_with fail
  refine Calls.mono (frdrop_any HH3.out K) ?_
  rintro e w4 ⟨rfl, hto⟩
  obtain ⟨⟨v4, h4, h4n⟩, h4b⟩ := hto
  have HH4 := Hid.mk' h4
  have HV4 : Hid (∀ k, v4.ownBlock = some k → w.heap.size ≤ k) := fun k hk => Nat.le_trans HB3.out.size (h4n k hk)
  have HB4 := Hid.mk' (HB3.out.trans h4b)
  clear h4 h4n h4b HH3 HB3
  obtain ⟨F, hF⟩ : ∃ F, F = L.filter (fun e => !(e.1 == K)) := ⟨_, rfl⟩
  rw [← hF] at HH4 HTC
  clear hF
  obtain ⟨ao, cap, rfl⟩ := HH4.out.len
  obtain ⟨m, hm⟩ : ∃ m, m = F.length := ⟨_, rfl⟩
  have HBK := Hid.mk' HH4.out.blk
  have HRO := Hid.mk' HH4.out.row.own
  have HMB : Hid (m + 1 ≤ n1) := by
    show _ ≤ _
    have h5 := HTL.out
    rw [HTC.out, List.length_append, List.length_singleton] at h5
    omega
  rw [← hm] at HBK HRO HV4
  have HVE : Hid (¬ (.slice ao m cap : Value).ownBlock = some gx) := fun e => HH4.out.row.inF gx (by rw [← hm]; exact e) rfl
  have HM := Hid.mk' hm
  have HOK : Hid (∀ e ∈ TC, i64 e.1 ∧ e.2.1 < 18446744073709551616 ∧ e.2.2 ≤ n1) := fun e he => by
    rw [HTC.out] at he
    rcases List.mem_append.1 he with he | he
    · exact HH4.out.ok e he
    · rw [show e = (K, x, n1) by simpa using he]
      exact ⟨HKK.out, HX.out, Nat.le_refl _⟩
  have H1 := Hid.mk' HH4.out.h1
  have H2 := Hid.mk' HH4.out.h2
  clear hm HH4
  go_upto_region 3 with fail
  refine region_chain [([0, 1, 2, 3, 4, 5, 6, 7, 8, 9, 10, 11], 12), ([], 13), ([14, 15], 16)] [] (But (fun k => (.slice ao m cap : Value).ownBlock = some k) w4) (Grow w4) (by kernel_rfl) (by kernel_rfl) (fun _ _ h k => h.trans k) (fun _ h => h.mono (fun _ _ h => h.elim)) ((But.refl _ w4).drew) ?_
  intro ι hne X hX
  have d1 : ∀ x, (X x).cell? ⟨gx, 5, none⟩ = some (.int .i64 (n1 : Int)) := fun x => (HBK.out.but (hX x) HVE.out).cell 5
  have d2 : ∀ x, (X x).cell? ⟨gx, 6, none⟩ = some (.slice ao m cap) := fun x => (HBK.out.but (hX x) HVE.out).cell 6
  iterate 11 (refine still_step rfl (fun K hK => ?_); go_simp; refine hK _ ?_; clear hK K)
  refine still_val rfl (.agg #[.int .i64 K, .float .f64 x, .int .i64 (n1 : Int)]) rfl (fun z => exec_build _ [_, _, _] rfl [(0, .int .i64 K), (1, .float .f64 x), (2, .int .i64 (n1 : Int))] rfl _ (built_sp K x n1 _)) ?_
  intro K hK; go_simp; refine hK _ ?_; clear hK K
  refine still_nil ?_
  clear hX hne d1 d2 X ι
  refine turn_run rfl rfl (fun u w' => Grow w4 w' ∧ ∃ g, u = .slice (some ⟨g, 0, none⟩) 1 1 ∧ Blk w' g 107 (spc (K, x, n1))) (fun _ => But (fun k => (.slice ao m cap : Value).ownBlock = some k) w4) ?_ (fun _ _ h => h.1.mono (fun _ _ h => h.elim)) ?_ ?_ ?_
  · rintro u w5 w6 ⟨h1, g, h3, h4⟩ k
    exact ⟨h1.trans k, g, h3, h4.but k (fun h => h)⟩
  · exact .inr (fun _ _ h => h)
  · rintro w5 h4
    refine turn_row1 (v := .agg #[.int .i64 K, .float .f64 x, .int .i64 (n1 : Int)]) Try.underlying68 infSp (by decide) (by decide) rfl rfl rfl ⟨h4.trans ((But.refl _ w5).alloc _), _, rfl, ?_⟩
    exact Blk.new (L := spc (K, x, n1)) rfl
  rintro u ⟨wq, -, gn, rfl, -⟩ Y hY
  clear wq
  go_simp
  refine hY _ ?_
  clear hY Y
  intro ι hne X hX
  refine still_nil ?_
  clear hX hne X ι
  refine turn_run rfl rfl (fun u w' => But (fun k => (.slice ao m cap : Value).ownBlock = some k) w4 w' ∧ w'.ownsRow 0 107 3 u (m + 1) (F.flatMap spc ++ spc (K, x, n1)) ∧ (∀ k, u.ownBlock = some k → w.heap.size ≤ k)) (fun _ => But (fun k => (.slice ao m cap : Value).ownBlock = some k) w4) ?_ (fun _ _ h => h.1) (.inr (fun _ _ h => h)) ?_ ?_
  · rintro u w5 w6 ⟨h1, h2, h3⟩ k
    exact ⟨h1.trans (k.mono (fun _ _ h => h.elim)), ownsRow_grow h2 k, h3⟩
  · rintro w5 ⟨h1, g', e9, h3⟩
    cases e9
    refine turn_append (v := .slice ao m cap) (n := m) (xs := F.flatMap spc) (news := spc (K, x, n1)) Try.underlying68 infSp rfl (by decide) rfl rfl (ownsRow_grow HRO.out h1) rfl rfl (fun j u hj => h3.cells0 j u hj) (spc_one _) (by have := HMB.out; have := HNB.out; omega) (by decide) ?_
    intro v' w6 hap
    refine ⟨(h1.mono (fun _ _ h => h.elim)).trans hap.but, hap.own, fun j hj => ?_⟩
    rcases hap.at' with e | e
    · exact HV4.out j (by rw [← e]; exact hj)
    · rw [e] at hj
      cases hj
      exact Nat.le_trans HB4.out.size h1.size
  rintro v2 ⟨wq, -, hov, -⟩ Y hY
  have HV2 : Hid (v2.oneCell' = true) := ownsRow_one hov
  clear hov wq
  go_simp
  refine hY _ ?_
  clear hY Y
  intro ι hne X hX
  iterate 2 (refine still_step rfl (fun K hK => ?_); go_simp; refine hK _ ?_; clear hK K)
  refine still_nil ?_
  clear hX hne X ι
  refine turn_run rfl rfl (fun _ w' => FhTo w gx m0 m1 m2 m3 half n1 TC w') (fun _ _ => True) (fun _ _ _ h k => h.grow k) (fun _ _ _ => trivial) (.inl (by kernel_rfl)) ?_ ?_
  · rintro w5 ⟨h1, h2, h3⟩
    have hbk := HBK.out.but h1 HVE.out
    have hne2 : ∀ k, v2.ownBlock = some k → k ≠ gx := fun k e e3 => by
      have := h3 k e
      have := HGX.out
      omega
    refine turn_store (by kernel_rfl) rfl rfl rfl HV2.out hbk (by simp) ?_
    refine ⟨⟨v2, ⟨hbk.set 6 v2, ⟨?_, hne2⟩, H1.out, H2.out, HNB.out, HTL.out, HOK.out⟩, h3⟩, ?_⟩
    · rw [HTC.out, List.length_append, List.length_singleton, List.flatMap_append, show ([(K, x, n1)] : List Sp).flatMap spc = spc (K, x, n1) by simp, ← HM.out]
      exact ownsRow_but h2 (But.set1 _ _ _ _) (fun j hj => hne2 j hj)
    · exact (HB4.out.then h1 (fun i hi e => by have := HV4.out i e; omega)).trans (But.set1 _ _ _ _)
  rintro v5 - Y hY
  go_simp
  refine hY _ ?_
  clear hY Y
  intro ι hne X hX
  refine still_nil ?_
  clear hX hne
  intro w6 hw6
  have HW6 := Hid.mk' hw6
  clear hw6
  go_wp2
  go_end0
  exact ⟨rfl, HW6.out⟩
end
end Go.Proofs.Ytmlklmhochihbaa
/- The reference: Coldest. -/
namespace Go.Proofs.Ytmlklmhochihbaa
open Go.RowKit

theorem rcoldest_none (w : World) (p v : Value) (h : ∃ ao cap, v = .slice ao 0 cap) : Calls Try.prog 57 #[p, v] w fun e w' => e = .returned (.tuple #[.int .i64 0, .bool false]) ∧ w' = w := by
  obtain ⟨ao, cap, rfl⟩ := h
  go_enter Try.func57, Try.ntmps57
  go_wp2
  exact bodyPost_ret (results_tmp2 rfl _ _ _) rfl ⟨rfl, rfl⟩
set_option maxRecDepth 100000 in
set_option maxHeartbeats 1000000 in
theorem rcoldest_some {w : World} {p : Value} {H : Int → Nat} {v : Value} {ks : List Int} (h : Ofs w 56 p H) (hv : Nums w v ks) (h0 : 0 < ks.length) :
    Calls Try.prog 57 #[p, v] w fun e w' => e = .returned (.tuple #[.int .i64 (coldest H ks), .bool true]) ∧ Grow w w' := by
  have HI : Hid (∀ x ∈ ks, i64 x) := hv.1
  have hlen := hv.2.1
  obtain ⟨b, off, cap, rfl, hcap0, hb, hc⟩ := hv.at h0
  obtain ⟨n, hn⟩ : ∃ n, n = ks.length := ⟨_, rfl⟩
  have HC : Hid (∀ w', Grow w w' → ∀ i, i < n → w'.cell? ⟨b, off + i, none⟩ = some (.int .i64 (ks.getD i 0))) := fun w' k i hi => grow_cell k (hc i (by omega))
  have HN := Hid.mk' hn
  have HO := Hid.mk' h
  have HG : Hid (∀ i, i < n → i64 (ks.getD i 0)) := fun i hi => HI.out _ (by
    have hi' : i < ks.length := by have := HN.out; omega
    rw [List.getD_eq_getElem?_getD, List.getElem?_eq_getElem hi']
    exact List.getElem_mem hi')
  rw [← hn] at hlen h0 ⊢
  clear hv hc hb hn h hcap0
  have hni : ¬ ((n : Int) = 0) := by omega
  have hni0 : (0 : Int) < (n : Int) := by omega
  have hni1 : ((n : Int) == 0) = false := by simpa using hni
  have hlenI : (n : Int) ≤ 140737488355328 := by omega
  obtain ⟨k0, hk0⟩ : ∃ k0, k0 = ks.getD 0 0 := ⟨_, rfl⟩
  have c0 : w.cell? ⟨b, off, none⟩ = some (.int .i64 k0) := by rw [hk0]; exact HC.out w (But.refl _ _) 0 (by omega)
  have HK0 : Hid (coldest H (ks.take 1) = k0) := by
    show _ = _
    rw [hk0]
    have := HN.out
    cases ks with
    | nil => simp at this; omega
    | cons a l => rfl
  have HI0 : Hid (i64 k0) := by rw [hk0]; exact HG.out 0 (by omega)
  clear hk0 hni
  go_enter Try.func57, Try.ntmps57
  go_wp2
  clear c0
  go_loopw [7, 6] (fun i c wr => ∃ k : Nat, 1 ≤ k ∧ k ≤ n ∧ i = .int .i64 k ∧ c = .int .i64 (coldest H (ks.take k)) ∧ i64 (coldest H (ks.take k)) ∧ Grow w wr) (fun i _ _ => n - (intOf i).toNat)
  case atStart => exact ⟨1, Nat.le_refl _, by omega, rfl, by rw [HK0.out], by rw [HK0.out]; exact HI0.out, But.refl _ _⟩
  case round =>
    obtain ⟨k, hk1, hk, rfl, rfl, hic, hgr⟩ := hrel
    have HIC := Hid.mk' hic
    have HGR := Hid.mk' hgr
    by_cases hlt : k < n
    · have hnx := coldest_next H ks k (by omega) (by have := HN.out; omega)
      obtain ⟨x, hx⟩ : ∃ x, x = ks.getD k 0 := ⟨_, rfl⟩
      have cx : wr.cell? ⟨b, off + k, none⟩ = some (.int .i64 x) := by
        rw [hx]; exact HC.out wr hgr k (by omega)
      have HX : Hid (i64 x) := by rw [hx]; exact HG.out k (by omega)
      rw [← hx] at hnx
      obtain ⟨c, hc⟩ : ∃ c, c = coldest H (ks.take k) := ⟨_, rfl⟩
      rw [← hc] at hnx HIC ⊢
      have HNN := Hid.mk' hnx
      have hki : (k : Int) < (n : Int) := by omega
      have HLX := Hid.mk' (HO.out.lt x)
      have HLC := Hid.mk' (HO.out.lt c)
      have HOX := Hid.mk' (HO.out.call wr hgr x HX.out)
      have HOC := Hid.mk' (fun w2 (k2 : Grow w w2) => HO.out.call w2 k2 c HIC.out)
      have HCX := Hid.mk' (fun w2 (k2 : Grow wr w2) => grow_cell k2 cx)
      have HCO : Hid (∀ q1 q2 q3 : Bool, ls (H x) (H c) = q1 → sa (H x) (H c) = q2 → decide (x < c) = q3 → colder H x c = (q1 || q2 && q3)) := fun q1 q2 q3 e1 e2 e3 => by unfold colder; rw [e1, e2, e3]
      obtain ⟨hX, hhX⟩ : ∃ y, y = H x := ⟨_, rfl⟩
      obtain ⟨hCc, hhC⟩ : ∃ y, y = H c := ⟨_, rfl⟩
      rw [← hhX] at HLX HOX HCO
      rw [← hhC] at HLC HCO HOC
      clear hgr hic hx hc hnx hhX hhC
      go_wp2_with fail
      refine Calls.mono HOX.out ?_
      rintro e w2 ⟨rfl, hg2⟩
      have HG2 := Hid.mk' (HGR.out.trans hg2)
      have HG22 := Hid.mk' hg2
      clear hg2 cx
      go_wp2_with fail
      refine Calls.mono (HOC.out w2 HG2.out) ?_
      rintro e w3 ⟨rfl, hg3⟩
      have HG3 := Hid.mk' (HG2.out.trans hg3)
      have cx3 : w3.cell? ⟨b, off + k, none⟩ = some (.int .i64 x) := HCX.out w3 (HG22.out.trans hg3)
      clear hg3
      go_wp2_with fail
      refine Calls.mono (refLess_any hX hCc w3 HLX.out HLC.out) ?_
      rintro e w4 ⟨rfl, hw⟩
      have h2 := hw.symm
      subst h2
      clear hw
      cases h1 : ls hX hCc
      case true =>
        have HE : Hid (coldest H (ks.take (k + 1)) = x) := by show _ = _; rw [HNN.out, HCO.out true _ _ h1 rfl rfl]; rfl
        clear h1 HNN HCO
        go_wp2
        go_roundw
        case rel => exact ⟨k + 1, by omega, by omega, by go_num, by rw [HE.out], by rw [HE.out]; exact HX.out, HG3.out⟩
        case measure => simp [intOf]; omega
      case false =>
        go_wp2_with fail
        refine Calls.mono (fsame_any hX hCc w3 HLX.out HLC.out) ?_
        rintro e w4 ⟨rfl, hw⟩
        have h4 := hw.symm
        subst h4
        clear hw
        cases h3 : sa hX hCc
        case false =>
          have HE : Hid (coldest H (ks.take (k + 1)) = c) := by show _ = _; rw [HNN.out, HCO.out false false _ h1 h3 rfl]; rfl
          clear h1 h3 HNN HCO
          go_wp2
          go_roundw
          case rel => exact ⟨k + 1, by omega, by omega, by go_num, by rw [HE.out], by rw [HE.out]; exact HIC.out, HG3.out⟩
          case measure => simp [intOf]; omega
        case true =>
          by_cases h2 : x < c
          · have HE : Hid (coldest H (ks.take (k + 1)) = x) := by show _ = _; rw [HNN.out, HCO.out false true true h1 h3 (by simpa using h2)]; rfl
            clear h1 h3 HNN HCO
            go_wp2
            go_roundw
            case rel => exact ⟨k + 1, by omega, by omega, by go_num, by rw [HE.out], by rw [HE.out]; exact HX.out, HG3.out⟩
            case measure => simp [intOf]; omega
          · have HE : Hid (coldest H (ks.take (k + 1)) = c) := by show _ = _; rw [HNN.out, HCO.out false true false h1 h3 (by simpa using h2)]; rfl
            clear h1 h3 HNN HCO
            go_wp2
            go_roundw
            case rel => exact ⟨k + 1, by omega, by omega, by go_num, by rw [HE.out], by rw [HE.out]; exact HIC.out, HG3.out⟩
            case measure => simp [intOf]; omega
    · have hki : ¬ ((k : Int) < (n : Int)) := by omega
      have HE : Hid (coldest H (ks.take k) = coldest H ks) := by
        show _ = _
        rw [List.take_of_length_le (by have := HN.out; omega)]
      clear hic hgr
      go_wp2
      exact bodyPost_ret (results_tmp2 rfl _ _ _) rfl ⟨by rw [HE.out]; rfl, HGR.out⟩
end Go.Proofs.Ytmlklmhochihbaa
/- The reference: what Of tells, behind any memory. -/
namespace Go.Proofs.Ytmlklmhochihbaa
open Go.RowKit

theorem FhM.tok {w : World} {gx half now : Nat} {m0 m1 m2 m3 v : Value} {L : List Sp} (h : FhM w gx m0 m1 m2 m3 v half now L) : Tok now (look L) := ⟨fun k b t e => by
  unfold look at e
  cases hf : L.find? (fun e => e.1 == k) with
  | none => rw [hf] at e; cases e
  | some p =>
    rw [hf] at e
    have h1 := h.ok p (List.mem_of_find?_eq_some hf)
    simp only [Option.map_some, Option.some.injEq] at e
    rw [e] at h1
    exact h1.2⟩
theorem frofs_any {w : World} {gx half now : Nat} {m0 m1 m2 m3 v : Value} {L : List Sp} (h : FhM w gx m0 m1 m2 m3 v half now L) : Ofs w 56 (.pointer (some ⟨gx, 4, none⟩)) (hof half now (look L)) :=
  ⟨fun _ k K _ => frof_any (h.grow k) K, fun K => hof_lt h.tok K⟩
end Go.Proofs.Ytmlklmhochihbaa
