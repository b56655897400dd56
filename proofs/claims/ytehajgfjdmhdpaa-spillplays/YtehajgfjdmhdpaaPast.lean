/- Operations of a guard that does not hold, passed by at once: use it on the act as a variable, ahead of go_simp. -/
import Derived.Test.YtehajgfjdmhdpaaChain
namespace Go.Proofs.Ytehajgfjdmhdpaa
open Go.RowKit

section
variable {P : Program} {ops : Array Oper} {ι : Type} {W : ι → World} {Qa : Act → Prop} {rest : List Nat}
def skipsV (ops : Array Oper) (g : Nat) (b : Bool) (l : List Nat) : Bool := l.all fun i => ((ops[i]?).map fun o => o.guard == some (g, b)).getD false && !(slotAt ops i == slotAt ops g)
theorem still_skipsV (g : Nat) (b : Bool) (d : Tmp) (v : Value) (hg : slotAt ops g = some d) (hb : boolOf v ≠ some b) : ∀ (l : List Nat) (a : Act), skipsV ops g b l = true → a.tmps[d]? = some v → wpStill P ops W Qa rest (putUndef ops l a) → wpStill P ops W Qa (l ++ rest) a
  | [], _, _, _, h => h
  | i :: l, a, hs, hv, h => by
    simp only [skipsV, List.all_cons, Bool.and_eq_true, Bool.not_eq_true'] at hs
    obtain ⟨⟨h1, h2⟩, h3⟩ := hs
    cases ho : ops[i]? with
    | none => rw [ho] at h1; cases h1
    | some o =>
      rw [ho] at h1
      have hgd : o.guard = some (g, b) := by simpa using h1
      have hsl : slotAt ops i = o.dst := by unfold slotAt; rw [ho]; rfl
      refine still_skip ho ?_ (fun K hK => hK _ ?_)
      · have hg' : (ops[g]?).bind (·.dst) = some d := hg
        unfold Region.wanted
        rw [hgd]
        simp only [yielded, hg', Option.bind_some, hv]
        cases v <;> first | rfl | (rename_i c; cases b <;> cases c <;> first | rfl | exact absurd rfl hb)
      · refine still_skipsV g b d v hg hb l _ (by unfold skipsV; exact h3) ?_ (by rw [← hsl]; exact h)
        rw [put_get, if_neg]
        · exact hv
        · rintro ⟨e, _⟩
          rw [hsl, e, hg] at h2
          simp at h2
def undefL : List Nat → Act → Act
  | [], a => a
  | d :: l, a => undefL l (a.put (some d) undef)
theorem undefL_eq : ∀ (l ds : List Nat) (a : Act), l.map (slotAt ops) = ds.map some → putUndef ops l a = undefL ds a
  | [], [], _, _ => rfl
  | [], _ :: _, _, h => by cases h
  | _ :: _, [], _, h => by cases h
  | i :: l, d :: ds, a, h => by
    simp only [List.map_cons, List.cons.injEq] at h
    show putUndef ops l (a.put (slotAt ops i) undef) = undefL ds (a.put (some d) undef)
    rw [h.1]
    exact undefL_eq l ds _ h.2
theorem still_pass {l0 : List Nat} {a : Act} (g : Nat) (b : Bool) (d : Tmp) (v : Value) (l rest ds : List Nat) (hl : l0 = l ++ rest) (hg : slotAt ops g = some d) (hb : boolOf v ≠ some b) (hs : skipsV ops g b l = true) (hd : l.map (slotAt ops) = ds.map some) (hv : a.tmps[d]? = some v) (h : wpStill P ops W Qa rest (undefL ds a)) : wpStill P ops W Qa l0 a := by
  rw [hl]
  exact still_skipsV g b d v hg hb l a hs hv (by rw [undefL_eq l ds a hd]; exact h)
theorem still_pass1 {l0 : List Nat} {a : Act} (g : Nat) (b : Bool) (d : Tmp) (v : Value) (l rest ds : List Nat) (hl : l0 = l ++ rest) (hg : slotAt ops g = some d) (hb : boolOf v ≠ some b) (hs : skipsV ops g b l = true) (hd : l.map (slotAt ops) = ds.map some) (hv : a.tmps[d]? = some v) (h : ∀ K : Act → Prop, (∀ a, wpStill P ops W Qa rest a → K a) → K (undefL ds a)) : wpStill P ops W Qa l0 a :=
  still_pass g b d v l rest ds hl hg hb hs hd hv (h _ (fun _ h => h))
/-- Three guards, one behind the other. -/
theorem still_pass3 {l0 : List Nat} {a : Act} (g1 : Nat) (b1 : Bool) (d1 : Tmp) (v1 : Value) (l1 ds1 : List Nat) (g2 : Nat) (b2 : Bool) (d2 : Tmp) (v2 : Value) (l2 ds2 : List Nat) (g3 : Nat) (b3 : Bool) (d3 : Tmp) (v3 : Value) (l3 ds3 : List Nat) (rest : List Nat) (hl : l0 = l1 ++ (l2 ++ (l3 ++ rest)))
    (hg1 : slotAt ops g1 = some d1) (hb1 : boolOf v1 ≠ some b1) (hs1 : skipsV ops g1 b1 l1 = true) (hd1 : l1.map (slotAt ops) = ds1.map some)
    (hg2 : slotAt ops g2 = some d2) (hb2 : boolOf v2 ≠ some b2) (hs2 : skipsV ops g2 b2 l2 = true) (hd2 : l2.map (slotAt ops) = ds2.map some)
    (hg3 : slotAt ops g3 = some d3) (hb3 : boolOf v3 ≠ some b3) (hs3 : skipsV ops g3 b3 l3 = true) (hd3 : l3.map (slotAt ops) = ds3.map some)
    (hv1 : a.tmps[d1]? = some v1) (hv2 : (undefL ds1 a).tmps[d2]? = some v2) (hv3 : (undefL ds2 (undefL ds1 a)).tmps[d3]? = some v3)
    (h : ∀ K : Act → Prop, (∀ a, wpStill P ops W Qa rest a → K a) → K (undefL ds3 (undefL ds2 (undefL ds1 a)))) : wpStill P ops W Qa l0 a :=
  still_pass g1 b1 d1 v1 l1 _ ds1 hl hg1 hb1 hs1 hd1 hv1 (still_pass g2 b2 d2 v2 l2 _ ds2 rfl hg2 hb2 hs2 hd2 hv2 (still_pass g3 b3 d3 v3 l3 rest ds3 rfl hg3 hb3 hs3 hd3 hv3 (h _ (fun _ h => h))))
end
end Go.Proofs.Ytehajgfjdmhdpaa
