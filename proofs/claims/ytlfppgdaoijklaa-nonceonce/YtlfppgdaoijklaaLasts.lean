/- A region that draws its order, whose operations only read but for the last one, which waits for all the others. -/
import Derived.Test.YtlfppgdaoijklaaDraws
import Derived.Deep.QuietTactic
namespace Go.Proofs.Ytlfppgdaoijklaa
open Go.RowKit

section
variable {P : Program} {l : List Oper} {o : Oper} {Q : Exit → Act → World → Prop}

/-- x waits for the operation j. -/
def waitsFor (x : Oper) (j : Nat) : Bool := x.after.any fun e => Region.binds .any e && e.on == j
/-- Each operation is waited for by a later one, or by the last one. -/
def lastFull (l : List Oper) (o : Oper) : Bool :=
  (List.range l.length).all fun j => waitsFor o j || (List.range l.length).any fun i => decide (j < i) && ((l[i]?).map fun x => waitsFor x j).getD false
def Closed (l : List Oper) (s : List Bool) : Prop := ∀ i x, l[i]? = some x → s.getD i false = true → ∀ j, waitsFor x j = true → s.getD j false = true

theorem dep_done {x : Oper} {s : List Bool} (h : x.after.all (fun e => !Region.binds .any e || s.getD e.on false) = true) (j : Nat) (hj : waitsFor x j = true) : s.getD j false = true := by
  unfold waitsFor at hj
  rw [Array.any_eq_true] at hj
  obtain ⟨k, hk, hk2⟩ := hj
  simp only [Bool.and_eq_true, beq_iff_eq] at hk2
  rw [Array.all_eq_true] at h
  have := h k hk
  rw [hk2.1, hk2.2] at this
  simpa using this
theorem all_done {s : List Bool} (hf : lastFull l o = true) (hc : Closed l s) (ho : ∀ j, j < l.length → waitsFor o j = true → s.getD j false = true) : ∀ n j, l.length - j ≤ n → j < l.length → s.getD j false = true := by
  intro n
  induction n with
  | zero => intro j h1 h2; omega
  | succ n ih =>
    intro j h1 h2
    have h := List.all_eq_true.1 hf j (by simpa using h2)
    rw [Bool.or_eq_true] at h
    rcases h with h | h
    · exact ho j h2 h
    · obtain ⟨i, hi, h3⟩ := List.any_eq_true.1 h
      simp only [Bool.and_eq_true, decide_eq_true_eq] at h3
      have hil : i < l.length := by simpa using hi
      have hx : l[i]? = some l[i] := List.getElem?_eq_getElem hil
      rw [hx] at h3
      exact hc i _ hx (ih i (by omega) hil) j (by simpa using h3.2)
theorem getD_snoc {s : List Bool} {i : Nat} {d : Bool} (hi : i < s.length) : (s ++ [false]).getD i d = s.getD i d := by
  simp [List.getD, List.getElem?_append_left hi]

theorem last_inv {C : World → Prop} {Qq : Act → Prop} (hg : l.all (fun x => x.guard.isNone) = true) (hgo : o.guard = none) (ha : ahead (l ++ [o]).toArray = true) (hf : lastFull l o = true)
    (hQ : ∀ a w, C w → Qq a → wpList P (l ++ [o]).toArray Q [o] a w) :
    ∀ (fuel : Nat) (s : List Bool) (a : Act) (w : World), s.length = l.length → s.count false ≤ fuel → Closed l s → C w → wpAnyQ P .any l.toArray C Qq fuel s.toArray a → wpAny P .any (l ++ [o]).toArray Q (fuel + 1) (s ++ [false]).toArray a w := by
  have hlast : ∀ (fuel : Nat) (s : List Bool) (a : Act) (w : World), s.length = l.length → (∀ j, j < l.length → s.getD j false = true) → C w → Qq a → wpOp P (l ++ [o]).toArray Q l.length (wpAny P .any (l ++ [o]).toArray Q fuel ((s ++ [false]).toArray.setIfInBounds l.length true)) a w := by
    intro fuel s a w hs hall hC hq
    unfold wpOp
    have e : (l ++ [o]).toArray[l.length]? = some o := by simp
    rw [e]
    simp only [Region.wanted, hgo, if_true]
    have hq2 := hQ a w hC hq
    unfold wpList at hq2
    simp only [Region.wanted, hgo, if_true] at hq2
    refine hq2.imp (Oper.wp_mono (fun a' w' h' => ?_)) id
    have e2 : (s ++ [false]).toArray.setIfInBounds l.length true = (s ++ [true]).toArray := by simp [← hs]
    rw [e2]
    have hn : Region.ready .any (l ++ [o]).toArray (s ++ [true]).toArray = [] := by
      refine ready_none (by simp [hs]) ?_
      rw [List.count_eq_zero]
      intro hm
      obtain ⟨k, hk, hk2⟩ := List.getElem_of_mem hm
      by_cases hkl : k < s.length
      · have h1 := hall k (by omega)
        rw [List.getElem_append_left hkl] at hk2
        simp [List.getD, hkl, hk2] at h1
      · have : k = s.length := by simp at hk; omega
        subst this
        simp at hk2
    cases fuel with
    | zero => exact ⟨hn, h'⟩
    | succ n => exact ⟨fun _ => h', fun i hi => by rw [hn] at hi; cases hi⟩
  intro fuel
  induction fuel with
  | zero =>
    intro s a w hs hc hcl hC h
    refine ⟨fun hr => ?_, fun i hi => ?_⟩
    · have := ready_all ha (by simp [hs]) hr
      have e := congrArg (fun t => t.getD s.length true) this
      simp [List.getD, hs] at e
    · obtain ⟨hlt, hfalse⟩ := ready_open hi
      have hi2 : i = l.length := by
        by_cases hil : i < l.length
        · exfalso
          rw [getD_snoc (by omega)] at hfalse
          have hm : false ∈ s := by
            have e : s[i]'(by omega) = false := by simpa [List.getD, show i < s.length by omega] using hfalse
            rw [← e]; exact List.getElem_mem _
          have := List.count_pos_iff.2 hm
          omega
        · simp at hlt; omega
      subst hi2
      refine hlast _ s a w hs (fun j hj => ?_) hC h.2
      cases hb : s.getD j false with
      | true => rfl
      | false =>
        exfalso
        have hm : false ∈ s := by
          have e : s[j]'(by omega) = false := by simpa [List.getD, show j < s.length by omega] using hb
          rw [← e]; exact List.getElem_mem _
        have := List.count_pos_iff.2 hm
        omega
  | succ fuel ih =>
    intro s a w hs hc hcl hC h
    refine ⟨fun hr => ?_, fun i hi => ?_⟩
    · have := ready_all ha (by simp [hs]) hr
      have e := congrArg (fun t => t.getD s.length true) this
      simp [List.getD, hs] at e
    · obtain ⟨hlt, hfalse⟩ := ready_open hi
      by_cases hil : i < l.length
      · have hx : l[i]? = some l[i] := List.getElem?_eq_getElem hil
        have hox : (l ++ [o]).toArray[i]? = some l[i] := by simp [List.getElem?_append_left hil, hil]
        have hdep := ready_dep hi hox
        have hgx : (l[i]).guard = none := by
          have := List.all_eq_true.1 hg l[i] (List.getElem_mem hil)
          simpa using this
        have hdep2 : (l[i]).after.all (fun e => !Region.binds .any e || s.getD e.on false) = true := by
          rw [Array.all_eq_true] at hdep ⊢
          intro k hk
          have h1 := hdep k hk
          have h2 := List.all_eq_true.1 ha i (by simp; omega)
          rw [hox] at h2
          simp only [Option.map_some, Option.getD_some, Array.all_eq_true] at h2
          have h3 := h2 k hk
          rw [Bool.or_eq_true] at h3
          rcases h3 with h3 | h3
          · rw [h3]; rfl
          · have h4 : ((l[i]).after[k]).on < i := by simpa using h3
            rw [getD_snoc (by omega)] at h1
            exact h1
        rw [getD_snoc (by omega)] at hfalse
        have hrd : i ∈ Region.ready .any l.toArray s.toArray := by
          simp only [Region.ready, List.mem_filter, List.mem_range, Bool.and_eq_true, Bool.not_eq_true']
          refine ⟨by simpa using hil, by simpa using hfalse, ?_⟩
          have : l.toArray[i]? = some l[i] := by simp [hil]
          rw [this]
          simpa using hdep2
        have hq := h.2 i hrd
        unfold qOp at hq
        have : l.toArray[i]? = some l[i] := by simp [hil]
        rw [this] at hq
        simp only [Region.wanted, hgx, if_true] at hq
        unfold wpOp
        rw [hox]
        simp only [Region.wanted, hgx, if_true]
        refine .inl (Oper.wp_of_quiet hC (fun a' w' hC' hk => ?_) hq)
        have e1 : s.toArray.setIfInBounds i true = (s.set i true).toArray := by simp
        have e2 : (s ++ [false]).toArray.setIfInBounds i true = (s.set i true ++ [false]).toArray := by simp [List.set_append_left _ _ (show i < s.length by omega)]
        rw [e2]
        rw [e1] at hk
        refine ih _ a' w' (by simp [hs]) (by have := count_listed (l := s) (i := i) (by omega) hfalse; omega) ?_ hC' hk
        intro k x hkx hk1 j hj
        have hset : ∀ j, s.getD j false = true → (s.set i true).getD j false = true := by
          intro j hj
          by_cases hji : j = i
          · subst hji; simp [List.getD, show j < s.length by omega]
          · simp only [List.getD] at hj ⊢
            rw [List.getElem?_set_ne (fun e => hji e.symm)]; exact hj
        by_cases hki : k = i
        · subst hki
          have : x = l[k] := Option.some.inj (hkx.symm.trans hx)
          subst this
          exact hset j (dep_done hdep2 j hj)
        · refine hset j (hcl k x hkx ?_ j hj)
          simp only [List.getD] at hk1 ⊢
          rwa [List.getElem?_set_ne (fun e => hki e.symm)] at hk1
      · have hi2 : i = l.length := by simp at hlt; omega
        subst hi2
        have hox : (l ++ [o]).toArray[l.length]? = some o := by simp
        have hdep := ready_dep hi hox
        have hall : ∀ j, j < l.length → s.getD j false = true := fun j hj => all_done hf hcl (fun j hj hw => by
          have := dep_done hdep j hw
          rwa [getD_snoc (by omega)] at this) (l.length - j) j (Nat.le_refl _) hj
        have hn : Region.ready .any l.toArray s.toArray = [] := by
          refine ready_none (by simp [hs]) ?_
          rw [List.count_eq_zero]
          intro hm
          obtain ⟨k, hk, hk2⟩ := List.getElem_of_mem hm
          have h1 := hall k (by omega)
          simp [List.getD, hk, hk2] at h1
        exact hlast _ s a w hs hall hC (h.1 hn)

/-- One walk of the text's order serves: all operations but the last one only read. -/
theorem region_ends {id : Nat} {a : Act} {w : World} (hm : P.follows .mixedOrders = true) (hB : Region.lexB .any l.toArray = true) (hg : l.all (fun x => x.guard.isNone) = true) (hgo : o.guard = none) (ha : ahead (l ++ [o]).toArray = true) (hf : lastFull l o = true)
    (h : wpQuiet P l.toArray (fun w' => ∃ n, w' = w.drewN n) (fun a' => ∀ w', (∃ n, w' = w.drewN n) → wpList P (l ++ [o]).toArray Q [o] a' w') l a) : (Code.region id (l ++ [o]).toArray true).wp P Q a w := by
  simp only [Region.lexB, Bool.and_eq_true] at hB
  refine wp_region_any hm ?_
  have hq := wpAnyQ_lex (C := fun w' => ∃ n, w' = w.drewN n) (md := .any) hB.1 l 0 (Array.replicate l.length false) a (by simp) (by simpa using hB.2) h
  have e : Array.replicate (l ++ [o]).toArray.size false = (List.replicate l.length false ++ [false]).toArray := by
    rw [← List.replicate_succ']; simp
  rw [e]
  have e2 : (l ++ [o]).toArray.size = l.length + 1 := by simp
  rw [e2]
  refine last_inv (C := fun w' => ∃ n, w' = w.drewN n) (Qq := fun a' => ∀ w', (∃ n, w' = w.drewN n) → wpList P (l ++ [o]).toArray Q [o] a' w') hg hgo ha hf (fun a w hC h => h w hC) l.length (List.replicate l.length false) a _ (by simp) (by simp) ?_ ⟨1, rfl⟩ (by simpa using hq)
  intro i x _ h1
  simp only [List.getD, List.getElem?_replicate] at h1
  split at h1 <;> cases h1
theorem wpQuiet_mono {ops : Array Oper} {C : World → Prop} {q q' : Act → Prop} (h : ∀ a, q a → q' a) : ∀ (l : List Oper) (a : Act), wpQuiet P ops C q l a → wpQuiet P ops C q' l a
  | [], a, hh => h a hh
  | x :: l, a, hh => by
    unfold wpQuiet at hh ⊢
    split
    · rename_i hw
      simp only [hw, if_true] at hh
      exact Oper.quiet_mono (fun a' => wpQuiet_mono h l a') hh
    · rename_i hw
      simp only [hw] at hh
      exact wpQuiet_mono h l _ hh
/-- The same, the last operation by itself. -/
theorem region_last {id : Nat} {a : Act} {w : World} (hm : P.follows .mixedOrders = true) (hB : Region.lexB .any l.toArray = true) (hg : l.all (fun x => x.guard.isNone) = true) (hgo : o.guard = none) (ha : ahead (l ++ [o]).toArray = true) (hf : lastFull l o = true)
    (h : wpQuiet P l.toArray (fun w' => ∃ n, w' = w.drewN n) (fun a' => ∀ w', (∃ n, w' = w.drewN n) → o.wp P a' w' (fun a w => Q .normal a w) Q) l a) : (Code.region id (l ++ [o]).toArray true).wp P Q a w := by
  refine region_ends hm hB hg hgo ha hf (wpQuiet_mono (fun a' h w' hw => ?_) l a h)
  unfold wpList
  simp only [Region.wanted, hgo, if_true]
  exact .inl (h w' hw)
end
end Go.Proofs.Ytlfppgdaoijklaa
