/- spill: slots as a list; no code in it. -/
import Derived.Test.YtehajgfjdmhdpaaEntry
import Derived.Test.YtehajgfjdmhdpaaIntKit
import Derived.Test.YtehajgfjdmhdpaaMapOf
namespace Go.Proofs.Ytehajgfjdmhdpaa
open Go.RowKit

/-- Slots: each nobody's, or a page's, under an entry. -/
abbrev Sl := List (Option (Int × En))
def isP (p : Int) (x : Option (Int × En)) : Bool := match x with
  | some q => q.1 == p
  | none => false
def whoS (S : Sl) (p : Int) : Option Nat := S.findIdx? (isP p)
def gapS (S : Sl) : Option Nat := S.findIdx? Option.isNone
/-- The slot that a page is given. -/
def slotS (S : Sl) (p : Int) : Option Nat := (whoS S p).or (gapS S)
def gaveS (S : Sl) (p : Int) (x : En) : Sl := match slotS S p with
  | some i => S.set i (some (p, x))
  | none => S
def freeS (S : Sl) (p : Int) : Sl := match whoS S p with
  | some i => S.set i none
  | none => S
/-- Who has which slot, under what. -/
def entS (S : Sl) : List (Int × Nat × En) := (List.range S.length).filterMap fun i => (S[i]?.join).map fun q => (q.1, i, q.2)
theorem mem_entS {S : Sl} {p : Int} {i : Nat} {x : En} : (p, i, x) ∈ entS S ↔ S[i]? = some (some (p, x)) := by
  unfold entS
  rw [List.mem_filterMap]
  constructor
  · rintro ⟨j, -, h⟩
    cases e : S[j]? with
    | none => rw [e] at h; simp at h
    | some q =>
      cases q with
      | none => rw [e] at h; simp at h
      | some q =>
        rw [e] at h
        obtain ⟨q1, q2⟩ := q
        simp only [Option.join_some, Option.map_some, Option.some.injEq, Prod.mk.injEq] at h
        obtain ⟨rfl, rfl, rfl⟩ := h
        exact e
  · intro h
    refine ⟨i, List.mem_range.2 (List.getElem?_eq_some_iff.1 h).1, ?_⟩
    rw [h]
    rfl
/-- No page has two slots. -/
structure SlOk (S : Sl) : Prop where
  one : ∀ {i j : Nat} {p : Int} {x y : En}, S[i]? = some (some (p, x)) → S[j]? = some (some (p, y)) → i = j
  i64 : ∀ {i : Nat} {p : Int} {x : En}, S[i]? = some (some (p, x)) → i64 p
theorem whoS_some {S : Sl} {p : Int} {i : Nat} (h : whoS S p = some i) : ∃ x, S[i]? = some (some (p, x)) := by
  obtain ⟨hi, h1, -⟩ := List.findIdx?_eq_some_iff_getElem.1 h
  rw [List.getElem?_eq_getElem hi]
  cases e : S[i] with
  | none => rw [e] at h1; cases h1
  | some q =>
    obtain ⟨q1, q2⟩ := q
    rw [e] at h1
    have : q1 = p := by simpa [isP] using h1
    exact ⟨q2, by rw [this]⟩
theorem whoS_none {S : Sl} {p : Int} (h : whoS S p = none) : ∀ (i : Nat) (x : En), S[i]? ≠ some (some (p, x)) := fun i x e => by
  have h1 := List.findIdx?_eq_none_iff.1 h _ (List.mem_of_getElem? e)
  simp [isP] at h1
theorem whoS_is {S : Sl} (hok : SlOk S) {p : Int} {i : Nat} {x : En} (h : S[i]? = some (some (p, x))) : whoS S p = some i := by
  cases e : whoS S p with
  | none => exact absurd h (whoS_none e i x)
  | some j =>
    obtain ⟨y, hy⟩ := whoS_some e
    rw [hok.one hy h]
theorem whoS_at {S : Sl} {p : Int} {i : Nat} {x : En} (h : S[i]? = some (some (p, x))) (hno : ∀ j, j < i → ∀ y, S[j]? ≠ some (some (p, y))) : whoS S p = some i := by
  cases e : whoS S p with
  | none => exact absurd h (whoS_none e i x)
  | some j =>
    obtain ⟨hj, h1, h2⟩ := List.findIdx?_eq_some_iff_getElem.1 e
    obtain ⟨y, hy⟩ := whoS_some e
    rcases Nat.lt_trichotomy j i with h3 | h3 | h3
    · exact absurd hy (hno j h3 y)
    · rw [h3]
    · have h4 := h2 i h3
      have h5 : S[i]'(by omega) = some (p, x) := by
        have := List.getElem?_eq_some_iff.1 h
        exact this.2
      rw [h5] at h4
      simp [isP] at h4
theorem whoS_no {S : Sl} {p : Int} (hno : ∀ j, j < S.length → ∀ y, S[j]? ≠ some (some (p, y))) : whoS S p = none := by
  cases e : whoS S p with
  | none => rfl
  | some j =>
    obtain ⟨y, hy⟩ := whoS_some e
    exact absurd hy (hno j (List.getElem?_eq_some_iff.1 hy).1 y)
theorem gapS_some {S : Sl} {i : Nat} (h : gapS S = some i) : S[i]? = some none ∧ ∀ j, j < i → ∃ q, S[j]? = some (some q) := by
  obtain ⟨hi, h1, h2⟩ := List.findIdx?_eq_some_iff_getElem.1 h
  refine ⟨?_, fun j hj => ?_⟩
  · rw [List.getElem?_eq_getElem hi]
    cases e : S[i] with
    | none => rfl
    | some q => rw [e] at h1; cases h1
  · have h3 := h2 j hj
    rw [List.getElem?_eq_getElem (by omega)]
    cases e : S[j] with
    | none => rw [e] at h3; simp at h3
    | some q => exact ⟨q, rfl⟩
theorem gapS_none {S : Sl} (h : gapS S = none) : ∀ j, j < S.length → ∃ q, S[j]? = some (some q) := fun j hj => by
  have h1 := List.findIdx?_eq_none_iff.1 h _ (List.getElem_mem hj)
  rw [List.getElem?_eq_getElem hj]
  cases e : S[j] with
  | none => rw [e] at h1; cases h1
  | some q => exact ⟨q, rfl⟩
theorem gapS_at {S : Sl} {i : Nat} (h : S[i]? = some none) (hno : ∀ j, j < i → ∃ q, S[j]? = some (some q)) : gapS S = some i := by
  cases e : gapS S with
  | none =>
    obtain ⟨q, hq⟩ := gapS_none e i (List.getElem?_eq_some_iff.1 h).1
    rw [h] at hq
    cases hq
  | some j =>
    obtain ⟨h1, h2⟩ := gapS_some e
    rcases Nat.lt_trichotomy j i with h3 | h3 | h3
    · obtain ⟨q, hq⟩ := hno j h3
      rw [h1] at hq
      cases hq
    · rw [h3]
    · obtain ⟨q, hq⟩ := h2 i h3
      rw [h] at hq
      cases hq
theorem gapS_no {S : Sl} (h : ∀ j, j < S.length → ∃ q, S[j]? = some (some q)) : gapS S = none := by
  cases e : gapS S with
  | none => rfl
  | some j =>
    have h1 := (gapS_some e).1
    obtain ⟨q, hq⟩ := h j (List.getElem?_eq_some_iff.1 h1).1
    rw [h1] at hq
    cases hq
theorem slotS_some {S : Sl} {p : Int} {i : Nat} (h : slotS S p = some i) : i < S.length ∧ ((∃ x, S[i]? = some (some (p, x))) ∨ (S[i]? = some none ∧ ∀ (j : Nat) (x : En), S[j]? ≠ some (some (p, x)))) := by
  unfold slotS at h
  cases e : whoS S p with
  | some j =>
    rw [e] at h
    obtain rfl : j = i := by simpa using h
    obtain ⟨x, hx⟩ := whoS_some e
    exact ⟨(List.getElem?_eq_some_iff.1 hx).1, .inl ⟨x, hx⟩⟩
  | none =>
    rw [e] at h
    have h1 : gapS S = some i := by simpa using h
    have h2 := (gapS_some h1).1
    exact ⟨(List.getElem?_eq_some_iff.1 h2).1, .inr ⟨h2, whoS_none e⟩⟩
theorem SlOk.set {S : Sl} (hok : SlOk S) {p : Int} (hp : Go.Proofs.Ytehajgfjdmhdpaa.i64 p) {i : Nat} (h : slotS S p = some i) (x : En) : SlOk (S.set i (some (p, x))) := by
  obtain ⟨hi, hc⟩ := slotS_some h
  have key : ∀ {j : Nat} {q : Int} {y : En}, (S.set i (some (p, x)))[j]? = some (some (q, y)) → (j = i ∧ q = p) ∨ (j ≠ i ∧ q ≠ p ∧ S[j]? = some (some (q, y))) := fun {j q y} hj => by
    rw [List.getElem?_set] at hj
    by_cases e : i = j
    · rw [if_pos e, if_pos hi] at hj
      simp only [Option.some.injEq, Prod.mk.injEq] at hj
      exact .inl ⟨e.symm, hj.1.symm⟩
    · rw [if_neg e] at hj
      refine .inr ⟨fun e2 => e e2.symm, fun e2 => ?_, hj⟩
      rw [e2] at hj
      rcases hc with ⟨z, hz⟩ | ⟨-, hno⟩
      · exact e (hok.one hz hj)
      · exact hno _ _ hj
  refine ⟨fun {a b q y z} ha hb => ?_, fun {a q y} ha => ?_⟩
  · rcases key ha with ⟨e1, e2⟩ | ⟨e1, e2, e3⟩
    · rcases key hb with ⟨f1, f2⟩ | ⟨f1, f2, f3⟩
      · rw [e1, f1]
      · exact absurd e2 f2
    · rcases key hb with ⟨f1, f2⟩ | ⟨f1, f2, f3⟩
      · exact absurd f2 e2
      · exact hok.one e3 f3
  · rcases key ha with ⟨e1, e2⟩ | ⟨e1, e2, e3⟩
    · rw [e2]; exact hp
    · exact hok.i64 e3
theorem SlOk.gaveS {S : Sl} (hok : SlOk S) {p : Int} (hp : Go.Proofs.Ytehajgfjdmhdpaa.i64 p) (x : En) : SlOk (gaveS S p x) := by
  unfold Go.Proofs.Ytehajgfjdmhdpaa.gaveS
  cases e : slotS S p with
  | none => exact hok
  | some i => exact hok.set hp e x
theorem SlOk.clr {S : Sl} (hok : SlOk S) (i : Nat) : SlOk (S.set i none) := by
  have key : ∀ {j : Nat} {q : Int} {y : En}, (S.set i none)[j]? = some (some (q, y)) → S[j]? = some (some (q, y)) := fun {j q y} hj => by
    rw [List.getElem?_set] at hj
    split at hj
    · split at hj <;> simp at hj
    · exact hj
  exact ⟨fun ha hb => hok.one (key ha) (key hb), fun ha => hok.i64 (key ha)⟩
theorem SlOk.freeS {S : Sl} (hok : SlOk S) (p : Int) : SlOk (freeS S p) := by
  unfold Go.Proofs.Ytehajgfjdmhdpaa.freeS
  cases e : whoS S p with
  | none => exact hok
  | some i => exact hok.clr i
theorem SlOk.new (n : Nat) : SlOk (List.replicate n none) := by
  have key : ∀ {j : Nat} {q : Int} {y : En}, (List.replicate n (none : Option (Int × En)))[j]? = some (some (q, y)) → False := fun {j q y} hj => by
    have := List.eq_of_mem_replicate (List.mem_of_getElem? hj)
    cases this
  exact ⟨fun ha _ => (key ha).elim, fun ha => (key ha).elim⟩
theorem entS_new (n : Nat) : entS (List.replicate n none) = [] := by
  apply List.eq_nil_iff_forall_not_mem.2
  rintro ⟨p, i, x⟩ h
  have := List.eq_of_mem_replicate (List.mem_of_getElem? (mem_entS.1 h))
  cases this
theorem gaveS_len (S : Sl) (p : Int) (x : En) : (gaveS S p x).length = S.length := by
  unfold gaveS
  split
  · rw [List.length_set]
  · rfl
theorem freeS_len (S : Sl) (p : Int) : (freeS S p).length = S.length := by
  unfold freeS
  split
  · rw [List.length_set]
  · rfl
/-- Pages that have slots. -/
def heldS (S : Sl) : List Int := (entS S).map (·.1)
theorem mem_heldS {S : Sl} {p : Int} : p ∈ heldS S ↔ ∃ (i : Nat) (x : En), S[i]? = some (some (p, x)) := by
  unfold heldS
  rw [List.mem_map]
  constructor
  · rintro ⟨⟨q, i, x⟩, h, rfl⟩
    exact ⟨i, x, mem_entS.1 h⟩
  · rintro ⟨i, x, h⟩
    exact ⟨(p, i, x), mem_entS.2 h, rfl⟩
theorem entS_nodup (S : Sl) : ((entS S).map (fun e => e.2.1)).Nodup := by
  unfold entS
  generalize S.length = n
  have h : (((List.range n).filterMap fun i => (S[i]?.join).map fun q => (q.1, i, q.2)).map (fun e : Int × Nat × En => e.2.1)).Sublist (List.range n) := by
    generalize List.range n = l
    induction l with
    | nil => exact List.Sublist.refl _
    | cons i l ih =>
      rw [List.filterMap_cons]
      cases S[i]?.join with
      | none => exact ih.cons i
      | some q => exact ih.cons_cons i
  exact h.nodup List.nodup_range
theorem heldS_nodup {S : Sl} (hok : SlOk S) : (heldS S).Nodup := by
  have h := List.pairwise_map.1 (entS_nodup S)
  refine List.pairwise_map.2 (h.imp_of_mem (fun {a b} ha hb hne e => hne ?_))
  obtain ⟨p, i, x⟩ := a
  obtain ⟨q, j, y⟩ := b
  simp only at e
  subst e
  exact hok.one (mem_entS.1 ha) (mem_entS.1 hb)
theorem entS_len (S : Sl) : (entS S).length ≤ S.length := by
  unfold entS
  have := List.length_filterMap_le (fun i => (S[i]?.join).map fun q => ((q.1, i, q.2) : Int × Nat × En)) (List.range S.length)
  rw [List.length_range] at this
  exact this
theorem heldS_len (S : Sl) : (heldS S).length ≤ S.length := by unfold heldS; rw [List.length_map]; exact entS_len S
/-- None is free: as many pages as slots. -/
theorem heldS_full {S : Sl} (h : gapS S = none) : (heldS S).length = S.length := by
  have h1 := heldS_len S
  have h2 : S.length ≤ (entS S).length := by
    have h4 := nodup_len (l := List.range S.length) (m := (entS S).map (fun e => e.2.1)) List.nodup_range (fun i hi => by
      obtain ⟨q, hq⟩ := gapS_none h i (List.mem_range.1 hi)
      obtain ⟨p, x⟩ := q
      exact List.mem_map.2 ⟨(p, i, x), mem_entS.2 hq, rfl⟩)
    rw [List.length_range, List.length_map] at h4
    exact h4
  unfold heldS at *
  rw [List.length_map] at *
  omega
theorem freeS_at {S : Sl} (hok : SlOk S) {p q : Int} {i : Nat} {x : En} : (freeS S p)[i]? = some (some (q, x)) ↔ S[i]? = some (some (q, x)) ∧ q ≠ p := by
  unfold freeS
  cases e : whoS S p with
  | none => exact ⟨fun h => ⟨h, fun e2 => whoS_none e i x (by rw [← e2]; exact h)⟩, fun h => h.1⟩
  | some j =>
    obtain ⟨y, hy⟩ := whoS_some e
    show (S.set j none)[i]? = _ ↔ _
    rw [List.getElem?_set]
    by_cases hj : j = i
    · rw [if_pos hj]
      refine ⟨fun h => by split at h <;> simp at h, fun h => ?_⟩
      rw [← hj, hy] at h
      simp only [Option.some.injEq, Prod.mk.injEq] at h
      exact absurd h.1.1.symm h.2
    · rw [if_neg hj]
      refine ⟨fun h => ⟨h, fun e2 => ?_⟩, fun h => h.1⟩
      rw [e2] at h
      exact hj (hok.one hy h)
theorem setS_at {S : Sl} (hok : SlOk S) {p q : Int} {i j : Nat} {x y : En} (h : slotS S p = some j) : (S.set j (some (p, y)))[i]? = some (some (q, x)) ↔ (S[i]? = some (some (q, x)) ∧ q ≠ p) ∨ (q = p ∧ i = j ∧ x = y) := by
  obtain ⟨hj, hc⟩ := slotS_some h
  rw [List.getElem?_set]
  by_cases e : j = i
  · subst e
    rw [if_pos rfl, if_pos hj]
    constructor
    · intro h
      simp only [Option.some.injEq, Prod.mk.injEq] at h
      exact .inr ⟨h.1.symm, rfl, h.2.symm⟩
    · rintro (⟨h1, h2⟩ | ⟨rfl, -, rfl⟩)
      · rcases hc with ⟨z, hz⟩ | ⟨hz, -⟩
        · rw [hz] at h1
          simp only [Option.some.injEq, Prod.mk.injEq] at h1
          exact absurd h1.1.symm h2
        · rw [hz] at h1; cases h1
      · rfl
  · rw [if_neg e]
    refine ⟨fun h1 => .inl ⟨h1, fun e2 => ?_⟩, ?_⟩
    · rw [e2] at h1
      rcases hc with ⟨z, hz⟩ | ⟨-, hno⟩
      · exact e (hok.one hz h1)
      · exact hno _ _ h1
    · rintro (⟨h1, -⟩ | ⟨-, h2, -⟩)
      · exact h1
      · exact absurd h2.symm e
end Go.Proofs.Ytehajgfjdmhdpaa
