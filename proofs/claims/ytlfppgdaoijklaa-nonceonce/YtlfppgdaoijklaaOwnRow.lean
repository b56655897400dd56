/- General: own rows that are stored into, or cut short. -/
import Derived.Test.YtlfppgdaoijklaaOwnOps
namespace Go.Proofs.Ytlfppgdaoijklaa
open Go.RowKit

section
variable {w : World} {g : Nat}
theorem RowOf.blk {Fr : Nat → Prop} {e s n cap : Nat} {L : List Value} (h : RowOf w Fr e s (.slice (some ⟨g, 0, none⟩) n cap) n L) : ∃ M, Blk w g e M ∧ L.length ≤ M.length := by
  obtain ⟨hl, ⟨h1, _⟩ | ⟨g', cap', cur, e, hge, hb, h1, h2, h3, h4⟩⟩ := h.own
  · rcases h1 with h1 | h1 <;> simp at h1
  · simp only [Value.slice.injEq, Option.some.injEq, Addr.mk.injEq, and_true] at e
    obtain ⟨rfl, -, rfl⟩ := e
    refine ⟨cur.toList, hb, ?_⟩
    rw [hl, Array.length_toList, h3]
    exact Nat.mul_le_mul_right _ h1
theorem RowOf.set {Fr : Nat → Prop} {e s n cap : Nat} {L : List Value} (h : RowOf w Fr e s (.slice (some ⟨g, 0, none⟩) n cap) n L) (i : Nat) (u : Value) : RowOf (w.setCell ⟨g, i, none⟩ u) Fr e s (.slice (some ⟨g, 0, none⟩) n cap) n (L.set i u) := by
  obtain ⟨hl, ⟨h1, _⟩ | ⟨g', cap', cur, e, hge, hb, h1, h2, h3, h4⟩⟩ := h.own
  · rcases h1 with h1 | h1 <;> simp at h1
  · simp only [Value.slice.injEq, Option.some.injEq, Addr.mk.injEq, and_true] at e
    obtain ⟨rfl, -, rfl⟩ := e
    have hb' : Blk w g e cur.toList := hb
    have h5 := hb'.set i u
    refine ⟨⟨by rw [List.length_set]; exact hl, .inr ⟨g, cap, (cur.toList.set i u).toArray, rfl, hge, h5, h1, h2, by simpa using h3, ?_⟩⟩, h.inF⟩
    show (cur.toList.set i u).take _ = _
    rw [List.take_set, h4]
/-- Cut short. -/
theorem RowOf.take {Fr : Nat → Prop} {e s n cap m : Nat} {L : List Value} (h : RowOf w Fr e s (.slice (some ⟨g, 0, none⟩) n cap) n L) (hm : m ≤ n) : RowOf w Fr e s (.slice (some ⟨g, 0, none⟩) m cap) m (L.take (m * s)) := by
  obtain ⟨hl, ⟨h1, _⟩ | ⟨g', cap', cur, e, hge, hb, h1, h2, h3, h4⟩⟩ := h.own
  · rcases h1 with h1 | h1 <;> simp at h1
  · simp only [Value.slice.injEq, Option.some.injEq, Addr.mk.injEq, and_true] at e
    obtain ⟨rfl, -, rfl⟩ := e
    have hms : m * s ≤ n * s := Nat.mul_le_mul_right _ hm
    refine ⟨⟨by rw [List.length_take, hl]; omega, .inr ⟨g, cap, cur, rfl, hge, hb, by omega, h2, h3, ?_⟩⟩, h.inF⟩
    rw [← h4, List.take_take, Nat.min_eq_left hms]
theorem RowOf.cap {Fr : Nat → Prop} {e s n cap : Nat} {L : List Value} (h : RowOf w Fr e s (.slice (some ⟨g, 0, none⟩) n cap) n L) : n ≤ cap ∧ cap ≤ maxLen := by
  obtain ⟨hl, ⟨h1, _⟩ | ⟨g', cap', cur, e, hge, hb, h1, h2, h3, h4⟩⟩ := h.own
  · rcases h1 with h1 | h1 <;> simp at h1
  · simp only [Value.slice.injEq, Option.some.injEq, Addr.mk.injEq, and_true] at e
    obtain ⟨rfl, -, rfl⟩ := e
    exact ⟨h1, h2⟩
end
/-- A cell of a row's element. -/
theorem RowOf.cellAt {α : Type} {f : α → List Value} {L : List α} {w : World} {Fr : Nat → Prop} {e s : Nat} {v : Value} (h : RowOf w Fr e s v L.length (L.flatMap f)) (hs : ∀ x ∈ L, (f x).length = s) {i : Nat} {x : α} (hi : L[i]? = some x) :
    ∃ g cap, v = .slice (some ⟨g, 0, none⟩) L.length cap ∧ Fr g ∧ ∀ c u, (f x)[c]? = some u → w.cell? ⟨g, i * s + c, none⟩ = some u := by
  obtain ⟨ao, cap, e1, h2⟩ := h.shape
  have hl : i < L.length := (List.getElem?_eq_some_iff.1 hi).1
  obtain ⟨g, rfl, h3, -, h5⟩ := h2 (by omega)
  exact ⟨g, cap, e1, h3, fun c u hu => h5 _ _ (flat_at L hs i x c u hi hu)⟩
theorem flat_len' {α : Type} {f : α → List Value} {s : Nat} : ∀ (L : List α), (∀ x ∈ L, (f x).length = s) → (L.flatMap f).length = L.length * s
  | [], _ => by simp
  | x :: L, h => by
    rw [List.flatMap_cons, List.length_append, h x List.mem_cons_self, flat_len' L (fun y hy => h y (List.mem_cons_of_mem _ hy)), List.length_cons, Nat.add_mul]; omega
theorem flat_setc {α : Type} {f : α → List Value} {s : Nat} {u : Value} {y : α} : ∀ (L : List α) (i c : Nat) (x : α), (∀ x ∈ L, (f x).length = s) → L[i]? = some x → c < s → f y = (f x).set c u → (L.flatMap f).set (i * s + c) u = (L.set i y).flatMap f
  | [], i, c, x, _, h, _, _ => by simp at h
  | z :: L, i, c, x, hl, h, hc, hy => by
    have hz := hl z List.mem_cons_self
    cases i with
    | zero =>
      obtain rfl : z = x := by simpa using h
      rw [List.flatMap_cons, List.set_cons_zero, List.flatMap_cons, Nat.zero_mul, Nat.zero_add, List.set_append_left _ _ (by omega), hy]
    | succ i =>
      have h' : L[i]? = some x := by simpa using h
      rw [List.flatMap_cons, List.set_cons_succ, List.flatMap_cons, List.set_append_right _ _ (by rw [hz, Nat.add_mul]; omega), hz, show (i + 1) * s + c - s = i * s + c by rw [Nat.add_mul]; omega,
        flat_setc L i c x (fun w hw => hl w (List.mem_cons_of_mem _ hw)) h' hc hy]
/-- A cell of a row's element is stored into. -/
theorem RowOf.setAt {α : Type} {f : α → List Value} {L : List α} {w : World} {Fr : Nat → Prop} {e s g cap i c : Nat} {u : Value} {x y : α} (h : RowOf w Fr e s (.slice (some ⟨g, 0, none⟩) L.length cap) L.length (L.flatMap f)) (hs : ∀ x ∈ L, (f x).length = s) (hi : L[i]? = some x) (hc : c < s) (hy : f y = (f x).set c u) :
    RowOf (w.setCell ⟨g, i * s + c, none⟩ u) Fr e s (.slice (some ⟨g, 0, none⟩) (L.set i y).length cap) (L.set i y).length ((L.set i y).flatMap f) := by
  have h1 := h.set (i * s + c) u
  rw [flat_setc L i c x hs hi hc hy] at h1
  rw [List.length_set]
  exact h1
/-- Where a row's element can be stored into. -/
theorem RowOf.spot {α : Type} {f : α → List Value} {L : List α} {w : World} {Fr : Nat → Prop} {e s g cap i c : Nat} {x : α} (h : RowOf w Fr e s (.slice (some ⟨g, 0, none⟩) L.length cap) L.length (L.flatMap f)) (hs : ∀ x ∈ L, (f x).length = s) (hi : L[i]? = some x) (hc : c < s) :
    (∃ u, w.cell? ⟨g, i * s + c, none⟩ = some u) ∧ w.frozen? ⟨g, i * s + c, none⟩ = false := by
  obtain ⟨M, hM, hl⟩ := h.blk
  have hil : i < L.length := (List.getElem?_eq_some_iff.1 hi).1
  rw [flat_len' L hs] at hl
  have h1 : i * s + c < M.length := by
    have : (i + 1) * s ≤ L.length * s := Nat.mul_le_mul_right _ (by omega)
    rw [Nat.add_mul] at this
    omega
  exact ⟨⟨_, by rw [hM.cell]; exact List.getElem?_eq_getElem h1⟩, hM.free _⟩
theorem own_sl {w : World} {base e s n : Nat} {v : Value} {xs : List Value} (h : w.ownsRow base e s v n xs) : ∃ a c, v = .slice a n c := by
  obtain ⟨-, ⟨rfl, rfl⟩ | ⟨g', c', cu, rfl, -⟩⟩ := h
  · exact ⟨none, 0, rfl⟩
  · exact ⟨_, _, rfl⟩
/-- The last one is put at a place, and the row cut short. -/
def rem {α : Type} (Z : List α) (a : Nat) (x : α) : List α := (Z.set a x).take (Z.length - 1)
theorem rem_perm {α : Type} {Z : List α} {a : Nat} {y x : α} (ha : Z[a]? = some y) (hx : Z[Z.length - 1]? = some x) : Z.Perm (y :: rem Z a x) := by
  have hl : a < Z.length := (List.getElem?_eq_some_iff.1 ha).1
  have h0 : Z ≠ [] := fun e => by rw [e] at hl; simp at hl
  obtain ⟨Y, z, rfl⟩ : ∃ Y z, Z = Y ++ [z] := ⟨Z.dropLast, Z.getLast h0, (List.dropLast_concat_getLast h0).symm⟩
  rw [List.length_append, List.length_singleton] at hx hl
  rw [show Y.length + 1 - 1 = Y.length by omega, List.getElem?_append_right (Nat.le_refl _), Nat.sub_self] at hx
  obtain rfl : z = x := by simpa using hx
  unfold rem
  rw [List.length_append, List.length_singleton, show Y.length + 1 - 1 = Y.length by omega]
  by_cases h1 : a < Y.length
  · rw [List.set_append_left _ _ h1, List.take_left' (by rw [List.length_set])]
    rw [List.getElem?_append_left h1] at ha
    have e1 : Y = Y.take a ++ y :: Y.drop (a + 1) := by
      have h3 := List.getElem?_eq_some_iff.1 ha
      rw [← h3.2, List.getElem_cons_drop, List.take_append_drop]
    have e2 : Y.set a z = Y.take a ++ z :: Y.drop (a + 1) := by rw [List.set_eq_take_append_cons_drop, if_pos h1]
    rw [e2]
    conv => lhs; rw [e1]
    refine (List.perm_append_comm (l₁ := Y.take a ++ y :: Y.drop (a + 1)) (l₂ := [z])).trans ?_
    refine (List.Perm.cons z List.perm_middle).trans ?_
    exact (List.Perm.swap y z _).trans (List.Perm.cons y List.perm_middle.symm)
  · have h2 : a = Y.length := by omega
    subst h2
    rw [List.getElem?_append_right (Nat.le_refl _), Nat.sub_self] at ha
    obtain rfl : z = y := by simpa using ha
    rw [List.set_append_right _ _ (Nat.le_refl _), Nat.sub_self, List.take_left' rfl]
    exact List.perm_append_comm
theorem rem_len {α : Type} {Z : List α} {a : Nat} {x : α} : (rem Z a x).length = Z.length - 1 := by unfold rem; rw [List.length_take, List.length_set]; omega
theorem rem_map {α β : Type} (f : α → β) (Z : List α) (a : Nat) (x : α) : (rem Z a x).map f = rem (Z.map f) a (f x) := by unfold rem; rw [List.map_take, List.map_set, List.length_map]
theorem rem_mem {α : Type} {Z : List α} {a : Nat} {x z : α} (hx : x ∈ Z) (h : z ∈ rem Z a x) : z ∈ Z := by
  unfold rem at h
  rcases List.mem_or_eq_of_mem_set (List.mem_of_mem_take h) with h | h
  · exact h
  · rw [h]; exact hx
end Go.Proofs.Ytlfppgdaoijklaa
