/- What a walk is told of a slice of records that came in, whatever each of them holds. -/
import Derived.Test.YtlfppgdaoijklaaOwnOps
import Derived.ProofKit
import Derived.OpenShut
import Derived.ChangeOld
import Derived.Below
namespace Go.Proofs.Ytlfppgdaoijklaa
open Go.ChangeShapes Go.WideShapes Go.ChangeAt Go.RowKit Go.Deep

/-- The slice v holds n records of k cells each. -/
def Rws {α : Type} (k : Nat) (cells : α → List Value) (ok : α → Prop) (w : World) (v : Value) (n : Nat) (A : Nat → α) : Prop :=
  n ≤ 140737488351232 ∧ ((n = 0 ∧ ∃ ao cap, v = .slice ao 0 cap) ∨ (0 < n ∧ ∃ b off cap, v = .slice (some ⟨b, off, none⟩) n cap ∧ n ≤ cap ∧ b < w.heap.size ∧ ∀ i, i < n → ok (A i) ∧ ∀ c u, (cells (A i))[c]? = some u → w.cell? ⟨b, off + i * k + c, none⟩ = some u))
section
variable {α : Type} {k : Nat} {cells : α → List Value} {ok : α → Prop} {w w' : World} {v : Value} {n : Nat} {A : Nat → α} {R : Nat → Prop}
theorem Rws.but (h : Rws k cells ok w v n A) (hb : But R w w') (hr : ∀ j, v.ownBlock = some j → j < w.heap.size → ¬ R j) : Rws k cells ok w' v n A := by
  obtain ⟨h1, h2 | ⟨h0, b, off, cap, rfl, h3, h4, h5⟩⟩ := h
  · exact ⟨h1, .inl h2⟩
  · exact ⟨h1, .inr ⟨h0, b, off, cap, rfl, h3, Nat.lt_of_lt_of_le h4 hb.size, fun i hi => ⟨(h5 i hi).1, fun c u hu => (World.cell?_of_block (hb.block b h4 (hr b rfl h4))).trans ((h5 i hi).2 c u hu)⟩⟩⟩
theorem Rws.grow (h : Rws k cells ok w v n A) (hb : Grow w w') : Rws k cells ok w' v n A := h.but hb (fun _ _ _ h => h)
theorem Rws.len (h : Rws k cells ok w v n A) : ∃ ao cap, v = .slice ao n cap := by
  obtain ⟨h1, ⟨rfl, ao, cap, rfl⟩ | ⟨h0, b, off, cap, rfl, -⟩⟩ := h
  · exact ⟨ao, cap, rfl⟩
  · exact ⟨_, cap, rfl⟩
theorem Rws.at (h : Rws k cells ok w v n A) {i : Nat} (hi : i < n) : ∃ b off cap, v = .slice (some ⟨b, off, none⟩) n cap ∧ b < w.heap.size ∧ ∀ i, i < n → ok (A i) ∧ ∀ c u, (cells (A i))[c]? = some u → w.cell? ⟨b, off + i * k + c, none⟩ = some u := by
  obtain ⟨h1, ⟨rfl, _⟩ | ⟨h0, b, off, cap, rfl, -, h4, h5⟩⟩ := h
  · omega
  · exact ⟨b, off, cap, rfl, h4, h5⟩
theorem Rws.okAt (h : Rws k cells ok w v n A) {i : Nat} (hi : i < n) : ok (A i) := by
  obtain ⟨b, off, cap, -, -, h5⟩ := h.at hi
  exact (h5 i hi).1
end
section
variable {H : Type} {enc : TypeId × Value → H} {P : Program} {w : World} {base : Nat} {spare : Nat → Bool} {held : Bool}
theorem view_rows {α : Type} (d0 : α) {k : Nat} {cells : α → List Value} {ok : α → Prop} {t e : TypeId} {v : Value} {d : DataW H} {ps : List MemPlace} {r : Reach} {b0 : Nat} {ts : List TypeId} {ds : List (DataW H)} {j : Nat}
    (hu : P.underlying t = some (.slice e)) (hce : P.cellsOf e = k) (hk : 0 < k) (hbe : 1 ≤ P.bytesOf e) (hne : ∀ a, cells a ≠ [])
    (hop : ∀ m cs x, DataW.trod enc P w base spare held m e cs = some x → cs.length = k → ∃ F : α, cs = cells F ∧ ok F)
    (hval : Value.okWide P w r b0 t v) (h : DataW.Trod enc P w base spare held t v d ps) (hlt : ∀ x ∈ ps, x.block < w.heap.size)
    (hsz : (DataW.weightsEach P ts ds).all (· ≤ reachBytes) = true) (ht : ts[j]? = some t) (hd : ds[j]? = some d) : ∃ n A, Rws k cells ok w v n A := by
  obtain ⟨a0, len, cap, rfl⟩ := okWide_slice hu hval
  obtain ⟨fuel, hfu⟩ := h
  rcases open_slice hu hfu with ⟨hcs, _⟩ | ⟨a, len', cap', m, n, D, Pl, hcs, _, hl, hm, hmm, hx, hel⟩
  · simp [Value.cells] at hcs
    obtain ⟨rfl, rfl, rfl⟩ := hcs
    exact ⟨0, fun _ => d0, by omega, .inl ⟨rfl, _, _, rfl⟩⟩
  · simp [Value.cells] at hcs
    obtain ⟨rfl, rfl, rfl⟩ := hcs
    simp only [Prod.mk.injEq] at hx
    obtain ⟨rfl, rfl⟩ := hx
    have hlm : len ≤ m := by rw [hmm]; split <;> omega
    have hreach : len ≤ 140737488351232 := by
      have h1 := sized_slice hsz ht hd hu
      simp only [List.length_map, List.length_range, reachBytes] at h1
      have h2 : len + (m - len) ≤ (len + (m - len)) * P.bytesOf e := Nat.le_mul_of_pos_right _ hbe
      omega
    have hfl : ∀ i, i < len → ∃ F : α, (∀ c u, (cells F)[c]? = some u → w.cell? (a.add (i * k + c)) = some u) ∧ ok F := by
      intro i hi
      obtain ⟨cs', h1, h2⟩ := hel i (by omega)
      rw [hce] at h1
      obtain ⟨_, hlen, hcell⟩ := World.cells?_some h1
      obtain ⟨F, hc, h3⟩ := hop _ _ _ h2 hlen
      refine ⟨F, fun c u hcu => ?_, h3⟩
      rw [← hc] at hcu
      have hlt' : c < k := by
        rcases Nat.lt_or_ge c k with h | h
        · exact h
        · rw [List.getElem?_eq_none (by omega)] at hcu; cases hcu
      have := hcell c hlt'
      rw [add_add] at this
      exact this.trans hcu
    haveI : Inhabited α := ⟨d0⟩
    obtain ⟨F, hF⟩ := choose_lt (α := α) (p := fun i F => (∀ c u, (cells F)[c]? = some u → w.cell? (a.add (i * k + c)) = some u) ∧ ok F) hfl
    refine ⟨len, F, hreach, ?_⟩
    by_cases h0 : len = 0
    · subst h0; exact .inl ⟨rfl, _, _, rfl⟩
    · right
      obtain ⟨b, off, spot⟩ := a
      have hspot : spot = none := by
        obtain ⟨hc, _⟩ := hF 0 (by omega)
        obtain ⟨u, hu0⟩ : ∃ u, (cells (F 0))[0]? = some u := by
          cases hq : cells (F 0) with
          | nil => exact absurd hq (hne _)
          | cons x l => exact ⟨x, rfl⟩
        have := World.cell?_spot (hc 0 _ hu0)
        simpa [Addr.add] using this
      subst hspot
      refine ⟨by omega, b, off, cap, rfl, hl, hlt (.cell b off) (List.mem_append_left _ (MemPlace.mem_row.2 ⟨0, ?_, by simp⟩)), fun i hi => ?_⟩
      · rw [hce]
        exact Nat.mul_pos (by omega) hk
      · obtain ⟨hc, h1⟩ := hF i hi
        refine ⟨h1, fun c u hcu => ?_⟩
        rw [Nat.add_assoc, ← add_plain]; exact hc c u hcu
end
end Go.Proofs.Ytlfppgdaoijklaa
