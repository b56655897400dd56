/- slices.Sort of an own row of ints. -/
import Derived.Test.YtgldkckhliklhaaSortInts
import Derived.Test.YtgldkckhliklhaaInts
namespace Go.Proofs.Ytgldkckhliklhaa
open Go.RowKit

/-- The numbers, in their order. -/
def srt (A : List Int) : List Int := A.mergeSort fun x y => decide (x ≤ y)
theorem srt_perm (A : List Int) : (srt A).Perm A := List.mergeSort_perm _ _
theorem srt_len (A : List Int) : (srt A).length = A.length := (srt_perm A).length_eq
theorem srt_le (A : List Int) : (srt A).Pairwise (· ≤ ·) := by
  have := List.pairwise_mergeSort (le := fun x y : Int => decide (x ≤ y)) (fun a b c h1 h2 => by simp at h1 h2 ⊢; omega) (fun a b => by simp; omega) A
  exact this.imp (fun h => by simpa using h)
theorem sort_row {w : World} {v : Value} {A : List Int} (h : w.ownsRow 0 3 1 v A.length (numv A)) (hi : ∀ x ∈ A, -9223372036854775808 ≤ x ∧ x ≤ 9223372036854775807) (hl : A.length ≤ 100000) : Calls Try.prog 24 #[v] w fun e w' => e = .returned (.tuple #[]) ∧ Nums w' v (srt A) ∧ But (fun k => v.ownBlock = some k) w w' := by
  have hrow := h
  have hi' : ∀ x ∈ srt A, -9223372036854775808 ≤ x ∧ x ≤ 9223372036854775807 := fun x hx => hi x ((srt_perm A).mem_iff.1 hx)
  have hl' : (srt A).length ≤ 140737488355328 := by rw [srt_len]; omega
  obtain ⟨h1, ⟨rfl, h2⟩ | ⟨g, cap, cur, rfl, -, hb, h3, h4, h5, h6⟩⟩ := h
  · have hA : A = [] := List.eq_nil_of_length_eq_zero h2
    subst hA
    have hc := AnyM.slices_Sort_int_none laysS none 0 w
    change Calls Try.prog 24 _ _ _ at hc
    refine hc.mono ?_
    rintro e w' ⟨rfl, rfl⟩
    exact ⟨rfl, ⟨hi', hl', .inl ⟨List.eq_nil_of_length_eq_zero (srt_len []), .inl rfl⟩⟩, But.refl _ _⟩
  · by_cases h0 : A.length = 0
    · have hA : A = [] := List.eq_nil_of_length_eq_zero h0
      subst hA
      have hc := AnyM.slices_Sort_int_none laysS (some ⟨g, 0, none⟩) cap w
      change Calls Try.prog 24 _ _ _ at hc
      refine hc.mono ?_
      rintro e w' ⟨rfl, rfl⟩
      exact ⟨rfl, ⟨hi', hl', .inl ⟨List.eq_nil_of_length_eq_zero (srt_len []), .inr ⟨_, _, rfl⟩⟩⟩, But.refl _ _⟩
    · have hgl := lt_of_block hb
      have hH : Sort.Holds (Value.int .i64) w g 0 A.toArray := fun j hj => by
        have hj' : j < A.length := by simpa using hj
        refine ⟨?_, ?_⟩
        · rw [Nat.zero_add, hrow.cellAt j (by omega)]
          simp [numv, hj']
        · rw [Nat.zero_add]; exact hrow.frozenAt j
      have hc := AnyM.slices_Sort_int laysS g 0 cap A w hH hgl (by omega)
      change Calls Try.prog 24 _ _ _ at hc
      have hms : (A.mergeSort fun x y => decide (x ≤ y)) = srt A := rfl
      rw [hms] at hc
      refine hc.mono ?_
      rintro e w' ⟨rfl, n, os, rfl⟩
      have hs := srt_len A
      refine ⟨rfl, ⟨hi', hl', .inr ⟨by omega, g, 0, cap, by rw [hs], by omega, ?_, fun j hj => ?_⟩⟩, ?_⟩
      · simp [Sort.putRow, Sort.mapBlock, Sort.ahead]; omega
      · have hH' : Sort.Holds (Value.int .i64) (Sort.ahead w n) g 0 A.toArray := hH
        rw [Sort.cell?_grow _ _ _ (by simp [Sort.putRow, Sort.mapBlock, Sort.ahead]; omega)]
        have := Sort.cell?_putRow (Value.int .i64) (Sort.ahead w n) g 0 _ (srt A).toArray hH' (by simp [hs]) j (by simpa using hj)
        rw [this]
        simp [hj]
      · refine ⟨rfl, rfl, rfl, by simp [Sort.putRow, Sort.mapBlock, Sort.ahead], fun k hk hn => ?_⟩
        rw [Sort.heap_grow_old _ _ (by simpa [Sort.putRow, Sort.mapBlock, Sort.ahead] using hk)]
        have hkg : g ≠ k := fun e => hn (by rw [e]; rfl)
        simp [Sort.putRow, Sort.mapBlock, Sort.ahead, Array.getElem?_modify, hkg]
end Go.Proofs.Ytgldkckhliklhaa
