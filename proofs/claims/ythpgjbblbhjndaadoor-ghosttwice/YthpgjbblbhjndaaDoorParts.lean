/- What a walk is told of a slice of slices of bytes that came in. -/
import Derived.Test.YthpgjbblbhjndaaDoorShaOf
namespace Go.Proofs.YthpgjbblbhjndaaDoor
open Go.ChangeShapes Go.WideShapes Go.ChangeAt Go.RowKit Go.Deep

section
variable {H : Type} {enc : TypeId × Value → H} {P : Program} {w : World} {base : Nat} {spare : Nat → Bool} {held : Bool}

theorem weightsAll_mem {e : TypeId} : ∀ {l : List (DataW H)} {d : DataW H}, d ∈ l → ∀ n ∈ d.weights P e, n ∈ DataW.weightsAll P e l
  | x :: r, d, hd, n, hn => by
    simp only [DataW.weightsAll, List.mem_append]
    rcases List.mem_cons.1 hd with rfl | hd
    · exact .inl hn
    · exact .inr (weightsAll_mem hd n hn)

/-- Bytes inside of what came in. -/
theorem view_inner {t e : TypeId} {v : Value} {d : DataW H} {ps : List MemPlace} {fuel : Nat}
    (hu : P.underlying t = some (.slice e)) (hf : P.underlying e = some (.int .u8)) (hc : P.cellsOf e = 1) (hb : P.bytesOf e = 1)
    (h : DataW.trod enc P w base spare held fuel t [v] = some (d, ps)) (hlt : ∀ x ∈ ps, x.block < w.heap.size) (hsz : ∀ n ∈ d.weights P t, n ≤ reachBytes) : ∃ zs, Bs w v zs ∧ zs.length ≤ 140737488351232 := by
  rcases open_slice1 hu hc h with ⟨hcs, _⟩ | ⟨a, len, cap, m, n, V, D, Pl, hcs, _, hl, hm, hmm, hx, hcell⟩
  · simp only [List.cons.injEq, and_true] at hcs
    subst hcs
    exact ⟨[], Bs.nil _, by simp⟩
  · simp only [List.cons.injEq, and_true] at hcs
    subst hcs
    simp only [Prod.mk.injEq] at hx
    obtain ⟨rfl, rfl⟩ := hx
    have hlm : len ≤ m := by rw [hmm]; split <;> omega
    have hreach : len * 1 ≤ 140737488351232 := by
      have := hsz ((len + (m - len)) * 1) (by simp [DataW.weights, hu, hb])
      simp only [reachBytes] at this
      omega
    have hfl : ∀ i, i < len → ∃ b : Nat, V i = .int .u8 (b : Int) ∧ b < 256 := by
      intro i hi
      obtain ⟨b, hb1, _, hw0⟩ := DataW.trod_int hf (hcell i (by omega)).2
      obtain ⟨hw, hw2⟩ : 0 ≤ b ∧ b < 256 := by
        have h8 : IntKind.u8.min ≤ b ∧ b ≤ IntKind.u8.max := by simpa [Lit.wf, go_sem] using hw0
        have e1 : IntKind.u8.min = 0 := rfl
        have e2 : IntKind.u8.max = 255 := rfl
        omega
      simp only [List.cons.injEq, and_true] at hb1
      exact ⟨b.toNat, by rw [hb1, Int.toNat_of_nonneg hw], by omega⟩
    obtain ⟨B, hB⟩ := choose_lt (α := Nat) (p := fun i b => V i = .int .u8 (b : Int) ∧ b < 256) hfl
    refine ⟨(List.range len).map B, ⟨?_, by simp; omega, ?_⟩, by simpa using hreach⟩
    · intro z hz
      obtain ⟨i, hi, rfl⟩ := List.mem_map.1 hz
      exact (hB i (by simpa using hi)).2
    · by_cases h0 : len = 0
      · subst h0; exact .inl ⟨by simp, .inr ⟨_, _, rfl⟩⟩
      · right
        obtain ⟨b, off, spot⟩ := a
        have hspot : spot = none := by simpa [Addr.add] using World.cell?_spot (hcell 0 (by omega)).1
        subst hspot
        refine ⟨by simp; omega, b, off, cap, by simp, by simpa using hl, hlt (.cell b off) (List.mem_append_left _ (MemPlace.mem_row.2 ⟨0, by omega, by simp⟩)), ?_⟩
        intro i hi
        have hi' : i < len := by simpa using hi
        rw [← add_plain, (hcell i (by omega)).1, (hB i hi').1]
        simp [hi']

/-- Slices of bytes that came in. -/
theorem view_parts {t e q : TypeId} {v : Value} {d : DataW H} {ps : List MemPlace} {r : Reach} {b0 : Nat} {ts : List TypeId} {ds : List (DataW H)} {j : Nat}
    (hu : P.underlying t = some (.slice e)) (he : P.underlying e = some (.slice q)) (hq : P.underlying q = some (.int .u8)) (hce : P.cellsOf e = 1) (hcq : P.cellsOf q = 1) (hbe : P.bytesOf e = 24) (hbq : P.bytesOf q = 1)
    (hval : Value.okWide P w r b0 t v) (h : DataW.Trod enc P w base spare held t v d ps) (hlt : ∀ x ∈ ps, x.block < w.heap.size)
    (hsz : (DataW.weightsEach P ts ds).all (· ≤ reachBytes) = true) (ht : ts[j]? = some t) (hd : ds[j]? = some d) :
    ∃ xss, Ps w v xss ∧ xss.length * 24 ≤ 140737488351232 ∧ ∀ x ∈ xss, x.length ≤ 140737488351232 := by
  obtain ⟨a0, len, cap, rfl⟩ := okWide_slice hu hval
  obtain ⟨fuel, hf1⟩ := h
  rcases open_slice1 hu hce hf1 with ⟨hcs, _⟩ | ⟨a, len', cap', m, n, V, D, Pl, hcs, _, hl, hm, hmm, hx, hcell⟩
  · simp [Value.cells] at hcs
    obtain ⟨rfl, rfl, rfl⟩ := hcs
    exact ⟨[], .inl ⟨rfl, .inl rfl⟩, by simp, by simp⟩
  · simp [Value.cells] at hcs
    obtain ⟨rfl, rfl, rfl⟩ := hcs
    simp only [Prod.mk.injEq] at hx
    obtain ⟨rfl, rfl⟩ := hx
    have hlm : len ≤ m := by rw [hmm]; split <;> omega
    have hreach : len * 24 ≤ 140737488351232 := by
      have := sized_slice hsz ht hd hu
      rw [hbe] at this
      simp only [List.length_map, List.length_range, reachBytes] at this
      omega
    have hfl : ∀ i, i < len → ∃ zs : List Nat, Bs w (V i) zs ∧ zs.length ≤ 140737488351232 := by
      intro i hi
      refine view_inner he hq hcq hbq (hcell i (by omega)).2 (fun x hx => hlt x ?_) (fun k hk => ?_)
      · exact List.mem_append_right _ (List.mem_flatMap.2 ⟨i, by simp; omega, hx⟩)
      · have hm2 : k ∈ (DataW.slice ((List.range len).map D) ((List.range (m - len)).map fun j => D (len + j))).weights P t := by
          simp only [DataW.weights, hu]
          refine List.mem_cons_of_mem _ (List.mem_append_left _ (weightsAll_mem (d := D i) ?_ k hk))
          exact List.mem_map.2 ⟨i, by simpa using hi, rfl⟩
        have := List.all_eq_true.1 hsz _ (DataW.weights_mem_each ht hd k hm2)
        simpa using this
    obtain ⟨B, hB⟩ := choose_lt (α := List Nat) (p := fun i zs => Bs w (V i) zs ∧ zs.length ≤ 140737488351232) hfl
    refine ⟨(List.range len).map B, ?_, by simpa using hreach, ?_⟩
    · by_cases h0 : len = 0
      · subst h0; exact .inl ⟨by simp, .inr ⟨_, _, rfl⟩⟩
      · right
        obtain ⟨b, off, spot⟩ := a
        have hspot : spot = none := by simpa [Addr.add] using World.cell?_spot (hcell 0 (by omega)).1
        subst hspot
        refine ⟨by simp; omega, b, off, cap, by simp, hlt (.cell b off) (List.mem_append_left _ (MemPlace.mem_row.2 ⟨0, by omega, by simp⟩)), ?_⟩
        intro i hi
        have hi' : i < len := by simpa using hi
        refine ⟨V i, ?_, ?_⟩
        · rw [← add_plain]; exact (hcell i (by omega)).1
        · have e : ((List.range len).map B).getD i [] = B i := by simp [List.getD, hi']
          rw [e]; exact (hB i hi').1
    · intro x hx
      obtain ⟨i, hi, rfl⟩ := List.mem_map.1 hx
      exact (hB i (by simpa using hi)).2
end
end Go.Proofs.YthpgjbblbhjndaaDoor
