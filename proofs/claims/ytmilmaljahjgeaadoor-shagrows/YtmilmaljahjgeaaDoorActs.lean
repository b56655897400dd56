/- What a walk is told of a slice of records, an int and bytes each, that came in. -/
import Derived.Test.YtmilmaljahjgeaaDoorParts
namespace Go.Proofs.YtmilmaljahjgeaaDoor
open Go.ChangeShapes Go.WideShapes Go.ChangeAt Go.RowKit Go.Deep

/-- The slice v holds n records: a number K i and bytes D i. -/
def Acts (w : World) (v : Value) (n : Nat) (K : Nat → Int) (D : Nat → List Nat) : Prop :=
  n ≤ 140737488351232 ∧ (∀ i, i < n → -9223372036854775808 ≤ K i ∧ K i ≤ 9223372036854775807) ∧
  ((n = 0 ∧ ∃ ao cap, v = .slice ao 0 cap) ∨
   (0 < n ∧ ∃ b off cap, v = .slice (some ⟨b, off, none⟩) n cap ∧ b < w.heap.size ∧
      ∀ i, i < n → w.cell? ⟨b, off + i * 2, none⟩ = some (.int .i64 (K i)) ∧ ∃ u, w.cell? ⟨b, off + i * 2 + 1, none⟩ = some u ∧ Bs w u (D i) ∧ (D i).length ≤ 140737488351232))

section
variable {H : Type} {enc : TypeId × Value → H} {P : Program} {w : World} {base : Nat} {spare : Nat → Bool} {held : Bool}

theorem view_acts {t e q : TypeId} {fs : Array Field} {v : Value} {d : DataW H} {ps : List MemPlace} {r : Reach} {b0 : Nat} {ts : List TypeId} {ds : List (DataW H)} {j : Nat}
    (hu : P.underlying t = some (.slice e)) (he : P.underlying e = some (.struct fs)) (hk : fs.size = 2) (hce : P.cellsOf e = 2) (hbe : 1 ≤ P.bytesOf e)
    (hf0 : ∃ f, fs[0]? = some f ∧ f.offset = 0 ∧ P.cellsOf f.type = 1 ∧ P.underlying f.type = some (.int .i64))
    (hf1 : ∃ f, fs[1]? = some f ∧ f.offset = 1 ∧ P.cellsOf f.type = 1 ∧ P.underlying f.type = some (.slice q))
    (hq : P.underlying q = some (.int .u8)) (hcq : P.cellsOf q = 1) (hbq : P.bytesOf q = 1)
    (hval : Value.okWide P w r b0 t v) (h : DataW.Trod enc P w base spare held t v d ps) (hlt : ∀ x ∈ ps, x.block < w.heap.size)
    (hsz : (DataW.weightsEach P ts ds).all (· ≤ reachBytes) = true) (ht : ts[j]? = some t) (hd : ds[j]? = some d) : ∃ n K D, Acts w v n K D := by
  obtain ⟨a0, len, cap, rfl⟩ := okWide_slice hu hval
  obtain ⟨fuel, hfu⟩ := h
  obtain ⟨f0, hg0, ho0, hc0, hi0⟩ := hf0
  obtain ⟨f1, hg1, ho1, hc1, hi1⟩ := hf1
  rcases open_slice hu hfu with ⟨hcs, _⟩ | ⟨a, len', cap', m, n, D, Pl, hcs, _, hl, hm, hmm, hx, hel⟩
  · simp [Value.cells] at hcs
    obtain ⟨rfl, rfl, rfl⟩ := hcs
    exact ⟨0, fun _ => 0, fun _ => [], by omega, fun i hi => by omega, .inl ⟨rfl, _, _, rfl⟩⟩
  · simp [Value.cells] at hcs
    obtain ⟨rfl, rfl, rfl⟩ := hcs
    simp only [Prod.mk.injEq] at hx
    obtain ⟨rfl, rfl⟩ := hx
    have hlm : len ≤ m := by rw [hmm]; split <;> omega
    have hreach : len ≤ 140737488351232 := by
      have h1 := sized_slice hsz ht hd hu
      simp only [List.length_map, List.length_range, reachBytes] at h1
      have h2 : len + (m - len) ≤ (len + (m - len)) * P.bytesOf e := Nat.le_mul_of_pos_right _ hbe
      omega
    have hfl : ∀ i, i < len → ∃ F : Int × List Nat, (w.cell? (a.add (i * 2)) = some (.int .i64 F.1) ∧ -9223372036854775808 ≤ F.1 ∧ F.1 ≤ 9223372036854775807) ∧ ∃ u, w.cell? (a.add (i * 2 + 1)) = some u ∧ Bs w u F.2 ∧ F.2.length ≤ 140737488351232 := by
      intro i hi
      obtain ⟨cs', h1, h2⟩ := hel i (by omega)
      rw [hce] at h1
      obtain ⟨_, hlen, hcell⟩ := World.cells?_some h1
      obtain ⟨xs, nn, _, hx, _, hxl, hf⟩ := DataW.trod_struct he h2
      rw [hk] at hxl
      match cs', hlen with
      | [c0, c1], _ =>
        match xs, hxl with
        | [x0, x1], _ =>
          have g0 := hf 0 f0 hg0
          have g1 := hf 1 f1 hg1
          rw [ho0, hc0] at g0
          rw [ho1, hc1] at g1
          have g0' : DataW.trod enc P w base spare held nn f0.type [c0] = some x0 := g0
          have g1' : DataW.trod enc P w base spare held nn f1.type [c1] = some (x1.1, x1.2) := g1
          simp only [Prod.mk.injEq] at hx
          obtain ⟨hD, hP⟩ := hx
          obtain ⟨z, hz1, _, hw0⟩ := DataW.trod_int hi0 g0'
          have h8 : IntKind.i64.min ≤ z ∧ z ≤ IntKind.i64.max := by simpa [Lit.wf, go_sem] using hw0
          have e1 : IntKind.i64.min = -9223372036854775808 := rfl
          have e2 : IntKind.i64.max = 9223372036854775807 := rfl
          obtain ⟨zs, hbs, hzl⟩ := view_inner hi1 hq hcq hbq g1' (fun x hx => hlt x (List.mem_append_right _ (List.mem_flatMap.2 ⟨i, by simp; omega, by rw [hP]; simp [hx]⟩))) (fun k hk' => by
            have hm1 : k ∈ (D i).weights P e := by
              rw [hD]
              simp only [DataW.weights, he]
              exact DataW.weights_mem_each (j := 1) (t := f1.type) (d := x1.1) (by simpa using congrArg (Option.map (·.type)) hg1) rfl k hk'
            have hm2 : k ∈ (DataW.slice ((List.range len).map D) ((List.range (m - len)).map fun j => D (len + j))).weights P t := by
              simp only [DataW.weights, hu]
              refine List.mem_cons_of_mem _ (List.mem_append_left _ (weightsAll_mem (d := D i) ?_ k hm1))
              exact List.mem_map.2 ⟨i, by simpa using hi, rfl⟩
            have := List.all_eq_true.1 hsz _ (DataW.weights_mem_each ht hd k hm2)
            simpa using this)
          have hcell0 := hcell 0 (by simp)
          have hcell1 := hcell 1 (by simp)
          rw [add_add] at hcell0 hcell1
          simp only [List.cons.injEq, and_true] at hz1
          subst hz1
          exact ⟨(z, zs), ⟨by simpa using hcell0, by omega, by omega⟩, c1, by simpa using hcell1, hbs, hzl⟩
    obtain ⟨F, hF⟩ := choose_lt (α := Int × List Nat) (p := fun i F => (w.cell? (a.add (i * 2)) = some (.int .i64 F.1) ∧ -9223372036854775808 ≤ F.1 ∧ F.1 ≤ 9223372036854775807) ∧ ∃ u, w.cell? (a.add (i * 2 + 1)) = some u ∧ Bs w u F.2 ∧ F.2.length ≤ 140737488351232) hfl
    refine ⟨len, fun i => (F i).1, fun i => (F i).2, hreach, fun i hi => (hF i hi).1.2, ?_⟩
    by_cases h0 : len = 0
    · subst h0; exact .inl ⟨rfl, _, _, rfl⟩
    · right
      obtain ⟨b, off, spot⟩ := a
      have hspot : spot = none := by
        have := World.cell?_spot (hF 0 (by omega)).1.1
        simpa [Addr.add] using this
      subst hspot
      refine ⟨by omega, b, off, cap, rfl, hlt (.cell b off) (List.mem_append_left _ (MemPlace.mem_row.2 ⟨0, ?_, by simp⟩)), fun i hi => ?_⟩
      · rw [hce]; omega
      · obtain ⟨⟨hc, _, _⟩, u, hcu, hbs, hzl⟩ := hF i hi
        refine ⟨by rw [← add_plain]; exact hc, u, ?_, hbs, hzl⟩
        rw [Nat.add_assoc, ← add_plain]; exact hcu
end
end Go.Proofs.YtmilmaljahjgeaaDoor
