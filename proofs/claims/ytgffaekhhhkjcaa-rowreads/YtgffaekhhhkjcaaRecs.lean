/- What a walk is told of a slice of records of ints that came in: k numbers each. -/
import Derived.Test.YtgffaekhhhkjcaaBytes
namespace Go.Proofs.Ytgffaekhhhkjcaa
open Go.ChangeShapes Go.WideShapes Go.ChangeAt Go.RowKit Go.Deep

/-- The slice v holds n records of k ints: Z i j. -/
def Recs (k : Nat) (w : World) (v : Value) (n : Nat) (Z : Nat → Nat → Int) : Prop :=
  n ≤ 140737488351232 ∧ (∀ i j, i < n → j < k → -9223372036854775808 ≤ Z i j ∧ Z i j ≤ 9223372036854775807) ∧
  ((n = 0 ∧ ∃ ao cap, v = .slice ao 0 cap) ∨
   (0 < n ∧ ∃ b off cap, v = .slice (some ⟨b, off, none⟩) n cap ∧ n ≤ cap ∧ b < w.heap.size ∧ ∀ i j, i < n → j < k → w.cell? ⟨b, off + (i * k + j), none⟩ = some (.int .i64 (Z i j))))

theorem Recs.below {k : Nat} {w w' : World} {v : Value} {n : Nat} {Z : Nat → Nat → Int} (h : Recs k w v n Z) (hb : Below w.heap.size w w') : Recs k w' v n Z := by
  obtain ⟨h1, h2, h3⟩ := h
  refine ⟨h1, h2, ?_⟩
  rcases h3 with h3 | ⟨h0, b, off, cap, rfl, hcap, hlt, hc⟩
  · exact .inl h3
  · exact .inr ⟨h0, b, off, cap, rfl, hcap, Nat.lt_of_lt_of_le hlt hb.size, fun i j hi hj => (hb.cell (by exact hlt)).trans (hc i j hi hj)⟩

section
variable {H : Type} {enc : TypeId × Value → H} {P : Program} {w : World} {base : Nat} {spare : Nat → Bool} {held : Bool}

theorem view_recs {t e : TypeId} {fs : Array Field} {k : Nat} {v : Value} {d : DataW H} {ps : List MemPlace} {r : Reach} {b0 : Nat} {ts : List TypeId} {ds : List (DataW H)} {j : Nat}
    (hu : P.underlying t = some (.slice e)) (he : P.underlying e = some (.struct fs)) (hk : fs.size = k) (hk0 : 0 < k) (hce : P.cellsOf e = k) (hb : 1 ≤ P.bytesOf e)
    (hfs : ∀ (j : Nat) (f : Field), fs[j]? = some f → f.offset = j ∧ P.cellsOf f.type = 1 ∧ P.underlying f.type = some (.int .i64))
    (hval : Value.okWide P w r b0 t v) (h : DataW.Trod enc P w base spare held t v d ps) (hlt : ∀ x ∈ ps, x.block < w.heap.size)
    (hsz : (DataW.weightsEach P ts ds).all (· ≤ reachBytes) = true) (ht : ts[j]? = some t) (hd : ds[j]? = some d) : ∃ n Z, Recs k w v n Z := by
  obtain ⟨a0, len, cap, rfl⟩ := okWide_slice hu hval
  obtain ⟨fuel, hf1⟩ := h
  rcases open_slice hu hf1 with ⟨hcs, _⟩ | ⟨a, len', cap', m, n, D, Pl, hcs, _, hl, hm, hmm, hx, hel⟩
  · simp [Value.cells] at hcs
    obtain ⟨rfl, rfl, rfl⟩ := hcs
    exact ⟨0, fun _ _ => 0, by omega, fun i j hi => by omega, .inl ⟨rfl, _, _, rfl⟩⟩
  · simp [Value.cells] at hcs
    obtain ⟨rfl, rfl, rfl⟩ := hcs
    simp only [Prod.mk.injEq] at hx
    obtain ⟨rfl, rfl⟩ := hx
    have hlm : len ≤ m := by rw [hmm]; split <;> omega
    have hreach : len ≤ 140737488351232 := by
      have h1 := sized_slice hsz ht hd hu
      simp only [List.length_map, List.length_range, reachBytes] at h1
      have h2 : len + (m - len) ≤ (len + (m - len)) * P.bytesOf e := Nat.le_mul_of_pos_right _ hb
      omega
    have hfl : ∀ i, i < len → ∃ F : Nat → Int, ∀ j, j < k → w.cell? (a.add (i * k + j)) = some (.int .i64 (F j)) ∧ -9223372036854775808 ≤ F j ∧ F j ≤ 9223372036854775807 := by
      intro i hi
      obtain ⟨cs', h1, h2⟩ := hel i (by omega)
      rw [hce] at h1
      obtain ⟨_, hlen, hcell⟩ := World.cells?_some h1
      obtain ⟨xs, q, _, _, _, hxl, hf⟩ := DataW.trod_struct he h2
      refine choose_lt (α := Int) (p := fun j z => w.cell? (a.add (i * k + j)) = some (.int .i64 z) ∧ -9223372036854775808 ≤ z ∧ z ≤ 9223372036854775807) ?_
      intro j hj
      obtain ⟨f, hfj⟩ : ∃ f, fs[j]? = some f := ⟨fs[j]'(by omega), Array.getElem?_eq_getElem (by omega)⟩
      obtain ⟨ho, hc1, hi64⟩ := hfs j f hfj
      have g := hf j f hfj
      rw [ho, hc1] at g
      have hxj : xs[j]? = some (xs[j]'(by omega)) := List.getElem?_eq_getElem (by omega)
      rw [hxj] at g
      obtain ⟨z, hz1, _, hw0⟩ := DataW.trod_int hi64 g
      have hcj := hcell j hj
      rw [add_add] at hcj
      have hjl : j < cs'.length := by omega
      have hz2 : cs'[j]? = some (.int .i64 z) := by
        have e := congrArg (fun l : List Value => l[0]?) hz1
        simp [List.getElem?_drop] at e
        simpa using e
      rw [hz2] at hcj
      have h8 : IntKind.i64.min ≤ z ∧ z ≤ IntKind.i64.max := by simpa [Lit.wf, go_sem] using hw0
      have e1 : IntKind.i64.min = -9223372036854775808 := rfl
      have e2 : IntKind.i64.max = 9223372036854775807 := rfl
      exact ⟨z, hcj, by omega, by omega⟩
    obtain ⟨Z, hZ⟩ := choose_lt (α := Nat → Int) (p := fun i F => ∀ j, j < k → w.cell? (a.add (i * k + j)) = some (.int .i64 (F j)) ∧ -9223372036854775808 ≤ F j ∧ F j ≤ 9223372036854775807) hfl
    refine ⟨len, Z, hreach, fun i j hi hj => (hZ i hi j hj).2, ?_⟩
    by_cases h0 : len = 0
    · subst h0; exact .inl ⟨rfl, _, _, rfl⟩
    · right
      obtain ⟨b, off, spot⟩ := a
      have hspot : spot = none := by
        have := World.cell?_spot (hZ 0 (by omega) 0 hk0).1
        simpa [Addr.add] using this
      subst hspot
      refine ⟨by omega, b, off, cap, rfl, hl, hlt (.cell b off) (List.mem_append_left _ (MemPlace.mem_row.2 ⟨0, ?_, by simp⟩)), ?_⟩
      · rw [hce]; exact Nat.mul_pos (by omega) hk0
      · intro i j hi hj
        rw [← add_plain]; exact (hZ i hi j hj).1
end
end Go.Proofs.Ytgffaekhhhkjcaa
