/- Which writes wait, and how many. -/
import Derived.Test.YtcikldklacgafaaDvSort
namespace Go.Proofs.Ytcikldklacgafaa
open Go.RowKit

theorem wpList_some {ops : Array Oper} {rest : List Oper} {o : Oper} {a : Act} {w : World} {Q : Exit → Act → World → Prop} {Φ : Value → World → Prop} (hgd : o.guard = none) (hr : ∃ v w', (execOp a.eval o).run Try.prog w = .ok (.value v) w' ∧ Φ v w') (h : ∀ v w', Φ v w' → wpList Try.prog ops Q rest (a.put o.dst v) w') : wpList Try.prog ops Q (o :: rest) a w := by
  obtain ⟨v, w', h1, h2⟩ := hr
  exact wpList_run hgd h1 (h v w' h2)
def keyN (v : Value) : Nat := match v with | .int _ x => x.toNat | _ => 0
/-- All that wait, by the pairs of the map. -/
def rowsOf (wr : List WrE) (wt : List Nat) (L : List (Value × Value)) : List Nat := L.flatMap fun p => wb wr wt (keyN p.1)
theorem flatMap_eq {α β : Type} {f g : α → List β} {K : List α} (h : ∀ k ∈ K, f k = g k) : K.flatMap f = K.flatMap g := by
  simp only [List.flatMap_def]
  rw [List.map_congr_left h]
theorem cover_perm (f : Nat → Nat) : ∀ (K : List Nat) (wt : List Nat), K.Pairwise (· ≠ ·) → (∀ i ∈ wt, f i ∈ K) → (K.flatMap fun k => wt.filter fun i => f i == k).Perm wt
  | [], wt, _, h => by
    cases wt with
    | nil => exact .nil
    | cons i l => exact absurd (h i List.mem_cons_self) List.not_mem_nil
  | k0 :: K, wt, hp, h => by
    have hp' := List.pairwise_cons.1 hp
    rw [List.flatMap_cons]
    have e : (K.flatMap fun k => wt.filter fun i => f i == k) = (K.flatMap fun k => (wt.filter fun i => !(f i == k0)).filter fun i => f i == k) := by
      refine flatMap_eq (fun k hk => ?_)
      rw [List.filter_filter]
      apply List.filter_congr
      intro i _
      by_cases hi : f i = k
      · have : f i ≠ k0 := fun e => hp'.1 k hk (by rw [← e, hi])
        simp [hi, show ¬ k = k0 by rw [← hi]; exact this]
      · simp [hi]
    rw [e]
    have ih := cover_perm f K (wt.filter fun i => !(f i == k0)) hp'.2 (fun i hi => by
      obtain ⟨h1, h2⟩ := List.mem_filter.1 hi
      rcases List.mem_cons.1 (h i h1) with h3 | h3
      · simp [h3] at h2
      · exact h3)
    exact (ih.append_left _).trans (List.filter_append_perm _ wt)
theorem rows_all {w : World} {own : Owner} {bm : Nat} {wr : List WrE} {wt : List Nat} {M : List (Value × Value)} (hM : Mq Try.prog 3 w bm M) (h2 : ∀ p ∈ M, ∃ b : Nat, p.1 = .int .i64 (b : Int) ∧ b < 65536 ∧ wb wr wt b ≠ [] ∧ RowOf w (Is own (.row b)) 3 1 p.2 (wb wr wt b).length (ints (wb wr wt b))) (h3 : ∀ b : Nat, wb wr wt b ≠ [] → ∃ v, ((.int .i64 (b : Int) : Value), v) ∈ M) : (rowsOf wr wt M).Perm wt := by
  have h := cover_perm (fun i => (wr.getD i d0).1) (M.map fun p => keyN p.1) wt ?_ ?_
  · have e : rowsOf wr wt M = (M.map fun p => keyN p.1).flatMap fun k => wt.filter fun i => (wr.getD i d0).1 == k := by
      unfold rowsOf wb
      rw [List.flatMap_map]
    rw [e]; exact h
  · rw [List.pairwise_map]
    refine hM.apart.imp_of_mem ?_
    intro p q hp hq hne e
    obtain ⟨b, e1, -⟩ := h2 p hp
    obtain ⟨c, e2, -⟩ := h2 q hq
    rw [e1, e2] at e hne
    simp [keyN] at e
    exact hne (by rw [e])
  · intro i hi
    have h4 : wb wr wt (wr.getD i d0).1 ≠ [] := List.ne_nil_of_mem (List.mem_filter.2 ⟨hi, by simp⟩)
    obtain ⟨v, hv⟩ := h3 _ h4
    exact List.mem_map.2 ⟨_, hv, by simp [keyN]⟩
theorem rows_step {wr : List WrE} {wt A : List Nat} {L L' : List (Value × Value)} {p : Value × Value} (h : (A ++ rowsOf wr wt L).Perm wt) (hp : L.Perm (p :: L')) : ((A ++ wb wr wt (keyN p.1)) ++ rowsOf wr wt L').Perm wt := by
  have h1 : (rowsOf wr wt L).Perm (wb wr wt (keyN p.1) ++ rowsOf wr wt L') := by
    have := hp.flatMap_right (fun p => wb wr wt (keyN p.1))
    rw [List.flatMap_cons] at this
    exact this
  rw [List.append_assoc]
  exact (h1.symm.append_left A).trans h
theorem eq_of_perm_le : ∀ {l1 l2 : List Int}, l1.Perm l2 → l1.Pairwise (· ≤ ·) → l2.Pairwise (· ≤ ·) → l1 = l2
  | [], l2, h, _, _ => (List.Perm.nil_eq h)
  | a :: l1, [], h, _, _ => absurd h.length_eq (by simp)
  | a :: l1, b :: l2, h, h1, h2 => by
    have g1 := List.pairwise_cons.1 h1
    have g2 := List.pairwise_cons.1 h2
    have hab : a = b := by
      rcases List.mem_cons.1 (h.mem_iff.1 List.mem_cons_self) with e | e
      · exact e
      · rcases List.mem_cons.1 (h.mem_iff.2 List.mem_cons_self) with e2 | e2
        · exact e2.symm
        · have := g2.1 a e
          have := g1.1 b e2
          omega
    subst hab
    rw [eq_of_perm_le h.cons_inv g1.2 g2.2]
/-- A slice that holds these numbers. -/
def NumS (w : World) (v : Value) (l : List Nat) : Prop := (l = [] ∧ ∃ ao cap, v = .slice ao 0 cap) ∨ (0 < l.length ∧ ∃ g cap, v = .slice (some ⟨g, 0, none⟩) l.length cap ∧ g < w.heap.size ∧ ∀ j u, (ints l)[j]? = some u → w.cell? ⟨g, j, none⟩ = some u)
theorem NumS.grow {w w' : World} {v : Value} {l : List Nat} (h : NumS w v l) (k : Grow w w') : NumS w' v l := by
  rcases h with h | ⟨h0, g, cap, e, hg, hc⟩
  · exact .inl h
  · exact .inr ⟨h0, g, cap, e, Nat.lt_of_lt_of_le hg k.size, fun j u hj => grow_cell k (hc j u hj)⟩
/-- What the library's sort leaves. -/
theorem sort_ints {w : World} {v : Value} {A wt : List Nat} (h : w.ownsRow 0 3 1 v A.length (ints A)) (hp : A.Perm wt) (hs : wt.Pairwise (· < ·)) (hl : A.length ≤ 100000) : Calls Try.prog 31 #[v] w fun e w' => e = .returned (.tuple #[]) ∧ NumS w' v wt ∧ But (fun k => v.ownBlock = some k) w w' := by
  have hrow := h
  obtain ⟨h1, ⟨rfl, h2⟩ | ⟨g, cap, cur, rfl, -, hb, h3, h4, h5, h6⟩⟩ := h
  · have hA : A = [] := List.eq_nil_of_length_eq_zero h2
    subst hA
    have hwt : wt = [] := (List.Perm.nil_eq hp).symm
    subst hwt
    have hc := AnyM.slices_Sort_int_none laysS none 0 w
    change Calls Try.prog 31 _ _ _ at hc
    refine hc.mono ?_
    rintro e w' ⟨rfl, rfl⟩
    exact ⟨rfl, .inl ⟨rfl, none, 0, rfl⟩, But.refl _ _⟩
  · have hlen : A.length = wt.length := hp.length_eq
    by_cases h0 : A.length = 0
    · have hA : A = [] := List.eq_nil_of_length_eq_zero h0
      subst hA
      have hwt : wt = [] := (List.Perm.nil_eq hp).symm
      subst hwt
      have hc := AnyM.slices_Sort_int_none laysS (some ⟨g, 0, none⟩) cap w
      change Calls Try.prog 31 _ _ _ at hc
      refine hc.mono ?_
      rintro e w' ⟨rfl, rfl⟩
      exact ⟨rfl, .inl ⟨rfl, _, _, rfl⟩, But.refl _ _⟩
    · have hgl := lt_of_block hb
      have hH : Sort.Holds (Value.int .i64) w g 0 (A.map fun i : Nat => (i : Int)).toArray := fun j hj => by
        have hj' : j < A.length := by simpa using hj
        refine ⟨?_, ?_⟩
        · rw [Nat.zero_add, hrow.cellAt j (by omega)]
          simp [ints, hj']
        · rw [Nat.zero_add]; exact hrow.frozenAt j
      have hc := AnyM.slices_Sort_int laysS g 0 cap (A.map fun i : Nat => (i : Int)) w hH hgl (by simp; omega)
      change Calls Try.prog 31 _ _ _ at hc
      rw [List.length_map] at hc
      have hms : ((A.map fun i : Nat => (i : Int)).mergeSort fun x y => decide (x ≤ y)) = wt.map fun i : Nat => (i : Int) := by
        refine eq_of_perm_le ((List.mergeSort_perm _ _).trans (hp.map _)) ?_ ?_
        · have := List.pairwise_mergeSort (le := fun x y : Int => decide (x ≤ y)) (fun a b c h1 h2 => by simp at h1 h2 ⊢; omega) (fun a b => by simp; omega) (A.map fun i : Nat => (i : Int))
          exact this.imp (fun h => by simpa using h)
        · rw [List.pairwise_map]
          exact hs.imp (fun h => by omega)
      rw [hms] at hc
      refine hc.mono ?_
      rintro e w' ⟨rfl, n, os, rfl⟩
      refine ⟨rfl, .inr ⟨by omega, g, cap, by rw [hlen], ?_, fun j u hj => ?_⟩, ?_⟩
      · simp [Sort.putRow, Sort.mapBlock, Sort.ahead]; omega
      · have hj' : j < wt.length := by
          have := (List.getElem?_eq_some_iff.1 hj).1
          simpa [ints] using this
        have hH' : Sort.Holds (Value.int .i64) (Sort.ahead w n) g 0 (A.map fun i : Nat => (i : Int)).toArray := hH
        rw [Sort.cell?_grow _ _ _ (by simp [Sort.putRow, Sort.mapBlock, Sort.ahead]; omega)]
        have := Sort.cell?_putRow (Value.int .i64) (Sort.ahead w n) g 0 _ (wt.map fun i : Nat => (i : Int)).toArray hH' (by simp [hlen]) j (by simpa using hj')
        rw [Nat.zero_add] at this
        rw [this, ← hj]
        simp [ints, hj']
      · refine ⟨rfl, rfl, rfl, by simp [Sort.putRow, Sort.mapBlock, Sort.ahead], fun k hk hn => ?_⟩
        rw [Sort.heap_grow_old _ _ (by simpa [Sort.putRow, Sort.mapBlock, Sort.ahead] using hk)]
        have hkg : g ≠ k := fun e => hn (by rw [e]; rfl)
        simp [Sort.putRow, Sort.mapBlock, Sort.ahead, Array.getElem?_modify, hkg]
end Go.Proofs.Ytcikldklacgafaa
