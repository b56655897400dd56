/- That no two pages have one slot, as a law looks at it. -/
import Derived.Test.YtehajgfjdmhdpaaSpAll
namespace Go.Proofs.Ytehajgfjdmhdpaa
open Go.RowKit Go.Maps

section
variable {S : Sl} {p q : Int} {x : En} {i n : Nat}
theorem ofI_is (hok : SlOk S) (h : S[i]? = some (some (p, x))) : ofI S p = i ∧ ofB S p = true ∧ ofX S p = x := by
  have h1 := whoS_is hok h
  unfold ofI ofB ofX
  rw [h1]
  dsimp only [Option.getD_some, Option.isSome_some]
  rw [h]
  exact ⟨rfl, rfl, rfl⟩
theorem ofB_true (h : ofB S p = true) : ∃ x, S[ofI S p]? = some (some (p, x)) := by
  unfold ofB at h
  unfold ofI
  cases e : whoS S p with
  | none => rw [e] at h; cases h
  | some i => exact whoS_some e
theorem ofB_free (hok : SlOk S) : ofB (freeS S p) p = false := by
  unfold ofB
  rw [whoS_no (fun j _ y e => ((freeS_at hok).1 e).2 rfl)]
  rfl
theorem had_giv (h : ofB S p = true) : givI S p = (ofI S p : Int) ∧ givE S p = 0 := by
  unfold ofB at h
  unfold givI givE ofI slotS
  cases e : whoS S p with
  | none => rw [e] at h; cases h
  | some i => exact ⟨rfl, rfl⟩
theorem giv_two : givE S p = 0 ∨ (givE S p = 11 ∧ slotS S p = none) := by
  unfold givE
  cases e : slotS S p with
  | none => exact .inr ⟨rfl, rfl⟩
  | some i => exact .inl rfl
theorem ris_perm (S : Sl) : (risS S).Perm (heldS S) := List.mergeSort_perm _ _
theorem ris_len (S : Sl) : (risS S).length = (heldS S).length := (ris_perm S).length_eq
theorem ris_full (h : slotS S p = none) : (risS (gaveS S p x)).length = S.length := by
  unfold gaveS
  rw [h, ris_len]
  refine heldS_full ?_
  unfold slotS at h
  cases e : whoS S p with
  | none => rw [e] at h; simpa using h
  | some i => rw [e] at h; simp at h
theorem ris_mem (h : q ∈ risS S) : ∃ (i : Nat) (x : En), S[i]? = some (some (q, x)) := mem_heldS.1 ((ris_perm S).mem_iff.1 h)
theorem ris_le_len (S : Sl) : (risS S).length ≤ S.length := by rw [ris_len]; exact heldS_len S
theorem ris_i64 (hok : SlOk S) (h : q ∈ risS S) : i64 q := by
  obtain ⟨i, x, e⟩ := ris_mem h
  exact hok.i64 e
theorem ris_nodup (hok : SlOk S) : (risS S).Nodup := (ris_perm S).nodup_iff.2 (heldS_nodup hok)
theorem ris_rises (hok : SlOk S) : (risS S).Pairwise (fun a b => a < b) := by
  have h1 : (risS S).Pairwise (fun a b => a ≤ b) := by
    unfold risS
    have h := List.pairwise_mergeSort (le := fun x y : Int => decide (x ≤ y)) (fun a b c h1 h2 => by simp at *; omega) (fun a b => by simp; omega) (heldS S)
    exact h.imp (fun h => by simpa using h)
  exact List.Pairwise.imp (fun h => by omega) (h1.and (ris_nodup hok))
theorem ris_ofI (hok : SlOk S) (h : q ∈ risS S) : ofB S q = true ∧ ofI S q < S.length := by
  obtain ⟨i, x, e⟩ := ris_mem h
  obtain ⟨h1, h2, -⟩ := ofI_is hok e
  exact ⟨h2, by rw [h1]; exact (List.getElem?_eq_some_iff.1 e).1⟩
theorem ofI_inj (h1 : ofB S p = true) (h2 : ofB S q = true) (h : ofI S p = ofI S q) : p = q := by
  obtain ⟨x, e1⟩ := ofB_true h1
  obtain ⟨y, e2⟩ := ofB_true h2
  rw [h, e2] at e1
  simp only [Option.some.injEq, Prod.mk.injEq] at e1
  exact e1.1.symm
/-- The slots that were seen when the pages of l were. -/
def seenS (S : Sl) (n : Nat) (l : List Int) : List Value := (List.range n).map fun i => .bool (l.any fun q => ofI S q == i)
theorem seenS_len (l : List Int) : (seenS S n l).length = n := by unfold seenS; rw [List.length_map, List.length_range]
theorem seenS_at (l : List Int) (h : i < n) : (seenS S n l)[i]? = some (.bool (l.any fun q => ofI S q == i)) := by
  unfold seenS
  rw [List.getElem?_map, List.getElem?_range h]
  rfl
theorem seenS_nil : seenS S n [] = List.replicate n (.bool false) := by
  show List.map (fun _ => Value.bool false) (List.range n) = _
  rw [List.map_const', List.length_range]
theorem seenS_set (l : List Int) (q : Int) : (seenS S n l).set (ofI S q) (.bool true) = seenS S n (l ++ [q]) := by
  apply List.ext_getElem?
  intro i
  by_cases hi : i < n
  · rw [List.getElem?_set, seenS_at _ hi, seenS_at _ hi, seenS_len, List.any_append]
    by_cases h : ofI S q = i
    · rw [if_pos h, if_pos (by omega)]; simp [h]
    · rw [if_neg h]
      simp [h]
  · rw [List.getElem?_eq_none (by rw [List.length_set, seenS_len]; omega), List.getElem?_eq_none (by rw [seenS_len]; omega)]
/-- The next page's slot wasn't seen. -/
theorem seenS_new (hok : SlOk S) (hn : S.length = n) {k : Nat} (h : (risS S)[k]? = some q) : (seenS S n ((risS S).take k))[ofI S q]? = some (.bool false) := by
  have hm := List.mem_of_getElem? h
  obtain ⟨h1, h2⟩ := ris_ofI hok hm
  rw [seenS_at _ (by omega)]
  congr 2
  rw [List.any_eq_false]
  intro y hy e
  have hy' := List.mem_of_mem_take hy
  have e2 : y = q := ofI_inj (ris_ofI hok hy').1 h1 (by simpa using e)
  obtain ⟨j, hj, ej⟩ := List.mem_take_iff_getElem.1 hy
  have hk := (List.getElem?_eq_some_iff.1 h)
  have h5 := List.pairwise_iff_getElem.1 (ris_rises hok) j k (by omega) hk.1 (by omega)
  rw [ej, hk.2, e2] at h5
  omega
end
/-- What stands amid the look at all pages. -/
structure OnI (w w6 wq : World) (gs gm g3 n : Nat) (S : Sl) (pv : Value) (k : Nat) : Prop where
  sa : Sa w wq gs gm n S
  own : Own w6 wq pv (risS S)
  blk : Blk wq g3 4 (seenS S n ((risS S).take k))
  n3 : w6.heap.size ≤ g3
  pb : ∀ b, pv.ownBlock = some b → b ≠ g3
  ls : gs < w6.heap.size
  lm : gm < w6.heap.size
  le : w.heap.size ≤ w6.heap.size
section
variable {w w6 w7 wq w' : World} {gs gm g3 n k : Nat} {S : Sl} {pv : Value} {q : Int}
theorem OnI.grow (h : OnI w w6 wq gs gm g3 n S pv k) (g : Grow wq w') : OnI w w6 w' gs gm g3 n S pv k := ⟨h.sa.then g, h.own.grow g, h.blk.but g (fun h => h), h.n3, h.pb, h.ls, h.lm, h.le⟩
theorem OnI.make (h : Sa w w7 gs gm n S) (ho : Own w6 w7 pv (risS S)) (h0 : Sa w w6 gs gm n S) (hg : Grow w6 w7) : OnI w w6 (w7.alloc (.cells (List.replicate n (Value.bool false)).toArray 4)) gs gm w7.heap.size n S pv 0 := by
  have ga : Grow w7 (w7.alloc (.cells (List.replicate n (Value.bool false)).toArray 4)) := (But.refl _ w7).alloc _
  refine ⟨h.then ga, ho.grow ga, ?_, hg.size, fun b hb e => ?_, h0.lt.1, h0.lt.2, h0.grow.size⟩
  · rw [List.take_zero, seenS_nil]
    exact Blk.new rfl
  · have := ho.blk b hb
    omega
theorem OnI.set (h : OnI w w6 wq gs gm g3 n S pv k) (hq : (risS S)[k]? = some q) : OnI w w6 (wq.setCell ⟨g3, ofI S q, none⟩ (.bool true)) gs gm g3 n S pv (k + 1) := by
  have hb : But (· = g3) wq (wq.setCell ⟨g3, ofI S q, none⟩ (.bool true)) := But.set1 wq g3 _ _
  have hn3 := h.n3
  have hls := h.ls
  have hlm := h.lm
  have hle := h.le
  refine ⟨h.sa.but hb (by omega) (by omega) (fun b e => by omega), h.own.but hb (fun b hb e => h.pb b hb e), ?_, h.n3, h.pb, h.ls, h.lm, h.le⟩
  have h1 := h.blk.set (ofI S q) (.bool true)
  rw [seenS_set] at h1
  rw [List.take_add_one, hq]
  exact h1
end
end Go.Proofs.Ytehajgfjdmhdpaa
