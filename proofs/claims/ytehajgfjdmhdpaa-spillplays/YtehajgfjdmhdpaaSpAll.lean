/- n slots given to n pages behind each other; no code in it but the row of them. -/
import Derived.Test.YtehajgfjdmhdpaaSpLaw
import Derived.Test.YtehajgfjdmhdpaaOwnNums
namespace Go.Proofs.Ytehajgfjdmhdpaa
open Go.RowKit Go.Maps

theorem fm_congr {α β : Type} {f g : α → Option β} : ∀ l : List α, (∀ x ∈ l, f x = g x) → l.filterMap f = l.filterMap g
  | [], _ => rfl
  | a :: l, h => by
    rw [List.filterMap_cons, List.filterMap_cons, h a (List.mem_cons_self ..), fm_congr l (fun x hx => h x (List.mem_cons_of_mem _ hx))]
/-- The first i of n slots hold the pages from p on. -/
def allS (n i : Nat) (p : Int) (x : En) : Sl := (List.range n).map fun k => if k < i then some (p + (k : Int), x) else none
def pgs (p : Int) (i : Nat) : List Int := (List.range i).map fun k : Nat => p + (k : Int)
section
variable {n i : Nat} {p : Int} {x : En}
theorem allS_len : (allS n i p x).length = n := by unfold allS; rw [List.length_map, List.length_range]
theorem allS_at {k : Nat} (h : k < n) : (allS n i p x)[k]? = some (if k < i then some (p + (k : Int), x) else none) := by
  unfold allS
  rw [List.getElem?_map, List.getElem?_range h]
  rfl
theorem allS_zero : allS n 0 p x = List.replicate n none := by
  apply List.ext_getElem?
  intro k
  by_cases h : k < n
  · rw [allS_at h, if_neg (by omega), List.getElem?_replicate, if_pos h]
  · rw [List.getElem?_eq_none (by rw [allS_len]; omega), List.getElem?_replicate, if_neg h]
theorem allS_no (q : Int) (hq : ∀ k : Nat, k < i → q ≠ p + (k : Int)) : whoS (allS n i p x) q = none := whoS_no (fun j hj y e => by
  rw [allS_len] at hj
  rw [allS_at hj] at e
  by_cases h : j < i
  · rw [if_pos h] at e
    simp only [Option.some.injEq, Prod.mk.injEq] at e
    exact hq j h e.1.symm
  · rw [if_neg h] at e
    cases e)
theorem allS_slot (h : i < n) : slotS (allS n i p x) (p + (i : Int)) = some i := by
  unfold slotS
  rw [allS_no _ (fun k hk => by omega), gapS_at (i := i) (by rw [allS_at h, if_neg (by omega)]) (fun j hj => ⟨_, by rw [allS_at (by omega), if_pos hj]⟩)]
  rfl
theorem allS_gave (h : i < n) : gaveS (allS n i p x) (p + (i : Int)) x = allS n (i + 1) p x := by
  unfold gaveS
  rw [allS_slot h]
  show (allS n i p x).set i _ = _
  apply List.ext_getElem?
  intro k
  rw [List.getElem?_set]
  by_cases e : i = k
  · subst e
    rw [if_pos rfl, if_pos (by rw [allS_len]; exact h), allS_at h, if_pos (by omega)]
  · rw [if_neg e]
    by_cases hk : k < n
    · rw [allS_at hk, allS_at hk]
      by_cases h2 : k < i
      · rw [if_pos h2, if_pos (by omega)]
      · rw [if_neg h2, if_neg (by omega)]
    · rw [List.getElem?_eq_none (by rw [allS_len]; omega), List.getElem?_eq_none (by rw [allS_len]; omega)]
theorem allS_full : slotS (allS n n p x) (p + (n : Int)) = none := by
  unfold slotS
  rw [allS_no _ (fun k hk => by omega), gapS_no (fun j hj => by rw [allS_len] at hj; exact ⟨_, by rw [allS_at hj, if_pos hj]⟩)]
  rfl
theorem allS_held : heldS (allS n n p x) = pgs p n := by
  unfold heldS entS pgs
  rw [allS_len, List.map_filterMap, ← List.filterMap_eq_map]
  refine fm_congr _ (fun k hk => ?_)
  have hk := List.mem_range.1 hk
  rw [allS_at hk, if_pos hk]
  rfl
theorem pgs_rises : (pgs p i).Pairwise (fun a b => a < b) := by
  unfold pgs
  exact List.pairwise_map.2 (List.pairwise_lt_range.imp (fun h => by omega))
theorem allS_ris : risS (allS n n p x) = pgs p n := by
  unfold risS
  rw [allS_held]
  exact List.mergeSort_of_pairwise (pgs_rises.imp (fun h => by simpa using Int.le_of_lt h))
theorem ris_none : risS (List.replicate n none) = [] := by
  unfold risS heldS
  rw [entS_new]
  exact List.mergeSort_nil
theorem pgs_len : (pgs p i).length = i := by unfold pgs; rw [List.length_map, List.length_range]
theorem pgs_more : pgs p (i + 1) = pgs p i ++ [p + (i : Int)] := by unfold pgs; rw [List.range_succ, List.map_append]; rfl
theorem pgs_i64 (h0 : 0 ≤ p) (h1 : p ≤ 1073741824) (hi : i ≤ 256) : ∀ y ∈ pgs p i, -9223372036854775808 ≤ y ∧ y ≤ 9223372036854775807 := by
  intro y hy
  unfold pgs at hy
  obtain ⟨k, hk, rfl⟩ := List.mem_map.1 hy
  have := List.mem_range.1 hk
  omega
theorem allS_giv (h : i < n) : givI (allS n i p x) (p + (i : Int)) = (i : Int) ∧ givE (allS n i p x) (p + (i : Int)) = 0 := by unfold givI givE; rw [allS_slot h]; exact ⟨rfl, rfl⟩
theorem allS_giv_no : givI (allS n n p x) (p + (n : Int)) = 0 ∧ givE (allS n n p x) (p + (n : Int)) = 11 ∧ gaveS (allS n n p x) (p + (n : Int)) x = allS n n p x := by unfold givI givE gaveS; rw [allS_full]; exact ⟨rfl, rfl, rfl⟩
end
section
variable {w0 w w' : World} {gs gm n : Nat} {S : Sl}
theorem sa_pages (h : Sa w0 w gs gm n S) : Calls Try.prog 17 #[ptr gs] w fun e w' => ∃ a c, e = .returned (.slice a (risS S).length c) ∧ Own w w' (.slice a (risS S).length c) (risS S) ∧ Sa w0 w' gs gm n S ∧ Grow w w' := by
  refine (sppages_any h.m).mono ?_
  rintro e w' ⟨v, rfl, k⟩
  have ho : Own w w' v (risS S) := ⟨ownsRow_base_a k.own (Nat.zero_le _), fun b hb => (World.ownsRow.lt k.own b hb).1⟩
  obtain ⟨a, c, rfl⟩ := ho.sl
  exact ⟨a, c, rfl, ho, h.then k.grow, k.grow⟩
end
/-- What stands amid the giving. -/
structure AlI (w w2 wr : World) (gs gm gx n i k : Nat) (p : Int) (x : En) (r : Value) : Prop where
  sa : Sa w wr gs gm n (allS n i p x)
  bx : Blk wr gx 33 (ecells x)
  own : Own w2 wr r (pgs p k)
  ls : gs < w2.heap.size
  lm : gm < w2.heap.size
  lx : gx < w2.heap.size
  nx : gx ≠ gm
  le : w.heap.size ≤ w2.heap.size
  sz : w2.heap.size ≤ wr.heap.size
section
variable {w w2 wr w' w4 : World} {gs gm gx n i k : Nat} {p : Int} {x : En} {r r4 : Value}
theorem AlI.grow (h : AlI w w2 wr gs gm gx n i k p x r) (g : Grow wr w') : AlI w w2 w' gs gm gx n i k p x r :=
  ⟨h.sa.then g, h.bx.but g (fun h => h), h.own.grow g, h.ls, h.lm, h.lx, h.nx, h.le, Nat.le_trans h.sz g.size⟩
theorem AlI.sa' {j : Nat} (h : AlI w w2 wr gs gm gx n i k p x r) (hs : Sa w w' gs gm n (allS n j p x)) (g : But (· = gm) wr w') : AlI w w2 w' gs gm gx n j k p x r :=
  ⟨hs, h.bx.but g h.nx, h.own.but g (fun b hb e => by have := h.own.new b hb; have := h.lm; omega), h.ls, h.lm, h.lx, h.nx, h.le, Nat.le_trans h.sz g.size⟩
theorem AlI.app (h : AlI w w2 wr gs gm gx n i k p x r) (ga : Grow wr w') (hap : Appd w' w4 3 1 r r4 (k + 1) (numv (pgs p k) ++ numv [p + (k : Int)])) : AlI w w2 w4 gs gm gx n i (k + 1) p x r4 := by
  have h1 := h.grow ga
  have hsz : w'.heap.size ≤ w4.heap.size := hap.but.size
  have hnew : ∀ b, r.ownBlock = some b → w2.heap.size ≤ b := h.own.new
  refine ⟨h1.sa.but hap.but (fun e => ?_) (fun e => ?_) (fun b e => Nat.le_trans h.le (hnew b e)), h1.bx.but hap.but (fun e => ?_), ⟨?_, fun b hb => ?_⟩, h.ls, h.lm, h.lx, h.nx, h.le, Nat.le_trans h1.sz hsz⟩
  · have := hnew _ e; have := h.ls; omega
  · have := hnew _ e; have := h.lm; omega
  · have := hnew _ e; have := h.lx; omega
  · rw [pgs_more, List.length_append, pgs_len, show numv (pgs p k ++ [p + (k : Int)]) = numv (pgs p k) ++ numv [p + (k : Int)] by simp [numv]]
    exact hap.own
  · rcases hap.at' with e | e
    · exact hnew b (by rw [← e]; exact hb)
    · rw [e] at hb
      have := Option.some.inj hb
      have := h1.sz
      omega
end
end Go.Proofs.Ytehajgfjdmhdpaa
