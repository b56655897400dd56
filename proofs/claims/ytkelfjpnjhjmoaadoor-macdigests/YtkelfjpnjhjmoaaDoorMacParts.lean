/- Parts ahead of which one is laid. -/
import Derived.Test.YtkelfjpnjhjmoaaDoorMacBlock
namespace Go.Proofs.YtkelfjpnjhjmoaaDoor
open Go.ChangeShapes Go.WideShapes Go.ChangeAt Go.RowKit Go.Deep

theorem partinfo : (Tryd.prog.info? 22).map (fun i => (i.zero, i.size, i.bytes)) = some (some (.slice none 0 0), 1, 24) := by kernel_rfl
theorem Bs.one {w : World} {v : Value} {xs : List Nat} (h : Bs w v xs) : v.oneCell' = true := by
  obtain ⟨a, c, rfl, _, _⟩ := h.gen
  rfl
theorem ones_mem (B : Nat → Value) (n : Nat) (h : ∀ i, i < n → (B i).oneCell' = true) : ∀ u ∈ (List.range n).map B, u.oneCell' = true := by
  intro u hu
  obtain ⟨i, hi, rfl⟩ := List.mem_map.1 hu
  exact h i (by simpa using hi)

theorem append_parts {w : World} {u p : Value} {ys : List Nat} {xss : List (List Nat)} (ty : TypeId) (hu : Bs w u ys) (hp : Ps w p xss) (hb : (1 + xss.length) * 24 ≤ 140737488355328) :
    ∃ v' w', (Builtin.append_ #[23, 23] ty #[.slice (some ⟨w.heap.size, 0, none⟩) 1 1, p]).run Tryd.prog (w.alloc (.cells #[u] 22)) = .ok v' w' ∧ Ps w' v' (ys :: xss) ∧ But (fun _ => False) w w' := by
  obtain ⟨i0, hi, hz0, hz1, hz2⟩ := info_parts partinfo
  have b1 : But (fun _ => False) w (w.alloc (.cells #[u] 22)) := (But.refl _ w).alloc _
  have hown : (w.alloc (.cells #[u] 22)).ownsRow w.heap.size 22 1 (.slice (some ⟨w.heap.size, 0, none⟩) 1 1) 1 [u] :=
    ⟨rfl, .inr ⟨w.heap.size, 1, #[u], rfl, Nat.le_refl _, heap_alloc_new _ _, Nat.le_refl _, by unfold maxLen; decide, rfl, rfl⟩⟩
  have key : ∀ (B : Nat → Value) (v' : Value) (w' : World), (∀ i, i < xss.length → Bs w (B i) (xss.getD i [])) → w'.ownsRow w.heap.size 22 1 v' (1 + xss.length) ([u] ++ (List.range xss.length).map B) → (w.alloc (.cells #[u] 22)).grownBy w' (some w.heap.size) →
      Ps w' v' (ys :: xss) ∧ But (fun _ => False) w w' := by
    intro B v' w' hB hown' hgr
    have bb : But (fun _ => False) w w' := b1.grown hgr (fun k e hk => by cases e; exact absurd hk (Nat.lt_irrefl _))
    refine ⟨?_, bb⟩
    have h' := hown'
    obtain ⟨_, ⟨_, h0⟩ | ⟨g, cap, cur, rfl, hg, hh, hcap, _, _, _⟩⟩ := hown'
    · omega
    · refine .inr ⟨by simp, g, 0, cap, ?_, lt_of_block hh, fun i hi => ?_⟩
      · simp [Nat.add_comm]
      · have hi' : i < 1 + xss.length := by simp at hi; omega
        rw [Nat.zero_add, h'.cellAt i (by omega)]
        cases i with
        | zero => exact ⟨u, rfl, hu.but bb (fun _ _ _ h => h)⟩
        | succ i =>
          have hi2 : i < xss.length := by omega
          refine ⟨B i, ?_, (hB i hi2).but bb (fun _ _ _ h => h)⟩
          simp [hi2]
  by_cases h0 : xss = []
  · subst h0
    have hk := fun v' w' => key (fun _ => undef) v' w' (fun i hi => absurd hi (by simp))
    rcases hp with ⟨_, rfl | ⟨a, cap, rfl⟩⟩ | ⟨h, _⟩
    · have hr := run_append_owned_none (P := Tryd.prog) (w.alloc (.cells #[u] 22)) w.heap.size 23 ty 22 i0 1 Tryd.underlying23 hi _ 1 [u] hown
      exact ⟨_, _, hr, (hk _ _ (by simpa using hown) (World.grownBy.refl _ _))⟩
    · obtain ⟨v', w', hr, ho, hg, _⟩ := run_append_own (P := Tryd.prog) (w.alloc (.cells #[u] 22)) w.heap.size 23 ty 22 i0 _ 1 24 Tryd.underlying23 hi hz0 hz1 hz2 rfl (by decide) _ 1 [u] hown a 0 cap [] rfl (by simp) (by simp) (by unfold maxLen; decide) (by decide) (by simp)
      exact ⟨v', w', hr, hk _ _ (by simpa using ho) hg⟩
    · simp at h
  · rcases hp with ⟨h, _⟩ | ⟨h, b, off, cap, rfl, hbl, hc⟩
    · exact absurd h h0
    obtain ⟨B, hB⟩ := choose_lt (α := Value) (p := fun i v => w.cell? ⟨b, off + i, none⟩ = some v ∧ Bs w v (xss.getD i [])) hc
    obtain ⟨v', w', hr, ho, hg, _⟩ := run_append_own (P := Tryd.prog) (w.alloc (.cells #[u] 22)) w.heap.size 23 ty 22 i0 _ 1 24 Tryd.underlying23 hi hz0 hz1 hz2 rfl (by decide) _ 1 [u] hown ⟨b, off, none⟩ xss.length cap ((List.range xss.length).map B) (by simp)
      (by
        intro j v hv
        have hj : j < xss.length := by have := (List.getElem?_eq_some_iff.1 hv).1; simpa using this
        have e : v = B j := by simp [hj] at hv; exact hv.symm
        rw [e, Addr.add_lit]
        exact (World.cell?_of_block (b1.block b hbl (fun h => h))).trans (hB j hj).1)
      (ones_mem B _ (fun i hi => (hB i hi).2.one)) (by unfold maxLen; omega) hb (by simp)
    exact ⟨v', w', hr, key B v' w' (fun i hi => (hB i hi).2) ho hg⟩
end Go.Proofs.YtkelfjpnjhjmoaaDoor
