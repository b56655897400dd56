/- Write, where it waits. -/
import Derived.Test.YtcikldklacgafaaDvWrite
namespace Go.Proofs.Ytcikldklacgafaa
open Go.RowKit

theorem rising_len : ∀ (l : List Nat) (lo n : Nat), l.Pairwise (· < ·) → (∀ i ∈ l, lo ≤ i ∧ i < n) → l.length ≤ n - lo
  | [], _, _, _, _ => Nat.zero_le _
  | a :: l, lo, n, hp, h => by
    have hp' := List.pairwise_cons.1 hp
    have h1 := rising_len l (a + 1) n hp'.2 (fun i hi => ⟨hp'.1 i hi, (h i (List.mem_cons_of_mem _ hi)).2⟩)
    have h2 := h a List.mem_cons_self
    rw [List.length_cons]
    omega
/-- Behind the first statement: the map has one more. -/
structure WMid (w : World) (own : Owner) (bm : Nat) (s : Dev) (b : Nat) (xs : List Nat) (w1 : World) : Prop where
  k1 : But (fun k => own k = .row b ∨ k = bm) w w1
  ex : ∃ own1, Ext own own1 ∧ Fresh w own own1 ∧ Top w1 own1 ∧ WtM w1 own1 bm (s.write b xs).wr (s.write b xs).wt
theorem WMid.grow {w w1 w2 : World} {own : Owner} {bm b : Nat} {s : Dev} {xs : List Nat} (h : WMid w own bm s b xs w1) (k : Grow w1 w2) : WMid w own bm s b xs w2 := by
  obtain ⟨own1, h1, h2, h3, h4⟩ := h.ex
  exact ⟨h.k1.trans (k.mono (fun _ _ h => h.elim)), own1, h1, h2, h3.grow k.size, h4.but k (fun h => h) (fun _ _ _ h => h) (fun _ _ h => h)⟩
end Go.Proofs.Ytcikldklacgafaa
