/- A row of numbers that is new since w. -/
import Derived.Test.YtehajgfjdmhdpaaOwnRow
import Derived.Test.YtehajgfjdmhdpaaInts
namespace Go.Proofs.Ytehajgfjdmhdpaa
open Go.RowKit

/-- A row of numbers, new since w. -/
structure Own (w w' : World) (v : Value) (ks : List Int) : Prop where
  row : w'.ownsRow 0 3 1 v ks.length (numv ks)
  new : ∀ k, v.ownBlock = some k → w.heap.size ≤ k
theorem Own.grow {w w' w2 : World} {v : Value} {ks : List Int} (h : Own w w' v ks) (k : Grow w' w2) : Own w w2 v ks := ⟨ownsRow_grow h.row k, h.new⟩
/-- A number put behind an own row. -/
theorem Own.more {w w3 w4 : World} {v v4 : Value} {F : List Int} {x : Int} (h : Own w w3 v F) (hap : Appd w3 w4 3 1 v v4 (F.length + 1) (numv F ++ numv [x])) (hg : Grow w w3) : Own w w4 v4 (F ++ [x]) ∧ Grow w w4 := by
  refine ⟨⟨?_, fun k hk => ?_⟩, hg.then hap.but (fun b hb e => by have := h.new b e; omega)⟩
  · rw [List.length_append, List.length_singleton, show numv (F ++ [x]) = numv F ++ numv [x] by simp [numv]]
    exact hap.own
  · rcases hap.at' with e | e
    · exact h.new k (by rw [← e]; exact hk)
    · rw [e] at hk
      have := Option.some.inj hk
      have := hg.size
      omega
theorem Own.sl {w w' : World} {v : Value} {ks : List Int} (h : Own w w' v ks) : ∃ a c, v = .slice a ks.length c := own_sl h.row
theorem Own.nums {w w' : World} {v : Value} {ks : List Int} (h : Own w w' v ks) (hk : ∀ x ∈ ks, -9223372036854775808 ≤ x ∧ x ≤ 9223372036854775807) (hl : ks.length ≤ 140737488355328) : Nums w' v ks := Nums.ofRow h.row hk hl
theorem Own.but {R : Nat → Prop} {w w' w2 : World} {v : Value} {ks : List Int} (h : Own w w' v ks) (k : But R w' w2) (hr : ∀ j, v.ownBlock = some j → ¬ R j) : Own w w2 v ks := ⟨ownsRow_but h.row k hr, h.new⟩
theorem Own.blk {w w' : World} {v : Value} {ks : List Int} (h : Own w w' v ks) : ∀ b, v.ownBlock = some b → b < w'.heap.size := fun b hb => (World.ownsRow.lt h.row b hb).2
end Go.Proofs.Ytehajgfjdmhdpaa
