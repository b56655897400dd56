/- General: an own row opened. -/
import Derived.Test.YtehajgfjdmhdpaaOwnOps
namespace Go.Proofs.Ytehajgfjdmhdpaa
open Go.RowKit

/-- An own row opened. -/
theorem own_opn {w : World} {base e s n : Nat} {v : Value} {xs : List Value} (h : w.ownsRow base e s v n xs) (h0 : 0 < n) : ∃ g cap R, v = .slice (some ⟨g, 0, none⟩) n cap ∧ base ≤ g ∧ Blk w g e (xs ++ R) := by
  obtain ⟨hl, ⟨_, h1⟩ | ⟨g, cap, cur, rfl, hge, hb, h1, h2, h3, h4⟩⟩ := h
  · omega
  · refine ⟨g, cap, cur.toList.drop (n * s), rfl, hge, ?_⟩
    have e : xs ++ cur.toList.drop (n * s) = cur.toList := by rw [← h4, List.take_append_drop]
    rw [e]
    exact hb
end Go.Proofs.Ytehajgfjdmhdpaa
