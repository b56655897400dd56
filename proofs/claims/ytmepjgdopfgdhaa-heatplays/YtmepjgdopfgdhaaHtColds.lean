/- Coldest, of some keys or none. -/
import Derived.Test.YtmepjgdopfgdhaaHtLaid
namespace Go.Proofs.Ytmepjgdopfgdhaa
open Go.RowKit

theorem cold_all {w : World} {p : Value} {H : Int → Nat} {v : Value} {ks : List Int} (h : Ofs w 16 p H) (hv : Nums w v ks) :
    Calls Try.prog 19 #[p, v] w fun e w' => e = .returned (.tuple #[.int .i64 (coldest H ks), .bool (decide (0 < ks.length))]) ∧ Grow w w' := by
  by_cases h0 : 0 < ks.length
  · rw [decide_eq_true h0]; exact coldest_some h hv h0
  · obtain rfl : ks = [] := List.eq_nil_of_length_eq_zero (by omega)
    exact (coldest_none w p v hv.len).mono (fun e w' h => ⟨h.1, by rw [h.2]; exact But.refl _ _⟩)
theorem rcold_all {w : World} {p : Value} {H : Int → Nat} {v : Value} {ks : List Int} (h : Ofs w 17 p H) (hv : Nums w v ks) :
    Calls Try.prog 20 #[p, v] w fun e w' => e = .returned (.tuple #[.int .i64 (coldest H ks), .bool (decide (0 < ks.length))]) ∧ Grow w w' := by
  by_cases h0 : 0 < ks.length
  · rw [decide_eq_true h0]; exact rcoldest_some h hv h0
  · obtain rfl : ks = [] := List.eq_nil_of_length_eq_zero (by omega)
    exact (rcoldest_none w p v hv.len).mono (fun e w' h => ⟨h.1, by rw [h.2]; exact But.refl _ _⟩)
end Go.Proofs.Ytmepjgdopfgdhaa
