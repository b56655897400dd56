/- Two digests that are the same. -/
import Derived.Test.YthpgjbblbhjndaaDoorShaLaid
import Derived.ChangeKeysEq
namespace Go.Proofs.YthpgjbblbhjndaaDoor
open Go.RowKit

theorem eqItems_same (D : List Nat) (d : Nat) (w : World) (is : List Nat) (h : ∀ j ∈ is, j < D.length) :
    (Op.eqItems (d + 1) 5 1 (u8s D).toArray (u8s D).toArray is).run Tryd.prog w = .ok true w := by
  induction is with
  | nil => simp [Op.eqItems]
  | cons j is ih =>
    have hj := h j (by simp)
    have hc : (u8s D).toArray[j * 1]? = some (.int .u8 (D.getD j 0 : Nat)) := by
      rw [Nat.mul_one, List.getElem?_toArray]; exact u8s_get D j hj
    have h2 : (isAgg 5).run Tryd.prog w = .ok false w := by kernel_rfl
    have hp : (part 5 (u8s D).toArray (j * 1)).run Tryd.prog w = .ok (.int .u8 (D.getD j 0 : Nat)) w := by
      unfold part
      rw [Sem.run_bind, h2, Result.andThen_ok, hc]
      rfl
    simp only [Op.eqItems, Sem.run_bind, hp, Result.andThen_ok]
    rw [run_equalIn_int w d 5 .u8 .u8 _ _ Tryd.underlying5]
    simp
    exact ih (fun k hk => h k (by simp [hk]))
theorem equal_same (D : List Nat) (hD : D.length = 32) (w : World) : (Op.equalIn 10000 35 (.agg (u8s D).toArray) (.agg (u8s D).toArray)).run Tryd.prog w = .ok true w := by
  obtain ⟨i, hi⟩ : ∃ i, Tryd.prog.info? 5 = some i := by
    obtain ⟨i0, hi, _⟩ := info_parts u8info
    exact ⟨i0, hi⟩
  have hc : Tryd.prog.cellsOf 5 = 1 := by kernel_rfl
  rw [run_equalIn_array w 9999 _ _ Tryd.underlying35 hi, hc]
  exact eqItems_same D 9998 w _ (by intro j hj; rw [hD]; simpa using hj)
theorem eql_same (D : List Nat) (hD : D.length = 32) (w : World) : (binOp .eql 35 (.agg (u8s D).toArray) (.agg (u8s D).toArray)).run Tryd.prog w = .ok (.bool true) w := by
  rw [run_eql_struct, equal_same D hD w]; rfl
theorem neq_same (D : List Nat) (hD : D.length = 32) (w : World) : (binOp .neq 35 (.agg (u8s D).toArray) (.agg (u8s D).toArray)).run Tryd.prog w = .ok (.bool false) w := by
  rw [run_neq_struct, equal_same D hD w]; rfl
end Go.Proofs.YthpgjbblbhjndaaDoor
