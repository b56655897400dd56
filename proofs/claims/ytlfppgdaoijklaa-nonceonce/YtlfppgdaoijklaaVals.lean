/- Numbers of bytes, the highest first. -/
import Derived.Test.YtlfppgdaoijklaaRefBytes
import Derived.Laws.BitsAllLaws
namespace Go.Proofs.Ytlfppgdaoijklaa
open Go.RowKit

/-- The number that bytes make, the highest first. -/
def val (zs : List Nat) : Nat := zs.foldl (fun a z => 256 * a + z) 0
theorem val_snoc (zs : List Nat) (z : Nat) : val (zs ++ [z]) = 256 * val zs + z := by unfold val; rw [List.foldl_append]; rfl
theorem val_next (zs : List Nat) (k : Nat) (h : k < zs.length) : val (zs.take (k + 1)) = 256 * val (zs.take k) + zs.getD k 0 := by rw [take_next' zs k h, val_snoc]
theorem val_lt (zs : List Nat) (hz : ∀ z ∈ zs, z < 256) (k : Nat) (hk : k ≤ zs.length) : val (zs.take k) < 256 ^ k := by
  induction k with
  | zero => simp [val]
  | succ k ih =>
    have h1 := ih (by omega)
    have h2 := hz _ (getD_mem zs k (by omega))
    rw [val_next zs k (by omega), Nat.pow_succ]
    omega
theorem shl_or (a z : Nat) (ha : a < 72057594037927936) (hz : z < 256) : bits .or .u64 ((a : Int) * 256) (z : Int) = ((256 * a + z : Nat) : Int) := by
  have e : (a : Int) * 256 = ((256 * a : Nat) : Int) := by omega
  rw [e]
  rw [u64_or_nat _ _ (by omega) (by omega)]
  have : 256 * a = a <<< 8 := by rw [Nat.shiftLeft_eq]; omega
  rw [this, ← Nat.shiftLeft_add_eq_or_of_lt (by omega)]
end Go.Proofs.Ytlfppgdaoijklaa
