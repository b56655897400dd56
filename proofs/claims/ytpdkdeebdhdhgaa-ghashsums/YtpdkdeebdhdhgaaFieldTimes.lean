/- The program's doubled and Times. -/
import Derived.Test.YtpdkdeebdhdhgaaFieldMath
import Derived.Test.YtpdkdeebdhdhgaaBlocks
namespace Go.Proofs.Ytpdkdeebdhdhgaa
open Go.RowKit

/-- A byte as a number. -/
def b8 (x : B8) : Nat := x.toNat
theorem b8_lt (x : B8) : b8 x < 256 := x.isLt
theorem b8_of (n : Nat) (h : n < 256) : b8 (BitVec.ofNat 8 n) = n := by unfold b8; simp; omega
theorem b8_inj {x y : B8} (h : b8 x = b8 y) : x = y := BitVec.eq_of_toNat_eq h
theorem b8_get (n : Nat) (h : n < 256) : ∃ x : B8, n = b8 x := ⟨BitVec.ofNat 8 n, (b8_of n h).symm⟩
theorem xor_b8 (a b : B8) : bits .xor .u8 (b8 a : Int) (b8 b : Int) = (b8 (a ^^^ b) : Int) := by
  rw [u8_xor_nat _ _ (b8_lt a) (b8_lt b)]; unfold b8; rw [BitVec.toNat_xor]
theorem dbl_low (a : B8) (h : a.getLsbD 7 = false) : bits .and .u8 (b8 a : Int) 128 = 0 ∧ (b8 a : Int) * 2 % 256 = (b8 (dbl a) : Int) := by
  revert h
  exact all8 (P := fun a => a.getLsbD 7 = false → bits .and .u8 (b8 a : Int) 128 = 0 ∧ (b8 a : Int) * 2 % 256 = (b8 (dbl a) : Int)) (by decide +kernel) a
theorem dbl_high (a : B8) (h : a.getLsbD 7 = true) : bits .and .u8 (b8 a : Int) 128 = 128 ∧ bits .xor .u8 ((b8 a : Int) * 2 % 256) 27 = (b8 (dbl a) : Int) := by
  revert h
  exact all8 (P := fun a => a.getLsbD 7 = true → bits .and .u8 (b8 a : Int) 128 = 128 ∧ bits .xor .u8 ((b8 a : Int) * 2 % 256) 27 = (b8 (dbl a) : Int)) (by decide +kernel) a

theorem bit_at (b : B8) (k : Nat) (h : k < 8) : bits .and .u8 ((b8 b : Int) / 2 ^ k) 1 = (if b.getLsbD k then 1 else 0) := by
  revert b
  revert h
  revert k
  have e : ∀ k, k < 8 → ∀ n, n < 256 → bits .and .u8 ((b8 (BitVec.ofNat 8 n) : Int) / 2 ^ k) 1 = (if (BitVec.ofNat 8 n).getLsbD k then 1 else 0) := by decide +kernel
  intro k h
  exact all8 (e k h)
end Go.Proofs.Ytpdkdeebdhdhgaa
