/- Halving by the bits: what it makes of a magnitude, that two goes are one, and that 2200 goes bring every number to nought. -/
import Derived.Test.YtidblaepklgkcaaRealMath
namespace Go.Proofs.Ytidblaepklgkcaa

/-- The half of a magnitude. -/
def hf (m : Nat) : Nat := if 9007199254740992 ≤ m then m - 4503599627370496 else if m % 2 = 1 then m / 2 + m / 2 % 2 else m / 2
/-- Halved so many times. -/
def hfi : Nat → Nat → Nat
  | 0, m => m
  | k + 1, m => hfi k (hf m)

theorem hf_le (m : Nat) : hf m ≤ m := by
  unfold hf; split
  · omega
  · split <;> omega
theorem hf_zero : hf 0 = 0 := rfl
theorem hfi_zero (k : Nat) : hfi k 0 = 0 := by
  induction k with
  | zero => rfl
  | succ n ih => show hfi n (hf 0) = 0; rw [hf_zero]; exact ih
theorem hfi_le (k m : Nat) : hfi k m ≤ m := by
  induction k generalizing m with
  | zero => exact Nat.le_refl _
  | succ n ih => exact Nat.le_trans (ih (hf m)) (hf_le m)
theorem hfi_add (a b m : Nat) : hfi (a + b) m = hfi b (hfi a m) := by
  induction a generalizing m with
  | zero => rw [Nat.zero_add]; rfl
  | succ n ih =>
    have e : n + 1 + b = (n + b) + 1 := by omega
    rw [e]; exact ih (hf m)
theorem hfi_succ (k m : Nat) : hfi (k + 1) m = hf (hfi k m) := hfi_add k 1 m

theorem hfi_low (j m : Nat) (h : m < (j + 2) * 4503599627370496) : hfi j m < 9007199254740992 := by
  induction j generalizing m with
  | zero => show m < _; omega
  | succ n ih =>
    show hfi n (hf m) < _
    apply ih
    unfold hf; split
    · omega
    · have : m < 9007199254740992 := by omega
      split <;> omega

theorem hfi_end (j m : Nat) (h : m ≤ 2 ^ j) (hs : m ≤ 9007199254740992) (hne : m < 9007199254740992) : hfi (j + 1) m = 0 := by
  induction j generalizing m with
  | zero =>
    have : m = 0 ∨ m = 1 := by simp at h; omega
    rcases this with rfl | rfl <;> rfl
  | succ n ih =>
    show hfi (n + 1) (hf m) = 0
    have hp : 2 ^ (n + 1) = 2 * 2 ^ n := by rw [Nat.pow_succ, Nat.mul_comm]
    rw [hp] at h
    generalize 2 ^ n = P at h ih
    have h1 : hf m ≤ P := by
      unfold hf; rw [if_neg (by omega)]
      split <;> omega
    have h2 := hf_le m
    exact ih (hf m) h1 (by omega) (by omega)

theorem hfi_2200 (m : Nat) (h : m < 9218868437227405312) : hfi 2200 m = 0 := by
  have h1 := hfi_low 2045 m (by omega)
  have h2 := hfi_end 53 (hfi 2045 m) (by simp; omega) (by omega) h1
  have e : (2200 : Nat) = 2045 + (54 + 101) := by decide
  rw [e, hfi_add, hfi_add 54 101, h2]
  exact hfi_zero 101

theorem hfi_far (n m : Nat) (h : m < 9218868437227405312) (hn : 2200 ≤ n) : hfi n m = 0 := by
  have e : n = 2200 + (n - 2200) := by omega
  rw [e, hfi_add, hfi_2200 m h, hfi_zero]

theorem hfi_stop (k n m : Nat) (h : hfi k m = 0) (hn : k ≤ n) : hfi n m = 0 := by
  have e : n = k + (n - k) := by omega
  rw [e, hfi_add, h, hfi_zero]

/-- The sign bit alone. -/
def sg (b : Nat) : Nat := if ng b then 9223372036854775808 else 0

/-- The number with those bits, halved k times. -/
def fd (b k : Nat) : Nat := if 9218868437227405312 ≤ mg b then b else sg b + hfi k (mg b)

theorem mg_sg (b t : Nat) (h : t < 9223372036854775808) : mg (sg b + t) = t := by
  unfold mg sg; split <;> omega
theorem sg_sg (b t : Nat) (h : t < 9223372036854775808) : sg (sg b + t) = sg b := by
  have : ng (sg b + t) = ng b := by
    unfold sg; cases hb : ng b
    · unfold ng; simp; omega
    · unfold ng; simp
  show (if ng (sg b + t) then 9223372036854775808 else 0) = sg b
  rw [this]; rfl
theorem sg_mg (b : Nat) (h : b < 18446744073709551616) : sg b + mg b = b := by
  unfold sg mg ng; split
  · rename_i h2; simp at h2; omega
  · rename_i h2; simp at h2; omega

theorem fd_zero (b : Nat) (h : b < 18446744073709551616) : fd b 0 = b := by
  unfold fd; split
  · rfl
  · exact sg_mg b h

theorem fd_big (b k : Nat) (h : 9218868437227405312 ≤ mg b) : fd b k = b := by unfold fd; rw [if_pos h]
theorem fd_num (b k : Nat) (h : mg b < 9218868437227405312) : fd b k = sg b + hfi k (mg b) := by unfold fd; rw [if_neg (by omega)]

theorem mg_fd (b k : Nat) (h : mg b < 9218868437227405312) : mg (fd b k) = hfi k (mg b) := by
  rw [fd_num b k h]; have := hfi_le k (mg b); exact mg_sg b _ (by omega)
theorem sg_fd (b k : Nat) (h : mg b < 9218868437227405312) : sg (fd b k) = sg b := by
  rw [fd_num b k h]; have := hfi_le k (mg b); exact sg_sg b _ (by omega)

theorem fd_fd (b j k : Nat) : fd (fd b j) k = fd b (j + k) := by
  by_cases h : 9218868437227405312 ≤ mg b
  · rw [fd_big b j h, fd_big b k h, fd_big b (j + k) h]
  · have hl : mg b < 9218868437227405312 := by omega
    have hm := hfi_le j (mg b)
    rw [fd_num (fd b j) k (by rw [mg_fd b j hl]; omega), sg_fd b j hl, mg_fd b j hl, ← hfi_add, fd_num b (j + k) hl]

theorem fd_lt (b k : Nat) (h : b < 18446744073709551616) : fd b k < 18446744073709551616 := by
  have hm := mg_lt b
  have hh := hfi_le k (mg b)
  unfold fd; split
  · exact h
  · unfold sg; split <;> omega

theorem fd_far (b n : Nat) (hn : 2200 ≤ n) : fd b n = fd b 2200 := by
  unfold fd; split
  · rfl
  · rw [hfi_far n (mg b) (by omega) hn, hfi_2200 (mg b) (by omega)]

theorem fd_three : fd 4613937818241073152 1 = 4609434218613702656 := by decide

end Go.Proofs.Ytidblaepklgkcaa
