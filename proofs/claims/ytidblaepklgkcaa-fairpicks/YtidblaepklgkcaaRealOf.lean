/- The number of a rank: what real.Of and the document's Of answer, and how it goes with the rank. -/
import Derived.Test.YtidblaepklgkcaaRealOrd
namespace Go.Proofs.Ytidblaepklgkcaa
open Go.RowKit

/-- The bits of the number with that rank. -/
def ofr (n : Int) : Nat :=
  if 9218868437227405312 < n then 9221120237041090561 else if n < -9218868437227405313 then 18442240474082181120
  else if n < 0 then 9223372036854775808 + (-(n + 1)).toNat else n.toNat

theorem ofr_hi (n : Int) (h : 9218868437227405312 < n) : ofr n = 9221120237041090561 := by unfold ofr; rw [if_pos h]
theorem ofr_lo (n : Int) (h : n < -9218868437227405313) : ofr n = 18442240474082181120 := by unfold ofr; rw [if_neg (by omega), if_pos h]
theorem ofr_neg (n : Int) (h1 : -9218868437227405313 ≤ n) (h2 : n < 0) : ofr n = 9223372036854775808 + (-(n + 1)).toNat := by
  unfold ofr; rw [if_neg (by omega), if_neg (by omega), if_pos h2]
theorem ofr_pos (n : Int) (h1 : 0 ≤ n) (h2 : n ≤ 9218868437227405312) : ofr n = n.toNat := by
  unfold ofr; rw [if_neg (by omega), if_neg (by omega), if_neg (by omega)]

theorem ofr_lt (n : Int) : ofr n < 18446744073709551616 := by
  unfold ofr; split
  · omega
  · split
    · omega
    · split <;> omega

theorem rk_ofr (n : Int) (h1 : -9218868437227405313 ≤ n) (h2 : n ≤ 9218868437227405312) : rk (ofr n) = n := by
  by_cases h : n < 0
  · rw [ofr_neg n h1 h]
    unfold rk nn ng mg
    rw [if_neg (by simp; omega), if_pos (by simp)]
    omega
  · rw [ofr_pos n (by omega) h2]
    unfold rk nn ng mg
    rw [if_neg (by simp; omega), if_neg (by simp; omega)]
    omega

theorem ofr_rk (b : Nat) (hb : b < 18446744073709551616) (h : nn b = false) : ofr (rk b) = b := by
  rw [nn_false] at h
  have h0 := h
  unfold mg at h
  by_cases hg : 9223372036854775808 ≤ b
  · have e : rk b = -(mg b : Int) - 1 := by unfold rk nn ng; rw [if_neg (by simp; omega), if_pos (by simpa using hg)]
    rw [e, ofr_neg _ (by omega) (by omega)]
    unfold mg; omega
  · have e : rk b = (mg b : Int) := by unfold rk nn ng; rw [if_neg (by simp; omega), if_neg (by simpa using hg)]
    rw [e, ofr_pos _ (by omega) (by omega)]
    unfold mg; omega

theorem nan_any (w : World) : Calls Try.prog 58 #[] w fun e w' => e = .returned (.float .f64 9221120237041090561) ∧ w' = w := by
  have h := from_run
  go_enter Try.func58, Try.ntmps58
  go_wp2
  go_ret
  exact ⟨rfl, rfl⟩

theorem or_sign (n : Int) (h1 : 0 ≤ n) (h2 : n < 9223372036854775808) : bits .or .u64 9223372036854775808 n = 9223372036854775808 + n := by
  obtain ⟨m, rfl⟩ := Int.eq_ofNat_of_zero_le h1
  have h := u64_or_nat 9223372036854775808 m (by omega) (by omega)
  have e : 9223372036854775808 ||| m = 9223372036854775808 + m := by
    have := Nat.two_pow_add_eq_or_of_lt (i := 63) (b := m) (by omega) 1
    simpa using this.symm
  rw [e] at h
  have e2 : ((9223372036854775808 + m : Nat) : Int) = 9223372036854775808 + (m : Int) := by omega
  rw [e2] at h
  exact h

theorem fl_eq {a b : Nat} (h : a = b) : Ending.returned (.float .f64 a) = .returned (.float .f64 b) := by rw [h]

end Go.Proofs.Ytidblaepklgkcaa
