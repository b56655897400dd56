/- The number of a rank: what real.Of and the document's Of answer, and how it goes with the rank. -/
import Derived.Test.YtlalfpghfpdobaaRealOrd
namespace Go.Proofs.Ytlalfpghfpdobaa
open Go.RowKit

/-- The bits of the number with that rank. -/
def ofr (n : Int) : Nat :=
  if 9218868437227405312 < n then 9221120237041090561 else if n < -9218868437227405313 then 18442240474082181120
  else if n < 0 then 9223372036854775808 + (-(n + 1)).toNat else n.toNat

theorem ofr_hi (n : Int) (h : 9218868437227405312 < n) : ofr n = 9221120237041090561 := by unfold ofr; rw [if_pos h]
theorem ofr_lo (n : Int) (h : n < -9218868437227405313) : ofr n = 18442240474082181120 := by unfold ofr; rw [if_neg (by omega), if_pos h]
theorem ofr_neg (n : Int) (h1 : -9218868437227405313 ≤ n) (h2 : n < 0) : ofr n = 9223372036854775808 + (-(n + 1)).toNat := by
  unfold ofr; rw [if_neg (by omega), if_neg (by omega), if_pos h2]
theorem ofr_pos (n : Int) (h1 : 0 ≤ n) (h2 : n ≤ 9218868437227405312) : ofr n = n.toNat := by
  unfold ofr; rw [if_neg (by omega), if_neg (by omega), if_neg (by omega)]

theorem ofr_lt (n : Int) : ofr n < 18446744073709551616 := by
  unfold ofr; split
  · omega
  · split
    · omega
    · split <;> omega

theorem rk_ofr (n : Int) (h1 : -9218868437227405313 ≤ n) (h2 : n ≤ 9218868437227405312) : rk (ofr n) = n := by
  by_cases h : n < 0
  · rw [ofr_neg n h1 h]
    unfold rk nn ng mg
    rw [if_neg (by simp; omega), if_pos (by simp)]
    omega
  · rw [ofr_pos n (by omega) h2]
    unfold rk nn ng mg
    rw [if_neg (by simp; omega), if_neg (by simp; omega)]
    omega

theorem ofr_rk (b : Nat) (hb : b < 18446744073709551616) (h : nn b = false) : ofr (rk b) = b := by
  rw [nn_false] at h
  have h0 := h
  unfold mg at h
  by_cases hg : 9223372036854775808 ≤ b
  · have e : rk b = -(mg b : Int) - 1 := by unfold rk nn ng; rw [if_neg (by simp; omega), if_pos (by simpa using hg)]
    rw [e, ofr_neg _ (by omega) (by omega)]
    unfold mg; omega
  · have e : rk b = (mg b : Int) := by unfold rk nn ng; rw [if_neg (by simp; omega), if_neg (by simpa using hg)]
    rw [e, ofr_pos _ (by omega) (by omega)]
    unfold mg; omega

theorem nan_any (w : World) : Calls Try.prog 26 #[] w fun e w' => e = .returned (.float .f64 9221120237041090561) ∧ w' = w := by
  have h := from_run
  go_enter Try.func26, Try.ntmps26
  go_wp2
  go_ret
  exact ⟨rfl, rfl⟩

theorem infm_any (w : World) : Calls Try.prog 27 #[.int .i64 (-1)] w fun e w' => e = .returned (.float .f64 18442240474082181120) ∧ w' = w := by
  have h := from_run
  go_enter Try.func27, Try.ntmps27
  go_wp2
  go_ret
  exact ⟨rfl, rfl⟩

theorem or_sign (n : Int) (h1 : 0 ≤ n) (h2 : n < 9223372036854775808) : bits .or .u64 9223372036854775808 n = 9223372036854775808 + n := by
  obtain ⟨m, rfl⟩ := Int.eq_ofNat_of_zero_le h1
  have h := u64_or_nat 9223372036854775808 m (by omega) (by omega)
  have e : 9223372036854775808 ||| m = 9223372036854775808 + m := by
    have := Nat.two_pow_add_eq_or_of_lt (i := 63) (b := m) (by omega) 1
    simpa using this.symm
  rw [e] at h
  have e2 : ((9223372036854775808 + m : Nat) : Int) = 9223372036854775808 + (m : Int) := by omega
  rw [e2] at h
  exact h

theorem fl_eq {a b : Nat} (h : a = b) : Ending.returned (.float .f64 a) = .returned (.float .f64 b) := by rw [h]

theorem of_any (n : Int) (w : World) (h1 : -9223372036854775808 ≤ n) (h2 : n ≤ 9223372036854775807) :
    Calls Try.prog 12 #[.int .i64 n] w fun e w' => e = .returned (.float .f64 (ofr n)) ∧ w' = w := by
  have hf := from_run
  by_cases c1 : 9218868437227405312 < n
  · rw [ofr_hi n c1]
    go_enter Try.func12, Try.ntmps12
    go_wp2_with (go_at_call 26; refine (nan_any _).mono ?_; rintro e w' ⟨rfl, rfl⟩)
    go_ret
    exact ⟨rfl, rfl⟩
  · by_cases c2 : n < -9218868437227405313
    · rw [ofr_lo n c2]
      go_enter Try.func12, Try.ntmps12
      go_wp2_with (go_at_call 27; refine (infm_any _).mono ?_; rintro e w' ⟨rfl, rfl⟩)
      go_ret
      exact ⟨rfl, rfl⟩
    · by_cases c3 : n < 0
      · have ho := or_sign (-(n + 1)) (by omega) (by omega)
        have e := ofr_neg n (by omega) c3
        have H : Hid (ofr n = (9223372036854775808 + -(n + 1)).toNat) := by
          have : ofr n = (9223372036854775808 + -(n + 1)).toNat := by rw [e]; omega
          exact this
        clear e
        go_enter Try.func12, Try.ntmps12
        go_wp2
        go_ret
        exact ⟨fl_eq H.out.symm, rfl⟩
      · have H : Hid (ofr n = n.toNat) := ofr_pos n (by omega) (by omega)
        go_enter Try.func12, Try.ntmps12
        go_wp2
        go_ret
        exact ⟨fl_eq H.out.symm, rfl⟩

theorem refOf_any (n : Int) (w : World) (h1 : -9223372036854775808 ≤ n) (h2 : n ≤ 9223372036854775807) :
    Calls Try.prog 13 #[.int .i64 n] w fun e w' => e = .returned (.float .f64 (ofr n)) ∧ w' = w := by
  have hf := from_run
  by_cases c1 : 9218868437227405312 < n
  · rw [ofr_hi n c1]
    go_enter Try.func13, Try.ntmps13
    go_wp2_with (go_at_call 26; refine (nan_any _).mono ?_; rintro e w' ⟨rfl, rfl⟩)
    go_ret
    exact ⟨rfl, rfl⟩
  · by_cases c2 : n < -9218868437227405313
    · rw [ofr_lo n c2]
      go_enter Try.func13, Try.ntmps13
      go_wp2_with (go_at_call 27; refine (infm_any _).mono ?_; rintro e w' ⟨rfl, rfl⟩)
      go_ret
      exact ⟨rfl, rfl⟩
    · by_cases c3 : n < 0
      · have ho := or_sign (-(n + 1)) (by omega) (by omega)
        have e := ofr_neg n (by omega) c3
        have H : Hid (ofr n = (9223372036854775808 + -(n + 1)).toNat) := by
          have : ofr n = (9223372036854775808 + -(n + 1)).toNat := by rw [e]; omega
          exact this
        clear e
        go_enter Try.func13, Try.ntmps13
        go_wp2
        go_ret
        exact ⟨fl_eq H.out.symm, rfl⟩
      · have H : Hid (ofr n = n.toNat) := ofr_pos n (by omega) (by omega)
        go_enter Try.func13, Try.ntmps13
        go_wp2
        go_ret
        exact ⟨fl_eq H.out.symm, rfl⟩

end Go.Proofs.Ytlalfpghfpdobaa
