/- What the functions of order answer: they are told by the ranks of their arguments. -/
import Derived.Test.YtidblaepklgkcaaRealLeaf
namespace Go.Proofs.Ytidblaepklgkcaa
open Go.RowKit

theorem wf64 {b : Nat} (h : (Lit.float .f64 b).wf = true) : b < 18446744073709551616 := by simpa [Lit.wf] using h
theorem wfi64 {n : Int} (h : (Lit.int .i64 n).wf = true) : -9223372036854775808 ≤ n ∧ n ≤ 9223372036854775807 := by
  have e1 : IntKind.i64.min = -9223372036854775808 := by decide
  have e2 : IntKind.i64.max = 9223372036854775807 := by decide
  simpa [Lit.wf, e1, e2] using h

theorem and_low (b : Nat) (hb : b < 18446744073709551616) : bits .and .u64 (b : Int) 9223372036854775807 = (mg b : Int) := by
  have h := u64_and_nat b 9223372036854775807 hb (by omega)
  have e : b &&& 9223372036854775807 = mg b := by
    have := Nat.and_two_pow_sub_one_eq_mod b 63
    unfold mg
    simpa using this
  rw [e] at h
  exact h

theorem ne_self (b : Nat) (hb : b < 18446744073709551616) : (FloatKind.f64.format.order b b != some Ordering.eq) = nn b := by
  have h := ord_eq b b hb hb
  show (!(Ieee.double.order b b == some Ordering.eq)) = nn b
  rw [h]; cases nn b <;> simp

theorem shr63 (b : Nat) (hb : b < 18446744073709551616) (t : TypeId) (k : IntKind) : binOp .shr t (.int .u64 (b : Int)) (.int k 63) = pure (.int .u64 (if ng b then 1 else 0)) := by
  have h : ((b : Int) / 9223372036854775808) = if ng b then 1 else 0 := by
    unfold ng
    by_cases hs : 9223372036854775808 ≤ b
    · rw [if_pos (by simpa using hs)]; omega
    · rw [if_neg (by simpa using hs)]; omega
  rw [binOp_shr, shift_shr .u64 k (b : Int) 63 (by decide) (by decide)]
  rw [← h]; rfl

/-- Is a ahead of b? -/
def ls (a b : Nat) : Bool := decide (rk a < rk b)
/-- Are a and b one? -/
def sa (a b : Nat) : Bool := rk a == rk b

theorem signbit_any (b : Nat) (w : World) (hb : b < 18446744073709551616) :
    Calls Try.prog 59 #[.float .f64 b] w fun e w' => e = .returned (.bool (ng b)) ∧ w' = w := by
  have h1 := bits_run b
  have h3 : decide (wrap64 (b : Int) < 0) = ng b := by unfold ng wrap64; rw [decide_eq_decide]; omega
  go_enter Try.func59, Try.ntmps59
  go_wp2
  go_ret
  exact ⟨rfl, rfl⟩

theorem rk_less (a b : Nat) (na : nn a = false) (nb : nn b = false) : (rk a < rk b) ↔ (sm a < sm b ∨ sm a = 0 ∧ sm b = 0 ∧ ng a = true ∧ ng b = false) := by
  unfold rk sm
  rw [na, nb]
  cases ng a <;> cases ng b <;> simp <;> omega

theorem sm_zero : sm 0 = 0 := rfl
theorem nn_zero : nn 0 = false := rfl

theorem rk_le (a : Nat) : rk a ≤ 9223372036854775807 := by
  have := mg_lt a
  unfold rk; split
  · omega
  · split <;> omega
theorem rk_lt (a : Nat) (h : nn a = false) : rk a ≤ 9218868437227405312 := by
  rw [nn_false] at h
  unfold rk nn; rw [if_neg (by simp; omega)]; split <;> omega
theorem rk_nan (a : Nat) (h : nn a = true) : rk a = 9223372036854775807 := by unfold rk; rw [if_pos h]

theorem refLess_any (a b : Nat) (w : World) (ha : a < 18446744073709551616) (hb : b < 18446744073709551616) :
    Calls Try.prog 54 #[.float .f64 a, .float .f64 b] w fun e w' => e = .returned (.bool (ls a b)) ∧ w' = w := by
  have ka := ne_self a ha
  have kb := ne_self b hb
  cases na : nn a
  · cases nb : nn b
    · have z1 : (FloatKind.f64.format.order a 0 == some Ordering.eq) = decide (sm a = 0) := by
        have := ord_eq a 0 ha (by omega); rw [na, nn_zero, sm_zero] at this; show (Ieee.double.order a 0 == some Ordering.eq) = _; simpa using this
      have z2 : (FloatKind.f64.format.order b 0 == some Ordering.eq) = decide (sm b = 0) := by
        have := ord_eq b 0 hb (by omega); rw [nb, nn_zero, sm_zero] at this; show (Ieee.double.order b 0 == some Ordering.eq) = _; simpa using this
      have z3 : (FloatKind.f64.format.order a b == some Ordering.lt) = decide (sm a < sm b) := by
        have := ord_lt a b ha hb; rw [na, nb] at this; show (Ieee.double.order a b == some Ordering.lt) = _; simpa using this
      have hr := rk_less a b na nb
      rw [na] at ka
      rw [nb] at kb
      by_cases ca : sm a = 0
      · have da : decide (sm a = 0) = true := by simpa using ca
        rw [da] at z1
        by_cases cb : sm b = 0
        · have db : decide (sm b = 0) = true := by simpa using cb
          rw [db] at z2
          have hl : ls a b = (ng a && !ng b) := by unfold ls; rw [Bool.eq_iff_iff, decide_eq_true_eq, hr, ca, cb]; cases ng a <;> cases ng b <;> simp
          rw [hl]
          clear hr da db
          cases ga : ng a
          · go_enter Try.func54, Try.ntmps54
            go_wp2_with (go_at_call 59; refine (signbit_any _ _ (by assumption)).mono ?_; rintro e w' ⟨rfl, rfl⟩)
            go_ret
            exact ⟨rfl, rfl⟩
          · go_enter Try.func54, Try.ntmps54
            go_wp2_with (go_at_call 59; refine (signbit_any _ _ (by assumption)).mono ?_; rintro e w' ⟨rfl, rfl⟩)
            go_ret
            exact ⟨rfl, rfl⟩
        · have db : decide (sm b = 0) = false := by simpa using cb
          rw [db] at z2
          have hl : ls a b = decide (sm a < sm b) := by unfold ls; rw [decide_eq_decide, hr]; omega
          rw [hl]
          clear hr da db ca cb
          go_enter Try.func54, Try.ntmps54
          go_wp2
          go_ret
          exact ⟨rfl, rfl⟩
      · have da : decide (sm a = 0) = false := by simpa using ca
        rw [da] at z1
        have hl : ls a b = decide (sm a < sm b) := by unfold ls; rw [decide_eq_decide, hr]; omega
        rw [hl]
        clear hr da ca
        go_enter Try.func54, Try.ntmps54
        go_wp2
        go_ret
        exact ⟨rfl, rfl⟩
    · have hl : ls a b = true := by have := rk_lt a na; have := rk_nan b nb; unfold ls; simp; omega
      rw [hl]
      rw [na] at ka
      rw [nb] at kb
      go_enter Try.func54, Try.ntmps54
      go_wp2
      go_ret
      exact ⟨rfl, rfl⟩
  · have hl : ls a b = false := by have := rk_nan a na; have := rk_le b; unfold ls; simp; omega
    rw [hl]
    rw [na] at ka
    go_enter Try.func54, Try.ntmps54
    go_wp2
    go_ret
    exact ⟨rfl, rfl⟩

theorem ls_irrefl (a : Nat) : ls a a = false := by unfold ls; simp
theorem sa_refl (a : Nat) : sa a a = true := by unfold sa; simp

theorem less_any (a b : Nat) (w : World) (ha : a < 18446744073709551616) (hb : b < 18446744073709551616) :
    Calls Try.prog 55 #[.float .f64 a, .float .f64 b] w fun e w' => e = .returned (.bool (ls a b)) ∧ w' = w := by
  go_enter Try.func55, Try.ntmps55
  go_wp2_with fail
  refine (rank_any a _ ha).mono ?_
  rintro e w' ⟨rfl, rfl⟩
  go_wp2_with fail
  refine (rank_any b _ hb).mono ?_
  rintro e w' ⟨rfl, rfl⟩
  go_wp2
  go_ret
  exact ⟨rfl, rfl⟩

end Go.Proofs.Ytidblaepklgkcaa
