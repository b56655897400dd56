/- What the small functions answer, by the bits of their arguments: magnitude, sign, rank, order, and the number of a rank. -/
import Derived.Test.YtidblaepklgkcaaRows
import Derived.Test.YtidblaepklgkcaaRealFadeMath
import Derived.WalkKit
import Derived.WalkSpells
import Derived.WalkLawsBesides
import Derived.Laws.BitsAllLaws
import Derived.Laws.Externs
namespace Go.Proofs.Ytidblaepklgkcaa
open Go.RowKit

theorem bits_run (b : Nat) (w : World) : (callFunc 62 #[.float .f64 b]).run Try.prog w = .ok (.value (.int .u64 b)) w := by
  rw [run_callFunc_extern (e := Extern.MathFloatBits.float64bits) Try.func62 (by kernel_rfl) (by kernel_rfl) (by kernel_rfl) (by kernel_rfl)]
  rfl

theorem from_run (n : Int) (w : World) : (callFunc 61 #[.int .u64 n]).run Try.prog w = .ok (.value (.float .f64 n.toNat)) w := by
  rw [run_callFunc_extern (e := Extern.MathFloatBits.float64frombits) Try.func61 (by kernel_rfl) (by kernel_rfl) (by kernel_rfl) (by kernel_rfl)]
  rfl

theorem andNot_sign (b : Nat) (hb : b < 18446744073709551616) : bits .andNot .u64 (b : Int) 9223372036854775808 = (mg b : Int) := by
  have h := u64_andNot_nat b 9223372036854775808 hb (by omega)
  have e : b &&& (18446744073709551615 - 9223372036854775808) = mg b := by
    have := Nat.and_two_pow_sub_one_eq_mod b 63
    unfold mg
    simpa using this
  rw [e] at h
  exact h

theorem and_sign (b : Nat) (hb : b < 18446744073709551616) : bits .and .u64 (b : Int) 9223372036854775808 = (sg b : Int) := by
  have h := u64_and_nat b 9223372036854775808 hb (by omega)
  have e : b &&& 9223372036854775808 = sg b := by
    have hk : (9223372036854775808 : Nat) = 2 ^ 63 := by decide
    apply Nat.eq_of_testBit_eq
    intro i
    rw [Nat.testBit_and]
    by_cases hi : i = 63
    · subst hi
      unfold sg ng
      by_cases hs : 9223372036854775808 ≤ b
      · have ht : b.testBit 63 = true := by rw [Nat.testBit_eq_decide_div_mod_eq]; simp; omega
        rw [if_pos (by simpa using hs), ht]; simp
      · have ht : b.testBit 63 = false := by rw [Nat.testBit_eq_decide_div_mod_eq]; simp; omega
        rw [if_neg (by simpa using hs), ht]; simp
    · have h0 : Nat.testBit 9223372036854775808 i = false := by rw [hk]; exact Nat.testBit_two_pow_of_ne (fun h => hi h.symm)
      rw [h0]
      unfold sg
      cases ng b
      · simp
      · simp [h0]
  rw [e] at h
  exact h

theorem magnitude_any (b : Nat) (w : World) (hb : b < 18446744073709551616) :
    Calls Try.prog 63 #[.float .f64 b] w fun e w' => e = .returned (.int .u64 (mg b : Int)) ∧ w' = w := by
  have h1 := bits_run b
  have h2 := andNot_sign b hb
  go_enter Try.func63, Try.ntmps63
  go_wp2
  go_ret
  exact ⟨rfl, rfl⟩

theorem sign_any (b : Nat) (w : World) (hb : b < 18446744073709551616) :
    Calls Try.prog 65 #[.float .f64 b] w fun e w' => e = .returned (.int .u64 (sg b : Int)) ∧ w' = w := by
  have h1 := bits_run b
  have h2 := and_sign b hb
  go_enter Try.func65, Try.ntmps65
  go_wp2
  go_ret
  exact ⟨rfl, rfl⟩

theorem nn_int (b : Nat) : decide ((9218868437227405312 : Int) < (mg b : Int)) = nn b := by
  unfold nn; rw [decide_eq_decide]; omega

theorem isNone_any (b : Nat) (w : World) (hb : b < 18446744073709551616) :
    Calls Try.prog 64 #[.float .f64 b] w fun e w' => e = .returned (.bool (nn b)) ∧ w' = w := by
  go_enter Try.func64, Try.ntmps64
  go_wp2_with (go_at_call 63; refine (magnitude_any b _ hb).mono ?_; rintro e w' ⟨rfl, rfl⟩)
  go_ret
  exact ⟨by rw [nn_int]; rfl, rfl⟩

theorem rank_any (b : Nat) (w : World) (hb : b < 18446744073709551616) :
    Calls Try.prog 60 #[.float .f64 b] w fun e w' => e = .returned (.int .i64 (rk b)) ∧ w' = w := by
  have hm := mg_lt b
  have hm2 : (mg b : Int) < 9223372036854775808 := by omega
  by_cases hn : nn b = true
  · have hr : rk b = 9223372036854775807 := by unfold rk; rw [if_pos hn]
    rw [hr]
    go_enter Try.func60, Try.ntmps60
    go_wp2_with (first
      | (go_at_call 63; refine (magnitude_any b _ hb).mono ?_; rintro e w' ⟨rfl, rfl⟩)
      | (go_at_call 64; refine (isNone_any b _ hb).mono ?_; rintro e w' ⟨rfl, rfl⟩)
      | (go_at_call 65; refine (sign_any b _ hb).mono ?_; rintro e w' ⟨rfl, rfl⟩))
    go_ret
    exact ⟨rfl, rfl⟩
  · have hn : nn b = false := by simpa using hn
    by_cases hg : ng b = true
    · have hr : rk b = -(mg b : Int) - 1 := by unfold rk; rw [if_neg (by simp [hn]), if_pos hg]
      have hs : ((sg b : Int) != 0) = true := by unfold sg; rw [if_pos hg]; decide
      rw [hr]
      go_enter Try.func60, Try.ntmps60
      go_wp2_with (first
        | (go_at_call 63; refine (magnitude_any b _ hb).mono ?_; rintro e w' ⟨rfl, rfl⟩)
        | (go_at_call 64; refine (isNone_any b _ hb).mono ?_; rintro e w' ⟨rfl, rfl⟩)
        | (go_at_call 65; refine (sign_any b _ hb).mono ?_; rintro e w' ⟨rfl, rfl⟩))
      go_ret
      exact ⟨by go_num, rfl⟩
    · have hg : ng b = false := by simpa using hg
      have hr : rk b = (mg b : Int) := by unfold rk; rw [if_neg (by simp [hn]), if_neg (by simp [hg])]
      have hs : ((sg b : Int) != 0) = false := by unfold sg; rw [if_neg (by simp [hg])]; decide
      rw [hr]
      go_enter Try.func60, Try.ntmps60
      go_wp2_with (first
        | (go_at_call 63; refine (magnitude_any b _ hb).mono ?_; rintro e w' ⟨rfl, rfl⟩)
        | (go_at_call 64; refine (isNone_any b _ hb).mono ?_; rintro e w' ⟨rfl, rfl⟩)
        | (go_at_call 65; refine (sign_any b _ hb).mono ?_; rintro e w' ⟨rfl, rfl⟩))
      go_ret
      exact ⟨rfl, rfl⟩

end Go.Proofs.Ytidblaepklgkcaa
