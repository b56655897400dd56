/- What the halving functions answer, by the bits of their arguments. -/
import Derived.Test.YtmlklmhochihbaaRealOrd
namespace Go.Proofs.Ytmlklmhochihbaa
open Go.RowKit

theorem or_sg (b t : Nat) (h : t < 9223372036854775808) : bits .or .u64 (sg b : Int) (t : Int) = ((sg b + t : Nat) : Int) := by
  have h1 := u64_or_nat (sg b) t (by unfold sg; split <;> omega) (by omega)
  have e : sg b ||| t = sg b + t := by
    unfold sg; split
    · have := Nat.two_pow_add_eq_or_of_lt (i := 63) (b := t) (by omega) 1
      simpa using this.symm
    · simp
  rw [e] at h1
  exact h1

theorem half_any (m : Nat) (w : World) (h : m < 9223372036854775808) :
    Calls Try.prog 89 #[.int .u64 (m : Int)] w fun e w' => e = .returned (.int .u64 (hf m : Int)) ∧ w' = w := by
  obtain ⟨M, hM⟩ : ∃ M : Int, (m : Int) = M := ⟨_, rfl⟩
  have b0 : 0 ≤ M := by omega
  have b1 : M < 9223372036854775808 := by omega
  rw [hM]
  by_cases c1 : 9007199254740992 ≤ m
  · have e : (hf m : Int) = M - 4503599627370496 := by unfold hf; rw [if_pos c1]; omega
    rw [e]
    have c2 : 9007199254740992 ≤ M := by omega
    clear e c1 hM h
    go_enter Try.func89, Try.ntmps89
    go_wp2
    go_ret
    exact ⟨rfl, rfl⟩
  · have c2 : M < 9007199254740992 := by omega
    by_cases c3 : m % 2 = 1
    · have e : (hf m : Int) = M / 2 + M / 2 % 2 := by unfold hf; rw [if_neg c1, if_pos c3]; omega
      rw [e]
      have c4 : (M % 2 == 1) = true := by simp; omega
      clear e c1 hM h c3
      go_enter Try.func89, Try.ntmps89
      go_wp2
      go_ret
      exact ⟨rfl, rfl⟩
    · have e : (hf m : Int) = M / 2 := by unfold hf; rw [if_neg c1, if_neg c3]; omega
      rw [e]
      have c4 : (M % 2 == 1) = false := by simp; omega
      clear e c1 hM h c3
      go_enter Try.func89, Try.ntmps89
      go_wp2
      go_ret
      exact ⟨rfl, rfl⟩

theorem refhalf_any (m : Nat) (w : World) (h : m < 9007199254740992) :
    Calls Try.prog 95 #[.int .u64 (m : Int)] w fun e w' => e = .returned (.int .u64 (hf m : Int)) ∧ w' = w := by
  obtain ⟨M, hM⟩ : ∃ M : Int, (m : Int) = M := ⟨_, rfl⟩
  have b0 : 0 ≤ M := by omega
  have b1 : M < 9007199254740992 := by omega
  rw [hM]
  by_cases c3 : m % 2 = 1
  · have c4 : (M % 2 == 1) = true := by simp; omega
    by_cases c5 : m / 2 % 2 = 1
    · have e : (hf m : Int) = M / 2 + 1 := by unfold hf; rw [if_neg (by omega), if_pos c3]; omega
      rw [e]
      have c6 : (M / 2 % 2 == 1) = true := by simp; omega
      clear e hM h c3 c5
      go_enter Try.func95, Try.ntmps95
      go_wp2
      go_ret
      exact ⟨rfl, rfl⟩
    · have e : (hf m : Int) = M / 2 := by unfold hf; rw [if_neg (by omega), if_pos c3]; omega
      rw [e]
      have c6 : (M / 2 % 2 == 1) = false := by simp; omega
      clear e hM h c3 c5
      go_enter Try.func95, Try.ntmps95
      go_wp2
      go_ret
      exact ⟨rfl, rfl⟩
  · have e : (hf m : Int) = M / 2 := by unfold hf; rw [if_neg (by omega), if_neg c3]; omega
    rw [e]
    have c4 : (M % 2 == 1) = false := by simp; omega
    clear e hM h c3
    go_enter Try.func95, Try.ntmps95
    go_wp2
    go_ret
    exact ⟨rfl, rfl⟩

theorem abs_any (b : Nat) (w : World) (hb : b < 18446744073709551616) :
    Calls Try.prog 102 #[.float .f64 b] w fun e w' => e = .returned (.float .f64 (mg b)) ∧ w' = w := by
  have h1 := bits_run b
  have h2 := andNot_sign b hb
  have h3 := from_run
  go_enter Try.func102, Try.ntmps102
  go_wp2
  go_ret
  exact ⟨rfl, rfl⟩

/-- Is the magnitude that of the infinities, or more? -/
def bg (b : Nat) : Bool := decide (9218868437227405312 ≤ mg b)

theorem isInf0_any (b : Nat) (w : World) (hb : b < 18446744073709551616) (hn : nn b = false) :
    Calls Try.prog 93 #[.float .f64 b, .int .i64 0] w fun e w' => e = .returned (.bool (bg b)) ∧ w' = w := by
  have h : (FloatKind.f64.format.order (mg b) 9218868437227405311 == some Ordering.gt) = bg b := by
    have hm := mg_lt b
    have e0 : mg (mg b) = mg b := by unfold mg; omega
    have e1 : nn (mg b) = false := by rw [nn_false] at hn ⊢; rw [e0]; exact hn
    have e2 : ng (mg b) = false := by unfold ng; simp; omega
    have e3 : sm (mg b) = (mg b : Int) := by unfold sm; rw [e2, e0]; simp
    have e4 : sm 9218868437227405311 = 9218868437227405311 := by decide
    have e5 : nn 9218868437227405311 = false := by decide
    show (Ieee.double.order (mg b) 9218868437227405311 == some Ordering.gt) = bg b
    rw [ord_gt _ _ (by omega) (by decide), e1, e3, e4, e5]
    unfold bg
    rw [Bool.eq_iff_iff]; simp; omega
  go_enter Try.func93, Try.ntmps93
  go_wp2_with (go_at_call 102; refine (abs_any _ _ (by assumption)).mono ?_; rintro e w' ⟨rfl, rfl⟩)
  go_ret
  exact ⟨rfl, rfl⟩

/-- A magnitude without its fraction. -/
def qm (b : Nat) : Int := ((mg b / 4503599627370496 : Nat) : Int)
theorem shrm52 (b : Nat) (t : TypeId) (k : IntKind) : binOp .shr t (.int .u64 (mg b : Int)) (.int k 52) = pure (.int .u64 (qm b)) := by
  rw [binOp_shr, shift_shr .u64 k (mg b : Int) 52 (by decide) (by decide)]
  unfold qm; rfl
theorem shl63_1 (t : TypeId) (k : IntKind) : binOp .shl t (.int .u64 1) (.int k 63) = pure (.int .u64 9223372036854775808) := by
  rw [binOp_shl, shift_shl .u64 k 1 63 (by decide) (by decide)]; rfl
theorem shl63_0 (t : TypeId) (k : IntKind) : binOp .shl t (.int .u64 0) (.int k 63) = pure (.int .u64 0) := by
  rw [binOp_shl, shift_shl .u64 k 0 63 (by decide) (by decide)]; rfl

theorem fl_num {a b : Nat} (h : a = b) : Ending.returned (.float .f64 a) = .returned (.float .f64 b) := by rw [h]

theorem Half_any (b : Nat) (w : World) (hb : b < 18446744073709551616) :
    Calls Try.prog 74 #[.float .f64 b] w fun e w' => e = .returned (.float .f64 (fd b 1)) ∧ w' = w := by
  have n1 := ne_self b hb
  have m1 := mg_lt b
  cases hn : nn b
  · rw [hn] at n1
    cases hg : bg b
    · have hl : mg b < 9218868437227405312 := by unfold bg at hg; simpa using hg
      have h1 := bits_run b
      have h2 := shr63 b hb
      have h3 := andNot_sign b hb
      have h4 := shrm52 b
      have h5 := from_run
      have e : fd b 1 = sg b + hf (mg b) := fd_num b 1 hl
      have hfl := hf_le (mg b)
      have ho := or_sg b (hf (mg b)) (by omega)
      have s1 := shl63_1
      have s0 := shl63_0
      have hsg : ∃ S : Int, (if ng b then (1 : Int) else 0) = S ∧ (∀ (t : TypeId) (k : IntKind), binOp .shl t (.int .u64 S) (.int k 63) = pure (.int .u64 (sg b : Int))) := by
        refine ⟨_, rfl, ?_⟩
        unfold sg; cases ng b
        · exact fun t k => s0 t k
        · exact fun t k => s1 t k
      obtain ⟨S, hS, h6⟩ := hsg
      rw [hS] at h2
      clear s1 s0 hS
      rw [e]
      by_cases c : 9007199254740992 ≤ mg b
      · have hf1 : hf (mg b) = mg b - 4503599627370496 := by unfold hf; rw [if_pos c]
        have q1 : 2 ≤ qm b := by unfold qm; omega
        have g1 : 4503599627370496 ≤ (mg b : Int) := by omega
        have g2 : (mg b : Int) - 4503599627370496 = ((hf (mg b) : Nat) : Int) := by rw [hf1]; omega
        clear e hf1
        go_enter Try.func74, Try.ntmps74
        go_wp2_with (go_at_call 93; refine (isInf0_any _ _ (by assumption) (by assumption)).mono ?_; rintro e w' ⟨rfl, rfl⟩)
        go_ret
        exact ⟨rfl, rfl⟩
      · have q1 : qm b < 2 := by unfold qm; omega
        have c1 : mg b < 9007199254740992 := by omega
        clear e c
        go_enter Try.func74, Try.ntmps74
        go_wp2_with (first
          | (go_at_call 93; refine (isInf0_any _ _ (by assumption) (by assumption)).mono ?_; rintro e w' ⟨rfl, rfl⟩)
          | (go_at_call 95; refine (refhalf_any _ _ (by assumption)).mono ?_; rintro e w' ⟨rfl, rfl⟩))
        go_ret
        exact ⟨rfl, rfl⟩
    · have e : fd b 1 = b := fd_big b 1 (by unfold bg at hg; simpa using hg)
      rw [e]
      clear e
      go_enter Try.func74, Try.ntmps74
      go_wp2_with (go_at_call 93; refine (isInf0_any _ _ (by assumption) (by assumption)).mono ?_; rintro e w' ⟨rfl, rfl⟩)
      go_ret
      exact ⟨rfl, rfl⟩
  · rw [hn] at n1
    have e : fd b 1 = b := fd_big b 1 (by rw [nn_true] at hn; omega)
    rw [e]
    clear e
    go_enter Try.func74, Try.ntmps74
    go_wp2
    go_ret
    exact ⟨rfl, rfl⟩

end Go.Proofs.Ytmlklmhochihbaa
