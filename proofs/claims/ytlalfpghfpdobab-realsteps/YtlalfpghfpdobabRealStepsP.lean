/- For all three numbers: from one to the other are as many steps as their ranks are apart, from -0 to +0 is one, and two parts make the whole. No condition. -/
import Derived.Test.YtlalfpghfpdobabRealOrd
import Derived.ProofKit
import Derived.OpenShut
import Derived.ChangeOld
import Derived.Below
namespace Go.Proofs.Ytlalfpghfpdobab
open Go.ChangeShapes Go.WideShapes Go.ChangeAt Go.RowKit

theorem rk_ge (a : Nat) : -9223372036854775808 ≤ rk a := by
  have := mg_lt a; unfold rk; split
  · omega
  · split <;> omega

theorem wrap_sub (x y : Int) (h1 : 0 ≤ x - y) (h2 : x - y < 18446744073709551616) : IntKind.u64.wrap (IntKind.u64.wrap x - IntKind.u64.wrap y) = x - y := by
  have e : ∀ n, IntKind.u64.wrap n = n % 18446744073709551616 := fun n => rfl
  rw [e, e, e]; omega

/-- By how much two ranks differ. -/
def st (a b : Nat) : Int := if rk b < rk a then rk a - rk b else rk b - rk a

theorem steps_any (a b : Nat) (w : World) (ha : a < 18446744073709551616) (hb : b < 18446744073709551616) :
    Calls Try.prog 10 #[.float .f64 a, .float .f64 b] w fun e w' => e = .returned (.int .u64 (st a b)) ∧ w' = w := by
  have h1 := rk_ge a
  have h2 := rk_ge b
  have h3 := rk_le a
  have h4 := rk_le b
  by_cases c : rk b < rk a
  · have e : st a b = rk a - rk b := by unfold st; rw [if_pos c]
    rw [e]
    have hw := wrap_sub (rk a) (rk b) (by omega) (by omega)
    clear e
    go_enter Try.func10, Try.ntmps10
    go_wp2_with fail
    refine (rank_any a _ ha).mono ?_
    rintro e w' ⟨rfl, rfl⟩
    go_wp2_with fail
    refine (rank_any b _ hb).mono ?_
    rintro e w' ⟨rfl, rfl⟩
    go_wp2
    go_ret
    exact ⟨rfl, rfl⟩
  · have e : st a b = rk b - rk a := by unfold st; rw [if_neg c]
    rw [e]
    have hw := wrap_sub (rk b) (rk a) (by omega) (by omega)
    clear e
    go_enter Try.func10, Try.ntmps10
    go_wp2_with fail
    refine (rank_any a _ ha).mono ?_
    rintro e w' ⟨rfl, rfl⟩
    go_wp2_with fail
    refine (rank_any b _ hb).mono ?_
    rintro e w' ⟨rfl, rfl⟩
    go_wp2
    go_ret
    exact ⟨rfl, rfl⟩
theorem st_up (a b : Nat) (h : rk a ≤ rk b) : st a b = rk b - rk a := by unfold st; rw [if_neg (by omega)]
theorem st_down (a b : Nat) (h : rk b ≤ rk a) : st a b = rk a - rk b := by unfold st; split <;> omega
theorem st_zeros : st 9223372036854775808 0 = 1 := by decide

theorem realSteps_walk (a b c : Nat) (w : World) (wa : (Lit.float .f64 a).wf = true) (wb : (Lit.float .f64 b).wf = true) (wc : (Lit.float .f64 c).wf = true) :
    Calls Try.prog 4 #[.float .f64 a, .float .f64 b, .float .f64 c] w fun e w' => e = .returned (.bool true) ∧ Below w.heap.size w w' := by
  have ha := wf64 wa
  have hb := wf64 wb
  have hc := wf64 wc
  clear wa wb wc
  have a1 := rk_ge a
  have a2 := rk_le a
  have b1 := rk_ge b
  have b2 := rk_le b
  have c1 := rk_ge c
  have c2 := rk_le c
  have z := st_zeros
  by_cases x : rk a < rk b
  · have l1 : ls a b = true := by unfold ls; simpa using x
    have s1 := st_up a b (by omega)
    have s2 := st_down b a (by omega)
    have w1 := wrap_sub (rk b) (rk a) (by omega) (by omega)
    by_cases y : rk b < rk c
    · have l2 : ls b c = true := by unfold ls; simpa using y
      have s3 := st_up b c (by omega)
      have s4 := st_up a c (by omega)
      have q : (rk b - rk a + (rk c - rk b) == rk c - rk a) = true := by simp; omega
      go_enter Try.func4, Try.ntmps4
      go_wp2_with (first
        | (go_at_call 9; refine (refRank_any _ _ (by assumption)).mono ?_; rintro e w' ⟨rfl, rfl⟩)
        | (go_at_call 10; refine (steps_any _ _ _ (by first | assumption | decide) (by first | assumption | decide)).mono ?_; rintro e w' ⟨rfl, rfl⟩)
        | (go_at_call 11; refine (copysign_zero _).mono ?_; rintro e w' ⟨rfl, rfl⟩)
        | (go_at_call 12; refine (refLess_any _ _ _ (by assumption) (by assumption)).mono ?_; rintro e w' ⟨rfl, rfl⟩))
      go_ret
      exact ⟨rfl, Below.refl _ _⟩
    · have l2 : ls b c = false := by unfold ls; simpa using y
      go_enter Try.func4, Try.ntmps4
      go_wp2_with (first
        | (go_at_call 9; refine (refRank_any _ _ (by assumption)).mono ?_; rintro e w' ⟨rfl, rfl⟩)
        | (go_at_call 10; refine (steps_any _ _ _ (by first | assumption | decide) (by first | assumption | decide)).mono ?_; rintro e w' ⟨rfl, rfl⟩)
        | (go_at_call 11; refine (copysign_zero _).mono ?_; rintro e w' ⟨rfl, rfl⟩)
        | (go_at_call 12; refine (refLess_any _ _ _ (by assumption) (by assumption)).mono ?_; rintro e w' ⟨rfl, rfl⟩))
      go_ret
      exact ⟨rfl, Below.refl _ _⟩
  · have l1 : ls a b = false := by unfold ls; simpa using x
    have s1 := st_down a b (by omega)
    have s2 := st_up b a (by omega)
    have w1 := wrap_sub (rk a) (rk b) (by omega) (by omega)
    go_enter Try.func4, Try.ntmps4
    go_wp2_with (first
      | (go_at_call 9; refine (refRank_any _ _ (by assumption)).mono ?_; rintro e w' ⟨rfl, rfl⟩)
      | (go_at_call 10; refine (steps_any _ _ _ (by first | assumption | decide) (by first | assumption | decide)).mono ?_; rintro e w' ⟨rfl, rfl⟩)
      | (go_at_call 11; refine (copysign_zero _).mono ?_; rintro e w' ⟨rfl, rfl⟩)
      | (go_at_call 12; refine (refLess_any _ _ _ (by assumption) (by assumption)).mono ?_; rintro e w' ⟨rfl, rfl⟩))
    go_ret
    exact ⟨rfl, Below.refl _ _⟩

set_option maxRecDepth 100000 in
theorem realSteps_lifted (os : Os) (started : os.Started) (H : Type) (enc : TypeId × Value → H) :
    ReturnsInHanded {} Try.checked os 4 .any (Rows.realStepsSpec.pre6 enc Try.prog Try.f4 Rows.realStepsRow.domain false) (Rows.realStepsSpec.post enc Try.prog Try.f4 false true false false) := by
  refine returnsInHanded_of_change (C := Try.checked) (by kernel_rfl) started (by kernel_rfl) Try.func4
    (ChangeSpec.witness6 (enc := enc) (C := Try.checked) false ⟨#[], #[.float .f64 0, .float .f64 0, .float .f64 0], []⟩ 8 (by kernel_rfl) (by kernel_rfl) (by kernel_rfl) (by kernel_rfl)) ?_
  intro W base args ds gs before hval0 hW hcnd _
  have hval : ∀ (j : Nat) t v, Try.f4.params[j]? = some t → args[j]? = some v → Value.okWide Try.prog W .any base t v := hval0
  have hW' := hW
  obtain ⟨p, q, hA0, hV, rfl, hfz, hnd⟩ := hW
  have hA : DataW.TrodAll enc Try.prog W 0 (fun _ => true) true Try.f4.params.toList args.toList ds p := hA0
  rw [Try.params4] at hA hval
  obtain ⟨v0, vs0, d0, ds0, p0, q0, hargs, rfl, rfl, h0, r0⟩ := trodAll_cons hA
  obtain ⟨v1, vs1, d1, ds1, p1, q1, rfl, rfl, rfl, h1, r1⟩ := trodAll_cons r0
  obtain ⟨v2, vs2, d2, ds2, p2, q2, rfl, rfl, rfl, h2, r2⟩ := trodAll_cons r1
  obtain ⟨rfl, rfl, rfl⟩ := trodAll_nil r2
  obtain rfl : args = #[v0, v1, v2] := by cases args; simp_all
  obtain ⟨rfl, rfl⟩ := trodVars_none hV
  obtain ⟨a0, rfl, rfl, rfl, w0⟩ := open_float Try.underlying22 (hval 0 22 v0 rfl rfl) h0
  obtain ⟨a1, rfl, rfl, rfl, w1⟩ := open_float Try.underlying22 (hval 1 22 v1 rfl rfl) h1
  obtain ⟨a2, rfl, rfl, rfl, w2⟩ := open_float Try.underlying22 (hval 2 22 v2 rfl rfl) h2
  clear hA0 hval0
  refine (realSteps_walk a0 a1 a2 W w0 w1 w2).mono fun e W' ⟨he, bel⟩ => ?_
  subst he
  exact ⟨_, rfl, _, _, _, [], _, [], hW', trodAll_mk1 (shut_bool Try.underlying4 _), (trodAll_cons_mk (shut_float Try.underlying22 w0) (trodAll_cons_mk (shut_float Try.underlying22 w1) (trodAll_cons_mk (shut_float Try.underlying22 w2) trodAll_mk0))), rfl, bel.frame _, fun h => by cases h⟩

theorem realSteps_holds : Rows.RealStepsSaid :=
  OpenClaim.holds_of_wide 4 Try.f4 rfl rfl rfl rfl rfl rfl rfl ⟨rfl, rfl, rfl, rfl, rfl⟩ rfl rfl rfl rfl rfl (by kernel_rfl) Try.func4 (by kernel_rfl)
    (of_decide_eq_true (by kernel_rfl)) (by unfold Func.isWrapper; first | (rw [if_pos (by decide +kernel)]; kernel_rfl) | (rw [if_neg (by decide +kernel)]; exact ⟨rfl, rfl⟩))
    (fun os started H enc _ => realSteps_lifted os started H enc)
#print axioms realSteps_holds
end Go.Proofs.Ytlalfpghfpdobab
