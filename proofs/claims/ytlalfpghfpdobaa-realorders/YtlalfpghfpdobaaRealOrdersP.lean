/- For all three numbers: real.Less is one order, it goes on from pair to pair, and it is Go's own where both are some numbers and not both noughts. No condition. -/
import Derived.Test.YtlalfpghfpdobaaRealOf
import Derived.ProofKit
import Derived.OpenShut
import Derived.ChangeOld
import Derived.Below
namespace Go.Proofs.Ytlalfpghfpdobaa
open Go.ChangeShapes Go.WideShapes Go.ChangeAt Go.RowKit

theorem ls_asym (a b : Nat) (h : ls a b = true) : ls b a = false := by unfold ls at *; simp at *; omega
theorem ls_trans (a b c : Nat) (h1 : ls a b = true) (h2 : ls b c = true) : ls a c = true := by unfold ls at *; simp at *; omega
theorem ls_nan_left (a b : Nat) (h : nn a = true) : ls a b = false := by
  have := rk_nan a h; have := rk_le b; unfold ls; simp; omega
theorem ls_nan_right (a b : Nat) (ha : nn a = false) (hb : nn b = true) : ls a b = true := by
  have := rk_lt a ha; have := rk_nan b hb; unfold ls; simp; omega
theorem ls_one (a b : Nat) (ha : a < 18446744073709551616) (hb : b < 18446744073709551616) (na : nn a = false) (nb : nn b = false) (h1 : ls a b = false) (h2 : ls b a = false) : a = b := by
  have e : rk a = rk b := by unfold ls at *; simp at *; omega
  rw [← ofr_rk a ha na, ← ofr_rk b hb nb, e]
theorem ls_sm (a b : Nat) (na : nn a = false) (nb : nn b = false) (h : ¬ sm a = sm b) : ls a b = decide (sm a < sm b) := by
  have hr := rk_less a b na nb
  unfold ls; rw [decide_eq_decide, hr]; omega
theorem eq_self' (b : Nat) (hb : b < 18446744073709551616) : (FloatKind.f64.format.order b b == some Ordering.eq) = !nn b := by
  have h := ord_eq b b hb hb
  show (Ieee.double.order b b == some Ordering.eq) = !nn b
  rw [h]; cases nn b <;> simp
theorem ls_zeros : ls 9223372036854775808 0 = true := by decide

theorem realOrders_walk (a b c : Nat) (w : World) (wa : (Lit.float .f64 a).wf = true) (wb : (Lit.float .f64 b).wf = true) (wc : (Lit.float .f64 c).wf = true) :
    Calls Try.prog 5 #[.float .f64 a, .float .f64 b, .float .f64 c] w fun e w' => e = .returned (.bool true) ∧ Below w.heap.size w w' := by
  have ha := wf64 wa
  have hb := wf64 wb
  have hc := wf64 wc
  clear wa wb wc
  have i1 := ls_irrefl a
  have i2 := ls_zeros
  have e1 := eq_self' a ha
  have e2 := eq_self' b hb
  have b1 := bits_run a
  have b2 := bits_run b
  have p3 : (FloatKind.f64.format.order a b != some Ordering.eq) = !(!nn a && !nn b && decide (sm a = sm b)) := by
    show (!(Ieee.double.order a b == some Ordering.eq)) = _
    rw [ord_eq a b ha hb]
  have p4 : (FloatKind.f64.format.order a b == some Ordering.lt) = (!nn a && !nn b && decide (sm a < sm b)) := by
    show (Ieee.double.order a b == some Ordering.lt) = _
    rw [ord_lt a b ha hb]
  cases na : nn a <;> cases nb : nn b
  · rw [na, nb] at p3 p4
    rw [na] at e1
    rw [nb] at e2
    simp only [Bool.not_false, Bool.true_and] at e1 e2 p3 p4
    by_cases hs : sm a = sm b
    · have d : decide (sm a = sm b) = true := by simpa using hs
      rw [d] at p3
      simp only [Bool.not_true] at p3
      clear p4 d hs
      cases x : ls a b
      · cases y : ls b a
        · have hab := ls_one a b ha hb na nb x y
          subst hab
          go_enter Try.func5, Try.ntmps5
          go_wp2_with (first
            | (go_at_call 16; refine (less_any _ _ _ (by first | assumption | decide) (by first | assumption | decide)).mono ?_; rintro e w' ⟨rfl, rfl⟩)
            | (go_at_call 17; refine (copysign_zero _).mono ?_; rintro e w' ⟨rfl, rfl⟩))
          go_ret
          exact ⟨rfl, Below.refl _ _⟩
        · go_enter Try.func5, Try.ntmps5
          go_wp2_with (first
            | (go_at_call 16; refine (less_any _ _ _ (by first | assumption | decide) (by first | assumption | decide)).mono ?_; rintro e w' ⟨rfl, rfl⟩)
            | (go_at_call 17; refine (copysign_zero _).mono ?_; rintro e w' ⟨rfl, rfl⟩))
          go_ret
          exact ⟨rfl, Below.refl _ _⟩
      · have y := ls_asym a b x
        cases z : ls b c
        · go_enter Try.func5, Try.ntmps5
          go_wp2_with (first
            | (go_at_call 16; refine (less_any _ _ _ (by first | assumption | decide) (by first | assumption | decide)).mono ?_; rintro e w' ⟨rfl, rfl⟩)
            | (go_at_call 17; refine (copysign_zero _).mono ?_; rintro e w' ⟨rfl, rfl⟩))
          go_ret
          exact ⟨rfl, Below.refl _ _⟩
        · have v := ls_trans a b c x z
          go_enter Try.func5, Try.ntmps5
          go_wp2_with (first
            | (go_at_call 16; refine (less_any _ _ _ (by first | assumption | decide) (by first | assumption | decide)).mono ?_; rintro e w' ⟨rfl, rfl⟩)
            | (go_at_call 17; refine (copysign_zero _).mono ?_; rintro e w' ⟨rfl, rfl⟩))
          go_ret
          exact ⟨rfl, Below.refl _ _⟩
    · have d : decide (sm a = sm b) = false := by simpa using hs
      rw [d] at p3
      have q := ls_sm a b na nb hs
      rw [← q] at p4
      simp only [Bool.not_false] at p3
      clear d q
      cases x : ls a b
      · rw [x] at p4
        cases y : ls b a
        · exact absurd (by rw [ls_one a b ha hb na nb x y]) hs
        · clear hs
          go_enter Try.func5, Try.ntmps5
          go_wp2_with (first
            | (go_at_call 16; refine (less_any _ _ _ (by first | assumption | decide) (by first | assumption | decide)).mono ?_; rintro e w' ⟨rfl, rfl⟩)
            | (go_at_call 17; refine (copysign_zero _).mono ?_; rintro e w' ⟨rfl, rfl⟩))
          go_ret
          exact ⟨rfl, Below.refl _ _⟩
      · rw [x] at p4
        have y := ls_asym a b x
        clear hs
        cases z : ls b c
        · go_enter Try.func5, Try.ntmps5
          go_wp2_with (first
            | (go_at_call 16; refine (less_any _ _ _ (by first | assumption | decide) (by first | assumption | decide)).mono ?_; rintro e w' ⟨rfl, rfl⟩)
            | (go_at_call 17; refine (copysign_zero _).mono ?_; rintro e w' ⟨rfl, rfl⟩))
          go_ret
          exact ⟨rfl, Below.refl _ _⟩
        · have v := ls_trans a b c x z
          go_enter Try.func5, Try.ntmps5
          go_wp2_with (first
            | (go_at_call 16; refine (less_any _ _ _ (by first | assumption | decide) (by first | assumption | decide)).mono ?_; rintro e w' ⟨rfl, rfl⟩)
            | (go_at_call 17; refine (copysign_zero _).mono ?_; rintro e w' ⟨rfl, rfl⟩))
          go_ret
          exact ⟨rfl, Below.refl _ _⟩
  · -- b is no number: a is ahead of it
    have x := ls_nan_right a b na nb
    have y := ls_asym a b x
    rw [na] at e1
    rw [nb] at e2
    simp only [Bool.not_false, Bool.not_true] at e1 e2
    clear p3 p4
    have z := ls_nan_left b c nb
    go_enter Try.func5, Try.ntmps5
    go_wp2_with (first
      | (go_at_call 16; refine (less_any _ _ _ (by first | assumption | decide) (by first | assumption | decide)).mono ?_; rintro e w' ⟨rfl, rfl⟩)
      | (go_at_call 17; refine (copysign_zero _).mono ?_; rintro e w' ⟨rfl, rfl⟩))
    go_ret
    exact ⟨rfl, Below.refl _ _⟩
  · have y := ls_nan_right b a nb na
    have x := ls_asym b a y
    rw [na] at e1
    rw [nb] at e2
    simp only [Bool.not_false, Bool.not_true] at e1 e2
    clear p3 p4
    go_enter Try.func5, Try.ntmps5
    go_wp2_with (first
      | (go_at_call 16; refine (less_any _ _ _ (by first | assumption | decide) (by first | assumption | decide)).mono ?_; rintro e w' ⟨rfl, rfl⟩)
      | (go_at_call 17; refine (copysign_zero _).mono ?_; rintro e w' ⟨rfl, rfl⟩))
    go_ret
    exact ⟨rfl, Below.refl _ _⟩
  · have x := ls_nan_left a b na
    have y := ls_nan_left b a nb
    rw [na] at e1
    rw [nb] at e2
    simp only [Bool.not_true] at e1 e2
    clear p3 p4
    go_enter Try.func5, Try.ntmps5
    go_wp2_with (first
      | (go_at_call 16; refine (less_any _ _ _ (by first | assumption | decide) (by first | assumption | decide)).mono ?_; rintro e w' ⟨rfl, rfl⟩)
      | (go_at_call 17; refine (copysign_zero _).mono ?_; rintro e w' ⟨rfl, rfl⟩))
    go_ret
    exact ⟨rfl, Below.refl _ _⟩

set_option maxRecDepth 100000 in
theorem realOrders_lifted (os : Os) (started : os.Started) (H : Type) (enc : TypeId × Value → H) :
    ReturnsInHanded {} Try.checked os 5 .any (Rows.realOrdersSpec.pre6 enc Try.prog Try.f5 Rows.realOrdersRow.domain false) (Rows.realOrdersSpec.post enc Try.prog Try.f5 false true false false) := by
  refine returnsInHanded_of_change (C := Try.checked) (by kernel_rfl) started (by kernel_rfl) Try.func5
    (ChangeSpec.witness6 (enc := enc) (C := Try.checked) false ⟨#[], #[.float .f64 0, .float .f64 0, .float .f64 0], []⟩ 8 (by kernel_rfl) (by kernel_rfl) (by kernel_rfl) (by kernel_rfl)) ?_
  intro W base args ds gs before hval0 hW hcnd _
  have hval : ∀ (j : Nat) t v, Try.f5.params[j]? = some t → args[j]? = some v → Value.okWide Try.prog W .any base t v := hval0
  have hW' := hW
  obtain ⟨p, q, hA0, hV, rfl, hfz, hnd⟩ := hW
  have hA : DataW.TrodAll enc Try.prog W 0 (fun _ => true) true Try.f5.params.toList args.toList ds p := hA0
  rw [Try.params5] at hA hval
  obtain ⟨v0, vs0, d0, ds0, p0, q0, hargs, rfl, rfl, h0, r0⟩ := trodAll_cons hA
  obtain ⟨v1, vs1, d1, ds1, p1, q1, rfl, rfl, rfl, h1, r1⟩ := trodAll_cons r0
  obtain ⟨v2, vs2, d2, ds2, p2, q2, rfl, rfl, rfl, h2, r2⟩ := trodAll_cons r1
  obtain ⟨rfl, rfl, rfl⟩ := trodAll_nil r2
  obtain rfl : args = #[v0, v1, v2] := by cases args; simp_all
  obtain ⟨rfl, rfl⟩ := trodVars_none hV
  obtain ⟨a0, rfl, rfl, rfl, w0⟩ := open_float Try.underlying22 (hval 0 22 v0 rfl rfl) h0
  obtain ⟨a1, rfl, rfl, rfl, w1⟩ := open_float Try.underlying22 (hval 1 22 v1 rfl rfl) h1
  obtain ⟨a2, rfl, rfl, rfl, w2⟩ := open_float Try.underlying22 (hval 2 22 v2 rfl rfl) h2
  clear hA0 hval0
  refine (realOrders_walk a0 a1 a2 W w0 w1 w2).mono fun e W' ⟨he, bel⟩ => ?_
  subst he
  exact ⟨_, rfl, _, _, _, [], _, [], hW', trodAll_mk1 (shut_bool Try.underlying4 _), (trodAll_cons_mk (shut_float Try.underlying22 w0) (trodAll_cons_mk (shut_float Try.underlying22 w1) (trodAll_cons_mk (shut_float Try.underlying22 w2) trodAll_mk0))), rfl, bel.frame _, fun h => by cases h⟩

theorem realOrders_holds : Rows.RealOrdersSaid :=
  OpenClaim.holds_of_wide 5 Try.f5 rfl rfl rfl rfl rfl rfl rfl ⟨rfl, rfl, rfl, rfl, rfl⟩ rfl rfl rfl rfl rfl (by kernel_rfl) Try.func5 (by kernel_rfl)
    (of_decide_eq_true (by kernel_rfl)) (by unfold Func.isWrapper; first | (rw [if_pos (by decide +kernel)]; kernel_rfl) | (rw [if_neg (by decide +kernel)]; exact ⟨rfl, rfl⟩))
    (fun os started H enc _ => realOrders_lifted os started H enc)
#print axioms realOrders_holds
end Go.Proofs.Ytlalfpghfpdobaa
