/- For every number and every rank: a number is that of its rank, and a rank that a number has is that number's. No condition. -/
import Derived.Test.YtlalfpghfpdobaaRealOf
import Derived.ProofKit
import Derived.OpenShut
import Derived.ChangeOld
import Derived.Below
namespace Go.Proofs.Ytlalfpghfpdobaa
open Go.ChangeShapes Go.WideShapes Go.ChangeAt Go.RowKit

theorem isInf_minus (w : World) : Calls Try.prog 15 #[.float .f64 18442240474082181120, .int .i64 (-1)] w fun e w' => e = .returned (.bool true) ∧ w' = w := by
  have h : (FloatKind.f64.format.order 9218868437227405312 9218868437227405311 == some Ordering.gt) = true := by decide
  have hn : Op.unary .neg (.float .f64 18442240474082181120) = pure (.float .f64 9218868437227405312) := by rfl
  go_enter Try.func15, Try.ntmps15
  go_wp2
  go_ret
  exact ⟨rfl, rfl⟩

theorem nn_nan : nn 9221120237041090561 = true := by decide
theorem rk_nanw : rk 9221120237041090561 = 9223372036854775807 := by decide
theorem nn_inf : nn 18442240474082181120 = false := by decide
theorem rk_inf : rk 18442240474082181120 = -9218868437227405313 := by decide

theorem realBack_walk (a : Nat) (n : Int) (w : World) (wa : (Lit.float .f64 a).wf = true) (wn : (Lit.int .i64 n).wf = true) :
    Calls Try.prog 4 #[.float .f64 a, .int .i64 n] w fun e w' => e = .returned (.bool true) ∧ Below w.heap.size w w' := by
  have ha := wf64 wa
  obtain ⟨h1, h2⟩ := wfi64 wn
  clear wa wn
  have b1 := bits_run a
  have k1 := ne_self a ha
  cases na : nn a
  · have hr := ofr_rk a ha na
    have hl := rk_lt a na
    have hlo : -9223372036854775808 ≤ rk a := by have := mg_lt a; unfold rk; split; omega; split <;> omega
    have hhi := rk_le a
    rw [na] at k1
    by_cases c1 : 9218868437227405312 < n
    · have z := ofr_hi n c1
      have k2 := ne_self 9221120237041090561 (by decide)
      rw [nn_nan] at k2
      have k3 := rk_nanw
      by_cases c2 : n = 9223372036854775807
      · subst c2
        go_enter Try.func4, Try.ntmps4
        go_wp2_with (first
          | (go_at_call 9; refine (rank_any _ _ (by first | assumption | decide)).mono ?_; rintro e w' ⟨rfl, rfl⟩)
          | (go_at_call 12; refine (of_any _ _ (by first | assumption | decide) (by first | assumption | decide)).mono ?_; rintro e w' ⟨rfl, rfl⟩))
        go_ret
        exact ⟨rfl, Below.refl _ _⟩
      · have c3 : ((9223372036854775807 : Int) == n) = false := by simp; omega
        go_enter Try.func4, Try.ntmps4
        go_wp2_with (first
          | (go_at_call 9; refine (rank_any _ _ (by first | assumption | decide)).mono ?_; rintro e w' ⟨rfl, rfl⟩)
          | (go_at_call 12; refine (of_any _ _ (by first | assumption | decide) (by first | assumption | decide)).mono ?_; rintro e w' ⟨rfl, rfl⟩))
        go_ret
        exact ⟨rfl, Below.refl _ _⟩
    · by_cases c2 : n < -9218868437227405313
      · have z := ofr_lo n c2
        have k2 := ne_self 18442240474082181120 (by decide)
        rw [nn_inf] at k2
        have k3 := rk_inf
        have c3 : ((-9218868437227405313 : Int) == n) = false := by simp; omega
        go_enter Try.func4, Try.ntmps4
        go_wp2_with (first
          | (go_at_call 9; refine (rank_any _ _ (by first | assumption | decide)).mono ?_; rintro e w' ⟨rfl, rfl⟩)
          | (go_at_call 12; refine (of_any _ _ (by first | assumption | decide) (by first | assumption | decide)).mono ?_; rintro e w' ⟨rfl, rfl⟩)
          | (go_at_call 15; refine (isInf_minus _).mono ?_; rintro e w' ⟨rfl, rfl⟩))
        go_ret
        exact ⟨rfl, Below.refl _ _⟩
      · have z := rk_ofr n (by omega) (by omega)
        have zl := ofr_lt n
        go_enter Try.func4, Try.ntmps4
        go_wp2_with (first
          | (go_at_call 9; refine (rank_any _ _ (by first | assumption | decide)).mono ?_; rintro e w' ⟨rfl, rfl⟩)
          | (go_at_call 12; refine (of_any _ _ (by first | assumption | decide) (by first | assumption | decide)).mono ?_; rintro e w' ⟨rfl, rfl⟩))
        go_ret
        exact ⟨rfl, Below.refl _ _⟩
  · rw [na] at k1
    have hr := rk_nan a na
    have z : ofr 9223372036854775807 = 9221120237041090561 := by decide
    have k2 := ne_self 9221120237041090561 (by decide)
    rw [nn_nan] at k2
    go_enter Try.func4, Try.ntmps4
    go_wp2_with (first
      | (go_at_call 9; refine (rank_any _ _ (by first | assumption | decide)).mono ?_; rintro e w' ⟨rfl, rfl⟩)
      | (go_at_call 12; refine (of_any _ _ (by first | assumption | decide) (by first | assumption | decide)).mono ?_; rintro e w' ⟨rfl, rfl⟩))
    go_ret
    exact ⟨rfl, Below.refl _ _⟩

set_option maxRecDepth 100000 in
theorem realBack_lifted (os : Os) (started : os.Started) (H : Type) (enc : TypeId × Value → H) :
    ReturnsInHanded {} Try.checked os 4 .any (Rows.realBackSpec.pre6 enc Try.prog Try.f4 Rows.realBackRow.domain false) (Rows.realBackSpec.post enc Try.prog Try.f4 false true false false) := by
  refine returnsInHanded_of_change (C := Try.checked) (by kernel_rfl) started (by kernel_rfl) Try.func4
    (ChangeSpec.witness6 (enc := enc) (C := Try.checked) false ⟨#[], #[.float .f64 0, .int .i64 0], []⟩ 8 (by kernel_rfl) (by kernel_rfl) (by kernel_rfl) (by kernel_rfl)) ?_
  intro W base args ds gs before hval0 hW hcnd _
  have hval : ∀ (j : Nat) t v, Try.f4.params[j]? = some t → args[j]? = some v → Value.okWide Try.prog W .any base t v := hval0
  have hW' := hW
  obtain ⟨p, q, hA0, hV, rfl, hfz, hnd⟩ := hW
  have hA : DataW.TrodAll enc Try.prog W 0 (fun _ => true) true Try.f4.params.toList args.toList ds p := hA0
  rw [Try.params4] at hA hval
  obtain ⟨v0, vs0, d0, ds0, p0, q0, hargs, rfl, rfl, h0, r0⟩ := trodAll_cons hA
  obtain ⟨v1, vs1, d1, ds1, p1, q1, rfl, rfl, rfl, h1, r1⟩ := trodAll_cons r0
  obtain ⟨rfl, rfl, rfl⟩ := trodAll_nil r1
  obtain rfl : args = #[v0, v1] := by cases args; simp_all
  obtain ⟨rfl, rfl⟩ := trodVars_none hV
  obtain ⟨a0, rfl, rfl, rfl, w0⟩ := open_float Try.underlying22 (hval 0 22 v0 rfl rfl) h0
  obtain ⟨a1, rfl, rfl, rfl, w1⟩ := open_int Try.underlying2 (hval 1 2 v1 rfl rfl) h1
  clear hA0 hval0
  refine (realBack_walk a0 a1 W w0 w1).mono fun e W' ⟨he, bel⟩ => ?_
  subst he
  exact ⟨_, rfl, _, _, _, [], _, [], hW', trodAll_mk1 (shut_bool Try.underlying4 _), (trodAll_cons_mk (shut_float Try.underlying22 w0) (trodAll_cons_mk (shut_int Try.underlying2 w1) trodAll_mk0)), rfl, bel.frame _, fun h => by cases h⟩

theorem realBack_holds : Rows.RealBackSaid :=
  OpenClaim.holds_of_wide 4 Try.f4 rfl rfl rfl rfl rfl rfl rfl ⟨rfl, rfl, rfl, rfl, rfl⟩ rfl rfl rfl rfl rfl (by kernel_rfl) Try.func4 (by kernel_rfl)
    (of_decide_eq_true (by kernel_rfl)) (by unfold Func.isWrapper; first | (rw [if_pos (by decide +kernel)]; kernel_rfl) | (rw [if_neg (by decide +kernel)]; exact ⟨rfl, rfl⟩))
    (fun os started H enc _ => realBack_lifted os started H enc)
#print axioms realBack_holds
end Go.Proofs.Ytlalfpghfpdobaa
