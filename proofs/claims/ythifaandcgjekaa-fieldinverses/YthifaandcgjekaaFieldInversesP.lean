/- Each byte but 0 has an inverse, which is the document's, and whose inverse it is. No condition. -/
import Derived.Test.YthifaandcgjekaaFieldFrame
import Derived.Test.YthifaandcgjekaaFieldRefPower
namespace Go.Proofs.Ythifaandcgjekaa
open Go.ChangeShapes Go.WideShapes Go.ChangeAt Go.RowKit

theorem fieldInverses_walk (a0 : Int) (w : World) (h0 : (Lit.int .u8 a0).wf = true) :
    Calls Try.prog 5 #[.int .u8 a0] w fun e w' => e = .returned (.bool true) ∧ Below w.heap.size w w' := by
  obtain ⟨a, rfl⟩ := b8_wf h0
  have HI := Hid.mk' (fun x => inverse_any x w)
  have HR := Hid.mk' (rinverse_any a w)
  have HT := Hid.mk' (times_any a (inv a) w)
  have HC := Hid.mk' (inverse_any 0x53#8 w)
  rw [show inv 0x53#8 = 0xca#8 by rw [inv_eq]; decide +kernel] at HC
  have HII := Hid.mk' (inv_inv a)
  clear h0
  by_cases c : a = 0#8
  · have e1 : ((b8 a : Int) == 0) = true := by rw [c]; rfl
    have e2 : ((b8 (inv a) : Int) == 0) = true := by rw [c, show inv 0#8 = 0#8 from inv_zero]; rfl
    clear c
    go_enter Try.func5, Try.ntmps5
    go_wp2_with fail
    refine Calls.mono (HI.out a) ?_
    rintro e w1 ⟨rfl, hw⟩
    have hw' := hw.symm
    subst hw'
    go_wp2_with fail
    refine Calls.mono (HR.out) ?_
    rintro e w1 ⟨rfl, hw⟩
    have hw' := hw.symm
    subst hw'
    go_wp2_with fail
    refine Calls.mono (HI.out (inv a)) ?_
    rw [HII.out]
    rintro e w1 ⟨rfl, hw⟩
    have hw' := hw.symm
    subst hw'
    go_wp2_with fail
    refine Calls.mono (HC.out) ?_
    rintro e w1 ⟨rfl, hw⟩
    have hw' := hw.symm
    subst hw'
    go_wp2
    go_ret
    exact ⟨rfl, Below.refl _ _⟩
  · have e1 : ((b8 a : Int) == 0) = false := by
      rw [beq_eq_false_iff_ne]
      intro e
      exact c (b8_inj (show b8 a = 0 by omega))
    have e3 := tm_inv a c
    have e2 : ((b8 (tm a (inv a)) : Int) == 1) = true := by rw [e3]; rfl
    clear c e3
    go_enter Try.func5, Try.ntmps5
    go_wp2_with fail
    refine Calls.mono (HI.out a) ?_
    rintro e w1 ⟨rfl, hw⟩
    have hw' := hw.symm
    subst hw'
    go_wp2_with fail
    refine Calls.mono (HR.out) ?_
    rintro e w1 ⟨rfl, hw⟩
    have hw' := hw.symm
    subst hw'
    go_wp2_with fail
    refine Calls.mono (HI.out (inv a)) ?_
    rw [HII.out]
    rintro e w1 ⟨rfl, hw⟩
    have hw' := hw.symm
    subst hw'
    go_wp2_with fail
    refine Calls.mono (HC.out) ?_
    rintro e w1 ⟨rfl, hw⟩
    have hw' := hw.symm
    subst hw'
    go_wp2_with fail
    refine Calls.mono (HT.out) ?_
    rintro e w1 ⟨rfl, hw⟩
    have hw' := hw.symm
    subst hw'
    go_wp2
    go_ret
    exact ⟨rfl, Below.refl _ _⟩

set_option maxRecDepth 100000 in
theorem fieldInverses_lifted (os : Os) (started : os.Started) (H : Type) (enc : TypeId × Value → H) :
    ReturnsInHanded {} Try.checked os 5 .any (Rows.fieldInversesSpec.pre6 enc Try.prog Try.f5 Rows.fieldInversesRow.domain false) (Rows.fieldInversesSpec.post enc Try.prog Try.f5 false true false false) := by
  refine returnsInHanded_of_change (C := Try.checked) (by kernel_rfl) started (by kernel_rfl) Try.func5
    (ChangeSpec.witness6 (enc := enc) (C := Try.checked) false ⟨#[], #[.int .u8 0], []⟩ 8 (by kernel_rfl) (by kernel_rfl) (by kernel_rfl) (by kernel_rfl)) ?_
  intro W base args ds gs before hval0 hW hcnd _
  have hval : ∀ (j : Nat) t v, Try.f5.params[j]? = some t → args[j]? = some v → Value.okWide Try.prog W .any base t v := hval0
  have hW' := hW
  obtain ⟨p, q, hA0, hV, rfl, hfz, hnd⟩ := hW
  have hA : DataW.TrodAll enc Try.prog W 0 (fun _ => true) true Try.f5.params.toList args.toList ds p := hA0
  rw [Try.params5] at hA hval
  obtain ⟨v0, vs0, d0, ds0, p0, q0, hargs, rfl, rfl, h0, r0⟩ := trodAll_cons hA
  obtain ⟨rfl, rfl, rfl⟩ := trodAll_nil r0
  obtain rfl : args = #[v0] := by cases args; simp_all
  obtain ⟨rfl, rfl⟩ := trodVars_none hV
  obtain ⟨a0, rfl, rfl, rfl, w0⟩ := open_int Try.underlying5 (hval 0 5 v0 rfl rfl) h0
  clear hA0 hval0
  refine (fieldInverses_walk a0 W w0).mono fun e W' ⟨he, bel⟩ => ?_
  subst he
  exact ⟨_, rfl, _, _, _, [], _, [], hW', trodAll_mk1 (shut_bool Try.underlying4 _), (trodAll_cons_mk (shut_int Try.underlying5 w0) trodAll_mk0), rfl, bel.frame _, fun h => by cases h⟩

theorem fieldInverses_holds : Rows.FieldInversesSaid :=
  OpenClaim.holds_of_wide 5 Try.f5 rfl rfl rfl rfl rfl rfl rfl ⟨rfl, rfl, rfl, rfl, rfl⟩ rfl rfl rfl rfl rfl (by kernel_rfl) Try.func5 (by kernel_rfl)
    (of_decide_eq_true (by kernel_rfl)) (by unfold Func.isWrapper; first | (rw [if_pos (by decide +kernel)]; kernel_rfl) | (rw [if_neg (by decide +kernel)]; exact ⟨rfl, rfl⟩))
    (fun os started H enc _ => fieldInverses_lifted os started H enc)
#print axioms fieldInverses_holds
end Go.Proofs.Ythifaandcgjekaa
