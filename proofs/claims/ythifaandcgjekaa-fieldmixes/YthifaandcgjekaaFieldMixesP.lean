/- The column of a byte is made of products of its box. No condition. -/
import Derived.Test.YthifaandcgjekaaFieldFrame
import Derived.Test.YthifaandcgjekaaFieldRefBox
import Derived.Test.YthifaandcgjekaaFieldBoxes
namespace Go.Proofs.Ythifaandcgjekaa
open Go.ChangeShapes Go.WideShapes Go.ChangeAt Go.RowKit

theorem col_known : col (bx 0x53#8) = 0xc1eded2c := by unfold bx; rw [inv_eq]; decide +kernel
theorem col_sum (s : B8) : (b8 (tm s 2#8) : Int) * 16777216 + (b8 s : Int) * 65536 + (b8 s : Int) * 256 + (b8 (tm s 3#8) : Int) = (col s : Int) := by
  rw [tm_comm s 2#8, tm_comm s 3#8]; unfold col b8; omega
theorem fieldMixes_walk (a0 : Int) (w : World) (h0 : (Lit.int .u8 a0).wf = true) :
    Calls Try.prog 8 #[.int .u8 a0] w fun e w' => e = .returned (.bool true) ∧ Below w.heap.size w w' := by
  obtain ⟨a, rfl⟩ := b8_wf h0
  clear h0
  obtain ⟨s, hs⟩ : ∃ s, s = bx a := ⟨_, rfl⟩
  have hsum := col_sum s
  have l1 := b8_lt s
  have l2 := b8_lt (tm s 2#8)
  have l3 := b8_lt (tm s 3#8)
  have HS := Hid.mk' hs
  clear hs
  go_enter Try.func8, Try.ntmps8
  go_wp2_with fail
  refine Calls.mono (new_any w) ?_
  rintro e w2 ⟨rfl, hb, hbut⟩
  have HB := Hid.mk' hb
  have HBT := Hid.mk' hbut
  clear hb hbut
  go_wp2_with fail
  refine Calls.mono (rbox_any a w2) ?_
  rw [← HS.out]
  rintro e w1 ⟨rfl, hw⟩
  have hw' := hw.symm
  subst hw'
  go_wp2_with fail
  refine Calls.mono (rtimes_any s 2#8 w2) ?_
  rintro e w1 ⟨rfl, hw⟩
  have hw' := hw.symm
  subst hw'
  go_wp2_with fail
  refine Calls.mono (rtimes_any s 3#8 w2) ?_
  rintro e w1 ⟨rfl, hw⟩
  have hw' := hw.symm
  subst hw'
  go_wp2_with fail
  refine Calls.mono (mix_any HB.out a) ?_
  rw [← HS.out]
  rintro e w1 ⟨rfl, hw⟩
  have hw' := hw.symm
  subst hw'
  go_wp2_with fail
  refine Calls.mono (mix_any HB.out 0x53#8) ?_
  rw [col_known]
  rintro e w1 ⟨rfl, hw⟩
  have hw' := hw.symm
  subst hw'
  go_wp2_with fail
  refine Calls.mono (box_nil _ w2) ?_
  rintro e w1 ⟨rfl, hw⟩
  have hw' := hw.symm
  subst hw'
  go_wp2_with fail
  refine Calls.mono (back_nil _ w2) ?_
  rintro e w1 ⟨rfl, hw⟩
  have hw' := hw.symm
  subst hw'
  go_wp2_with fail
  refine Calls.mono (mix_nil _ w2) ?_
  rintro e w1 ⟨rfl, hw⟩
  have hw' := hw.symm
  subst hw'
  go_wp2
  go_ret
  exact ⟨rfl, HBT.out.below (Nat.le_refl _) (fun _ _ h => h)⟩

set_option maxRecDepth 100000 in
theorem fieldMixes_lifted (os : Os) (started : os.Started) (H : Type) (enc : TypeId × Value → H) :
    ReturnsInHanded {} Try.checked os 8 .any (Rows.fieldMixesSpec.pre6 enc Try.prog Try.f8 Rows.fieldMixesRow.domain false) (Rows.fieldMixesSpec.post enc Try.prog Try.f8 false true false false) := by
  refine returnsInHanded_of_change (C := Try.checked) (by kernel_rfl) started (by kernel_rfl) Try.func8
    (ChangeSpec.witness6 (enc := enc) (C := Try.checked) false ⟨#[], #[.int .u8 0], []⟩ 8 (by kernel_rfl) (by kernel_rfl) (by kernel_rfl) (by kernel_rfl)) ?_
  intro W base args ds gs before hval0 hW hcnd _
  have hval : ∀ (j : Nat) t v, Try.f8.params[j]? = some t → args[j]? = some v → Value.okWide Try.prog W .any base t v := hval0
  have hW' := hW
  obtain ⟨p, q, hA0, hV, rfl, hfz, hnd⟩ := hW
  have hA : DataW.TrodAll enc Try.prog W 0 (fun _ => true) true Try.f8.params.toList args.toList ds p := hA0
  rw [Try.params8] at hA hval
  obtain ⟨v0, vs0, d0, ds0, p0, q0, hargs, rfl, rfl, h0, r0⟩ := trodAll_cons hA
  obtain ⟨rfl, rfl, rfl⟩ := trodAll_nil r0
  obtain rfl : args = #[v0] := by cases args; simp_all
  obtain ⟨rfl, rfl⟩ := trodVars_none hV
  obtain ⟨a0, rfl, rfl, rfl, w0⟩ := open_int Try.underlying5 (hval 0 5 v0 rfl rfl) h0
  clear hA0 hval0
  refine (fieldMixes_walk a0 W w0).mono fun e W' ⟨he, bel⟩ => ?_
  subst he
  exact ⟨_, rfl, _, _, _, [], _, [], hW', trodAll_mk1 (shut_bool Try.underlying4 _), (trodAll_cons_mk (shut_int Try.underlying5 w0) trodAll_mk0), rfl, bel.frame _, fun h => by cases h⟩

theorem fieldMixes_holds : Rows.FieldMixesSaid :=
  OpenClaim.holds_of_wide 8 Try.f8 rfl rfl rfl rfl rfl rfl rfl ⟨rfl, rfl, rfl, rfl, rfl⟩ rfl rfl rfl rfl rfl (by kernel_rfl) Try.func8 (by kernel_rfl)
    (of_decide_eq_true (by kernel_rfl)) (by unfold Func.isWrapper; first | (rw [if_pos (by decide +kernel)]; kernel_rfl) | (rw [if_neg (by decide +kernel)]; exact ⟨rfl, rfl⟩))
    (fun os started H enc _ => fieldMixes_lifted os started H enc)
#print axioms fieldMixes_holds
end Go.Proofs.Ythifaandcgjekaa
