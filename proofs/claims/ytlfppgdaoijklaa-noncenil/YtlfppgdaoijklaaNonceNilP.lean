/- NonceNil: a source that is none tells nothing. For every input. -/
import Derived.Test.YtlfppgdaoijklaaNnLaw
namespace Go.Proofs.Ytlfppgdaoijklaa
open Go.ChangeShapes Go.WideShapes Go.ChangeAt Go.RowKit Go.Deep

set_option maxRecDepth 100000 in
set_option maxHeartbeats 2000000 in
theorem nonceNil_walk (a : Int) (w : World) (ha : (Lit.int .u32 a).wf = true) : Calls Try.prog 6 #[.int .u32 a] w fun e w' => e = .returned (.bool true) ∧ Below w.heap.size w w' := by
  obtain ⟨E, rfl, -⟩ := wf_u32 ha
  have H1 := Hid.mk' (nnext_nil w E)
  clear ha
  go_enter Try.func6, Try.ntmps6
  go_wp2_with fail
  refine Calls.mono H1.out ?_
  rintro e w1 ⟨rfl, k1⟩
  obtain ⟨w2, hs, hb, k2⟩ := newEn w1 ⟨0, 0, 0⟩
  have HS := Hid.mk' hs
  have HB := Hid.mk' hb
  have HK2 : Hid (Grow w w2) := k1.trans k2
  have H5 := Hid.mk' (nleft_nil w2)
  have H6 := Hid.mk' (nnawake_any w2)
  clear k1 k2 hs hb H1
  go_wp2_with (first
    | (refine wpList_runH rfl (exec_allocF rfl (zeroE _)) ?_)
    | (refine wpList_skipH rfl (exec_stF (v := evalE ⟨0, 0, 0⟩) rfl rfl rfl HS.out) ?_)
    | (refine wpList_runH rfl (exec_ldE (cs := ⟨0, 0, 0⟩) HB.out.cells0 rfl rfl) ?_)
    | (refine wpList_runH rfl (exec_eqE (b := true) rfl rfl rfl gE (equalEn ⟨0, 0, 0⟩ _)) ?_)
    | fail)
  refine Calls.mono H5.out ?_
  rintro e w' ⟨rfl, rfl⟩
  go_wp2_with fail
  refine Calls.mono H6.out ?_
  rintro e w4 ⟨rfl, k4⟩
  have HK4 : Hid (Grow w w4) := HK2.out.trans k4
  clear k4
  go_wp2
  go_ret
  exact ⟨rfl, HK4.out.below (Nat.le_refl _) (fun _ _ h => h)⟩
set_option maxRecDepth 100000 in
theorem nonceNil_lifted (os : Os) (started : os.Started) (H : Type) (enc : TypeId × Value → H) :
    ReturnsInHanded {} Try.checked os 6 .any (Rows.nonceNilSpec.pre6 enc Try.prog Try.f6 Rows.nonceNilRow.domain false) (Rows.nonceNilSpec.post enc Try.prog Try.f6 false true false false) := by
  refine returnsInHanded_of_change (C := Try.checked) (by kernel_rfl) started (by kernel_rfl) Try.func6
    (ChangeSpec.witness6 (enc := enc) (C := Try.checked) false ⟨#[], #[.int .u32 0], []⟩ 8 (by kernel_rfl) (by kernel_rfl) (by kernel_rfl) (by kernel_rfl)) ?_
  intro W base args ds gs before hval0 hW hcnd _
  have hval : ∀ (j : Nat) t v, Try.f6.params[j]? = some t → args[j]? = some v → Value.okWide Try.prog W .any base t v := hval0
  have hW' := hW
  obtain ⟨p, q, hA0, hV, rfl, hfz, hnd⟩ := hW
  have hA : DataW.TrodAll enc Try.prog W 0 (fun _ => true) true Try.f6.params.toList args.toList ds p := hA0
  rw [Try.params6] at hA hval
  obtain ⟨v0, vs0, d0, ds0, p0, q0, hargs, rfl, rfl, h0, r0⟩ := trodAll_cons hA
  obtain ⟨rfl, rfl, rfl⟩ := trodAll_nil r0
  obtain rfl : args = #[v0] := by cases args; simp_all
  obtain ⟨rfl, rfl⟩ := trodVars_none hV
  obtain ⟨a0, rfl, rfl, rfl, w0⟩ := open_int Try.underlying22 (hval 0 22 v0 rfl rfl) h0
  clear hA0 hval0
  refine (nonceNil_walk a0 W w0).mono fun e W' ⟨he, bel⟩ => ?_
  subst he
  exact ⟨_, rfl, _, _, _, [], _, [], hW', trodAll_mk1 (shut_bool Try.underlying4 _), (trodAll_cons_mk (shut_int Try.underlying22 w0) trodAll_mk0), rfl, bel.frame _, fun h => by cases h⟩

theorem nonceNil_holds : Rows.NonceNilSaid :=
  OpenClaim.holds_of_wide 6 Try.f6 rfl rfl rfl rfl rfl rfl rfl ⟨rfl, rfl, rfl, rfl, rfl⟩ rfl rfl rfl rfl rfl (by kernel_rfl) Try.func6 (by kernel_rfl)
    (of_decide_eq_true (by kernel_rfl)) (by unfold Func.isWrapper; first | (rw [if_pos (by decide +kernel)]; kernel_rfl) | (rw [if_neg (by decide +kernel)]; exact ⟨rfl, rfl⟩))
    (fun os started H enc _ => nonceNil_lifted os started H enc)
#print axioms nonceNil_holds
end Go.Proofs.Ytlfppgdaoijklaa
