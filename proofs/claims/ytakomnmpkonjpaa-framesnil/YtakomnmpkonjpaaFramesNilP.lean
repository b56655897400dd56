/- For any two numbers: tables that may not be are refused; one that is none has nothing. No condition. -/
import Derived.Test.YtakomnmpkonjpaaFrLaw
import Derived.ProofKit
import Derived.OpenShut
import Derived.ChangeOld
import Derived.Below
namespace Go.Proofs.Ytakomnmpkonjpaa
open Go.ChangeShapes Go.WideShapes Go.ChangeAt Go.RowKit

set_option maxRecDepth 100000 in
set_option maxHeartbeats 2000000 in
theorem framesNil_walk (n key : Int) (w : World) (_ : (Lit.int .i64 n).wf = true) (_ : (Lit.int .i64 key).wf = true) :
    Calls Try.prog 7 #[.int .i64 n, .int .i64 key] w fun e w' => e = .returned (.bool true) ∧ Below w.heap.size w w' := by
  by_cases hx : 1 ≤ n ∧ n ≤ 1024
  · have h1 : ¬ (n < 1) := by omega
    have h2 : ¬ (1024 < n) := by omega
    clear hx
    go_enter Try.func7, Try.ntmps7
    go_wp2_with fail
    refine Calls.mono (free_nil _ _) ?_
    rintro e w1 ⟨rfl, g1⟩
    have HG1 := Hid.mk' g1
    clear g1
    go_wp2_with fail
    refine Calls.mono (warm_nil _ _ _) ?_
    rintro e w2 ⟨rfl, hw⟩
    have h2 := hw.symm
    subst h2
    clear hw
    go_wp2_with fail
    refine Calls.mono (get_nil _ _) ?_
    rintro e w2 ⟨rfl, hw⟩
    have h2 := hw.symm
    subst h2
    clear hw
    go_wp2_with fail
    refine Calls.mono (victim_nil _) ?_
    rintro e w3 ⟨rfl, g3⟩
    have HG3 := Hid.mk' (HG1.out.trans g3)
    clear g3
    go_wp2_with fail
    refine Calls.mono (reserve_nil _ _ _) ?_
    rintro e w2 ⟨rfl, hw⟩
    have h2 := hw.symm
    subst h2
    clear hw
    go_wp2_with fail
    refine Calls.mono (put_nil _ _ _ _) ?_
    rintro e w2 ⟨rfl, hw⟩
    have h2 := hw.symm
    subst h2
    clear hw
    go_wp2_with fail
    refine Calls.mono (clean_nil _ _) ?_
    rintro e w2 ⟨rfl, hw⟩
    have h2 := hw.symm
    subst h2
    clear hw
    go_wp2_with fail
    refine Calls.mono (fdrop_nil _ _) ?_
    rintro e w2 ⟨rfl, hw⟩
    have h2 := hw.symm
    subst h2
    clear hw
    go_wp2_with fail
    refine Calls.mono (fpin_nil _ _ _) ?_
    rintro e w2 ⟨rfl, hw⟩
    have h2 := hw.symm
    subst h2
    clear hw
    go_wp2_with fail
    refine Calls.mono (left_nil _) ?_
    rintro e w2 ⟨rfl, hw⟩
    have h2 := hw.symm
    subst h2
    clear hw
    go_wp2_with fail
    refine Calls.mono (written_nil _ _) ?_
    rintro e w2 ⟨rfl, hw⟩
    have h2 := hw.symm
    subst h2
    clear hw
    go_wp2_with fail
    refine Calls.mono (pinned_nil _ _) ?_
    rintro e w2 ⟨rfl, hw⟩
    have h2 := hw.symm
    subst h2
    clear hw
    go_wp2_with fail
    refine Calls.mono (keys_nil _) ?_
    rintro e w2 ⟨rfl, hw⟩
    have h2 := hw.symm
    subst h2
    clear hw
    go_wp2_with fail
    refine Calls.mono (awake_any _) ?_
    rintro e w4 ⟨rfl, g4⟩
    have HG4 := Hid.mk' (HG3.out.trans g4)
    clear g4
    go_wp2
    go_ret
    exact ⟨rfl, HG4.out.below (Nat.le_refl _) (fun _ _ h => h)⟩
  · by_cases h1 : n < 1
    · go_enter Try.func7, Try.ntmps7
      go_wp2_with fail
      refine Calls.mono (newf_arg w n hx) ?_
      rintro e w0 ⟨rfl, hw⟩
      have h0 := hw.symm
      subst h0
      clear hw
      go_wp2_with fail
      refine Calls.mono (free_nil _ _) ?_
      rintro e w1 ⟨rfl, g1⟩
      have HG1 := Hid.mk' g1
      clear g1
      go_wp2_with fail
      refine Calls.mono (warm_nil _ _ _) ?_
      rintro e w2 ⟨rfl, hw⟩
      have h2 := hw.symm
      subst h2
      clear hw
      go_wp2_with fail
      refine Calls.mono (get_nil _ _) ?_
      rintro e w2 ⟨rfl, hw⟩
      have h2 := hw.symm
      subst h2
      clear hw
      go_wp2_with fail
      refine Calls.mono (victim_nil _) ?_
      rintro e w3 ⟨rfl, g3⟩
      have HG3 := Hid.mk' (HG1.out.trans g3)
      clear g3
      go_wp2_with fail
      refine Calls.mono (reserve_nil _ _ _) ?_
      rintro e w2 ⟨rfl, hw⟩
      have h2 := hw.symm
      subst h2
      clear hw
      go_wp2_with fail
      refine Calls.mono (put_nil _ _ _ _) ?_
      rintro e w2 ⟨rfl, hw⟩
      have h2 := hw.symm
      subst h2
      clear hw
      go_wp2_with fail
      refine Calls.mono (clean_nil _ _) ?_
      rintro e w2 ⟨rfl, hw⟩
      have h2 := hw.symm
      subst h2
      clear hw
      go_wp2_with fail
      refine Calls.mono (fdrop_nil _ _) ?_
      rintro e w2 ⟨rfl, hw⟩
      have h2 := hw.symm
      subst h2
      clear hw
      go_wp2_with fail
      refine Calls.mono (fpin_nil _ _ _) ?_
      rintro e w2 ⟨rfl, hw⟩
      have h2 := hw.symm
      subst h2
      clear hw
      go_wp2_with fail
      refine Calls.mono (left_nil _) ?_
      rintro e w2 ⟨rfl, hw⟩
      have h2 := hw.symm
      subst h2
      clear hw
      go_wp2_with fail
      refine Calls.mono (written_nil _ _) ?_
      rintro e w2 ⟨rfl, hw⟩
      have h2 := hw.symm
      subst h2
      clear hw
      go_wp2_with fail
      refine Calls.mono (pinned_nil _ _) ?_
      rintro e w2 ⟨rfl, hw⟩
      have h2 := hw.symm
      subst h2
      clear hw
      go_wp2_with fail
      refine Calls.mono (keys_nil _) ?_
      rintro e w2 ⟨rfl, hw⟩
      have h2 := hw.symm
      subst h2
      clear hw
      go_wp2_with fail
      refine Calls.mono (awake_any _) ?_
      rintro e w4 ⟨rfl, g4⟩
      have HG4 := Hid.mk' (HG3.out.trans g4)
      clear g4
      go_wp2
      go_ret
      exact ⟨rfl, HG4.out.below (Nat.le_refl _) (fun _ _ h => h)⟩
    · have h2 : 1024 < n := by omega
      go_enter Try.func7, Try.ntmps7
      go_wp2_with fail
      refine Calls.mono (newf_arg w n hx) ?_
      rintro e w0 ⟨rfl, hw⟩
      have h0 := hw.symm
      subst h0
      clear hw
      go_wp2_with fail
      refine Calls.mono (free_nil _ _) ?_
      rintro e w1 ⟨rfl, g1⟩
      have HG1 := Hid.mk' g1
      clear g1
      go_wp2_with fail
      refine Calls.mono (warm_nil _ _ _) ?_
      rintro e w2 ⟨rfl, hw⟩
      have h2 := hw.symm
      subst h2
      clear hw
      go_wp2_with fail
      refine Calls.mono (get_nil _ _) ?_
      rintro e w2 ⟨rfl, hw⟩
      have h2 := hw.symm
      subst h2
      clear hw
      go_wp2_with fail
      refine Calls.mono (victim_nil _) ?_
      rintro e w3 ⟨rfl, g3⟩
      have HG3 := Hid.mk' (HG1.out.trans g3)
      clear g3
      go_wp2_with fail
      refine Calls.mono (reserve_nil _ _ _) ?_
      rintro e w2 ⟨rfl, hw⟩
      have h2 := hw.symm
      subst h2
      clear hw
      go_wp2_with fail
      refine Calls.mono (put_nil _ _ _ _) ?_
      rintro e w2 ⟨rfl, hw⟩
      have h2 := hw.symm
      subst h2
      clear hw
      go_wp2_with fail
      refine Calls.mono (clean_nil _ _) ?_
      rintro e w2 ⟨rfl, hw⟩
      have h2 := hw.symm
      subst h2
      clear hw
      go_wp2_with fail
      refine Calls.mono (fdrop_nil _ _) ?_
      rintro e w2 ⟨rfl, hw⟩
      have h2 := hw.symm
      subst h2
      clear hw
      go_wp2_with fail
      refine Calls.mono (fpin_nil _ _ _) ?_
      rintro e w2 ⟨rfl, hw⟩
      have h2 := hw.symm
      subst h2
      clear hw
      go_wp2_with fail
      refine Calls.mono (left_nil _) ?_
      rintro e w2 ⟨rfl, hw⟩
      have h2 := hw.symm
      subst h2
      clear hw
      go_wp2_with fail
      refine Calls.mono (written_nil _ _) ?_
      rintro e w2 ⟨rfl, hw⟩
      have h2 := hw.symm
      subst h2
      clear hw
      go_wp2_with fail
      refine Calls.mono (pinned_nil _ _) ?_
      rintro e w2 ⟨rfl, hw⟩
      have h2 := hw.symm
      subst h2
      clear hw
      go_wp2_with fail
      refine Calls.mono (keys_nil _) ?_
      rintro e w2 ⟨rfl, hw⟩
      have h2 := hw.symm
      subst h2
      clear hw
      go_wp2_with fail
      refine Calls.mono (awake_any _) ?_
      rintro e w4 ⟨rfl, g4⟩
      have HG4 := Hid.mk' (HG3.out.trans g4)
      clear g4
      go_wp2
      go_ret
      exact ⟨rfl, HG4.out.below (Nat.le_refl _) (fun _ _ h => h)⟩

set_option maxRecDepth 100000 in
theorem framesNil_lifted (os : Os) (started : os.Started) (H : Type) (enc : TypeId × Value → H) :
    ReturnsInHanded {} Try.checked os 7 .any (Rows.framesNilSpec.pre6 enc Try.prog Try.f7 Rows.framesNilRow.domain false) (Rows.framesNilSpec.post enc Try.prog Try.f7 false true false false) := by
  refine returnsInHanded_of_change (C := Try.checked) (by kernel_rfl) started (by kernel_rfl) Try.func7
    (ChangeSpec.witness6 (enc := enc) (C := Try.checked) false ⟨#[], #[.int .i64 0, .int .i64 0], []⟩ 8 (by kernel_rfl) (by kernel_rfl) (by kernel_rfl) (by kernel_rfl)) ?_
  intro W base args ds gs before hval0 hW hcnd _
  have hval : ∀ (j : Nat) t v, Try.f7.params[j]? = some t → args[j]? = some v → Value.okWide Try.prog W .any base t v := hval0
  have hW' := hW
  obtain ⟨p, q, hA0, hV, rfl, hfz, hnd⟩ := hW
  have hA : DataW.TrodAll enc Try.prog W 0 (fun _ => true) true Try.f7.params.toList args.toList ds p := hA0
  rw [Try.params7] at hA hval
  obtain ⟨v0, vs0, d0, ds0, p0, q0, hargs, rfl, rfl, h0, r0⟩ := trodAll_cons hA
  obtain ⟨v1, vs1, d1, ds1, p1, q1, rfl, rfl, rfl, h1, r1⟩ := trodAll_cons r0
  obtain ⟨rfl, rfl, rfl⟩ := trodAll_nil r1
  obtain rfl : args = #[v0, v1] := by cases args; simp_all
  obtain ⟨rfl, rfl⟩ := trodVars_none hV
  obtain ⟨a0, rfl, rfl, rfl, w0⟩ := open_int Try.underlying3 (hval 0 3 v0 rfl rfl) h0
  obtain ⟨a1, rfl, rfl, rfl, w1⟩ := open_int Try.underlying3 (hval 1 3 v1 rfl rfl) h1
  clear hA0 hval0
  refine (framesNil_walk a0 a1 W w0 w1).mono fun e W' ⟨he, bel⟩ => ?_
  subst he
  exact ⟨_, rfl, _, _, _, [], _, [], hW', trodAll_mk1 (shut_bool Try.underlying4 _), (trodAll_cons_mk (shut_int Try.underlying3 w0) (trodAll_cons_mk (shut_int Try.underlying3 w1) trodAll_mk0)), rfl, bel.frame _, fun h => by cases h⟩

theorem framesNil_holds : Rows.FramesNilSaid :=
  OpenClaim.holds_of_wide 7 Try.f7 rfl rfl rfl rfl rfl rfl rfl ⟨rfl, rfl, rfl, rfl, rfl⟩ rfl rfl rfl rfl rfl (by kernel_rfl) Try.func7 (by kernel_rfl)
    (of_decide_eq_true (by kernel_rfl)) (by unfold Func.isWrapper; first | (rw [if_pos (by decide +kernel)]; kernel_rfl) | (rw [if_neg (by decide +kernel)]; exact ⟨rfl, rfl⟩))
    (fun os started H enc _ => framesNil_lifted os started H enc)
#print axioms framesNil_holds
end Go.Proofs.Ytakomnmpkonjpaa
