/- For all three numbers: real.Clamp answers the document's number, and it lies between the two others if there is a between. No condition. -/
import Derived.Test.YtlalfpghfpdobaaRealOrd
import Derived.ProofKit
import Derived.OpenShut
import Derived.ChangeOld
import Derived.Below
namespace Go.Proofs.Ytlalfpghfpdobaa
open Go.ChangeShapes Go.WideShapes Go.ChangeAt Go.RowKit

/-- x brought between l and h. -/
def cl (x l h : Nat) : Nat := if ls x l || ls h l then l else if ls h x then h else x

theorem cl_low (x l h : Nat) (e : (ls x l || ls h l) = true) : cl x l h = l := by unfold cl; rw [if_pos e]
theorem cl_high (x l h : Nat) (e : (ls x l || ls h l) = false) (f : ls h x = true) : cl x l h = h := by unfold cl; rw [if_neg (by simp [e]), if_pos f]
theorem cl_mid (x l h : Nat) (e : (ls x l || ls h l) = false) (f : ls h x = false) : cl x l h = x := by unfold cl; rw [if_neg (by simp [e]), if_neg (by simp [f])]

theorem clamp_any (x l h : Nat) (w : World) (hx : x < 18446744073709551616) (hl : l < 18446744073709551616) (hh : h < 18446744073709551616) :
    Calls Try.prog 21 #[.float .f64 x, .float .f64 l, .float .f64 h] w fun e w' => e = .returned (.float .f64 (cl x l h)) ∧ w' = w := by
  cases c1 : ls x l <;> cases c2 : ls h l <;> cases c3 : ls h x
  all_goals
    first | rw [cl_low x l h (by rw [c1, c2]; rfl)] | rw [cl_high x l h (by rw [c1, c2]; rfl) c3] | rw [cl_mid x l h (by rw [c1, c2]; rfl) c3]
    go_enter Try.func21, Try.ntmps21
    go_wp2_with (go_at_call 16; refine (less_any _ _ _ (by assumption) (by assumption)).mono ?_; rintro e w' ⟨rfl, rfl⟩)
    go_ret
    exact ⟨rfl, rfl⟩

theorem refClamp_any (x l h : Nat) (w : World) (hx : x < 18446744073709551616) (hl : l < 18446744073709551616) (hh : h < 18446744073709551616) :
    Calls Try.prog 22 #[.float .f64 x, .float .f64 l, .float .f64 h] w fun e w' => e = .returned (.float .f64 (cl x l h)) ∧ w' = w := by
  cases c1 : ls x l <;> cases c2 : ls h l <;> cases c3 : ls h x
  all_goals
    first | rw [cl_low x l h (by rw [c1, c2]; rfl)] | rw [cl_high x l h (by rw [c1, c2]; rfl) c3] | rw [cl_mid x l h (by rw [c1, c2]; rfl) c3]
    go_enter Try.func22, Try.ntmps22
    go_wp2_with (go_at_call 18; refine (refLess_any _ _ _ (by assumption) (by assumption)).mono ?_; rintro e w' ⟨rfl, rfl⟩)
    go_ret
    exact ⟨rfl, rfl⟩

theorem realClamps_walk (x l h : Nat) (w : World) (wx : (Lit.float .f64 x).wf = true) (wl : (Lit.float .f64 l).wf = true) (wh : (Lit.float .f64 h).wf = true) :
    Calls Try.prog 8 #[.float .f64 x, .float .f64 l, .float .f64 h] w fun e w' => e = .returned (.bool true) ∧ Below w.heap.size w w' := by
  have hx := wf64 wx
  have hl := wf64 wl
  have hh := wf64 wh
  clear wx wl wh
  have i1 := ls_irrefl l
  have i2 := ls_irrefl h
  have s1 := sa_refl l
  have s2 := sa_refl h
  have s3 := sa_refl x
  cases c1 : ls x l <;> cases c2 : ls h l <;> cases c3 : ls h x
  all_goals
    first
      | have hc := cl_low x l h (by rw [c1, c2]; rfl)
      | have hc := cl_high x l h (by rw [c1, c2]; rfl) c3
      | have hc := cl_mid x l h (by rw [c1, c2]; rfl) c3
    go_enter Try.func8, Try.ntmps8
    go_wp2_with (first
      | (go_at_call 21; refine (clamp_any _ _ _ _ (by assumption) (by assumption) (by assumption)).mono ?_; rintro e w' ⟨rfl, rfl⟩)
      | (go_at_call 22; refine (refClamp_any _ _ _ _ (by assumption) (by assumption) (by assumption)).mono ?_; rintro e w' ⟨rfl, rfl⟩)
      | (go_at_call 18; refine (refLess_any _ _ _ (by assumption) (by assumption)).mono ?_; rintro e w' ⟨rfl, rfl⟩)
      | (go_at_call 11; refine (same_any _ _ _ (by assumption) (by assumption)).mono ?_; rintro e w' ⟨rfl, rfl⟩))
    go_ret
    exact ⟨rfl, Below.refl _ _⟩

set_option maxRecDepth 100000 in
theorem realClamps_lifted (os : Os) (started : os.Started) (H : Type) (enc : TypeId × Value → H) :
    ReturnsInHanded {} Try.checked os 8 .any (Rows.realClampsSpec.pre6 enc Try.prog Try.f8 Rows.realClampsRow.domain false) (Rows.realClampsSpec.post enc Try.prog Try.f8 false true false false) := by
  refine returnsInHanded_of_change (C := Try.checked) (by kernel_rfl) started (by kernel_rfl) Try.func8
    (ChangeSpec.witness6 (enc := enc) (C := Try.checked) false ⟨#[], #[.float .f64 0, .float .f64 0, .float .f64 0], []⟩ 8 (by kernel_rfl) (by kernel_rfl) (by kernel_rfl) (by kernel_rfl)) ?_
  intro W base args ds gs before hval0 hW hcnd _
  have hval : ∀ (j : Nat) t v, Try.f8.params[j]? = some t → args[j]? = some v → Value.okWide Try.prog W .any base t v := hval0
  have hW' := hW
  obtain ⟨p, q, hA0, hV, rfl, hfz, hnd⟩ := hW
  have hA : DataW.TrodAll enc Try.prog W 0 (fun _ => true) true Try.f8.params.toList args.toList ds p := hA0
  rw [Try.params8] at hA hval
  obtain ⟨v0, vs0, d0, ds0, p0, q0, hargs, rfl, rfl, h0, r0⟩ := trodAll_cons hA
  obtain ⟨v1, vs1, d1, ds1, p1, q1, rfl, rfl, rfl, h1, r1⟩ := trodAll_cons r0
  obtain ⟨v2, vs2, d2, ds2, p2, q2, rfl, rfl, rfl, h2, r2⟩ := trodAll_cons r1
  obtain ⟨rfl, rfl, rfl⟩ := trodAll_nil r2
  obtain rfl : args = #[v0, v1, v2] := by cases args; simp_all
  obtain ⟨rfl, rfl⟩ := trodVars_none hV
  obtain ⟨a0, rfl, rfl, rfl, w0⟩ := open_float Try.underlying22 (hval 0 22 v0 rfl rfl) h0
  obtain ⟨a1, rfl, rfl, rfl, w1⟩ := open_float Try.underlying22 (hval 1 22 v1 rfl rfl) h1
  obtain ⟨a2, rfl, rfl, rfl, w2⟩ := open_float Try.underlying22 (hval 2 22 v2 rfl rfl) h2
  clear hA0 hval0
  refine (realClamps_walk a0 a1 a2 W w0 w1 w2).mono fun e W' ⟨he, bel⟩ => ?_
  subst he
  exact ⟨_, rfl, _, _, _, [], _, [], hW', trodAll_mk1 (shut_bool Try.underlying4 _), (trodAll_cons_mk (shut_float Try.underlying22 w0) (trodAll_cons_mk (shut_float Try.underlying22 w1) (trodAll_cons_mk (shut_float Try.underlying22 w2) trodAll_mk0))), rfl, bel.frame _, fun h => by cases h⟩

theorem realClamps_holds : Rows.RealClampsSaid :=
  OpenClaim.holds_of_wide 8 Try.f8 rfl rfl rfl rfl rfl rfl rfl ⟨rfl, rfl, rfl, rfl, rfl⟩ rfl rfl rfl rfl rfl (by kernel_rfl) Try.func8 (by kernel_rfl)
    (of_decide_eq_true (by kernel_rfl)) (by unfold Func.isWrapper; first | (rw [if_pos (by decide +kernel)]; kernel_rfl) | (rw [if_neg (by decide +kernel)]; exact ⟨rfl, rfl⟩))
    (fun os started H enc _ => realClamps_lifted os started H enc)
#print axioms realClamps_holds
end Go.Proofs.Ytlalfpghfpdobaa
