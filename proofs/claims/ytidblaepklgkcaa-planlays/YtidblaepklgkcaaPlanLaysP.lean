/- The plan of any pages and any budget is the document's, or refused: for any two numbers. No condition. -/
import Derived.Test.YtidblaepklgkcaaPlRef
import Derived.Test.YtidblaepklgkcaaPlSame
import Derived.ProofKit
import Derived.OpenShut
import Derived.ChangeOld
import Derived.Below
namespace Go.Proofs.Ytidblaepklgkcaa
open Go.ChangeShapes Go.WideShapes Go.ChangeAt Go.RowKit

/-- What Of tells, of any two numbers. -/
def okPE (x y : Int) : Bool := decide (1 ≤ x ∧ x ≤ 4096 ∧ 1 ≤ y ∧ y ≤ 256)
def plPE (x y : Int) : Pn := if okPE x y then plan x.toNat y.toNat else Pn.zero
def erPE (x y : Int) : Int := if okPE x y then 0 else 1
def AllTo (w : World) (x y : Int) (e : Ending) (w' : World) : Prop := ∃ (a : Option Addr) (n c : Nat), e = .returned (.tuple #[pval (plPE x y) (.slice a n c), .int .i64 (erPE x y)]) ∧ Nums w' (.slice a n c) (plPE x y).levels ∧ Grow w w'
theorem allTo_ok {w : World} {x y : Int} (h : okPE x y = true) (f : FuncId) (hc : ∀ n b : Nat, 1 ≤ n → n ≤ 4096 → 1 ≤ b → b ≤ 256 → Calls Try.prog f #[.int .i64 (n : Int), .int .i64 (b : Int)] w (OfTo w n b)) : Calls Try.prog f #[.int .i64 x, .int .i64 y] w (AllTo w x y) := by
  have h0 := of_decide_eq_true h
  have h1 := hc x.toNat y.toNat (by omega) (by omega) (by omega) (by omega)
  rw [show ((x.toNat : Nat) : Int) = x by omega, show ((y.toNat : Nat) : Int) = y by omega] at h1
  refine Calls.mono h1 ?_
  rintro e w' ⟨v, h2, h3, h4⟩
  have hm := Pm.of (by omega) (by omega) h3
  obtain ⟨a, c, hv⟩ := h3.sl
  subst hv
  unfold AllTo plPE erPE
  rw [if_pos h, if_pos h]
  exact ⟨a, _, c, h2, hm.nums, h4⟩
theorem allTo_no {w : World} {x y : Int} (h : okPE x y = false) (f : FuncId) (hc : Calls Try.prog f #[.int .i64 x, .int .i64 y] w fun e w' => e = .returned (.tuple #[pval Pn.zero noS, .int .i64 1]) ∧ Grow w w') : Calls Try.prog f #[.int .i64 x, .int .i64 y] w (AllTo w x y) := by
  refine Calls.mono hc ?_
  rintro e w' ⟨h2, h4⟩
  unfold AllTo plPE erPE
  rw [h, if_neg (by decide), if_neg (by decide)]
  exact ⟨none, 0, 0, h2, ⟨nofun, by decide, .inl ⟨rfl, .inl rfl⟩⟩, h4⟩
theorem planof_all (w : World) (x y : Int) : Calls Try.prog 17 #[.int .i64 x, .int .i64 y] w (AllTo w x y) := by
  cases h : okPE x y with
  | true => exact allTo_ok h _ (fun n b => planof_any w n b)
  | false => exact allTo_no h _ (planof_not w x y (of_decide_eq_false h))
theorem rof_all (w : World) (x y : Int) : Calls Try.prog 18 #[.int .i64 x, .int .i64 y] w (AllTo w x y) := by
  cases h : okPE x y with
  | true => exact allTo_ok h _ (fun n b => rof_any w n b)
  | false => exact allTo_no h _ (rof_not w x y (of_decide_eq_false h))
set_option maxRecDepth 100000 in
set_option maxHeartbeats 1000000 in
theorem planLays_walk (x y : Int) (w : World) (_ : (Lit.int .i64 x).wf = true) (_ : (Lit.int .i64 y).wf = true) : Calls Try.prog 4 #[.int .i64 x, .int .i64 y] w fun e w' => e = .returned (.bool true) ∧ Below w.heap.size w w' := by
  have HO := Hid.mk' (planof_all w x y)
  have HR := Hid.mk' (fun w => rof_all w x y)
  unfold AllTo at HO HR
  generalize plPE x y = P at HO HR
  generalize erPE x y = er at HO HR
  go_enter Try.func4, Try.ntmps4
  go_wp2_with fail
  refine Calls.mono HO.out ?_
  rintro e w1 ⟨va, vn, vc, rfl, hn1, hg1⟩
  have HN1 := Hid.mk' hn1
  have HG1 := Hid.mk' hg1
  clear hn1 hg1 HO
  go_upto_region 2 with (first
    | (refine wpList_runH rfl (exec_allocF rfl (zPl _)) ?_)
    | (refine wpList_store_at rfl _ _ _ rfl w1.heap.size 0 (pcells P (.slice va vn vc)) rfl rfl 42 [] (pcells Pn.zero noS) [] (var_new w1) rfl rfl iPl (pcells_one _ rfl) ?_; intro w2 hb2 hbut2; rw [List.nil_append, List.append_nil] at hb2)
    | fail)
  obtain ⟨g, hgg⟩ : ∃ g, g = w1.heap.size := ⟨_, rfl⟩
  have hg2 := var_grow hbut2
  rw [← hgg] at hb2 ⊢
  have HB2 := Hid.mk' hb2
  have HN2 := Hid.mk' (HN1.out.grow hg2)
  have HG2 := Hid.mk' (HG1.out.trans hg2)
  clear hgg hb2 hbut2 hg2 HN1 HG1
  go_wp2_with fail
  refine Calls.mono (HR.out _) ?_
  rintro e w3 ⟨ua, un, uc, rfl, hn3, hg3⟩
  have HM3 := Hid.mk' hn3
  have HN3 := Hid.mk' (HN2.out.grow hg3)
  have HB3 := Hid.mk' (HB2.out.but hg3 (fun h => h))
  have HG3 := Hid.mk' (HG2.out.trans hg3)
  clear hn3 hg3 HR HN2 HB2 HG2
  go_upto_region 3 with (first
    | (refine wpList_runH rfl (exec_allocF rfl (zPl _)) ?_)
    | (refine wpList_store_at rfl _ _ _ rfl w3.heap.size 0 (pcells P (.slice ua un uc)) rfl rfl 42 [] (pcells Pn.zero noS) [] (var_new w3) rfl rfl iPl (pcells_one _ rfl) ?_; intro w4 hb4 hbut4; rw [List.nil_append, List.append_nil] at hb4)
    | fail)
  obtain ⟨g2, hgg⟩ : ∃ g, g = w3.heap.size := ⟨_, rfl⟩
  have hg4 := var_grow hbut4
  rw [← hgg] at hb4 ⊢
  have HB4 := Hid.mk' (HB3.out.but hg4 (fun h => h))
  have HC4 := Hid.mk' hb4
  have HG4 := Hid.mk' (HG3.out.trans hg4)
  have HSM := Hid.mk' (rsame_any w4 P (.slice va vn vc) (.slice ua un uc) (HN3.out.grow hg4) (HM3.out.grow hg4))
  clear hgg hb4 hbut4 hg4 HN3 HM3 HB3 HG3
  go_wp2_with (first
    | (refine wpList_load_cells rfl _ _ rfl ⟨g, 0, none⟩ rfl (pcells P (.slice va vn vc)) _ HB4.out.pl Try.underlying42 rfl iPl ?_)
    | (refine wpList_load_cells rfl _ _ rfl ⟨g2, 0, none⟩ rfl (pcells P (.slice ua un uc)) _ HC4.out.pl Try.underlying42 rfl iPl ?_)
    | fail)
  refine Calls.mono HSM.out ?_
  rintro e w5 ⟨rfl, hg5⟩
  have HG5 := Hid.mk' (HG4.out.trans hg5)
  have HAW := Hid.mk' (fun w => plawake_any w)
  clear hg5 HSM HB4 HC4 HG4
  go_wp2_with fail
  refine Calls.mono (HAW.out _) ?_
  rintro e w6 ⟨rfl, hg6⟩
  have HG6 := Hid.mk' (HG5.out.trans hg6)
  clear hg6 HAW
  go_wp2
  go_ret
  exact ⟨rfl, HG6.out.below (Nat.le_refl _) (fun _ _ h => h)⟩
set_option maxRecDepth 100000 in
theorem planLays_lifted (os : Os) (started : os.Started) (H : Type) (enc : TypeId × Value → H) :
    ReturnsInHanded {} Try.checked os 4 .any (Rows.planLaysSpec.pre6 enc Try.prog Try.f4 Rows.planLaysRow.domain false) (Rows.planLaysSpec.post enc Try.prog Try.f4 false true false false) := by
  refine returnsInHanded_of_change (C := Try.checked) (by kernel_rfl) started (by kernel_rfl) Try.func4
    (ChangeSpec.witness6 (enc := enc) (C := Try.checked) false ⟨#[], #[.int .i64 0, .int .i64 0], []⟩ 8 (by kernel_rfl) (by kernel_rfl) (by kernel_rfl) (by kernel_rfl)) ?_
  intro W base args ds gs before hval0 hW hcnd _
  have hval : ∀ (j : Nat) t v, Try.f4.params[j]? = some t → args[j]? = some v → Value.okWide Try.prog W .any base t v := hval0
  have hW' := hW
  obtain ⟨p, q, hA0, hV, rfl, hfz, hnd⟩ := hW
  have hA : DataW.TrodAll enc Try.prog W 0 (fun _ => true) true Try.f4.params.toList args.toList ds p := hA0
  rw [Try.params4] at hA hval
  obtain ⟨v0, vs0, d0, ds0, p0, q0, hargs, rfl, rfl, h0, r0⟩ := trodAll_cons hA
  obtain ⟨v1, vs1, d1, ds1, p1, q1, rfl, rfl, rfl, h1, r1⟩ := trodAll_cons r0
  obtain ⟨rfl, rfl, rfl⟩ := trodAll_nil r1
  obtain rfl : args = #[v0, v1] := by cases args; simp_all
  obtain ⟨rfl, rfl⟩ := trodVars_none hV
  obtain ⟨a0, rfl, rfl, rfl, w0⟩ := open_int Try.underlying3 (hval 0 3 v0 rfl rfl) h0
  obtain ⟨a1, rfl, rfl, rfl, w1⟩ := open_int Try.underlying3 (hval 1 3 v1 rfl rfl) h1
  clear hA0 hval0
  refine (planLays_walk a0 a1 W w0 w1).mono fun e W' ⟨he, bel⟩ => ?_
  subst he
  exact ⟨_, rfl, _, _, _, [], _, [], hW', trodAll_mk1 (shut_bool Try.underlying4 _), (trodAll_cons_mk (shut_int Try.underlying3 w0) (trodAll_cons_mk (shut_int Try.underlying3 w1) trodAll_mk0)), rfl, bel.frame _, fun h => by cases h⟩

theorem planLays_holds : Rows.PlanLaysSaid :=
  OpenClaim.holds_of_wide 4 Try.f4 rfl rfl rfl rfl rfl rfl rfl ⟨rfl, rfl, rfl, rfl, rfl⟩ rfl rfl rfl rfl rfl (by kernel_rfl) Try.func4 (by kernel_rfl)
    (of_decide_eq_true (by kernel_rfl)) (by unfold Func.isWrapper; first | (rw [if_pos (by decide +kernel)]; kernel_rfl) | (rw [if_neg (by decide +kernel)]; exact ⟨rfl, rfl⟩))
    (fun os started H enc _ => planLays_lifted os started H enc)
#print axioms planLays_holds
end Go.Proofs.Ytidblaepklgkcaa
