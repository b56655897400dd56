/- SpillNil: slots that are none hold nothing, whatever the page and the entry. No condition. -/
import Derived.Test.YtehajgfjdmhdpaaSpLaw
namespace Go.Proofs.Ytehajgfjdmhdpaa
open Go.ChangeShapes Go.WideShapes Go.ChangeAt Go.RowKit Go.Deep

set_option maxRecDepth 100000 in
set_option maxHeartbeats 2000000 in
theorem spillNil_walk (p : Int) (v : Value) (x : En) (w : World) (_ : (Lit.int .i64 p).wf = true) (hx : v = evalE x ∧ x.ok) : Calls Try.prog 6 #[.int .i64 p, v] w fun e w' => e = .returned (.bool true) ∧ Below w.heap.size w w' := by
  obtain ⟨rfl, -⟩ := hx
  obtain ⟨w0, hw0⟩ : ∃ w0, w0 = w.alloc (.cells (ecells x).toArray 33) := ⟨_, rfl⟩
  obtain ⟨gx, hgx⟩ : ∃ gx, gx = w.heap.size := ⟨_, rfl⟩
  have K0 : Hid (Grow w w0) := by rw [hw0]; exact (But.refl _ w).alloc _
  have B0 : Hid (Blk w0 gx 33 (ecells x)) := by rw [hw0]; exact Blk.new hgx.symm
  have HW0 := Hid.mk' hw0
  have HGX := Hid.mk' hgx
  clear hw0 hgx
  show Calls _ _ #[_, .agg (ecells x).toArray] _ _
  go_enter Try.func6, Try.ntmps6
  go_upto_region 1 with fail
  rw [← HW0.out, ← HGX.out]
  have H1 := Hid.mk' (spfree_nil w0 p)
  have H2 := Hid.mk' (spclear_nil w0)
  have H3 := Hid.mk' (spgive_nil w0 p x)
  go_wp2_with fail
  refine Calls.mono H1.out ?_
  rintro e w' ⟨rfl, rfl⟩
  go_wp2_with fail
  refine Calls.mono H2.out ?_
  rintro e w' ⟨rfl, rfl⟩
  go_wp2_with (refine wpList_runH rfl (exec_ldE (cs := x) B0.out.cells0 rfl rfl) ?_)
  refine Calls.mono H3.out ?_
  rintro e w1 ⟨rfl, k1⟩
  have HK1 : Hid (Grow w w1) := K0.out.trans k1
  have H4 := Hid.mk' (spof_nil w1 p)
  clear k1 H1 H2 H3
  go_wp2_with fail
  refine Calls.mono H4.out ?_
  rintro e w2 ⟨rfl, k2⟩
  obtain ⟨w3, hs, hb, k3⟩ := newEn w2 ⟨0, 0, 0⟩
  have HS := Hid.mk' hs
  have c0 : w3.cell? ⟨w2.heap.size, 0, none⟩ = some (.int .u32 0) := by rw [hb.cell]; rfl
  have c1 : w3.cell? ⟨w2.heap.size, 1, none⟩ = some (.int .u32 0) := by rw [hb.cell]; rfl
  have c2 : w3.cell? ⟨w2.heap.size, 2, none⟩ = some (.int .u64 0) := by rw [hb.cell]; rfl
  have HK3 : Hid (Grow w w3) := (HK1.out.trans k2).trans k3
  have H5 := Hid.mk' (sppages_nil w3)
  have H6 := Hid.mk' (awake_any w3)
  have heq : (Op.equalIn 10000 33 (.agg #[.int .u32 0, .int .u32 0, .int .u64 0]) (.agg #[.int .u32 0, .int .u32 0, .int .u64 0])).run Try.prog w3 = .ok true w3 := equalEn ⟨0, 0, 0⟩ w3
  clear k2 hs hb k3 H4
  go_wp2_with (first
    | (refine wpList_runH rfl (exec_allocF rfl (zeroE w2)) ?_)
    | (refine wpList_skipH rfl (exec_stF (v := evalE ⟨0, 0, 0⟩) rfl rfl rfl HS.out) ?_)
    | fail)
  refine Calls.mono H5.out ?_
  rintro e w' ⟨rfl, rfl⟩
  go_wp2_with fail
  refine Calls.mono H6.out ?_
  rintro e w4 ⟨rfl, k4⟩
  have HK4 : Hid (Grow w w4) := HK3.out.trans k4
  clear k4
  go_wp2
  go_ret
  exact ⟨rfl, HK4.out.below (Nat.le_refl _) (fun _ _ h => h)⟩
set_option maxRecDepth 100000 in
theorem spillNil_lifted (os : Os) (started : os.Started) (H : Type) (enc : TypeId × Value → H) :
    ReturnsInHanded {} Try.checked os 6 .any (Rows.spillNilSpec.pre6 enc Try.prog Try.f6 Rows.spillNilRow.domain false) (Rows.spillNilSpec.post enc Try.prog Try.f6 false true false false) := by
  refine returnsInHanded_of_change_sized (C := Try.checked) (by kernel_rfl) started (by kernel_rfl) Try.func6
    (ChangeSpec.witness6 (enc := enc) (C := Try.checked) false ⟨#[], #[.int .i64 0, .agg #[.int .u32 0, .int .u32 0, .int .u64 0]], []⟩ 8 (by kernel_rfl) (by kernel_rfl) (by kernel_rfl) (by kernel_rfl)) ?_
  intro W base args ds gs before hval0 hW hcnd hsz0 _
  have hsz : (DataW.weightsEach Try.prog (Try.f6.params.toList ++ Rows.spillNilSpec.plain.varTypes Try.prog) (ds ++ gs)).all (· ≤ reachBytes) = true := hsz0
  clear hsz0
  have hval : ∀ (j : Nat) t v, Try.f6.params[j]? = some t → args[j]? = some v → Value.okWide Try.prog W .any base t v := hval0
  have hW' := hW
  obtain ⟨p, q, hA0, hV, rfl, hfz, hnd⟩ := hW
  have hA : DataW.TrodAll enc Try.prog W 0 (fun _ => true) true Try.f6.params.toList args.toList ds p := hA0
  rw [Try.params6] at hA hval hsz
  obtain ⟨v0, vs0, d0, ds0, p0, q0, hargs, rfl, rfl, h0, r0⟩ := trodAll_cons hA
  obtain ⟨v1, vs1, d1, ds1, p1, q1, rfl, rfl, rfl, h1, r1⟩ := trodAll_cons r0
  obtain ⟨rfl, rfl, rfl⟩ := trodAll_nil r1
  obtain rfl : args = #[v0, v1] := by cases args; simp_all
  obtain ⟨rfl, rfl⟩ := trodVars_none hV
  obtain ⟨a0, rfl, rfl, rfl, w0⟩ := open_int Try.underlying3 (hval 0 3 v0 rfl rfl) h0
  have lt1 : ∀ x ∈ p1, x.block < W.heap.size := by obtain ⟨m, hm⟩ := h1; exact DataW.trod_lt m _ _ _ hm
  obtain ⟨z1, w1⟩ := view_entry (hval 1 33 v1 rfl rfl) h1 lt1 hsz (j := 1) rfl rfl
  clear hA0 hval0
  refine (spillNil_walk a0 v1 z1 W w0 w1).mono fun e W' ⟨he, bel⟩ => ?_
  subst he
  exact ⟨_, rfl, _, _, _, [], _, [], hW', trodAll_mk1 (shut_bool Try.underlying4 _), (trodAll_cons_mk (shut_int Try.underlying3 w0) (trodAll_cons_mk (Below.trod (by kernel_rfl) (by kernel_rfl) (of_decide_eq_true (by kernel_rfl)) h1 bel lt1) trodAll_mk0)), rfl, bel.frame _, fun h => by cases h⟩

theorem spillNil_holds : Rows.SpillNilSaid :=
  OpenClaim.holds_of_wide 6 Try.f6 rfl rfl rfl rfl rfl rfl rfl ⟨rfl, rfl, rfl, rfl, rfl⟩ rfl rfl rfl rfl rfl (by kernel_rfl) Try.func6 (by kernel_rfl)
    (of_decide_eq_true (by kernel_rfl)) (by unfold Func.isWrapper; first | (rw [if_pos (by decide +kernel)]; kernel_rfl) | (rw [if_neg (by decide +kernel)]; exact ⟨rfl, rfl⟩))
    (fun os started H enc _ => spillNil_lifted os started H enc)
#print axioms spillNil_holds
end Go.Proofs.Ytehajgfjdmhdpaa
