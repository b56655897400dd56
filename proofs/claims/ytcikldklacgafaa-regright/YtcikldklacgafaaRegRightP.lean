/- RegRight: the walk. -/
import Derived.Test.YtcikldklacgafaaRgViews
namespace Go.Proofs.Ytcikldklacgafaa
open Go.ChangeShapes Go.WideShapes Go.ChangeAt Go.RowKit

set_option maxRecDepth 100000 in
set_option maxHeartbeats 8000000 in
theorem regRight_walk (v0 : Value) (A : Stt) (v1 : Value) (B : Stt) (w : World) (h0 : v0 = .agg (scells A).toArray ∧ A.ok) (h1 : v1 = .agg (scells B).toArray ∧ B.ok) :
    Calls Try.prog 3 #[v0, v1] w fun e w' => e = .returned (.bool true) ∧ Below w.heap.size w w' := by
  obtain ⟨rfl, hokA⟩ := h0
  obtain ⟨rfl, hokB⟩ := h1
  obtain ⟨wb, gp, gq, hbx⟩ := box2_st w A B
  have HW := Hid.mk' hbx.ew
  have HGP := Hid.mk' hbx.eg
  have HGQ := Hid.mk' hbx.eq
  have HG := Hid.mk' hbx.grow
  have HBA := Hid.mk' hbx.ba
  have HBB := Hid.mk' hbx.bb
  obtain ⟨N, hN⟩ : ∃ N, N = (scells A).toArray := ⟨_, rfl⟩
  have HN := Hid.mk' hN
  have HLN : Hid ((Try.prog.info? 26).map (·.size) = some (scells A).length) := by rw [scells_len hokA]; exact iSt
  obtain ⟨M, hM⟩ : ∃ M, M = (scells B).toArray := ⟨_, rfl⟩
  have HM := Hid.mk' hM
  have HLM : Hid ((Try.prog.info? 26).map (·.size) = some (scells B).length) := by rw [scells_len hokB]; exact iSt
  have HRA : Hid (∀ w, Calls Try.prog 8 #[.agg N] w fun e w' => e = .returned (.bool A.right) ∧ Grow w w') := fun w => by rw [hN]; exact right_any w
  have HRB : Hid (∀ w, Calls Try.prog 8 #[.agg M] w fun e w' => e = .returned (.bool B.right) ∧ Grow w w') := fun w => by rw [hM]; exact right_any w
  have HQA : Hid (∀ w, Calls Try.prog 9 #[.agg N] w fun e w' => e = .returned (.bool A.right) ∧ Grow w w') := fun w => by rw [hN]; exact rright_any hokA w
  have HQB : Hid (∀ w, Calls Try.prog 9 #[.agg M] w fun e w' => e = .returned (.bool B.right) ∧ Grow w w') := fun w => by rw [hM]; exact rright_any hokB w
  have HFO : Hid (∀ w, Calls Try.prog 10 #[.agg N, .agg M] w fun e w' => e = .returned (.bool (A.follows B)) ∧ Grow w w') := fun w => by rw [hN, hM]; exact follows_any hokA hokB w
  have HFQ : Hid (∀ w, Calls Try.prog 11 #[.agg N, .agg M] w fun e w' => e = .returned (.bool (A.follows B)) ∧ Grow w w') := fun w => by rw [hN, hM]; exact rfollows_any hokA hokB w
  generalize A.right = ra at HRA HQA
  generalize B.right = rb at HRB HQB
  generalize A.follows B = f at HFO HFQ
  rw [← hN, ← hM] at HW ⊢
  clear hbx hN hM hokA hokB
  go_enter Try.func3, Try.ntmps3
  go_upto_region 1 with fail
  rw [← HW.out, ← HGQ.out, ← HGP.out]
  clear HW HGP HGQ
  have e1 : (ra == ra) = true := by simp
  have e2 : (rb == rb) = true := by simp
  have e3 : (f == f) = true := by simp
  refine region_chain [] [0, 1, 2, 3, 4, 5, 6, 7, 8, 9, 10, 11, 12, 13, 14, 15, 16, 17, 18, 19, 20, 21, 22, 23, 24] (Grow wb) (Grow wb) (by kernel_rfl) (by kernel_rfl) (fun _ _ h k => h.trans k) (fun _ h => h) ((But.refl _ wb).drew) ?_
  intro ι hne X hX
  refine still_val rfl (.agg N) rfl (fun x => by rw [HN.out]; exact exec_ld Try.underlying26 rfl HLN.out (HBA.out.but (hX x) (fun h => h)).cells0 rfl rfl) ?_
  intro K hK; go_simp; refine hK _ ?_; clear hK K
  refine still_call rfl (.bool ra) 8 #[.agg N] rfl (fun x => by kernel_rfl) (fun x => HRA.out _) ?_
  intro K hK; go_simp; refine hK _ ?_; clear hK K
  refine still_val rfl (.agg N) rfl (fun x => by rw [HN.out]; exact exec_ld Try.underlying26 rfl HLN.out (HBA.out.but (hX x) (fun h => h)).cells0 rfl rfl) ?_
  intro K hK; go_simp; refine hK _ ?_; clear hK K
  refine still_call rfl (.bool ra) 9 #[.agg N] rfl (fun x => by kernel_rfl) (fun x => HQA.out _) ?_
  intro K hK; go_simp; refine hK _ ?_; clear hK K
  iterate 2 (refine still_step rfl (fun K hK => ?_); go_simp; refine hK _ ?_; clear hK K)
  refine still_val rfl (.agg M) rfl (fun x => by rw [HM.out]; exact exec_ld Try.underlying26 rfl HLM.out (HBB.out.but (hX x) (fun h => h)).cells0 rfl rfl) ?_
  intro K hK; go_simp; refine hK _ ?_; clear hK K
  refine still_call rfl (.bool rb) 8 #[.agg M] rfl (fun x => by kernel_rfl) (fun x => HRB.out _) ?_
  intro K hK; go_simp; refine hK _ ?_; clear hK K
  refine still_val rfl (.agg M) rfl (fun x => by rw [HM.out]; exact exec_ld Try.underlying26 rfl HLM.out (HBB.out.but (hX x) (fun h => h)).cells0 rfl rfl) ?_
  intro K hK; go_simp; refine hK _ ?_; clear hK K
  refine still_call rfl (.bool rb) 9 #[.agg M] rfl (fun x => by kernel_rfl) (fun x => HQB.out _) ?_
  intro K hK; go_simp; refine hK _ ?_; clear hK K
  iterate 3 (refine still_step rfl (fun K hK => ?_); go_simp; refine hK _ ?_; clear hK K)
  refine still_val rfl (.agg N) rfl (fun x => by rw [HN.out]; exact exec_ld Try.underlying26 rfl HLN.out (HBA.out.but (hX x) (fun h => h)).cells0 rfl rfl) ?_
  intro K hK; go_simp; refine hK _ ?_; clear hK K
  refine still_val rfl (.agg M) rfl (fun x => by rw [HM.out]; exact exec_ld Try.underlying26 rfl HLM.out (HBB.out.but (hX x) (fun h => h)).cells0 rfl rfl) ?_
  intro K hK; go_simp; refine hK _ ?_; clear hK K
  refine still_call rfl (.bool f) 10 #[.agg N, .agg M] rfl (fun x => by kernel_rfl) (fun x => HFO.out _) ?_
  intro K hK; go_simp; refine hK _ ?_; clear hK K
  refine still_val rfl (.agg N) rfl (fun x => by rw [HN.out]; exact exec_ld Try.underlying26 rfl HLN.out (HBA.out.but (hX x) (fun h => h)).cells0 rfl rfl) ?_
  intro K hK; go_simp; refine hK _ ?_; clear hK K
  refine still_val rfl (.agg M) rfl (fun x => by rw [HM.out]; exact exec_ld Try.underlying26 rfl HLM.out (HBB.out.but (hX x) (fun h => h)).cells0 rfl rfl) ?_
  intro K hK; go_simp; refine hK _ ?_; clear hK K
  refine still_call rfl (.bool f) 11 #[.agg N, .agg M] rfl (fun x => by kernel_rfl) (fun x => HFQ.out _) ?_
  intro K hK; go_simp; refine hK _ ?_; clear hK K
  iterate 3 (refine still_step rfl (fun K hK => ?_); go_simp; refine hK _ ?_; clear hK K)
  refine still_call rfl (.bool true) 12 #[] rfl (fun x => by kernel_rfl) (fun x => awake_any _) ?_
  intro K hK; go_simp; refine hK _ ?_; clear hK K
  iterate 2 (refine still_step rfl (fun K hK => ?_); go_simp; refine hK _ ?_; clear hK K)
  refine still_nil ?_
  clear hX hne
  intro w2 hw2
  have HE := Hid.mk' ((HG.out.trans hw2).below (Nat.le_refl _) (fun _ _ h => h))
  clear hw2
  go_wp2
  go_ret
  exact ⟨rfl, HE.out⟩

set_option maxRecDepth 100000 in
theorem regRight_lifted (os : Os) (started : os.Started) (H : Type) (enc : TypeId × Value → H) :
    ReturnsInHanded {} Try.checked os 3 .any (Rows.regRightSpec.pre6 enc Try.prog Try.f3 Rows.regRightRow.domain false) (Rows.regRightSpec.post enc Try.prog Try.f3 false true false false) := by
  refine returnsInHanded_of_change_sized (C := Try.checked) (by kernel_rfl) started (by kernel_rfl) Try.func3
    (ChangeSpec.witness6 (enc := enc) (C := Try.checked) false ⟨#[], #[.agg #[.int .i64 0, .int .i64 0, .bool false, .int .u32 0, .int .u64 0, .int .u32 0, .int .i64 0, .bool false, .int .u8 0, .int .u8 0, .int .u8 0, .int .u8 0, .int .u8 0, .int .u8 0, .int .u8 0, .int .u8 0, .int .u8 0, .int .u8 0, .int .u8 0, .int .u8 0, .int .u8 0, .int .u8 0, .int .u8 0, .int .u8 0, .int .u8 0, .int .u8 0, .int .u8 0, .int .u8 0, .int .u8 0, .int .u8 0, .int .u8 0, .int .u8 0, .int .u8 0, .int .u8 0, .int .u8 0, .int .u8 0, .int .u8 0, .int .u8 0, .int .u8 0, .int .u8 0, .int .u8 0, .int .u8 0, .int .u8 0, .int .u8 0, .int .u8 0, .int .u8 0, .int .u8 0, .int .u8 0, .int .u8 0, .int .u8 0, .int .u8 0, .int .u8 0, .int .u8 0, .int .u8 0, .int .u8 0, .int .u8 0, .int .u8 0, .int .u8 0, .int .u8 0, .int .u8 0, .int .u8 0, .int .u8 0, .int .u8 0, .int .u8 0, .int .u8 0, .int .u8 0, .int .u8 0, .int .u8 0, .int .u8 0, .int .u8 0, .int .u8 0, .int .u8 0], .agg #[.int .i64 0, .int .i64 0, .bool false, .int .u32 0, .int .u64 0, .int .u32 0, .int .i64 0, .bool false, .int .u8 0, .int .u8 0, .int .u8 0, .int .u8 0, .int .u8 0, .int .u8 0, .int .u8 0, .int .u8 0, .int .u8 0, .int .u8 0, .int .u8 0, .int .u8 0, .int .u8 0, .int .u8 0, .int .u8 0, .int .u8 0, .int .u8 0, .int .u8 0, .int .u8 0, .int .u8 0, .int .u8 0, .int .u8 0, .int .u8 0, .int .u8 0, .int .u8 0, .int .u8 0, .int .u8 0, .int .u8 0, .int .u8 0, .int .u8 0, .int .u8 0, .int .u8 0, .int .u8 0, .int .u8 0, .int .u8 0, .int .u8 0, .int .u8 0, .int .u8 0, .int .u8 0, .int .u8 0, .int .u8 0, .int .u8 0, .int .u8 0, .int .u8 0, .int .u8 0, .int .u8 0, .int .u8 0, .int .u8 0, .int .u8 0, .int .u8 0, .int .u8 0, .int .u8 0, .int .u8 0, .int .u8 0, .int .u8 0, .int .u8 0, .int .u8 0, .int .u8 0, .int .u8 0, .int .u8 0, .int .u8 0, .int .u8 0, .int .u8 0, .int .u8 0]], []⟩ 8 (by kernel_rfl) (by kernel_rfl) (by kernel_rfl) (by kernel_rfl)) ?_
  intro W base args ds gs before hval0 hW hcnd hsz0 _
  have hsz : (DataW.weightsEach Try.prog (Try.f3.params.toList ++ Rows.regRightSpec.plain.varTypes Try.prog) (ds ++ gs)).all (· ≤ reachBytes) = true := hsz0
  clear hsz0
  have hval : ∀ (j : Nat) t v, Try.f3.params[j]? = some t → args[j]? = some v → Value.okWide Try.prog W .any base t v := hval0
  have hW' := hW
  obtain ⟨p, q, hA0, hV, rfl, hfz, hnd⟩ := hW
  have hA : DataW.TrodAll enc Try.prog W 0 (fun _ => true) true Try.f3.params.toList args.toList ds p := hA0
  rw [Try.params3] at hA hval hsz
  obtain ⟨v0, vs0, d0, ds0, p0, q0, hargs, rfl, rfl, h0, r0⟩ := trodAll_cons hA
  obtain ⟨v1, vs1, d1, ds1, p1, q1, rfl, rfl, rfl, h1, r1⟩ := trodAll_cons r0
  obtain ⟨rfl, rfl, rfl⟩ := trodAll_nil r1
  obtain rfl : args = #[v0, v1] := by cases args; simp_all
  obtain ⟨rfl, rfl⟩ := trodVars_none hV
  have lt0 : ∀ x ∈ p0, x.block < W.heap.size := by obtain ⟨m, hm⟩ := h0; exact DataW.trod_lt m _ _ _ hm
  obtain ⟨z0, w0⟩ := view_state (hval 0 26 v0 rfl rfl) h0 lt0 hsz (j := 0) rfl rfl
  have lt1 : ∀ x ∈ p1, x.block < W.heap.size := by obtain ⟨m, hm⟩ := h1; exact DataW.trod_lt m _ _ _ hm
  obtain ⟨z1, w1⟩ := view_state (hval 1 26 v1 rfl rfl) h1 lt1 hsz (j := 1) rfl rfl
  clear hA0 hval0
  refine (regRight_walk v0 z0 v1 z1 W w0 w1).mono fun e W' ⟨he, bel⟩ => ?_
  subst he
  exact ⟨_, rfl, _, _, _, [], _, [], hW', trodAll_mk1 (shut_bool Try.underlying4 _), (trodAll_cons_mk (Below.trod (by kernel_rfl) (by kernel_rfl) (of_decide_eq_true (by kernel_rfl)) h0 bel lt0) (trodAll_cons_mk (Below.trod (by kernel_rfl) (by kernel_rfl) (of_decide_eq_true (by kernel_rfl)) h1 bel lt1) trodAll_mk0)), rfl, bel.frame _, fun h => by cases h⟩

theorem regRight_holds : Rows.RegRightSaid :=
  OpenClaim.holds_of_wide 3 Try.f3 rfl rfl rfl rfl rfl rfl rfl ⟨rfl, rfl, rfl, rfl, rfl⟩ rfl rfl rfl rfl rfl (by kernel_rfl) Try.func3 (by kernel_rfl)
    (of_decide_eq_true (by kernel_rfl)) (by unfold Func.isWrapper; first | (rw [if_pos (by decide +kernel)]; kernel_rfl) | (rw [if_neg (by decide +kernel)]; exact ⟨rfl, rfl⟩))
    (fun os started H enc _ => regRight_lifted os started H enc)
#print axioms regRight_holds
end Go.Proofs.Ytcikldklacgafaa
