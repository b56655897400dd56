/- RegNil: the walk. -/
import Derived.Test.YtcikldklacgafaaRgViews
namespace Go.Proofs.Ytcikldklacgafaa
open Go.ChangeShapes Go.WideShapes Go.ChangeAt Go.RowKit

set_option maxRecDepth 100000 in
set_option maxHeartbeats 8000000 in
theorem regNil_walk (v0 : Value) (A : Stt) (w : World) (h0 : v0 = .agg (scells A).toArray ∧ A.ok) :
    Calls Try.prog 7 #[v0] w fun e w' => e = .returned (.bool true) ∧ Below w.heap.size w w' := by
  obtain ⟨rfl, hokA⟩ := h0
  obtain ⟨wb, gp, hbx⟩ := box_st w A
  have HW := Hid.mk' hbx.ew
  have HGP := Hid.mk' hbx.eg
  have HG := Hid.mk' hbx.grow
  have HBA := Hid.mk' hbx.blk
  obtain ⟨N, hN⟩ : ∃ N, N = (scells A).toArray := ⟨_, rfl⟩
  have HN := Hid.mk' hN
  have HLN : Hid ((Try.prog.info? 26).map (·.size) = some (scells A).length) := by rw [scells_len hokA]; exact iSt
  obtain ⟨Z, hZ⟩ : ∃ Z, Z = (scells Stt.zero).toArray := ⟨_, rfl⟩
  have HWN : Hid (∀ w, Calls Try.prog 17 #[.pointer none, .agg N] w fun e w' => e = .returned (.int .i64 5) ∧ Grow w w') := fun w => by rw [hN]; exact regwrite_nil A w
  have HRN : Hid (∀ w, Calls Try.prog 16 #[.pointer none] w fun e w' => e = .returned (.agg Z) ∧ Grow w w') := fun w => by rw [hZ]; exact regread_nil w
  have HBL : Hid (∀ w, Calls Try.prog 15 #[.agg Z] w fun e w' => e = .returned (.bool true) ∧ Grow w w') := fun w => by have := rblank_any Stt.zero_ok w; rw [show Stt.zero.blank = true from blank_iff.2 rfl] at this; rw [hZ]; exact this
  rw [← hN] at HW ⊢
  clear hbx hN hZ hokA
  go_enter Try.func7, Try.ntmps7
  go_upto_region 1 with fail
  rw [← HW.out, ← HGP.out]
  clear HW HGP
  go_wp2_with fail
  refine Calls.mono (regnew_nil wb) ?_
  rintro e w1 ⟨rfl, hw1⟩
  have h2 := hw1.symm
  subst h2
  clear hw1
  go_wp2_with (first
    | (refine wpList_want_run rfl (exec_ld (ad := ⟨gp, 0, none⟩) Try.underlying26 rfl (cs := scells A) HLN.out HBA.out.cells0 rfl rfl) ?_; rw [← HN.out])
    | fail)
  refine Calls.mono (HWN.out wb) ?_
  rintro e w2 ⟨rfl, hg2⟩
  have HG2 := Hid.mk' (HG.out.trans hg2)
  clear hg2
  go_wp2_with fail
  refine Calls.mono (HRN.out w2) ?_
  rintro e w3 ⟨rfl, hg3⟩
  have HG3 := Hid.mk' (HG2.out.trans hg3)
  clear hg3
  go_wp2_with fail
  refine Calls.mono (HBL.out w3) ?_
  rintro e w4 ⟨rfl, hg4⟩
  have HG4 := Hid.mk' (HG3.out.trans hg4)
  clear hg4
  go_wp2_with fail
  refine Calls.mono (awake_any w4) ?_
  rintro e w5 ⟨rfl, hg5⟩
  have HE := Hid.mk' ((HG4.out.trans hg5).below (Nat.le_refl _) (fun _ _ h => h))
  clear hg5
  go_wp2
  go_ret
  exact ⟨rfl, HE.out⟩

set_option maxRecDepth 100000 in
theorem regNil_lifted (os : Os) (started : os.Started) (H : Type) (enc : TypeId × Value → H) :
    ReturnsInHanded {} Try.checked os 7 .any (Rows.regNilSpec.pre6 enc Try.prog Try.f7 Rows.regNilRow.domain false) (Rows.regNilSpec.post enc Try.prog Try.f7 false true false false) := by
  refine returnsInHanded_of_change_sized (C := Try.checked) (by kernel_rfl) started (by kernel_rfl) Try.func7
    (ChangeSpec.witness6 (enc := enc) (C := Try.checked) false ⟨#[], #[.agg #[.int .i64 0, .int .i64 0, .bool false, .int .u32 0, .int .u64 0, .int .u32 0, .int .i64 0, .bool false, .int .u8 0, .int .u8 0, .int .u8 0, .int .u8 0, .int .u8 0, .int .u8 0, .int .u8 0, .int .u8 0, .int .u8 0, .int .u8 0, .int .u8 0, .int .u8 0, .int .u8 0, .int .u8 0, .int .u8 0, .int .u8 0, .int .u8 0, .int .u8 0, .int .u8 0, .int .u8 0, .int .u8 0, .int .u8 0, .int .u8 0, .int .u8 0, .int .u8 0, .int .u8 0, .int .u8 0, .int .u8 0, .int .u8 0, .int .u8 0, .int .u8 0, .int .u8 0, .int .u8 0, .int .u8 0, .int .u8 0, .int .u8 0, .int .u8 0, .int .u8 0, .int .u8 0, .int .u8 0, .int .u8 0, .int .u8 0, .int .u8 0, .int .u8 0, .int .u8 0, .int .u8 0, .int .u8 0, .int .u8 0, .int .u8 0, .int .u8 0, .int .u8 0, .int .u8 0, .int .u8 0, .int .u8 0, .int .u8 0, .int .u8 0, .int .u8 0, .int .u8 0, .int .u8 0, .int .u8 0, .int .u8 0, .int .u8 0, .int .u8 0, .int .u8 0]], []⟩ 8 (by kernel_rfl) (by kernel_rfl) (by kernel_rfl) (by kernel_rfl)) ?_
  intro W base args ds gs before hval0 hW hcnd hsz0 _
  have hsz : (DataW.weightsEach Try.prog (Try.f7.params.toList ++ Rows.regNilSpec.plain.varTypes Try.prog) (ds ++ gs)).all (· ≤ reachBytes) = true := hsz0
  clear hsz0
  have hval : ∀ (j : Nat) t v, Try.f7.params[j]? = some t → args[j]? = some v → Value.okWide Try.prog W .any base t v := hval0
  have hW' := hW
  obtain ⟨p, q, hA0, hV, rfl, hfz, hnd⟩ := hW
  have hA : DataW.TrodAll enc Try.prog W 0 (fun _ => true) true Try.f7.params.toList args.toList ds p := hA0
  rw [Try.params7] at hA hval hsz
  obtain ⟨v0, vs0, d0, ds0, p0, q0, hargs, rfl, rfl, h0, r0⟩ := trodAll_cons hA
  obtain ⟨rfl, rfl, rfl⟩ := trodAll_nil r0
  obtain rfl : args = #[v0] := by cases args; simp_all
  obtain ⟨rfl, rfl⟩ := trodVars_none hV
  have lt0 : ∀ x ∈ p0, x.block < W.heap.size := by obtain ⟨m, hm⟩ := h0; exact DataW.trod_lt m _ _ _ hm
  obtain ⟨z0, w0⟩ := view_state (hval 0 26 v0 rfl rfl) h0 lt0 hsz (j := 0) rfl rfl
  clear hA0 hval0
  refine (regNil_walk v0 z0 W w0).mono fun e W' ⟨he, bel⟩ => ?_
  subst he
  exact ⟨_, rfl, _, _, _, [], _, [], hW', trodAll_mk1 (shut_bool Try.underlying4 _), (trodAll_cons_mk (Below.trod (by kernel_rfl) (by kernel_rfl) (of_decide_eq_true (by kernel_rfl)) h0 bel lt0) trodAll_mk0), rfl, bel.frame _, fun h => by cases h⟩

theorem regNil_holds : Rows.RegNilSaid :=
  OpenClaim.holds_of_wide 7 Try.f7 rfl rfl rfl rfl rfl rfl rfl ⟨rfl, rfl, rfl, rfl, rfl⟩ rfl rfl rfl rfl rfl (by kernel_rfl) Try.func7 (by kernel_rfl)
    (of_decide_eq_true (by kernel_rfl)) (by unfold Func.isWrapper; first | (rw [if_pos (by decide +kernel)]; kernel_rfl) | (rw [if_neg (by decide +kernel)]; exact ⟨rfl, rfl⟩))
    (fun os started H enc _ => regNil_lifted os started H enc)
#print axioms regNil_holds
end Go.Proofs.Ytcikldklacgafaa
