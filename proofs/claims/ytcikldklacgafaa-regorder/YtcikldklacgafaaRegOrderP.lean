/- RegOrder: the walk. -/
import Derived.Test.YtcikldklacgafaaRgViews
namespace Go.Proofs.Ytcikldklacgafaa
open Go.ChangeShapes Go.WideShapes Go.ChangeAt Go.RowKit

theorem fol_iff {A B : Stt} : A.follows B = true ↔ B.right = true ∧ (A = Stt.zero ∨ ((A.pages = B.pages ∧ A.budget = B.budget ∧ A.wide = B.wide) ∧ A.boot ≤ B.boot ∧ A.version ≤ B.version ∧ A.epoch ≤ B.epoch)) := by
  have hb : A.blank = true ↔ A = Stt.zero := blank_iff
  unfold Stt.follows Stt.lay Stt.sinks
  simp only [Bool.and_eq_true, Bool.or_eq_true, Bool.not_eq_true', Bool.or_eq_false_iff, decide_eq_false_iff_not, beq_iff_eq, and_true, hb, Int.not_lt]
theorem right_ne {A : Stt} (h : A.right = true) : A ≠ Stt.zero := fun e => by
  rw [e] at h
  exact absurd h (by decide +kernel)
theorem fol_trans {A B C : Stt} (h1 : A.follows B = true) (h2 : B.follows C = true) : A.follows C = true := by
  rw [fol_iff] at h1 h2 ⊢
  refine ⟨h2.1, ?_⟩
  rcases h1.2 with h3 | ⟨⟨a1, a2, a3⟩, a4, a5, a6⟩
  · exact .inl h3
  · rcases h2.2 with h4 | ⟨⟨b1, b2, b3⟩, b4, b5, b6⟩
    · exact absurd h4 (right_ne h1.1)
    · exact .inr ⟨⟨a1.trans b1, a2.trans b2, a3.trans b3⟩, by omega, by omega, by omega⟩
theorem fol_self (A : Stt) : A.follows A = A.right := by
  cases hr : A.right
  · cases hf : A.follows A
    · rfl
    · rw [fol_iff] at hf; rw [hf.1] at hr; exact hr
  · exact fol_iff.2 ⟨hr, .inr ⟨⟨rfl, rfl, rfl⟩, Int.le_refl _, Int.le_refl _, Int.le_refl _⟩⟩
theorem fol_zero (A : Stt) : Stt.zero.follows A = A.right := by
  cases hr : A.right
  · cases hf : Stt.zero.follows A
    · rfl
    · rw [fol_iff] at hf; rw [hf.1] at hr; exact hr
  · exact fol_iff.2 ⟨hr, .inl rfl⟩
set_option maxRecDepth 100000 in
set_option maxHeartbeats 8000000 in
theorem regOrder_walk (v0 : Value) (A : Stt) (v1 : Value) (B : Stt) (v2 : Value) (C : Stt) (w : World) (h0 : v0 = .agg (scells A).toArray ∧ A.ok) (h1 : v1 = .agg (scells B).toArray ∧ B.ok) (h2 : v2 = .agg (scells C).toArray ∧ C.ok) :
    Calls Try.prog 4 #[v0, v1, v2] w fun e w' => e = .returned (.bool true) ∧ Below w.heap.size w w' := by
  obtain ⟨rfl, hokA⟩ := h0
  obtain ⟨rfl, hokB⟩ := h1
  obtain ⟨rfl, hokC⟩ := h2
  obtain ⟨wa, gp, gq, hbx⟩ := box2_st w A B
  obtain ⟨wb, gs, hbs⟩ := box_st wa C
  have HW := Hid.mk' hbx.ew
  have HWS := Hid.mk' hbs.ew
  have HGP := Hid.mk' hbx.eg
  have HGQ := Hid.mk' hbx.eq
  have HGS : Hid (gs = w.heap.size + 2) := by show _ = _; rw [hbs.eg, hbx.ew]; simp
  have HG : Hid (Grow w wb) := hbx.grow.trans hbs.grow
  have HBA := Hid.mk' (hbx.ba.but hbs.grow (fun h => h))
  have HBB := Hid.mk' (hbx.bb.but hbs.grow (fun h => h))
  have HBC := Hid.mk' hbs.blk
  obtain ⟨N, hN⟩ : ∃ N, N = (scells A).toArray := ⟨_, rfl⟩
  have HN := Hid.mk' hN
  have HLN : Hid ((Try.prog.info? 26).map (·.size) = some (scells A).length) := by rw [scells_len hokA]; exact iSt
  obtain ⟨M, hM⟩ : ∃ M, M = (scells B).toArray := ⟨_, rfl⟩
  have HM := Hid.mk' hM
  have HLM : Hid ((Try.prog.info? 26).map (·.size) = some (scells B).length) := by rw [scells_len hokB]; exact iSt
  obtain ⟨L, hL⟩ : ∃ L, L = (scells C).toArray := ⟨_, rfl⟩
  have HL := Hid.mk' hL
  have HLL : Hid ((Try.prog.info? 26).map (·.size) = some (scells C).length) := by rw [scells_len hokC]; exact iSt
  have HAB : Hid (∀ w, Calls Try.prog 10 #[.agg N, .agg M] w fun e w' => e = .returned (.bool (A.follows B)) ∧ Grow w w') := fun w => by rw [hN, hM]; exact follows_any hokA hokB w
  have HBCC : Hid (∀ w, Calls Try.prog 10 #[.agg M, .agg L] w fun e w' => e = .returned (.bool (B.follows C)) ∧ Grow w w') := fun w => by rw [hM, hL]; exact follows_any hokB hokC w
  have HAC : Hid (∀ w, Calls Try.prog 10 #[.agg N, .agg L] w fun e w' => e = .returned (.bool (A.follows C)) ∧ Grow w w') := fun w => by rw [hN, hL]; exact follows_any hokA hokC w
  obtain ⟨Z, hZ⟩ : ∃ Z, Z = (scells Stt.zero).toArray := ⟨_, rfl⟩
  have HBZ : Hid (∀ w, (Instr.build 26 #[]).run Try.prog w = .ok (.agg Z) w) := fun w => by rw [hZ]; exact builtZ w
  have HAA : Hid (∀ w, Calls Try.prog 10 #[.agg N, .agg N] w fun e w' => e = .returned (.bool A.right) ∧ Grow w w') := fun w => by have := follows_any hokA hokA w; rw [fol_self] at this; rw [hN]; exact this
  have HZA : Hid (∀ w, Calls Try.prog 10 #[.agg Z, .agg N] w fun e w' => e = .returned (.bool A.right) ∧ Grow w w') := fun w => by have := follows_any Stt.zero_ok hokA w; rw [fol_zero] at this; rw [hN, hZ]; exact this
  have HRA : Hid (∀ w, Calls Try.prog 8 #[.agg N] w fun e w' => e = .returned (.bool A.right) ∧ Grow w w') := fun w => by rw [hN]; exact right_any w
  have HTR : Hid (A.follows B = true → B.follows C = true → A.follows C = true) := fol_trans
  generalize A.right = ra at HAA HZA HRA
  generalize A.follows B = f1 at HAB HTR
  generalize B.follows C = f2 at HBCC HTR
  generalize A.follows C = f3 at HAC HTR
  rw [← hN, ← hM] at HW
  rw [← hL] at HWS
  rw [← hN, ← hM, ← hL]
  clear hbx hbs hN hM hL hZ hokA hokB hokC
  go_enter Try.func4, Try.ntmps4
  go_upto_region 1 with fail
  rw [← HW.out, ← HWS.out, ← HGS.out, ← HGQ.out, ← HGP.out]
  clear HW HWS HGP HGQ HGS
  have HG0 := HG
  have HA0 := HBA
  have HB0 := HBB
  have HC0 := HBC
  clear HG HBA HBB HBC
  go_upto_region 3 with (first
    | (refine wpList_want_run rfl (exec_ld (ad := ⟨gp, 0, none⟩) Try.underlying26 rfl (cs := scells A) HLN.out HA0.out.cells0 rfl rfl) ?_; rw [← HN.out])
    | (refine wpList_want_run rfl (exec_ld (ad := ⟨gq, 0, none⟩) Try.underlying26 rfl (cs := scells B) HLM.out HB0.out.cells0 rfl rfl) ?_; rw [← HM.out])
    | fail)
  refine Calls.mono (HAB.out wb) ?_
  rintro e w1 ⟨rfl, hg⟩
  have HG1 := Hid.mk' (HG0.out.trans hg)
  have HA1 := Hid.mk' (HA0.out.but hg (fun h => h))
  have HB1 := Hid.mk' (HB0.out.but hg (fun h => h))
  have HC1 := Hid.mk' (HC0.out.but hg (fun h => h))
  clear hg
  cases f1
  case false =>
    go_upto_region 3 with fail
    have e1 : (ra == ra) = true := by simp
    refine region_chain [] [0, 1, 2, 3, 4, 5, 6, 7, 8, 9, 10, 11, 12, 13, 14, 15, 16, 17] (Grow w1) (Grow w1) (by kernel_rfl) (by kernel_rfl) (fun _ _ h k => h.trans k) (fun _ h => h) ((But.refl _ w1).drew) ?_
    intro ι hne X hX
    refine still_val rfl (.agg N) rfl (fun x => by rw [HN.out]; exact exec_ld Try.underlying26 rfl HLN.out (HA1.out.but (hX x) (fun h => h)).cells0 rfl rfl) ?_
    intro K hK; go_simp; refine hK _ ?_; clear hK K
    refine still_val rfl (.agg N) rfl (fun x => by rw [HN.out]; exact exec_ld Try.underlying26 rfl HLN.out (HA1.out.but (hX x) (fun h => h)).cells0 rfl rfl) ?_
    intro K hK; go_simp; refine hK _ ?_; clear hK K
    refine still_call rfl (.bool ra) 10 #[.agg N, .agg N] rfl (fun x => by kernel_rfl) (fun x => HAA.out _) ?_
    intro K hK; go_simp; refine hK _ ?_; clear hK K
    refine still_val rfl (.agg N) rfl (fun x => by rw [HN.out]; exact exec_ld Try.underlying26 rfl HLN.out (HA1.out.but (hX x) (fun h => h)).cells0 rfl rfl) ?_
    intro K hK; go_simp; refine hK _ ?_; clear hK K
    refine still_call rfl (.bool ra) 8 #[.agg N] rfl (fun x => by kernel_rfl) (fun x => HRA.out _) ?_
    intro K hK; go_simp; refine hK _ ?_; clear hK K
    iterate 2 (refine still_step rfl (fun K hK => ?_); go_simp; refine hK _ ?_; clear hK K)
    refine still_val rfl (.agg Z) rfl (fun x => exec_build _ [] rfl [] rfl _ (HBZ.out _)) ?_
    intro K hK; go_simp; refine hK _ ?_; clear hK K
    refine still_val rfl (.agg N) rfl (fun x => by rw [HN.out]; exact exec_ld Try.underlying26 rfl HLN.out (HA1.out.but (hX x) (fun h => h)).cells0 rfl rfl) ?_
    intro K hK; go_simp; refine hK _ ?_; clear hK K
    refine still_call rfl (.bool ra) 10 #[.agg Z, .agg N] rfl (fun x => by kernel_rfl) (fun x => HZA.out _) ?_
    intro K hK; go_simp; refine hK _ ?_; clear hK K
    refine still_val rfl (.agg N) rfl (fun x => by rw [HN.out]; exact exec_ld Try.underlying26 rfl HLN.out (HA1.out.but (hX x) (fun h => h)).cells0 rfl rfl) ?_
    intro K hK; go_simp; refine hK _ ?_; clear hK K
    refine still_call rfl (.bool ra) 8 #[.agg N] rfl (fun x => by kernel_rfl) (fun x => HRA.out _) ?_
    intro K hK; go_simp; refine hK _ ?_; clear hK K
    iterate 3 (refine still_step rfl (fun K hK => ?_); go_simp; refine hK _ ?_; clear hK K)
    refine still_call rfl (.bool true) 12 #[] rfl (fun x => by kernel_rfl) (fun x => awake_any _) ?_
    intro K hK; go_simp; refine hK _ ?_; clear hK K
    iterate 2 (refine still_step rfl (fun K hK => ?_); go_simp; refine hK _ ?_; clear hK K)
    refine still_nil ?_
    clear hX hne
    intro w9 hw9
    have HE := Hid.mk' ((HG1.out.trans hw9).below (Nat.le_refl _) (fun _ _ h => h))
    clear hw9
    go_wp2
    go_ret
    exact ⟨rfl, HE.out⟩
  go_upto_region 3 with (first
    | (refine wpList_want_run rfl (exec_ld (ad := ⟨gq, 0, none⟩) Try.underlying26 rfl (cs := scells B) HLM.out HB1.out.cells0 rfl rfl) ?_; rw [← HM.out])
    | (refine wpList_want_run rfl (exec_ld (ad := ⟨gs, 0, none⟩) Try.underlying26 rfl (cs := scells C) HLL.out HC1.out.cells0 rfl rfl) ?_; rw [← HL.out])
    | fail)
  refine Calls.mono (HBCC.out w1) ?_
  rintro e w2 ⟨rfl, hg⟩
  have HG2 := Hid.mk' (HG1.out.trans hg)
  have HA2 := Hid.mk' (HA1.out.but hg (fun h => h))
  have HB2 := Hid.mk' (HB1.out.but hg (fun h => h))
  have HC2 := Hid.mk' (HC1.out.but hg (fun h => h))
  clear hg
  cases f2
  case false =>
    go_upto_region 3 with fail
    have e1 : (ra == ra) = true := by simp
    refine region_chain [] [0, 1, 2, 3, 4, 5, 6, 7, 8, 9, 10, 11, 12, 13, 14, 15, 16, 17] (Grow w2) (Grow w2) (by kernel_rfl) (by kernel_rfl) (fun _ _ h k => h.trans k) (fun _ h => h) ((But.refl _ w2).drew) ?_
    intro ι hne X hX
    refine still_val rfl (.agg N) rfl (fun x => by rw [HN.out]; exact exec_ld Try.underlying26 rfl HLN.out (HA2.out.but (hX x) (fun h => h)).cells0 rfl rfl) ?_
    intro K hK; go_simp; refine hK _ ?_; clear hK K
    refine still_val rfl (.agg N) rfl (fun x => by rw [HN.out]; exact exec_ld Try.underlying26 rfl HLN.out (HA2.out.but (hX x) (fun h => h)).cells0 rfl rfl) ?_
    intro K hK; go_simp; refine hK _ ?_; clear hK K
    refine still_call rfl (.bool ra) 10 #[.agg N, .agg N] rfl (fun x => by kernel_rfl) (fun x => HAA.out _) ?_
    intro K hK; go_simp; refine hK _ ?_; clear hK K
    refine still_val rfl (.agg N) rfl (fun x => by rw [HN.out]; exact exec_ld Try.underlying26 rfl HLN.out (HA2.out.but (hX x) (fun h => h)).cells0 rfl rfl) ?_
    intro K hK; go_simp; refine hK _ ?_; clear hK K
    refine still_call rfl (.bool ra) 8 #[.agg N] rfl (fun x => by kernel_rfl) (fun x => HRA.out _) ?_
    intro K hK; go_simp; refine hK _ ?_; clear hK K
    iterate 2 (refine still_step rfl (fun K hK => ?_); go_simp; refine hK _ ?_; clear hK K)
    refine still_val rfl (.agg Z) rfl (fun x => exec_build _ [] rfl [] rfl _ (HBZ.out _)) ?_
    intro K hK; go_simp; refine hK _ ?_; clear hK K
    refine still_val rfl (.agg N) rfl (fun x => by rw [HN.out]; exact exec_ld Try.underlying26 rfl HLN.out (HA2.out.but (hX x) (fun h => h)).cells0 rfl rfl) ?_
    intro K hK; go_simp; refine hK _ ?_; clear hK K
    refine still_call rfl (.bool ra) 10 #[.agg Z, .agg N] rfl (fun x => by kernel_rfl) (fun x => HZA.out _) ?_
    intro K hK; go_simp; refine hK _ ?_; clear hK K
    refine still_val rfl (.agg N) rfl (fun x => by rw [HN.out]; exact exec_ld Try.underlying26 rfl HLN.out (HA2.out.but (hX x) (fun h => h)).cells0 rfl rfl) ?_
    intro K hK; go_simp; refine hK _ ?_; clear hK K
    refine still_call rfl (.bool ra) 8 #[.agg N] rfl (fun x => by kernel_rfl) (fun x => HRA.out _) ?_
    intro K hK; go_simp; refine hK _ ?_; clear hK K
    iterate 3 (refine still_step rfl (fun K hK => ?_); go_simp; refine hK _ ?_; clear hK K)
    refine still_call rfl (.bool true) 12 #[] rfl (fun x => by kernel_rfl) (fun x => awake_any _) ?_
    intro K hK; go_simp; refine hK _ ?_; clear hK K
    iterate 2 (refine still_step rfl (fun K hK => ?_); go_simp; refine hK _ ?_; clear hK K)
    refine still_nil ?_
    clear hX hne
    intro w9 hw9
    have HE := Hid.mk' ((HG2.out.trans hw9).below (Nat.le_refl _) (fun _ _ h => h))
    clear hw9
    go_wp2
    go_ret
    exact ⟨rfl, HE.out⟩
  go_upto_region 3 with (first
    | (refine wpList_want_run rfl (exec_ld (ad := ⟨gp, 0, none⟩) Try.underlying26 rfl (cs := scells A) HLN.out HA2.out.cells0 rfl rfl) ?_; rw [← HN.out])
    | (refine wpList_want_run rfl (exec_ld (ad := ⟨gs, 0, none⟩) Try.underlying26 rfl (cs := scells C) HLL.out HC2.out.cells0 rfl rfl) ?_; rw [← HL.out])
    | fail)
  refine Calls.mono (HAC.out w2) ?_
  rintro e w3 ⟨rfl, hg⟩
  have HG3 := Hid.mk' (HG2.out.trans hg)
  have HA3 := Hid.mk' (HA2.out.but hg (fun h => h))
  have HB3 := Hid.mk' (HB2.out.but hg (fun h => h))
  have HC3 := Hid.mk' (HC2.out.but hg (fun h => h))
  clear hg
  obtain rfl : f3 = true := HTR.out (by first | rfl | trivial) (by first | rfl | trivial)
  go_upto_region 3 with fail
  have e1 : (ra == ra) = true := by simp
  refine region_chain [] [0, 1, 2, 3, 4, 5, 6, 7, 8, 9, 10, 11, 12, 13, 14, 15, 16, 17] (Grow w3) (Grow w3) (by kernel_rfl) (by kernel_rfl) (fun _ _ h k => h.trans k) (fun _ h => h) ((But.refl _ w3).drew) ?_
  intro ι hne X hX
  refine still_val rfl (.agg N) rfl (fun x => by rw [HN.out]; exact exec_ld Try.underlying26 rfl HLN.out (HA3.out.but (hX x) (fun h => h)).cells0 rfl rfl) ?_
  intro K hK; go_simp; refine hK _ ?_; clear hK K
  refine still_val rfl (.agg N) rfl (fun x => by rw [HN.out]; exact exec_ld Try.underlying26 rfl HLN.out (HA3.out.but (hX x) (fun h => h)).cells0 rfl rfl) ?_
  intro K hK; go_simp; refine hK _ ?_; clear hK K
  refine still_call rfl (.bool ra) 10 #[.agg N, .agg N] rfl (fun x => by kernel_rfl) (fun x => HAA.out _) ?_
  intro K hK; go_simp; refine hK _ ?_; clear hK K
  refine still_val rfl (.agg N) rfl (fun x => by rw [HN.out]; exact exec_ld Try.underlying26 rfl HLN.out (HA3.out.but (hX x) (fun h => h)).cells0 rfl rfl) ?_
  intro K hK; go_simp; refine hK _ ?_; clear hK K
  refine still_call rfl (.bool ra) 8 #[.agg N] rfl (fun x => by kernel_rfl) (fun x => HRA.out _) ?_
  intro K hK; go_simp; refine hK _ ?_; clear hK K
  iterate 2 (refine still_step rfl (fun K hK => ?_); go_simp; refine hK _ ?_; clear hK K)
  refine still_val rfl (.agg Z) rfl (fun x => exec_build _ [] rfl [] rfl _ (HBZ.out _)) ?_
  intro K hK; go_simp; refine hK _ ?_; clear hK K
  refine still_val rfl (.agg N) rfl (fun x => by rw [HN.out]; exact exec_ld Try.underlying26 rfl HLN.out (HA3.out.but (hX x) (fun h => h)).cells0 rfl rfl) ?_
  intro K hK; go_simp; refine hK _ ?_; clear hK K
  refine still_call rfl (.bool ra) 10 #[.agg Z, .agg N] rfl (fun x => by kernel_rfl) (fun x => HZA.out _) ?_
  intro K hK; go_simp; refine hK _ ?_; clear hK K
  refine still_val rfl (.agg N) rfl (fun x => by rw [HN.out]; exact exec_ld Try.underlying26 rfl HLN.out (HA3.out.but (hX x) (fun h => h)).cells0 rfl rfl) ?_
  intro K hK; go_simp; refine hK _ ?_; clear hK K
  refine still_call rfl (.bool ra) 8 #[.agg N] rfl (fun x => by kernel_rfl) (fun x => HRA.out _) ?_
  intro K hK; go_simp; refine hK _ ?_; clear hK K
  iterate 3 (refine still_step rfl (fun K hK => ?_); go_simp; refine hK _ ?_; clear hK K)
  refine still_call rfl (.bool true) 12 #[] rfl (fun x => by kernel_rfl) (fun x => awake_any _) ?_
  intro K hK; go_simp; refine hK _ ?_; clear hK K
  iterate 2 (refine still_step rfl (fun K hK => ?_); go_simp; refine hK _ ?_; clear hK K)
  refine still_nil ?_
  clear hX hne
  intro w9 hw9
  have HE := Hid.mk' ((HG3.out.trans hw9).below (Nat.le_refl _) (fun _ _ h => h))
  clear hw9
  go_wp2
  go_ret
  exact ⟨rfl, HE.out⟩

set_option maxRecDepth 100000 in
theorem regOrder_lifted (os : Os) (started : os.Started) (H : Type) (enc : TypeId × Value → H) :
    ReturnsInHanded {} Try.checked os 4 .any (Rows.regOrderSpec.pre6 enc Try.prog Try.f4 Rows.regOrderRow.domain false) (Rows.regOrderSpec.post enc Try.prog Try.f4 false true false false) := by
  refine returnsInHanded_of_change_sized (C := Try.checked) (by kernel_rfl) started (by kernel_rfl) Try.func4
    (ChangeSpec.witness6 (enc := enc) (C := Try.checked) false ⟨#[], #[.agg #[.int .i64 0, .int .i64 0, .bool false, .int .u32 0, .int .u64 0, .int .u32 0, .int .i64 0, .bool false, .int .u8 0, .int .u8 0, .int .u8 0, .int .u8 0, .int .u8 0, .int .u8 0, .int .u8 0, .int .u8 0, .int .u8 0, .int .u8 0, .int .u8 0, .int .u8 0, .int .u8 0, .int .u8 0, .int .u8 0, .int .u8 0, .int .u8 0, .int .u8 0, .int .u8 0, .int .u8 0, .int .u8 0, .int .u8 0, .int .u8 0, .int .u8 0, .int .u8 0, .int .u8 0, .int .u8 0, .int .u8 0, .int .u8 0, .int .u8 0, .int .u8 0, .int .u8 0, .int .u8 0, .int .u8 0, .int .u8 0, .int .u8 0, .int .u8 0, .int .u8 0, .int .u8 0, .int .u8 0, .int .u8 0, .int .u8 0, .int .u8 0, .int .u8 0, .int .u8 0, .int .u8 0, .int .u8 0, .int .u8 0, .int .u8 0, .int .u8 0, .int .u8 0, .int .u8 0, .int .u8 0, .int .u8 0, .int .u8 0, .int .u8 0, .int .u8 0, .int .u8 0, .int .u8 0, .int .u8 0, .int .u8 0, .int .u8 0, .int .u8 0, .int .u8 0], .agg #[.int .i64 0, .int .i64 0, .bool false, .int .u32 0, .int .u64 0, .int .u32 0, .int .i64 0, .bool false, .int .u8 0, .int .u8 0, .int .u8 0, .int .u8 0, .int .u8 0, .int .u8 0, .int .u8 0, .int .u8 0, .int .u8 0, .int .u8 0, .int .u8 0, .int .u8 0, .int .u8 0, .int .u8 0, .int .u8 0, .int .u8 0, .int .u8 0, .int .u8 0, .int .u8 0, .int .u8 0, .int .u8 0, .int .u8 0, .int .u8 0, .int .u8 0, .int .u8 0, .int .u8 0, .int .u8 0, .int .u8 0, .int .u8 0, .int .u8 0, .int .u8 0, .int .u8 0, .int .u8 0, .int .u8 0, .int .u8 0, .int .u8 0, .int .u8 0, .int .u8 0, .int .u8 0, .int .u8 0, .int .u8 0, .int .u8 0, .int .u8 0, .int .u8 0, .int .u8 0, .int .u8 0, .int .u8 0, .int .u8 0, .int .u8 0, .int .u8 0, .int .u8 0, .int .u8 0, .int .u8 0, .int .u8 0, .int .u8 0, .int .u8 0, .int .u8 0, .int .u8 0, .int .u8 0, .int .u8 0, .int .u8 0, .int .u8 0, .int .u8 0, .int .u8 0], .agg #[.int .i64 0, .int .i64 0, .bool false, .int .u32 0, .int .u64 0, .int .u32 0, .int .i64 0, .bool false, .int .u8 0, .int .u8 0, .int .u8 0, .int .u8 0, .int .u8 0, .int .u8 0, .int .u8 0, .int .u8 0, .int .u8 0, .int .u8 0, .int .u8 0, .int .u8 0, .int .u8 0, .int .u8 0, .int .u8 0, .int .u8 0, .int .u8 0, .int .u8 0, .int .u8 0, .int .u8 0, .int .u8 0, .int .u8 0, .int .u8 0, .int .u8 0, .int .u8 0, .int .u8 0, .int .u8 0, .int .u8 0, .int .u8 0, .int .u8 0, .int .u8 0, .int .u8 0, .int .u8 0, .int .u8 0, .int .u8 0, .int .u8 0, .int .u8 0, .int .u8 0, .int .u8 0, .int .u8 0, .int .u8 0, .int .u8 0, .int .u8 0, .int .u8 0, .int .u8 0, .int .u8 0, .int .u8 0, .int .u8 0, .int .u8 0, .int .u8 0, .int .u8 0, .int .u8 0, .int .u8 0, .int .u8 0, .int .u8 0, .int .u8 0, .int .u8 0, .int .u8 0, .int .u8 0, .int .u8 0, .int .u8 0, .int .u8 0, .int .u8 0, .int .u8 0]], []⟩ 8 (by kernel_rfl) (by kernel_rfl) (by kernel_rfl) (by kernel_rfl)) ?_
  intro W base args ds gs before hval0 hW hcnd hsz0 _
  have hsz : (DataW.weightsEach Try.prog (Try.f4.params.toList ++ Rows.regOrderSpec.plain.varTypes Try.prog) (ds ++ gs)).all (· ≤ reachBytes) = true := hsz0
  clear hsz0
  have hval : ∀ (j : Nat) t v, Try.f4.params[j]? = some t → args[j]? = some v → Value.okWide Try.prog W .any base t v := hval0
  have hW' := hW
  obtain ⟨p, q, hA0, hV, rfl, hfz, hnd⟩ := hW
  have hA : DataW.TrodAll enc Try.prog W 0 (fun _ => true) true Try.f4.params.toList args.toList ds p := hA0
  rw [Try.params4] at hA hval hsz
  obtain ⟨v0, vs0, d0, ds0, p0, q0, hargs, rfl, rfl, h0, r0⟩ := trodAll_cons hA
  obtain ⟨v1, vs1, d1, ds1, p1, q1, rfl, rfl, rfl, h1, r1⟩ := trodAll_cons r0
  obtain ⟨v2, vs2, d2, ds2, p2, q2, rfl, rfl, rfl, h2, r2⟩ := trodAll_cons r1
  obtain ⟨rfl, rfl, rfl⟩ := trodAll_nil r2
  obtain rfl : args = #[v0, v1, v2] := by cases args; simp_all
  obtain ⟨rfl, rfl⟩ := trodVars_none hV
  have lt0 : ∀ x ∈ p0, x.block < W.heap.size := by obtain ⟨m, hm⟩ := h0; exact DataW.trod_lt m _ _ _ hm
  obtain ⟨z0, w0⟩ := view_state (hval 0 26 v0 rfl rfl) h0 lt0 hsz (j := 0) rfl rfl
  have lt1 : ∀ x ∈ p1, x.block < W.heap.size := by obtain ⟨m, hm⟩ := h1; exact DataW.trod_lt m _ _ _ hm
  obtain ⟨z1, w1⟩ := view_state (hval 1 26 v1 rfl rfl) h1 lt1 hsz (j := 1) rfl rfl
  have lt2 : ∀ x ∈ p2, x.block < W.heap.size := by obtain ⟨m, hm⟩ := h2; exact DataW.trod_lt m _ _ _ hm
  obtain ⟨z2, w2⟩ := view_state (hval 2 26 v2 rfl rfl) h2 lt2 hsz (j := 2) rfl rfl
  clear hA0 hval0
  refine (regOrder_walk v0 z0 v1 z1 v2 z2 W w0 w1 w2).mono fun e W' ⟨he, bel⟩ => ?_
  subst he
  exact ⟨_, rfl, _, _, _, [], _, [], hW', trodAll_mk1 (shut_bool Try.underlying4 _), (trodAll_cons_mk (Below.trod (by kernel_rfl) (by kernel_rfl) (of_decide_eq_true (by kernel_rfl)) h0 bel lt0) (trodAll_cons_mk (Below.trod (by kernel_rfl) (by kernel_rfl) (of_decide_eq_true (by kernel_rfl)) h1 bel lt1) (trodAll_cons_mk (Below.trod (by kernel_rfl) (by kernel_rfl) (of_decide_eq_true (by kernel_rfl)) h2 bel lt2) trodAll_mk0))), rfl, bel.frame _, fun h => by cases h⟩

theorem regOrder_holds : Rows.RegOrderSaid :=
  OpenClaim.holds_of_wide 4 Try.f4 rfl rfl rfl rfl rfl rfl rfl ⟨rfl, rfl, rfl, rfl, rfl⟩ rfl rfl rfl rfl rfl (by kernel_rfl) Try.func4 (by kernel_rfl)
    (of_decide_eq_true (by kernel_rfl)) (by unfold Func.isWrapper; first | (rw [if_pos (by decide +kernel)]; kernel_rfl) | (rw [if_neg (by decide +kernel)]; exact ⟨rfl, rfl⟩))
    (fun os started H enc _ => regOrder_lifted os started H enc)
#print axioms regOrder_holds
end Go.Proofs.Ytcikldklacgafaa
