/- Which state may follow another: the program's Follows, the reference's. -/
import Derived.Test.YtcikldklacgafaaRgBlank
import Derived.Test.YtcikldklacgafaaPast
namespace Go.Proofs.Ytcikldklacgafaa
open Go.RowKit

section
variable {A B : Stt}
set_option maxRecDepth 100000 in
set_option maxHeartbeats 4000000 in
theorem follows_any (hA : A.ok) (hB : B.ok) (w : World) : Calls Try.prog 10 #[.agg (scells A).toArray, .agg (scells B).toArray] w fun e w' => e = .returned (.bool (A.follows B)) ∧ Grow w w' := by
  obtain ⟨wb, gp, gq, hbx⟩ := box2_st w A B
  have HW := Hid.mk' hbx.ew
  have HGP := Hid.mk' hbx.eg
  have HGQ := Hid.mk' hbx.eq
  have HG := Hid.mk' hbx.grow
  have HBA := Hid.mk' hbx.ba
  have HBB := Hid.mk' hbx.bb
  have HLA : Hid ((Try.prog.info? 26).map (·.size) = some (scells A).length) := by rw [scells_len hA]; exact iSt
  have HLB : Hid ((Try.prog.info? 26).map (·.size) = some (scells B).length) := by rw [scells_len hB]; exact iSt
  obtain ⟨N, hN⟩ : ∃ N, N = (scells A).toArray := ⟨_, rfl⟩
  obtain ⟨M, hM⟩ : ∃ M, M = (scells B).toArray := ⟨_, rfl⟩
  have HN := Hid.mk' hN
  have HM := Hid.mk' hM
  have HRI : Hid (∀ w, Calls Try.prog 8 #[.agg M] w fun e w' => e = .returned (.bool B.right) ∧ Grow w w') := fun w => by rw [hM]; exact right_any w
  have HBL : Hid (∀ w, Calls Try.prog 24 #[.agg N] w fun e w' => e = .returned (.bool A.blank) ∧ Grow w w') := fun w => by rw [hN]; exact blank_any hA w
  obtain ⟨LA, hLA⟩ : ∃ LA, LA = (lcells A).toArray := ⟨_, rfl⟩
  obtain ⟨LB, hLB⟩ : ∃ LB, LB = (lcells B).toArray := ⟨_, rfl⟩
  have HYA : Hid (∀ w, Calls Try.prog 25 #[.agg N] w fun e w' => e = .returned (.agg LA) ∧ Grow w w') := fun w => by rw [hN, hLA]; exact layout_any w
  have HYB : Hid (∀ w, Calls Try.prog 25 #[.agg M] w fun e w' => e = .returned (.agg LB) ∧ Grow w w') := fun w => by rw [hM, hLB]; exact layout_any w
  have HEL : Hid (∀ w, (Op.equalIn 10000 48 (.agg LA) (.agg LB)).run Try.prog w = .ok (A.lay B) w) := fun w => by rw [hLA, hLB]; exact equalL A B w
  have HSI : Hid (∀ w, Calls Try.prog 26 #[.agg N, .agg M] w fun e w' => e = .returned (.bool (A.sinks B)) ∧ Grow w w') := fun w => by rw [hN, hM]; exact sinks_any w
  have HF : Hid (A.follows B = (B.right && (A.blank || (A.lay B && !A.sinks B)))) := rfl
  generalize A.follows B = f at HF ⊢
  generalize B.right = r at HRI HF
  generalize A.blank = b at HBL HF
  generalize A.lay B = l at HEL HF
  generalize A.sinks B = s at HSI HF
  rw [← hN, ← hM] at HW ⊢
  clear hbx hN hM hA hB hLA hLB
  go_enter Try.func10, Try.ntmps10
  go_upto_region 1 with fail
  rw [← HW.out, ← HGQ.out, ← HGP.out]
  clear HW HGP HGQ
  go_wp2_with (first
    | (refine wpList_load_cells rfl _ _ rfl ⟨gq, 0, none⟩ rfl (scells B) _ HBB.out.cells0 Try.underlying26 rfl HLB.out ?_; rw [← HM.out])
    | fail)
  refine Calls.mono (HRI.out wb) ?_
  rintro e w1 ⟨rfl, hg1⟩
  have HG1 := Hid.mk' (HG.out.trans hg1)
  have HA1 := Hid.mk' (HBA.out.but hg1 (fun h => h))
  have HB1 := Hid.mk' (HBB.out.but hg1 (fun h => h))
  clear hg1 HRI HBA HBB HG
  cases r
  · go_wp2
    go_ret
    exact ⟨by rw [HF.out]; rfl, HG1.out⟩
  go_upto_region 3 with fail
  refine region_chain [] [0, 1, 2, 3, 4, 5, 6, 7, 8, 9, 10, 11, 12, 13, 14, 15] (Grow w1) (Grow w1) (by kernel_rfl) (by kernel_rfl) (fun _ _ h k => h.trans k) (fun _ h => h) ((But.refl _ w1).drew) ?_
  intro ι hne X hX
  refine still_val rfl (.agg N) rfl (fun x => by rw [HN.out]; exact exec_ld Try.underlying26 rfl HLA.out (HA1.out.but (hX x) (fun h => h)).cells0 rfl rfl) ?_
  intro K hK; go_simp; refine hK _ ?_; clear hK K
  refine still_call rfl (.bool b) 24 #[.agg N] rfl (fun x => by kernel_rfl) (fun x => HBL.out _) ?_
  intro K hK; go_simp; refine hK _ ?_; clear hK K
  cases b
  case true =>
    refine still_step rfl (fun K hK => ?_)
    have hK' := fun (a : Act) h1 h2 h3 h4 => hK a (still_pass3 (a := a) 2 false 10 (.bool true) [3, 4, 5, 6, 7, 8] [11, 12, 13, 14, 15, 16] 8 true 16 undef [9, 10, 11, 12] [17, 18, 19, 20] 2 false 10 (.bool true) [13] [21] [14, 15] rfl rfl (fun h => by cases h) (by kernel_rfl) (by kernel_rfl) rfl (fun h => by cases h) (by kernel_rfl) (by kernel_rfl) rfl (fun h => by cases h) (by kernel_rfl) (by kernel_rfl) h1 h2 h3 h4)
    clear hK
    go_simp
    refine hK' _ rfl (by kernel_rfl) (by kernel_rfl) ?_
    clear hK' K
    intro K hK
    simp only [undefL]
    go_simp
    refine hK _ ?_
    clear hK K
    iterate 2 (refine still_step rfl (fun K hK => ?_); go_simp; refine hK _ ?_; clear hK K)
    refine still_nil ?_
    clear hX hne
    intro w2 hw2
    have HG2 := Hid.mk' (HG1.out.trans hw2)
    clear hw2
    go_wp2
    go_ret
    exact ⟨by rw [HF.out]; rfl, HG2.out⟩
  iterate 1 (refine still_step rfl (fun K hK => ?_); go_simp; refine hK _ ?_; clear hK K)
  refine still_val rfl (.agg N) rfl (fun x => by rw [HN.out]; exact exec_ld Try.underlying26 rfl HLA.out (HA1.out.but (hX x) (fun h => h)).cells0 rfl rfl) ?_
  intro K hK; go_simp; refine hK _ ?_; clear hK K
  refine still_call rfl (.agg LA) 25 #[.agg N] rfl (fun x => by kernel_rfl) (fun x => HYA.out _) ?_
  intro K hK; go_simp; refine hK _ ?_; clear hK K
  refine still_val rfl (.agg M) rfl (fun x => by rw [HM.out]; exact exec_ld Try.underlying26 rfl HLB.out (HB1.out.but (hX x) (fun h => h)).cells0 rfl rfl) ?_
  intro K hK; go_simp; refine hK _ ?_; clear hK K
  refine still_call rfl (.agg LB) 25 #[.agg M] rfl (fun x => by kernel_rfl) (fun x => HYB.out _) ?_
  intro K hK; go_simp; refine hK _ ?_; clear hK K
  refine still_val rfl (.bool l) rfl (fun x => exec_eqA rfl rfl rfl (by kernel_rfl) (HEL.out _)) ?_
  intro K hK; go_simp; refine hK _ ?_; clear hK K
  cases l
  case false =>
    refine still_step rfl (fun K hK => ?_)
    have hK' := fun (a : Act) h1 h4 => hK a (still_pass1 (a := a) 8 true 16 (.bool false) [9, 10, 11, 12] [13, 14, 15] [17, 18, 19, 20] rfl rfl (fun h => by cases h) (by kernel_rfl) (by kernel_rfl) h1 h4)
    clear hK
    go_simp
    refine hK' _ rfl ?_
    clear hK' K
    intro K hK
    simp only [undefL]
    go_simp
    refine hK _ ?_
    clear hK K
    iterate 3 (refine still_step rfl (fun K hK => ?_); go_simp; refine hK _ ?_; clear hK K)
    refine still_nil ?_
    clear hX hne
    intro w2 hw2
    have HG2 := Hid.mk' (HG1.out.trans hw2)
    clear hw2
    go_wp2
    go_ret
    exact ⟨by rw [HF.out]; rfl, HG2.out⟩
  iterate 1 (refine still_step rfl (fun K hK => ?_); go_simp; refine hK _ ?_; clear hK K)
  refine still_val rfl (.agg N) rfl (fun x => by rw [HN.out]; exact exec_ld Try.underlying26 rfl HLA.out (HA1.out.but (hX x) (fun h => h)).cells0 rfl rfl) ?_
  intro K hK; go_simp; refine hK _ ?_; clear hK K
  refine still_val rfl (.agg M) rfl (fun x => by rw [HM.out]; exact exec_ld Try.underlying26 rfl HLB.out (HB1.out.but (hX x) (fun h => h)).cells0 rfl rfl) ?_
  intro K hK; go_simp; refine hK _ ?_; clear hK K
  refine still_call rfl (.bool s) 26 #[.agg N, .agg M] rfl (fun x => by kernel_rfl) (fun x => HSI.out _) ?_
  intro K hK; go_simp; refine hK _ ?_; clear hK K
  iterate 4 (refine still_step rfl (fun K hK => ?_); go_simp; refine hK _ ?_; clear hK K)
  refine still_nil ?_
  clear hX hne
  intro w2 hw2
  have HG2 := Hid.mk' (HG1.out.trans hw2)
  clear hw2
  go_wp2
  go_ret
  exact ⟨by rw [HF.out]; cases s <;> rfl, HG2.out⟩
set_option maxRecDepth 100000 in
set_option maxHeartbeats 4000000 in
theorem rfollows_any (hA : A.ok) (hB : B.ok) (w : World) : Calls Try.prog 11 #[.agg (scells A).toArray, .agg (scells B).toArray] w fun e w' => e = .returned (.bool (A.follows B)) ∧ Grow w w' := by
  obtain ⟨wb, gp, gq, hbx⟩ := box2_st w A B
  have HW := Hid.mk' hbx.ew
  have HGP := Hid.mk' hbx.eg
  have HGQ := Hid.mk' hbx.eq
  have HG := Hid.mk' hbx.grow
  have HBA := Hid.mk' hbx.ba
  have HBB := Hid.mk' hbx.bb
  have HLA : Hid ((Try.prog.info? 26).map (·.size) = some (scells A).length) := by rw [scells_len hA]; exact iSt
  have HLB : Hid ((Try.prog.info? 26).map (·.size) = some (scells B).length) := by rw [scells_len hB]; exact iSt
  obtain ⟨N, hN⟩ : ∃ N, N = (scells A).toArray := ⟨_, rfl⟩
  obtain ⟨M, hM⟩ : ∃ M, M = (scells B).toArray := ⟨_, rfl⟩
  have HN := Hid.mk' hN
  have HM := Hid.mk' hM
  have HRI : Hid (∀ w, Calls Try.prog 9 #[.agg M] w fun e w' => e = .returned (.bool B.right) ∧ Grow w w') := fun w => by rw [hM]; exact rright_any hB w
  have HBL : Hid (∀ w, Calls Try.prog 15 #[.agg N] w fun e w' => e = .returned (.bool A.blank) ∧ Grow w w') := fun w => by rw [hN]; exact rblank_any hA w
  have HF : Hid (A.follows B = (B.right && (A.blank || (((A.pages == B.pages) && ((A.budget == B.budget) && ((A.wide == B.wide) && true))) && !(decide (B.boot < A.boot) || (decide (B.version < A.version) || decide (B.epoch < A.epoch))))))) := rfl
  generalize A.follows B = f at HF ⊢
  generalize B.right = r at HRI HF
  generalize A.blank = b at HBL HF
  rw [← hN, ← hM] at HW ⊢
  clear hbx hN hM hA hB
  go_enter Try.func11, Try.ntmps11
  go_upto_region 1 with fail
  rw [← HW.out, ← HGQ.out, ← HGP.out]
  clear HW HGP HGQ
  go_wp2_with (first
    | (refine wpList_load_cells rfl _ _ rfl ⟨gq, 0, none⟩ rfl (scells B) _ HBB.out.cells0 Try.underlying26 rfl HLB.out ?_; rw [← HM.out])
    | fail)
  refine Calls.mono (HRI.out wb) ?_
  rintro e w1 ⟨rfl, hg1⟩
  have HG1 := Hid.mk' (HG.out.trans hg1)
  have HA1 := Hid.mk' (HBA.out.but hg1 (fun h => h))
  have HB1 := Hid.mk' (HBB.out.but hg1 (fun h => h))
  clear hg1 HRI HBA HBB HG
  cases r
  · go_wp2
    go_ret
    exact ⟨by rw [HF.out]; rfl, HG1.out⟩
  go_wp2_with (first
    | (refine wpList_load_cells rfl _ _ rfl ⟨gp, 0, none⟩ rfl (scells A) _ HA1.out.cells0 Try.underlying26 rfl HLA.out ?_; rw [← HN.out])
    | fail)
  refine Calls.mono (HBL.out w1) ?_
  rintro e w2 ⟨rfl, hg2⟩
  have HG2 := Hid.mk' (HG1.out.trans hg2)
  have ha := HA1.out.but hg2 (fun h => h)
  have hb := HB1.out.but hg2 (fun h => h)
  clear hg2 HBL HA1 HB1 HG1
  cases b
  case true =>
    go_wp2
    go_ret
    exact ⟨by rw [HF.out]; rfl, HG2.out⟩
  have a0 : w2.cell? ⟨gp, 0, none⟩ = some (.int .i64 A.pages) := ha.cell 0
  have a1 : w2.cell? ⟨gp, 1, none⟩ = some (.int .i64 A.budget) := ha.cell 1
  have a2 : w2.cell? ⟨gp, 2, none⟩ = some (.bool A.wide) := ha.cell 2
  have a3 : w2.cell? ⟨gp, 3, none⟩ = some (.int .u32 A.boot) := ha.cell 3
  have a4 : w2.cell? ⟨gp, 4, none⟩ = some (.int .u64 A.version) := ha.cell 4
  have a5 : w2.cell? ⟨gp, 5, none⟩ = some (.int .u32 A.epoch) := ha.cell 5
  have b0 : w2.cell? ⟨gq, 0, none⟩ = some (.int .i64 B.pages) := hb.cell 0
  have b1 : w2.cell? ⟨gq, 1, none⟩ = some (.int .i64 B.budget) := hb.cell 1
  have b2 : w2.cell? ⟨gq, 2, none⟩ = some (.bool B.wide) := hb.cell 2
  have b3 : w2.cell? ⟨gq, 3, none⟩ = some (.int .u32 B.boot) := hb.cell 3
  have b4 : w2.cell? ⟨gq, 4, none⟩ = some (.int .u64 B.version) := hb.cell 4
  have b5 : w2.cell? ⟨gq, 5, none⟩ = some (.int .u32 B.epoch) := hb.cell 5
  clear ha hb
  generalize A.pages = p at a0 HF
  generalize B.pages = p' at b0 HF
  generalize A.budget = q at a1 HF
  generalize B.budget = q' at b1 HF
  generalize A.wide = v at a2 HF
  generalize B.wide = v' at b2 HF
  generalize A.boot = x at a3 HF
  generalize B.boot = x' at b3 HF
  generalize A.version = y at a4 HF
  generalize B.version = y' at b4 HF
  generalize A.epoch = z at a5 HF
  generalize B.epoch = z' at b5 HF
  by_cases h1 : p = p'
  case neg =>
    have n : (p != p') = true := by simpa using h1
    have m : (p == p') = false := by simpa using h1
    rw [m] at HF
    go_wp2
    go_ret
    exact ⟨by rw [HF.out]; rfl, HG2.out⟩
  subst h1
  rw [show (p == p) = true by simp] at HF
  by_cases h2 : q = q'
  case neg =>
    have n : (q != q') = true := by simpa using h2
    have m : (q == q') = false := by simpa using h2
    rw [m] at HF
    go_wp2
    go_ret
    exact ⟨by rw [HF.out]; rfl, HG2.out⟩
  subst h2
  rw [show (q == q) = true by simp] at HF
  by_cases h3 : v = v'
  case neg =>
    have n : (v != v') = true := by simpa using h3
    have m : (v == v') = false := by simpa using h3
    rw [m] at HF
    go_wp2
    go_ret
    exact ⟨by rw [HF.out]; rfl, HG2.out⟩
  subst h3
  rw [show (v == v) = true by simp] at HF
  have e1 : (p != p) = false := by simp
  have e2 : (q != q) = false := by simp
  have e3 : (v != v) = false := by simp
  by_cases h4 : x' < x
  case pos =>
    rw [decide_eq_true h4] at HF
    have n : ¬ (x ≤ x') := by omega
    have n' : decide (x ≤ x') = false := decide_eq_false n
    go_wp2
    go_ret
    exact ⟨by rw [HF.out]; first | rfl | (show Ending.returned (.bool (decide (x ≤ x'))) = _; rw [n']; rfl), HG2.out⟩
  rw [decide_eq_false h4] at HF
  have k4 : x ≤ x' := by omega
  by_cases h5 : y' < y
  case pos =>
    rw [decide_eq_true h5] at HF
    have n : ¬ (y ≤ y') := by omega
    have n' : decide (y ≤ y') = false := decide_eq_false n
    go_wp2
    go_ret
    exact ⟨by rw [HF.out]; first | rfl | (show Ending.returned (.bool (decide (y ≤ y'))) = _; rw [n']; rfl), HG2.out⟩
  rw [decide_eq_false h5] at HF
  have k5 : y ≤ y' := by omega
  by_cases h6 : z' < z
  case pos =>
    rw [decide_eq_true h6] at HF
    have n : ¬ (z ≤ z') := by omega
    have n' : decide (z ≤ z') = false := decide_eq_false n
    go_wp2
    go_ret
    exact ⟨by rw [HF.out]; first | rfl | (show Ending.returned (.bool (decide (z ≤ z'))) = _; rw [n']; rfl), HG2.out⟩
  rw [decide_eq_false h6] at HF
  have k6 : z ≤ z' := by omega
  go_wp2
  go_ret
  exact ⟨by rw [HF.out]; first | rfl | (show Ending.returned (.bool (decide (z ≤ z'))) = _; rw [decide_eq_true k6]; rfl), HG2.out⟩
end
end Go.Proofs.Ytcikldklacgafaa
