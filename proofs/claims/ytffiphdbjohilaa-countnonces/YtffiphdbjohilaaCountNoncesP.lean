/- CountNonces: an entry's nonce is the document's; unlike pairs have unlike ones, whatever their epochs are. For every input. -/
import Derived.Test.YtffiphdbjohilaaCtEq
namespace Go.Proofs.Ytffiphdbjohilaa
open Go.ChangeShapes Go.WideShapes Go.ChangeAt Go.RowKit Go.Deep

set_option maxRecDepth 100000 in
set_option maxHeartbeats 8000000 in
theorem countNonces_walk (v0 : Value) (x : En) (v1 : Value) (y : En) (w : World) (h0 : v0 = evalE x ∧ x.ok) (h1 : v1 = evalE y ∧ y.ok) :
    Calls Try.prog 7 #[v0, v1] w fun e w' => e = .returned (.bool true) ∧ Below w.heap.size w w' := by
  obtain ⟨rfl, hx⟩ := h0
  obtain ⟨rfl, hy⟩ := h1
  have hiff := nbs_eq hx hy
  obtain ⟨E1, B1, S1⟩ := x
  obtain ⟨E2, B2, S2⟩ := y
  simp only at hiff
  have HNX : Hid (∀ w, Calls Try.prog 19 #[evalE ⟨E1, B1, S1⟩] w fun r w' => r = .returned (.agg (u8s (nbs ⟨E1, B1, S1⟩)).toArray) ∧ But (fun _ => False) w w') := fun w => nonce_any _ hx
  have HNY : Hid (∀ w, Calls Try.prog 19 #[evalE ⟨E2, B2, S2⟩] w fun r w' => r = .returned (.agg (u8s (nbs ⟨E2, B2, S2⟩)).toArray) ∧ But (fun _ => False) w w') := fun w => nonce_any _ hy
  have HRX : Hid (∀ w, Calls Try.prog 20 #[evalE ⟨E1, B1, S1⟩] w fun r w' => r = .returned (.agg (u8s (nbs ⟨E1, B1, S1⟩)).toArray) ∧ But (fun _ => False) w w') := fun w => rnonce_any _ hx
  have HXX : Hid (∀ w, (Op.equalIn 10000 47 (.agg (u8s (nbs ⟨E1, B1, S1⟩)).toArray) (.agg (u8s (nbs ⟨E1, B1, S1⟩)).toArray)).run Try.prog w = .ok true w) := fun w => by rw [equalNn, decide_eq_true rfl]
  have HXY : Hid (∀ w, (Op.equalIn 10000 47 (.agg (u8s (nbs ⟨E1, B1, S1⟩)).toArray) (.agg (u8s (nbs ⟨E2, B2, S2⟩)).toArray)).run Try.prog w = .ok (decide (B1 = B2 ∧ S1 = S2)) w) := fun w => by rw [equalNn, decide_eq_decide.2 hiff]
  obtain ⟨NX, hNX⟩ : ∃ N, N = (u8s (nbs ⟨E1, B1, S1⟩)).toArray := ⟨_, rfl⟩
  obtain ⟨NY, hNY⟩ : ∃ N, N = (u8s (nbs ⟨E2, B2, S2⟩)).toArray := ⟨_, rfl⟩
  rw [← hNX] at HNX HRX HXX HXY
  rw [← hNY] at HNY HXY
  obtain ⟨g, hg⟩ : ∃ g, g = w.heap.size := ⟨_, rfl⟩
  obtain ⟨W0, hW0⟩ : ∃ W0, W0 = (w.alloc (.cells #[.int .u32 (E1 : Int), .int .u32 (B1 : Int), .int .u64 (S1 : Int)] 39)).alloc (.cells #[.int .u32 (E2 : Int), .int .u32 (B2 : Int), .int .u64 (S2 : Int)] 39) := ⟨_, rfl⟩
  have al : ∀ (x : World) (o : Obj), But (fun _ => False) x (x.alloc o) := fun x o => (But.refl _ x).alloc o
  have HG : Hid (Grow w W0) := by rw [hW0]; exact (al _ _).alloc _
  have hX0 : Blk W0 g 39 (ecells ⟨E1, B1, S1⟩) := by rw [hW0]; exact (Blk.new hg.symm).but (al _ _) (fun h => h)
  have hY0 : Blk W0 (g + 1) 39 (ecells ⟨E2, B2, S2⟩) := by rw [hW0]; exact Blk.new (by simp [hg])
  have HX : Hid (∀ w', Grow W0 w' → ∀ j u, (ecells ⟨E1, B1, S1⟩)[j]? = some u → w'.cell? ((⟨g, 0, none⟩ : Addr).add j) = some u) := fun w' k => (hX0.but k (fun h => h)).cells0
  have HY : Hid (∀ w', Grow W0 w' → ∀ j u, (ecells ⟨E2, B2, S2⟩)[j]? = some u → w'.cell? ((⟨g + 1, 0, none⟩ : Addr).add j) = some u) := fun w' k => (hY0.but k (fun h => h)).cells0
  have c1 : W0.cell? ⟨g, 1, none⟩ = some (.int .u32 (B1 : Int)) := by rw [hX0.cell]; rfl
  have c2 : W0.cell? ⟨g, 2, none⟩ = some (.int .u64 (S1 : Int)) := by rw [hX0.cell]; rfl
  have c3 : W0.cell? ⟨g + 1, 1, none⟩ = some (.int .u32 (B2 : Int)) := by rw [hY0.cell]; rfl
  have c4 : W0.cell? ⟨g + 1, 2, none⟩ = some (.int .u64 (S2 : Int)) := by rw [hY0.cell]; rfl
  have HW0 := Hid.mk' hW0
  have HGG := Hid.mk' hg
  clear hiff hx hy hNX hNY hg hW0 al hX0 hY0
  show Calls _ _ #[.agg #[_, _, _], .agg #[_, _, _]] _ _
  go_enter Try.func7, Try.ntmps7
  go_upto_region 1 with fail
  rw [← HW0.out, ← HGG.out]
  rcases (by omega : (B1 = B2 ∧ S1 = S2) ∨ (B1 = B2 ∧ ¬ S1 = S2) ∨ ¬ B1 = B2) with ⟨rfl, rfl⟩ | ⟨rfl, hs⟩ | hb
  · rw [decide_eq_true ⟨rfl, rfl⟩] at HXY
    go_upto_region 2 with fail
    refine region_chain [] [0, 1, 2, 3, 4, 5, 6, 7, 8, 9, 10, 11, 12, 13, 14, 15, 16, 17] (Grow W0) (Grow W0) (by kernel_rfl) (by kernel_rfl) (fun _ _ h k => h.trans k) (fun _ h => h) ((But.refl _ W0).drew) ?_
    intro ι hne X hX
    refine still_val rfl (evalE ⟨E1, B1, S1⟩) rfl (fun q => exec_ldE (cs := ⟨E1, B1, S1⟩) (HX.out _ (hX q)) rfl rfl) ?_
    intro K hK; go_simp; refine hK _ ?_; clear hK K
    refine still_call rfl (.agg NX) 19 #[evalE ⟨E1, B1, S1⟩] rfl (fun q => by kernel_rfl) (fun q => HNX.out _) ?_
    intro K hK; go_simp; refine hK _ ?_; clear hK K
    refine still_val rfl (evalE ⟨E1, B1, S1⟩) rfl (fun q => exec_ldE (cs := ⟨E1, B1, S1⟩) (HX.out _ (hX q)) rfl rfl) ?_
    intro K hK; go_simp; refine hK _ ?_; clear hK K
    refine still_call rfl (.agg NX) 20 #[evalE ⟨E1, B1, S1⟩] rfl (fun q => by kernel_rfl) (fun q => HRX.out _) ?_
    intro K hK; go_simp; refine hK _ ?_; clear hK K
    refine still_val rfl (.bool true) rfl (fun q => exec_eqE (b := true) rfl rfl rfl g12 (HXX.out _)) ?_
    intro K hK; go_simp; refine hK _ ?_; clear hK K
    refine still_step rfl (fun K hK => ?_); go_simp; refine hK _ ?_; clear hK K
    refine still_val rfl (evalE ⟨E1, B1, S1⟩) rfl (fun q => exec_ldE (cs := ⟨E1, B1, S1⟩) (HX.out _ (hX q)) rfl rfl) ?_
    intro K hK; go_simp; refine hK _ ?_; clear hK K
    refine still_call rfl (.agg NX) 19 #[evalE ⟨E1, B1, S1⟩] rfl (fun q => by kernel_rfl) (fun q => HNX.out _) ?_
    intro K hK; go_simp; refine hK _ ?_; clear hK K
    refine still_val rfl (evalE ⟨E2, B1, S1⟩) rfl (fun q => exec_ldE (cs := ⟨E2, B1, S1⟩) (HY.out _ (hX q)) rfl rfl) ?_
    intro K hK; go_simp; refine hK _ ?_; clear hK K
    refine still_call rfl (.agg NY) 19 #[evalE ⟨E2, B1, S1⟩] rfl (fun q => by kernel_rfl) (fun q => HNY.out _) ?_
    intro K hK; go_simp; refine hK _ ?_; clear hK K
    refine still_val rfl (.bool true) rfl (fun q => exec_eqE (b := true) rfl rfl rfl g12 (HXY.out _)) ?_
    intro K hK; go_simp; refine hK _ ?_; clear hK K
    iterate 4 (refine still_step rfl (fun K hK => ?_); go_simp; refine hK _ ?_; clear hK K)
    refine still_call rfl (.bool true) 11 #[] rfl (fun q => by kernel_rfl) (fun q => cawake_any _) ?_
    intro K hK; go_simp; refine hK _ ?_; clear hK K
    iterate 2 (refine still_step rfl (fun K hK => ?_); go_simp; refine hK _ ?_; clear hK K)
    refine still_nil ?_
    clear hX hne
    intro w8 hw8
    have HG8 := Hid.mk' (HG.out.trans hw8)
    clear hw8
    go_wp2
    go_ret
    exact ⟨rfl, HG8.out.below (Nat.le_refl _) (fun _ _ h => h)⟩
  · rw [decide_eq_false (fun h => hs h.2)] at HXY
    have t1 : ((S1 : Int) == (S2 : Int)) = false := by simpa using fun h : (S1 : Int) = S2 => hs (by omega)
    have t2 : decide ((S1 : Int) = (S2 : Int)) = false := decide_eq_false (by omega)
    clear hs
    go_upto_region 2 with fail
    refine region_chain [] [0, 1, 2, 3, 4, 5, 6, 7, 8, 9, 10, 11, 12, 13, 14, 15, 16, 17] (Grow W0) (Grow W0) (by kernel_rfl) (by kernel_rfl) (fun _ _ h k => h.trans k) (fun _ h => h) ((But.refl _ W0).drew) ?_
    intro ι hne X hX
    refine still_val rfl (evalE ⟨E1, B1, S1⟩) rfl (fun q => exec_ldE (cs := ⟨E1, B1, S1⟩) (HX.out _ (hX q)) rfl rfl) ?_
    intro K hK; go_simp; refine hK _ ?_; clear hK K
    refine still_call rfl (.agg NX) 19 #[evalE ⟨E1, B1, S1⟩] rfl (fun q => by kernel_rfl) (fun q => HNX.out _) ?_
    intro K hK; go_simp; refine hK _ ?_; clear hK K
    refine still_val rfl (evalE ⟨E1, B1, S1⟩) rfl (fun q => exec_ldE (cs := ⟨E1, B1, S1⟩) (HX.out _ (hX q)) rfl rfl) ?_
    intro K hK; go_simp; refine hK _ ?_; clear hK K
    refine still_call rfl (.agg NX) 20 #[evalE ⟨E1, B1, S1⟩] rfl (fun q => by kernel_rfl) (fun q => HRX.out _) ?_
    intro K hK; go_simp; refine hK _ ?_; clear hK K
    refine still_val rfl (.bool true) rfl (fun q => exec_eqE (b := true) rfl rfl rfl g12 (HXX.out _)) ?_
    intro K hK; go_simp; refine hK _ ?_; clear hK K
    refine still_step rfl (fun K hK => ?_); go_simp; refine hK _ ?_; clear hK K
    refine still_val rfl (evalE ⟨E1, B1, S1⟩) rfl (fun q => exec_ldE (cs := ⟨E1, B1, S1⟩) (HX.out _ (hX q)) rfl rfl) ?_
    intro K hK; go_simp; refine hK _ ?_; clear hK K
    refine still_call rfl (.agg NX) 19 #[evalE ⟨E1, B1, S1⟩] rfl (fun q => by kernel_rfl) (fun q => HNX.out _) ?_
    intro K hK; go_simp; refine hK _ ?_; clear hK K
    refine still_val rfl (evalE ⟨E2, B1, S2⟩) rfl (fun q => exec_ldE (cs := ⟨E2, B1, S2⟩) (HY.out _ (hX q)) rfl rfl) ?_
    intro K hK; go_simp; refine hK _ ?_; clear hK K
    refine still_call rfl (.agg NY) 19 #[evalE ⟨E2, B1, S2⟩] rfl (fun q => by kernel_rfl) (fun q => HNY.out _) ?_
    intro K hK; go_simp; refine hK _ ?_; clear hK K
    refine still_val rfl (.bool false) rfl (fun q => exec_eqE (b := false) rfl rfl rfl g12 (HXY.out _)) ?_
    intro K hK; go_simp; refine hK _ ?_; clear hK K
    iterate 4 (refine still_step rfl (fun K hK => ?_); go_simp; refine hK _ ?_; clear hK K)
    refine still_call rfl (.bool true) 11 #[] rfl (fun q => by kernel_rfl) (fun q => cawake_any _) ?_
    intro K hK; go_simp; refine hK _ ?_; clear hK K
    iterate 2 (refine still_step rfl (fun K hK => ?_); go_simp; refine hK _ ?_; clear hK K)
    refine still_nil ?_
    clear hX hne
    intro w8 hw8
    have HG8 := Hid.mk' (HG.out.trans hw8)
    clear hw8
    go_wp2
    go_ret
    exact ⟨rfl, HG8.out.below (Nat.le_refl _) (fun _ _ h => h)⟩
  · rw [decide_eq_false (fun h => hb h.1)] at HXY
    have t1 : ((B1 : Int) == (B2 : Int)) = false := by simpa using fun h : (B1 : Int) = B2 => hb (by omega)
    have t2 : decide ((B1 : Int) = (B2 : Int)) = false := decide_eq_false (by omega)
    clear hb
    go_upto_region 2 with fail
    refine region_chain [] [0, 1, 2, 3, 4, 5, 6, 7, 8, 9, 10, 11, 12, 13, 14, 15, 16, 17] (Grow W0) (Grow W0) (by kernel_rfl) (by kernel_rfl) (fun _ _ h k => h.trans k) (fun _ h => h) ((But.refl _ W0).drew) ?_
    intro ι hne X hX
    refine still_val rfl (evalE ⟨E1, B1, S1⟩) rfl (fun q => exec_ldE (cs := ⟨E1, B1, S1⟩) (HX.out _ (hX q)) rfl rfl) ?_
    intro K hK; go_simp; refine hK _ ?_; clear hK K
    refine still_call rfl (.agg NX) 19 #[evalE ⟨E1, B1, S1⟩] rfl (fun q => by kernel_rfl) (fun q => HNX.out _) ?_
    intro K hK; go_simp; refine hK _ ?_; clear hK K
    refine still_val rfl (evalE ⟨E1, B1, S1⟩) rfl (fun q => exec_ldE (cs := ⟨E1, B1, S1⟩) (HX.out _ (hX q)) rfl rfl) ?_
    intro K hK; go_simp; refine hK _ ?_; clear hK K
    refine still_call rfl (.agg NX) 20 #[evalE ⟨E1, B1, S1⟩] rfl (fun q => by kernel_rfl) (fun q => HRX.out _) ?_
    intro K hK; go_simp; refine hK _ ?_; clear hK K
    refine still_val rfl (.bool true) rfl (fun q => exec_eqE (b := true) rfl rfl rfl g12 (HXX.out _)) ?_
    intro K hK; go_simp; refine hK _ ?_; clear hK K
    refine still_step rfl (fun K hK => ?_); go_simp; refine hK _ ?_; clear hK K
    refine still_val rfl (evalE ⟨E1, B1, S1⟩) rfl (fun q => exec_ldE (cs := ⟨E1, B1, S1⟩) (HX.out _ (hX q)) rfl rfl) ?_
    intro K hK; go_simp; refine hK _ ?_; clear hK K
    refine still_call rfl (.agg NX) 19 #[evalE ⟨E1, B1, S1⟩] rfl (fun q => by kernel_rfl) (fun q => HNX.out _) ?_
    intro K hK; go_simp; refine hK _ ?_; clear hK K
    refine still_val rfl (evalE ⟨E2, B2, S2⟩) rfl (fun q => exec_ldE (cs := ⟨E2, B2, S2⟩) (HY.out _ (hX q)) rfl rfl) ?_
    intro K hK; go_simp; refine hK _ ?_; clear hK K
    refine still_call rfl (.agg NY) 19 #[evalE ⟨E2, B2, S2⟩] rfl (fun q => by kernel_rfl) (fun q => HNY.out _) ?_
    intro K hK; go_simp; refine hK _ ?_; clear hK K
    refine still_val rfl (.bool false) rfl (fun q => exec_eqE (b := false) rfl rfl rfl g12 (HXY.out _)) ?_
    intro K hK; go_simp; refine hK _ ?_; clear hK K
    iterate 4 (refine still_step rfl (fun K hK => ?_); go_simp; refine hK _ ?_; clear hK K)
    refine still_call rfl (.bool true) 11 #[] rfl (fun q => by kernel_rfl) (fun q => cawake_any _) ?_
    intro K hK; go_simp; refine hK _ ?_; clear hK K
    iterate 2 (refine still_step rfl (fun K hK => ?_); go_simp; refine hK _ ?_; clear hK K)
    refine still_nil ?_
    clear hX hne
    intro w8 hw8
    have HG8 := Hid.mk' (HG.out.trans hw8)
    clear hw8
    go_wp2
    go_ret
    exact ⟨rfl, HG8.out.below (Nat.le_refl _) (fun _ _ h => h)⟩
set_option maxRecDepth 100000 in
theorem countNonces_lifted (os : Os) (started : os.Started) (H : Type) (enc : TypeId × Value → H) :
    ReturnsInHanded {} Try.checked os 7 .any (Rows.countNoncesSpec.pre6 enc Try.prog Try.f7 Rows.countNoncesRow.domain false) (Rows.countNoncesSpec.post enc Try.prog Try.f7 false true false false) := by
  refine returnsInHanded_of_change_sized (C := Try.checked) (by kernel_rfl) started (by kernel_rfl) Try.func7
    (ChangeSpec.witness6 (enc := enc) (C := Try.checked) false ⟨#[], #[.agg #[.int .u32 0, .int .u32 0, .int .u64 0], .agg #[.int .u32 0, .int .u32 0, .int .u64 0]], []⟩ 8 (by kernel_rfl) (by kernel_rfl) (by kernel_rfl) (by kernel_rfl)) ?_
  intro W base args ds gs before hval0 hW hcnd hsz0 _
  have hsz : (DataW.weightsEach Try.prog (Try.f7.params.toList ++ Rows.countNoncesSpec.plain.varTypes Try.prog) (ds ++ gs)).all (· ≤ reachBytes) = true := hsz0
  clear hsz0
  have hval : ∀ (j : Nat) t v, Try.f7.params[j]? = some t → args[j]? = some v → Value.okWide Try.prog W .any base t v := hval0
  have hW' := hW
  obtain ⟨p, q, hA0, hV, rfl, hfz, hnd⟩ := hW
  have hA : DataW.TrodAll enc Try.prog W 0 (fun _ => true) true Try.f7.params.toList args.toList ds p := hA0
  rw [Try.params7] at hA hval hsz
  obtain ⟨v0, vs0, d0, ds0, p0, q0, hargs, rfl, rfl, h0, r0⟩ := trodAll_cons hA
  obtain ⟨v1, vs1, d1, ds1, p1, q1, rfl, rfl, rfl, h1, r1⟩ := trodAll_cons r0
  obtain ⟨rfl, rfl, rfl⟩ := trodAll_nil r1
  obtain rfl : args = #[v0, v1] := by cases args; simp_all
  obtain ⟨rfl, rfl⟩ := trodVars_none hV
  have lt0 : ∀ x ∈ p0, x.block < W.heap.size := by obtain ⟨m, hm⟩ := h0; exact DataW.trod_lt m _ _ _ hm
  obtain ⟨z0, w0⟩ := view_entry (hval 0 39 v0 rfl rfl) h0 lt0 hsz (j := 0) rfl rfl
  have lt1 : ∀ x ∈ p1, x.block < W.heap.size := by obtain ⟨m, hm⟩ := h1; exact DataW.trod_lt m _ _ _ hm
  obtain ⟨z1, w1⟩ := view_entry (hval 1 39 v1 rfl rfl) h1 lt1 hsz (j := 1) rfl rfl
  clear hA0 hval0
  refine (countNonces_walk v0 z0 v1 z1 W w0 w1).mono fun e W' ⟨he, bel⟩ => ?_
  subst he
  exact ⟨_, rfl, _, _, _, [], _, [], hW', trodAll_mk1 (shut_bool Try.underlying4 _), (trodAll_cons_mk (Below.trod (by kernel_rfl) (by kernel_rfl) (of_decide_eq_true (by kernel_rfl)) h0 bel lt0) (trodAll_cons_mk (Below.trod (by kernel_rfl) (by kernel_rfl) (of_decide_eq_true (by kernel_rfl)) h1 bel lt1) trodAll_mk0)), rfl, bel.frame _, fun h => by cases h⟩

theorem countNonces_holds : Rows.CountNoncesSaid :=
  OpenClaim.holds_of_wide 7 Try.f7 rfl rfl rfl rfl rfl rfl rfl ⟨rfl, rfl, rfl, rfl, rfl⟩ rfl rfl rfl rfl rfl (by kernel_rfl) Try.func7 (by kernel_rfl)
    (of_decide_eq_true (by kernel_rfl)) (by unfold Func.isWrapper; first | (rw [if_pos (by decide +kernel)]; kernel_rfl) | (rw [if_neg (by decide +kernel)]; exact ⟨rfl, rfl⟩))
    (fun os started H enc _ => countNonces_lifted os started H enc)
#print axioms countNonces_holds
end Go.Proofs.Ytffiphdbjohilaa
