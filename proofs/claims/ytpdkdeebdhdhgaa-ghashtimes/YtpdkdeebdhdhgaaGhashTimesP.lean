/- The product of any two is the document's. No condition. -/
import Derived.Test.YtpdkdeebdhdhgaaGhashAwake
namespace Go.Proofs.Ytpdkdeebdhdhgaa
open Go.ChangeShapes Go.WideShapes Go.ChangeAt Go.RowKit

set_option maxRecDepth 100000 in
set_option maxHeartbeats 2000000 in
theorem ghashTimes_walk (u : Value) (a : List B8) (u2 : Value) (b : List B8) (w : World) (ha : a.length = 16 ∧ u = .agg (u8s (nts a)).toArray) (hb : b.length = 16 ∧ u2 = .agg (u8s (nts b)).toArray) :
    Calls Try.prog 3 #[u, u2] w fun e w' => e = .returned (.bool true) ∧ Below w.heap.size w w' := by
  obtain ⟨ha, rfl⟩ := ha
  obtain ⟨hb, rfl⟩ := hb
  obtain ⟨A, hA⟩ : ∃ A, A = (u8s (nts a)).toArray := ⟨_, rfl⟩
  obtain ⟨B, hB⟩ : ∃ B, B = (u8s (nts b)).toArray := ⟨_, rfl⟩
  rw [← hA, ← hB]
  have HA := Hid.mk' hA
  have HB := Hid.mk' hB
  obtain ⟨g, hg⟩ : ∃ g, g = w.heap.size := ⟨_, rfl⟩
  obtain ⟨wz, hwz⟩ : ∃ wz, wz = (w.alloc (.cells A 22)).alloc (.cells B 22) := ⟨_, rfl⟩
  have hak : Blk wz g 22 (u8s (nts a)) := by rw [hwz, hA]; exact (Blk.new hg.symm).but ((But.refl (fun _ => False) _).alloc _) (fun h => h)
  have hbk : Blk wz (g + 1) 22 (u8s (nts b)) := by rw [hwz, hB]; exact Blk.new (by simp [hg])
  have HZT := Hid.mk' (show But (fun _ => False) w wz by rw [hwz]; exact ((But.refl _ w).alloc _).alloc _)
  have HZA : Hid (∀ w', But (fun _ => False) wz w' → Blk w' g 22 (u8s (nts a))) := fun w' hw' => hak.but hw' (fun h => h)
  have HZB : Hid (∀ w', But (fun _ => False) wz w' → Blk w' (g + 1) 22 (u8s (nts b))) := fun w' hw' => hbk.but hw' (fun h => h)
  have HAN : Hid ((nts a).length = 16) := by show _ = _; rw [nts_len]; exact ha
  have HBN : Hid ((nts b).length = 16) := by show _ = _; rw [nts_len]; exact hb
  obtain ⟨P, hP⟩ : ∃ P, P = (u8s (nts (gtimes a b))).toArray := ⟨_, rfl⟩
  have HT1 : Hid (∀ w', But (fun _ => False) wz w' → Calls Try.prog 9 #[.agg A, .agg B] w' fun e w'' => e = .returned (.agg P) ∧ But (fun _ => False) wz w'') := by
    intro w' hw'
    rw [hA, hB, hP]
    exact (ptimes_any ha hb).mono (fun e w'' h => ⟨h.1, hw'.trans h.2⟩)
  have HT2 : Hid (∀ w', But (fun _ => False) wz w' → Calls Try.prog 10 #[.agg A, .agg B] w' fun e w'' => e = .returned (.agg P) ∧ But (fun _ => False) wz w'') := by
    intro w' hw'
    rw [hA, hB, hP]
    exact (rgtimes_any ha hb).mono (fun e w'' h => ⟨h.1, hw'.trans h.2⟩)
  have HEQ : Hid (∀ w', (Op.equalIn 10000 22 (.agg P) (.agg P)).run Try.prog w' = .ok true w') := by
    intro w'
    rw [hP, equal16 _ _ (gtimes_len a b) (gtimes_len a b) w']; simp
  have HG := Hid.mk' hg
  have HWZ := Hid.mk' hwz
  clear ha hb hA hB hg hwz hak hbk hP
  go_enter Try.func3, Try.ntmps3
  go_upto_region 1 with fail
  rw [← HWZ.out, ← HG.out]
  refine region_same (l := [_, _, _, _, _, _, _, _, _, _, _]) (fun w' => But (fun _ => False) wz w') (by kernel_rfl) (by kernel_rfl) ((But.refl _ wz).drew) ?_
  refine guard_val (.agg A) rfl (fun w' hw' => by rw [HA.out]; exact run_load_u8s Try.underlying22 i16g (HZA.out w' hw') HAN.out rfl rfl) ?_
  intro K hK; go_simp; refine hK _ ?_; clear hK K
  refine guard_val (.agg B) rfl (fun w' hw' => by rw [HB.out]; exact run_load_u8s Try.underlying22 i16g (HZB.out w' hw') HBN.out rfl rfl) ?_
  intro K hK; go_simp; refine hK _ ?_; clear hK K
  refine guard_call (.agg P) 9 #[.agg A, .agg B] rfl (fun w' _ => by kernel_rfl) (fun w' hw' => HT1.out w' hw') ?_
  intro K hK; go_simp; refine hK _ ?_; clear hK K
  refine guard_val (.agg A) rfl (fun w' hw' => by rw [HA.out]; exact run_load_u8s Try.underlying22 i16g (HZA.out w' hw') HAN.out rfl rfl) ?_
  intro K hK; go_simp; refine hK _ ?_; clear hK K
  refine guard_val (.agg B) rfl (fun w' hw' => by rw [HB.out]; exact run_load_u8s Try.underlying22 i16g (HZB.out w' hw') HBN.out rfl rfl) ?_
  intro K hK; go_simp; refine hK _ ?_; clear hK K
  refine guard_call (.agg P) 10 #[.agg A, .agg B] rfl (fun w' _ => by kernel_rfl) (fun w' hw' => HT2.out w' hw') ?_
  intro K hK; go_simp; refine hK _ ?_; clear hK K
  refine guard_val (.bool true) rfl (fun w' hw' => by have h := HEQ.out w'; go_simp) ?_
  intro K hK; go_simp; refine hK _ ?_; clear hK K
  refine guard_val _ rfl (fun w' _ => rfl) ?_
  intro K hK; go_simp; refine hK _ ?_; clear hK K
  refine guard_call (.bool true) 11 #[] rfl (fun w' _ => by kernel_rfl) (fun w' hw' => (gawake_any w').mono (fun e w'' h => ⟨h.1, hw'.trans h.2⟩)) ?_
  intro K hK; go_simp; refine hK _ ?_; clear hK K
  refine guard_val _ rfl (fun w' _ => rfl) ?_
  intro K hK; go_simp; refine hK _ ?_; clear hK K
  refine guard_val _ rfl (fun w' _ => rfl) ?_
  intro K hK; go_simp; refine hK _ ?_; clear hK K
  refine wpQuiet_nil ?_
  intro w9 hw9
  go_wp2
  go_ret
  exact ⟨rfl, (HZT.out.trans hw9).below (Nat.le_refl _) (fun _ _ h => h)⟩

set_option maxRecDepth 100000 in
theorem ghashTimes_lifted (os : Os) (started : os.Started) (H : Type) (enc : TypeId × Value → H) :
    ReturnsInHanded {} Try.checked os 3 .any (Rows.ghashTimesSpec.pre6 enc Try.prog Try.f3 Rows.ghashTimesRow.domain false) (Rows.ghashTimesSpec.post enc Try.prog Try.f3 false true false false) := by
  refine returnsInHanded_of_change_sized (C := Try.checked) (by kernel_rfl) started (by kernel_rfl) Try.func3
    (ChangeSpec.witness6 (enc := enc) (C := Try.checked) false ⟨#[], #[.agg #[.int .u8 0, .int .u8 0, .int .u8 0, .int .u8 0, .int .u8 0, .int .u8 0, .int .u8 0, .int .u8 0, .int .u8 0, .int .u8 0, .int .u8 0, .int .u8 0, .int .u8 0, .int .u8 0, .int .u8 0, .int .u8 0], .agg #[.int .u8 0, .int .u8 0, .int .u8 0, .int .u8 0, .int .u8 0, .int .u8 0, .int .u8 0, .int .u8 0, .int .u8 0, .int .u8 0, .int .u8 0, .int .u8 0, .int .u8 0, .int .u8 0, .int .u8 0, .int .u8 0]], []⟩ 8 (by kernel_rfl) (by kernel_rfl) (by kernel_rfl) (by kernel_rfl)) ?_
  intro W base args ds gs before hval0 hW hcnd hsz0 _
  have hsz : (DataW.weightsEach Try.prog (Try.f3.params.toList ++ Rows.ghashTimesSpec.plain.varTypes Try.prog) (ds ++ gs)).all (· ≤ reachBytes) = true := hsz0
  clear hsz0
  have hval : ∀ (j : Nat) t v, Try.f3.params[j]? = some t → args[j]? = some v → Value.okWide Try.prog W .any base t v := hval0
  have hW' := hW
  obtain ⟨p, q, hA0, hV, rfl, hfz, hnd⟩ := hW
  have hA : DataW.TrodAll enc Try.prog W 0 (fun _ => true) true Try.f3.params.toList args.toList ds p := hA0
  rw [Try.params3] at hA hval hsz
  obtain ⟨v0, vs0, d0, ds0, p0, q0, hargs, rfl, rfl, h0, r0⟩ := trodAll_cons hA
  obtain ⟨v1, vs1, d1, ds1, p1, q1, rfl, rfl, rfl, h1, r1⟩ := trodAll_cons r0
  obtain ⟨rfl, rfl, rfl⟩ := trodAll_nil r1
  obtain rfl : args = #[v0, v1] := by cases args; simp_all
  obtain ⟨rfl, rfl⟩ := trodVars_none hV
  have lt0 : ∀ x ∈ p0, x.block < W.heap.size := by obtain ⟨m, hm⟩ := h0; exact DataW.trod_lt m _ _ _ hm
  obtain ⟨z0, w0⟩ := view_arr Try.underlying22 Try.underlying5 (by kernel_rfl) (by kernel_rfl) (hval 0 22 v0 rfl rfl) h0 lt0 hsz (j := 0) rfl rfl
  have lt1 : ∀ x ∈ p1, x.block < W.heap.size := by obtain ⟨m, hm⟩ := h1; exact DataW.trod_lt m _ _ _ hm
  obtain ⟨z1, w1⟩ := view_arr Try.underlying22 Try.underlying5 (by kernel_rfl) (by kernel_rfl) (hval 1 22 v1 rfl rfl) h1 lt1 hsz (j := 1) rfl rfl
  clear hA0 hval0
  refine (ghashTimes_walk v0 z0 v1 z1 W w0 w1).mono fun e W' ⟨he, bel⟩ => ?_
  subst he
  exact ⟨_, rfl, _, _, _, [], _, [], hW', trodAll_mk1 (shut_bool Try.underlying4 _), (trodAll_cons_mk (Below.trod (by kernel_rfl) (by kernel_rfl) (of_decide_eq_true (by kernel_rfl)) h0 bel lt0) (trodAll_cons_mk (Below.trod (by kernel_rfl) (by kernel_rfl) (of_decide_eq_true (by kernel_rfl)) h1 bel lt1) trodAll_mk0)), rfl, bel.frame _, fun h => by cases h⟩

theorem ghashTimes_holds : Rows.GhashTimesSaid :=
  OpenClaim.holds_of_wide 3 Try.f3 rfl rfl rfl rfl rfl rfl rfl ⟨rfl, rfl, rfl, rfl, rfl⟩ rfl rfl rfl rfl rfl (by kernel_rfl) Try.func3 (by kernel_rfl)
    (of_decide_eq_true (by kernel_rfl)) (by unfold Func.isWrapper; first | (rw [if_pos (by decide +kernel)]; kernel_rfl) | (rw [if_neg (by decide +kernel)]; exact ⟨rfl, rfl⟩))
    (fun os started H enc _ => ghashTimes_lifted os started H enc)
#print axioms ghashTimes_holds
end Go.Proofs.Ytpdkdeebdhdhgaa
