/- What was encrypted is decrypted to what it was, and the other way about. No condition. -/
import Derived.Test.YtdlalpklopnpjaaAesFrame
namespace Go.Proofs.Ytdlalpklopnpjaa
open Go.ChangeShapes Go.WideShapes Go.ChangeAt Go.RowKit

set_option maxRecDepth 100000 in
set_option maxHeartbeats 2000000 in
theorem aesBack_walk (v : Value) (xs : List Nat) (u : Value) (b : List B8) (w : World) (hv : Bs w v xs ∧ xs.length ≤ 140737488351232) (hb : b.length = 16 ∧ u = .agg (u8s (nts b)).toArray) :
    Calls Try.prog 5 #[v, u] w fun e w' => e = .returned (.bool true) ∧ Below w.heap.size w w' := by
  obtain ⟨hv, -⟩ := hv
  obtain ⟨hb, rfl⟩ := hb
  obtain ⟨key, rfl, hk⟩ := hv.key
  clear hv
  obtain ⟨B, hB⟩ : ∃ B, B = (u8s (nts b)).toArray := ⟨_, rfl⟩
  rw [← hB]
  have HB := Hid.mk' hB
  obtain ⟨g, hg⟩ : ∃ g, g = w.heap.size := ⟨_, rfl⟩
  obtain ⟨W0, hW0⟩ : ∃ W0, W0 = w.alloc (.cells B 23) := ⟨_, rfl⟩
  have HBK := Hid.mk' (show Blk W0 g 23 (u8s (nts b)) by rw [hW0, hB]; exact Blk.new hg.symm)
  have HT0 := Hid.mk' (show But (fun _ => False) w W0 by rw [hW0]; exact (But.refl _ w).alloc _)
  have HK := Hid.mk' (hk.but HT0.out (fun _ _ _ h => h))
  have HBN : Hid ((nts b).length = 16) := by show _ = _; rw [nts_len]; exact hb
  have HBL := Hid.mk' hb
  obtain ⟨ao, cap, rfl, -, -⟩ := hk.gen
  have HG := Hid.mk' hg
  have HW0 := Hid.mk' hW0
  clear hb hk hB hg hW0
  by_cases hlen : key.length = 16 ∨ key.length = 32
  · have HN := Hid.mk' (anew_any HK.out hlen)
    clear hlen
    go_enter Try.func5, Try.ntmps5
    go_wp2_with fail
    rw [← HW0.out, ← HG.out]
    refine Calls.mono HN.out ?_
    rintro e wz ⟨gc, gb, gw, rfl, hcph, -, hbut⟩
    have HZB : Hid (∀ w', But (fun _ => False) wz w' → Blk w' g 23 (u8s (nts b))) := fun w' hw' => (HBK.out.but hbut (fun h => h)).but hw' (fun h => h)
    have HZT := Hid.mk' (HT0.out.trans hbut)
    have HZC := Hid.mk' hcph
    clear hbut hcph HN HK HBK HT0 HW0
    obtain ⟨W, hW⟩ : ∃ W, W = words key := ⟨_, rfl⟩
    rw [← hW] at HZC
    clear hW
    obtain ⟨E, hE⟩ : ∃ E, E = (u8s (nts (enc W b))).toArray := ⟨_, rfl⟩
    obtain ⟨D, hD⟩ : ∃ D, D = (u8s (nts (dec W b))).toArray := ⟨_, rfl⟩
    have HE1 : Hid (∀ w', But (fun _ => False) wz w' → Calls Try.prog 14 #[.pointer (some ⟨gc, 0, none⟩), .agg B] w' fun e w'' => e = .returned (.agg E) ∧ But (fun _ => False) wz w'') := by
      intro w' hw'
      rw [HB.out]
      exact (encrypt_any (HZC.out.grow hw') HBL.out).mono (fun e w'' h => ⟨by rw [h.1, hE], hw'.trans h.2⟩)
    have HD1 : Hid (∀ w', But (fun _ => False) wz w' → Calls Try.prog 16 #[.pointer (some ⟨gc, 0, none⟩), .agg E] w' fun e w'' => e = .returned (.agg B) ∧ But (fun _ => False) wz w'') := by
      intro w' hw'
      rw [HB.out, hE]
      exact (decrypt_any (HZC.out.grow hw') (enc_len W b)).mono (fun e w'' h => ⟨by rw [h.1, dec_enc W b HBL.out], hw'.trans h.2⟩)
    have HD2 : Hid (∀ w', But (fun _ => False) wz w' → Calls Try.prog 16 #[.pointer (some ⟨gc, 0, none⟩), .agg B] w' fun e w'' => e = .returned (.agg D) ∧ But (fun _ => False) wz w'') := by
      intro w' hw'
      rw [HB.out]
      exact (decrypt_any (HZC.out.grow hw') HBL.out).mono (fun e w'' h => ⟨by rw [h.1, hD], hw'.trans h.2⟩)
    have HE2 : Hid (∀ w', But (fun _ => False) wz w' → Calls Try.prog 14 #[.pointer (some ⟨gc, 0, none⟩), .agg D] w' fun e w'' => e = .returned (.agg B) ∧ But (fun _ => False) wz w'') := by
      intro w' hw'
      rw [HB.out, hD]
      exact (encrypt_any (HZC.out.grow hw') (dec_len W b)).mono (fun e w'' h => ⟨by rw [h.1, enc_dec W b HBL.out], hw'.trans h.2⟩)
    have HEQ : Hid (∀ w', (Op.equalIn 10000 23 (.agg B) (.agg B)).run Try.prog w' = .ok true w') := by
      intro w'
      rw [HB.out, equal16 b b HBL.out HBL.out w']; simp
    clear hE hD
    go_upto_region 4 with fail
    refine region_same (l := [_, _, _, _, _, _, _, _, _, _, _, _, _, _, _, _, _, _, _, _]) (fun w' => But (fun _ => False) wz w') (by kernel_rfl) (by kernel_rfl) ((But.refl _ wz).drew) ?_
    refine guard_val _ rfl (fun w' _ => rfl) ?_
    intro K hK; go_simp; refine hK _ ?_; clear hK K
    refine guard_val _ rfl (fun w' _ => rfl) ?_
    intro K hK; go_simp; refine hK _ ?_; clear hK K
    refine guard_val (.agg B) rfl (fun w' hw' => by rw [HB.out]; exact run_load_u8s Try.underlying23 i23 (HZB.out w' hw') HBN.out rfl rfl) ?_
    intro K hK; go_simp; refine hK _ ?_; clear hK K
    refine guard_call (.agg E) 14 #[.pointer (some ⟨gc, 0, none⟩), .agg B] rfl (fun w' _ => by kernel_rfl) (fun w' hw' => HE1.out w' hw') ?_
    intro K hK; go_simp; refine hK _ ?_; clear hK K
    refine guard_call (.agg B) 16 #[.pointer (some ⟨gc, 0, none⟩), .agg E] rfl (fun w' _ => by kernel_rfl) (fun w' hw' => HD1.out w' hw') ?_
    intro K hK; go_simp; refine hK _ ?_; clear hK K
    refine guard_val (.agg B) rfl (fun w' hw' => by rw [HB.out]; exact run_load_u8s Try.underlying23 i23 (HZB.out w' hw') HBN.out rfl rfl) ?_
    intro K hK; go_simp; refine hK _ ?_; clear hK K
    refine guard_val (.bool true) rfl (fun w' hw' => by have h := HEQ.out w'; go_simp) ?_
    intro K hK; go_simp; refine hK _ ?_; clear hK K
    refine guard_val _ rfl (fun w' _ => rfl) ?_
    intro K hK; go_simp; refine hK _ ?_; clear hK K
    refine guard_val _ rfl (fun w' _ => rfl) ?_
    intro K hK; go_simp; refine hK _ ?_; clear hK K
    refine guard_val _ rfl (fun w' _ => rfl) ?_
    intro K hK; go_simp; refine hK _ ?_; clear hK K
    refine guard_val (.agg B) rfl (fun w' hw' => by rw [HB.out]; exact run_load_u8s Try.underlying23 i23 (HZB.out w' hw') HBN.out rfl rfl) ?_
    intro K hK; go_simp; refine hK _ ?_; clear hK K
    refine guard_call (.agg D) 16 #[.pointer (some ⟨gc, 0, none⟩), .agg B] rfl (fun w' _ => by kernel_rfl) (fun w' hw' => HD2.out w' hw') ?_
    intro K hK; go_simp; refine hK _ ?_; clear hK K
    refine guard_call (.agg B) 14 #[.pointer (some ⟨gc, 0, none⟩), .agg D] rfl (fun w' _ => by kernel_rfl) (fun w' hw' => HE2.out w' hw') ?_
    intro K hK; go_simp; refine hK _ ?_; clear hK K
    refine guard_val (.agg B) rfl (fun w' hw' => by rw [HB.out]; exact run_load_u8s Try.underlying23 i23 (HZB.out w' hw') HBN.out rfl rfl) ?_
    intro K hK; go_simp; refine hK _ ?_; clear hK K
    refine guard_val (.bool true) rfl (fun w' hw' => by have h := HEQ.out w'; go_simp) ?_
    intro K hK; go_simp; refine hK _ ?_; clear hK K
    refine guard_val _ rfl (fun w' _ => rfl) ?_
    intro K hK; go_simp; refine hK _ ?_; clear hK K
    refine guard_val _ rfl (fun w' _ => rfl) ?_
    intro K hK; go_simp; refine hK _ ?_; clear hK K
    refine guard_call (.bool true) 12 #[] rfl (fun w' _ => by kernel_rfl) (fun w' hw' => (awake_any w').mono (fun e w'' h => ⟨h.1, hw'.trans h.2⟩)) ?_
    intro K hK; go_simp; refine hK _ ?_; clear hK K
    refine guard_val _ rfl (fun w' _ => rfl) ?_
    intro K hK; go_simp; refine hK _ ?_; clear hK K
    refine guard_val _ rfl (fun w' _ => rfl) ?_
    intro K hK; go_simp; refine hK _ ?_; clear hK K
    refine wpQuiet_nil ?_
    intro w9 hw9
    go_wp2
    go_ret
    exact ⟨rfl, (HZT.out.trans hw9).below (Nat.le_refl _) (fun _ _ h => h)⟩
  · have h16 : (nts key).length ≠ 16 := by rw [nts_len]; omega
    have h32 : (nts key).length ≠ 32 := by rw [nts_len]; omega
    have HN := Hid.mk' (anew_none HK.out h16 h32)
    rw [nts_len] at HN h16 h32 ⊢
    clear hlen
    obtain ⟨n, hn⟩ : ∃ n, n = key.length := ⟨_, rfl⟩
    rw [← hn] at HN h16 h32 ⊢
    clear hn
    have b1 : ((n : Int) != 16) = true := by simp; omega
    have b2 : ((n : Int) != 32) = true := by simp; omega
    clear h16 h32
    go_enter Try.func5, Try.ntmps5
    go_wp2_with fail
    rw [← HW0.out, ← HG.out]
    refine Calls.mono HN.out ?_
    rintro e w1 ⟨rfl, hw⟩
    have hw' := hw.symm
    subst hw'
    go_wp2_with fail
    refine Calls.mono (awake_any _) ?_
    rintro e w2 ⟨rfl, hb2⟩
    have HT2 := Hid.mk' (HT0.out.trans hb2)
    clear hb2
    go_wp2
    go_ret
    exact ⟨rfl, HT2.out.below (Nat.le_refl _) (fun _ _ h => h)⟩

set_option maxRecDepth 100000 in
theorem aesBack_lifted (os : Os) (started : os.Started) (H : Type) (enc : TypeId × Value → H) :
    ReturnsInHanded {} Try.checked os 5 .any (Rows.aesBackSpec.pre6 enc Try.prog Try.f5 Rows.aesBackRow.domain false) (Rows.aesBackSpec.post enc Try.prog Try.f5 false true false false) := by
  refine returnsInHanded_of_change_sized (C := Try.checked) (by kernel_rfl) started (by kernel_rfl) Try.func5
    (ChangeSpec.witness6 (enc := enc) (C := Try.checked) false ⟨#[], #[.slice none 0 0, .agg #[.int .u8 0, .int .u8 0, .int .u8 0, .int .u8 0, .int .u8 0, .int .u8 0, .int .u8 0, .int .u8 0, .int .u8 0, .int .u8 0, .int .u8 0, .int .u8 0, .int .u8 0, .int .u8 0, .int .u8 0, .int .u8 0]], []⟩ 8 (by kernel_rfl) (by kernel_rfl) (by kernel_rfl) (by kernel_rfl)) ?_
  intro W base args ds gs before hval0 hW hcnd hsz0 _
  have hsz : (DataW.weightsEach Try.prog (Try.f5.params.toList ++ Rows.aesBackSpec.plain.varTypes Try.prog) (ds ++ gs)).all (· ≤ reachBytes) = true := hsz0
  clear hsz0
  have hval : ∀ (j : Nat) t v, Try.f5.params[j]? = some t → args[j]? = some v → Value.okWide Try.prog W .any base t v := hval0
  have hW' := hW
  obtain ⟨p, q, hA0, hV, rfl, hfz, hnd⟩ := hW
  have hA : DataW.TrodAll enc Try.prog W 0 (fun _ => true) true Try.f5.params.toList args.toList ds p := hA0
  rw [Try.params5] at hA hval hsz
  obtain ⟨v0, vs0, d0, ds0, p0, q0, hargs, rfl, rfl, h0, r0⟩ := trodAll_cons hA
  obtain ⟨v1, vs1, d1, ds1, p1, q1, rfl, rfl, rfl, h1, r1⟩ := trodAll_cons r0
  obtain ⟨rfl, rfl, rfl⟩ := trodAll_nil r1
  obtain rfl : args = #[v0, v1] := by cases args; simp_all
  obtain ⟨rfl, rfl⟩ := trodVars_none hV
  have lt0 : ∀ x ∈ p0, x.block < W.heap.size := by obtain ⟨m, hm⟩ := h0; exact DataW.trod_lt m _ _ _ hm
  obtain ⟨z0, w0⟩ := view_bytes Try.underlying22 Try.underlying5 (by kernel_rfl) (by kernel_rfl) (hval 0 22 v0 rfl rfl) h0 lt0 hsz (j := 0) rfl rfl
  have lt1 : ∀ x ∈ p1, x.block < W.heap.size := by obtain ⟨m, hm⟩ := h1; exact DataW.trod_lt m _ _ _ hm
  obtain ⟨z1, w1⟩ := view_arr Try.underlying23 Try.underlying5 (by kernel_rfl) (by kernel_rfl) (hval 1 23 v1 rfl rfl) h1 lt1 hsz (j := 1) rfl rfl
  clear hA0 hval0
  refine (aesBack_walk v0 z0 v1 z1 W w0 w1).mono fun e W' ⟨he, bel⟩ => ?_
  subst he
  exact ⟨_, rfl, _, _, _, [], _, [], hW', trodAll_mk1 (shut_bool Try.underlying4 _), (trodAll_cons_mk (Below.trod (by kernel_rfl) (by kernel_rfl) (of_decide_eq_true (by kernel_rfl)) h0 bel lt0) (trodAll_cons_mk (Below.trod (by kernel_rfl) (by kernel_rfl) (of_decide_eq_true (by kernel_rfl)) h1 bel lt1) trodAll_mk0)), rfl, bel.frame _, fun h => by cases h⟩

theorem aesBack_holds : Rows.AesBackSaid :=
  OpenClaim.holds_of_wide 5 Try.f5 rfl rfl rfl rfl rfl rfl rfl ⟨rfl, rfl, rfl, rfl, rfl⟩ rfl rfl rfl rfl rfl (by kernel_rfl) Try.func5 (by kernel_rfl)
    (of_decide_eq_true (by kernel_rfl)) (by unfold Func.isWrapper; first | (rw [if_pos (by decide +kernel)]; kernel_rfl) | (rw [if_neg (by decide +kernel)]; exact ⟨rfl, rfl⟩))
    (fun os started H enc _ => aesBack_lifted os started H enc)
#print axioms aesBack_holds
end Go.Proofs.Ytdlalpklopnpjaa
