/- Any state is decrypted as the document says. No condition. -/
import Derived.Test.YtdlalpklopnpjaaAesRefFrame
namespace Go.Proofs.Ytdlalpklopnpjaa
open Go.ChangeShapes Go.WideShapes Go.ChangeAt Go.RowKit

set_option maxRecDepth 100000 in
set_option maxHeartbeats 2000000 in
theorem aesDecrypts_walk (v : Value) (xs : List Nat) (u : Value) (b : List B8) (w : World) (hv : Bs w v xs ∧ xs.length ≤ 140737488351232) (hb : b.length = 16 ∧ u = .agg (u8s (nts b)).toArray) :
    Calls Try.prog 4 #[v, u] w fun e w' => e = .returned (.bool true) ∧ Below w.heap.size w w' := by
  obtain ⟨hv, -⟩ := hv
  obtain ⟨hb, rfl⟩ := hb
  obtain ⟨key, rfl, hk⟩ := hv.key
  clear hv
  have hzk := zeroK
  obtain ⟨Z, hZ⟩ : ∃ Z, Z = zeroKey.toArray := ⟨_, rfl⟩
  rw [← hZ] at hzk
  have HZ := Hid.mk' hZ
  obtain ⟨B, hB⟩ : ∃ B, B = (u8s (nts b)).toArray := ⟨_, rfl⟩
  rw [← hB]
  have HB := Hid.mk' hB
  obtain ⟨g, hg⟩ : ∃ g, g = w.heap.size := ⟨_, rfl⟩
  obtain ⟨W0, hW0⟩ : ∃ W0, W0 = w.alloc (.cells B 23) := ⟨_, rfl⟩
  have HBK := Hid.mk' (show Blk W0 g 23 (u8s (nts b)) by rw [hW0, hB]; exact Blk.new hg.symm)
  have HT0 := Hid.mk' (show But (fun _ => False) w W0 by rw [hW0]; exact (But.refl _ w).alloc _)
  have HK := Hid.mk' (hk.but HT0.out (fun _ _ _ h => h))
  have HBN : Hid ((nts b).length = 16) := by show _ = _; rw [nts_len]; exact hb
  have HBL := Hid.mk' hb
  obtain ⟨ao, cap, rfl, -, -⟩ := hk.gen
  have HG := Hid.mk' hg
  have HW0 := Hid.mk' hW0
  clear hb hk hB hg hW0 hZ
  by_cases hlen : key.length = 16 ∨ key.length = 32
  · have HN := Hid.mk' (anew_any HK.out hlen)
    have HLEN := Hid.mk' hlen
    clear hlen
    go_enter Try.func4, Try.ntmps4
    go_wp2_with fail
    rw [← HW0.out, ← HG.out]
    refine Calls.mono HN.out ?_
    rintro e w1 ⟨gc, gb, gw, rfl, hcph, -, hbut⟩
    have HB1 := Hid.mk' (HBK.out.but hbut (fun h => h))
    have HT1 := Hid.mk' (HT0.out.trans hbut)
    have HC1 := Hid.mk' hcph
    have HRN := Hid.mk' (rnew_any (HK.out.but hbut (fun _ _ _ h => h)) HLEN.out)
    clear hbut hcph HN HK HBK HT0 HW0
    go_wp2_with fail
    refine Calls.mono HRN.out ?_
    rintro e w2 ⟨vW, rfl, hwr, hbut2⟩
    obtain ⟨gv, cv, hvw, hgv, -⟩ := id hwr
    have HB2 := Hid.mk' (HB1.out.but hbut2 (fun h => h))
    have HT2 := Hid.mk' (HT1.out.trans hbut2)
    have HC2 := Hid.mk' (HC1.out.grow hbut2)
    have HWR2 := Hid.mk' hwr
    have HON : Hid (∀ u ∈ keyV vW, u.oneCell' = true) := by show ∀ u ∈ keyV vW, u.oneCell' = true; rw [hvw]; exact keyV_one _ _ _
    have HOB : Hid (∀ j, vW.ownBlock = some j → j < w2.heap.size) := by show ∀ j, vW.ownBlock = some j → j < w2.heap.size; rw [hvw]; intro j hj; cases hj; exact hgv
    clear hwr hbut2 hvw hgv HB1 HT1 HC1 HRN
    obtain ⟨KL, hKL⟩ : ∃ KL, KL = keyV vW := ⟨_, rfl⟩
    rw [← hKL] at HON ⊢
    have HKN : Hid (KL.length = 513) := by show _ = _; rw [hKL]; exact keyV_len _
    have HKE := Hid.mk' hKL
    clear hKL
    have HK0 : Hid (Blk (w2.alloc (.cells Z 32)) w2.heap.size 32 zeroKey) := by show Blk _ _ _ _; rw [HZ.out]; exact Blk.new rfl
    go_upto_region 5 with (refine wpList_store_key rfl _ _ rfl w2.heap.size KL HKN.out HON.out rfl (by rfl) HK0.out ?_; intro wz hbz hbutz)
    obtain ⟨gk, hgk⟩ : ∃ gk, gk = w2.heap.size := ⟨_, rfl⟩
    rw [← hgk] at hbz hbutz ⊢
    have HBZ2 : Hid (But (· = gk) w2 wz) := ((But.refl (· = gk) w2).alloc _).trans hbutz
    have hglt : g < gk := by rw [hgk]; exact HB2.out.lt
    have hclt : gc < gk ∧ gb < gk ∧ gw < gk := by rw [hgk]; exact ⟨HC2.out.blk.lt, HC2.out.bxs.lt, HC2.out.wds.elim fun T h => h.lt⟩
    have HZB : Hid (∀ w', But (fun _ => False) wz w' → Blk w' g 23 (u8s (nts b))) := fun w' hw' => (HB2.out.but HBZ2.out (show ¬ (g = gk) by omega)).but hw' (fun h => h)
    have HZK : Hid (∀ w', But (fun _ => False) wz w' → Blk w' gk 32 KL) := fun w' hw' => hbz.but hw' (fun h => h)
    have HZC := Hid.mk' (HC2.out.but HBZ2.out (show ¬ (gc = gk) by omega) (show ¬ (gb = gk) by omega) (show ¬ (gw = gk) by omega))
    have HZW := Hid.mk' (HWR2.out.but HBZ2.out (fun j hj => show ¬ (j = gk) by have := HOB.out j hj; omega))
    have HZT := Hid.mk' (HT2.out.then HBZ2.out (fun i hi e => by have := HT2.out.size; omega))
    have HWL := Hid.mk' (words_lens HLEN.out)
    obtain ⟨W, hW⟩ : ∃ W, W = words key := ⟨_, rfl⟩
    rw [← hW] at HZC HZW HWL
    clear hW hbz hbutz hgk hglt hclt HB2 HC2 HT2 HWR2 HOB HK0 hzk HBZ2
    obtain ⟨KV, hKV⟩ : ∃ KV, KV = KL.toArray := ⟨_, rfl⟩
    rw [← hKV]
    have HKV := Hid.mk' hKV
    obtain ⟨D, hD⟩ : ∃ D, D = (u8s (nts (dec W b))).toArray := ⟨_, rfl⟩
    have HD1 : Hid (∀ w', But (fun _ => False) wz w' → Calls Try.prog 16 #[.pointer (some ⟨gc, 0, none⟩), .agg B] w' fun e w'' => e = .returned (.agg D) ∧ But (fun _ => False) wz w'') := by
      intro w' hw'
      rw [HB.out]
      exact (decrypt_any (HZC.out.grow hw') HBL.out).mono (fun e w'' h => ⟨by rw [h.1, hD], hw'.trans h.2⟩)
    have HD2 : Hid (∀ w', But (fun _ => False) wz w' → Calls Try.prog 17 #[.agg KV, .agg B] w' fun e w'' => e = .returned (.agg D) ∧ But (fun _ => False) wz w'') := by
      intro w' hw'
      rw [HB.out, HKV.out, HKE.out]
      exact (rdec_any HBL.out (HZW.out.but hw' (fun _ _ h => h)) HWL.out).mono (fun e w'' h => ⟨by rw [h.1, hD], hw'.trans h.2⟩)
    have HEQ : Hid (∀ w', (Op.equalIn 10000 23 (.agg D) (.agg D)).run Try.prog w' = .ok true w') := by
      intro w'
      rw [hD, equal16 _ _ (dec_len W b) (dec_len W b) w']; simp
    clear hD hKV
    refine region_same (l := [_, _, _, _, _, _, _, _, _, _, _, _, _, _, _]) (fun w' => But (fun _ => False) wz w') (by kernel_rfl) (by kernel_rfl) ((But.refl _ wz).drew) ?_
    refine guard_val _ rfl (fun w' _ => rfl) ?_
    intro K hK; go_simp; refine hK _ ?_; clear hK K
    refine guard_val _ rfl (fun w' _ => rfl) ?_
    intro K hK; go_simp; refine hK _ ?_; clear hK K
    refine guard_val _ rfl (fun w' _ => rfl) ?_
    intro K hK; go_simp; refine hK _ ?_; clear hK K
    refine guard_val _ rfl (fun w' _ => rfl) ?_
    intro K hK; go_simp; refine hK _ ?_; clear hK K
    refine guard_val (.agg B) rfl (fun w' hw' => by rw [HB.out]; exact run_load_u8s Try.underlying23 i23 (HZB.out w' hw') HBN.out rfl rfl) ?_
    intro K hK; go_simp; refine hK _ ?_; clear hK K
    refine guard_call (.agg D) 16 #[.pointer (some ⟨gc, 0, none⟩), .agg B] rfl (fun w' _ => by kernel_rfl) (fun w' hw' => HD1.out w' hw') ?_
    intro K hK; go_simp; refine hK _ ?_; clear hK K
    refine guard_val (.agg KV) rfl (fun w' hw' => by rw [HKV.out]; exact run_load_key (HZK.out w' hw') HKN.out rfl rfl) ?_
    intro K hK; go_simp; refine hK _ ?_; clear hK K
    refine guard_val (.agg B) rfl (fun w' hw' => by rw [HB.out]; exact run_load_u8s Try.underlying23 i23 (HZB.out w' hw') HBN.out rfl rfl) ?_
    intro K hK; go_simp; refine hK _ ?_; clear hK K
    refine guard_call (.agg D) 17 #[.agg KV, .agg B] rfl (fun w' _ => by kernel_rfl) (fun w' hw' => HD2.out w' hw') ?_
    intro K hK; go_simp; refine hK _ ?_; clear hK K
    refine guard_val (.bool true) rfl (fun w' hw' => by have h := HEQ.out w'; go_simp) ?_
    intro K hK; go_simp; refine hK _ ?_; clear hK K
    refine guard_val _ rfl (fun w' _ => rfl) ?_
    intro K hK; go_simp; refine hK _ ?_; clear hK K
    refine guard_val _ rfl (fun w' _ => rfl) ?_
    intro K hK; go_simp; refine hK _ ?_; clear hK K
    refine guard_call (.bool true) 12 #[] rfl (fun w' _ => by kernel_rfl) (fun w' hw' => (awake_any w').mono (fun e w'' h => ⟨h.1, hw'.trans h.2⟩)) ?_
    intro K hK; go_simp; refine hK _ ?_; clear hK K
    refine guard_val _ rfl (fun w' _ => rfl) ?_
    intro K hK; go_simp; refine hK _ ?_; clear hK K
    refine guard_val _ rfl (fun w' _ => rfl) ?_
    intro K hK; go_simp; refine hK _ ?_; clear hK K
    refine wpQuiet_nil ?_
    intro w9 hw9
    go_wp2
    go_ret
    exact ⟨rfl, (HZT.out.trans hw9).below (Nat.le_refl _) (fun _ _ h => h)⟩
  · have h16 : (nts key).length ≠ 16 := by rw [nts_len]; omega
    have h32 : (nts key).length ≠ 32 := by rw [nts_len]; omega
    have HN := Hid.mk' (anew_none HK.out h16 h32)
    have HRN := Hid.mk' (rnew_none HK.out h16 h32)
    clear hlen h16 h32
    generalize (nts key).length = n at *
    go_enter Try.func4, Try.ntmps4
    go_wp2_with fail
    rw [← HW0.out, ← HG.out]
    refine Calls.mono HN.out ?_
    rintro e w1 ⟨rfl, hw⟩
    have hw' := hw.symm
    subst hw'
    go_wp2_with fail
    refine Calls.mono HRN.out ?_
    rintro e w2 ⟨rfl, hb2⟩
    have HT2 := Hid.mk' (HT0.out.trans hb2)
    have HK0 : Hid (Blk (w2.alloc (.cells Z 32)) w2.heap.size 32 zeroKey) := by show Blk _ _ _ _; rw [HZ.out]; exact Blk.new rfl
    obtain ⟨KL, hKL⟩ : ∃ KL, KL = zeroKey := ⟨_, rfl⟩
    rw [← hKL]
    have HKN : Hid (KL.length = 513) := by show _ = _; rw [hKL]; exact zeroKey_len
    have HON : Hid (∀ u ∈ KL, u.oneCell' = true) := by show ∀ u ∈ KL, u.oneCell' = true; rw [hKL]; exact zeroKey_one
    clear hb2 HN HRN hKL
    go_wp2_with (first
      | (refine wpList_store_key rfl _ _ rfl w2.heap.size KL HKN.out HON.out rfl (by rfl) HK0.out ?_; intro w3 hb3 hbut3)
      | fail)
    refine Calls.mono (awake_any _) ?_
    rintro e w4 ⟨rfl, hb4⟩
    have HT3 : Hid (But (fun _ => False) w w3) := (HT2.out.trans ((But.refl _ w2).alloc _)).then hbut3 (fun i hi e => by have := HT2.out.size; omega)
    have HT4 := Hid.mk' (HT3.out.trans hb4)
    clear hb4 hbut3 hb3
    go_wp2
    go_ret
    exact ⟨rfl, HT4.out.below (Nat.le_refl _) (fun _ _ h => h)⟩

set_option maxRecDepth 100000 in
theorem aesDecrypts_lifted (os : Os) (started : os.Started) (H : Type) (enc : TypeId × Value → H) :
    ReturnsInHanded {} Try.checked os 4 .any (Rows.aesDecryptsSpec.pre6 enc Try.prog Try.f4 Rows.aesDecryptsRow.domain false) (Rows.aesDecryptsSpec.post enc Try.prog Try.f4 false true false false) := by
  refine returnsInHanded_of_change_sized (C := Try.checked) (by kernel_rfl) started (by kernel_rfl) Try.func4
    (ChangeSpec.witness6 (enc := enc) (C := Try.checked) false ⟨#[], #[.slice none 0 0, .agg #[.int .u8 0, .int .u8 0, .int .u8 0, .int .u8 0, .int .u8 0, .int .u8 0, .int .u8 0, .int .u8 0, .int .u8 0, .int .u8 0, .int .u8 0, .int .u8 0, .int .u8 0, .int .u8 0, .int .u8 0, .int .u8 0]], []⟩ 8 (by kernel_rfl) (by kernel_rfl) (by kernel_rfl) (by kernel_rfl)) ?_
  intro W base args ds gs before hval0 hW hcnd hsz0 _
  have hsz : (DataW.weightsEach Try.prog (Try.f4.params.toList ++ Rows.aesDecryptsSpec.plain.varTypes Try.prog) (ds ++ gs)).all (· ≤ reachBytes) = true := hsz0
  clear hsz0
  have hval : ∀ (j : Nat) t v, Try.f4.params[j]? = some t → args[j]? = some v → Value.okWide Try.prog W .any base t v := hval0
  have hW' := hW
  obtain ⟨p, q, hA0, hV, rfl, hfz, hnd⟩ := hW
  have hA : DataW.TrodAll enc Try.prog W 0 (fun _ => true) true Try.f4.params.toList args.toList ds p := hA0
  rw [Try.params4] at hA hval hsz
  obtain ⟨v0, vs0, d0, ds0, p0, q0, hargs, rfl, rfl, h0, r0⟩ := trodAll_cons hA
  obtain ⟨v1, vs1, d1, ds1, p1, q1, rfl, rfl, rfl, h1, r1⟩ := trodAll_cons r0
  obtain ⟨rfl, rfl, rfl⟩ := trodAll_nil r1
  obtain rfl : args = #[v0, v1] := by cases args; simp_all
  obtain ⟨rfl, rfl⟩ := trodVars_none hV
  have lt0 : ∀ x ∈ p0, x.block < W.heap.size := by obtain ⟨m, hm⟩ := h0; exact DataW.trod_lt m _ _ _ hm
  obtain ⟨z0, w0⟩ := view_bytes Try.underlying22 Try.underlying5 (by kernel_rfl) (by kernel_rfl) (hval 0 22 v0 rfl rfl) h0 lt0 hsz (j := 0) rfl rfl
  have lt1 : ∀ x ∈ p1, x.block < W.heap.size := by obtain ⟨m, hm⟩ := h1; exact DataW.trod_lt m _ _ _ hm
  obtain ⟨z1, w1⟩ := view_arr Try.underlying23 Try.underlying5 (by kernel_rfl) (by kernel_rfl) (hval 1 23 v1 rfl rfl) h1 lt1 hsz (j := 1) rfl rfl
  clear hA0 hval0
  refine (aesDecrypts_walk v0 z0 v1 z1 W w0 w1).mono fun e W' ⟨he, bel⟩ => ?_
  subst he
  exact ⟨_, rfl, _, _, _, [], _, [], hW', trodAll_mk1 (shut_bool Try.underlying4 _), (trodAll_cons_mk (Below.trod (by kernel_rfl) (by kernel_rfl) (of_decide_eq_true (by kernel_rfl)) h0 bel lt0) (trodAll_cons_mk (Below.trod (by kernel_rfl) (by kernel_rfl) (of_decide_eq_true (by kernel_rfl)) h1 bel lt1) trodAll_mk0)), rfl, bel.frame _, fun h => by cases h⟩

theorem aesDecrypts_holds : Rows.AesDecryptsSaid :=
  OpenClaim.holds_of_wide 4 Try.f4 rfl rfl rfl rfl rfl rfl rfl ⟨rfl, rfl, rfl, rfl, rfl⟩ rfl rfl rfl rfl rfl (by kernel_rfl) Try.func4 (by kernel_rfl)
    (of_decide_eq_true (by kernel_rfl)) (by unfold Func.isWrapper; first | (rw [if_pos (by decide +kernel)]; kernel_rfl) | (rw [if_neg (by decide +kernel)]; exact ⟨rfl, rfl⟩))
    (fun os started H enc _ => aesDecrypts_lifted os started H enc)
#print axioms aesDecrypts_holds
end Go.Proofs.Ytdlalpklopnpjaa
