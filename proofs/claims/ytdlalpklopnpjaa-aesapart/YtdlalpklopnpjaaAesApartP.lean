/- Unlike states are encrypted unlike. No condition. -/
import Derived.Test.YtdlalpklopnpjaaAesFrame
namespace Go.Proofs.Ytdlalpklopnpjaa
open Go.ChangeShapes Go.WideShapes Go.ChangeAt Go.RowKit

theorem enc_same {W : List (List B8)} {a b : List B8} (ha : a.length = 16) (hb : b.length = 16) : (enc W a = enc W b) = (a = b) := by
  refine propext ⟨fun h => ?_, fun h => by rw [h]⟩
  rw [← dec_enc W a ha, ← dec_enc W b hb, h]
theorem dec_same {W : List (List B8)} {a b : List B8} (ha : a.length = 16) (hb : b.length = 16) : (dec W a = dec W b) = (a = b) := by
  refine propext ⟨fun h => ?_, fun h => by rw [h]⟩
  rw [← enc_dec W a ha, ← enc_dec W b hb, h]
set_option maxRecDepth 100000 in
set_option maxHeartbeats 2000000 in
theorem aesApart_walk (v : Value) (xs : List Nat) (u : Value) (a : List B8) (u2 : Value) (b : List B8) (w : World) (hv : Bs w v xs ∧ xs.length ≤ 140737488351232) (ha : a.length = 16 ∧ u = .agg (u8s (nts a)).toArray) (hb : b.length = 16 ∧ u2 = .agg (u8s (nts b)).toArray) :
    Calls Try.prog 7 #[v, u, u2] w fun e w' => e = .returned (.bool true) ∧ Below w.heap.size w w' := by
  obtain ⟨hv, -⟩ := hv
  obtain ⟨ha, rfl⟩ := ha
  obtain ⟨hb, rfl⟩ := hb
  obtain ⟨key, rfl, hk⟩ := hv.key
  clear hv
  obtain ⟨A, hA⟩ : ∃ A, A = (u8s (nts a)).toArray := ⟨_, rfl⟩
  obtain ⟨B, hB⟩ : ∃ B, B = (u8s (nts b)).toArray := ⟨_, rfl⟩
  rw [← hA, ← hB]
  have HA := Hid.mk' hA
  have HB := Hid.mk' hB
  obtain ⟨g, hg⟩ : ∃ g, g = w.heap.size := ⟨_, rfl⟩
  obtain ⟨W0, hW0⟩ : ∃ W0, W0 = (w.alloc (.cells A 23)).alloc (.cells B 23) := ⟨_, rfl⟩
  have HAK := Hid.mk' (show Blk W0 g 23 (u8s (nts a)) by rw [hW0, hA]; exact (Blk.new hg.symm).but ((But.refl (fun _ => False) _).alloc _) (fun h => h))
  have HBK := Hid.mk' (show Blk W0 (g + 1) 23 (u8s (nts b)) by rw [hW0, hB]; exact Blk.new (by simp [hg]))
  have HT0 := Hid.mk' (show But (fun _ => False) w W0 by rw [hW0]; exact ((But.refl _ w).alloc _).alloc _)
  have HK := Hid.mk' (hk.but HT0.out (fun _ _ _ h => h))
  have HAN : Hid ((nts a).length = 16) := by show _ = _; rw [nts_len]; exact ha
  have HBN : Hid ((nts b).length = 16) := by show _ = _; rw [nts_len]; exact hb
  have HAL := Hid.mk' ha
  have HBL := Hid.mk' hb
  obtain ⟨ao, cap, rfl, -, -⟩ := hk.gen
  have HG := Hid.mk' hg
  have HW0 := Hid.mk' hW0
  clear ha hb hk hA hB hg hW0
  by_cases hlen : key.length = 16 ∨ key.length = 32
  · have HN := Hid.mk' (anew_any HK.out hlen)
    clear hlen
    go_enter Try.func7, Try.ntmps7
    go_wp2_with fail
    rw [← HW0.out, ← HG.out]
    refine Calls.mono HN.out ?_
    rintro e wz ⟨gc, gb, gw, rfl, hcph, -, hbut⟩
    have HZA : Hid (∀ w', But (fun _ => False) wz w' → Blk w' g 23 (u8s (nts a))) := fun w' hw' => (HAK.out.but hbut (fun h => h)).but hw' (fun h => h)
    have HZB : Hid (∀ w', But (fun _ => False) wz w' → Blk w' (g + 1) 23 (u8s (nts b))) := fun w' hw' => (HBK.out.but hbut (fun h => h)).but hw' (fun h => h)
    have HZT := Hid.mk' (HT0.out.trans hbut)
    have HZC := Hid.mk' hcph
    clear hbut hcph HN HK HAK HBK HT0 HW0
    obtain ⟨W, hW⟩ : ∃ W, W = words key := ⟨_, rfl⟩
    rw [← hW] at HZC
    clear hW
    obtain ⟨EA, hEA⟩ : ∃ E, E = (u8s (nts (enc W a))).toArray := ⟨_, rfl⟩
    obtain ⟨EB, hEB⟩ : ∃ E, E = (u8s (nts (enc W b))).toArray := ⟨_, rfl⟩
    obtain ⟨DA, hDA⟩ : ∃ E, E = (u8s (nts (dec W a))).toArray := ⟨_, rfl⟩
    obtain ⟨DB, hDB⟩ : ∃ E, E = (u8s (nts (dec W b))).toArray := ⟨_, rfl⟩
    have HEA1 : Hid (∀ w', But (fun _ => False) wz w' → Calls Try.prog 14 #[.pointer (some ⟨gc, 0, none⟩), .agg A] w' fun e w'' => e = .returned (.agg EA) ∧ But (fun _ => False) wz w'') := by
      intro w' hw'
      rw [HA.out]
      exact (encrypt_any (HZC.out.grow hw') HAL.out).mono (fun e w'' h => ⟨by rw [h.1, hEA], hw'.trans h.2⟩)
    have HEB1 : Hid (∀ w', But (fun _ => False) wz w' → Calls Try.prog 14 #[.pointer (some ⟨gc, 0, none⟩), .agg B] w' fun e w'' => e = .returned (.agg EB) ∧ But (fun _ => False) wz w'') := by
      intro w' hw'
      rw [HB.out]
      exact (encrypt_any (HZC.out.grow hw') HBL.out).mono (fun e w'' h => ⟨by rw [h.1, hEB], hw'.trans h.2⟩)
    have HDA1 : Hid (∀ w', But (fun _ => False) wz w' → Calls Try.prog 16 #[.pointer (some ⟨gc, 0, none⟩), .agg A] w' fun e w'' => e = .returned (.agg DA) ∧ But (fun _ => False) wz w'') := by
      intro w' hw'
      rw [HA.out]
      exact (decrypt_any (HZC.out.grow hw') HAL.out).mono (fun e w'' h => ⟨by rw [h.1, hDA], hw'.trans h.2⟩)
    have HDB1 : Hid (∀ w', But (fun _ => False) wz w' → Calls Try.prog 16 #[.pointer (some ⟨gc, 0, none⟩), .agg B] w' fun e w'' => e = .returned (.agg DB) ∧ But (fun _ => False) wz w'') := by
      intro w' hw'
      rw [HB.out]
      exact (decrypt_any (HZC.out.grow hw') HBL.out).mono (fun e w'' h => ⟨by rw [h.1, hDB], hw'.trans h.2⟩)
    obtain ⟨t, ht⟩ : ∃ t, t = decide (a = b) := ⟨_, rfl⟩
    have HEQ : Hid (∀ w', (Op.equalIn 10000 23 (.agg A) (.agg B)).run Try.prog w' = .ok t w') := by
      intro w'
      rw [HA.out, HB.out, ht]; exact equal16 a b HAL.out HBL.out w'
    have HEE : Hid (∀ w', (Op.equalIn 10000 23 (.agg EA) (.agg EB)).run Try.prog w' = .ok t w') := by
      intro w'
      rw [hEA, hEB, ht, equal16 _ _ (enc_len W a) (enc_len W b) w']
      simp only [enc_same HAL.out HBL.out]
    have HED : Hid (∀ w', (Op.equalIn 10000 23 (.agg DA) (.agg DB)).run Try.prog w' = .ok t w') := by
      intro w'
      rw [hDA, hDB, ht, equal16 _ _ (dec_len W a) (dec_len W b) w']
      simp only [dec_same HAL.out HBL.out]
    clear hEA hEB hDA hDB ht
    go_upto_region 4 with fail
    refine region_same (l := [_, _, _, _, _, _, _, _, _, _, _, _, _, _, _, _, _, _, _, _, _, _, _, _, _, _, _, _]) (fun w' => But (fun _ => False) wz w') (by kernel_rfl) (by kernel_rfl) ((But.refl _ wz).drew) ?_
    refine guard_val (.agg A) rfl (fun w' hw' => by rw [HA.out]; exact run_load_u8s Try.underlying23 i23 (HZA.out w' hw') HAN.out rfl rfl) ?_
    intro K hK; go_simp; refine hK _ ?_; clear hK K
    refine guard_val (.agg B) rfl (fun w' hw' => by rw [HB.out]; exact run_load_u8s Try.underlying23 i23 (HZB.out w' hw') HBN.out rfl rfl) ?_
    intro K hK; go_simp; refine hK _ ?_; clear hK K
    refine guard_val (.bool t) rfl (fun w' hw' => by have h := HEQ.out w'; go_simp) ?_
    intro K hK; go_simp; refine hK _ ?_; clear hK K
    refine guard_val _ rfl (fun w' _ => rfl) ?_
    intro K hK; go_simp; refine hK _ ?_; clear hK K
    refine guard_val (.agg A) rfl (fun w' hw' => by rw [HA.out]; exact run_load_u8s Try.underlying23 i23 (HZA.out w' hw') HAN.out rfl rfl) ?_
    intro K hK; go_simp; refine hK _ ?_; clear hK K
    refine guard_call (.agg EA) 14 #[.pointer (some ⟨gc, 0, none⟩), .agg A] rfl (fun w' _ => by kernel_rfl) (fun w' hw' => HEA1.out w' hw') ?_
    intro K hK; go_simp; refine hK _ ?_; clear hK K
    refine guard_val _ rfl (fun w' _ => rfl) ?_
    intro K hK; go_simp; refine hK _ ?_; clear hK K
    refine guard_val (.agg B) rfl (fun w' hw' => by rw [HB.out]; exact run_load_u8s Try.underlying23 i23 (HZB.out w' hw') HBN.out rfl rfl) ?_
    intro K hK; go_simp; refine hK _ ?_; clear hK K
    refine guard_call (.agg EB) 14 #[.pointer (some ⟨gc, 0, none⟩), .agg B] rfl (fun w' _ => by kernel_rfl) (fun w' hw' => HEB1.out w' hw') ?_
    intro K hK; go_simp; refine hK _ ?_; clear hK K
    refine guard_val (.bool t) rfl (fun w' hw' => by have h := HEE.out w'; go_simp) ?_
    intro K hK; go_simp; refine hK _ ?_; clear hK K
    refine guard_val (.bool true) rfl (fun w' hw' => by cases t <;> rfl) ?_
    intro K hK; go_simp; refine hK _ ?_; clear hK K
    refine guard_val _ rfl (fun w' _ => rfl) ?_
    intro K hK; go_simp; refine hK _ ?_; clear hK K
    refine guard_val (.agg A) rfl (fun w' hw' => by rw [HA.out]; exact run_load_u8s Try.underlying23 i23 (HZA.out w' hw') HAN.out rfl rfl) ?_
    intro K hK; go_simp; refine hK _ ?_; clear hK K
    refine guard_val (.agg B) rfl (fun w' hw' => by rw [HB.out]; exact run_load_u8s Try.underlying23 i23 (HZB.out w' hw') HBN.out rfl rfl) ?_
    intro K hK; go_simp; refine hK _ ?_; clear hK K
    refine guard_val (.bool t) rfl (fun w' hw' => by have h := HEQ.out w'; go_simp) ?_
    intro K hK; go_simp; refine hK _ ?_; clear hK K
    refine guard_val _ rfl (fun w' _ => rfl) ?_
    intro K hK; go_simp; refine hK _ ?_; clear hK K
    refine guard_val (.agg A) rfl (fun w' hw' => by rw [HA.out]; exact run_load_u8s Try.underlying23 i23 (HZA.out w' hw') HAN.out rfl rfl) ?_
    intro K hK; go_simp; refine hK _ ?_; clear hK K
    refine guard_call (.agg DA) 16 #[.pointer (some ⟨gc, 0, none⟩), .agg A] rfl (fun w' _ => by kernel_rfl) (fun w' hw' => HDA1.out w' hw') ?_
    intro K hK; go_simp; refine hK _ ?_; clear hK K
    refine guard_val _ rfl (fun w' _ => rfl) ?_
    intro K hK; go_simp; refine hK _ ?_; clear hK K
    refine guard_val (.agg B) rfl (fun w' hw' => by rw [HB.out]; exact run_load_u8s Try.underlying23 i23 (HZB.out w' hw') HBN.out rfl rfl) ?_
    intro K hK; go_simp; refine hK _ ?_; clear hK K
    refine guard_call (.agg DB) 16 #[.pointer (some ⟨gc, 0, none⟩), .agg B] rfl (fun w' _ => by kernel_rfl) (fun w' hw' => HDB1.out w' hw') ?_
    intro K hK; go_simp; refine hK _ ?_; clear hK K
    refine guard_val (.bool t) rfl (fun w' hw' => by have h := HED.out w'; go_simp) ?_
    intro K hK; go_simp; refine hK _ ?_; clear hK K
    refine guard_val (.bool true) rfl (fun w' hw' => by cases t <;> rfl) ?_
    intro K hK; go_simp; refine hK _ ?_; clear hK K
    refine guard_val _ rfl (fun w' _ => rfl) ?_
    intro K hK; go_simp; refine hK _ ?_; clear hK K
    refine guard_val _ rfl (fun w' _ => rfl) ?_
    intro K hK; go_simp; refine hK _ ?_; clear hK K
    refine guard_call (.bool true) 12 #[] rfl (fun w' _ => by kernel_rfl) (fun w' hw' => (awake_any w').mono (fun e w'' h => ⟨h.1, hw'.trans h.2⟩)) ?_
    intro K hK; go_simp; refine hK _ ?_; clear hK K
    refine guard_val _ rfl (fun w' _ => rfl) ?_
    intro K hK; go_simp; refine hK _ ?_; clear hK K
    refine guard_val _ rfl (fun w' _ => rfl) ?_
    intro K hK; go_simp; refine hK _ ?_; clear hK K
    refine wpQuiet_nil ?_
    intro w9 hw9
    go_wp2
    go_ret
    exact ⟨rfl, (HZT.out.trans hw9).below (Nat.le_refl _) (fun _ _ h => h)⟩
  · have h16 : (nts key).length ≠ 16 := by rw [nts_len]; omega
    have h32 : (nts key).length ≠ 32 := by rw [nts_len]; omega
    have HN := Hid.mk' (anew_none HK.out h16 h32)
    clear hlen h16 h32
    generalize (nts key).length = n at *
    go_enter Try.func7, Try.ntmps7
    go_wp2_with fail
    rw [← HW0.out, ← HG.out]
    refine Calls.mono HN.out ?_
    rintro e w1 ⟨rfl, hw⟩
    have hw' := hw.symm
    subst hw'
    go_wp2_with fail
    refine Calls.mono (awake_any _) ?_
    rintro e w2 ⟨rfl, hb2⟩
    have HT2 := Hid.mk' (HT0.out.trans hb2)
    clear hb2
    go_wp2
    go_ret
    exact ⟨rfl, HT2.out.below (Nat.le_refl _) (fun _ _ h => h)⟩

set_option maxRecDepth 100000 in
theorem aesApart_lifted (os : Os) (started : os.Started) (H : Type) (enc : TypeId × Value → H) :
    ReturnsInHanded {} Try.checked os 7 .any (Rows.aesApartSpec.pre6 enc Try.prog Try.f7 Rows.aesApartRow.domain false) (Rows.aesApartSpec.post enc Try.prog Try.f7 false true false false) := by
  refine returnsInHanded_of_change_sized (C := Try.checked) (by kernel_rfl) started (by kernel_rfl) Try.func7
    (ChangeSpec.witness6 (enc := enc) (C := Try.checked) false ⟨#[], #[.slice none 0 0, .agg #[.int .u8 0, .int .u8 0, .int .u8 0, .int .u8 0, .int .u8 0, .int .u8 0, .int .u8 0, .int .u8 0, .int .u8 0, .int .u8 0, .int .u8 0, .int .u8 0, .int .u8 0, .int .u8 0, .int .u8 0, .int .u8 0], .agg #[.int .u8 0, .int .u8 0, .int .u8 0, .int .u8 0, .int .u8 0, .int .u8 0, .int .u8 0, .int .u8 0, .int .u8 0, .int .u8 0, .int .u8 0, .int .u8 0, .int .u8 0, .int .u8 0, .int .u8 0, .int .u8 0]], []⟩ 8 (by kernel_rfl) (by kernel_rfl) (by kernel_rfl) (by kernel_rfl)) ?_
  intro W base args ds gs before hval0 hW hcnd hsz0 _
  have hsz : (DataW.weightsEach Try.prog (Try.f7.params.toList ++ Rows.aesApartSpec.plain.varTypes Try.prog) (ds ++ gs)).all (· ≤ reachBytes) = true := hsz0
  clear hsz0
  have hval : ∀ (j : Nat) t v, Try.f7.params[j]? = some t → args[j]? = some v → Value.okWide Try.prog W .any base t v := hval0
  have hW' := hW
  obtain ⟨p, q, hA0, hV, rfl, hfz, hnd⟩ := hW
  have hA : DataW.TrodAll enc Try.prog W 0 (fun _ => true) true Try.f7.params.toList args.toList ds p := hA0
  rw [Try.params7] at hA hval hsz
  obtain ⟨v0, vs0, d0, ds0, p0, q0, hargs, rfl, rfl, h0, r0⟩ := trodAll_cons hA
  obtain ⟨v1, vs1, d1, ds1, p1, q1, rfl, rfl, rfl, h1, r1⟩ := trodAll_cons r0
  obtain ⟨v2, vs2, d2, ds2, p2, q2, rfl, rfl, rfl, h2, r2⟩ := trodAll_cons r1
  obtain ⟨rfl, rfl, rfl⟩ := trodAll_nil r2
  obtain rfl : args = #[v0, v1, v2] := by cases args; simp_all
  obtain ⟨rfl, rfl⟩ := trodVars_none hV
  have lt0 : ∀ x ∈ p0, x.block < W.heap.size := by obtain ⟨m, hm⟩ := h0; exact DataW.trod_lt m _ _ _ hm
  obtain ⟨z0, w0⟩ := view_bytes Try.underlying22 Try.underlying5 (by kernel_rfl) (by kernel_rfl) (hval 0 22 v0 rfl rfl) h0 lt0 hsz (j := 0) rfl rfl
  have lt1 : ∀ x ∈ p1, x.block < W.heap.size := by obtain ⟨m, hm⟩ := h1; exact DataW.trod_lt m _ _ _ hm
  obtain ⟨z1, w1⟩ := view_arr Try.underlying23 Try.underlying5 (by kernel_rfl) (by kernel_rfl) (hval 1 23 v1 rfl rfl) h1 lt1 hsz (j := 1) rfl rfl
  have lt2 : ∀ x ∈ p2, x.block < W.heap.size := by obtain ⟨m, hm⟩ := h2; exact DataW.trod_lt m _ _ _ hm
  obtain ⟨z2, w2⟩ := view_arr Try.underlying23 Try.underlying5 (by kernel_rfl) (by kernel_rfl) (hval 2 23 v2 rfl rfl) h2 lt2 hsz (j := 2) rfl rfl
  clear hA0 hval0
  refine (aesApart_walk v0 z0 v1 z1 v2 z2 W w0 w1 w2).mono fun e W' ⟨he, bel⟩ => ?_
  subst he
  exact ⟨_, rfl, _, _, _, [], _, [], hW', trodAll_mk1 (shut_bool Try.underlying4 _), (trodAll_cons_mk (Below.trod (by kernel_rfl) (by kernel_rfl) (of_decide_eq_true (by kernel_rfl)) h0 bel lt0) (trodAll_cons_mk (Below.trod (by kernel_rfl) (by kernel_rfl) (of_decide_eq_true (by kernel_rfl)) h1 bel lt1) (trodAll_cons_mk (Below.trod (by kernel_rfl) (by kernel_rfl) (of_decide_eq_true (by kernel_rfl)) h2 bel lt2) trodAll_mk0))), rfl, bel.frame _, fun h => by cases h⟩

theorem aesApart_holds : Rows.AesApartSaid :=
  OpenClaim.holds_of_wide 7 Try.f7 rfl rfl rfl rfl rfl rfl rfl ⟨rfl, rfl, rfl, rfl, rfl⟩ rfl rfl rfl rfl rfl (by kernel_rfl) Try.func7 (by kernel_rfl)
    (of_decide_eq_true (by kernel_rfl)) (by unfold Func.isWrapper; first | (rw [if_pos (by decide +kernel)]; kernel_rfl) | (rw [if_neg (by decide +kernel)]; exact ⟨rfl, rfl⟩))
    (fun os started H enc _ => aesApart_lifted os started H enc)
#print axioms aesApart_holds
end Go.Proofs.Ytdlalpklopnpjaa
