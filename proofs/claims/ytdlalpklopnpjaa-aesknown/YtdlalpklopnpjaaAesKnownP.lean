/- What the document tells of a key of 32 bytes, and of a cipher that is none. No condition. -/
import Derived.Test.YtdlalpklopnpjaaAesFrame
namespace Go.Proofs.Ytdlalpklopnpjaa
open Go.ChangeShapes Go.WideShapes Go.ChangeAt Go.RowKit

theorem fill_more (k q : Nat) (hk : k < 32) (hq : q = k % 16) : (fill (fun j => j) rise k).set q (rise q) = fill (fun j => j) rise (k + 1) := by
  have hq16 : q < 16 := by omega
  refine at8_ext (by rw [List.length_set]; exact fill_len _ _ _) (fill_len _ _ _) (fun i hi => ?_)
  rw [at8_set _ _ _ _ (by rw [fill_len]; exact hq16)]
  unfold fill
  rw [mk16_at _ i hi, mk16_at _ i hi]
  show (if i = q then rise q else if i < k then rise i else 0) = if i < k + 1 then rise i else 0
  by_cases h : i = q
  · rw [if_pos h, if_pos (by omega), h]
  · rw [if_neg h]
    by_cases h2 : i < k
    · rw [if_pos h2, if_pos (by omega)]
    · rw [if_neg h2, if_neg (by omega)]
theorem fill_full : fill (fun j => j) rise 32 = plain := by
  rw [← rise_all]
  refine at8_ext (fill_len _ _ _) (mk16_len _) (fun i hi => ?_)
  unfold fill
  rw [mk16_at _ i hi, mk16_at _ i hi]
  exact if_pos (show i < 32 by omega)
theorem zero_eq (w : World) : (Op.equalIn 10000 23 (.agg (u8s (List.replicate 16 0)).toArray) (.agg (u8s (List.replicate 16 0)).toArray)).run Try.prog w = .ok true w := by
  have h := equal16 (List.replicate 16 0) (List.replicate 16 0) (by simp) (by simp) w
  rw [nts_rep] at h
  rw [h]; simp
set_option maxRecDepth 100000 in
set_option maxHeartbeats 4000000 in
theorem aesKnown_walk (w : World) :
    Calls Try.prog 8 #[] w fun e w' => e = .returned (.bool true) ∧ Below w.heap.size w w' := by
  obtain ⟨i0, hi, hz0, hz1, hz2⟩ := info_parts u8info
  have hz := zero16
  obtain ⟨Z, hZ⟩ : ∃ Z, Z = (u8s (List.replicate 16 0)).toArray := ⟨_, rfl⟩
  rw [← hZ] at hz
  have HZ := Hid.mk' hZ
  clear hZ
  obtain ⟨g, hg⟩ : ∃ g, g = w.heap.size := ⟨_, rfl⟩
  have HG := Hid.mk' hg
  have HB0 : Hid (Blk (w.alloc (.cells Z 23)) g 23 (u8s (nts (fill (fun j => j) rise 0)))) := by
    show Blk _ _ _ _
    rw [HZ.out, fill_zero, nts_rep]; exact Blk.new hg.symm
  clear hg
  go_enter Try.func8, Try.ntmps8
  go_wp2
  rw [← HG.out]
  obtain ⟨W0, hW0⟩ : ∃ W0, W0 = w.alloc (.cells Z 23) := ⟨_, rfl⟩
  rw [← hW0] at HB0 ⊢
  have HT0 : Hid (But (fun _ => False) w W0) := by show But _ _ _; rw [hW0]; exact (But.refl _ w).alloc _
  clear hW0
  go_loopw [1, 3] (fun o i wr => ∃ k : Nat, k ≤ 32 ∧ i = .int .i64 k ∧ Ow wr (g + 1) o (List.range k) ∧ Blk wr g 23 (u8s (nts (fill (fun j => j) rise k))) ∧ But (fun _ => False) w wr) (fun _ i _ => 32 - (intOf i).toNat)
  case atStart => exact ⟨0, by decide, rfl, Ow.nil _ _, HB0.out, HT0.out⟩
  case round =>
    obtain ⟨k, hk, rfl, ho, hb, hbut⟩ := hrel
    have HO := Hid.mk' ho
    have HB := Hid.mk' hb
    have HT := Hid.mk' hbut
    clear ho hb hbut HB0 HT0
    by_cases hlt : k < 32
    · have hki : (k : Int) < 32 := by omega
      have HR : Hid (wr.ownsRow (g + 1) 5 1 u1 k (u8s (List.range k))) := by have := HO.out.own; rw [List.length_range] at this; exact this
      have HGL : Hid (g + 1 ≤ wr.heap.size) := HB.out.lt
      go_upto_region 7 with (at_builtin; refine wpList_append_own _ rfl _ _ 22 rfl (g + 1) 5 i0 (.int .u8 0) 1 1 Try.underlying22 hi hz0 hz1 hz2 rfl (by decide) _ _ _ rfl (HR.out.alloc _) ⟨wr.heap.size, 0, none⟩ 1 1 [.int .u8 (k : Nat)] rfl rfl (cell_new _ _ _) (by intro u hu; simp at hu; subst hu; rfl) (by unfold maxLen; omega) (by omega) (by simp; have := HGL.out; omega) ?_; intro v' w2 hown' hgrow' hnil')
      have hb2 : But (fun j => g + 1 ≤ j) wr w2 := ((But.refl _ wr).alloc _).grown hgrow' (fun j hj _ => (HO.out.ge j hj).1)
      have HB2 := Hid.mk' (HB.out.but hb2 (show ¬ (g + 1 ≤ g) by omega))
      have HT2 := Hid.mk' (HT.out.then hb2 (fun i hi e => by have := HG.out; omega))
      have HO2 : Hid (Ow w2 (g + 1) v' (List.range (k + 1))) := by
        rw [range_next]
        exact HO.out.push (by omega) (by rw [List.length_range]; omega) (by rw [List.length_range]; exact hown')
      clear hb2 hown' hgrow' hnil' HO HB HT HR
      obtain ⟨q, hq⟩ : ∃ q, q = k % 16 := ⟨_, rfl⟩
      have hq16 : q < 16 := by omega
      have hq16i : (q : Int) < 16 := by omega
      have d1 : Int.tmod (k : Int) 16 = (q : Int) := by rw [Int.tmod_eq_emod_of_nonneg (by omega)]; omega
      have d2 : (k : Int) % 16 = (q : Int) := by omega
      have HQ := Hid.mk' hq
      clear hq
      have c1 := blk_nts HB2.out q (by rw [fill_len]; exact hq16)
      have f1 := HB2.out.free q
      generalize at8 (fill (fun j => j) rise k) q = Y at c1
      have hr := b8_rise q hq16
      go_wp2
      refine ⟨⟨k + 1, by omega, by go_num, ?_⟩, by simp [intOf]; omega⟩
      rw [← hr]
      have hs : But (· = g) w2 (w2.setCell ⟨g, q, none⟩ (.int .u8 (b8 (rise q) : Nat))) := (But.refl (· = g) w2).setCell (p := ⟨g, q, none⟩) (fun _ => rfl) _
      refine ⟨HO2.out.but hs (fun j hj _ e => by have := (HO2.out.ge j hj).1; omega), ?_, HT2.out.then hs (fun i hi e => by have := HG.out; omega)⟩
      rw [← fill_more k q hlt HQ.out]
      exact blk_nts_set HB2.out q _
    · have hk32 : k = 32 := by omega
      subst hk32
      rw [fill_full] at HB
      rw [← key32_nts] at HO
      have HBS := Hid.mk' HO.out.bs
      obtain ⟨ao, cap, hv, -, -⟩ := HBS.out.gen
      have hkl : (nts key32).length = 32 := by rw [nts_len]; rfl
      rw [hkl] at hv
      subst hv
      clear HO
      have HPN : Hid ((nts plain).length = 16) := by show _ = _; rw [nts_len]; rfl
      have HON : Hid ((nts out32).length = 16) := by show _ = _; rw [nts_len]; rfl
      go_wp2_with fail
      refine Calls.mono (anew_any HBS.out (.inr rfl)) ?_
      rintro e w2 ⟨gc, gb, gw, rfl, hcph, -, hbut2⟩
      have HC := Hid.mk' hcph
      have HB2 := Hid.mk' (HB.out.but hbut2 (fun h => h))
      have HT2 := Hid.mk' (HT.out.trans hbut2)
      clear hcph hbut2 HB HT HBS
      go_wp2_with (first
        | (refine wpList_load_u8s Try.underlying23 i23 rfl _ rfl g (nts plain) HPN.out rfl HB2.out ?_)
        | fail)
      refine Calls.mono (encrypt_any (b := plain) HC.out rfl) ?_
      rintro e w3 ⟨rfl, hbut3⟩
      rw [enc_32]
      have HC3 := Hid.mk' (HC.out.grow hbut3)
      have HB3 := Hid.mk' (HB2.out.but hbut3 (fun h => h))
      have HT3 := Hid.mk' (HT2.out.trans hbut3)
      have HZB0 : Hid (Blk (w3.alloc (.cells Z 23)) w3.heap.size 23 (u8s (List.replicate 16 0))) := by show Blk _ _ _ _; rw [HZ.out]; exact Blk.new rfl
      clear hbut3 HC HB2 HT2
      go_upto_region 11 with (refine wpList_store_u8s i23 rfl _ _ rfl w3.heap.size (nts out32) HON.out rfl (by exact rfl) _ (by simp [u8s]) HZB0.out ?_; intro wz hbz hbutz)
      obtain ⟨go, hgo⟩ : ∃ go, go = w3.heap.size := ⟨_, rfl⟩
      rw [← hgo] at hbz hbutz ⊢
      have HBZ2 : Hid (But (· = go) w3 wz) := ((But.refl (· = go) w3).alloc _).trans hbutz
      have hglt : g < go := by rw [hgo]; exact HB3.out.lt
      have hclt : gc < go ∧ gb < go ∧ gw < go := by rw [hgo]; exact ⟨HC3.out.blk.lt, HC3.out.bxs.lt, HC3.out.wds.elim fun T h => h.lt⟩
      have HZP : Hid (∀ w', But (fun _ => False) wz w' → Blk w' g 23 (u8s (nts plain))) := fun w' hw' => (HB3.out.but HBZ2.out (show ¬ (g = go) by omega)).but hw' (fun h => h)
      have HZO : Hid (∀ w', But (fun _ => False) wz w' → Blk w' go 23 (u8s (nts out32))) := fun w' hw' => hbz.but hw' (fun h => h)
      have HZC := Hid.mk' (HC3.out.but HBZ2.out (show ¬ (gc = go) by omega) (show ¬ (gb = go) by omega) (show ¬ (gw = go) by omega))
      have HZT := Hid.mk' (HT3.out.then HBZ2.out (fun i hi e => by have := HT3.out.size; omega))
      have HC0 : Hid (∀ w', But (fun _ => False) wz w' → w'.cell? ⟨go, 0, none⟩ = some (.int .u8 142)) := fun w' hw' => (blk_nts (HZO.out w' hw') 0 (by decide)).trans rfl
      have HC1 : Hid (∀ w', But (fun _ => False) wz w' → w'.cell? ⟨go, 1, none⟩ = some (.int .u8 162)) := fun w' hw' => (blk_nts (HZO.out w' hw') 1 (by decide)).trans rfl
      have HC15 : Hid (∀ w', But (fun _ => False) wz w' → w'.cell? ⟨go, 15, none⟩ = some (.int .u8 137)) := fun w' hw' => (blk_nts (HZO.out w' hw') 15 (by decide)).trans rfl
      obtain ⟨P, hP⟩ : ∃ P, P = (u8s (nts plain)).toArray := ⟨_, rfl⟩
      obtain ⟨O, hO⟩ : ∃ O, O = (u8s (nts out32)).toArray := ⟨_, rfl⟩
      rw [← hP, ← hO]
      have HP := Hid.mk' hP
      have HOE := Hid.mk' hO
      have HD1 : Hid (∀ w', But (fun _ => False) wz w' → Calls Try.prog 16 #[.pointer (some ⟨gc, 0, none⟩), .agg O] w' fun e w'' => e = .returned (.agg P) ∧ But (fun _ => False) wz w'') := by
        intro w' hw'
        rw [hO, hP, ← enc_32]
        exact (decrypt_any (HZC.out.grow hw') (enc_len _ _)).mono (fun e w'' h => ⟨by rw [h.1, dec_enc _ _ rfl], hw'.trans h.2⟩)
      have HEQ : Hid (∀ w', (Op.equalIn 10000 23 (.agg P) (.agg P)).run Try.prog w' = .ok true w') := by
        intro w'
        rw [hP, equal16 plain plain rfl rfl w']; simp
      have HEZ : Hid (∀ w', (Op.equalIn 10000 23 (.agg Z) (.agg Z)).run Try.prog w' = .ok true w') := by
        intro w'
        rw [HZ.out]; exact zero_eq w'
      have HN1 : Hid (∀ w', But (fun _ => False) wz w' → Calls Try.prog 14 #[.pointer none, .agg P] w' fun e w'' => e = .returned (.agg Z) ∧ But (fun _ => False) wz w'') := by
        intro w' hw'
        rw [HZ.out]
        exact (encrypt_nil P).mono (fun e w'' h => ⟨h.1, hw'.trans h.2⟩)
      have HN2 : Hid (∀ w', But (fun _ => False) wz w' → Calls Try.prog 16 #[.pointer none, .agg P] w' fun e w'' => e = .returned (.agg Z) ∧ But (fun _ => False) wz w'') := by
        intro w' hw'
        rw [HZ.out]
        exact (decrypt_nil P).mono (fun e w'' h => ⟨h.1, hw'.trans h.2⟩)
      have HN3 : Hid (∀ w', But (fun _ => False) wz w' → Calls Try.prog 18 #[.pointer none] w' fun e w'' => e = .returned (.slice none 0 0) ∧ But (fun _ => False) wz w'') := by
        intro w' hw'
        exact (words_nil w').mono (fun e w'' h => ⟨h.1, h.2 ▸ hw'⟩)
      clear hP hO hbz hbutz hgo hglt hclt HB3 HC3 HT3 HBZ2 HZB0
      refine region_same (l := [_, _, _, _, _, _, _, _, _, _, _, _, _, _, _, _, _, _, _, _, _, _, _, _, _, _, _, _, _, _, _, _, _, _, _, _, _, _, _, _, _, _, _, _, _]) (fun w' => But (fun _ => False) wz w') (by kernel_rfl) (by kernel_rfl) ((But.refl _ wz).drew) ?_
      refine guard_val _ rfl (fun w' _ => rfl) ?_
      intro K hK; go_simp; refine hK _ ?_; clear hK K
      refine guard_val _ rfl (fun w' _ => rfl) ?_
      intro K hK; go_simp; refine hK _ ?_; clear hK K
      refine guard_val _ rfl (fun w' _ => rfl) ?_
      intro K hK; go_simp; refine hK _ ?_; clear hK K
      refine guard_val (.pointer (some ⟨go, 0, none⟩)) rfl (fun w' hw' => by go_simp) ?_
      intro K hK; go_simp; refine hK _ ?_; clear hK K
      refine guard_val (.int .u8 142) rfl (fun w' hw' => by have c0 := HC0.out w' hw'; go_simp) ?_
      intro K hK; go_simp; refine hK _ ?_; clear hK K
      refine guard_val _ rfl (fun w' _ => rfl) ?_
      intro K hK; go_simp; refine hK _ ?_; clear hK K
      refine guard_val _ rfl (fun w' _ => rfl) ?_
      intro K hK; go_simp; refine hK _ ?_; clear hK K
      refine guard_val _ rfl (fun w' _ => rfl) ?_
      intro K hK; go_simp; refine hK _ ?_; clear hK K
      refine guard_val (.pointer (some ⟨go, 1, none⟩)) rfl (fun w' hw' => by go_simp) ?_
      intro K hK; go_simp; refine hK _ ?_; clear hK K
      refine guard_val (.int .u8 162) rfl (fun w' hw' => by have c0 := HC1.out w' hw'; go_simp) ?_
      intro K hK; go_simp; refine hK _ ?_; clear hK K
      refine guard_val _ rfl (fun w' _ => rfl) ?_
      intro K hK; go_simp; refine hK _ ?_; clear hK K
      refine guard_val _ rfl (fun w' _ => rfl) ?_
      intro K hK; go_simp; refine hK _ ?_; clear hK K
      refine guard_val _ rfl (fun w' _ => rfl) ?_
      intro K hK; go_simp; refine hK _ ?_; clear hK K
      refine guard_val (.pointer (some ⟨go, 15, none⟩)) rfl (fun w' hw' => by go_simp) ?_
      intro K hK; go_simp; refine hK _ ?_; clear hK K
      refine guard_val (.int .u8 137) rfl (fun w' hw' => by have c0 := HC15.out w' hw'; go_simp) ?_
      intro K hK; go_simp; refine hK _ ?_; clear hK K
      refine guard_val _ rfl (fun w' _ => rfl) ?_
      intro K hK; go_simp; refine hK _ ?_; clear hK K
      refine guard_val _ rfl (fun w' _ => rfl) ?_
      intro K hK; go_simp; refine hK _ ?_; clear hK K
      refine guard_val _ rfl (fun w' _ => rfl) ?_
      intro K hK; go_simp; refine hK _ ?_; clear hK K
      refine guard_val _ rfl (fun w' _ => rfl) ?_
      intro K hK; go_simp; refine hK _ ?_; clear hK K
      refine guard_val (.agg O) rfl (fun w' hw' => by rw [HOE.out]; exact run_load_u8s Try.underlying23 i23 (HZO.out w' hw') HON.out rfl rfl) ?_
      intro K hK; go_simp; refine hK _ ?_; clear hK K
      refine guard_call (.agg P) 16 #[.pointer (some ⟨gc, 0, none⟩), .agg O] rfl (fun w' _ => by kernel_rfl) (fun w' hw' => HD1.out w' hw') ?_
      intro K hK; go_simp; refine hK _ ?_; clear hK K
      refine guard_val (.agg P) rfl (fun w' hw' => by rw [HP.out]; exact run_load_u8s Try.underlying23 i23 (HZP.out w' hw') HPN.out rfl rfl) ?_
      intro K hK; go_simp; refine hK _ ?_; clear hK K
      refine guard_val (.bool true) rfl (fun w' hw' => by have h := HEQ.out w'; go_simp) ?_
      intro K hK; go_simp; refine hK _ ?_; clear hK K
      refine guard_val _ rfl (fun w' _ => rfl) ?_
      intro K hK; go_simp; refine hK _ ?_; clear hK K
      refine guard_val _ rfl (fun w' _ => rfl) ?_
      intro K hK; go_simp; refine hK _ ?_; clear hK K
      refine guard_val _ rfl (fun w' _ => rfl) ?_
      intro K hK; go_simp; refine hK _ ?_; clear hK K
      refine guard_val (.agg P) rfl (fun w' hw' => by rw [HP.out]; exact run_load_u8s Try.underlying23 i23 (HZP.out w' hw') HPN.out rfl rfl) ?_
      intro K hK; go_simp; refine hK _ ?_; clear hK K
      refine guard_call (.agg Z) 14 #[.pointer none, .agg P] rfl (fun w' _ => by kernel_rfl) (fun w' hw' => HN1.out w' hw') ?_
      intro K hK; go_simp; refine hK _ ?_; clear hK K
      refine guard_val (.agg Z) rfl (fun w' hw' => by first | (go_simp; done) | (rw [HZ.out]; go_simp; rfl)) ?_
      intro K hK; go_simp; refine hK _ ?_; clear hK K
      refine guard_val (.bool true) rfl (fun w' hw' => by have h := HEZ.out w'; go_simp) ?_
      intro K hK; go_simp; refine hK _ ?_; clear hK K
      refine guard_val _ rfl (fun w' _ => rfl) ?_
      intro K hK; go_simp; refine hK _ ?_; clear hK K
      refine guard_val _ rfl (fun w' _ => rfl) ?_
      intro K hK; go_simp; refine hK _ ?_; clear hK K
      refine guard_val _ rfl (fun w' _ => rfl) ?_
      intro K hK; go_simp; refine hK _ ?_; clear hK K
      refine guard_val (.agg P) rfl (fun w' hw' => by rw [HP.out]; exact run_load_u8s Try.underlying23 i23 (HZP.out w' hw') HPN.out rfl rfl) ?_
      intro K hK; go_simp; refine hK _ ?_; clear hK K
      refine guard_call (.agg Z) 16 #[.pointer none, .agg P] rfl (fun w' _ => by kernel_rfl) (fun w' hw' => HN2.out w' hw') ?_
      intro K hK; go_simp; refine hK _ ?_; clear hK K
      refine guard_val (.agg Z) rfl (fun w' hw' => by first | (go_simp; done) | (rw [HZ.out]; go_simp; rfl)) ?_
      intro K hK; go_simp; refine hK _ ?_; clear hK K
      refine guard_val (.bool true) rfl (fun w' hw' => by have h := HEZ.out w'; go_simp) ?_
      intro K hK; go_simp; refine hK _ ?_; clear hK K
      refine guard_val _ rfl (fun w' _ => rfl) ?_
      intro K hK; go_simp; refine hK _ ?_; clear hK K
      refine guard_val _ rfl (fun w' _ => rfl) ?_
      intro K hK; go_simp; refine hK _ ?_; clear hK K
      refine guard_val _ rfl (fun w' _ => rfl) ?_
      intro K hK; go_simp; refine hK _ ?_; clear hK K
      refine guard_call (.slice none 0 0) 18 #[.pointer none] rfl (fun w' _ => by kernel_rfl) (fun w' hw' => HN3.out w' hw') ?_
      intro K hK; go_simp; refine hK _ ?_; clear hK K
      refine guard_val (.int .i64 0) rfl (fun w' hw' => by go_simp) ?_
      intro K hK; go_simp; refine hK _ ?_; clear hK K
      refine guard_val _ rfl (fun w' _ => rfl) ?_
      intro K hK; go_simp; refine hK _ ?_; clear hK K
      refine guard_val _ rfl (fun w' _ => rfl) ?_
      intro K hK; go_simp; refine hK _ ?_; clear hK K
      refine guard_val _ rfl (fun w' _ => rfl) ?_
      intro K hK; go_simp; refine hK _ ?_; clear hK K
      refine wpQuiet_nil ?_
      intro w9 hw9
      go_wp2
      go_ret
      exact ⟨rfl, (HZT.out.trans hw9).below (Nat.le_refl _) (fun _ _ h => h)⟩

set_option maxRecDepth 100000 in
theorem aesKnown_lifted (os : Os) (started : os.Started) (H : Type) (enc : TypeId × Value → H) :
    ReturnsInHanded {} Try.checked os 8 .any (Rows.aesKnownSpec.pre6 enc Try.prog Try.f8 Rows.aesKnownRow.domain false) (Rows.aesKnownSpec.post enc Try.prog Try.f8 false true false false) := by
  refine returnsInHanded_of_change (C := Try.checked) (by kernel_rfl) started (by kernel_rfl) Try.func8
    (ChangeSpec.witness6 (enc := enc) (C := Try.checked) false ⟨#[], #[], []⟩ 8 (by kernel_rfl) (by kernel_rfl) (by kernel_rfl) (by kernel_rfl)) ?_
  intro W base args ds gs before hval0 hW hcnd _
  have hval : ∀ (j : Nat) t v, Try.f8.params[j]? = some t → args[j]? = some v → Value.okWide Try.prog W .any base t v := hval0
  have hW' := hW
  obtain ⟨p, q, hA0, hV, rfl, hfz, hnd⟩ := hW
  have hA : DataW.TrodAll enc Try.prog W 0 (fun _ => true) true Try.f8.params.toList args.toList ds p := hA0
  rw [Try.params8] at hA hval
  obtain ⟨hargs, rfl, rfl⟩ := trodAll_nil hA
  obtain rfl : args = #[] := by cases args; simp_all
  obtain ⟨rfl, rfl⟩ := trodVars_none hV
  clear hA0 hval0
  refine (aesKnown_walk  W ).mono fun e W' ⟨he, bel⟩ => ?_
  subst he
  exact ⟨_, rfl, _, _, _, [], _, [], hW', trodAll_mk1 (shut_bool Try.underlying4 _), trodAll_mk0, rfl, bel.frame _, fun h => by cases h⟩

theorem aesKnown_holds : Rows.AesKnownSaid :=
  OpenClaim.holds_of_wide 8 Try.f8 rfl rfl rfl rfl rfl rfl rfl ⟨rfl, rfl, rfl, rfl, rfl⟩ rfl rfl rfl rfl rfl (by kernel_rfl) Try.func8 (by kernel_rfl)
    (of_decide_eq_true (by kernel_rfl)) (by unfold Func.isWrapper; first | (rw [if_pos (by decide +kernel)]; kernel_rfl) | (rw [if_neg (by decide +kernel)]; exact ⟨rfl, rfl⟩))
    (fun os started H enc _ => aesKnown_lifted os started H enc)
#print axioms aesKnown_holds
end Go.Proofs.Ytdlalpklopnpjaa
