/- The program's Decrypt. -/
import Derived.Test.YtdlalpklopnpjaaAesEnc
namespace Go.Proofs.Ytdlalpklopnpjaa
open Go.RowKit

set_option maxRecDepth 100000 in
set_option maxHeartbeats 2000000 in
theorem decrypt_any {w : World} {gc gb gw : Nat} {W : List (List B8)} {b : List B8} (hW : Cph w gc gb gw W) (hb : b.length = 16) :
    Calls Try.prog 16 #[.pointer (some ⟨gc, 0, none⟩), .agg (u8s (nts b)).toArray] w fun e w' => e = .returned (.agg (u8s (nts (dec W b))).toArray) ∧ But (fun _ => False) w w' := by
  have hz := zero16
  have hzs := zeroS
  obtain ⟨Z, hZ⟩ : ∃ Z, Z = (u8s (List.replicate 16 0)).toArray := ⟨_, rfl⟩
  rw [← hZ] at hz hzs
  obtain ⟨C, hC⟩ : ∃ C, C = (u8s (nts b)).toArray := ⟨_, rfl⟩
  rw [← hC]
  have HZ := Hid.mk' hZ
  have HC := Hid.mk' hC
  have HW := Hid.mk' hW
  have HWL := Hid.mk' hW.len
  have HB := Hid.mk' hb
  have HNL : Hid ((nts b).length = 16) := by show _ = _; rw [nts_len]; exact hb
  clear hZ hC hb
  obtain ⟨g, hg⟩ : ∃ g, g = w.heap.size := ⟨_, rfl⟩
  obtain ⟨W0, hW0⟩ : ∃ W0, W0 = ((w.alloc (.cells C 23)).alloc (.cells Z 23)) := ⟨_, rfl⟩
  have hB0 : Blk W0 g 23 (u8s (nts b)) := by rw [hW0, HC.out]; exact (Blk.new hg.symm).but ((But.refl (fun _ => False) _).alloc _) (fun h => h)
  have hR0 : Blk W0 (g + 1) 23 (u8s (List.replicate 16 0)) := by rw [hW0, HZ.out]; exact Blk.new (by simp [hg])
  have hT0 : But (fun _ => False) w W0 := by rw [hW0]; exact ((But.refl _ w).alloc _).alloc _
  have HB0 := Hid.mk' hB0
  have HR0 := Hid.mk' hR0
  have HT0 := Hid.mk' hT0
  have HG := Hid.mk' hg
  have HW0 := Hid.mk' hW0
  have HCW := Hid.mk' (hW.grow hT0)
  have HLL : Hid (4 * (W.length / 4 - 1) + 4 = W.length ∧ 2 ≤ W.length / 4 - 1 ∧ W.length / 4 - 1 ≤ 14) := by show _ ∧ _; have := hW.len; omega
  have HRD := Hid.mk' (rounds_any HCW.out)
  obtain ⟨L, hL⟩ : ∃ L, L = W.length / 4 - 1 := ⟨_, rfl⟩
  rw [← hL] at HLL HRD
  have HL := Hid.mk' hL
  have hL2 : 2 ≤ L := HLL.out.2.1
  have hL14 : L ≤ 14 := HLL.out.2.2
  clear hB0 hR0 hT0 hg hW0 hW hL
  go_enter Try.func16, Try.ntmps16
  go_wp2_with fail
  rw [← HW0.out, ← HG.out]
  refine Calls.mono (made_any HCW.out) ?_
  rintro e w1 ⟨rfl, hw⟩
  have hw' := hw.symm
  subst hw'
  go_wp2_with fail
  refine Calls.mono HRD.out ?_
  rintro e w1 ⟨rfl, hw⟩
  have hw' := hw.symm
  subst hw'
  go_wp2_with (first
    | (refine wpList_load_u8s Try.underlying23 i23 rfl _ rfl g (nts b) HNL.out rfl HB0.out ?_)
    | fail)
  refine Calls.mono (stateOf_any HB.out) ?_
  rintro e w2 ⟨rfl, hb2⟩
  have HT2 := Hid.mk' (HT0.out.trans hb2)
  have HR2 := Hid.mk' (HR0.out.but hb2 (fun h => h))
  have HC2 := Hid.mk' (HCW.out.grow hb2)
  clear hb2 HW0 HRD
  go_wp2_with fail
  refine Calls.mono (keyed_any (r := L) HC2.out HB.out (by have := HLL.out.1; omega)) ?_
  rintro e w3 ⟨rfl, hb3⟩
  have HT3 := Hid.mk' (HT2.out.trans hb3)
  have HR3 := Hid.mk' (HR2.out.but hb3 (fun h => h))
  clear hb3 HT2 HR2 HC2
  obtain ⟨S0, hS0⟩ : ∃ S0, S0 = addK W L b := ⟨_, rfl⟩
  have HSL : Hid (S0.length = 16) := by show _ = _; rw [hS0, addK_len]
  rw [← hS0]
  have HS0 := Hid.mk' hS0
  clear hS0
  go_wp2_with fail
  refine Calls.mono (turnedBack_any HSL.out) ?_
  rintro e w4 ⟨rfl, hb4⟩
  have HT4 := Hid.mk' (HT3.out.trans hb4)
  have HR4 := Hid.mk' (HR3.out.but hb4 (fun h => h))
  clear hb4 HT3 HR3
  obtain ⟨T, hT⟩ : ∃ T, T = untS S0 := ⟨_, rfl⟩
  have HTL : Hid (T.length = 16) := by show _ = _; rw [hT, untS_len]
  have HTN : Hid ((nts T).length = 16) := by show _ = _; rw [nts_len]; exact HTL.out
  rw [← hT]
  have HTE := Hid.mk' hT
  clear hT
  have HBS : Hid (Blk (w4.alloc (.cells Z 57)) w4.heap.size 57 (u8s (List.replicate 16 0))) := by show Blk _ _ _ _; rw [HZ.out]; exact Blk.new rfl
  go_wp2_with (refine wpList_store_u8s i57 rfl _ _ rfl w4.heap.size (nts T) HTN.out rfl (by exact rfl) _ (by simp [u8s]) HBS.out ?_; intro w5 hb5 hbut5)
  obtain ⟨gs, hgs⟩ : ∃ gs, gs = w4.heap.size := ⟨_, rfl⟩
  have HGS : Hid (g + 1 < gs) := by show g + 1 < gs; rw [hgs]; exact HR4.out.lt
  have HIT : Hid (EncP w g gs T w5) := by
    rw [← hgs] at hb5 hbut5
    have ha : But (fun _ => False) w4 (w4.alloc (.cells Z 57)) := (But.refl _ w4).alloc _
    exact ⟨(HR4.out.but ha (fun h => h)).but hbut5 (show ¬ (g + 1 = gs) by have := HGS.out; omega), hb5, (HT4.out.trans ha).then hbut5 (fun i hi e => by have := HGS.out; have := HG.out; omega)⟩
  rw [← hgs]
  clear hb5 hbut5 hgs HT4 HR4 HBS HCW HR0 HT0 HB0 hz hzs
  generalize (u8s (nts S0)).toArray = SV
  generalize (u8s (nts b)).toArray = BV
  generalize (u8s (nts T)).toArray = TV
  obtain ⟨F, hF⟩ : ∃ F : Nat → List B8, F = fun k => map4 bk (wordOf T k) := ⟨_, rfl⟩
  have HF := Hid.mk' hF
  clear hF
  go_loopw [23] (fun i wr => ∃ k : Nat, k ≤ 4 ∧ i = .int .i64 k ∧ EncP w g gs (colsTo F T k) wr) (fun i _ => 4 - (intOf i).toNat)
  case atStart => exact ⟨0, by decide, rfl, by rw [colsTo_zero F HTL.out]; exact HIT.out⟩
  case round =>
    obtain ⟨k, hk, rfl, hI⟩ := hrel
    obtain ⟨M, hM⟩ : ∃ M, M = colsTo F T k := ⟨_, rfl⟩
    have HML : Hid (M.length = 16) := by show _ = _; rw [hM, colsTo_len]
    rw [← hM] at hI
    have HM := Hid.mk' hM
    have HI2 := Hid.mk' hI
    clear hI hM HIT
    by_cases hlt : k < 4
    · have hki : (k : Int) < 4 := by omega
      have HMW : Hid (wordOf M k = wordOf T k) := by show _ = _; rw [HM.out]; exact colsTo_word F T k hlt
      have HC3 := Hid.mk' (HW.out.grow HI2.out.but)
      have HC0 : Hid (∀ w', But (fun _ => False) wr w' → w'.cell? ⟨gc, 0, none⟩ = some (.pointer (some ⟨gb, 0, none⟩))) := by
        intro w' hw'
        rw [(HC3.out.grow hw').blk.cell]; rfl
      go_upto_region 8 with fail
      refine region_class (l := [_, _, _, _, _, _, _, _, _, _]) (o := _) (fun w' => But (fun _ => False) wr w') (by kernel_rfl) (by kernel_rfl) (by kernel_rfl) rfl (by kernel_rfl) (by kernel_rfl) ((But.refl _ wr).drew) ?_
      refine class_val _ rfl (fun w' _ => rfl) ?_
      intro K hK; go_simp; refine hK _ ?_; clear hK K
      refine class_val _ rfl (fun w' _ => rfl) ?_
      intro K hK; go_simp; refine hK _ ?_; clear hK K
      refine class_val (.pointer (some ⟨gs, k * 4, none⟩)) rfl (fun w' _ => by go_simp) ?_
      intro K hK; go_simp; refine hK _ ?_; clear hK K
      refine class_val (.agg (u8s (nts (wordOf M k))).toArray) rfl (fun w' hw' => run_load_col (HI2.out.st.but hw' (fun h => h)) (k * 4) k (by have := HML.out; omega) (by omega) rfl rfl) ?_
      intro K hK; go_simp; refine hK _ ?_; clear hK K
      refine class_val _ rfl (fun w' _ => rfl) ?_
      intro K hK; go_simp; refine hK _ ?_; clear hK K
      refine class_val (.pointer (some ⟨gc, 0, none⟩)) rfl (fun w' _ => by go_simp) ?_
      intro K hK; go_simp; refine hK _ ?_; clear hK K
      refine class_val (.pointer (some ⟨gc, 0, none⟩)) rfl (fun w' _ => by go_simp) ?_
      intro K hK; go_simp; refine hK _ ?_; clear hK K
      refine class_val (.pointer (some ⟨gb, 0, none⟩)) rfl (fun w' hw' => by have c0 := HC0.out w' hw'; go_simp) ?_
      intro K hK; go_simp; refine hK _ ?_; clear hK K
      refine class_call (.agg (u8s (nts (F k))).toArray) 35 #[.agg (u8s (nts (wordOf M k))).toArray, .pointer (some ⟨gb, 0, none⟩)] rfl (fun w' _ => by kernel_rfl) (fun w' hw' => (cunboxed_any (HC3.out.grow hw').bxs (word_len M k)).mono (fun e w'' h => ⟨by rw [h.1, HMW.out, HF.out], hw'.trans h.2⟩)) ?_
      intro K hK; go_simp; refine hK _ ?_; clear hK K
      refine class_val (.pointer (some ⟨gs, k * 4, none⟩)) rfl (fun w' _ => by go_simp) ?_
      intro K hK; go_simp; refine hK _ ?_; clear hK K
      refine wpQuiet_nil ?_
      intro w5 hw5
      have HFL : Hid ((F k).length = 4) := by show _ = _; rw [HF.out]; rfl
      have HS5 := Hid.mk' (HI2.out.st.but hw5 (fun h => h))
      go_wp2_with (refine wpList_store_col rfl _ _ rfl gs (k * 4) k 57 M (F k) HML.out HFL.out hlt (by omega) (by rfl) (by rfl) HS5.out ?_; intro w6 hb6 hbut6)
      refine ⟨⟨k + 1, by omega, by go_num, ?_⟩, by simp [intOf]; omega⟩
      refine (HI2.out.then hw5).put HG.out HGS.out hbut6 ?_
      rw [← colsTo_set _ k hlt HFL.out, ← HM.out]
      exact hb6
    · have hk4 : k = 4 := by omega
      subst hk4
      have HD1 : Hid (M = decR W L b 1) := by
        show _ = _
        rw [HM.out, colsTo_all, HF.out, HTE.out, unsubs_cols, HS0.out]
        show _ = unsubs (if L - 0 < L then mixBy rev (addK W (L - 0) b) else addK W (L - 0) b)
        rw [Nat.sub_zero, if_neg (Nat.lt_irrefl _)]
      rw [HD1.out] at HI2
      have HI0 := HI2
      clear HI2 HD1 HM HML HF HTE HTL HTN HSL HS0
      obtain ⟨q, hq⟩ : ∃ q, L = q + 1 := ⟨L - 1, by omega⟩
      have HQ := Hid.mk' hq
      rw [show (((4 : Nat) : Int)) = 4 from rfl]
      go_wp2
      go_loopw [8] (fun i wr => ∃ n p : Nat, 1 ≤ n ∧ n + p = L ∧ i = .int .i64 (p : Nat) ∧ EncP w g gs (decR W L b n) wr) (fun i _ => (intOf i).toNat)
      case atStart => exact ⟨1, q, by decide, by omega, rfl, HI0.out⟩
      case round =>
        obtain ⟨n, p, hn1, hnp, rfl, hI⟩ := hrel
        obtain ⟨S, hS⟩ : ∃ S, S = decR W L b n := ⟨_, rfl⟩
        rw [← hS] at hI
        have HSL : Hid (S.length = 16) := by show _ = _; rw [hS, decR_len _ _ _ HB.out]
        have HSN : Hid ((nts S).length = 16) := by show _ = _; rw [nts_len]; exact HSL.out
        have HSU : Hid ((u8s (nts S)).length = 16) := by show _ = _; unfold u8s; rw [List.length_map]; exact HSN.out
        have HSE := Hid.mk' hS
        have HI1 := Hid.mk' hI
        have HNP := Hid.mk' hnp
        clear hS hI HI0 hq
        have HC4 := Hid.mk' (HW.out.grow HI1.out.but)
        by_cases hp : 0 < p
        · have hpi : 0 < (p : Int) := by omega
          obtain ⟨T, hT⟩ : ∃ T, T = addK W p S := ⟨_, rfl⟩
          have HTL : Hid (T.length = 16) := by show _ = _; rw [hT, addK_len]
          have HTN : Hid ((nts T).length = 16) := by show _ = _; rw [nts_len]; exact HTL.out
          have HTE := Hid.mk' hT
          clear hT hnp
          have hp14 : p ≤ 14 := by have := HNP.out; omega
          go_wp2_with (first
            | (refine wpList_load_u8s Try.underlying57 i57 rfl _ rfl gs (nts S) HSN.out rfl HI1.out.st ?_)
            | fail)
          refine Calls.mono (keyed_any (r := p) HC4.out HSL.out (by have := HLL.out.1; have := HNP.out; omega)) ?_
          rintro e w6 ⟨rfl, hb6⟩
          rw [← HTE.out]
          have HI6 := Hid.mk' (HI1.out.then hb6)
          clear hb6 HI1 HC4
          go_wp2_with (refine wpList_store_u8s i57 rfl _ _ rfl gs (nts T) HTN.out rfl (by exact rfl) _ HSU.out HI6.out.st ?_; intro w7 hb7 hbut7)
          have HIT := Hid.mk' (HI6.out.put HG.out HGS.out hbut7 hb7)
          clear hb7 hbut7 HI6
          generalize (u8s (nts S)).toArray = SV2
          generalize (u8s (nts T)).toArray = TV2
          obtain ⟨F, hF⟩ : ∃ F : Nat → List B8, F = fun k => mixN (wordOf T k) 3 := ⟨_, rfl⟩
          have HF := Hid.mk' hF
          clear hF
          go_loopw [47] (fun i wr => ∃ k : Nat, k ≤ 4 ∧ i = .int .i64 k ∧ EncP w g gs (colsTo F T k) wr) (fun i _ => 4 - (intOf i).toNat)
          case atStart => exact ⟨0, by decide, rfl, by rw [colsTo_zero F HTL.out]; exact HIT.out⟩
          case round =>
            obtain ⟨k, hk, rfl, hI⟩ := hrel
            obtain ⟨M, hM⟩ : ∃ M, M = colsTo F T k := ⟨_, rfl⟩
            have HML : Hid (M.length = 16) := by show _ = _; rw [hM, colsTo_len]
            rw [← hM] at hI
            have HM := Hid.mk' hM
            have HI2 := Hid.mk' hI
            clear hI hM HIT
            by_cases hlt : k < 4
            · have hki : (k : Int) < 4 := by omega
              have HMW : Hid (wordOf M k = wordOf T k) := by show _ = _; rw [HM.out]; exact colsTo_word F T k hlt
              have HC3 := Hid.mk' (HW.out.grow HI2.out.but)
              have HC0 : Hid (∀ w', But (fun _ => False) wr w' → w'.cell? ⟨gc, 0, none⟩ = some (.pointer (some ⟨gb, 0, none⟩))) := by
                intro w' hw'
                rw [(HC3.out.grow hw').blk.cell]; rfl
              go_upto_region 17 with fail
              refine region_class (l := [_, _, _, _, _, _, _, _, _, _]) (o := _) (fun w' => But (fun _ => False) wr w') (by kernel_rfl) (by kernel_rfl) (by kernel_rfl) rfl (by kernel_rfl) (by kernel_rfl) ((But.refl _ wr).drew) ?_
              refine class_val _ rfl (fun w' _ => rfl) ?_
              intro K hK; go_simp; refine hK _ ?_; clear hK K
              refine class_val _ rfl (fun w' _ => rfl) ?_
              intro K hK; go_simp; refine hK _ ?_; clear hK K
              refine class_val (.pointer (some ⟨gs, k * 4, none⟩)) rfl (fun w' _ => by go_simp) ?_
              intro K hK; go_simp; refine hK _ ?_; clear hK K
              refine class_val (.agg (u8s (nts (wordOf M k))).toArray) rfl (fun w' hw' => run_load_col (HI2.out.st.but hw' (fun h => h)) (k * 4) k (by have := HML.out; omega) (by omega) rfl rfl) ?_
              intro K hK; go_simp; refine hK _ ?_; clear hK K
              refine class_val _ rfl (fun w' _ => rfl) ?_
              intro K hK; go_simp; refine hK _ ?_; clear hK K
              refine class_val (.pointer (some ⟨gc, 0, none⟩)) rfl (fun w' _ => by go_simp) ?_
              intro K hK; go_simp; refine hK _ ?_; clear hK K
              refine class_val (.pointer (some ⟨gc, 0, none⟩)) rfl (fun w' _ => by go_simp) ?_
              intro K hK; go_simp; refine hK _ ?_; clear hK K
              refine class_val (.pointer (some ⟨gb, 0, none⟩)) rfl (fun w' hw' => by have c0 := HC0.out w' hw'; go_simp) ?_
              intro K hK; go_simp; refine hK _ ?_; clear hK K
              refine class_call (.agg (u8s (nts (F k))).toArray) 36 #[.agg (u8s (nts (wordOf M k))).toArray, .pointer (some ⟨gb, 0, none⟩)] rfl (fun w' _ => by kernel_rfl) (fun w' hw' => (unmixed_any (HC3.out.grow hw').bxs (word_len M k)).mono (fun e w'' h => ⟨by rw [h.1, HMW.out, HF.out], hw'.trans h.2⟩)) ?_
              intro K hK; go_simp; refine hK _ ?_; clear hK K
              refine class_val (.pointer (some ⟨gs, k * 4, none⟩)) rfl (fun w' _ => by go_simp) ?_
              intro K hK; go_simp; refine hK _ ?_; clear hK K
              refine wpQuiet_nil ?_
              intro w5 hw5
              have HFL : Hid ((F k).length = 4) := by show _ = _; rw [HF.out]; rfl
              have HS5 := Hid.mk' (HI2.out.st.but hw5 (fun h => h))
              go_wp2_with (refine wpList_store_col rfl _ _ rfl gs (k * 4) k 57 M (F k) HML.out HFL.out hlt (by omega) (by rfl) (by rfl) HS5.out ?_; intro w6 hb6 hbut6)
              refine ⟨⟨k + 1, by omega, by go_num, ?_⟩, by simp [intOf]; omega⟩
              refine (HI2.out.then hw5).put HG.out HGS.out hbut6 ?_
              rw [← colsTo_set _ k hlt HFL.out, ← HM.out]
              exact hb6
            · have hk4 : k = 4 := by omega
              subst hk4
              have HMX : Hid (M = mixBy rev T) := by show _ = _; rw [HM.out, colsTo_all, HF.out, unmix_cols]
              have HMN : Hid ((nts M).length = 16) := by show _ = _; rw [nts_len]; exact HML.out
              have HMU : Hid ((u8s (nts M)).length = 16) := by show _ = _; unfold u8s; rw [List.length_map]; exact HMN.out
              obtain ⟨U, hU⟩ : ∃ U, U = untS M := ⟨_, rfl⟩
              have HUL : Hid (U.length = 16) := by show _ = _; rw [hU, untS_len]
              have HUN : Hid ((nts U).length = 16) := by show _ = _; rw [nts_len]; exact HUL.out
              have HUE := Hid.mk' hU
              clear hU HM HF
              go_wp2_with (first
                | (refine wpList_load_u8s Try.underlying57 i57 rfl _ rfl gs (nts M) HMN.out rfl HI2.out.st ?_)
                | fail)
              refine Calls.mono (turnedBack_any HML.out) ?_
              rintro e w8 ⟨rfl, hb8⟩
              rw [← HUE.out]
              have HI8 := Hid.mk' (HI2.out.then hb8)
              clear hb8 HI2
              go_wp2_with (refine wpList_store_u8s i57 rfl _ _ rfl gs (nts U) HUN.out rfl (by exact rfl) _ HMU.out HI8.out.st ?_; intro w9 hb9 hbut9)
              have HIT := Hid.mk' (HI8.out.put HG.out HGS.out hbut9 hb9)
              have HTLo := HTL
              have HTL := HUL
              clear hb9 hbut9 HI8
              generalize (u8s (nts M)).toArray = MV3
              generalize (u8s (nts U)).toArray = UV3
              obtain ⟨F, hF⟩ : ∃ F : Nat → List B8, F = fun k => map4 bk (wordOf U k) := ⟨_, rfl⟩
              have HF := Hid.mk' hF
              clear hF
              have HUX : Hid (unsubs (mixBy rev T) = cols F) := by show _ = _; rw [HF.out, HUE.out, HMX.out, unsubs_cols]
              clear HUE HMX
              go_loopw [63] (fun i wr => ∃ k : Nat, k ≤ 4 ∧ i = .int .i64 k ∧ EncP w g gs (colsTo F U k) wr) (fun i _ => 4 - (intOf i).toNat)
              case atStart => exact ⟨0, by decide, rfl, by rw [colsTo_zero F HTL.out]; exact HIT.out⟩
              case round =>
                obtain ⟨k, hk, rfl, hI⟩ := hrel
                obtain ⟨M, hM⟩ : ∃ M, M = colsTo F U k := ⟨_, rfl⟩
                have HML : Hid (M.length = 16) := by show _ = _; rw [hM, colsTo_len]
                rw [← hM] at hI
                have HM := Hid.mk' hM
                have HI2 := Hid.mk' hI
                clear hI hM HIT
                by_cases hlt : k < 4
                · have hki : (k : Int) < 4 := by omega
                  have HMW : Hid (wordOf M k = wordOf U k) := by show _ = _; rw [HM.out]; exact colsTo_word F U k hlt
                  have HC3 := Hid.mk' (HW.out.grow HI2.out.but)
                  have HC0 : Hid (∀ w', But (fun _ => False) wr w' → w'.cell? ⟨gc, 0, none⟩ = some (.pointer (some ⟨gb, 0, none⟩))) := by
                    intro w' hw'
                    rw [(HC3.out.grow hw').blk.cell]; rfl
                  go_upto_region 23 with fail
                  refine region_class (l := [_, _, _, _, _, _, _, _, _, _]) (o := _) (fun w' => But (fun _ => False) wr w') (by kernel_rfl) (by kernel_rfl) (by kernel_rfl) rfl (by kernel_rfl) (by kernel_rfl) ((But.refl _ wr).drew) ?_
                  refine class_val _ rfl (fun w' _ => rfl) ?_
                  intro K hK; go_simp; refine hK _ ?_; clear hK K
                  refine class_val _ rfl (fun w' _ => rfl) ?_
                  intro K hK; go_simp; refine hK _ ?_; clear hK K
                  refine class_val (.pointer (some ⟨gs, k * 4, none⟩)) rfl (fun w' _ => by go_simp) ?_
                  intro K hK; go_simp; refine hK _ ?_; clear hK K
                  refine class_val (.agg (u8s (nts (wordOf M k))).toArray) rfl (fun w' hw' => run_load_col (HI2.out.st.but hw' (fun h => h)) (k * 4) k (by have := HML.out; omega) (by omega) rfl rfl) ?_
                  intro K hK; go_simp; refine hK _ ?_; clear hK K
                  refine class_val _ rfl (fun w' _ => rfl) ?_
                  intro K hK; go_simp; refine hK _ ?_; clear hK K
                  refine class_val (.pointer (some ⟨gc, 0, none⟩)) rfl (fun w' _ => by go_simp) ?_
                  intro K hK; go_simp; refine hK _ ?_; clear hK K
                  refine class_val (.pointer (some ⟨gc, 0, none⟩)) rfl (fun w' _ => by go_simp) ?_
                  intro K hK; go_simp; refine hK _ ?_; clear hK K
                  refine class_val (.pointer (some ⟨gb, 0, none⟩)) rfl (fun w' hw' => by have c0 := HC0.out w' hw'; go_simp) ?_
                  intro K hK; go_simp; refine hK _ ?_; clear hK K
                  refine class_call (.agg (u8s (nts (F k))).toArray) 35 #[.agg (u8s (nts (wordOf M k))).toArray, .pointer (some ⟨gb, 0, none⟩)] rfl (fun w' _ => by kernel_rfl) (fun w' hw' => (cunboxed_any (HC3.out.grow hw').bxs (word_len M k)).mono (fun e w'' h => ⟨by rw [h.1, HMW.out, HF.out], hw'.trans h.2⟩)) ?_
                  intro K hK; go_simp; refine hK _ ?_; clear hK K
                  refine class_val (.pointer (some ⟨gs, k * 4, none⟩)) rfl (fun w' _ => by go_simp) ?_
                  intro K hK; go_simp; refine hK _ ?_; clear hK K
                  refine wpQuiet_nil ?_
                  intro w5 hw5
                  have HFL : Hid ((F k).length = 4) := by show _ = _; rw [HF.out]; rfl
                  have HS5 := Hid.mk' (HI2.out.st.but hw5 (fun h => h))
                  go_wp2_with (refine wpList_store_col rfl _ _ rfl gs (k * 4) k 57 M (F k) HML.out HFL.out hlt (by omega) (by rfl) (by rfl) HS5.out ?_; intro w6 hb6 hbut6)
                  refine ⟨⟨k + 1, by omega, by go_num, ?_⟩, by simp [intOf]; omega⟩
                  refine (HI2.out.then hw5).put HG.out HGS.out hbut6 ?_
                  rw [← colsTo_set _ k hlt HFL.out, ← HM.out]
                  exact hb6
                · have hk4 : k = 4 := by omega
                  subst hk4
                  have hst : decR W L b (n + 1) = M := by
                    show unsubs (if L - n < L then mixBy rev (addK W (L - n) (decR W L b n)) else addK W (L - n) (decR W L b n)) = M
                    have e : L - n = p := by have := HNP.out; omega
                    rw [e, if_pos (by have := HNP.out; omega), ← HSE.out, ← HTE.out, HUX.out, HM.out, colsTo_all]
                  rw [← hst] at HI2
                  clear hst
                  obtain ⟨p', hp'⟩ : ∃ p', p = p' + 1 := ⟨p - 1, by omega⟩
                  have HPP := Hid.mk' hp'
                  have d1 : (p : Int) - 1 = (p' : Int) := by omega
                  clear hp'
                  go_wp2
                  refine ⟨⟨n + 1, p', by omega, by have := HNP.out; have := HPP.out; omega, rfl, HI2.out⟩, by simp [intOf]; omega⟩
        · have hp0 : p = 0 := by omega
          subst hp0
          have HNL2 : Hid (n = L) := by show _ = _; omega
          rw [HNL2.out] at HSE
          obtain ⟨N, hN⟩ : ∃ N, N = addK W 0 S := ⟨_, rfl⟩
          have HNL3 : Hid (N.length = 16) := by show _ = _; rw [hN, addK_len]
          have HNN : Hid ((nts N).length = 16) := by show _ = _; rw [hN, nts_len, addK_len]
          have HNE := Hid.mk' hN
          clear hN
          go_wp2_with (first
            | (refine wpList_load_u8s Try.underlying57 i57 rfl _ rfl gs (nts S) HSN.out rfl HI1.out.st ?_)
            | fail)
          refine Calls.mono (keyed_any (r := 0) HC4.out HSL.out (by have := HLL.out.1; omega)) ?_
          rintro e w7 ⟨rfl, hb7⟩
          have HI7 := Hid.mk' (HI1.out.then hb7)
          clear hb7 HI1 HC4
          rw [← HNE.out]
          go_wp2_with fail
          refine Calls.mono (blockOf_any HNL3.out) ?_
          rintro e w8 ⟨rfl, hb8⟩
          have HI8 := Hid.mk' (HI7.out.then hb8)
          clear hb8 HI7
          go_wp2_with (refine wpList_store_u8s i23 rfl _ _ rfl (g + 1) (nts N) HNN.out rfl (by exact rfl) _ (by simp [u8s]) HI8.out.res ?_; intro w9 hb9 hbut9)
          refine bodyPost_ret (results_cell_row rfl _ _ (g + 1) _ _ _ _ rfl hb9 Try.underlying23 rfl (by rw [i23]; simp [u8s, HNN.out])) rfl ⟨?_, HI8.out.but.then hbut9 (fun i hi e => by have := HG.out; omega)⟩
          have hst : dec W b = N := by
            unfold dec
            rw [← HL.out, HNE.out, HSE.out]
          rw [hst]
end Go.Proofs.Ytdlalpklopnpjaa
