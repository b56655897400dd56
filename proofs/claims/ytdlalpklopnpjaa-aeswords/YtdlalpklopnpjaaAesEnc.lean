/- The program's Encrypt. -/
import Derived.Test.YtdlalpklopnpjaaAesRounds
import Derived.Test.YtdlalpklopnpjaaClasses
import Derived.Deep.Cut
namespace Go.Proofs.Ytdlalpklopnpjaa
open Go.RowKit

/-- What memory is amid Encrypt and Decrypt: the state s at gs. -/
structure EncP (w : World) (g gs : Nat) (s : List B8) (wr : World) : Prop where
  res : Blk wr (g + 1) 23 (u8s (List.replicate 16 0))
  st : Blk wr gs 57 (u8s (nts s))
  but : But (fun _ => False) w wr
theorem EncP.then {w wr w' : World} {g gs : Nat} {s : List B8} (h : EncP w g gs s wr) (k : But (fun _ => False) wr w') : EncP w g gs s w' :=
  ⟨h.res.but k (fun h => h), h.st.but k (fun h => h), h.but.trans k⟩
theorem EncP.put {w wr w' : World} {g gs : Nat} {s s' : List B8} (h : EncP w g gs s wr) (hg : g = w.heap.size) (hgs : g + 1 < gs) (k : But (· = gs) wr w') (hb : Blk w' gs 57 (u8s (nts s'))) : EncP w g gs s' w' :=
  ⟨h.res.but k (show ¬ (g + 1 = gs) by omega), hb, h.but.then k (fun i hi e => by omega)⟩
theorem run_load_col {w : World} {g : Nat} {T : TypeId} {s : List B8} {o : Oper} {a : Act} {x : Operand} (hb : Blk w g T (u8s (nts s))) (off k : Nat) (hs : 4 * k + 4 ≤ s.length) (hoff : off = 4 * k) (ho : o.op = .load 55 x) (hx : a.eval x = .pointer (some ⟨g, off, none⟩)) :
    (execOp a.eval o).run Try.prog w = .ok (.value (.agg (u8s (nts (wordOf s k))).toArray)) w := by
  have h := run_loadVar_cells w ⟨g, off, none⟩ 55 (u8s (nts (wordOf s k))) _ (col_cells hb off k hs hoff) Try.underlying55 rfl (by rw [i55, u4l _ (word_len s k)])
  unfold execOp
  simp only [ho, hx, Instr.loadAt, Instr.sureAddr, Sem.run_bind, Sem.run_pure, Result.andThen_ok, h]
set_option maxRecDepth 100000 in
set_option maxHeartbeats 2000000 in
theorem encrypt_any {w : World} {gc gb gw : Nat} {W : List (List B8)} {b : List B8} (hW : Cph w gc gb gw W) (hb : b.length = 16) :
    Calls Try.prog 14 #[.pointer (some ⟨gc, 0, none⟩), .agg (u8s (nts b)).toArray] w fun e w' => e = .returned (.agg (u8s (nts (enc W b))).toArray) ∧ But (fun _ => False) w w' := by
  have hz := zero16
  have hzs := zeroS
  obtain ⟨Z, hZ⟩ : ∃ Z, Z = (u8s (List.replicate 16 0)).toArray := ⟨_, rfl⟩
  rw [← hZ] at hz hzs
  obtain ⟨C, hC⟩ : ∃ C, C = (u8s (nts b)).toArray := ⟨_, rfl⟩
  rw [← hC]
  have HZ := Hid.mk' hZ
  have HC := Hid.mk' hC
  have HW := Hid.mk' hW
  have HWL := Hid.mk' hW.len
  have HB := Hid.mk' hb
  have HNL : Hid ((nts b).length = 16) := by show _ = _; rw [nts_len]; exact hb
  clear hZ hC hb
  obtain ⟨g, hg⟩ : ∃ g, g = w.heap.size := ⟨_, rfl⟩
  obtain ⟨W0, hW0⟩ : ∃ W0, W0 = ((w.alloc (.cells C 23)).alloc (.cells Z 23)) := ⟨_, rfl⟩
  have hB0 : Blk W0 g 23 (u8s (nts b)) := by rw [hW0, HC.out]; exact (Blk.new hg.symm).but ((But.refl (fun _ => False) _).alloc _) (fun h => h)
  have hR0 : Blk W0 (g + 1) 23 (u8s (List.replicate 16 0)) := by rw [hW0, HZ.out]; exact Blk.new (by simp [hg])
  have hT0 : But (fun _ => False) w W0 := by rw [hW0]; exact ((But.refl _ w).alloc _).alloc _
  have HB0 := Hid.mk' hB0
  have HR0 := Hid.mk' hR0
  have HT0 := Hid.mk' hT0
  have HG := Hid.mk' hg
  have HW0 := Hid.mk' hW0
  have HCW := Hid.mk' (hW.grow hT0)
  have HLL : Hid (4 * (W.length / 4 - 1) + 4 = W.length ∧ 2 ≤ W.length / 4 - 1 ∧ W.length / 4 - 1 ≤ 14) := by show _ ∧ _; have := hW.len; omega
  have HRD := Hid.mk' (rounds_any HCW.out)
  obtain ⟨L, hL⟩ : ∃ L, L = W.length / 4 - 1 := ⟨_, rfl⟩
  rw [← hL] at HLL HRD
  have HL := Hid.mk' hL
  have hL2 : 2 ≤ L := HLL.out.2.1
  have hL14 : L ≤ 14 := HLL.out.2.2
  clear hB0 hR0 hT0 hg hW0 hW hL
  go_enter Try.func14, Try.ntmps14
  go_wp2_with fail
  rw [← HW0.out, ← HG.out]
  refine Calls.mono (made_any HCW.out) ?_
  rintro e w1 ⟨rfl, hw⟩
  have hw' := hw.symm
  subst hw'
  go_wp2_with fail
  refine Calls.mono HRD.out ?_
  rintro e w1 ⟨rfl, hw⟩
  have hw' := hw.symm
  subst hw'
  go_wp2_with (first
    | (refine wpList_load_u8s Try.underlying23 i23 rfl _ rfl g (nts b) HNL.out rfl HB0.out ?_)
    | fail)
  refine Calls.mono (stateOf_any HB.out) ?_
  rintro e w2 ⟨rfl, hb2⟩
  have HT2 := Hid.mk' (HT0.out.trans hb2)
  have HR2 := Hid.mk' (HR0.out.but hb2 (fun h => h))
  have HC2 := Hid.mk' (HCW.out.grow hb2)
  clear hb2 HW0 HRD
  go_wp2_with fail
  refine Calls.mono (keyed_any (r := 0) HC2.out HB.out (by have := HLL.out.1; omega)) ?_
  rintro e w3 ⟨rfl, hb3⟩
  have HT3 := Hid.mk' (HT2.out.trans hb3)
  have HR3 := Hid.mk' (HR2.out.but hb3 (fun h => h))
  clear hb3 HT2 HR2 HC2
  obtain ⟨S0, hS0⟩ : ∃ S0, S0 = addK W 0 b := ⟨_, rfl⟩
  have HSL : Hid ((nts S0).length = 16) := by show _ = _; rw [hS0, nts_len, addK_len]
  rw [← hS0]
  have HS0 := Hid.mk' hS0
  clear hS0
  have HBS : Hid (Blk (w3.alloc (.cells Z 57)) w3.heap.size 57 (u8s (List.replicate 16 0))) := by show Blk _ _ _ _; rw [HZ.out]; exact Blk.new rfl
  go_wp2_with (refine wpList_store_u8s i57 rfl _ _ rfl w3.heap.size (nts S0) HSL.out rfl (by exact rfl) _ (by simp [u8s]) HBS.out ?_; intro w4 hb4 hbut4)
  obtain ⟨gs, hgs⟩ : ∃ gs, gs = w3.heap.size := ⟨_, rfl⟩
  have HGS : Hid (g + 1 < gs) := by show g + 1 < gs; rw [hgs]; exact HR3.out.lt
  have HI0 : Hid (EncP w g gs S0 w4) := by
    rw [← hgs] at hb4 hbut4
    have ha : But (fun _ => False) w3 (w3.alloc (.cells Z 57)) := (But.refl _ w3).alloc _
    exact ⟨(HR3.out.but ha (fun h => h)).but hbut4 (show ¬ (g + 1 = gs) by have := HGS.out; omega), hb4, (HT3.out.trans ha).then hbut4 (fun i hi e => by have := HGS.out; have := HG.out; omega)⟩
  rw [← hgs]
  clear hb4 hbut4 hgs HT3 HR3 HBS HCW HR0 HT0 HB0 hz hzs HSL
  generalize (u8s (nts S0)).toArray = SV
  generalize (u8s (nts b)).toArray = BV
  go_loopw [7] (fun i wr => ∃ k : Nat, k + 1 ≤ L ∧ i = .int .i64 (k + 1 : Nat) ∧ EncP w g gs (encR W L b k) wr) (fun i _ => 20 - (intOf i).toNat)
  case atStart => exact ⟨0, by omega, rfl, by have h := HI0.out; rw [HS0.out] at h; exact h⟩
  case round =>
    obtain ⟨r, hr, rfl, hI⟩ := hrel
    obtain ⟨S, hS⟩ : ∃ S, S = encR W L b r := ⟨_, rfl⟩
    rw [← hS] at hI
    have HSL : Hid (S.length = 16) := by show _ = _; rw [hS, encR_len]
    have HSN : Hid ((nts S).length = 16) := by show _ = _; rw [nts_len]; exact HSL.out
    have HSU : Hid ((u8s (nts S)).length = 16) := by show _ = _; unfold u8s; rw [List.length_map]; exact HSN.out
    have HSE := Hid.mk' hS
    have HI1 := Hid.mk' hI
    clear hS hI HI0
    obtain ⟨T, hT⟩ : ∃ T, T = turnS S := ⟨_, rfl⟩
    have HTL : Hid (T.length = 16) := by show _ = _; rw [hT, turnS_len]
    have HTN : Hid ((nts T).length = 16) := by show _ = _; rw [nts_len]; exact HTL.out
    have HTE := Hid.mk' hT
    clear hT
    by_cases hrt : r + 1 < L
    · have hri : ((r + 1 : Nat) : Int) < (L : Int) := by omega
      obtain ⟨p, hp⟩ : ∃ p, p = r + 1 := ⟨_, rfl⟩
      rw [← hp] at hri ⊢
      have HP := Hid.mk' hp
      clear hp
      obtain ⟨F, hF⟩ : ∃ F : Nat → List B8, F = fun k => colMix fwd (map4 bx (wordOf T k)) := ⟨_, rfl⟩
      have HF := Hid.mk' hF
      clear hF
      go_wp2_with (first
        | (refine wpList_load_u8s Try.underlying57 i57 rfl _ rfl gs (nts S) HSN.out rfl HI1.out.st ?_)
        | fail)
      refine Calls.mono (turned_any HSL.out) ?_
      rintro e w5 ⟨rfl, hb5⟩
      rw [← HTE.out]
      have HI5 := Hid.mk' (HI1.out.then hb5)
      clear hb5 HI1
      go_wp2_with (refine wpList_store_u8s i57 rfl _ _ rfl gs (nts T) HTN.out rfl (by exact rfl) _ HSU.out HI5.out.st ?_; intro w6 hb6 hbut6)
      have HIT := Hid.mk' (HI5.out.put HG.out HGS.out hbut6 hb6)
      clear hb6 hbut6 HI5
      generalize (u8s (nts S)).toArray = SV2
      generalize (u8s (nts T)).toArray = TV2
      go_loopw [27] (fun i wr => ∃ k : Nat, k ≤ 4 ∧ i = .int .i64 k ∧ EncP w g gs (colsTo F T k) wr) (fun i _ => 4 - (intOf i).toNat)
      case atStart => exact ⟨0, by decide, rfl, by rw [colsTo_zero F HTL.out]; exact HIT.out⟩
      case round =>
        obtain ⟨k, hk, rfl, hI⟩ := hrel
        obtain ⟨M, hM⟩ : ∃ M, M = colsTo F T k := ⟨_, rfl⟩
        have HML : Hid (M.length = 16) := by show _ = _; rw [hM, colsTo_len]
        rw [← hM] at hI
        have HM := Hid.mk' hM
        have HI2 := Hid.mk' hI
        clear hI hM HIT
        by_cases hlt : k < 4
        · have hki : (k : Int) < 4 := by omega
          have HMW : Hid (wordOf M k = wordOf T k) := by show _ = _; rw [HM.out]; exact colsTo_word F T k hlt
          have HC3 := Hid.mk' (HW.out.grow HI2.out.but)
          have HC0 : Hid (∀ w', But (fun _ => False) wr w' → w'.cell? ⟨gc, 0, none⟩ = some (.pointer (some ⟨gb, 0, none⟩))) := by
            intro w' hw'
            rw [(HC3.out.grow hw').blk.cell]; rfl
          go_upto_region 12 with fail
          refine region_class (l := [_, _, _, _, _, _, _, _, _, _]) (o := _) (fun w' => But (fun _ => False) wr w') (by kernel_rfl) (by kernel_rfl) (by kernel_rfl) rfl (by kernel_rfl) (by kernel_rfl) ((But.refl _ wr).drew) ?_
          refine class_val _ rfl (fun w' _ => rfl) ?_
          intro K hK; go_simp; refine hK _ ?_; clear hK K
          refine class_val _ rfl (fun w' _ => rfl) ?_
          intro K hK; go_simp; refine hK _ ?_; clear hK K
          refine class_val (.pointer (some ⟨gs, k * 4, none⟩)) rfl (fun w' _ => by go_simp) ?_
          intro K hK; go_simp; refine hK _ ?_; clear hK K
          refine class_val (.agg (u8s (nts (wordOf M k))).toArray) rfl (fun w' hw' => run_load_col (HI2.out.st.but hw' (fun h => h)) (k * 4) k (by have := HML.out; omega) (by omega) rfl rfl) ?_
          intro K hK; go_simp; refine hK _ ?_; clear hK K
          refine class_val _ rfl (fun w' _ => rfl) ?_
          intro K hK; go_simp; refine hK _ ?_; clear hK K
          refine class_val (.pointer (some ⟨gc, 0, none⟩)) rfl (fun w' _ => by go_simp) ?_
          intro K hK; go_simp; refine hK _ ?_; clear hK K
          refine class_val (.pointer (some ⟨gc, 0, none⟩)) rfl (fun w' _ => by go_simp) ?_
          intro K hK; go_simp; refine hK _ ?_; clear hK K
          refine class_val (.pointer (some ⟨gb, 0, none⟩)) rfl (fun w' hw' => by have c0 := HC0.out w' hw'; go_simp) ?_
          intro K hK; go_simp; refine hK _ ?_; clear hK K
          refine class_call (.agg (u8s (nts (F k))).toArray) 29 #[.agg (u8s (nts (wordOf M k))).toArray, .pointer (some ⟨gb, 0, none⟩)] rfl (fun w' _ => by kernel_rfl) (fun w' hw' => (mixedBoxes_any (HC3.out.grow hw').bxs (word_len M k)).mono (fun e w'' h => ⟨by rw [h.1, HMW.out, HF.out], hw'.trans h.2⟩)) ?_
          intro K hK; go_simp; refine hK _ ?_; clear hK K
          refine class_val (.pointer (some ⟨gs, k * 4, none⟩)) rfl (fun w' _ => by go_simp) ?_
          intro K hK; go_simp; refine hK _ ?_; clear hK K
          refine wpQuiet_nil ?_
          intro w5 hw5
          have HFL : Hid ((F k).length = 4) := by show _ = _; rw [HF.out]; rfl
          have HS5 := Hid.mk' (HI2.out.st.but hw5 (fun h => h))
          go_wp2_with (refine wpList_store_col rfl _ _ rfl gs (k * 4) k 57 M (F k) HML.out HFL.out hlt (by omega) (by rfl) (by rfl) HS5.out ?_; intro w6 hb6 hbut6)
          refine ⟨⟨k + 1, by omega, by go_num, ?_⟩, by simp [intOf]; omega⟩
          refine (HI2.out.then hw5).put HG.out HGS.out hbut6 ?_
          rw [← colsTo_set _ k hlt HFL.out, ← HM.out]
          exact hb6
        · have hk4 : k = 4 := by omega
          subst hk4
          have HMS : Hid (M = mixBy fwd (subs S)) := by show _ = _; rw [HM.out, colsTo_all, HF.out, HTE.out, round_cols]
          have HMN : Hid ((nts M).length = 16) := by show _ = _; rw [nts_len]; exact HML.out
          have HMU : Hid ((u8s (nts M)).length = 16) := by show _ = _; unfold u8s; rw [List.length_map]; exact HMN.out
          have HC4 := Hid.mk' (HW.out.grow HI2.out.but)
          go_wp2_with (first
            | (refine wpList_load_u8s Try.underlying57 i57 rfl _ rfl gs (nts M) HMN.out rfl HI2.out.st ?_)
            | fail)
          refine Calls.mono (keyed_any (r := p) HC4.out HML.out (by have := HLL.out.1; have := HP.out; omega)) ?_
          rintro e w7 ⟨rfl, hb7⟩
          have HI7 := Hid.mk' (HI2.out.then hb7)
          clear hb7 HI2 HC4
          obtain ⟨N, hN⟩ : ∃ N, N = addK W p M := ⟨_, rfl⟩
          have HNN : Hid ((nts N).length = 16) := by show _ = _; rw [hN, nts_len, addK_len]
          rw [← hN]
          have HNE := Hid.mk' hN
          clear hN
          go_wp2_with (refine wpList_store_u8s i57 rfl _ _ rfl gs (nts N) HNN.out rfl (by exact rfl) _ HMU.out HI7.out.st ?_; intro w8 hb8 hbut8)
          refine ⟨⟨p, by omega, by go_num, ?_⟩, by simp [intOf]; omega⟩
          have hst : encR W L b p = N := by
            rw [HP.out]
            show addK W (r + 1) (if r + 1 < L then mixBy fwd (subs (encR W L b r)) else subs (encR W L b r)) = N
            rw [if_pos hrt, HNE.out, HMS.out, ← HSE.out, HP.out]
          rw [hst]
          exact HI7.out.put HG.out HGS.out hbut8 hb8
    · have hrL : L = r + 1 := by omega
      have hri : ¬ ((r + 1 : Nat) : Int) < (L : Int) := by omega
      obtain ⟨p, hp⟩ : ∃ p, p = r + 1 := ⟨_, rfl⟩
      rw [← hp] at hri ⊢
      have HP := Hid.mk' hp
      have HRL := Hid.mk' hrL
      clear hp hrL hrt
      obtain ⟨F, hF⟩ : ∃ F : Nat → List B8, F = fun k => map4 bx (wordOf T k) := ⟨_, rfl⟩
      have HF := Hid.mk' hF
      clear hF
      go_wp2_with (first
        | (refine wpList_load_u8s Try.underlying57 i57 rfl _ rfl gs (nts S) HSN.out rfl HI1.out.st ?_)
        | fail)
      refine Calls.mono (turned_any HSL.out) ?_
      rintro e w5 ⟨rfl, hb5⟩
      rw [← HTE.out]
      have HI5 := Hid.mk' (HI1.out.then hb5)
      clear hb5 HI1
      go_wp2_with (refine wpList_store_u8s i57 rfl _ _ rfl gs (nts T) HTN.out rfl (by exact rfl) _ HSU.out HI5.out.st ?_; intro w6 hb6 hbut6)
      have HIT := Hid.mk' (HI5.out.put HG.out HGS.out hbut6 hb6)
      clear hb6 hbut6 HI5
      generalize (u8s (nts S)).toArray = SV2
      generalize (u8s (nts T)).toArray = TV2
      go_loopw [47] (fun i wr => ∃ k : Nat, k ≤ 4 ∧ i = .int .i64 k ∧ EncP w g gs (colsTo F T k) wr) (fun i _ => 4 - (intOf i).toNat)
      case atStart => exact ⟨0, by decide, rfl, by rw [colsTo_zero F HTL.out]; exact HIT.out⟩
      case round =>
        obtain ⟨k, hk, rfl, hI⟩ := hrel
        obtain ⟨M, hM⟩ : ∃ M, M = colsTo F T k := ⟨_, rfl⟩
        have HML : Hid (M.length = 16) := by show _ = _; rw [hM, colsTo_len]
        rw [← hM] at hI
        have HM := Hid.mk' hM
        have HI2 := Hid.mk' hI
        clear hI hM HIT
        by_cases hlt : k < 4
        · have hki : (k : Int) < 4 := by omega
          have HMW : Hid (wordOf M k = wordOf T k) := by show _ = _; rw [HM.out]; exact colsTo_word F T k hlt
          have HC3 := Hid.mk' (HW.out.grow HI2.out.but)
          have HC0 : Hid (∀ w', But (fun _ => False) wr w' → w'.cell? ⟨gc, 0, none⟩ = some (.pointer (some ⟨gb, 0, none⟩))) := by
            intro w' hw'
            rw [(HC3.out.grow hw').blk.cell]; rfl
          go_upto_region 19 with fail
          refine region_class (l := [_, _, _, _, _, _, _, _, _, _]) (o := _) (fun w' => But (fun _ => False) wr w') (by kernel_rfl) (by kernel_rfl) (by kernel_rfl) rfl (by kernel_rfl) (by kernel_rfl) ((But.refl _ wr).drew) ?_
          refine class_val _ rfl (fun w' _ => rfl) ?_
          intro K hK; go_simp; refine hK _ ?_; clear hK K
          refine class_val _ rfl (fun w' _ => rfl) ?_
          intro K hK; go_simp; refine hK _ ?_; clear hK K
          refine class_val (.pointer (some ⟨gs, k * 4, none⟩)) rfl (fun w' _ => by go_simp) ?_
          intro K hK; go_simp; refine hK _ ?_; clear hK K
          refine class_val (.agg (u8s (nts (wordOf M k))).toArray) rfl (fun w' hw' => run_load_col (HI2.out.st.but hw' (fun h => h)) (k * 4) k (by have := HML.out; omega) (by omega) rfl rfl) ?_
          intro K hK; go_simp; refine hK _ ?_; clear hK K
          refine class_val _ rfl (fun w' _ => rfl) ?_
          intro K hK; go_simp; refine hK _ ?_; clear hK K
          refine class_val (.pointer (some ⟨gc, 0, none⟩)) rfl (fun w' _ => by go_simp) ?_
          intro K hK; go_simp; refine hK _ ?_; clear hK K
          refine class_val (.pointer (some ⟨gc, 0, none⟩)) rfl (fun w' _ => by go_simp) ?_
          intro K hK; go_simp; refine hK _ ?_; clear hK K
          refine class_val (.pointer (some ⟨gb, 0, none⟩)) rfl (fun w' hw' => by have c0 := HC0.out w' hw'; go_simp) ?_
          intro K hK; go_simp; refine hK _ ?_; clear hK K
          refine class_call (.agg (u8s (nts (F k))).toArray) 30 #[.agg (u8s (nts (wordOf M k))).toArray, .pointer (some ⟨gb, 0, none⟩)] rfl (fun w' _ => by kernel_rfl) (fun w' hw' => (cboxed_any (HC3.out.grow hw').bxs (word_len M k)).mono (fun e w'' h => ⟨by rw [h.1, HMW.out, HF.out], hw'.trans h.2⟩)) ?_
          intro K hK; go_simp; refine hK _ ?_; clear hK K
          refine class_val (.pointer (some ⟨gs, k * 4, none⟩)) rfl (fun w' _ => by go_simp) ?_
          intro K hK; go_simp; refine hK _ ?_; clear hK K
          refine wpQuiet_nil ?_
          intro w5 hw5
          have HFL : Hid ((F k).length = 4) := by show _ = _; rw [HF.out]; rfl
          have HS5 := Hid.mk' (HI2.out.st.but hw5 (fun h => h))
          go_wp2_with (refine wpList_store_col rfl _ _ rfl gs (k * 4) k 57 M (F k) HML.out HFL.out hlt (by omega) (by rfl) (by rfl) HS5.out ?_; intro w6 hb6 hbut6)
          refine ⟨⟨k + 1, by omega, by go_num, ?_⟩, by simp [intOf]; omega⟩
          refine (HI2.out.then hw5).put HG.out HGS.out hbut6 ?_
          rw [← colsTo_set _ k hlt HFL.out, ← HM.out]
          exact hb6
        · have hk4 : k = 4 := by omega
          subst hk4
          have HMS : Hid (M = subs S) := by show _ = _; rw [HM.out, colsTo_all, HF.out, HTE.out, subs_cols]
          have HMN : Hid ((nts M).length = 16) := by show _ = _; rw [nts_len]; exact HML.out
          have HC4 := Hid.mk' (HW.out.grow HI2.out.but)
          go_wp2_with (first
            | (refine wpList_load_u8s Try.underlying57 i57 rfl _ rfl gs (nts M) HMN.out rfl HI2.out.st ?_)
            | fail)
          refine Calls.mono (keyed_any (r := L) HC4.out HML.out (by have := HLL.out.1; omega)) ?_
          rintro e w7 ⟨rfl, hb7⟩
          have HI7 := Hid.mk' (HI2.out.then hb7)
          clear hb7 HI2 HC4
          obtain ⟨N, hN⟩ : ∃ N, N = addK W L M := ⟨_, rfl⟩
          have HNL2 : Hid (N.length = 16) := by show _ = _; rw [hN, addK_len]
          have HNN : Hid ((nts N).length = 16) := by show _ = _; rw [hN, nts_len, addK_len]
          rw [← hN]
          have HNE := Hid.mk' hN
          clear hN
          go_wp2_with fail
          refine Calls.mono (blockOf_any HNL2.out) ?_
          rintro e w8 ⟨rfl, hb8⟩
          have HI8 := Hid.mk' (HI7.out.then hb8)
          clear hb8 HI7
          go_wp2_with (refine wpList_store_u8s i23 rfl _ _ rfl (g + 1) (nts N) HNN.out rfl (by exact rfl) _ (by simp [u8s]) HI8.out.res ?_; intro w9 hb9 hbut9)
          refine bodyPost_ret (results_cell_row rfl _ _ (g + 1) _ _ _ _ rfl hb9 Try.underlying23 rfl (by rw [i23]; simp [u8s, HNN.out])) rfl ⟨?_, HI8.out.but.then hbut9 (fun i hi e => by have := HG.out; omega)⟩
          have hst : enc W b = N := by
            unfold enc
            rw [← HL.out, HRL.out]
            show addK W (r + 1) (if r + 1 < r + 1 then _ else subs (encR W (r + 1) b r)) = N
            rw [if_neg (Nat.lt_irrefl _), HNE.out, HMS.out, HSE.out, HRL.out]
          rw [hst]
end Go.Proofs.Ytdlalpklopnpjaa
