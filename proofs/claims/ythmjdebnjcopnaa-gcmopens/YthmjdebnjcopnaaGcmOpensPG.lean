/- Any bytes are opened as the document says, or refused (1000 bytes at most, as the statement itself says). No other condition. -/
import Derived.Test.YthmjdebnjcopnaaAllG
namespace Go.Proofs.Ythmjdebnjcopnaa
open Go.ChangeShapes Go.WideShapes Go.ChangeAt Go.RowKit

set_option maxRecDepth 100000 in
set_option maxHeartbeats 8000000 in
theorem gcmOpens_walk (v0 : Value) (zs : List Nat) (u : Value) (nc : List B8) (v1 : Value) (xs : List Nat) (v2 : Value) (ys : List Nat) (w : World) (h0 : Bs w v0 zs ∧ zs.length ≤ 140737488351232) (hn : nc.length = 12 ∧ u = .agg (u8s (nts nc)).toArray) (h1 : Bs w v1 xs ∧ xs.length ≤ 140737488351232) (h2 : Bs w v2 ys ∧ ys.length ≤ 140737488351232) :
    Calls Try.prog 4 #[v0, u, v1, v2] w fun e w' => e = .returned (.bool true) ∧ Below w.heap.size w w' := by
  obtain ⟨hn, rfl⟩ := hn
  obtain ⟨h0, -⟩ := h0
  obtain ⟨h1, hb1⟩ := h1
  obtain ⟨h2, hb2⟩ := h2
  obtain ⟨key, rfl⟩ := h0.bytes
  have hzk := zeroK
  obtain ⟨Z, hZ⟩ : ∃ Z, Z = zeroKey.toArray := ⟨_, rfl⟩
  rw [← hZ] at hzk
  have HZ := Hid.mk' hZ
  obtain ⟨C, hC⟩ : ∃ C, C = (u8s (nts nc)).toArray := ⟨_, rfl⟩
  rw [← hC]
  obtain ⟨g, hg⟩ : ∃ g, g = w.heap.size := ⟨_, rfl⟩
  obtain ⟨W0, hW0⟩ : ∃ W0, W0 = w.alloc (.cells C 23) := ⟨_, rfl⟩
  have hT0 : But (fun _ => False) w W0 := by rw [hW0]; exact (But.refl _ w).alloc _
  have HNB : Hid (Blk W0 g 23 (u8s (nts nc))) := by rw [hW0, hC]; exact Blk.new hg.symm
  have HK := Hid.mk' (h0.but hT0 (fun _ _ _ h => h))
  have H1 := Hid.mk' (h1.but hT0 (fun _ _ _ h => h))
  have H2 := Hid.mk' (h2.but hT0 (fun _ _ _ h => h))
  have HNN : Hid ((nts nc).length = 12) := by show _ = _; rw [nts_len]; exact hn
  have HN := Hid.mk' hn
  have HT0 := Hid.mk' hT0
  obtain ⟨ao1, c1, rfl, -, -⟩ := h1.gen
  obtain ⟨ao2, c2, rfl, -, -⟩ := h2.gen
  obtain ⟨A, hA⟩ : ∃ A, A = xs.length := ⟨_, rfl⟩
  obtain ⟨D, hD⟩ : ∃ D, D = ys.length := ⟨_, rfl⟩
  rw [← hA] at hb1 H1 ⊢
  rw [← hD] at hb2 H2 ⊢
  have HA := Hid.mk' hA
  have HD := Hid.mk' hD
  have HG := Hid.mk' hg
  have HW0 := Hid.mk' hW0
  have HC := Hid.mk' hC
  clear hn hC hg hW0 hT0 h0 h1 h2 hA hD hZ
  by_cases hk : key.length = 16 ∨ key.length = 32
  · have HNW := Hid.mk' (gnew_any HK.out hk)
    have HWL := Hid.mk' (wlen hk)
    have HKL := Hid.mk' hk
    obtain ⟨W, hW⟩ : ∃ W, W = words key := ⟨_, rfl⟩
    rw [← hW] at HNW HWL
    have HWE := Hid.mk' hW
    clear hk hW
    go_enter Try.func4, Try.ntmps4
    go_wp2_with fail
    rw [← HW0.out, ← HG.out]
    refine Calls.mono HNW.out ?_
    rintro e w1 ⟨gx, rfl, hbx, hb⟩
    have HRN := Hid.mk' (rnew_any (HK.out.but hb (fun _ _ _ h => h)) HKL.out)
    rw [← HWE.out] at HRN
    have HX1 := Hid.mk' hbx
    have HB1 := Hid.mk' hb
    clear hbx hb HNW HW0
    go_wp2_with fail
    refine Calls.mono HRN.out ?_
    rintro e w2 ⟨vW, rfl, hwr, hb⟩
    have HB2 := Hid.mk' (HB1.out.trans hb)
    have HX2 := Hid.mk' (And.intro (HX1.out.but hb (fun _ _ h => h)) hb.size)
    have HWR := Hid.mk' hwr
    obtain ⟨gv, cv, hvw, -, -⟩ := id hwr
    have HON : Hid (∀ u ∈ keyV vW, u.oneCell' = true) := by show ∀ u ∈ keyV vW, u.oneCell' = true; rw [hvw]; exact keyV_one _ _ _
    obtain ⟨KL, hKL⟩ : ∃ KL, KL = keyV vW := ⟨_, rfl⟩
    rw [← hKL] at HON ⊢
    have HKN : Hid (KL.length = 513) := by show _ = _; rw [hKL]; exact keyV_len _
    have HKE := Hid.mk' hKL
    have HK0 : Hid (Blk (w2.alloc (.cells Z 31)) w2.heap.size 31 zeroKey) := by show Blk _ _ _ _; rw [HZ.out]; exact Blk.new rfl
    clear hb hwr hvw hKL HRN HX1 HB1
    go_upto_region 3 with (refine wpList_store_key rfl _ _ rfl w2.heap.size KL HKN.out HON.out rfl (by rfl) HK0.out ?_; intro w3 hb3 hbut3)
    obtain ⟨gk, hgk⟩ : ∃ gk, gk = w2.heap.size := ⟨_, rfl⟩
    rw [← hgk] at hb3 hbut3 ⊢
    rw [HKE.out] at hb3 ⊢
    have HS3 := Hid.mk' (St.start (HNB.out.but HB2.out (fun h => h)) HX2.out.1 HX2.out.2 HWR.out (H1.out.but HB2.out (fun _ _ _ h => h)) (H2.out.but HB2.out (fun _ _ _ h => h)) (HT0.out.trans HB2.out) hgk hb3 hbut3)
    obtain ⟨top, htop⟩ : ∃ top, top = w3.heap.size := ⟨_, rfl⟩
    rw [← htop] at HS3
    have HTP := Hid.mk' htop
    clear hb3 hbut3 hgk htop HNB HX2 HWR HB2 H1 H2 HT0 HK0 HKE HKN HON HZ hzk
    go_wp2_with fail
    refine Calls.mono great_any ?_
    rintro e w' ⟨rfl, hw'⟩
    have hw2 := hw'.symm
    subst hw2
    clear hw'
    by_cases hgr : 1000 < A ∨ 1000 < D
    · rw [decide_eq_true hgr]
      go_wp2_with fail
      refine Calls.mono (awake_any _) ?_
      rintro e wz ⟨rfl, hbz⟩
      have HTZ := Hid.mk' (HS3.out.but.trans hbz)
      clear hbz
      go_wp2
      go_ret
      exact ⟨rfl, HTZ.out.below (Nat.le_refl _) (fun _ _ h => h)⟩
    · rw [decide_eq_false hgr]
      have hA1 : A ≤ 1000 := by omega
      have hD1 : D ≤ 1000 := by omega
      have HLT := Hid.mk' (lent_any HS3.out.txt (by rw [← HD.out]; omega))
      rw [← HD.out] at HLT
      clear hgr hb1 hb2
      go_wp2_with fail
      refine Calls.mono HLT.out ?_
      rintro e w4 ⟨gi, rfl, hgi, how, hbel⟩
      have hb4 : But (fun _ => False) w3 w4 := But.of hbel
      have HS4 := Hid.mk' (HS3.out.then hb4)
      have HOW4 := Hid.mk' how
      have hin : Bs w4 (.slice (some ⟨gi, 0, none⟩) D (D + 3)) ys := by
        have h := Bs.front (n := D) how.bs (by rw [List.length_append, ← HD.out]; omega) (fun h => by cases h)
        rwa [List.take_append_of_le_length (by rw [← HD.out]; exact Nat.le_refl _), List.take_of_length_le (by rw [← HD.out]; exact Nat.le_refl _)] at h
      have HO := Hid.mk' (gopen_any HS4.out.box HWL.out HN.out HS4.out.aad hin (by rw [← HA.out]; omega) (by rw [← HD.out]; omega))
      obtain ⟨cd, hcd⟩ : ∃ cd, cd = gcode W nc xs ys := ⟨_, rfl⟩
      obtain ⟨pl, hpl⟩ : ∃ pl, pl = gplain W nc xs ys := ⟨_, rfl⟩
      rw [← HC.out, ← hcd, ← hpl] at HO
      have HCD := Hid.mk' hcd
      have HPL := Hid.mk' hpl
      clear how hbel hb4 hgi hin hcd hpl HLT HS3
      go_wp2_with (first
        | (refine wpList_load_u8s Try.underlying23 i12 rfl _ rfl g (nts nc) HNN.out rfl HS4.out.non ?_; rw [← HC.out])
        | fail)
      refine Calls.mono HO.out ?_
      rintro e w5 ⟨vp, rfl, hp, hb⟩
      have HS5 := Hid.mk' (HS4.out.then hb)
      have HOW5 := Hid.mk' (HOW4.out.but hb (fun _ _ _ h => h))
      have HP5 := Hid.mk' hp
      have HRO := Hid.mk' (ropen_any HN.out HS5.out.wds HWL.out HS5.out.aad HS5.out.txt (by rw [← HA.out]; omega) (by rw [← HD.out]; omega))
      rw [← HC.out, ← HCD.out, ← HPL.out] at HRO
      clear hp hb HO HS4 HOW4
      go_wp2_with (first
        | (refine wpList_load_key rfl _ rfl gk rfl HS5.out.key ?_)
        | (refine wpList_load_u8s Try.underlying23 i12 rfl _ rfl g (nts nc) HNN.out rfl HS5.out.non ?_; rw [← HC.out])
        | fail)
      refine Calls.mono HRO.out ?_
      rintro e w6 ⟨vq, rfl, hq, hb⟩
      have HS6 := Hid.mk' (HS5.out.then hb)
      have HOW6 := Hid.mk' (HOW5.out.but hb (fun _ _ _ h => h))
      have HSM := Hid.mk' (same_any (HP5.out.but hb (fun _ _ _ h => h)) hq)
      rw [decide_eq_true rfl] at HSM
      clear hq hb HRO HS5 HOW5 HP5 HCD HPL
      go_wp2_with fail
      refine Calls.mono HSM.out ?_
      rintro e wd ⟨rfl, d, hwd⟩
      have hbd : But (fun _ => False) w6 wd := by rw [hwd]; exact (But.refl _ w6).drewN
      have HS7 := Hid.mk' (HS6.out.then hbd)
      have HKP := Hid.mk' (kept_true HS7.out.txt (by rw [← HD.out]; exact HOW6.out.but hbd (fun _ _ _ h => h)))
      rw [← HD.out] at HKP
      clear hbd hwd HSM HS6 HOW6
      go_wp2_with fail
      refine Calls.mono HKP.out ?_
      rintro e we ⟨rfl, d2, hwe⟩
      have HT8 : Hid (But (fun _ => False) w we) := by rw [hwe]; exact HS7.out.but.drewN
      clear hwe HKP HS7
      go_wp2_with fail
      refine Calls.mono (awake_any _) ?_
      rintro e wz ⟨rfl, hbz⟩
      have HTZ := Hid.mk' (HT8.out.trans hbz)
      clear hbz
      go_wp2
      go_ret
      exact ⟨rfl, HTZ.out.below (Nat.le_refl _) (fun _ _ h => h)⟩
  · have h16 : (nts key).length ≠ 16 := by rw [nts_len]; omega
    have h32 : (nts key).length ≠ 32 := by rw [nts_len]; omega
    have HNW := Hid.mk' (gnew_none HK.out h16 h32)
    have HRN := Hid.mk' (fun (w1 : World) (hb : But (fun _ => False) W0 w1) => rnew_none (HK.out.but hb (fun _ _ _ h => h)) h16 h32)
    clear hk h16 h32
    go_enter Try.func4, Try.ntmps4
    go_wp2_with fail
    rw [← HW0.out, ← HG.out]
    refine Calls.mono HNW.out ?_
    rintro e w1 ⟨rfl, hb⟩
    have HR1 := Hid.mk' (HRN.out w1 hb)
    have HT1 := Hid.mk' (HT0.out.trans hb)
    clear hb HNW HRN HW0
    go_wp2_with fail
    refine Calls.mono HR1.out ?_
    rintro e w2 ⟨rfl, hb⟩
    have HT2 := Hid.mk' (HT1.out.trans hb)
    have HK0 : Hid (Blk (w2.alloc (.cells Z 31)) w2.heap.size 31 zeroKey) := by show Blk _ _ _ _; rw [HZ.out]; exact Blk.new rfl
    obtain ⟨KL, hKL⟩ : ∃ KL, KL = zeroKey := ⟨_, rfl⟩
    rw [← hKL]
    have HKN : Hid (KL.length = 513) := by show _ = _; rw [hKL]; exact zeroKey_len
    have HON : Hid (∀ u ∈ KL, u.oneCell' = true) := by show ∀ u ∈ KL, u.oneCell' = true; rw [hKL]; exact zeroKey_one
    clear hb hKL HR1 HT1
    go_wp2_with (first
      | (refine wpList_store_key rfl _ _ rfl w2.heap.size KL HKN.out HON.out rfl (by rfl) HK0.out ?_; intro w3 hb3 hbut3; have HT3 : Hid (But (fun _ => False) w w3) := (HT2.out.trans ((But.refl _ w2).alloc _)).then hbut3 (fun i hi e => by have := HT2.out.size; omega); clear hb3 hbut3)
      | fail)
    refine Calls.mono (awake_any _) ?_
    rintro e wz ⟨rfl, hbz⟩
    have HTZ := Hid.mk' (HT3.out.trans hbz)
    clear hbz
    go_wp2
    go_ret
    exact ⟨rfl, HTZ.out.below (Nat.le_refl _) (fun _ _ h => h)⟩

set_option maxRecDepth 100000 in
theorem gcmOpens_lifted (os : Os) (started : os.Started) (H : Type) (enc : TypeId × Value → H) :
    ReturnsInHanded {} Try.checked os 4 .any (Rows.gcmOpensSpec.pre6 enc Try.prog Try.f4 Rows.gcmOpensRow.domain false) (Rows.gcmOpensSpec.post enc Try.prog Try.f4 false true false false) := by
  refine returnsInHanded_of_change_sized (C := Try.checked) (by kernel_rfl) started (by kernel_rfl) Try.func4
    (ChangeSpec.witness6 (enc := enc) (C := Try.checked) false ⟨#[], #[.slice none 0 0, .agg #[.int .u8 0, .int .u8 0, .int .u8 0, .int .u8 0, .int .u8 0, .int .u8 0, .int .u8 0, .int .u8 0, .int .u8 0, .int .u8 0, .int .u8 0, .int .u8 0], .slice none 0 0, .slice none 0 0], []⟩ 8 (by kernel_rfl) (by kernel_rfl) (by kernel_rfl) (by kernel_rfl)) ?_
  intro W base args ds gs before hval0 hW hcnd hsz0 _
  have hsz : (DataW.weightsEach Try.prog (Try.f4.params.toList ++ Rows.gcmOpensSpec.plain.varTypes Try.prog) (ds ++ gs)).all (· ≤ reachBytes) = true := hsz0
  clear hsz0
  have hval : ∀ (j : Nat) t v, Try.f4.params[j]? = some t → args[j]? = some v → Value.okWide Try.prog W .any base t v := hval0
  have hW' := hW
  obtain ⟨p, q, hA0, hV, rfl, hfz, hnd⟩ := hW
  have hA : DataW.TrodAll enc Try.prog W 0 (fun _ => true) true Try.f4.params.toList args.toList ds p := hA0
  rw [Try.params4] at hA hval hsz
  obtain ⟨v0, vs0, d0, ds0, p0, q0, hargs, rfl, rfl, h0, r0⟩ := trodAll_cons hA
  obtain ⟨v1, vs1, d1, ds1, p1, q1, rfl, rfl, rfl, h1, r1⟩ := trodAll_cons r0
  obtain ⟨v2, vs2, d2, ds2, p2, q2, rfl, rfl, rfl, h2, r2⟩ := trodAll_cons r1
  obtain ⟨v3, vs3, d3, ds3, p3, q3, rfl, rfl, rfl, h3, r3⟩ := trodAll_cons r2
  obtain ⟨rfl, rfl, rfl⟩ := trodAll_nil r3
  obtain rfl : args = #[v0, v1, v2, v3] := by cases args; simp_all
  obtain ⟨rfl, rfl⟩ := trodVars_none hV
  have lt0 : ∀ x ∈ p0, x.block < W.heap.size := by obtain ⟨m, hm⟩ := h0; exact DataW.trod_lt m _ _ _ hm
  obtain ⟨z0, w0⟩ := view_bytes Try.underlying22 Try.underlying5 (by kernel_rfl) (by kernel_rfl) (hval 0 22 v0 rfl rfl) h0 lt0 hsz (j := 0) rfl rfl
  have lt1 : ∀ x ∈ p1, x.block < W.heap.size := by obtain ⟨m, hm⟩ := h1; exact DataW.trod_lt m _ _ _ hm
  obtain ⟨z1, w1⟩ := view_arr Try.underlying23 Try.underlying5 (by kernel_rfl) (by kernel_rfl) (hval 1 23 v1 rfl rfl) h1 lt1 hsz (j := 1) rfl rfl
  have lt2 : ∀ x ∈ p2, x.block < W.heap.size := by obtain ⟨m, hm⟩ := h2; exact DataW.trod_lt m _ _ _ hm
  obtain ⟨z2, w2⟩ := view_bytes Try.underlying22 Try.underlying5 (by kernel_rfl) (by kernel_rfl) (hval 2 22 v2 rfl rfl) h2 lt2 hsz (j := 2) rfl rfl
  have lt3 : ∀ x ∈ p3, x.block < W.heap.size := by obtain ⟨m, hm⟩ := h3; exact DataW.trod_lt m _ _ _ hm
  obtain ⟨z3, w3⟩ := view_bytes Try.underlying22 Try.underlying5 (by kernel_rfl) (by kernel_rfl) (hval 3 22 v3 rfl rfl) h3 lt3 hsz (j := 3) rfl rfl
  clear hA0 hval0
  refine (gcmOpens_walk v0 z0 v1 z1 v2 z2 v3 z3 W w0 w1 w2 w3).mono fun e W' ⟨he, bel⟩ => ?_
  subst he
  exact ⟨_, rfl, _, _, _, [], _, [], hW', trodAll_mk1 (shut_bool Try.underlying4 _), (trodAll_cons_mk (Below.trod (by kernel_rfl) (by kernel_rfl) (of_decide_eq_true (by kernel_rfl)) h0 bel lt0) (trodAll_cons_mk (Below.trod (by kernel_rfl) (by kernel_rfl) (of_decide_eq_true (by kernel_rfl)) h1 bel lt1) (trodAll_cons_mk (Below.trod (by kernel_rfl) (by kernel_rfl) (of_decide_eq_true (by kernel_rfl)) h2 bel lt2) (trodAll_cons_mk (Below.trod (by kernel_rfl) (by kernel_rfl) (of_decide_eq_true (by kernel_rfl)) h3 bel lt3) trodAll_mk0)))), rfl, bel.frame _, fun h => by cases h⟩

theorem gcmOpens_holds : Rows.GcmOpensSaid :=
  OpenClaim.holds_of_wide 4 Try.f4 rfl rfl rfl rfl rfl rfl rfl ⟨rfl, rfl, rfl, rfl, rfl⟩ rfl rfl rfl rfl rfl (by kernel_rfl) Try.func4 (by kernel_rfl)
    (of_decide_eq_true (by kernel_rfl)) (by unfold Func.isWrapper; first | (rw [if_pos (by decide +kernel)]; kernel_rfl) | (rw [if_neg (by decide +kernel)]; exact ⟨rfl, rfl⟩))
    (fun os started H enc _ => gcmOpens_lifted os started H enc)
#print axioms gcmOpens_holds
end Go.Proofs.Ythmjdebnjcopnaa
