/- What was sealed is opened to what it was, and is longer by sixteen bytes (of what goes along and of the text 1000 bytes at most, as the statement itself says). No other condition. -/
import Derived.Test.YthmjdebnjcopnaaAllG
namespace Go.Proofs.Ythmjdebnjcopnaa
open Go.ChangeShapes Go.WideShapes Go.ChangeAt Go.RowKit

set_option maxRecDepth 100000 in
set_option maxHeartbeats 4000000 in
theorem gcmBack_walk (v0 : Value) (zs : List Nat) (u : Value) (nc : List B8) (v1 : Value) (xs : List Nat) (v2 : Value) (ys : List Nat) (w : World) (h0 : Bs w v0 zs ∧ zs.length ≤ 140737488351232) (hn : nc.length = 12 ∧ u = .agg (u8s (nts nc)).toArray) (h1 : Bs w v1 xs ∧ xs.length ≤ 140737488351232) (h2 : Bs w v2 ys ∧ ys.length ≤ 140737488351232) :
    Calls Try.prog 5 #[v0, u, v1, v2] w fun e w' => e = .returned (.bool true) ∧ Below w.heap.size w w' := by
  obtain ⟨hn, rfl⟩ := hn
  obtain ⟨h0, -⟩ := h0
  obtain ⟨h1, hb1⟩ := h1
  obtain ⟨h2, hb2⟩ := h2
  obtain ⟨key, rfl⟩ := h0.bytes
  obtain ⟨C, hC⟩ : ∃ C, C = (u8s (nts nc)).toArray := ⟨_, rfl⟩
  rw [← hC]
  obtain ⟨g, hg⟩ : ∃ g, g = w.heap.size := ⟨_, rfl⟩
  obtain ⟨W0, hW0⟩ : ∃ W0, W0 = w.alloc (.cells C 23) := ⟨_, rfl⟩
  have hT0 : But (fun _ => False) w W0 := by rw [hW0]; exact (But.refl _ w).alloc _
  have HNB : Hid (Blk W0 g 23 (u8s (nts nc))) := by rw [hW0, hC]; exact Blk.new hg.symm
  have HK := Hid.mk' (h0.but hT0 (fun _ _ _ h => h))
  have H1 := Hid.mk' (h1.but hT0 (fun _ _ _ h => h))
  have H2 := Hid.mk' (h2.but hT0 (fun _ _ _ h => h))
  have HNN : Hid ((nts nc).length = 12) := by show _ = _; rw [nts_len]; exact hn
  have HN := Hid.mk' hn
  have HT0 := Hid.mk' hT0
  obtain ⟨ao1, c1, rfl, -, -⟩ := h1.gen
  obtain ⟨ao2, c2, rfl, -, -⟩ := h2.gen
  obtain ⟨A, hA⟩ : ∃ A, A = xs.length := ⟨_, rfl⟩
  obtain ⟨D, hD⟩ : ∃ D, D = ys.length := ⟨_, rfl⟩
  rw [← hA] at hb1 H1 ⊢
  rw [← hD] at hb2 H2 ⊢
  have HA := Hid.mk' hA
  have HD := Hid.mk' hD
  have HG := Hid.mk' hg
  have HW0 := Hid.mk' hW0
  have HC := Hid.mk' hC
  clear hn hC hg hW0 hT0 h0 h1 h2 hA hD
  by_cases hk : key.length = 16 ∨ key.length = 32
  · have HNW := Hid.mk' (gnew_any HK.out hk)
    have HWL := Hid.mk' (wlen hk)
    obtain ⟨W, hW⟩ : ∃ W, W = words key := ⟨_, rfl⟩
    rw [← hW] at HNW HWL
    clear hk hW
    go_enter Try.func5, Try.ntmps5
    go_wp2_with fail
    rw [← HW0.out, ← HG.out]
    refine Calls.mono HNW.out ?_
    rintro e w1 ⟨gx, rfl, hbx, hb⟩
    have HX1 := Hid.mk' hbx
    have HT1 := Hid.mk' (HT0.out.trans hb)
    have HN1 := Hid.mk' (HNB.out.but hb (fun h => h))
    have HA1 := Hid.mk' (H1.out.but hb (fun _ _ _ h => h))
    have HD1 := Hid.mk' (H2.out.but hb (fun _ _ _ h => h))
    clear hbx hb HNW HNB H1 H2 HT0 HW0
    go_wp2_with fail
    refine Calls.mono great_any ?_
    rintro e w' ⟨rfl, hw'⟩
    have hw2 := hw'.symm
    subst hw2
    clear hw'
    by_cases hgr : 1000 < A ∨ 1000 < D
    · rw [decide_eq_true hgr]
      go_wp2_with fail
      refine Calls.mono (awake_any _) ?_
      rintro e w2 ⟨rfl, hb2⟩
      have HT2 := Hid.mk' (HT1.out.trans hb2)
      clear hb2
      go_wp2
      go_ret
      exact ⟨rfl, HT2.out.below (Nat.le_refl _) (fun _ _ h => h)⟩
    · rw [decide_eq_false hgr]
      have hA1 : A ≤ 1000 := by omega
      have hD1 : D ≤ 1000 := by omega
      have HS := Hid.mk' (gseal_any HX1.out HWL.out HN.out HA1.out HD1.out (by rw [← HA.out]; omega) (by rw [← HD.out]; omega))
      rw [← HC.out] at HS
      clear hgr hb1 hb2
      go_wp2_with (first
        | (refine wpList_load_u8s Try.underlying23 i12 rfl _ rfl g (nts nc) HNN.out rfl HN1.out ?_; rw [← HC.out])
        | fail)
      refine Calls.mono HS.out ?_
      rintro e w2 ⟨vs, rfl, ho, hb⟩
      have HX2 := Hid.mk' (HX1.out.but hb (fun _ _ h => h))
      have HT2 := Hid.mk' (HT1.out.trans hb)
      have HN2 := Hid.mk' (HN1.out.but hb (fun h => h))
      have HD2 := Hid.mk' (HD1.out.but hb (fun _ _ _ h => h))
      obtain ⟨s, hs⟩ : ∃ s, s = gseal W nc xs ys := ⟨_, rfl⟩
      have hsl : s.length = D + 16 := by rw [hs, gseal_len, ← HD.out]
      rw [← hs] at ho
      obtain ⟨gs, cs, R, hvs, -⟩ := ho.open (by omega)
      have HO := Hid.mk' (gopen_any HX2.out HWL.out HN.out (HA1.out.but hb (fun _ _ _ h => h)) ho.bs (by rw [← HA.out]; omega) (by omega))
      rw [hs, gcode_good (good_seal W nc xs ys), gplain_good (good_seal W nc xs ys), open_seal W nc xs HD2.out.1, ← HC.out] at HO
      rw [hsl] at hvs
      subst hvs
      clear hb ho hs hsl HS HX1 HT1 HN1 HA1 HD1 R
      go_wp2_with (first
        | (refine wpList_load_u8s Try.underlying23 i12 rfl _ rfl g (nts nc) HNN.out rfl HN2.out ?_; rw [← HC.out])
        | fail)
      refine Calls.mono HO.out ?_
      rintro e w3 ⟨vp, rfl, hp, hb⟩
      have HSM := Hid.mk' (same_any hp (HD2.out.but hb (fun _ _ _ h => h)))
      rw [decide_eq_true rfl] at HSM
      have HT3 := Hid.mk' (HT2.out.trans hb)
      clear hp hb HO HX2 HT2 HN2
      go_wp2_with fail
      refine Calls.mono HSM.out ?_
      rintro e w4 ⟨rfl, d, rfl⟩
      have HT4 : Hid (But (fun _ => False) w (w3.drewN d)) := HT3.out.drewN
      have hlen : (((D + 16 : Nat) : Int) == (D : Int) + 16) = true := by simp
      clear HSM HT3
      generalize w3.drewN d = w4 at *
      go_wp2_with fail
      refine Calls.mono (awake_any _) ?_
      rintro e w5 ⟨rfl, hb5⟩
      have HT5 := Hid.mk' (HT4.out.trans hb5)
      clear hb5
      go_wp2
      go_ret
      exact ⟨rfl, HT5.out.below (Nat.le_refl _) (fun _ _ h => h)⟩
  · have HNW := Hid.mk' (gnew_none HK.out (by rw [nts_len]; omega) (by rw [nts_len]; omega))
    clear hk
    go_enter Try.func5, Try.ntmps5
    go_wp2_with fail
    rw [← HW0.out, ← HG.out]
    refine Calls.mono HNW.out ?_
    rintro e w1 ⟨rfl, hb⟩
    have HT1 := Hid.mk' (HT0.out.trans hb)
    clear hb HNW
    go_wp2_with fail
    refine Calls.mono (awake_any _) ?_
    rintro e w2 ⟨rfl, hb2⟩
    have HT2 := Hid.mk' (HT1.out.trans hb2)
    clear hb2
    go_wp2
    go_ret
    exact ⟨rfl, HT2.out.below (Nat.le_refl _) (fun _ _ h => h)⟩

set_option maxRecDepth 100000 in
theorem gcmBack_lifted (os : Os) (started : os.Started) (H : Type) (enc : TypeId × Value → H) :
    ReturnsInHanded {} Try.checked os 5 .any (Rows.gcmBackSpec.pre6 enc Try.prog Try.f5 Rows.gcmBackRow.domain false) (Rows.gcmBackSpec.post enc Try.prog Try.f5 false true false false) := by
  refine returnsInHanded_of_change_sized (C := Try.checked) (by kernel_rfl) started (by kernel_rfl) Try.func5
    (ChangeSpec.witness6 (enc := enc) (C := Try.checked) false ⟨#[], #[.slice none 0 0, .agg #[.int .u8 0, .int .u8 0, .int .u8 0, .int .u8 0, .int .u8 0, .int .u8 0, .int .u8 0, .int .u8 0, .int .u8 0, .int .u8 0, .int .u8 0, .int .u8 0], .slice none 0 0, .slice none 0 0], []⟩ 8 (by kernel_rfl) (by kernel_rfl) (by kernel_rfl) (by kernel_rfl)) ?_
  intro W base args ds gs before hval0 hW hcnd hsz0 _
  have hsz : (DataW.weightsEach Try.prog (Try.f5.params.toList ++ Rows.gcmBackSpec.plain.varTypes Try.prog) (ds ++ gs)).all (· ≤ reachBytes) = true := hsz0
  clear hsz0
  have hval : ∀ (j : Nat) t v, Try.f5.params[j]? = some t → args[j]? = some v → Value.okWide Try.prog W .any base t v := hval0
  have hW' := hW
  obtain ⟨p, q, hA0, hV, rfl, hfz, hnd⟩ := hW
  have hA : DataW.TrodAll enc Try.prog W 0 (fun _ => true) true Try.f5.params.toList args.toList ds p := hA0
  rw [Try.params5] at hA hval hsz
  obtain ⟨v0, vs0, d0, ds0, p0, q0, hargs, rfl, rfl, h0, r0⟩ := trodAll_cons hA
  obtain ⟨v1, vs1, d1, ds1, p1, q1, rfl, rfl, rfl, h1, r1⟩ := trodAll_cons r0
  obtain ⟨v2, vs2, d2, ds2, p2, q2, rfl, rfl, rfl, h2, r2⟩ := trodAll_cons r1
  obtain ⟨v3, vs3, d3, ds3, p3, q3, rfl, rfl, rfl, h3, r3⟩ := trodAll_cons r2
  obtain ⟨rfl, rfl, rfl⟩ := trodAll_nil r3
  obtain rfl : args = #[v0, v1, v2, v3] := by cases args; simp_all
  obtain ⟨rfl, rfl⟩ := trodVars_none hV
  have lt0 : ∀ x ∈ p0, x.block < W.heap.size := by obtain ⟨m, hm⟩ := h0; exact DataW.trod_lt m _ _ _ hm
  obtain ⟨z0, w0⟩ := view_bytes Try.underlying22 Try.underlying5 (by kernel_rfl) (by kernel_rfl) (hval 0 22 v0 rfl rfl) h0 lt0 hsz (j := 0) rfl rfl
  have lt1 : ∀ x ∈ p1, x.block < W.heap.size := by obtain ⟨m, hm⟩ := h1; exact DataW.trod_lt m _ _ _ hm
  obtain ⟨z1, w1⟩ := view_arr Try.underlying23 Try.underlying5 (by kernel_rfl) (by kernel_rfl) (hval 1 23 v1 rfl rfl) h1 lt1 hsz (j := 1) rfl rfl
  have lt2 : ∀ x ∈ p2, x.block < W.heap.size := by obtain ⟨m, hm⟩ := h2; exact DataW.trod_lt m _ _ _ hm
  obtain ⟨z2, w2⟩ := view_bytes Try.underlying22 Try.underlying5 (by kernel_rfl) (by kernel_rfl) (hval 2 22 v2 rfl rfl) h2 lt2 hsz (j := 2) rfl rfl
  have lt3 : ∀ x ∈ p3, x.block < W.heap.size := by obtain ⟨m, hm⟩ := h3; exact DataW.trod_lt m _ _ _ hm
  obtain ⟨z3, w3⟩ := view_bytes Try.underlying22 Try.underlying5 (by kernel_rfl) (by kernel_rfl) (hval 3 22 v3 rfl rfl) h3 lt3 hsz (j := 3) rfl rfl
  clear hA0 hval0
  refine (gcmBack_walk v0 z0 v1 z1 v2 z2 v3 z3 W w0 w1 w2 w3).mono fun e W' ⟨he, bel⟩ => ?_
  subst he
  exact ⟨_, rfl, _, _, _, [], _, [], hW', trodAll_mk1 (shut_bool Try.underlying4 _), (trodAll_cons_mk (Below.trod (by kernel_rfl) (by kernel_rfl) (of_decide_eq_true (by kernel_rfl)) h0 bel lt0) (trodAll_cons_mk (Below.trod (by kernel_rfl) (by kernel_rfl) (of_decide_eq_true (by kernel_rfl)) h1 bel lt1) (trodAll_cons_mk (Below.trod (by kernel_rfl) (by kernel_rfl) (of_decide_eq_true (by kernel_rfl)) h2 bel lt2) (trodAll_cons_mk (Below.trod (by kernel_rfl) (by kernel_rfl) (of_decide_eq_true (by kernel_rfl)) h3 bel lt3) trodAll_mk0)))), rfl, bel.frame _, fun h => by cases h⟩

theorem gcmBack_holds : Rows.GcmBackSaid :=
  OpenClaim.holds_of_wide 5 Try.f5 rfl rfl rfl rfl rfl rfl rfl ⟨rfl, rfl, rfl, rfl, rfl⟩ rfl rfl rfl rfl rfl (by kernel_rfl) Try.func5 (by kernel_rfl)
    (of_decide_eq_true (by kernel_rfl)) (by unfold Func.isWrapper; first | (rw [if_pos (by decide +kernel)]; kernel_rfl) | (rw [if_neg (by decide +kernel)]; exact ⟨rfl, rfl⟩))
    (fun os started H enc _ => gcmBack_lifted os started H enc)
#print axioms gcmBack_holds
end Go.Proofs.Ythmjdebnjcopnaa
