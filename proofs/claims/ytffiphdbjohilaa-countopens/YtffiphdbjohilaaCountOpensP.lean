/- CountOpens: any bytes are opened as the document says, or refused; they stay. For every input. -/
import Derived.Test.YtffiphdbjohilaaCtEq
namespace Go.Proofs.Ytffiphdbjohilaa
open Go.ChangeShapes Go.WideShapes Go.ChangeAt Go.RowKit Go.Deep

theorem rf_rfa (n : Nat) : rfa n 0 = rf n := by
  unfold rfa rf
  by_cases h1 : n < 256
  · rw [if_pos h1, if_pos h1]
  · rw [if_neg h1, if_neg h1]
    by_cases h2 : 256 < n
    · rw [if_pos h2, if_pos h2]
    · rw [if_neg h2, if_neg h2]; rfl
set_option maxRecDepth 100000 in
set_option maxHeartbeats 8000000 in
theorem countOpens_walk (v0 : Value) (zs : List Nat) (w : World) (h0 : Bs w v0 zs ∧ zs.length ≤ 140737488351232) :
    Calls Try.prog 4 #[v0] w fun e w' => e = .returned (.bool true) ∧ Below w.heap.size w w' := by
  obtain ⟨hv, hl⟩ := h0
  have HL := Hid.mk' (lent_any hv (by omega))
  have HV := Hid.mk' hv
  obtain ⟨ao, cap, rfl, -, -⟩ := hv.gen
  obtain ⟨n, hn⟩ : ∃ n, n = zs.length := ⟨_, rfl⟩
  have HN := Hid.mk' hn
  rw [← hn] at HL HV hl ⊢
  clear hv hn
  go_enter Try.func4, Try.ntmps4
  go_wp2_with fail
  refine Calls.mono HL.out ?_
  rintro e w1 ⟨g, rfl, hg, how, hb1⟩
  have hin : Bs w1 (.slice (some ⟨g, 0, none⟩) n (n + 3)) zs := by
    have := how.prefix (c' := n + 3) (by rw [← HN.out]; omega)
    rwa [← HN.out] at this
  have HOW := Hid.mk' how
  have HIN := Hid.mk' hin
  have HT1 : Hid (Grow w w1) := But.of hb1
  clear how hin hb1 HL hg
  by_cases h256 : n = 256
  · have HOP := Hid.mk' (open_any HIN.out (by rw [← HN.out]; exact h256))
    subst h256
    go_wp2_with fail
    refine Calls.mono HOP.out ?_
    rintro e w2 ⟨v2, rfl, ⟨⟨gl, rfl, hgl, hbl⟩, ht2⟩⟩
    have HBL := Hid.mk' hbl
    have HT2 := Hid.mk' ht2
    have HKE := Hid.mk' (kept_true (w := w2) (base := w.heap.size) (g := g) ((HV.out.but HT1.out (fun _ _ _ h => h)).but ht2 (fun _ _ _ h => h)) (by rw [← HN.out]; exact HOW.out.but ht2 (fun _ _ _ h => h)))
    rw [← HN.out] at HKE
    have HF := Hid.mk' (rfault_any (w := w2) (ao := ao) (n := 256) (cap := cap) (i := 0))
    have e0 : rfa 256 0 = 0 := rfl
    rw [e0] at HF
    clear hbl ht2 HOP e0 hgl
    go_wp2_with fail
    refine Calls.mono HF.out ?_
    rintro e w3 ⟨rfl, hw3⟩
    have hw4 := hw3.symm
    subst hw4
    go_wp2_with fail
    refine Calls.mono HKE.out ?_
    rintro e w3 ⟨rfl, d, rfl⟩
    obtain ⟨W, hW⟩ : ∃ W, W = w2.drewN d := ⟨_, rfl⟩
    rw [← hW]
    have hg2 : Grow w2 W := by rw [hW]; exact (But.refl _ _).drewN
    have HBW := Hid.mk' (HBL.out.but hg2 (fun h => h))
    have HVW := Hid.mk' (((HV.out.but HT1.out (fun _ _ _ h => h)).but HT2.out (fun _ _ _ h => h)).but hg2 (fun _ _ _ h => h))
    have HTW : Hid (Grow w W) := (HT1.out.trans HT2.out).trans hg2
    clear hW hg2 HBL HV HT1 HT2 HOW HIN HKE HF
    go_wp2_with fail
    go_loopw [7] (fun i wr => ∃ k : Nat, k ≤ 16 ∧ i = .int .i64 k ∧ Grow W wr) (fun i _ => 16 - (intOf i).toNat)
    case atStart => exact ⟨0, Nat.zero_le _, rfl, But.refl _ _⟩
    case round =>
      obtain ⟨k, hk, rfl, hgr⟩ := hrel
      by_cases hlt : k < 16
      · have HA : Hid (∀ w', Grow wr w' → Calls Try.prog 16 #[.slice ao 256 cap, .int .i64 (k : Int)] w' fun e w'' => e = .returned (evalE (atE zs k)) ∧ But (fun _ => False) w' w'') := fun w' hw' =>
          rat_any (HVW.out.but (hgr.trans hw') (fun _ _ _ h => h)) HN.out.symm hlt
        have HC : Hid (∀ w', Grow wr w' → ∀ j u, (ecells (atE zs k))[j]? = some u → w'.cell? ((⟨gl, k * 3, none⟩ : Addr).add j) = some u) := fun w' hw' j u hu => by
          rw [add_plain, (HBW.out.but (hgr.trans hw') (fun h => h)).cell]
          exact flatE_get _ hlt j u hu
        have HGR := Hid.mk' hgr
        clear hgr
        go_upto_region 11 with fail
        refine region_chain [] [0, 1, 2, 3, 4, 5, 6, 7, 8, 9, 10, 11, 12] (Grow wr) (Grow wr) (by kernel_rfl) (by kernel_rfl) (fun _ _ h k => h.trans k) (fun _ h => h) ((But.refl _ wr).drew) ?_
        intro ι hne X hX
        iterate 7 (refine still_step rfl (fun K hK => ?_); go_simp; refine hK _ ?_; clear hK K)
        refine still_val rfl (evalE (atE zs k)) rfl (fun q => exec_ldE (cs := atE zs k) (HC.out _ (hX q)) rfl rfl) ?_
        intro K hK; go_simp; refine hK _ ?_; clear hK K
        iterate 2 (refine still_step rfl (fun K hK => ?_); go_simp; refine hK _ ?_; clear hK K)
        refine still_call rfl (evalE (atE zs k)) 16 #[.slice ao 256 cap, .int .i64 (k : Int)] rfl (fun q => by kernel_rfl) (fun q => HA.out _ (hX q)) ?_
        intro K hK; go_simp; refine hK _ ?_; clear hK K
        refine still_val rfl (.bool false) rfl (fun q => exec_neE (b := true) rfl rfl rfl gE (equalEn _ _)) ?_
        intro K hK; go_simp; refine hK _ ?_; clear hK K
        refine still_step rfl (fun K hK => ?_); go_simp; refine hK _ ?_; clear hK K
        refine still_nil ?_
        clear hX hne
        intro w8 hw8
        have HG8 := Hid.mk' (HGR.out.trans hw8)
        clear hw8
        go_wp2
        exact ⟨⟨k + 1, by omega, by go_num, HG8.out⟩, by simp [intOf]; omega⟩
      · have hkn : k = 16 := by omega
        subst hkn
        have HGR := Hid.mk' hgr
        clear hgr
        go_wp2_with fail
        refine Calls.mono (cawake_any _) ?_
        rintro e w4 ⟨rfl, ht4⟩
        have HT4 := Hid.mk' ((HTW.out.trans HGR.out).trans ht4)
        clear ht4
        go_wp2
        go_ret
        exact ⟨rfl, HT4.out.below (Nat.le_refl _) (fun _ _ h => h)⟩
  · have HOP := Hid.mk' (open_no (w := w1) (ao := some ⟨g, 0, none⟩) (n := n) (cap := n + 3) h256)
    have HF := Hid.mk' (rfault_any (w := w1) (ao := ao) (n := n) (cap := cap) (i := 0))
    rw [rf_rfa] at HF
    have HKE := Hid.mk' (kept_true (w := w1) (base := w.heap.size) (g := g) (HV.out.but HT1.out (fun _ _ _ h => h)) (by rw [← HN.out]; exact HOW.out))
    rw [← HN.out] at HKE
    obtain ⟨R, hR⟩ : ∃ R, R = rf n := ⟨_, rfl⟩
    rw [← hR] at HOP HF
    have r1 : (R != 0) = true := by
      rw [hR, rf]
      by_cases h1 : n < 256
      · rw [if_pos h1]; rfl
      · rw [if_neg h1, if_pos (by omega)]; rfl
    clear hR h256 HOW HIN HV
    go_wp2_with fail
    refine Calls.mono HOP.out ?_
    rintro e w2 ⟨rfl, hw2⟩
    have hw4 := hw2.symm
    subst hw4
    go_wp2_with fail
    refine Calls.mono HF.out ?_
    rintro e w3 ⟨rfl, hw3⟩
    have hw4 := hw3.symm
    subst hw4
    go_wp2_with fail
    refine Calls.mono HKE.out ?_
    rintro e w3 ⟨rfl, d, rfl⟩
    go_wp2_with fail
    refine Calls.mono (cawake_any _) ?_
    rintro e w4 ⟨rfl, ht4⟩
    have HT4 : Hid (Grow w w4) := (HT1.out.drewN).trans ht4
    clear ht4
    go_wp2
    go_ret
    exact ⟨rfl, HT4.out.below (Nat.le_refl _) (fun _ _ h => h)⟩
set_option maxRecDepth 100000 in
theorem countOpens_lifted (os : Os) (started : os.Started) (H : Type) (enc : TypeId × Value → H) :
    ReturnsInHanded {} Try.checked os 4 .any (Rows.countOpensSpec.pre6 enc Try.prog Try.f4 Rows.countOpensRow.domain false) (Rows.countOpensSpec.post enc Try.prog Try.f4 false true false false) := by
  refine returnsInHanded_of_change_sized (C := Try.checked) (by kernel_rfl) started (by kernel_rfl) Try.func4
    (ChangeSpec.witness6 (enc := enc) (C := Try.checked) false ⟨#[], #[.slice none 0 0], []⟩ 8 (by kernel_rfl) (by kernel_rfl) (by kernel_rfl) (by kernel_rfl)) ?_
  intro W base args ds gs before hval0 hW hcnd hsz0 _
  have hsz : (DataW.weightsEach Try.prog (Try.f4.params.toList ++ Rows.countOpensSpec.plain.varTypes Try.prog) (ds ++ gs)).all (· ≤ reachBytes) = true := hsz0
  clear hsz0
  have hval : ∀ (j : Nat) t v, Try.f4.params[j]? = some t → args[j]? = some v → Value.okWide Try.prog W .any base t v := hval0
  have hW' := hW
  obtain ⟨p, q, hA0, hV, rfl, hfz, hnd⟩ := hW
  have hA : DataW.TrodAll enc Try.prog W 0 (fun _ => true) true Try.f4.params.toList args.toList ds p := hA0
  rw [Try.params4] at hA hval hsz
  obtain ⟨v0, vs0, d0, ds0, p0, q0, hargs, rfl, rfl, h0, r0⟩ := trodAll_cons hA
  obtain ⟨rfl, rfl, rfl⟩ := trodAll_nil r0
  obtain rfl : args = #[v0] := by cases args; simp_all
  obtain ⟨rfl, rfl⟩ := trodVars_none hV
  have lt0 : ∀ x ∈ p0, x.block < W.heap.size := by obtain ⟨m, hm⟩ := h0; exact DataW.trod_lt m _ _ _ hm
  obtain ⟨z0, w0⟩ := view_bytes Try.underlying23 Try.underlying5 (by kernel_rfl) (by kernel_rfl) (hval 0 23 v0 rfl rfl) h0 lt0 hsz (j := 0) rfl rfl
  clear hA0 hval0
  refine (countOpens_walk v0 z0 W w0).mono fun e W' ⟨he, bel⟩ => ?_
  subst he
  exact ⟨_, rfl, _, _, _, [], _, [], hW', trodAll_mk1 (shut_bool Try.underlying4 _), (trodAll_cons_mk (Below.trod (by kernel_rfl) (by kernel_rfl) (of_decide_eq_true (by kernel_rfl)) h0 bel lt0) trodAll_mk0), rfl, bel.frame _, fun h => by cases h⟩

theorem countOpens_holds : Rows.CountOpensSaid :=
  OpenClaim.holds_of_wide 4 Try.f4 rfl rfl rfl rfl rfl rfl rfl ⟨rfl, rfl, rfl, rfl, rfl⟩ rfl rfl rfl rfl rfl (by kernel_rfl) Try.func4 (by kernel_rfl)
    (of_decide_eq_true (by kernel_rfl)) (by unfold Func.isWrapper; first | (rw [if_pos (by decide +kernel)]; kernel_rfl) | (rw [if_neg (by decide +kernel)]; exact ⟨rfl, rfl⟩))
    (fun os started H enc _ => countOpens_lifted os started H enc)
#print axioms countOpens_holds
end Go.Proofs.Ytffiphdbjohilaa
