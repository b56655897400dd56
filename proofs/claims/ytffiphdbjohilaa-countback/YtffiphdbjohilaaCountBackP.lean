/- CountBack: what was packed is opened as it was; what is opened would be packed so. For every input. -/
import Derived.Test.YtffiphdbjohilaaCtEq
namespace Go.Proofs.Ytffiphdbjohilaa
open Go.ChangeShapes Go.WideShapes Go.ChangeAt Go.RowKit Go.Deep

theorem atE_pkn (A : Nat → En) : ∀ n, n ≤ 16 → (∀ i, i < n → (A i).ok) → ∀ i, i < 16 → atE (pkN A n) i = if i < n then A i else ⟨0, 0, 0⟩
  | 0, _, _, i, hi => by
    have e : (List.replicate 256 0).drop (16 * i) = ebs ⟨0, 0, 0⟩ ++ List.replicate (240 - 16 * i) 0 := by
      have e0 : ebs ⟨0, 0, 0⟩ = List.replicate 16 0 := by decide
      rw [e0, List.drop_replicate, List.replicate_append_replicate]
      congr 1
      omega
    simp only [atE, pkN, e, Nat.not_lt_zero, if_false]
    exact en_ebs _ ⟨by decide, by decide, by decide⟩ _
  | n + 1, h, hA, i, hi => by
    have hl := pkN_len A n (by omega)
    by_cases he : i = n
    · subst he
      rw [pkN, atE_set (hA i (by omega)) (by omega), if_pos (by omega)]
    · rw [pkN, atE_other _ (by omega) he, atE_pkn A n (by omega) (fun j hj => hA j (by omega)) i hi]
      by_cases hlt : i < n
      · rw [if_pos hlt, if_pos (by omega)]
      · rw [if_neg hlt, if_neg (by omega)]
theorem Ens.okAll {w : World} {v : Value} {n : Nat} {A : Nat → En} (h : Ens w v n A) : ∀ i, i < n → (A i).ok := fun _ hi => h.okAt hi
set_option maxRecDepth 100000 in
set_option maxHeartbeats 8000000 in
theorem countBack_walk (v0 : Value) (n : Nat) (A : Nat → En) (v1 : Value) (zs : List Nat) (w : World) (h0 : Ens w v0 n A) (h1 : Bs w v1 zs ∧ zs.length ≤ 140737488351232) :
    Calls Try.prog 5 #[v0, v1] w fun e w' => e = .returned (.bool true) ∧ Below w.heap.size w w' := by
  obtain ⟨hv, -⟩ := h1
  obtain ⟨ao, cap, rfl⟩ := h0.len
  have HE := Hid.mk' h0
  have HV := Hid.mk' hv
  obtain ⟨bo, bcap, rfl, -, -⟩ := hv.gen
  obtain ⟨m, hm⟩ : ∃ m, m = zs.length := ⟨_, rfl⟩
  have HM := Hid.mk' hm
  rw [← hm] at HV ⊢
  clear hv hm h0
  by_cases hn : n ≤ 16
  case neg =>
    have HP := Hid.mk' (pack_no HE.out (by omega))
    go_enter Try.func5, Try.ntmps5
    go_wp2_with fail
    refine Calls.mono HP.out ?_
    rintro e w1 ⟨rfl, hw1⟩
    have hw2 := hw1.symm
    subst hw2
    go_wp2_with fail
    refine Calls.mono (cawake_any _) ?_
    rintro e w4 ⟨rfl, ht4⟩
    have HT4 := Hid.mk' ht4
    clear ht4
    go_wp2
    go_ret
    exact ⟨rfl, HT4.out.below (Nat.le_refl _) (fun _ _ h => h)⟩
  have HP := Hid.mk' (pack_any HE.out hn)
  go_enter Try.func5, Try.ntmps5
  go_wp2_with fail
  refine Calls.mono HP.out ?_
  rintro e w1 ⟨v1, rfl, hb1⟩
  have HO := Hid.mk' (open_any hb1.ow.bs hb1.len)
  have HT1 : Hid (Grow w w1) := hb1.but
  obtain ⟨p1, p2, p3, rfl⟩ := hb1.ow.slice
  clear hb1 HP
  go_wp2_with fail
  refine Calls.mono HO.out ?_
  rintro e w2 ⟨v2, rfl, ⟨⟨gl, rfl, hgl, hbl⟩, ht2⟩⟩
  have HBL := Hid.mk' hbl
  have HT2 : Hid (Grow w w2) := HT1.out.trans ht2
  clear hbl ht2 HO hgl HT1
  go_wp2_with fail
  go_loopw [9] (fun i wr => ∃ k : Nat, k ≤ 16 ∧ i = .int .i64 k ∧ Grow w2 wr) (fun i _ => 16 - (intOf i).toNat)
  case atStart => exact ⟨0, Nat.zero_le _, rfl, But.refl _ _⟩
  case round =>
    obtain ⟨k, hk, rfl, hgr⟩ := hrel
    by_cases hlt : k < 16
    · have hat := atE_pkn A n hn HE.out.okAll k hlt
      by_cases hkn : k < n
      · rw [if_pos hkn] at hat
        have HC : Hid (∀ w', Grow wr w' → ∀ j u, (ecells (A k))[j]? = some u → w'.cell? ((⟨gl, k * 3, none⟩ : Addr).add j) = some u) := fun w' hw' j u hu => by
          rw [add_plain, (HBL.out.but (hgr.trans hw') (fun h => h)).cell]
          rw [← hat] at hu
          exact flatE_get _ hlt j u hu
        obtain ⟨b, off, rfl, hbl, -, hc⟩ := HE.out.cells3 rfl hkn
        have HD : Hid (∀ w', Grow wr w' → ∀ j u, (ecells (A k))[j]? = some u → w'.cell? ((⟨b, off + k * 3, none⟩ : Addr).add j) = some u) := fun w' hw' j u hu => by
          have := hc j u hu
          rw [add_plain] at this ⊢
          exact (World.cell?_of_block (((HT2.out.trans hgr).trans hw').block b hbl (fun h => h))).trans this
        have HGR := Hid.mk' hgr
        have d1 : decide (n ≤ k) = false := decide_eq_false (by omega)
        clear hgr hc hat hbl
        go_upto_region 10 with fail
        refine region_chain [] [0, 1, 2, 3, 4, 5, 6, 7, 8, 9, 10, 11, 12, 13, 14, 15, 16, 17, 18, 19, 20, 21, 22, 23, 24, 25, 26, 27, 28] (Grow wr) (Grow wr) (by kernel_rfl) (by kernel_rfl) (fun _ _ h k => h.trans k) (fun _ h => h) ((But.refl _ wr).drew) ?_
        intro ι hne X hX
        iterate 8 (refine still_step rfl (fun K hK => ?_); go_simp; refine hK _ ?_; clear hK K)
        refine still_val rfl (evalE (A k)) rfl (fun q => exec_ldE (cs := A k) (HC.out _ (hX q)) rfl rfl) ?_
        intro K hK; go_simp; refine hK _ ?_; clear hK K
        iterate 3 (refine still_step rfl (fun K hK => ?_); go_simp; refine hK _ ?_; clear hK K)
        refine still_val rfl (evalE (A k)) rfl (fun q => exec_ldE (cs := A k) (HD.out _ (hX q)) rfl rfl) ?_
        intro K hK; go_simp; refine hK _ ?_; clear hK K
        refine still_val rfl (.bool false) rfl (fun q => exec_neE (b := true) rfl rfl rfl gE (equalEn _ _)) ?_
        intro K hK; go_simp; refine hK _ ?_; clear hK K
        iterate 6 (refine still_step rfl (fun K hK => ?_); go_simp; refine hK _ ?_; clear hK K)
        refine still_step rfl (fun K hK => ?_)
        have hK' := fun (a : Act) h1 h4 => hK a (still_pass1 (a := a) 20 true 63 (.bool false) [21, 22, 23, 24, 25, 26] [27, 28] [64, 65, 66, 67, 68, 69] rfl rfl (fun h => by cases h) (by kernel_rfl) (by kernel_rfl) h1 h4)
        clear hK
        go_simp
        refine hK' _ (by kernel_rfl) ?_
        clear hK' K
        intro K hK
        simp only [undefL]
        go_simp
        refine hK _ ?_
        clear hK K
        iterate 2 (refine still_step rfl (fun K hK => ?_); go_simp; refine hK _ ?_; clear hK K)
        refine still_nil ?_
        clear hX hne
        intro w8 hw8
        have HG8 := Hid.mk' (HGR.out.trans hw8)
        clear hw8
        go_wp2
        exact ⟨⟨k + 1, by omega, by go_num, HG8.out⟩, by simp [intOf]; omega⟩
      · rw [if_neg hkn] at hat
        have HC : Hid (∀ w', Grow wr w' → ∀ j u, (ecells ⟨0, 0, 0⟩)[j]? = some u → w'.cell? ((⟨gl, k * 3, none⟩ : Addr).add j) = some u) := fun w' hw' j u hu => by
          rw [add_plain, (HBL.out.but (hgr.trans hw') (fun h => h)).cell]
          rw [← hat] at hu
          exact flatE_get _ hlt j u hu
        have HGR := Hid.mk' hgr
        have d1 : decide (k < n) = false := decide_eq_false (by omega)
        have d2 : n ≤ k := by omega
        clear hgr hat hkn
        go_upto_region 10 with fail
        refine region_chain [] [0, 1, 2, 3, 4, 5, 6, 7, 8, 9, 10, 11, 12, 13, 14, 15, 16, 17, 18, 19, 20, 21, 22, 23, 24, 25, 26, 27, 28] (Grow wr) (Grow wr) (by kernel_rfl) (by kernel_rfl) (fun _ _ h k => h.trans k) (fun _ h => h) ((But.refl _ wr).drew) ?_
        intro ι hne X hX
        iterate 4 (refine still_step rfl (fun K hK => ?_); go_simp; refine hK _ ?_; clear hK K)
        refine still_step rfl (fun K hK => ?_)
        have hK' := fun (a : Act) h1 h4 => hK a (still_pass1 (a := a) 4 true 47 (.bool false) [5, 6, 7, 8, 9, 10, 11, 12, 13] [14, 15, 16, 17, 18, 19, 20, 21, 22, 23, 24, 25, 26, 27, 28] [48, 49, 50, 51, 52, 53, 54, 55, 56] rfl rfl (fun h => by cases h) (by kernel_rfl) (by kernel_rfl) h1 h4)
        clear hK
        go_simp
        refine hK' _ (by kernel_rfl) ?_
        clear hK' K
        intro K hK
        simp only [undefL]
        go_simp
        refine hK _ ?_
        clear hK K
        iterate 10 (refine still_step rfl (fun K hK => ?_); go_simp; refine hK _ ?_; clear hK K)
        refine still_val rfl (evalE ⟨0, 0, 0⟩) rfl (fun q => exec_ldE (cs := ⟨0, 0, 0⟩) (HC.out _ (hX q)) rfl rfl) ?_
        intro K hK; go_simp; refine hK _ ?_; clear hK K
        refine still_val rfl (evalE ⟨0, 0, 0⟩) rfl (fun q => by kernel_rfl) ?_
        intro K hK; go_simp; refine hK _ ?_; clear hK K
        refine still_val rfl (.bool false) rfl (fun q => exec_neE (b := true) rfl rfl rfl gE (equalEn _ _)) ?_
        intro K hK; go_simp; refine hK _ ?_; clear hK K
        iterate 2 (refine still_step rfl (fun K hK => ?_); go_simp; refine hK _ ?_; clear hK K)
        refine still_nil ?_
        clear hX hne
        intro w8 hw8
        have HG8 := Hid.mk' (HGR.out.trans hw8)
        clear hw8
        go_wp2
        exact ⟨⟨k + 1, by omega, by go_num, HG8.out⟩, by simp [intOf]; omega⟩
    · have hkn : k = 16 := by omega
      subst hkn
      have HT3 : Hid (Grow w wr) := HT2.out.trans hgr
      have HV3 := Hid.mk' (HV.out.but HT3.out (fun _ _ _ h => h))
      clear hgr HT2 HV HE HBL
      by_cases h256 : m = 256
      case neg =>
        have HO := Hid.mk' (open_no (w := wr) (ao := bo) (n := m) (cap := bcap) h256)
        have r1 : (rf m != 0) = true := by
          rw [rf]
          by_cases h1 : m < 256
          · rw [if_pos h1]; rfl
          · rw [if_neg h1, if_pos (by omega)]; rfl
        generalize rf m = R at *
        have hm1 : ((m : Int) != 256) = true := by simpa using fun h : (m : Int) = 256 => h256 (by omega)
        have hm2 : ¬ ((m : Int) = 256) := by omega
        go_wp2_with fail
        refine Calls.mono HO.out ?_
        rintro e w3 ⟨rfl, hw3⟩
        have hw4 := hw3.symm
        subst hw4
        go_wp2_with fail
        refine Calls.mono (cawake_any _) ?_
        rintro e w4 ⟨rfl, ht4⟩
        have HT4 := Hid.mk' (HT3.out.trans ht4)
        clear ht4
        go_wp2
        go_ret
        exact ⟨rfl, HT4.out.below (Nat.le_refl _) (fun _ _ h => h)⟩
      subst h256
      have HO := Hid.mk' (open_any HV3.out HM.out.symm)
      go_wp2_with fail
      refine Calls.mono HO.out ?_
      rintro e w3 ⟨v3, rfl, hn3⟩
      have HEN := Hid.mk' (hn3.ens (fun i hi => atE_ok HV3.out.1 (by have := HM.out; omega)))
      have HT4 := Hid.mk' (HT3.out.trans hn3.but)
      have HV4 := Hid.mk' (HV3.out.but hn3.but (fun _ _ _ h => h))
      obtain ⟨⟨g3, rfl, -, -⟩, -⟩ := hn3
      have HPK := Hid.mk' (pack_any HEN.out (Nat.le_refl _))
      clear HO HEN HV3 HT3
      go_wp2_with fail
      refine Calls.mono HPK.out ?_
      rintro e w4 ⟨v4, rfl, hb4⟩
      rw [show pkN (atE zs) 16 = zs from pk_at HV4.out.1 HM.out.symm] at hb4
      have HSA := Hid.mk' (same_any hb4.ow.bs (HV4.out.but hb4.but (fun _ _ _ h => h)))
      rw [decide_eq_true rfl] at HSA
      have HT5 := Hid.mk' (HT4.out.trans hb4.but)
      obtain ⟨p4, p5, p6, rfl⟩ := hb4.ow.slice
      clear hb4 HPK HV4 HT4
      go_wp2_with fail
      refine Calls.mono HSA.out ?_
      rintro e w5 ⟨rfl, d, rfl⟩
      go_wp2_with fail
      refine Calls.mono (cawake_any _) ?_
      rintro e w6 ⟨rfl, ht6⟩
      have HT6 : Hid (Grow w w6) := (HT5.out.drewN).trans ht6
      clear ht6
      go_wp2
      go_ret
      exact ⟨rfl, HT6.out.below (Nat.le_refl _) (fun _ _ h => h)⟩
set_option maxRecDepth 100000 in
theorem countBack_lifted (os : Os) (started : os.Started) (H : Type) (enc : TypeId × Value → H) :
    ReturnsInHanded {} Try.checked os 5 .any (Rows.countBackSpec.pre6 enc Try.prog Try.f5 Rows.countBackRow.domain false) (Rows.countBackSpec.post enc Try.prog Try.f5 false true false false) := by
  refine returnsInHanded_of_change_sized (C := Try.checked) (by kernel_rfl) started (by kernel_rfl) Try.func5
    (ChangeSpec.witness6 (enc := enc) (C := Try.checked) false ⟨#[], #[.slice none 0 0, .slice none 0 0], []⟩ 8 (by kernel_rfl) (by kernel_rfl) (by kernel_rfl) (by kernel_rfl)) ?_
  intro W base args ds gs before hval0 hW hcnd hsz0 _
  have hsz : (DataW.weightsEach Try.prog (Try.f5.params.toList ++ Rows.countBackSpec.plain.varTypes Try.prog) (ds ++ gs)).all (· ≤ reachBytes) = true := hsz0
  clear hsz0
  have hval : ∀ (j : Nat) t v, Try.f5.params[j]? = some t → args[j]? = some v → Value.okWide Try.prog W .any base t v := hval0
  have hW' := hW
  obtain ⟨p, q, hA0, hV, rfl, hfz, hnd⟩ := hW
  have hA : DataW.TrodAll enc Try.prog W 0 (fun _ => true) true Try.f5.params.toList args.toList ds p := hA0
  rw [Try.params5] at hA hval hsz
  obtain ⟨v0, vs0, d0, ds0, p0, q0, hargs, rfl, rfl, h0, r0⟩ := trodAll_cons hA
  obtain ⟨v1, vs1, d1, ds1, p1, q1, rfl, rfl, rfl, h1, r1⟩ := trodAll_cons r0
  obtain ⟨rfl, rfl, rfl⟩ := trodAll_nil r1
  obtain rfl : args = #[v0, v1] := by cases args; simp_all
  obtain ⟨rfl, rfl⟩ := trodVars_none hV
  have lt0 : ∀ x ∈ p0, x.block < W.heap.size := by obtain ⟨m, hm⟩ := h0; exact DataW.trod_lt m _ _ _ hm
  obtain ⟨n0, z0, w0⟩ := view_entries (hval 0 22 v0 rfl rfl) h0 lt0 hsz (j := 0) rfl rfl
  have lt1 : ∀ x ∈ p1, x.block < W.heap.size := by obtain ⟨m, hm⟩ := h1; exact DataW.trod_lt m _ _ _ hm
  obtain ⟨z1, w1⟩ := view_bytes Try.underlying23 Try.underlying5 (by kernel_rfl) (by kernel_rfl) (hval 1 23 v1 rfl rfl) h1 lt1 hsz (j := 1) rfl rfl
  clear hA0 hval0
  refine (countBack_walk v0 n0 z0 v1 z1 W w0 w1).mono fun e W' ⟨he, bel⟩ => ?_
  subst he
  exact ⟨_, rfl, _, _, _, [], _, [], hW', trodAll_mk1 (shut_bool Try.underlying4 _), (trodAll_cons_mk (Below.trod (by kernel_rfl) (by kernel_rfl) (of_decide_eq_true (by kernel_rfl)) h0 bel lt0) (trodAll_cons_mk (Below.trod (by kernel_rfl) (by kernel_rfl) (of_decide_eq_true (by kernel_rfl)) h1 bel lt1) trodAll_mk0)), rfl, bel.frame _, fun h => by cases h⟩

theorem countBack_holds : Rows.CountBackSaid :=
  OpenClaim.holds_of_wide 5 Try.f5 rfl rfl rfl rfl rfl rfl rfl ⟨rfl, rfl, rfl, rfl, rfl⟩ rfl rfl rfl rfl rfl (by kernel_rfl) Try.func5 (by kernel_rfl)
    (of_decide_eq_true (by kernel_rfl)) (by unfold Func.isWrapper; first | (rw [if_pos (by decide +kernel)]; kernel_rfl) | (rw [if_neg (by decide +kernel)]; exact ⟨rfl, rfl⟩))
    (fun os started H enc _ => countBack_lifted os started H enc)
#print axioms countBack_holds
end Go.Proofs.Ytffiphdbjohilaa
