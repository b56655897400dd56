/- The place of any block is the document's: for any pages, any budget, any block. No condition. -/
import Derived.Test.YtidblaepklgkcaaPlEq
import Derived.ProofKit
import Derived.OpenShut
import Derived.ChangeOld
import Derived.Below
namespace Go.Proofs.Ytidblaepklgkcaa
open Go.ChangeShapes Go.WideShapes Go.ChangeAt Go.RowKit

theorem wfJ {z : Int} (h : (Lit.int .i64 z).wf = true) : i64 z := by
  have h1 : IntKind.i64.min ≤ z ∧ z ≤ IntKind.i64.max := by simpa [Lit.wf, go_sem] using h
  exact h1
theorem var_newC (w : World) : Blk (w.alloc (.cells (plc 0 0).toArray 53)) w.heap.size 53 ([] ++ plc 0 0 ++ []) := by
  rw [List.nil_append, List.append_nil]; exact Blk.new rfl
theorem var_growC {w w2 : World} (k : But (· = w.heap.size) (w.alloc (.cells (plc 0 0).toArray 53)) w2) : Grow w w2 :=
  ((But.refl (fun _ => False) w).alloc _).then k (fun j hj e => by omega)
theorem plan_head {n b : Nat} (h1 : 1 ≤ n) (h2 : n ≤ 4096) (h3 : 1 ≤ b) (h4 : b ≤ 256) : (plan n b).head = (plan n b).top + 1 ∧ 1 ≤ (plan n b).total ∧ (plan n b).total ≤ 100000 ∧ (plan n b).head ≤ 5000 ∧ 1 ≤ (plan n b).head := by
  have hm := plan_mad (b := b) h1 h2
  have ht := hm.top
  have hd := hm.hd
  have hn := hm.nd
  have hp := hm.pg
  have hc := hm.c1
  have hs := hm.sum
  have h5 := (hm.lv.pos hc.1).2
  have hT : (plan n b).total = (plan n b).head + (bg (12 + 4 * b) 256 : Nat) + (b : Int) + (b : Int) := by
    show ((_ : Nat) : Int) = ((_ : Nat) : Int) + _ + _ + _
    omega
  have hb : bg (12 + 4 * b) 256 ≤ 5 := by unfold bg; omega
  omega
set_option maxRecDepth 100000 in
set_option maxHeartbeats 2000000 in
theorem planParents_walk (x y z : Int) (w : World) (_ : (Lit.int .i64 x).wf = true) (_ : (Lit.int .i64 y).wf = true) (hz : (Lit.int .i64 z).wf = true) : Calls Try.prog 5 #[.int .i64 x, .int .i64 y, .int .i64 z] w fun e w' => e = .returned (.bool true) ∧ Below w.heap.size w w' := by
  have HMD := Hid.mk' (made_any w x y)
  have HZ := Hid.mk' (wfJ hz)
  clear hz
  go_enter Try.func5, Try.ntmps5
  go_wp2_with fail
  refine Calls.mono HMD.out ?_
  rintro e w1 ⟨n, b, v, hn, hb, rfl, ho, hg⟩
  have hx1 := Int.emod_nonneg x (b := 4096) (by decide)
  have hx2 := Int.emod_lt_of_pos x (b := 4096) (by decide)
  have hy1 := Int.emod_nonneg y (b := 256) (by decide)
  have hy2 := Int.emod_lt_of_pos y (b := 256) (by decide)
  have n1 : 1 ≤ n := by omega
  have n2 : n ≤ 4096 := by omega
  have hph := plan_head (b := b) n1 n2 (by omega) (by omega)
  have HPM := Hid.mk' (Pm.of n1 n2 ho)
  have HMA := Hid.mk' (plan_mad (b := b) n1 n2)
  obtain ⟨va, vc, hve⟩ := ho.sl
  obtain ⟨P, hP⟩ : ∃ P, P = plan n b := ⟨_, rfl⟩
  have HPN : Hid (∀ wz, Pm wz n b v → Nums wz v P.levels) := fun wz h => by rw [hP]; exact h.nums
  rw [← hP] at hve hph HMA ⊢
  have HG1 := Hid.mk' hg
  have HPH := Hid.mk' hph
  generalize P.levels.length = ln at hve
  subst hve
  clear hg ho hn hb hx1 hx2 hy1 hy2 n1 n2 hP hph HMD
  go_upto_region 2 with (first
    | (refine wpList_runH rfl (exec_allocF rfl (zPl _)) ?_)
    | (refine wpList_store_at rfl _ _ _ rfl w1.heap.size 0 (pcells P (.slice va ln vc)) rfl rfl 42 [] (pcells Pn.zero noS) [] (var_new w1) rfl rfl iPl (pcells_one _ rfl) ?_; intro w2 hb2 hbut2; rw [List.nil_append, List.append_nil] at hb2)
    | fail)
  obtain ⟨g, hgg⟩ : ∃ g, g = w1.heap.size := ⟨_, rfl⟩
  have hg2 := var_grow hbut2
  rw [← hgg] at hb2 ⊢
  have HB2 := Hid.mk' hb2
  have HPM2 := Hid.mk' (HPM.out.grow hg2)
  have HG2 := Hid.mk' (HG1.out.trans hg2)
  have c9 : w2.cell? ⟨g, 9, none⟩ = some (.int .i64 P.total) := hb2.cell 9
  obtain ⟨tt, ht⟩ : ∃ t, t = P.total := ⟨_, rfl⟩
  rw [← ht] at c9
  have ht1 : 1 ≤ tt := by rw [ht]; exact HPH.out.2.1
  have ht2 : tt ≤ 100000 := by rw [ht]; exact HPH.out.2.2.1
  have HPK := Hid.mk' (pick_any z tt w2 (by omega) (by omega))
  obtain ⟨k, hk⟩ : ∃ k, k = z % tt := ⟨_, rfl⟩
  have HKI : Hid (i64 k) := Hid.mk' (by
    have h1 := Int.emod_nonneg z (b := tt) (by omega)
    have h2 := Int.emod_lt_of_pos z (b := tt) (by omega)
    unfold i64
    omega)
  rw [← hk] at HPK
  clear hgg hb2 hbut2 hg2 HPM HG1 ht hk
  go_wp2_with fail
  refine Calls.mono HPK.out ?_
  rintro e w' ⟨rfl, hw⟩
  have h3 := hw.symm
  subst h3
  clear hw HPK ht1 ht2
  go_wp2
  go_loopw [29] (fun iv wr => ∃ i : Nat, i ≤ 2 ∧ iv = .int .i64 i ∧ Grow w2 wr) (fun iv _ => 2 - (intOf iv).toNat)
  case atStart => exact ⟨0, by decide, rfl, But.refl _ _⟩
  case round =>
    clear c9
    obtain ⟨i, hi, rfl, hg3⟩ := hrel
    have HG3 := Hid.mk' hg3
    have HB3 := Hid.mk' (HB2.out.but hg3 (fun h => h))
    have HPM3 := Hid.mk' (HPM2.out.grow hg3)
    clear hg3
    by_cases hlt : i < 2
    · have hlti : (i : Int) < 2 := by omega
      have HIX := Hid.mk' (fun w => idx2 z k i hlt w)
      obtain ⟨q, hq⟩ : ∃ q, q = if i = 0 then z else k := ⟨_, rfl⟩
      have HQI : Hid (i64 q) := Hid.mk' (by
        rw [hq]
        split
        · exact HZ.out
        · exact HKI.out)
      rw [← hq] at HIX
      have HPR := Hid.mk' (parent_any wr P (.slice va ln vc) q (HPN.out _ HPM3.out) (by have := HMA.out.len; omega))
      have HRP : Hid (∀ wz, Grow wr wz → Calls Try.prog 23 #[pval P (.slice va ln vc), .int .i64 q] wz fun e w' => e = .returned (P.par q).ret ∧ Grow wz w') := fun wz kk => by
        have h := rparent_any wz P (.slice va ln vc) q HQI.out (HPN.out _ (HPM3.out.grow kk)) HMA.out.good
        rw [HMA.out.rpar HQI.out] at h
        exact h
      obtain ⟨⟨pb, pa, pe⟩, hpc⟩ : ∃ pc, pc = P.par q := ⟨_, rfl⟩
      rw [← hpc] at HPR HRP
      unfold Pc.ret at HPR HRP
      dsimp only at HPR HRP
      have hee : (pe != pe) = false := by simp
      have HLT := Hid.mk' hlt
      clear hpc hq hlt hi
      go_upto_region 7 with (first
        | (refine wpList_runH rfl (exec_idx rfl rfl rfl (HIX.out _)) ?_)
        | fail)
      go_wp2_with (first
        | (refine wpList_load_cells rfl _ _ rfl ⟨g, 0, none⟩ rfl (pcells P (.slice va ln vc)) _ HB3.out.pl Try.underlying42 rfl iPl ?_)
        | fail)
      refine Calls.mono HPR.out ?_
      rintro e w4 ⟨rfl, hg4⟩
      have HB4 := Hid.mk' (HB3.out.but hg4 (fun h => h))
      have HG4 := Hid.mk' hg4
      clear hg4 HPR HIX
      go_upto_region 8 with (first
        | (refine wpList_runH rfl (exec_allocF rfl (zPc _)) ?_)
        | (refine wpList_store_at rfl _ _ _ rfl w4.heap.size 0 (plc pb pa) rfl rfl 53 [] (plc 0 0) [] (var_newC w4) rfl rfl iPc (plc_one _ _) ?_; intro w5 hb5 hbut5; rw [List.nil_append, List.append_nil] at hb5)
        | fail)
      obtain ⟨g4, hgg⟩ : ∃ g, g = w4.heap.size := ⟨_, rfl⟩
      have hg5 := var_growC hbut5
      rw [← hgg] at hb5 ⊢
      have HX5 := Hid.mk' hb5
      have HB5 := Hid.mk' (HB4.out.but hg5 (fun h => h))
      have HG5 := Hid.mk' (HG4.out.trans hg5)
      clear hgg hb5 hbut5 hg5 HB4 HG4
      go_wp2_with (first
        | (refine wpList_load_cells rfl _ _ rfl ⟨g, 0, none⟩ rfl (pcells P (.slice va ln vc)) _ HB5.out.pl Try.underlying42 rfl iPl ?_)
        | fail)
      refine Calls.mono (HRP.out _ HG5.out) ?_
      rintro e w6 ⟨rfl, hg6⟩
      have HX6 := Hid.mk' (HX5.out.but hg6 (fun h => h))
      have HG6 := Hid.mk' (HG5.out.trans hg6)
      clear hg6 HRP HX5 HB5 HG5
      go_upto_region 9 with (first
        | (refine wpList_runH rfl (exec_allocF rfl (zPc _)) ?_)
        | (refine wpList_store_at rfl _ _ _ rfl w6.heap.size 0 (plc pb pa) rfl rfl 53 [] (plc 0 0) [] (var_newC w6) rfl rfl iPc (plc_one _ _) ?_; intro w7 hb7 hbut7; rw [List.nil_append, List.append_nil] at hb7)
        | fail)
      obtain ⟨g6, hgg⟩ : ∃ g, g = w6.heap.size := ⟨_, rfl⟩
      have hg7 := var_growC hbut7
      rw [← hgg] at hb7 ⊢
      have HY7 := Hid.mk' hb7
      have HX7 := Hid.mk' (HX6.out.but hg7 (fun h => h))
      have HG7 := Hid.mk' (HG3.out.trans (HG6.out.trans hg7))
      clear hgg hb7 hbut7 hg7 HX6 HG6
      go_wp2_with (first
        | (refine wpList_load_cells rfl _ _ rfl ⟨g4, 0, none⟩ rfl (plc pb pa) _ HX7.out.pl Try.underlying53 rfl iPc ?_)
        | (refine wpList_load_cells rfl _ _ rfl ⟨g6, 0, none⟩ rfl (plc pb pa) _ HY7.out.pl Try.underlying53 rfl iPc ?_)
        | (refine wpList_runH rfl (exec_neP (N := (plc pb pa).toArray) (M := (plc pb pa).toArray) (b := true) rfl rfl rfl (by kernel_rfl) (equalPc pb pa _)) ?_)
        | fail)
      exact ⟨⟨i + 1, by have := HLT.out; omega, by go_num, HG7.out⟩, by simp [intOf]; have := HLT.out; omega⟩
    · have hlti : ¬ (i : Int) < 2 := by omega
      have HTP := Hid.mk' (fun wz => top_any wz P (.slice va ln vc))
      have HC5 : Hid (∀ wz, Grow wr wz → wz.cell? ⟨g, 5, none⟩ = some (.int .i64 P.head)) := fun wz kk => (HB3.out.but kk (fun h => h)).cell 5
      have HLD : Hid (∀ wz, Grow wr wz → ∀ j u, (pcells P (.slice va ln vc))[j]? = some u → wz.cell? ((⟨g, 0, none⟩ : Addr).add j) = some u) := fun wz kk => (HB3.out.but kk (fun h => h)).pl
      have hhe := HPH.out.1
      have hh5 := HPH.out.2.2.2
      obtain ⟨hd, hhd⟩ : ∃ h, h = P.head := ⟨_, rfl⟩
      obtain ⟨tp, htp⟩ : ∃ t, t = P.top := ⟨_, rfl⟩
      rw [← hhd] at HC5 hhe hh5
      rw [← htp] at HTP hhe
      have hte : hd - 1 = tp := by omega
      have hd1 := hh5.1
      have hd2 := hh5.2
      have HAW := Hid.mk' (fun w => plawake_any w)
      clear hhe hh5 hhd htp hi hlt
      go_upto_region 12 with fail
      have hwr : IntKind.i64.wrap (hd - 1) = tp := by rw [wrapI (by omega) (by omega)]; exact hte
      have htt : (tp == tp) = true := by simp
      clear hte
      refine region_chain [] [0, 1, 2, 3, 4, 5, 6, 7, 8, 9] (Grow wr) (Grow wr) (by kernel_rfl) (by kernel_rfl) (fun _ _ h k => h.trans k) (fun _ h => h) ((But.refl _ wr).drew) ?_
      intro ι hne X hX
      have d5 : ∀ q, (X q).cell? ⟨g, 5, none⟩ = some (.int .i64 hd) := fun q => HC5.out _ (hX q)
      refine still_val rfl (pval P (.slice va ln vc)) rfl (fun q => exec_ldF (cs := pcells P (.slice va ln vc)) Try.underlying42 rfl iPl (HLD.out _ (hX q)) rfl rfl) ?_
      intro K hK; go_simp; refine hK _ ?_; clear hK K
      refine still_call rfl (.int .i64 tp) 24 #[pval P (.slice va ln vc)] rfl (fun q => by kernel_rfl) (fun q => HTP.out _) ?_
      intro K hK; go_simp; refine hK _ ?_; clear hK K
      iterate 5 (refine still_step rfl (fun K hK => ?_); go_simp; refine hK _ ?_; clear hK K)
      refine still_call rfl (.bool true) 20 #[] rfl (fun q => by kernel_rfl) (fun q => HAW.out _) ?_
      intro K hK; go_simp; refine hK _ ?_; clear hK K
      iterate 2 (refine still_step rfl (fun K hK => ?_); go_simp; refine hK _ ?_; clear hK K)
      refine still_nil ?_
      clear hX hne d5
      intro w8 hw8
      have HG8 := Hid.mk' (HG2.out.trans (HG3.out.trans hw8))
      clear hw8
      go_wp2
      go_ret
      exact ⟨rfl, HG8.out.below (Nat.le_refl _) (fun _ _ h => h)⟩
set_option maxRecDepth 100000 in
theorem planParents_lifted (os : Os) (started : os.Started) (H : Type) (enc : TypeId × Value → H) :
    ReturnsInHanded {} Try.checked os 5 .any (Rows.planParentsSpec.pre6 enc Try.prog Try.f5 Rows.planParentsRow.domain false) (Rows.planParentsSpec.post enc Try.prog Try.f5 false true false false) := by
  refine returnsInHanded_of_change (C := Try.checked) (by kernel_rfl) started (by kernel_rfl) Try.func5
    (ChangeSpec.witness6 (enc := enc) (C := Try.checked) false ⟨#[], #[.int .i64 0, .int .i64 0, .int .i64 0], []⟩ 8 (by kernel_rfl) (by kernel_rfl) (by kernel_rfl) (by kernel_rfl)) ?_
  intro W base args ds gs before hval0 hW hcnd _
  have hval : ∀ (j : Nat) t v, Try.f5.params[j]? = some t → args[j]? = some v → Value.okWide Try.prog W .any base t v := hval0
  have hW' := hW
  obtain ⟨p, q, hA0, hV, rfl, hfz, hnd⟩ := hW
  have hA : DataW.TrodAll enc Try.prog W 0 (fun _ => true) true Try.f5.params.toList args.toList ds p := hA0
  rw [Try.params5] at hA hval
  obtain ⟨v0, vs0, d0, ds0, p0, q0, hargs, rfl, rfl, h0, r0⟩ := trodAll_cons hA
  obtain ⟨v1, vs1, d1, ds1, p1, q1, rfl, rfl, rfl, h1, r1⟩ := trodAll_cons r0
  obtain ⟨v2, vs2, d2, ds2, p2, q2, rfl, rfl, rfl, h2, r2⟩ := trodAll_cons r1
  obtain ⟨rfl, rfl, rfl⟩ := trodAll_nil r2
  obtain rfl : args = #[v0, v1, v2] := by cases args; simp_all
  obtain ⟨rfl, rfl⟩ := trodVars_none hV
  obtain ⟨a0, rfl, rfl, rfl, w0⟩ := open_int Try.underlying3 (hval 0 3 v0 rfl rfl) h0
  obtain ⟨a1, rfl, rfl, rfl, w1⟩ := open_int Try.underlying3 (hval 1 3 v1 rfl rfl) h1
  obtain ⟨a2, rfl, rfl, rfl, w2⟩ := open_int Try.underlying3 (hval 2 3 v2 rfl rfl) h2
  clear hA0 hval0
  refine (planParents_walk a0 a1 a2 W w0 w1 w2).mono fun e W' ⟨he, bel⟩ => ?_
  subst he
  exact ⟨_, rfl, _, _, _, [], _, [], hW', trodAll_mk1 (shut_bool Try.underlying4 _), (trodAll_cons_mk (shut_int Try.underlying3 w0) (trodAll_cons_mk (shut_int Try.underlying3 w1) (trodAll_cons_mk (shut_int Try.underlying3 w2) trodAll_mk0))), rfl, bel.frame _, fun h => by cases h⟩

theorem planParents_holds : Rows.PlanParentsSaid :=
  OpenClaim.holds_of_wide 5 Try.f5 rfl rfl rfl rfl rfl rfl rfl ⟨rfl, rfl, rfl, rfl, rfl⟩ rfl rfl rfl rfl rfl (by kernel_rfl) Try.func5 (by kernel_rfl)
    (of_decide_eq_true (by kernel_rfl)) (by unfold Func.isWrapper; first | (rw [if_pos (by decide +kernel)]; kernel_rfl) | (rw [if_neg (by decide +kernel)]; exact ⟨rfl, rfl⟩))
    (fun os started H enc _ => planParents_lifted os started H enc)
#print axioms planParents_holds
end Go.Proofs.Ytidblaepklgkcaa
