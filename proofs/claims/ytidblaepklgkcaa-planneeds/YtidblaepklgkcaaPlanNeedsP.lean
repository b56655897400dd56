/- How many blocks a Commit of any pages writes is as the document says: for any pages, any budget, any list. No condition. -/
import Derived.Test.YtidblaepklgkcaaPlRNeed
import Derived.ProofKit
import Derived.OpenShut
import Derived.ChangeOld
import Derived.Below
namespace Go.Proofs.Ytidblaepklgkcaa
open Go.ChangeShapes Go.WideShapes Go.ChangeAt Go.RowKit

set_option maxRecDepth 100000 in
set_option maxHeartbeats 4000000 in
theorem planNeeds_walk (x y : Int) (v2 : Value) (xs : List Int) (w : World) (_ : (Lit.int .i64 x).wf = true) (_ : (Lit.int .i64 y).wf = true) (hl : Nums w v2 xs) : Calls Try.prog 7 #[.int .i64 x, .int .i64 y, v2] w fun e w' => e = .returned (.bool true) ∧ Below w.heap.size w w' := by
  have HMD := Hid.mk' (made_any w x y)
  obtain ⟨la, lc, hle⟩ := hl.len
  have HXS := Hid.mk' hl
  obtain ⟨n0, hn0⟩ : ∃ n, n = xs.length := ⟨_, rfl⟩
  rw [← hn0] at hle
  have HN0 := Hid.mk' hn0
  have hn0i : (n0 : Int) ≤ 140737488355328 := by have := hl.2.1; omega
  have HAW := Hid.mk' (fun w => plawake_any w)
  clear hl hn0
  subst hle
  go_enter Try.func7, Try.ntmps7
  go_wp2_with fail
  refine Calls.mono HMD.out ?_
  rintro e w1 ⟨n, b, v, hn, hb, rfl, ho, hg⟩
  have hx1 := Int.emod_nonneg x (b := 4096) (by decide)
  have hx2 := Int.emod_lt_of_pos x (b := 4096) (by decide)
  have n1 : 1 ≤ n := by omega
  have n2 : n ≤ 4096 := by omega
  have HPM := Hid.mk' (Pm.of n1 n2 ho)
  have HMA := Hid.mk' (plan_mad (b := b) n1 n2)
  obtain ⟨va, vc, hve⟩ := ho.sl
  obtain ⟨P, hP⟩ : ∃ P, P = plan n b := ⟨_, rfl⟩
  have HPN : Hid (∀ wz, Pm wz n b v → Nums wz v P.levels) := fun wz h => by rw [hP]; exact h.nums
  rw [← hP] at hve HMA ⊢
  have HG1 := Hid.mk' hg
  generalize hln : P.levels.length = ln at hve
  have HLN := Hid.mk' hln
  subst hve
  clear hg ho hn hb hx1 hx2 n1 n2 hP HMD hln
  go_upto_region 2 with (first
    | (refine wpList_runH rfl (exec_allocF rfl (zPl _)) ?_)
    | (refine wpList_store_at rfl _ _ _ rfl w1.heap.size 0 (pcells P (.slice va ln vc)) rfl rfl 42 [] (pcells Pn.zero noS) [] (var_new w1) rfl rfl iPl (pcells_one _ rfl) ?_; intro w2 hb2 hbut2; rw [List.nil_append, List.append_nil] at hb2)
    | fail)
  obtain ⟨g, hgg⟩ : ∃ g, g = w1.heap.size := ⟨_, rfl⟩
  have hg2 := var_grow hbut2
  rw [← hgg] at hb2 ⊢
  have HBX : Hid (∀ wz, Grow w2 wz → Blk wz g 42 (pcells P (.slice va ln vc))) := fun wz kk => hb2.but kk (fun h => h)
  have HNX : Hid (∀ wz, Grow w2 wz → Nums wz (.slice va ln vc) P.levels) := fun wz kk => HPN.out _ ((HPM.out.grow hg2).grow kk)
  have HG2 := Hid.mk' (HG1.out.trans hg2)
  have HXX : Hid (∀ wz, Grow w2 wz → Nums wz (.slice la n0 lc) xs) := fun wz kk => HXS.out.grow (HG2.out.trans kk)
  clear hgg hb2 hbut2 hg2 HPM HG1 HPN
  by_cases h300 : 300 < n0
  · have h3i : (300 : Int) < (n0 : Int) := by omega
    go_wp2_with fail
    refine Calls.mono (HAW.out _) ?_
    rintro e w3 ⟨rfl, hg3⟩
    have HG3 := Hid.mk' (HG2.out.trans hg3)
    clear hg3
    go_wp2
    go_ret
    exact ⟨rfl, HG3.out.below (Nat.le_refl _) (fun _ _ h => h)⟩
  · have h3i : ¬ (300 : Int) < (n0 : Int) := by omega
    have H300 := Hid.mk' h300
    obtain ⟨pg, hpg⟩ : ∃ q, q = P.pages := ⟨_, rfl⟩
    have hpb : 1 ≤ pg ∧ pg ≤ 4096 := by rw [hpg]; exact HMA.out.pg
    have HPG := Hid.mk' hpg
    have HPB := Hid.mk' hpb
    have HPK : Hid (∀ z wz, Calls Try.prog 9 #[.int .i64 z, .int .i64 pg] wz fun e w' => e = .returned (.int .i64 (z % pg)) ∧ Grow wz w') := fun z wz => Calls.mono (pick_any z pg wz (by omega) (by omega)) (fun e w' h => ⟨h.1, by rw [h.2]; exact But.refl _ _⟩)
    have HC0 : Hid (∀ wz, Grow w2 wz → wz.cell? ⟨g, 0, none⟩ = some (.int .i64 pg)) := fun wz kk => by rw [hpg]; exact (HBX.out wz kk).cell 0
    clear h300 hpg hpb
    go_wp2
    go_loopw [9, 10] (fun rv iv wr => ∃ (i : Nat) (r : Value), i ≤ n0 ∧ iv = .int .i64 i ∧ r = rv ∧ Own w2 wr r ((xs.take i).map (· % pg)) ∧ Grow w2 wr) (fun _ iv _ => n0 - (intOf iv).toNat)
    case atStart => exact ⟨0, noS, Nat.zero_le _, rfl, rfl, ⟨World.ownsRow_nil _ _ _ _, fun k hk => by cases hk⟩, But.refl _ _⟩
    case round =>
      rename_i rv
      obtain ⟨i, r, hin, rfl, rfl, hO, hG⟩ := hrel
      have HO := Hid.mk' hO
      have HG := Hid.mk' hG
      obtain ⟨ra, rc, hre⟩ := hO.sl
      rw [List.length_map] at hre
      have hlen : (xs.take i).length = i := by rw [List.length_take, ← HN0.out]; omega
      rw [hlen] at hre
      have HLI := Hid.mk' hlen
      clear hO hG hlen
      subst hre
      by_cases hlt : i < n0
      · have hlti : (i : Int) < (n0 : Int) := by omega
        obtain ⟨bb, o1, k1, e3, -, -, hc1⟩ := (HXX.out wr HG.out).at (by have := HN0.out; omega)
        simp only [Value.slice.injEq] at e3
        obtain ⟨rfl, -, rfl⟩ := e3
        obtain ⟨z, hz⟩ : ∃ z, z = xs.getD i 0 := ⟨_, rfl⟩
        have cu := hc1 i (by have := HN0.out; omega)
        rw [← hz] at cu
        have hzg : xs[i]? = some z := by
          have h9 : i < xs.length := by have := HN0.out; omega
          rw [hz, List.getD_eq_getElem?_getD, List.getElem?_eq_getElem h9]; rfl
        have HNX2 : Hid ((xs.take (i + 1)).map (· % pg) = (xs.take i).map (· % pg) ++ [z % pg]) := Hid.mk' (by
          have h3 := List.getElem?_eq_some_iff.1 hzg
          rw [List.take_succ_eq_append_getElem h3.1, List.map_append, h3.2]; rfl)
        have HCU := Hid.mk' cu
        obtain ⟨q, hq⟩ : ∃ q, q = z % pg := ⟨_, rfl⟩
        have HPQ : Hid (∀ wz, Calls Try.prog 9 #[.int .i64 z, .int .i64 pg] wz fun e w' => e = .returned (.int .i64 q) ∧ Grow wz w') := Hid.mk' (by rw [hq]; exact HPK.out z)
        rw [← hq] at HNX2
        have HRW : Hid (wr.ownsRow 0 3 1 (.slice ra i rc) i (numv ((xs.take i).map (· % pg)))) := Hid.mk' (by have h := HO.out.row; rw [List.length_map, HLI.out] at h; exact h)
        generalize (xs.take i).map (· % pg) = D at HO HNX2 HRW
        have HDL : Hid (D.length = i) := Hid.mk' (by have h := HRW.out.1; simpa [numv] using h)
        have HLT := Hid.mk' hlt
        clear hc1 hz cu hzg hq hin hlt
        go_upto_region 8 with fail
        refine region_chain [([0, 1, 2, 3, 4, 5, 6, 7], 8), ([], 9)] [10] (Grow w2) (Grow wr) (by kernel_rfl) (by kernel_rfl) (fun _ _ h k => h.trans k) (fun _ h => HG.out.trans h) ((But.refl _ wr).drew) ?_
        intro ι hne X hX
        have d0 : ∀ j, (X j).cell? ⟨g, 0, none⟩ = some (.int .i64 pg) := fun j => HC0.out _ (hX j)
        have dz : ∀ j, (X j).cell? ⟨bb, o1 + i, none⟩ = some (.int .i64 z) := fun j => by
          obtain ⟨b2, o2, k2, e2, -, -, hc2⟩ := (HXX.out _ (hX j)).at (by have := HN0.out; have := HLT.out; omega)
          simp only [Value.slice.injEq, Option.some.injEq, Addr.mk.injEq, and_true] at e2
          obtain ⟨⟨rfl, rfl⟩, -, -⟩ := e2
          have h5 := hc2 i (by have := HN0.out; have := HLT.out; omega)
          obtain ⟨b3, o3, k3, e3, -, -, hc3⟩ := (HXX.out _ HG.out).at (by have := HN0.out; have := HLT.out; omega)
          simp only [Value.slice.injEq, Option.some.injEq, Addr.mk.injEq, and_true] at e3
          obtain ⟨⟨rfl, rfl⟩, -, -⟩ := e3
          have h6 := hc3 i (by have := HN0.out; have := HLT.out; omega)
          rw [HCU.out] at h6
          rw [h5, ← h6]
        iterate 7 (refine still_step rfl (fun K hK => ?_); go_simp; refine hK _ ?_; clear hK K)
        refine still_call rfl (.int .i64 q) 9 #[.int .i64 z, .int .i64 pg] rfl (fun j => by kernel_rfl) (fun j => HPQ.out _) ?_
        intro K hK; go_simp; refine hK _ ?_; clear hK K
        refine still_nil ?_
        clear d0 dz hX hne X ι
        refine turn_run rfl rfl (fun u w' => Grow wr w' ∧ ∃ gn, u = .slice (some ⟨gn, 0, none⟩) 1 1 ∧ Blk w' gn 3 [.int .i64 q]) (fun _ => Grow w2) ?_ (fun _ _ h => HG.out.trans h.1) (.inr (fun _ _ h => h)) ?_ ?_
        · rintro u w4 w5 ⟨h1, gn, h2, h3⟩ k
          exact ⟨h1.trans k, gn, h2, h3.but k (fun h => h)⟩
        · intro w4 h4
          refine turn_row1 (v := .int .i64 q) Try.underlying34 infNum (by decide) (by decide) rfl rfl rfl ⟨h4.trans ((But.refl _ w4).alloc _), _, rfl, ?_⟩
          exact Blk.new (L := [.int .i64 q]) rfl
        rintro u ⟨wq, -, gn, rfl, -⟩ Y hY
        clear wq
        go_simp
        refine hY _ ?_
        clear hY Y
        intro ι hne X hX
        refine still_nil ?_
        clear hX hne X ι
        refine turn_run rfl rfl (fun u w' => Own w2 w' u (D ++ [q]) ∧ Grow w2 w') (fun u w' => Own w2 w' u (D ++ [q]) ∧ Grow w2 w') (fun _ _ _ h k => ⟨h.1.grow k, h.2.trans k⟩) (fun _ _ h => h) (.inr (fun _ _ h => h.2)) ?_ ?_
        · rintro w4 ⟨h1, g', e9, h2⟩
          cases e9
          refine turn_append (v := .slice ra i rc) (n := i) (xs := numv D) (news := numv [q]) Try.underlying34 infNum rfl (by decide) rfl rfl (ownsRow_grow HRW.out h1) rfl (by simp [numv]) (fun j u hj => h2.cells0 j u hj) (fun u hu => by rw [show u = .int .i64 q by simpa [numv] using hu]; rfl) (by have := HLT.out; have := H300.out; omega) (by decide) ?_
          intro v' w5 hap
          have hap' : Appd w4 w5 3 1 (.slice ra i rc) v' (D.length + 1) (numv D ++ numv [q]) := by rw [HDL.out]; exact hap
          exact (HO.out.grow h1).more hap' (HG.out.trans h1)
        rintro u ⟨wq, hov, -⟩ Y hY
        clear hov wq
        go_simp
        refine hY _ ?_
        clear hY Y
        intro ι hne X hX
        iterate 1 (refine still_step rfl (fun K hK => ?_); go_simp; refine hK _ ?_; clear hK K)
        refine still_nil ?_
        clear hX hne X ι
        rintro w6 ⟨ho6, hg6⟩
        have HO6 := Hid.mk' ho6
        have HG6 := Hid.mk' hg6
        clear ho6 hg6
        go_wp2
        exact ⟨⟨i + 1, u, by have := HLT.out; omega, by go_num, rfl, by rw [HNX2.out]; exact HO6.out, HG6.out⟩, by simp [intOf]; have := HLT.out; omega⟩
      · have hie : i = n0 := by omega
        have hlti : ¬ (i : Int) < (n0 : Int) := by omega
        obtain ⟨D, hD⟩ : ∃ D, D = xs.map (· % pg) := ⟨_, rfl⟩
        have hDe : (xs.take i).map (· % pg) = D := by rw [hD, hie, HN0.out, List.take_of_length_le (Nat.le_refl _)]
        rw [hDe] at HO
        have HDB : Hid (D.length = i ∧ i ≤ 300 ∧ ∀ q ∈ D, 0 ≤ q ∧ q < pg) := Hid.mk' ⟨by rw [hD, List.length_map, ← HN0.out, hie], by have := H300.out; omega, fun q hq => by
          rw [hD] at hq
          obtain ⟨z, -, rfl⟩ := List.mem_map.1 hq
          have := HPB.out
          exact ⟨Int.emod_nonneg z (by omega), Int.emod_lt_of_pos z (by omega)⟩⟩
        have HDN : Hid (∀ wz, Grow wr wz → Nums wz (.slice ra i rc) D) := fun wz kk => (HO.out.grow kk).nums (fun q hq => by have := HDB.out.2.2 q hq; have := HPB.out; omega) (by have := HDB.out; omega)
        clear hie hDe hD hin hlt HLI
        have hlen3 : P.levels.length ≤ 3 := HMA.out.len.2
        have HA : Hid (∀ wz, Grow wr wz → Calls Try.prog 27 #[pval P (.slice va ln vc), .slice la n0 lc] wz fun e w' => e = .returned (.int .i64 ((xs.foldl (addP P) []).length : Int)) ∧ Grow wz w') := fun wz kk => need_any wz P _ _ xs (HNX.out _ (HG.out.trans kk)) (by omega) (HXX.out _ (HG.out.trans kk))
        have HB : Hid (∀ wz, Grow wr wz → Calls Try.prog 28 #[pval P (.slice va ln vc), .slice la n0 lc] wz fun e w' => e = .returned (.int .i64 ((xs.foldl (addP P) []).length : Int)) ∧ Grow wz w') := fun wz kk => by
          rw [need_same HMA.out]
          exact rneed_any wz P _ _ xs HMA.out (HNX.out _ (HG.out.trans kk)) (HXX.out _ (HG.out.trans kk)) (by have := HN0.out; have := H300.out; omega)
        have HC : Hid (∀ wz, Grow wr wz → Calls Try.prog 27 #[pval P (.slice va ln vc), .slice ra i rc] wz fun e w' => e = .returned (.int .i64 ((D.foldl (addP P) []).length : Int)) ∧ Grow wz w') := fun wz kk => need_any wz P _ _ D (HNX.out _ (HG.out.trans kk)) (by omega) (HDN.out _ kk)
        have HD : Hid (∀ wz, Grow wr wz → Calls Try.prog 28 #[pval P (.slice va ln vc), .slice ra i rc] wz fun e w' => e = .returned (.int .i64 ((D.foldl (addP P) []).length : Int)) ∧ Grow wz w') := fun wz kk => by
          rw [need_same HMA.out]
          exact rneed_any wz P _ _ D HMA.out (HNX.out _ (HG.out.trans kk)) (HDN.out _ kk) (by have := HDB.out; omega)
        generalize ((xs.foldl (addP P) []).length : Int) = N1 at HA HB
        generalize ((D.foldl (addP P) []).length : Int) = N2 at HC HD
        have e1 : (N1 == N1) = true := by simp
        have e2 : (N2 == N2) = true := by simp
        clear hlen3
        go_upto_region 9 with fail
        refine region_chain [] [0, 1, 2, 3, 4, 5, 6, 7, 8, 9, 10, 11, 12, 13, 14, 15, 16, 17, 18, 19] (Grow wr) (Grow wr) (by kernel_rfl) (by kernel_rfl) (fun _ _ h k => h.trans k) (fun _ h => h) ((But.refl _ wr).drew) ?_
        intro ι hne X hX
        refine still_val rfl (pval P (.slice va ln vc)) rfl (fun j => exec_ldF (cs := pcells P (.slice va ln vc)) Try.underlying42 rfl iPl (HBX.out _ (HG.out.trans (hX j))).pl rfl rfl) ?_
        intro K hK; go_simp; refine hK _ ?_; clear hK K
        iterate 1 (refine still_step rfl (fun K hK => ?_); go_simp; refine hK _ ?_; clear hK K)
        refine still_call rfl (.int .i64 N1) 27 #[pval P (.slice va ln vc), .slice la n0 lc] rfl (fun j => by kernel_rfl) (fun j => HA.out _ (hX j)) ?_
        intro K hK; go_simp; refine hK _ ?_; clear hK K
        refine still_val rfl (pval P (.slice va ln vc)) rfl (fun j => exec_ldF (cs := pcells P (.slice va ln vc)) Try.underlying42 rfl iPl (HBX.out _ (HG.out.trans (hX j))).pl rfl rfl) ?_
        intro K hK; go_simp; refine hK _ ?_; clear hK K
        iterate 1 (refine still_step rfl (fun K hK => ?_); go_simp; refine hK _ ?_; clear hK K)
        refine still_call rfl (.int .i64 N1) 28 #[pval P (.slice va ln vc), .slice la n0 lc] rfl (fun j => by kernel_rfl) (fun j => HB.out _ (hX j)) ?_
        intro K hK; go_simp; refine hK _ ?_; clear hK K
        iterate 2 (refine still_step rfl (fun K hK => ?_); go_simp; refine hK _ ?_; clear hK K)
        refine still_val rfl (pval P (.slice va ln vc)) rfl (fun j => exec_ldF (cs := pcells P (.slice va ln vc)) Try.underlying42 rfl iPl (HBX.out _ (HG.out.trans (hX j))).pl rfl rfl) ?_
        intro K hK; go_simp; refine hK _ ?_; clear hK K
        iterate 1 (refine still_step rfl (fun K hK => ?_); go_simp; refine hK _ ?_; clear hK K)
        refine still_call rfl (.int .i64 N2) 27 #[pval P (.slice va ln vc), .slice ra i rc] rfl (fun j => by kernel_rfl) (fun j => HC.out _ (hX j)) ?_
        intro K hK; go_simp; refine hK _ ?_; clear hK K
        refine still_val rfl (pval P (.slice va ln vc)) rfl (fun j => exec_ldF (cs := pcells P (.slice va ln vc)) Try.underlying42 rfl iPl (HBX.out _ (HG.out.trans (hX j))).pl rfl rfl) ?_
        intro K hK; go_simp; refine hK _ ?_; clear hK K
        iterate 1 (refine still_step rfl (fun K hK => ?_); go_simp; refine hK _ ?_; clear hK K)
        refine still_call rfl (.int .i64 N2) 28 #[pval P (.slice va ln vc), .slice ra i rc] rfl (fun j => by kernel_rfl) (fun j => HD.out _ (hX j)) ?_
        intro K hK; go_simp; refine hK _ ?_; clear hK K
        iterate 3 (refine still_step rfl (fun K hK => ?_); go_simp; refine hK _ ?_; clear hK K)
        refine still_call rfl (.bool true) 20 #[] rfl (fun j => by kernel_rfl) (fun j => HAW.out _) ?_
        intro K hK; go_simp; refine hK _ ?_; clear hK K
        iterate 2 (refine still_step rfl (fun K hK => ?_); go_simp; refine hK _ ?_; clear hK K)
        refine still_nil ?_
        clear hX hne
        intro w8 hw8
        have HG8 := Hid.mk' (HG2.out.trans (HG.out.trans hw8))
        clear hw8
        go_wp2
        go_ret
        exact ⟨rfl, HG8.out.below (Nat.le_refl _) (fun _ _ h => h)⟩
set_option maxRecDepth 100000 in
theorem planNeeds_lifted (os : Os) (started : os.Started) (H : Type) (enc : TypeId × Value → H) :
    ReturnsInHanded {} Try.checked os 7 .any (Rows.planNeedsSpec.pre6 enc Try.prog Try.f7 Rows.planNeedsRow.domain false) (Rows.planNeedsSpec.post enc Try.prog Try.f7 false true false false) := by
  refine returnsInHanded_of_change_sized (C := Try.checked) (by kernel_rfl) started (by kernel_rfl) Try.func7
    (ChangeSpec.witness6 (enc := enc) (C := Try.checked) false ⟨#[], #[.int .i64 0, .int .i64 0, .slice none 0 0], []⟩ 8 (by kernel_rfl) (by kernel_rfl) (by kernel_rfl) (by kernel_rfl)) ?_
  intro W base args ds gs before hval0 hW hcnd hsz0 _
  have hsz : (DataW.weightsEach Try.prog (Try.f7.params.toList ++ Rows.planNeedsSpec.plain.varTypes Try.prog) (ds ++ gs)).all (· ≤ reachBytes) = true := hsz0
  clear hsz0
  have hval : ∀ (j : Nat) t v, Try.f7.params[j]? = some t → args[j]? = some v → Value.okWide Try.prog W .any base t v := hval0
  have hW' := hW
  obtain ⟨p, q, hA0, hV, rfl, hfz, hnd⟩ := hW
  have hA : DataW.TrodAll enc Try.prog W 0 (fun _ => true) true Try.f7.params.toList args.toList ds p := hA0
  rw [Try.params7] at hA hval hsz
  obtain ⟨v0, vs0, d0, ds0, p0, q0, hargs, rfl, rfl, h0, r0⟩ := trodAll_cons hA
  obtain ⟨v1, vs1, d1, ds1, p1, q1, rfl, rfl, rfl, h1, r1⟩ := trodAll_cons r0
  obtain ⟨v2, vs2, d2, ds2, p2, q2, rfl, rfl, rfl, h2, r2⟩ := trodAll_cons r1
  obtain ⟨rfl, rfl, rfl⟩ := trodAll_nil r2
  obtain rfl : args = #[v0, v1, v2] := by cases args; simp_all
  obtain ⟨rfl, rfl⟩ := trodVars_none hV
  obtain ⟨a0, rfl, rfl, rfl, w0⟩ := open_int Try.underlying3 (hval 0 3 v0 rfl rfl) h0
  obtain ⟨a1, rfl, rfl, rfl, w1⟩ := open_int Try.underlying3 (hval 1 3 v1 rfl rfl) h1
  have lt2 : ∀ x ∈ p2, x.block < W.heap.size := by obtain ⟨m, hm⟩ := h2; exact DataW.trod_lt m _ _ _ hm
  obtain ⟨z2, w2⟩ := view_nums Try.underlying34 Try.underlying3 (by kernel_rfl) (by kernel_rfl) (hval 2 34 v2 rfl rfl) h2 lt2 hsz (j := 2) rfl rfl
  clear hA0 hval0
  refine (planNeeds_walk a0 a1 v2 z2 W w0 w1 w2).mono fun e W' ⟨he, bel⟩ => ?_
  subst he
  exact ⟨_, rfl, _, _, _, [], _, [], hW', trodAll_mk1 (shut_bool Try.underlying4 _), (trodAll_cons_mk (shut_int Try.underlying3 w0) (trodAll_cons_mk (shut_int Try.underlying3 w1) (trodAll_cons_mk (Below.trod (by kernel_rfl) (by kernel_rfl) (of_decide_eq_true (by kernel_rfl)) h2 bel lt2) trodAll_mk0))), rfl, bel.frame _, fun h => by cases h⟩

theorem planNeeds_holds : Rows.PlanNeedsSaid :=
  OpenClaim.holds_of_wide 7 Try.f7 rfl rfl rfl rfl rfl rfl rfl ⟨rfl, rfl, rfl, rfl, rfl⟩ rfl rfl rfl rfl rfl (by kernel_rfl) Try.func7 (by kernel_rfl)
    (of_decide_eq_true (by kernel_rfl)) (by unfold Func.isWrapper; first | (rw [if_pos (by decide +kernel)]; kernel_rfl) | (rw [if_neg (by decide +kernel)]; exact ⟨rfl, rfl⟩))
    (fun os started H enc _ => planNeeds_lifted os started H enc)
#print axioms planNeeds_holds
end Go.Proofs.Ytidblaepklgkcaa
