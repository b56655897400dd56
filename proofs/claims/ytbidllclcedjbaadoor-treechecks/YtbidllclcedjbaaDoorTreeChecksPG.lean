/- TreeChecks: the walk. -/
import Derived.Test.YtbidllclcedjbaaDoorTrRChkG
namespace Go.Proofs.YtbidllclcedjbaaDoor
open Go.RowKit

theorem CkIs.exi (p : Pn) (x : Int) (path : List Bk) (root : List Nat) : ∃ r, CkIs p x path root r := by
  cases hx : p.has x with
  | false => exact ⟨1, .inl ⟨hx, rfl⟩⟩
  | true =>
    by_cases hn : path.length = (p.path x).length
    · cases hw : whl path with
      | false => exact ⟨3, .inr (.inl ⟨hx, .inr hw, rfl⟩)⟩
      | true =>
        by_cases hg : Good p (p.path x) path root
        · exact ⟨0, .inr (.inr (.inl ⟨⟨hx, hn, hw⟩, hg, rfl⟩))⟩
        · exact ⟨10, .inr (.inr (.inr ⟨⟨hx, hn, hw⟩, hg, rfl⟩))⟩
    · exact ⟨3, .inr (.inl ⟨hx, .inl hn, rfl⟩)⟩
set_option maxRecDepth 100000 in
set_option maxHeartbeats 16000000 in
theorem treeChecks_walk (a0 a1 : Int) (v2 : Value) (z2 : List (List Nat)) (D4 : List Nat) (w : World) (hk : Kw w) (hh : Hw w) (_h0 : (Lit.int .i64 a0).wf = true) (_h1 : (Lit.int .i64 a1).wf = true)
    (h2 : (Ps w v2 z2 ∧ z2.length * 24 ≤ 140737488351232 ∧ ∀ x ∈ z2, x.length ≤ 140737488351232) ∧ ∀ ao n c, v2 = .slice ao n c → n ≤ c) (h4 : wf32 D4) :
    Calls Tryd.prog 6 #[.int .i64 a0, .int .i64 a1, v2, dkey D4] w fun e w' => e = .returned (.bool true) ∧ Below w.heap.size w w' := by
  obtain ⟨ao2, cap2, hv2, hpg⟩ := h2.1.1.gen
  obtain ⟨n2, hn2⟩ : ∃ n, n = z2.length := ⟨_, rfl⟩
  rw [← hn2] at hv2 hpg
  obtain ⟨W, hW⟩ : ∃ W, W = w.alloc (.cells (u8s D4).toArray 26) := ⟨_, rfl⟩
  obtain ⟨g9, hg9⟩ : ∃ g, g = w.heap.size := ⟨_, rfl⟩
  have hgW : Grow w W := by rw [hW]; exact (But.refl _ w).alloc _
  have hb9 : Blk W g9 26 (u8s D4) := by rw [hW]; exact Blk.new hg9.symm
  obtain ⟨M, hM⟩ : ∃ M, M = (u8s D4).toArray := ⟨_, rfl⟩
  rw [show dkey D4 = .agg M by rw [hM]; rfl]
  rw [← hM] at hW
  have HMM := Hid.mk' hM
  have HWW := Hid.mk' hW
  have HG9 := Hid.mk' hg9
  have HGW := Hid.mk' hgW
  have HB9 := Hid.mk' hb9
  have HK := Hid.mk' hk
  have HH := Hid.mk' hh
  have HP2 := Hid.mk' h2.1.1
  have HC2 := Hid.mk' h2.2
  have HN2 := Hid.mk' hn2
  have HX2 := Hid.mk' h2.1.2.2
  have HPG := Hid.mk' hpg
  have H4 := Hid.mk' h4
  have hnb2 : n2 ≤ 140737488351232 := by omega
  subst hv2
  clear hk hh h2 h4 hn2 _h0 _h1 hW hM hg9 hgW hb9 hpg
  have HAW : Hid (∀ w', Grow w w' → Calls Tryd.prog 9 #[] w' fun e w'' => e = .returned (.bool true) ∧ Grow w' w'') := fun w' k => awaket_any (HK.out.but k (fun h => h)) (HH.out.but k (fun h => h))
  by_cases hl : 9 < n2
  · go_enter Tryd.func6, Tryd.ntmps6
    go_upto_region 1 with fail
    rw [← HWW.out]
    go_wp2_with fail
    refine Calls.mono (HAW.out W HGW.out) ?_
    rintro e w2 ⟨rfl, hg2⟩
    go_wp2
    go_ret
    exact ⟨rfl, (HGW.out.trans hg2).below (Nat.le_refl _) (fun _ _ h => h)⟩
  · have hl2 : n2 ≤ 9 := by omega
    have HMD := Hid.mk' (fun w' (k : Grow w w') => made_tr (w := w') (x := a0) (Bs.nil w') (by decide))
    clear hl hnb2
    go_enter Tryd.func6, Tryd.ntmps6
    go_upto_region 4 with fail
    rw [← HWW.out, ← HG9.out]
    go_loopw [9] (fun iv wr => ∃ k : Nat, k ≤ n2 ∧ iv = .int .i64 k ∧ wr = W) (fun iv _ => n2 - (intOf iv).toNat)
    case atStart => exact ⟨0, Nat.zero_le _, rfl, rfl⟩
    case round =>
      obtain ⟨k, hk, rfl, rfl⟩ := hrel
      by_cases hlt : k < n2
      · obtain ⟨b, off, rfl, hb, hc⟩ := HPG.out (by omega)
        obtain ⟨u, hu, hbs⟩ := hc k hlt
        obtain ⟨a1', c1, rfl, -⟩ := hbs.gen
        have hu2 := grow_cell HGW.out hu
        have hlen := HX2.out (z2.getD k []) (by simp [List.getD, show k < z2.length by rw [← HN2.out]; exact hlt])
        generalize (z2.getD k []).length = q at *
        clear hc hbs hu hb HPG HX2
        by_cases hq : 300 < q
        · go_wp2_with fail
          refine Calls.mono (HAW.out wr HGW.out) ?_
          rintro e w2 ⟨rfl, hg2⟩
          go_wp2
          go_ret
          exact ⟨rfl, (HGW.out.trans hg2).below (Nat.le_refl _) (fun _ _ h => h)⟩
        · go_wp2
          exact ⟨⟨k + 1, by omega, by go_num, trivial⟩, by simp [intOf]; omega⟩
      · have hkn : k = n2 := by omega
        subst hkn
        clear HPG HX2
        go_wp2_with fail
        refine Calls.mono (HMD.out wr HGW.out) ?_
        obtain ⟨n, hn⟩ : ∃ n, n = 1 + (a0 % 300).toNat := ⟨_, rfl⟩
        rw [← hn]
        have hn1 : 1 ≤ n := by omega
        have hn4 : n ≤ 4096 := by omega
        rintro e w1 ⟨⟨pv, v, G, T, rfl, hop, hnb⟩, hg1⟩
        obtain ⟨P, hP⟩ : ∃ P, P = plan n 4 := ⟨_, rfl⟩
        rw [← hP] at hop ⊢
        have HPM : Hid (Mad P) := by show Mad P; rw [hP]; exact plan_mad hn1 hn4
        have hnums : Nums w1 pv P.levels := by rw [hP] at hop ⊢; exact (Pm.of hn1 hn4 hop).nums
        obtain ⟨va, vc, rfl⟩ := hop.sl
        obtain ⟨la, lc, rfl⟩ := hnb.len
        have HNU := Hid.mk' hnums
        have HG1 := Hid.mk' (HGW.out.trans hg1)
        have HB91 := Hid.mk' (HB9.out.but hg1 (fun h => h))
        generalize P.levels.length = ln at *
        clear hop hg1 HMD hP hnb hn hn1 hn4 hnums
        go_upto_region 9 with (first
          | (refine wpList_runH rfl (exec_allocF rfl (zPl _)) ?_)
          | (refine wpList_store_at rfl _ _ _ rfl w1.heap.size 0 (pcells P (.slice va ln vc)) rfl (by exact rfl) 44 [] (pcells Pn.zero noS) [] (var_new w1) rfl rfl iPl (pcells_one _ rfl) ?_; intro w2 hb2 hbut2; rw [List.nil_append, List.append_nil] at hb2)
          | fail)
        obtain ⟨g11, hg11⟩ : ∃ g, g = w1.heap.size := ⟨_, rfl⟩
        have hg2 := var_grow hbut2
        rw [← hg11] at hb2 ⊢
        have HBP : Hid (∀ w', Grow w2 w' → ∀ j v, (pcells P (.slice va ln vc))[j]? = some v → w'.cell? ((⟨g11, 0, none⟩ : Addr).add j) = some v) := fun w' kk => (hb2.but kk (fun h => h)).cells0
        have HG2 := Hid.mk' (HG1.out.trans hg2)
        have HB92 := Hid.mk' (HB91.out.but hg2 (fun h => h))
        have HNU2 := Hid.mk' (HNU.out.grow hg2)
        obtain ⟨r, hr⟩ := CkIs.exi P a1 z2 D4
        have HCK : Hid (∀ w', Grow w2 w' → Calls Tryd.prog 26 #[.pointer none, pval P (.slice va ln vc), .int .i64 a1, .slice ao2 k cap2, .agg M] w' fun e w'' => e = .returned (.int .i64 r) ∧ Grow w' w'') := fun w' kk => by
          have := chk_all (x := a1) (LgO.none w' []) HPM.out (HNU2.out.grow kk) (fun w'' k2 => by
            have k3 : Grow w w'' := (HG2.out.trans kk).trans (k2.mono (fun _ _ e => e rfl))
            exact ⟨HK.out.but k3 (fun h => h), HH.out.but k3 (fun h => h), HP2.out.below k3⟩) HC2.out (by rw [← HN2.out]; omega) H4.out (by decide)
          rw [show dkey D4 = .agg M by rw [HMM.out]; rfl] at this
          refine this.mono ?_
          rintro e w'' ⟨r', rfl, hr', hto⟩
          rw [hr.uniq hr']
          exact ⟨rfl, hto.but.mono (fun _ _ e => e rfl)⟩
        have HRC : Hid (∀ w', Grow w2 w' → Calls Tryd.prog 27 #[pval P (.slice va ln vc), .int .i64 a1, .slice ao2 k cap2, .agg M] w' fun e w'' => e = .returned (.int .i64 r) ∧ Grow w' w'') := fun w' kk => by
          have := rchk_any (x := a1) HPM.out (HNU2.out.grow kk) (HP2.out.below (HG2.out.trans kk)) (by rw [← HN2.out]; omega) H4.out
          rw [show dkey D4 = .agg M by rw [HMM.out]; rfl] at this
          refine this.mono ?_
          rintro e w'' ⟨r', rfl, hr', hto⟩
          rw [hr.uniq hr']
          exact ⟨rfl, hto⟩
        have hsm := hr.small
        unfold pval at HCK HRC
        obtain ⟨N, hN⟩ : ∃ N, N = (pcells P (.slice va ln vc)).toArray := ⟨_, rfl⟩
        rw [← hN] at HCK HRC
        have HN := Hid.mk' hN
        have HLD : Hid (∀ w', Grow w2 w' → Blk w' g9 26 (u8s D4)) := fun w' kk => HB92.out.but kk (fun h => h)
        clear hb2 hbut2 hg2 hg11 HB91 HNU HB9 hr hN HB92
        refine region_chain [] [0, 1, 2, 3, 4, 5, 6, 7, 8, 9, 10, 11, 12, 13, 14] (Grow w2) (Grow w2) (by kernel_rfl) (by kernel_rfl) (fun _ _ h k => h.trans k) (fun _ h => h) ((But.refl _ w2).drew) ?_
        intro ι hne X hX
        refine still_val rfl (.agg N) rfl (fun z => by rw [HN.out]; exact exec_ldF Tryd.underlying44 rfl iPl (HBP.out (X z) (hX z)) rfl rfl) ?_
        intro K hK; go_simp; refine hK _ ?_; clear hK K
        iterate 2 (refine still_step rfl (fun K hK => ?_); go_simp; refine hK _ ?_; clear hK K)
        refine still_val rfl (.agg M) rfl (fun z => by rw [HMM.out]; exact run_load_arr ukt i32 (HLD.out (X z) (hX z)).cells0 H4.out.1 rfl rfl) ?_
        intro K hK; go_simp; refine hK _ ?_; clear hK K
        refine still_call rfl (.int .i64 r) 26 #[.pointer none, .agg N, .int .i64 a1, .slice ao2 k cap2, .agg M] rfl (fun _ => by kernel_rfl) (fun z => HCK.out (X z) (hX z)) ?_
        intro K hK; go_simp; refine hK _ ?_; clear hK K
        refine still_val rfl (.agg N) rfl (fun z => by rw [HN.out]; exact exec_ldF Tryd.underlying44 rfl iPl (HBP.out (X z) (hX z)) rfl rfl) ?_
        intro K hK; go_simp; refine hK _ ?_; clear hK K
        iterate 2 (refine still_step rfl (fun K hK => ?_); go_simp; refine hK _ ?_; clear hK K)
        refine still_val rfl (.agg M) rfl (fun z => by rw [HMM.out]; exact run_load_arr ukt i32 (HLD.out (X z) (hX z)).cells0 H4.out.1 rfl rfl) ?_
        intro K hK; go_simp; refine hK _ ?_; clear hK K
        refine still_call rfl (.int .i64 r) 27 #[.agg N, .int .i64 a1, .slice ao2 k cap2, .agg M] rfl (fun _ => by kernel_rfl) (fun z => HRC.out (X z) (hX z)) ?_
        intro K hK; go_simp; refine hK _ ?_; clear hK K
        iterate 2 (refine still_step rfl (fun K hK => ?_); go_simp; refine hK _ ?_; clear hK K)
        refine still_call rfl (.bool true) 9 #[] rfl (fun _ => by kernel_rfl) (fun z => HAW.out (X z) (HG2.out.trans (hX z))) ?_
        intro K hK; go_simp; refine hK _ ?_; clear hK K
        iterate 2 (refine still_step rfl (fun K hK => ?_); go_simp; refine hK _ ?_; clear hK K)
        refine still_nil ?_
        clear hX hne
        intro w8 hw8
        have HG8 := Hid.mk' (HG2.out.trans hw8)
        clear hw8
        go_wp2
        go_ret
        exact ⟨rfl, HG8.out.below (Nat.le_refl _) (fun _ _ h => h)⟩
end Go.Proofs.YtbidllclcedjbaaDoor
