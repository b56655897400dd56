/- JournalBinds: the walk. -/
import Derived.Test.YtmlladpmecclbaaDoorJournalMarksPG
import Derived.Test.YtmlladpmecclbaaDoorJalE
namespace Go.Proofs.YtmlladpmecclbaaDoor
open Go.RowKit

theorem mkI_cut (xss : List (List Nat)) (k : Nat) : mkI (xss.take k) (xss.drop k) = 2 :: xss.flatten := by
  unfold mkI
  rw [← List.flatten_append, List.take_append_drop]
theorem cut_len (xss : List (List Nat)) (k : Nat) (h : xss.flatten.length + xss.length ≤ 5000) : (xss.take k).flatten.length + (xss.take k).length ≤ 20000 ∧ (xss.drop k).flatten.length + (xss.drop k).length ≤ 20000 := by
  have h1 : (xss.take k).flatten.length + (xss.drop k).flatten.length = xss.flatten.length := by
    rw [← List.length_append, ← List.flatten_append, List.take_append_drop]
  rw [List.length_take, List.length_drop]
  omega
set_option maxRecDepth 100000 in
set_option maxHeartbeats 16000000 in
theorem journalBinds_walk (v0 : Value) (z0 : List (List Nat)) (v1 : Value) (z1 : List (List Nat)) (a2 : Int) (w : World) (hk : Kw w) (hh : Hw w)
    (h0 : (Ps w v0 z0 ∧ z0.length * 24 ≤ 140737488351232 ∧ ∀ x ∈ z0, x.length ≤ 140737488351232) ∧ ∀ ao n c, v0 = .slice ao n c → n ≤ c) (h1 : (Ps w v1 z1 ∧ z1.length * 24 ≤ 140737488351232 ∧ ∀ x ∈ z1, x.length ≤ 140737488351232) ∧ ∀ ao n c, v1 = .slice ao n c → n ≤ c) (_h2 : (Lit.int .i64 a2).wf = true) :
    Calls Tryd.prog 5 #[v0, v1, .int .i64 a2] w fun e w' => e = .returned (.bool true) ∧ Below w.heap.size w w' := by
  have HGR0 := Hid.mk' (jgreat_any h0.1.1 (by omega))
  have HGR1 := Hid.mk' (jgreat_any h1.1.1 (by omega))
  have HK := Hid.mk' hk
  have HH := Hid.mk' hh
  have HP0 := Hid.mk' h0.1.1
  have HP1 := Hid.mk' h1.1.1
  obtain ⟨a0, c0, hv0, -⟩ := h0.1.1.gen
  obtain ⟨a1, c1, hv1, -⟩ := h1.1.1.gen
  have hc0 := h0.2 _ _ _ hv0
  have hc1 := h1.2 _ _ _ hv1
  subst hv0 hv1
  obtain ⟨n0, hn0⟩ : ∃ n, n = z0.length := ⟨_, rfl⟩
  obtain ⟨n1, hn1⟩ : ∃ n, n = z1.length := ⟨_, rfl⟩
  rw [← hn0] at hc0 HGR0 HP0 ⊢
  rw [← hn1] at hc1 HGR1 HP1 ⊢
  have HN0 := Hid.mk' hn0
  have HN1 := Hid.mk' hn1
  have HNW := Hid.mk' (new_any (w := w) (fun _ => .none) (fun _ _ => rfl))
  clear hk hh h0 h1 _h2 hn0 hn1
  go_enter Tryd.func5, Tryd.ntmps5
  go_wp2_with fail
  refine Calls.mono HGR0.out ?_
  rintro e w1 ⟨q, rfl, hq, hw⟩
  subst w1
  cases q with
  | true =>
    go_wp2_with fail
    refine Calls.mono (jawake_any w) ?_
    rintro e w2 ⟨rfl, hg2⟩
    go_wp2
    go_ret
    exact ⟨rfl, hg2.below (Nat.le_refl _) (fun _ _ h => h)⟩
  | false =>
    have hl0 := hq rfl
    clear hq HGR0
    go_wp2_with fail
    refine Calls.mono HGR1.out ?_
    rintro e w1 ⟨q, rfl, hq, hw⟩
    subst w1
    cases q with
    | true =>
      go_wp2_with fail
      refine Calls.mono (jawake_any w) ?_
      rintro e w2 ⟨rfl, hg2⟩
      go_wp2
      go_ret
      exact ⟨rfl, hg2.below (Nat.le_refl _) (fun _ _ h => h)⟩
    | false =>
      have hl1 := hq rfl
      clear hq HGR1
      have HL : Hid (z0.flatten.length + z0.length ≤ 5000 ∧ z1.flatten.length + z1.length ≤ 5000) := ⟨by omega, by omega⟩
      have hb0 : n0 ≤ 5000 := by have := HN0.out; omega
      have hb1 : n1 ≤ 5000 := by have := HN1.out; omega
      clear hl0 hl1
      go_wp2_with fail
      refine Calls.mono HNW.out ?_
      rintro e w1 ⟨gl, rfl, hgl, hg1, hlg1⟩
      have hnew := own_new hgl
      generalize tagAt (fun _ => Tag.none) gl .log = own1 at *
      have HNE := Hid.mk' hnew
      have HG1 := Hid.mk' hg1
      have HLO1 : Hid (LgO w1 own1 (.pointer (some ⟨gl, 0, none⟩)) []) := .inr ⟨gl, rfl, hlg1⟩
      have hpk0 := fun w' => pick_any a2 ((n0 : Int) + 1) w' (by omega) (by omega)
      have hpk1 := fun w' => pick_any a2 ((n1 : Int) + 1) w' (by omega) (by omega)
      obtain ⟨k, hk, hkc⟩ : ∃ k : Nat, a2 % ((n0 : Int) + 1) = (k : Int) ∧ k ≤ n0 := ⟨(a2 % ((n0 : Int) + 1)).toNat, by have := Int.emod_nonneg a2 (b := (n0 : Int) + 1) (by omega); omega, by have := Int.emod_lt_of_pos a2 (b := (n0 : Int) + 1) (by omega); have := Int.emod_nonneg a2 (b := (n0 : Int) + 1) (by omega); omega⟩
      obtain ⟨j, hj, hjc⟩ : ∃ j : Nat, a2 % ((n1 : Int) + 1) = (j : Int) ∧ j ≤ n1 := ⟨(a2 % ((n1 : Int) + 1)).toNat, by have := Int.emod_nonneg a2 (b := (n1 : Int) + 1) (by omega); omega, by have := Int.emod_lt_of_pos a2 (b := (n1 : Int) + 1) (by omega); have := Int.emod_nonneg a2 (b := (n1 : Int) + 1) (by omega); omega⟩
      rw [hk] at hpk0
      rw [hj] at hpk1
      have HPK0 := Hid.mk' hpk0
      have HPK1 := Hid.mk' hpk1
      obtain ⟨ua, ub, hua, hub, hu⟩ := ps_cut HP0.out hkc hc0
      obtain ⟨va, vb, hva, hvb, hv⟩ := ps_cut HP1.out hjc hc1
      have HUA := Hid.mk' hua
      have HUB := Hid.mk' hub
      have HVA := Hid.mk' hva
      have HVB := Hid.mk' hvb
      have HU := Hid.mk' hu
      have HV := Hid.mk' hv
      have hk1 : (k : Int) ≤ (n0 : Int) := by omega
      clear hgl hg1 hlg1 hnew HNW hpk0 hpk1 hk hj hua hub hva hvb hu hv
      go_wp2_with fail
      refine Calls.mono (HPK0.out w1) ?_
      rintro e w2 ⟨rfl, hw2⟩
      subst w2
      go_wp2_with fail
      refine Calls.mono (HPK1.out w1) ?_
      rintro e w2 ⟨rfl, hw2⟩
      subst w2
      clear HPK0 HPK1
      obtain ⟨DA, hDA⟩ : ∃ D, D = digest (2 :: z0.flatten) := ⟨_, rfl⟩
      obtain ⟨DB, hDB⟩ : ∃ D, D = digest (2 :: z1.flatten) := ⟨_, rfl⟩
      obtain ⟨NA, hNA⟩ : ∃ N, N = (u8s DA).toArray := ⟨_, rfl⟩
      obtain ⟨NB, hNB⟩ : ∃ N, N = (u8s DB).toArray := ⟨_, rfl⟩
      have HDA : Hid (wf32 DA) := by show wf32 _; rw [hDA]; exact digest_wf _
      have HDB : Hid (wf32 DB) := by show wf32 _; rw [hDB]; exact digest_wf _
      have HGO : Hid (∀ (wx : World) (ownx : Owner) (w' : World), Grow w wx → (∀ b, ownx b ≠ Tag.none → w.heap.size ≤ b) → But (fun b => ownx b ≠ .none) wx w' → Grow w w') := fun wx ownx w' k1 k2 k3 => k1.then k3 (fun i hi e => absurd (k2 i e) (by omega))
      have HMA : Hid (∀ wx, Grow w1 wx → Calls Tryd.prog 16 #[.pointer (some ⟨gl, 0, none⟩), ua, ub] wx fun e w' => e = .returned (.agg NA) ∧ ∃ own2, (∀ b, own2 b ≠ Tag.none → w.heap.size ≤ b) ∧ Grow w w' ∧ LgO w' own2 (.pointer (some ⟨gl, 0, none⟩)) [(2 :: z0.flatten, DA)]) := fun wx k1 => by
        have hgx := HG1.out.trans k1
        have := jmark_any (HLO1.out.grow k1) (HU.out wx hgx).1 (HU.out wx hgx).2 (HK.out.but hgx (fun h => h)) (HH.out.but hgx (fun h => h)) (cut_len z0 k HL.out.1).1 (cut_len z0 k HL.out.1).2 (by decide)
        rw [mkI_cut, ← hDA, show dkey DA = .agg NA by rw [hNA]; rfl] at this
        refine this.mono ?_
        rintro e w' ⟨h1, h2⟩
        obtain ⟨own2, q1, q2, q3⟩ := h2.ex
        refine ⟨h1, own2, fun b hb => ?_, HGO.out wx own1 w' hgx HNE.out h2.but, q3⟩
        by_cases he : own2 b = own1 b
        · exact HNE.out b (by rw [← he]; exact hb)
        · exact Nat.le_trans hgx.size (q2 b he)
      have HMB : Hid (∀ wx own2, Grow w wx → (∀ b, own2 b ≠ Tag.none → w.heap.size ≤ b) → LgO wx own2 (.pointer (some ⟨gl, 0, none⟩)) [(2 :: z0.flatten, DA)] → Calls Tryd.prog 16 #[.pointer (some ⟨gl, 0, none⟩), va, vb] wx fun e w' => e = .returned (.agg NB) ∧ ∃ own3, Grow w w' ∧ LgO w' own3 (.pointer (some ⟨gl, 0, none⟩)) [(2 :: z0.flatten, DA), (2 :: z1.flatten, DB)]) := fun wx own2 hgx hne hlg => by
        have := jmark_any hlg (HV.out wx hgx).1 (HV.out wx hgx).2 (HK.out.but hgx (fun h => h)) (HH.out.but hgx (fun h => h)) (cut_len z1 j HL.out.2).1 (cut_len z1 j HL.out.2).2 (by simp)
        rw [mkI_cut, ← hDB, show dkey DB = .agg NB by rw [hNB]; rfl] at this
        refine this.mono ?_
        rintro e w' ⟨h1, h2⟩
        obtain ⟨own3, q1, q2, q3⟩ := h2.ex
        exact ⟨h1, own3, HGO.out wx own2 w' hgx hne h2.but, q3⟩
      obtain ⟨r, hr⟩ : ∃ r : Bool, r = decide (DA = DB) := ⟨_, rfl⟩
      have HEQ : Hid (∀ w', (Op.equalIn 10000 31 (.agg NA) (.agg NB)).run Tryd.prog w' = .ok r w') := fun w' => by
        rw [hNA, hNB, hr]; exact equalN ukt _ _ HDA.out.1 HDB.out.1 w'
      have HR := Hid.mk' hr
      have HDAE := Hid.mk' hDA
      have HDBE := Hid.mk' hDB
      clear hDA hDB hNA hNB hr
      go_upto_region 5 with fail
      refine region_chain [([0, 1, 2, 3, 4, 5, 6, 8, 9, 10, 11, 12, 13, 14], 7), ([], 15)] [16, 17] (fun _ => True) (Grow w1) (by kernel_rfl) (by kernel_rfl) (fun _ _ h k => h.trans k) (fun _ _ => trivial) ((But.refl _ w1).drew) ?_
      intro ι hne X hX
      iterate 3 (refine still_step rfl (fun K hK => ?_); go_simp; refine hK _ ?_; clear hK K)
      refine still_val rfl ua rfl (fun x => exec_slc rfl rfl rfl rfl (HUA.out (X x))) ?_
      intro K hK; go_simp; refine hK _ ?_; clear hK K
      iterate 2 (refine still_step rfl (fun K hK => ?_); go_simp; refine hK _ ?_; clear hK K)
      refine still_val rfl ub rfl (fun x => exec_slc rfl rfl rfl rfl (HUB.out (X x))) ?_
      intro K hK; go_simp; refine hK _ ?_; clear hK K
      iterate 3 (refine still_step rfl (fun K hK => ?_); go_simp; refine hK _ ?_; clear hK K)
      refine still_val rfl va rfl (fun x => exec_slc rfl rfl rfl rfl (HVA.out (X x))) ?_
      intro K hK; go_simp; refine hK _ ?_; clear hK K
      iterate 2 (refine still_step rfl (fun K hK => ?_); go_simp; refine hK _ ?_; clear hK K)
      refine still_val rfl vb rfl (fun x => exec_slc rfl rfl rfl rfl (HVB.out (X x))) ?_
      intro K hK; go_simp; refine hK _ ?_; clear hK K
      refine still_nil ?_
      clear hX hne
      refine turn_call rfl (by kernel_rfl) (fun q w' => q = .agg NA ∧ ∃ own2, (∀ b, own2 b ≠ Tag.none → w.heap.size ≤ b) ∧ Grow w w' ∧ LgO w' own2 (.pointer (some ⟨gl, 0, none⟩)) [(2 :: z0.flatten, DA)]) (fun _ _ => True) (fun _ w1 w2 h k => by
        obtain ⟨h1, own2, h2, h3, h4⟩ := h
        exact ⟨h1, own2, h2, h3.trans k, h4.grow k⟩) (fun _ _ _ => trivial) (.inr (fun _ _ h => h)) 16 #[.pointer (some ⟨gl, 0, none⟩), ua, ub] (fun _ => by kernel_rfl) ?_ ?_
      · intro w6 hw6
        refine (HMA.out w6 hw6).mono ?_
        rintro e w' ⟨h1, h2⟩
        exact ⟨_, h1, rfl, h2⟩
      rintro q ⟨wq, rfl, -⟩ Y hY
      clear wq
      go_simp
      refine hY _ ?_
      clear hY Y
      intro ι hne X hX
      refine still_nil ?_
      clear hX hne
      refine turn_call rfl (by kernel_rfl) (fun q w' => q = .agg NB ∧ ∃ own3, Grow w w' ∧ LgO w' own3 (.pointer (some ⟨gl, 0, none⟩)) [(2 :: z0.flatten, DA), (2 :: z1.flatten, DB)]) (fun _ _ => True) (fun _ w1 w2 h k => by
        obtain ⟨h1, own3, h3, h4⟩ := h
        exact ⟨h1, own3, h3.trans k, h4.grow k⟩) (fun _ _ _ => trivial) (.inr (fun _ _ h => h)) 16 #[.pointer (some ⟨gl, 0, none⟩), va, vb] (fun _ => by kernel_rfl) ?_ ?_
      · rintro w6 ⟨-, own2, h2, h3, h4⟩
        refine (HMB.out w6 own2 h3 h2 h4).mono ?_
        rintro e w' ⟨h1, h2⟩
        exact ⟨_, h1, rfl, h2⟩
      rintro q ⟨wq, rfl, -⟩ Y hY
      clear wq
      go_simp
      refine hY _ ?_
      clear hY Y
      intro ι hne X hX
      refine still_val rfl (.bool r) rfl (fun x => exec_eqT rfl rfl rfl (by kernel_rfl) (HEQ.out (X x))) ?_
      intro K hK; go_simp; refine hK _ ?_; clear hK K
      refine still_step rfl (fun K hK => ?_); go_simp; refine hK _ ?_; clear hK K
      refine still_nil ?_
      clear hX hne
      rintro w5 ⟨-, own3, hg5, hlg5⟩
      have HG5 := Hid.mk' hg5
      have HLG5 := Hid.mk' hlg5
      have HJA : Hid (∀ w', Grow w w' → Calls Tryd.prog 20 #[.slice a0 n0 c0] w' fun e w'' => ∃ v', e = .returned v' ∧ Bs w'' v' z0.flatten ∧ Grow w' w'') := fun w' k => by
        refine (rjoin_any (HP0.out.below k) (by have := HL.out; omega) (by have := HL.out; omega)).mono ?_
        rintro e w'' ⟨v', rfl, ho, hb⟩
        exact ⟨v', rfl, ho.bs, But.of hb⟩
      have HJB : Hid (∀ w', Grow w w' → Calls Tryd.prog 20 #[.slice a1 n1 c1] w' fun e w'' => ∃ v', e = .returned v' ∧ Bs w'' v' z1.flatten ∧ Grow w' w'') := fun w' k => by
        refine (rjoin_any (HP1.out.below k) (by have := HL.out; omega) (by have := HL.out; omega)).mono ?_
        rintro e w'' ⟨v', rfl, ho, hb⟩
        exact ⟨v', rfl, ho.bs, But.of hb⟩
      clear hg5 hlg5 HMA HMB HUA HUB HVA HVB HU HV HEQ HLO1
      go_wp2_with fail
      refine Calls.mono (HJA.out w5 HG5.out) ?_
      rintro e w6 ⟨v6, rfl, hb6, hg6⟩
      have HG6 := Hid.mk' (HG5.out.trans hg6)
      have HB6 := Hid.mk' hb6
      have HLG6 := Hid.mk' (HLG5.out.grow hg6)
      obtain ⟨a6, n6, c6, rfl⟩ := hb6.sl
      clear hb6 hg6 HLG5
      go_wp2_with fail
      refine Calls.mono (HJB.out w6 HG6.out) ?_
      rintro e w7 ⟨v7, rfl, hb7, hg7⟩
      have HG7 := Hid.mk' (HG6.out.trans hg7)
      have HLG7 := Hid.mk' (HLG6.out.grow hg7)
      have hsm := same_grow (HB6.out.but hg7 (fun _ _ _ h => h)) hb7
      obtain ⟨al, hal⟩ : ∃ al : Bool, al = decide (z0.flatten = z1.flatten) := ⟨_, rfl⟩
      rw [← hal] at hsm
      have HAL := Hid.mk' hal
      have HSM := Hid.mk' hsm
      obtain ⟨a7, n7, c7, rfl⟩ := hb7.sl
      clear hb7 hg7 hsm hal HLG6 HB6 HJA HJB
      go_wp2_with fail
      refine Calls.mono HSM.out ?_
      rintro e w8 ⟨rfl, hg8⟩
      have HG8 := Hid.mk' (HG7.out.trans hg8)
      have hlg8 : Lg w8 own3 gl [(2 :: z0.flatten, DA), (2 :: z1.flatten, DB)] [] [] := by
        rcases HLG7.out.grow hg8 with ⟨e, _⟩ | ⟨g, e, h⟩
        · cases e
        · have e2 : gl = g := by simpa using e
          rw [e2]; exact h
      have hcl : Calls Tryd.prog 13 #[.pointer (some ⟨gl, 0, none⟩)] w8 fun e w' => ∃ va vb bb, e = .returned (.tuple #[va, vb, .bool bb]) ∧ (r = true → al = false → bb = true) ∧ Grow w8 w' := by
        refine (clash_any hlg8 (fun q hq => by
          have := HL.out
          simp only [List.mem_cons, List.not_mem_nil, or_false] at hq
          rcases hq with rfl | rfl
          · rw [List.length_cons]; omega
          · rw [List.length_cons]; omega)).mono ?_
        rintro e wd ⟨hgd, ⟨rfl, hno⟩ | ⟨i, j, va', vb', rfl, -⟩⟩
        · refine ⟨_, _, _, rfl, fun h1 h2 => ?_, hgd⟩
          exfalso
          have hck : ck [(2 :: z0.flatten, DA), (2 :: z1.flatten, DB)] 0 1 = true := by
            unfold ck
            refine decide_eq_true ⟨?_, ?_⟩
            · show DA = DB
              rw [HR.out] at h1
              exact of_decide_eq_true h1
            · show ¬ (2 :: z0.flatten) = (2 :: z1.flatten)
              intro e
              rw [HAL.out] at h2
              exact of_decide_eq_false h2 (by simpa using e)
          have := hno 1 (by simp) 0 (by decide)
          rw [hck] at this
          cases this
        · exact ⟨_, _, _, rfl, fun _ _ => rfl, hgd⟩
      have HCL := Hid.mk' hcl
      have HRA : Hid (al = true → r = true) := fun h => by
        rw [HR.out]
        rw [HAL.out] at h
        exact decide_eq_true (by rw [HDAE.out, HDBE.out, of_decide_eq_true h])
      clear hg8 hlg8 hcl HSM HLG7
      go_wp2_with fail
      refine Calls.mono HCL.out ?_
      rintro e w9 ⟨xa, xb, bb, rfl, hbb, hg9⟩
      have HG9 := Hid.mk' (HG8.out.trans hg9)
      have HBB := Hid.mk' hbb
      have HAW := Hid.mk' (jawake_any w9)
      clear hg9 hbb HCL
      rcases (by cases r <;> cases al <;> simp : (r = true ∧ al = true) ∨ (r = true ∧ al = false) ∨ (r = false ∧ al = false) ∨ (r = false ∧ al = true)) with ⟨rfl, rfl⟩ | ⟨rfl, rfl⟩ | ⟨rfl, rfl⟩ | ⟨rfl, rfl⟩
      · go_wp2_with fail
        refine Calls.mono HAW.out ?_
        rintro e wa ⟨rfl, hga⟩
        go_wp2
        go_ret
        exact ⟨rfl, (HG9.out.trans hga).below (Nat.le_refl _) (fun _ _ h => h)⟩
      · obtain rfl : bb = true := HBB.out rfl rfl
        go_wp2_with fail
        refine Calls.mono HAW.out ?_
        rintro e wa ⟨rfl, hga⟩
        go_wp2
        go_ret
        exact ⟨rfl, (HG9.out.trans hga).below (Nat.le_refl _) (fun _ _ h => h)⟩
      · go_wp2_with fail
        refine Calls.mono HAW.out ?_
        rintro e wa ⟨rfl, hga⟩
        go_wp2
        go_ret
        exact ⟨rfl, (HG9.out.trans hga).below (Nat.le_refl _) (fun _ _ h => h)⟩
      · exact absurd (HRA.out rfl) (by decide)
end Go.Proofs.YtmlladpmecclbaaDoor
