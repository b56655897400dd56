/- SpillPlays: whatever is given and freed, each call is answered as the document says. For every input. -/
import Derived.Test.YtehajgfjdmhdpaaSpPlay
import Derived.Test.YtehajgfjdmhdpaaPast
namespace Go.Proofs.Ytehajgfjdmhdpaa
open Go.ChangeShapes Go.WideShapes Go.ChangeAt Go.RowKit Go.Deep

set_option maxRecDepth 100000 in
set_option maxHeartbeats 16000000 in
theorem spplays_no (n : Int) (v : Value) (w : World) (hn : ¬ (1 ≤ n ∧ n ≤ 256)) : Calls Try.prog 3 #[.int .i64 n, v] w fun e w' => e = .returned (.bool true) ∧ Below w.heap.size w w' := by
  have H1 := Hid.mk' (spnew_arg w n hn)
  have H2 := Hid.mk' (rspnew_no w n hn)
  have H3 := Hid.mk' (awake_any w)
  clear hn
  go_enter Try.func3, Try.ntmps3
  go_wp2_with fail
  refine Calls.mono H1.out ?_
  rintro e w' ⟨rfl, rfl⟩
  go_wp2_with fail
  refine Calls.mono H2.out ?_
  rintro e w' ⟨rfl, rfl⟩
  go_wp2_with fail
  refine Calls.mono H3.out ?_
  rintro e w1 ⟨rfl, k1⟩
  have HK := Hid.mk' k1
  clear k1
  go_wp2
  go_ret
  exact ⟨rfl, HK.out.below (Nat.le_refl _) (fun _ _ h => h)⟩
set_option maxRecDepth 100000 in
set_option maxHeartbeats 16000000 in
theorem spplays_ok (N : Nat) (v : Value) (l : Nat) (A : Nat → SA) (w : World) (hN1 : 1 ≤ N) (hN2 : N ≤ 256) (hv : SActs w v l A) : Calls Try.prog 3 #[.int .i64 (N : Int), v] w fun e w' => e = .returned (.bool true) ∧ Below w.heap.size w w' := by
  obtain ⟨ao, cap, rfl⟩ := hv.len
  have HV := Hid.mk' hv
  have hln : l ≤ 140737488351232 := hv.1
  have hlb : (l : Int) ≤ 140737488351232 := by omega
  have H1 := Hid.mk' (sa_new w N hN1 hN2)
  have HNB := Hid.mk' (And.intro hN1 hN2)
  have hNi : (N : Int) ≤ 256 := by omega
  have hN0 : ((N : Int) == 0) = false := by
    have : ¬ (N : Int) = 0 := by omega
    simpa using this
  clear hv hN1 hN2
  go_enter Try.func3, Try.ntmps3
  go_wp2_with fail
  refine Calls.mono H1.out ?_
  rintro e w1 ⟨gs, gm, rfl, h1⟩
  have HS1 := Hid.mk' h1
  have H2 := Hid.mk' (rspnew_any w1 N HNB.out.1 HNB.out.2)
  clear h1 H1
  go_wp2_with fail
  refine Calls.mono H2.out ?_
  rintro e w2 ⟨gr, cr, rfl, hr, g12, hgr⟩
  have HT2 := Hid.mk' (Tw.new HS1.out hr g12 hgr)
  clear hr g12 hgr HS1 H2
  go_wp2
  go_loopw [7, 8] (fun lv iv wr => ∃ (i gr cr : Nat) (S : Sl), i ≤ l ∧ i ≤ 300 ∧ iv = .int .i64 i ∧ lv = .slice (some ⟨gr, 0, none⟩) N cr ∧ Tw w wr gs gm gr cr N S S) (fun _ iv _ => l - (intOf iv).toNat)
  case atStart => exact ⟨0, gr, cr, _, Nat.zero_le _, by decide, rfl, rfl, HT2.out⟩
  case round =>
    clear HT2
    obtain ⟨i, gr, cr, S, hil, hi300, rfl, rfl, ht⟩ := hrel
    have HT := Hid.mk' ht
    clear ht
    by_cases hlt : i < l ∧ i < 300
    · have hlti : (i : Int) < (l : Int) := by omega
      have hlt2 : (i : Int) < 300 := by omega
      obtain ⟨b, off, cap', e1, hbl, hA⟩ := HV.out.at hlt.1
      simp only [Value.slice.injEq] at e1
      obtain ⟨rfl, -, rfl⟩ := e1
      have HAA := Hid.mk' hA
      obtain ⟨⟨-, hpg⟩, hcw⟩ := hA i hlt.1
      have HPG := Hid.mk' hpg
      have HCW : Hid (∀ c u, (sac (A i))[c]? = some u → wr.cell? ((⟨b, off + i * 5, none⟩ : Addr).add c) = some u) := fun c u hc => by
        rw [addr_add]; exact grow_cell HT.out.sa.grow (hcw c u hc)
      obtain ⟨a, ha⟩ : ∃ a, a = A i := ⟨_, rfl⟩
      rw [← ha] at HPG HCW
      obtain ⟨ga, hga⟩ : ∃ g, g = wr.heap.size := ⟨_, rfl⟩
      have HGA := Hid.mk' hga
      obtain ⟨w3, hst, hb3, hg3⟩ := newSa wr a
      rw [← hga] at hb3
      have HST := Hid.mk' hst
      have HB3 := Hid.mk' hb3
      have HT3 := Hid.mk' (HT.out.grow hg3)
      have a0 : w3.cell? ⟨ga, 0, none⟩ = some (.int .i64 a.kind) := hb3.cell 0
      have a1 : w3.cell? ⟨ga, 1, none⟩ = some (.int .i64 a.page) := hb3.cell 1
      clear hga hst hb3 hg3 hpg hcw hA hbl hil hi300 ha
      go_upto_region 11 with (first
        | (refine wpList_load_cells rfl _ _ rfl ⟨b, off + i * 5, none⟩ rfl (sac a) _ HCW.out Try.underlying35 rfl iSa ?_)
        | (refine wpList_runH rfl (exec_allocF rfl (zSa wr)) ?_)
        | (refine wpList_skipH rfl (exec_stF (v := .agg (sac a).toArray) rfl rfl rfl HST.out) ?_)
        | fail)
      rw [← HGA.out]
      clear HST HCW
      rename_i gr0 cr0 K3 hK3 Q0 K2 hK2 K1 hK1 K0 hK0
      have HK1 := Hid.mk' hK1
      have HJ : Hid (∀ (u4 u9 u10 u11 u12 u13 u14 u15 u16 u17 u18 u40 u41 u42 u43 u44 u45 u46 u47 u48 u49 u50 u51 u52 u53 u54 u55 u56 u57 u58 u59 u60 u61 u62 u63 u64 u65 u66 u67 u68 u69 u70 u71 u72 u73 u74 u75 u76 u77 u78 u79 u80 u81 u82 u83 u84 u85 u86 u87 u88 u89 u90 u91 u92 u93 u94 u95 u96 u97 u98 u99 u100 u101 u102 u103 u104 u105 u106 u107 u108 u109 u110 u111 u112 u113 u114 u115 u116 u117 u118 u119 u120 u121 u122 u123 u124 u125 u126 u127 u128 u129 u130 u131 u132 u133 u134 u135 u136 u137 u138 u139 u140 u141 u142 u143 u144 u145 u146 u147 u148 u149 u150 u151 u152 u153 u154 u155 u156 u157 u158 u159 u160 u161 u162 u163 u164 u165 u166 u167 u168 u169 u170 u171 u172 u173 : Value) (grr crr : Nat) (S' : Sl) (wx : World), Tw w wx gs gm grr crr N S' S' → K1 ⟨#[.int .i64 (N : Int), .slice (some ⟨b, off, none⟩) l cap, undef, undef, u4, ptr gs, .int .i64 0, .slice (some ⟨grr, 0, none⟩) N crr, .int .i64 (i : Int), u9, u10, u11, u12, u13, u14, u15, u16, u17, u18, .tuple #[ptr gs, .int .i64 0], .int .i64 (N : Int), .tuple #[ptr gs, .int .i64 0], ptr gs, .int .i64 0, .int .i64 (N : Int), .slice (some ⟨gr0, 0, none⟩) N cr0, .slice (some ⟨gr0, 0, none⟩) N cr0, .int .i64 (N : Int), .bool false, undef, undef, undef, undef, undef, undef, undef, undef, undef, .int .i64 0, .bool false, u40, u41, u42, u43, u44, u45, u46, u47, u48, u49, u50, u51, u52, u53, u54, u55, u56, u57, u58, u59, u60, u61, u62, u63, u64, u65, u66, u67, u68, u69, u70, u71, u72, u73, u74, u75, u76, u77, u78, u79, u80, u81, u82, u83, u84, u85, u86, u87, u88, u89, u90, u91, u92, u93, u94, u95, u96, u97, u98, u99, u100, u101, u102, u103, u104, u105, u106, u107, u108, u109, u110, u111, u112, u113, u114, u115, u116, u117, u118, u119, u120, u121, u122, u123, u124, u125, u126, u127, u128, u129, u130, u131, u132, u133, u134, u135, u136, u137, u138, u139, u140, u141, u142, u143, u144, u145, u146, u147, u148, u149, u150, u151, u152, u153, u154, u155, u156, u157, u158, u159, u160, u161, u162, u163, u164, u165, u166, u167, u168, u169, u170, u171, u172, u173, undef], []⟩ wx) := by
        intro u4 u9 u10 u11 u12 u13 u14 u15 u16 u17 u18 u40 u41 u42 u43 u44 u45 u46 u47 u48 u49 u50 u51 u52 u53 u54 u55 u56 u57 u58 u59 u60 u61 u62 u63 u64 u65 u66 u67 u68 u69 u70 u71 u72 u73 u74 u75 u76 u77 u78 u79 u80 u81 u82 u83 u84 u85 u86 u87 u88 u89 u90 u91 u92 u93 u94 u95 u96 u97 u98 u99 u100 u101 u102 u103 u104 u105 u106 u107 u108 u109 u110 u111 u112 u113 u114 u115 u116 u117 u118 u119 u120 u121 u122 u123 u124 u125 u126 u127 u128 u129 u130 u131 u132 u133 u134 u135 u136 u137 u138 u139 u140 u141 u142 u143 u144 u145 u146 u147 u148 u149 u150 u151 u152 u153 u154 u155 u156 u157 u158 u159 u160 u161 u162 u163 u164 u165 u166 u167 u168 u169 u170 u171 u172 u173 grr crr S' wx hT'
        have HTJ := Hid.mk' hT'
        refine HK1.out _ _ ?_
        clear hT' hK0 hK1 HK1 a0 a1 HB3 HT3 HT
        go_wp2
        go_loopw [14] (fun kv wq => ∃ k : Nat, k ≤ i + 1 ∧ kv = .int .i64 k ∧ Grow wx wq) (fun kv _ => i + 1 - (intOf kv).toNat)
        case atStart => exact ⟨0, Nat.zero_le _, rfl, But.refl _ _⟩
        case round =>
          obtain ⟨k, hk, rfl, hg⟩ := hrel
          have HG := Hid.mk' hg
          by_cases hki : (k : Int) ≤ (i : Int)
          · have hkl : (k : Int) < (l : Int) := by omega
            obtain ⟨⟨-, hpk⟩, hck⟩ := HAA.out k (by omega)
            have HTK := Hid.mk' (HTJ.out.grow hg)
            have hcp : w.cell? ⟨b, off + k * 5 + 1, none⟩ = some (.int .i64 (A k).page) := hck 1 _ rfl
            have hcr := grow_cell HTK.out.sa.grow hcp
            have HCP := Hid.mk' hcp
            generalize (A k).page = p at *
            have HOF := Hid.mk' (spof_any HTK.out.sa.m hpk)
            obtain ⟨I, hI⟩ : ∃ I, I = ofI S' p := ⟨_, rfl⟩
            obtain ⟨B, hB⟩ : ∃ B, B = ofB S' p := ⟨_, rfl⟩
            obtain ⟨X, hX⟩ : ∃ X, X = ofX S' p := ⟨_, rfl⟩
            obtain ⟨V, hV⟩ : ∃ V, V = rofI S' p := ⟨_, rfl⟩
            have hway := rofI_two S' p
            rw [← hI, ← hB, ← hX, ← hV] at hway
            rw [← hI, ← hB, ← hX] at HOF
            have HWAY := Hid.mk' hway
            have HVE := Hid.mk' hV
            clear hg hck hpk hcp hI hB hX hV hway
            go_wp2_with fail
            refine Calls.mono HOF.out ?_
            rintro e x3 ⟨rfl, k3⟩
            obtain ⟨x4, hs4, hb4, hg4⟩ := newEn x3 X
            have HS4 := Hid.mk' hs4
            have HT4 := Hid.mk' (HTK.out.grow (k3.trans hg4))
            have HG4 : Hid (Grow wx x4) := (HG.out.trans k3).trans hg4
            obtain ⟨g4, hge⟩ : ∃ g, g = x3.heap.size := ⟨_, rfl⟩
            rw [← hge] at hb4
            have HGE := Hid.mk' hge
            have HB4 := Hid.mk' hb4
            have hcr4 := grow_cell HT4.out.sa.grow HCP.out
            have HRF := Hid.mk' (rspof_any HT4.out.sr p)
            rw [← HVE.out] at HRF
            clear hs4 hb4 hg4 k3 hge HOF hcr HCP
            go_wp2_with (first
              | (refine wpList_runH rfl (exec_allocF rfl (zeroE x3)) ?_)
              | (refine wpList_skipH rfl (exec_stF (v := evalE X) rfl rfl rfl HS4.out) ?_)
              | fail)
            rw [← HGE.out]
            refine Calls.mono HRF.out ?_
            rintro e x5 ⟨rfl, hw⟩
            have h2 := hw.symm
            subst h2
            clear hw HRF hcr4 HS4 HGE
            go_upto_region 29 with fail
            refine region_chain [] [0, 1, 2, 3, 4, 5, 6, 7, 8, 9, 10, 11, 12, 13, 14, 15, 16, 17, 18, 19, 20, 21, 22, 23, 24, 25, 26, 27, 28, 29, 30, 31, 32, 33] (Grow x4) (Grow x4) (by kernel_rfl) (by kernel_rfl) (fun _ _ h k => h.trans k) (fun _ h => h) ((But.refl _ x4).drew) ?_
            intro ι hne Z hZ
            have DX : Hid (∀ z, ∀ j u, (ecells X)[j]? = some u → (Z z).cell? ((⟨g4, 0, none⟩ : Addr).add j) = some u) := fun z => (HB4.out.but (hZ z) (fun h => h)).cells0
            rcases HWAY.out with ⟨hB, hV, hSX⟩ | ⟨hB, hV, hI, hX⟩
            case' inl =>
              have hIN : I < N := by have := (List.getElem?_eq_some_iff.1 hSX).1; have := HT4.out.sr.len; omega
              have hINi : (I : Int) < (N : Int) := by omega
              have DY : Hid (∀ z, ∀ j u, (ecells X)[j]? = some u → (Z z).cell? ((⟨grr, I * 5 + 2, none⟩ : Addr).add j) = some u) := fun z => (HT4.out.sr.but (hZ z) (fun h => h)).ex hSX
              clear HVE HWAY
              subst hB hV
              clear hSX
              iterate 11 (refine still_step rfl (fun K hK => ?_); go_simp; refine hK _ ?_; clear hK K)
              refine still_val rfl (evalE X) rfl (fun q => exec_ldE (cs := X) (DX.out q) rfl rfl) ?_
              intro K hK; go_simp; refine hK _ ?_; clear hK K
              iterate 4 (refine still_step rfl (fun K hK => ?_); go_simp; refine hK _ ?_; clear hK K)
              refine still_val rfl (evalE X) rfl (fun q => exec_ldE (cs := X) (DY.out q) rfl rfl) ?_
              intro K hK; go_simp; refine hK _ ?_; clear hK K
              refine still_val rfl (.bool false) rfl (fun q => exec_neE (b := true) rfl rfl rfl gE (equalEn _ _)) ?_
              intro K hK; go_simp; refine hK _ ?_; clear hK K
              iterate 6 (refine still_step rfl (fun K hK => ?_); go_simp; refine hK _ ?_; clear hK K)
              refine still_step rfl (fun K hK => ?_)
              have hK' := fun (a : Act) h1 h2 h3 h4 => hK a (still_pass3 (a := a) 24 true 164 (.bool false) [25, 26, 27] [165, 166, 167] 27 false 167 undef [28, 29, 30] [168, 169, 170] 24 true 164 (.bool false) [31] [171] [32, 33] rfl rfl (fun h => by cases h) (by kernel_rfl) (by kernel_rfl) rfl (fun h => by cases h) (by kernel_rfl) (by kernel_rfl) rfl (fun h => by cases h) (by kernel_rfl) (by kernel_rfl) h1 h2 h3 h4)
              clear hK
              go_simp
              refine hK' _ (by kernel_rfl) (by kernel_rfl) (by kernel_rfl) ?_
              clear hK' K
              intro K hK
              simp only [undefL]
              go_simp
              refine hK _ ?_
              clear hK K
              iterate 2 (refine still_step rfl (fun K hK => ?_); go_simp; refine hK _ ?_; clear hK K)
              refine still_nil ?_
              clear DX DY hZ hne Z
            case' inr =>
              clear HVE HWAY
              subst hB hV hI hX
              iterate 6 (refine still_step rfl (fun K hK => ?_); go_simp; refine hK _ ?_; clear hK K)
              refine still_step rfl (fun K hK => ?_)
              have hK' := fun (a : Act) h1 h2 h3 h4 => hK a (still_pass3 (a := a) 6 true 146 (.bool false) [7, 8, 9, 10] [147, 148, 149, 150] 10 false 150 undef [11, 12, 13, 14, 15, 16, 17] [151, 152, 153, 154, 155, 156, 157] 6 true 146 (.bool false) [18] [158] [19, 20, 21, 22, 23, 24, 25, 26, 27, 28, 29, 30, 31, 32, 33] rfl rfl (fun h => by cases h) (by kernel_rfl) (by kernel_rfl) rfl (fun h => by cases h) (by kernel_rfl) (by kernel_rfl) rfl (fun h => by cases h) (by kernel_rfl) (by kernel_rfl) h1 h2 h3 h4)
              clear hK
              go_simp
              refine hK' _ (by kernel_rfl) (by kernel_rfl) (by kernel_rfl) ?_
              clear hK' K
              intro K hK
              simp only [undefL]
              go_simp
              refine hK _ ?_
              clear hK K
              iterate 9 (refine still_step rfl (fun K hK => ?_); go_simp; refine hK _ ?_; clear hK K)
              refine still_val rfl (evalE ⟨0, 0, 0⟩) rfl (fun q => exec_ldE (cs := ⟨0, 0, 0⟩) (DX.out q) rfl rfl) ?_
              intro K hK; go_simp; refine hK _ ?_; clear hK K
              iterate 1 (refine still_step rfl (fun K hK => ?_); go_simp; refine hK _ ?_; clear hK K)
              refine still_val rfl (.bool false) rfl (fun q => exec_neE (b := true) rfl rfl rfl gE (equalEn ⟨0, 0, 0⟩ _)) ?_
              intro K hK; go_simp; refine hK _ ?_; clear hK K
              iterate 3 (refine still_step rfl (fun K hK => ?_); go_simp; refine hK _ ?_; clear hK K)
              refine still_nil ?_
              clear DX hZ hne Z
            all_goals
              intro x6 h6
              have HG6 : Hid (Grow wx x6) := HG4.out.trans h6
              clear h6
              go_wp2
              exact ⟨⟨k + 1, by omega, by go_num, HG6.out⟩, by simp [intOf]; omega⟩
          · have hki2 : ¬ (k : Int) ≤ (i : Int) := hki
            have HTE := Hid.mk' (HTJ.out.grow hg)
            clear hg
            go_wp2
            exact ⟨⟨i + 1, grr, crr, S', by omega, by omega, by go_num, rfl, HTE.out⟩, by simp [intOf]; omega⟩
      clear HK1 hK1
      clear hK2 hK3
      have hPK := pick_any a.kind 9 w3 (by decide) (by decide)
      obtain ⟨kq, hkq⟩ : ∃ kq, kq = a.kind % 9 := ⟨_, rfl⟩
      rw [← hkq] at hPK
      have HPK := Hid.mk' hPK
      have hway : (kq == 0) = true ∨ ((kq == 0) = false ∧ (kq == 1) = true) ∨ ((kq == 0) = false ∧ (kq == 1) = false) := by
        cases (kq == 0) <;> cases (kq == 1) <;> simp
      clear hPK hkq
      go_wp2_with fail
      refine Calls.mono HPK.out ?_
      rintro e w4 ⟨rfl, hw⟩
      have h2 := hw.symm
      subst h2
      clear hw HPK a0
      rcases hway with hk | ⟨hk, hk1⟩ | ⟨hk, hk1⟩
      case' inl =>
        have HFR := Hid.mk' (sa_free HT3.out.sa HPG.out)
        go_wp2_with fail
        refine Calls.mono HFR.out ?_
        rintro e w6 ⟨rfl, hs6, hb6⟩
        have HT6 := Hid.mk' (HT3.out.prog hs6 hb6)
        have d1 : w6.cell? ⟨ga, 1, none⟩ = some (.int .i64 a.page) := (HB3.out.but hb6 (fun e => by have := HGA.out; have := HT.out.sa.lt.2; omega)).cell 1
        have HOF := Hid.mk' (rspof_any HT6.out.sr a.page)
        obtain ⟨V, hV⟩ : ∃ V, V = rofI S a.page := ⟨_, rfl⟩
        have htwo := free_two S a.page
        rw [← hV] at HOF htwo
        clear hs6 hb6 a1 HFR hV
        go_wp2_with fail
        refine Calls.mono HOF.out ?_
        rintro e w7 ⟨rfl, hw⟩
        have h2 := hw.symm
        subst h2
        clear hw HOF
        rcases htwo with ⟨j, hVj, hjl, hfr⟩ | ⟨hVn, hfr⟩
        · subst hVj
          have hjN : j < N := by have := HT.out.sr.len; omega
          have hjNi : (j : Int) < (N : Int) := by omega
          have hj0 : (0 : Int) ≤ (j : Int) := by omega
          obtain ⟨w8, hs8, hm8, hb8⟩ := HT6.out.sr.store hjN none
          rw [← hfr] at hm8
          have HS8 := Hid.mk' hs8
          have HT8 := Hid.mk' (HT6.out.ref hm8 hb8)
          clear hs8 hm8 hb8 hfr d1
          go_wp2_with (first
            | (refine wpList_skipH rfl (exec_stF (v := .agg (rcl none).toArray) rfl rfl rfl HS8.out) ?_)
            | fail)
          apply HJ.out
          exact HT8.out
        · subst hVn
          rw [hfr] at HT6
          clear hfr d1
          go_wp2_with fail
          apply HJ.out
          exact HT6.out
      case' inr.inl =>
        have HCL := Hid.mk' (sa_clear HT3.out.sa)
        go_wp2_with fail
        refine Calls.mono HCL.out ?_
        rintro e w6 ⟨rfl, hs6, hb6⟩
        have HS6 := Hid.mk' hs6
        have HNW := Hid.mk' (rspnew_any w6 N HNB.out.1 HNB.out.2)
        clear hs6 hb6 a1 HCL
        go_wp2_with fail
        refine Calls.mono HNW.out ?_
        rintro e w7 ⟨g7, c7, rfl, hr7, k7, hn7⟩
        have HT7 := Hid.mk' (Tw.new HS6.out hr7 k7 hn7)
        clear hr7 k7 hn7 HNW
        go_wp2_with fail
        apply HJ.out
        exact HT7.out
      case' inr.inr =>
        have HLD : Hid (∀ j u, (ecells a.x)[j]? = some u → w3.cell? ((⟨ga, 2, none⟩ : Addr).add j) = some u) := fun j u hu => by
          rw [addr_add, HB3.out.cell, show 2 + j = j + 1 + 1 by omega]
          exact hu
        have HGV := Hid.mk' (sa_give HT3.out.sa HPG.out a.x)
        obtain ⟨gi, hgi⟩ : ∃ gi, gi = givI S a.page := ⟨_, rfl⟩
        obtain ⟨ge, hge⟩ : ∃ ge, ge = givE S a.page := ⟨_, rfl⟩
        obtain ⟨V, hV⟩ : ∃ V, V = rgivI S a.page := ⟨_, rfl⟩
        have htwo := give_two S a.page
        rw [← hgi, ← hge] at HGV htwo
        rw [← hV] at htwo
        have HV2 := Hid.mk' hV
        clear hgi hge hV
        go_wp2_with (first
          | (refine wpList_runH rfl (exec_ldE (cs := a.x) HLD.out rfl rfl) ?_)
          | fail)
        refine Calls.mono HGV.out ?_
        rintro e w6 ⟨rfl, hs6, hb6⟩
        have HT6 := Hid.mk' (HT3.out.prog hs6 hb6)
        have hbk := HB3.out.but hb6 (fun e => by have := HGA.out; have := HT.out.sa.lt.2; omega)
        have d1 : w6.cell? ⟨ga, 1, none⟩ = some (.int .i64 a.page) := hbk.cell 1
        have HLD6 : Hid (∀ j u, (ecells a.x)[j]? = some u → w6.cell? ((⟨ga, 2, none⟩ : Addr).add j) = some u) := fun j u hu => by
          rw [addr_add, hbk.cell, show 2 + j = j + 1 + 1 by omega]
          exact hu
        have HRG := Hid.mk' (rspgive_any HT6.out.sr a.page a.x)
        rw [← HV2.out] at HRG
        clear hs6 hb6 a1 HGV HLD hbk HV2
        go_wp2_with (first
          | (refine wpList_runH rfl (exec_ldE (cs := a.x) HLD6.out rfl rfl) ?_)
          | fail)
        refine Calls.mono HRG.out ?_
        rintro e w7 ⟨rfl, hr7⟩
        have HT7 := Hid.mk' (HT6.out.ref hr7.m hr7.but)
        clear hr7 d1 HRG HLD6
        rcases htwo with ⟨j, h1, h2, h3⟩ | ⟨h1, h2, h3⟩
        · subst h1 h2 h3
          have hj0 : (0 : Int) ≤ (j : Int) := by omega
          have hj1 : ¬ ((j : Int) < 0) := by omega
          go_wp2_with fail
          apply HJ.out
          exact HT7.out
        · subst h1 h2 h3
          go_wp2_with fail
          apply HJ.out
          exact HT7.out
    · have hends : (l : Int) ≤ (i : Int) ∨ (300 : Int) ≤ (i : Int) := by omega
      have HAW := Hid.mk' (awake_any wr)
      have HFIN : Hid (∀ w4, Grow wr w4 → Below w.heap.size w w4) := fun w4 k4 => (HT.out.sa.grow.trans k4).below (Nat.le_refl _) (fun _ _ h => h)
      rcases hends with he | he
      · have hlti : ¬ ((i : Int) < (l : Int)) := by omega
        go_wp2_with fail
        refine Calls.mono HAW.out ?_
        rintro e w4 ⟨rfl, k4⟩
        have HF4 := Hid.mk' (HFIN.out _ k4)
        clear k4
        go_wp2
        go_ret
        exact ⟨rfl, HF4.out⟩
      · have hlt2 : ¬ ((i : Int) < 300) := by omega
        obtain hq | hq : (i : Int) < (l : Int) ∨ ¬ ((i : Int) < (l : Int)) := by omega
        all_goals
          go_wp2_with fail
          refine Calls.mono HAW.out ?_
          rintro e w4 ⟨rfl, k4⟩
          have HF4 := Hid.mk' (HFIN.out _ k4)
          clear k4
          go_wp2
          go_ret
          exact ⟨rfl, HF4.out⟩
theorem spillPlays_walk (n : Int) (v : Value) (l : Nat) (A : Nat → SA) (w : World) (_ : (Lit.int .i64 n).wf = true) (hv : SActs w v l A) : Calls Try.prog 3 #[.int .i64 n, v] w fun e w' => e = .returned (.bool true) ∧ Below w.heap.size w w' := by
  by_cases hn : 1 ≤ n ∧ n ≤ 256
  · obtain ⟨N, rfl⟩ : ∃ N : Nat, n = (N : Int) := ⟨n.toNat, by omega⟩
    exact spplays_ok N v l A w (by omega) (by omega) hv
  · exact spplays_no n v w hn
set_option maxRecDepth 100000 in
theorem spillPlays_lifted (os : Os) (started : os.Started) (H : Type) (enc : TypeId × Value → H) :
    ReturnsInHanded {} Try.checked os 3 .any (Rows.spillPlaysSpec.pre6 enc Try.prog Try.f3 Rows.spillPlaysRow.domain false) (Rows.spillPlaysSpec.post enc Try.prog Try.f3 false true false false) := by
  refine returnsInHanded_of_change_sized (C := Try.checked) (by kernel_rfl) started (by kernel_rfl) Try.func3
    (ChangeSpec.witness6 (enc := enc) (C := Try.checked) false ⟨#[], #[.int .i64 0, .slice none 0 0], []⟩ 8 (by kernel_rfl) (by kernel_rfl) (by kernel_rfl) (by kernel_rfl)) ?_
  intro W base args ds gs before hval0 hW hcnd hsz0 _
  have hsz : (DataW.weightsEach Try.prog (Try.f3.params.toList ++ Rows.spillPlaysSpec.plain.varTypes Try.prog) (ds ++ gs)).all (· ≤ reachBytes) = true := hsz0
  clear hsz0
  have hval : ∀ (j : Nat) t v, Try.f3.params[j]? = some t → args[j]? = some v → Value.okWide Try.prog W .any base t v := hval0
  have hW' := hW
  obtain ⟨p, q, hA0, hV, rfl, hfz, hnd⟩ := hW
  have hA : DataW.TrodAll enc Try.prog W 0 (fun _ => true) true Try.f3.params.toList args.toList ds p := hA0
  rw [Try.params3] at hA hval hsz
  obtain ⟨v0, vs0, d0, ds0, p0, q0, hargs, rfl, rfl, h0, r0⟩ := trodAll_cons hA
  obtain ⟨v1, vs1, d1, ds1, p1, q1, rfl, rfl, rfl, h1, r1⟩ := trodAll_cons r0
  obtain ⟨rfl, rfl, rfl⟩ := trodAll_nil r1
  obtain rfl : args = #[v0, v1] := by cases args; simp_all
  obtain ⟨rfl, rfl⟩ := trodVars_none hV
  obtain ⟨a0, rfl, rfl, rfl, w0⟩ := open_int Try.underlying3 (hval 0 3 v0 rfl rfl) h0
  have lt1 : ∀ x ∈ p1, x.block < W.heap.size := by obtain ⟨m, hm⟩ := h1; exact DataW.trod_lt m _ _ _ hm
  obtain ⟨n1, z1, w1⟩ := view_sacts (hval 1 22 v1 rfl rfl) h1 lt1 hsz (j := 1) rfl rfl
  clear hA0 hval0
  refine (spillPlays_walk a0 v1 n1 z1 W w0 w1).mono fun e W' ⟨he, bel⟩ => ?_
  subst he
  exact ⟨_, rfl, _, _, _, [], _, [], hW', trodAll_mk1 (shut_bool Try.underlying4 _), (trodAll_cons_mk (shut_int Try.underlying3 w0) (trodAll_cons_mk (Below.trod (by kernel_rfl) (by kernel_rfl) (of_decide_eq_true (by kernel_rfl)) h1 bel lt1) trodAll_mk0)), rfl, bel.frame _, fun h => by cases h⟩

theorem spillPlays_holds : Rows.SpillPlaysSaid :=
  OpenClaim.holds_of_wide 3 Try.f3 rfl rfl rfl rfl rfl rfl rfl ⟨rfl, rfl, rfl, rfl, rfl⟩ rfl rfl rfl rfl rfl (by kernel_rfl) Try.func3 (by kernel_rfl)
    (of_decide_eq_true (by kernel_rfl)) (by unfold Func.isWrapper; first | (rw [if_pos (by decide +kernel)]; kernel_rfl) | (rw [if_neg (by decide +kernel)]; exact ⟨rfl, rfl⟩))
    (fun os started H enc _ => spillPlays_lifted os started H enc)
#print axioms spillPlays_holds
end Go.Proofs.Ytehajgfjdmhdpaa
