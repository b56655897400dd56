/- SpillOnce: no two pages have one slot, each slot is there, and a page keeps its own while it has it. For every input. -/
import Derived.Test.YtehajgfjdmhdpaaSpOnce
import Derived.Test.YtehajgfjdmhdpaaSpView
import Derived.Test.YtehajgfjdmhdpaaMakeRow
import Derived.Test.YtehajgfjdmhdpaaPast
namespace Go.Proofs.Ytehajgfjdmhdpaa
open Go.ChangeShapes Go.WideShapes Go.ChangeAt Go.RowKit Go.Deep

set_option maxRecDepth 100000 in
set_option maxHeartbeats 16000000 in
theorem spillOnce_walk (nn : Int) (v : Value) (l : Nat) (A : Nat → SA) (w : World) (_ : (Lit.int .i64 nn).wf = true) (hv : SActs w v l A) : Calls Try.prog 4 #[.int .i64 nn, v] w fun e w' => e = .returned (.bool true) ∧ Below w.heap.size w w' := by
  obtain ⟨ao, cap, rfl⟩ := hv.len
  have HV := Hid.mk' hv
  have hln : l ≤ 140737488351232 := hv.1
  have hlb : (l : Int) ≤ 140737488351232 := by omega
  have hP1 := pick_any nn 256 w (by decide) (by decide)
  obtain ⟨m, hm⟩ : ∃ m, m = nn % 256 := ⟨_, rfl⟩
  rw [← hm] at hP1
  have hm0 : 0 ≤ m := by omega
  have hm1 : m < 256 := by omega
  obtain ⟨N, hN⟩ : ∃ N : Nat, (N : Int) = 1 + m := ⟨(1 + m).toNat, by omega⟩
  have HP1 := Hid.mk' hP1
  have HNE := Hid.mk' hN
  have HNB : Hid (1 ≤ N ∧ N ≤ 256) := by show _ ∧ _; omega
  clear hv hP1 hN hm
  go_enter Try.func4, Try.ntmps4
  go_wp2_with fail
  refine Calls.mono HP1.out ?_
  rintro e w' ⟨rfl, hw⟩
  have h2 := hw.symm
  subst h2
  clear hw
  go_upto_region 2 with fail
  rw [← HNE.out]
  clear hm0 hm1 HNE HP1
  have HN := Hid.mk' (sa_new w N HNB.out.1 HNB.out.2)
  go_wp2_with fail
  refine Calls.mono HN.out ?_
  rintro e w1 ⟨gs, gm, rfl, h1⟩
  have HS1 := Hid.mk' h1
  have hNi : (N : Int) ≤ 256 := by have := HNB.out.2; omega
  clear h1 HN
  go_wp2
  go_loopw [7] (fun iv wr => ∃ (i : Nat) (S : Sl), i ≤ l ∧ i ≤ 200 ∧ iv = .int .i64 i ∧ Sa w wr gs gm N S) (fun iv _ => l - (intOf iv).toNat)
  case atStart => exact ⟨0, _, Nat.zero_le _, by decide, rfl, HS1.out⟩
  case round =>
    clear HS1
    obtain ⟨i, S, hil, hi200, rfl, hs⟩ := hrel
    have HS := Hid.mk' hs
    clear hs
    by_cases hlt : i < l ∧ i < 200
    · have hlti : (i : Int) < (l : Int) := by omega
      have hlt2 : (i : Int) < 200 := by omega
      obtain ⟨b, off, cap', e1, hbl, hA⟩ := HV.out.at hlt.1
      simp only [Value.slice.injEq] at e1
      obtain ⟨rfl, -, rfl⟩ := e1
      obtain ⟨⟨-, hpg⟩, hcw⟩ := hA i hlt.1
      have HPG := Hid.mk' hpg
      have HCW : Hid (∀ c u, (sac (A i))[c]? = some u → wr.cell? ((⟨b, off + i * 5, none⟩ : Addr).add c) = some u) := fun c u hc => by
        rw [addr_add]; exact grow_cell HS.out.grow (hcw c u hc)
      generalize A i = a at *
      obtain ⟨ga, hga⟩ : ∃ g, g = wr.heap.size := ⟨_, rfl⟩
      have HGA := Hid.mk' hga
      obtain ⟨w2, hst, hb2, hg2⟩ := newSa wr a
      rw [← hga] at hb2
      have HST := Hid.mk' hst
      have HB2 := Hid.mk' hb2
      have HS2 := Hid.mk' (HS.out.then hg2)
      have a1 : w2.cell? ⟨ga, 1, none⟩ = some (.int .i64 a.page) := hb2.cell 1
      have HOF := Hid.mk' (spof_any HS2.out.m hpg)
      clear hga hst hb2 hg2 hpg hcw hA hbl hil hi200
      go_upto_region 9 with (first
        | (refine wpList_load_cells rfl _ _ rfl ⟨b, off + i * 5, none⟩ rfl (sac a) _ HCW.out Try.underlying35 rfl iSa ?_)
        | (refine wpList_runH rfl (exec_allocF rfl (zSa wr)) ?_)
        | (refine wpList_skipH rfl (exec_stF (v := .agg (sac a).toArray) rfl rfl rfl HST.out) ?_)
        | fail)
      rw [← HGA.out]
      clear HST HCW
      go_wp2_with fail
      refine Calls.mono HOF.out ?_
      rintro e w3 ⟨rfl, k3⟩
      obtain ⟨w4, hs4, hb4, hg4⟩ := newEn w3 (ofX S a.page)
      have HS4 := Hid.mk' hs4
      have k24 := k3.trans hg4
      have HA4 := Hid.mk' (HS2.out.then k24)
      have hbA := HB2.out.but k24 (fun h => h)
      have HBA := Hid.mk' hbA
      have a0 : w4.cell? ⟨ga, 0, none⟩ = some (.int .i64 a.kind) := hbA.cell 0
      have b1 : w4.cell? ⟨ga, 1, none⟩ = some (.int .i64 a.page) := hbA.cell 1
      have hPK := pick_any a.kind 4 w4 (by decide) (by decide)
      obtain ⟨kq, hkq⟩ : ∃ kq, kq = a.kind % 4 := ⟨_, rfl⟩
      rw [← hkq] at hPK
      have HPK := Hid.mk' hPK
      obtain ⟨I, hI⟩ : ∃ I, I = ofI S a.page := ⟨_, rfl⟩
      obtain ⟨B, hB⟩ : ∃ B, B = ofB S a.page := ⟨_, rfl⟩
      rw [← hI, ← hB]
      generalize ofX S a.page = X at *
      have hway : (kq == 0) = true ∨ ((kq == 0) = false ∧ B = true ∧ givI S a.page = (I : Int) ∧ givE S a.page = 0) ∨ ((kq == 0) = false ∧ B = false ∧ givE S a.page = 0) ∨ ((kq == 0) = false ∧ B = false ∧ givE S a.page = 11 ∧ slotS S a.page = none) := by
        cases hk : (kq == 0) with
        | true => exact .inl rfl
        | false =>
          refine .inr ?_
          cases hb : B with
          | true =>
            rw [hb] at hB
            obtain ⟨q1, q2⟩ := had_giv hB.symm
            exact .inl ⟨rfl, rfl, by rw [hI]; exact q1, q2⟩
          | false =>
            refine .inr ?_
            rcases giv_two (S := S) (p := a.page) with h | ⟨h1, h2⟩
            · exact .inl ⟨rfl, rfl, h⟩
            · exact .inr ⟨rfl, rfl, h1, h2⟩
      clear hs4 hb4 hg4 k24 hbA hPK hkq hI hB k3 a1
      go_upto_region 10 with (first
        | (refine wpList_runH rfl (exec_allocF rfl (zeroE w3)) ?_)
        | (refine wpList_skipH rfl (exec_stF (v := evalE X) rfl rfl rfl HS4.out) ?_)
        | fail)
      rename_i K3 hK3 Q0 K2 hK2 K1 hK1 K0 hK0
      have HK1 := Hid.mk' hK1
      have HJ : Hid (∀ (u4 u8 u9 u10 u11 u12 u13 u14 u15 u16 u17 u18 u19 u20 u21 u22 u33 u34 u35 u36 u37 u38 u39 u40 u41 u42 u43 u44 u45 u46 u47 u48 u49 u50 u51 u52 u53 u54 u55 u56 u57 u58 u59 u60 u61 u62 u63 u64 u65 u66 u67 u68 u69 u70 u71 u72 u73 u74 u75 u76 u77 u78 u79 u80 u81 u82 u83 u84 u85 u86 u87 u88 u89 u90 u91 u92 u93 u94 u95 u96 u97 u98 u99 u100 u101 u102 u103 u104 u105 u106 u107 u108 u109 u110 u111 u112 u113 u114 u115 u116 u117 u118 u119 u120 u121 u122 u123 u124 u125 u126 u127 u128 u129 u130 u131 u132 u133 u134 u135 u136 u137 u138 u139 u140 u141 u142 u143 u144 u145 u146 u147 u148 u149 u150 u151 u152 u153 u154 u155 u156 u157 : Value) (S' : Sl) (wq : World), Sa w wq gs gm N S' → K1 ⟨#[.int .i64 (N : Int), .slice (some ⟨b, off, none⟩) l cap, undef, undef, u4, ptr gs, .int .i64 0, .int .i64 (i : Int), u8, u9, u10, u11, u12, u13, u14, u15, u16, u17, u18, u19, u20, u21, u22, .int .i64 nn, .int .i64 m, .int .i64 (N : Int), .tuple #[ptr gs, .int .i64 0], .int .i64 (N : Int), .tuple #[ptr gs, .int .i64 0], ptr gs, .int .i64 0, .int .i64 0, .bool false, u33, u34, u35, u36, u37, u38, u39, u40, u41, u42, u43, u44, u45, u46, u47, u48, u49, u50, u51, u52, u53, u54, u55, u56, u57, u58, u59, u60, u61, u62, u63, u64, u65, u66, u67, u68, u69, u70, u71, u72, u73, u74, u75, u76, u77, u78, u79, u80, u81, u82, u83, u84, u85, u86, u87, u88, u89, u90, u91, u92, u93, u94, u95, u96, u97, u98, u99, u100, u101, u102, u103, u104, u105, u106, u107, u108, u109, u110, u111, u112, u113, u114, u115, u116, u117, u118, u119, u120, u121, u122, u123, u124, u125, u126, u127, u128, u129, u130, u131, u132, u133, u134, u135, u136, u137, u138, u139, u140, u141, u142, u143, u144, u145, u146, u147, u148, u149, u150, u151, u152, u153, u154, u155, u156, u157, undef], []⟩ wq) := by
        intro u4 u8 u9 u10 u11 u12 u13 u14 u15 u16 u17 u18 u19 u20 u21 u22 u33 u34 u35 u36 u37 u38 u39 u40 u41 u42 u43 u44 u45 u46 u47 u48 u49 u50 u51 u52 u53 u54 u55 u56 u57 u58 u59 u60 u61 u62 u63 u64 u65 u66 u67 u68 u69 u70 u71 u72 u73 u74 u75 u76 u77 u78 u79 u80 u81 u82 u83 u84 u85 u86 u87 u88 u89 u90 u91 u92 u93 u94 u95 u96 u97 u98 u99 u100 u101 u102 u103 u104 u105 u106 u107 u108 u109 u110 u111 u112 u113 u114 u115 u116 u117 u118 u119 u120 u121 u122 u123 u124 u125 u126 u127 u128 u129 u130 u131 u132 u133 u134 u135 u136 u137 u138 u139 u140 u141 u142 u143 u144 u145 u146 u147 u148 u149 u150 u151 u152 u153 u154 u155 u156 u157 S' wq hsq
        have HSQ := Hid.mk' hsq
        refine HK1.out _ _ ?_
        clear hsq hK0 hK1 HK1 a0 b1 hway HA4 HBA HB2 HS2 HS
        have HPW := Hid.mk' (sa_pages HSQ.out)
        go_wp2_with fail
        refine Calls.mono HPW.out ?_
        rintro e x7 ⟨pa, pc, rfl, ho7, hs7, k7⟩
        obtain ⟨pv, hpv⟩ : ∃ pv, pv = Value.slice pa (risS S').length pc := ⟨_, rfl⟩
        have HO0 := Hid.mk' (OnI.make (pv := pv) hs7 (by rw [hpv]; exact ho7) HSQ.out k7)
        obtain ⟨g3, hg3⟩ : ∃ g3, g3 = x7.heap.size := ⟨_, rfl⟩
        rw [← hg3] at HO0
        have HPV := Hid.mk' hpv
        have HG3 := Hid.mk' hg3
        obtain ⟨M, hM⟩ : ∃ M, M = (risS S').length := ⟨_, rfl⟩
        rw [← hM] at HPV ⊢
        have HM := Hid.mk' hM
        have hMN : M ≤ 256 := by have := ris_le_len S'; have := HSQ.out.m.len; have := HNB.out.2; omega
        have hMi : (M : Int) ≤ 256 := by omega
        clear hpv hg3 hM ho7 hs7 k7 HPW hMN
        go_wp2_with (first
          | (refine wpList_runH rfl (exec_mkS rfl rfl rfl (make_row Try.underlying49 (z := .bool false) (bytes := 1) (by kernel_rfl) rfl (by decide) x7 N (by have := HNB.out.2; omega))) ?_)
          | fail)
        rw [← HG3.out]
        go_loopw [19] (fun kv wx => ∃ k : Nat, k ≤ M ∧ kv = .int .i64 k ∧ OnI w wq wx gs gm g3 N S' pv k) (fun kv _ => M - (intOf kv).toNat)
        case atStart => exact ⟨0, Nat.zero_le _, rfl, HO0.out⟩
        case round =>
          clear HO0
          obtain ⟨k, hkM, rfl, hO⟩ := hrel
          have HO := Hid.mk' hO
          clear hO
          by_cases hkl : k < M
          · have hkli : (k : Int) < (M : Int) := by omega
            obtain ⟨y, hy⟩ : ∃ y, (risS S')[k]? = some y := ⟨_, List.getElem?_eq_getElem (by have := HM.out; omega)⟩
            have hym := List.mem_of_getElem? hy
            have hok' := HO.out.sa.m.ok
            have hy64 := ris_i64 hok' hym
            obtain ⟨hyb, hyi⟩ := ris_ofI hok' hym
            rw [HO.out.sa.m.len] at hyi
            have hnu := HO.out.own.nums (fun x hx => ris_i64 hok' hx) (by have := HM.out; omega)
            obtain ⟨b5, o5, c5, e5, -, -, hc5⟩ := hnu.at (by have := HM.out; omega)
            rw [HPV.out] at e5
            simp only [Value.slice.injEq] at e5
            obtain ⟨e51, -, e52⟩ := e5
            have hgy : (risS S').getD k 0 = y := by rw [List.getD_eq_getElem?_getD, hy]; rfl
            have hcy := hc5 k (by have := HM.out; omega)
            rw [hgy] at hcy
            have HCY := Hid.mk' hcy
            have HCZ : Hid (∀ j, k = j + 1 → ∃ z, wr.cell? ⟨b5, o5 + j, none⟩ = some (.int .i64 z) ∧ z < y) := fun j hj => by
              have hj2 : j < (risS S').length := by have := HM.out; omega
              have hk2 : k < (risS S').length := by have := HM.out; omega
              refine ⟨_, hc5 j hj2, ?_⟩
              have h5 := List.pairwise_iff_getElem.1 (ris_rises hok') j k hj2 hk2 (by omega)
              rw [List.getD_eq_getElem?_getD, List.getElem?_eq_getElem hj2]
              have h6 := (List.getElem?_eq_some_iff.1 hy).2
              rw [h6] at h5
              exact h5
            have hse := seenS_new hok' HO.out.sa.m.len hy
            have h8 := spof_any HO.out.sa.m hy64
            rw [hyb] at h8
            obtain ⟨I5, hI5⟩ : ∃ I5, I5 = ofI S' y := ⟨_, rfl⟩
            rw [← hI5] at h8 hse hyi
            generalize ofX S' y = X5 at *
            have HSE : Hid (wr.cell? ⟨g3, I5, none⟩ = some (.bool false)) := by show _ = _; rw [HO.out.blk.cell]; exact hse
            have HOF8 := Hid.mk' h8
            have HI5 := Hid.mk' hI5
            have HY := Hid.mk' hy
            have hyii : (I5 : Int) < (N : Int) := by omega
            have hy0 : ¬ ((I5 : Int) < 0) := by omega
            have hyN : ¬ ((N : Int) ≤ (I5 : Int)) := by omega
            clear hnu hc5 hgy hse h8 hI5 hy hym hok' hy64 hyb
            subst e51 e52
            go_wp2_with fail
            refine Calls.mono HOF8.out ?_
            rintro e x8 ⟨rfl, k8⟩
            obtain ⟨x9, hs9, -, hg9⟩ := newEn x8 X5
            have HS9 := Hid.mk' hs9
            have HG9 : Hid (Grow wr x9) := k8.trans hg9
            clear hs9 hg9 k8 HOF8 hcy
            go_upto_region 24 with (first
              | (refine wpList_runH rfl (exec_allocF rfl (zeroE x8)) ?_)
              | (refine wpList_skipH rfl (exec_stF (v := evalE X5) rfl rfl rfl HS9.out) ?_)
              | fail)
            refine region_chain [] [0, 1, 2, 3, 4, 5, 6, 7, 8, 9, 10, 11, 12, 13, 14, 15, 16, 17, 18, 19, 20, 21, 22, 23, 24, 25, 26, 27, 28, 29, 30, 31, 32] (Grow x9) (Grow x9) (by kernel_rfl) (by kernel_rfl) (fun _ _ h k => h.trans k) (fun _ h => h) ((But.refl _ x9).drew) ?_
            intro ι hne X hX
            have d0 : ∀ z, (X z).cell? ⟨g3, I5, none⟩ = some (.bool false) := fun z => grow_cell (HG9.out.trans (hX z)) HSE.out
            have d1 : ∀ z, (X z).cell? ⟨b5, o5 + k, none⟩ = some (.int .i64 y) := fun z => grow_cell (HG9.out.trans (hX z)) HCY.out
            have HCZX : Hid (∀ j, k = j + 1 → ∃ zz, (∀ z, (X z).cell? ⟨b5, o5 + j, none⟩ = some (.int .i64 zz)) ∧ zz < y) := fun j hj => by
              obtain ⟨zz, h1, h2⟩ := HCZ.out j hj
              exact ⟨zz, fun z => grow_cell (HG9.out.trans (hX z)) h1, h2⟩
            clear HCZ
            rcases k with _ | j
            case' zero =>
              iterate 20 (refine still_step rfl (fun K hK => ?_); go_simp; refine hK _ ?_; clear hK K)
              refine still_step rfl (fun K hK => ?_)
              have hK' := fun (a : Act) h1 h4 => hK a (still_pass1 (a := a) 20 true 142 (.bool false) [21, 22, 23, 24, 25, 26, 27, 28, 29, 30] [31, 32] [143, 144, 145, 146, 147, 148, 149, 150, 151, 152] rfl rfl (fun h => by cases h) (by kernel_rfl) (by kernel_rfl) h1 h4)
              clear hK
              go_simp
              refine hK' _ (by kernel_rfl) ?_
              clear hK' K
              intro K hK
              simp only [undefL]
              go_simp
              refine hK _ ?_
              clear hK K
              iterate 2 (refine still_step rfl (fun K hK => ?_); go_simp; refine hK _ ?_; clear hK K)
              refine still_nil ?_
              clear d0 d1 HCZX hX hne X
            case' succ =>
              obtain ⟨zz, d2, hzz⟩ := HCZX.out j rfl
              have hzy : ¬ (y ≤ zz) := by omega
              have hj0 : (0 : Int) ≤ (j : Int) + 1 := by omega
              have hj1 : (j : Int) + 1 < (M : Int) := by omega
              have hj2 : (j : Int) < (M : Int) := by omega
              have hj3 : (0 : Int) < (j : Int) + 1 := by omega
              have hj4 : IntKind.i64.wrap (j : Int) = (j : Int) := by simp [IntKind.wrap, IntKind.bits, IntKind.signed]; omega
              iterate 33 (refine still_step rfl (fun K hK => ?_); go_simp; refine hK _ ?_; clear hK K)
              refine still_nil ?_
              clear d0 d1 d2 HCZX hX hne X hzz hzy hj0 hj1 hj2 hj3 hj4
            all_goals
              intro x10 h10
              have HO10 := Hid.mk' (HO.out.grow (HG9.out.trans h10))
              have HL : Hid (∀ k, I5 < (seenS S' N ((risS S').take k)).length) := fun k => by rw [seenS_len]; exact hyi
              have HSET := Hid.mk' (HO10.out.set HY.out)
              rw [← HI5.out] at HSET
              clear h10 HS9 HCY HSE
              go_wp2_with (first
                | (refine wpList_skipH rfl (exec_store (v := .bool true) (g := g3) (i := I5) (by kernel_rfl) rfl rfl rfl rfl HO10.out.blk (HL.out _)) ?_)
                | fail)
              exact ⟨⟨_, by omega, by go_num, HSET.out⟩, by simp [intOf]; omega⟩
          · have hkli : ¬ (k : Int) < (M : Int) := by omega
            clear HPV HM HG3
            go_wp2
            exact ⟨⟨i + 1, S', by omega, by omega, by go_num, HO.out.sa⟩, by simp [intOf]; omega⟩
      clear HK1 hK1 hK2 hK3
      go_wp2_with fail
      refine Calls.mono HPK.out ?_
      rintro e w5 ⟨rfl, hw⟩
      have h2 := hw.symm
      subst h2
      clear hw HPK HS4 a0 HOF
      rcases hway with hk | ⟨hk, hB, hE1, hE2⟩ | ⟨hk, hB, hE⟩ | ⟨hk, hB, hE, hno⟩
      case' inl =>
        have HFR := Hid.mk' (sa_free HA4.out HPG.out)
        go_wp2_with fail
        refine Calls.mono HFR.out ?_
        rintro e w6 ⟨rfl, hs6, hb6⟩
        have HA6 := Hid.mk' hs6
        have d1 : w6.cell? ⟨ga, 1, none⟩ = some (.int .i64 a.page) := (HBA.out.but hb6 (fun e => by have := HGA.out; have := HS.out.lt.2; omega)).cell 1
        have h7 := spof_any hs6.m HPG.out
        rw [ofB_free HA4.out.m.ok] at h7
        have HOF7 := Hid.mk' h7
        clear hs6 hb6 b1 h7
        go_wp2_with fail
        refine Calls.mono HOF7.out ?_
        rintro e w7 ⟨rfl, k7⟩
        obtain ⟨wq, hs8, -, hg8⟩ := newEn w7 (ofX (freeS S a.page) a.page)
        have HS8 := Hid.mk' hs8
        have hsq := HA6.out.then (k7.trans hg8)
        generalize ofX (freeS S a.page) a.page = X8 at *
        generalize ofI (freeS S a.page) a.page = I8 at *
        obtain ⟨S', hS'⟩ : ∃ S', S' = freeS S a.page := ⟨_, rfl⟩
        rw [← hS'] at hsq
        have HSQ := Hid.mk' hsq
        clear hs8 hg8 k7 hsq hS' d1
        go_wp2_with (first
          | (refine wpList_runH rfl (exec_allocF rfl (zeroE w7)) ?_)
          | (refine wpList_skipH rfl (exec_stF (v := evalE X8) rfl rfl rfl HS8.out) ?_)
          | fail)
        apply HJ.out
        exact HSQ.out
      case' inr.inl =>
        subst hB
        have h6 := sa_give HA4.out HPG.out a.x
        rw [hE1, hE2] at h6
        have HGV := Hid.mk' h6
        have HLD : Hid (∀ j u, (ecells a.x)[j]? = some u → w4.cell? ((⟨ga, 2, none⟩ : Addr).add j) = some u) := fun j u hu => by
          rw [addr_add, HBA.out.cell, show 2 + j = j + 1 + 1 by omega]
          exact hu
        clear h6
        go_wp2_with (first
          | (refine wpList_runH rfl (exec_ldE (cs := a.x) HLD.out rfl rfl) ?_)
          | fail)
        refine Calls.mono HGV.out ?_
        rintro e wq ⟨rfl, hsq, -⟩
        obtain ⟨S', hS'⟩ : ∃ S', S' = gaveS S a.page a.x := ⟨_, rfl⟩
        rw [← hS'] at hsq
        have HSQ := Hid.mk' hsq
        clear hsq hS' hE1 hE2 b1 HGV HLD
        go_wp2_with fail
        apply HJ.out
        exact HSQ.out
      case' inr.inr.inl =>
        subst hB
        have h6 := sa_give HA4.out HPG.out a.x
        rw [hE] at h6
        generalize givI S a.page = GI at *
        have HGV := Hid.mk' h6
        have HLD : Hid (∀ j u, (ecells a.x)[j]? = some u → w4.cell? ((⟨ga, 2, none⟩ : Addr).add j) = some u) := fun j u hu => by
          rw [addr_add, HBA.out.cell, show 2 + j = j + 1 + 1 by omega]
          exact hu
        clear h6
        go_wp2_with (first
          | (refine wpList_runH rfl (exec_ldE (cs := a.x) HLD.out rfl rfl) ?_)
          | fail)
        refine Calls.mono HGV.out ?_
        rintro e wq ⟨rfl, hsq, -⟩
        obtain ⟨S', hS'⟩ : ∃ S', S' = gaveS S a.page a.x := ⟨_, rfl⟩
        rw [← hS'] at hsq
        have HSQ := Hid.mk' hsq
        clear hsq hS' hE b1 HGV HLD
        go_wp2_with fail
        apply HJ.out
        exact HSQ.out
      case' inr.inr.inr =>
        subst hB
        have h6 := sa_give HA4.out HPG.out a.x
        rw [hE] at h6
        generalize givI S a.page = GI at *
        have HGV := Hid.mk' h6
        have HLD : Hid (∀ j u, (ecells a.x)[j]? = some u → w4.cell? ((⟨ga, 2, none⟩ : Addr).add j) = some u) := fun j u hu => by
          rw [addr_add, HBA.out.cell, show 2 + j = j + 1 + 1 by omega]
          exact hu
        clear h6
        go_wp2_with (first
          | (refine wpList_runH rfl (exec_ldE (cs := a.x) HLD.out rfl rfl) ?_)
          | fail)
        refine Calls.mono HGV.out ?_
        rintro e w6 ⟨rfl, hs6, -⟩
        have h7 := sa_pages hs6
        rw [ris_full hno, HA4.out.m.len] at h7
        have HPS := Hid.mk' h7
        obtain ⟨S', hS'⟩ : ∃ S', S' = gaveS S a.page a.x := ⟨_, rfl⟩
        rw [← hS'] at HPS
        clear hs6 h7 hS' hE b1 HGV HLD
        go_wp2_with fail
        refine Calls.mono HPS.out ?_
        rintro e wq ⟨pa7, pc7, rfl, -, hsq, -⟩
        have HSQ := Hid.mk' hsq
        clear hsq HPS
        go_wp2_with fail
        apply HJ.out
        exact HSQ.out
    · have hends : (l : Int) ≤ (i : Int) ∨ (200 : Int) ≤ (i : Int) := by omega
      have HAW := Hid.mk' (awake_any wr)
      have HFIN : Hid (∀ w4, Grow wr w4 → Below w.heap.size w w4) := fun w4 k4 => (HS.out.grow.trans k4).below (Nat.le_refl _) (fun _ _ h => h)
      rcases hends with he | he
      · have hlti : ¬ ((i : Int) < (l : Int)) := by omega
        go_wp2_with fail
        refine Calls.mono HAW.out ?_
        rintro e w4 ⟨rfl, k4⟩
        have HF4 := Hid.mk' (HFIN.out _ k4)
        clear k4
        go_wp2
        go_ret
        exact ⟨rfl, HF4.out⟩
      · have hlt2 : ¬ ((i : Int) < 200) := by omega
        obtain hq | hq : (i : Int) < (l : Int) ∨ ¬ ((i : Int) < (l : Int)) := by omega
        all_goals
          go_wp2_with fail
          refine Calls.mono HAW.out ?_
          rintro e w4 ⟨rfl, k4⟩
          have HF4 := Hid.mk' (HFIN.out _ k4)
          clear k4
          go_wp2
          go_ret
          exact ⟨rfl, HF4.out⟩
set_option maxRecDepth 100000 in
theorem spillOnce_lifted (os : Os) (started : os.Started) (H : Type) (enc : TypeId × Value → H) :
    ReturnsInHanded {} Try.checked os 4 .any (Rows.spillOnceSpec.pre6 enc Try.prog Try.f4 Rows.spillOnceRow.domain false) (Rows.spillOnceSpec.post enc Try.prog Try.f4 false true false false) := by
  refine returnsInHanded_of_change_sized (C := Try.checked) (by kernel_rfl) started (by kernel_rfl) Try.func4
    (ChangeSpec.witness6 (enc := enc) (C := Try.checked) false ⟨#[], #[.int .i64 0, .slice none 0 0], []⟩ 8 (by kernel_rfl) (by kernel_rfl) (by kernel_rfl) (by kernel_rfl)) ?_
  intro W base args ds gs before hval0 hW hcnd hsz0 _
  have hsz : (DataW.weightsEach Try.prog (Try.f4.params.toList ++ Rows.spillOnceSpec.plain.varTypes Try.prog) (ds ++ gs)).all (· ≤ reachBytes) = true := hsz0
  clear hsz0
  have hval : ∀ (j : Nat) t v, Try.f4.params[j]? = some t → args[j]? = some v → Value.okWide Try.prog W .any base t v := hval0
  have hW' := hW
  obtain ⟨p, q, hA0, hV, rfl, hfz, hnd⟩ := hW
  have hA : DataW.TrodAll enc Try.prog W 0 (fun _ => true) true Try.f4.params.toList args.toList ds p := hA0
  rw [Try.params4] at hA hval hsz
  obtain ⟨v0, vs0, d0, ds0, p0, q0, hargs, rfl, rfl, h0, r0⟩ := trodAll_cons hA
  obtain ⟨v1, vs1, d1, ds1, p1, q1, rfl, rfl, rfl, h1, r1⟩ := trodAll_cons r0
  obtain ⟨rfl, rfl, rfl⟩ := trodAll_nil r1
  obtain rfl : args = #[v0, v1] := by cases args; simp_all
  obtain ⟨rfl, rfl⟩ := trodVars_none hV
  obtain ⟨a0, rfl, rfl, rfl, w0⟩ := open_int Try.underlying3 (hval 0 3 v0 rfl rfl) h0
  have lt1 : ∀ x ∈ p1, x.block < W.heap.size := by obtain ⟨m, hm⟩ := h1; exact DataW.trod_lt m _ _ _ hm
  obtain ⟨n1, z1, w1⟩ := view_sacts (hval 1 22 v1 rfl rfl) h1 lt1 hsz (j := 1) rfl rfl
  clear hA0 hval0
  refine (spillOnce_walk a0 v1 n1 z1 W w0 w1).mono fun e W' ⟨he, bel⟩ => ?_
  subst he
  exact ⟨_, rfl, _, _, _, [], _, [], hW', trodAll_mk1 (shut_bool Try.underlying4 _), (trodAll_cons_mk (shut_int Try.underlying3 w0) (trodAll_cons_mk (Below.trod (by kernel_rfl) (by kernel_rfl) (of_decide_eq_true (by kernel_rfl)) h1 bel lt1) trodAll_mk0)), rfl, bel.frame _, fun h => by cases h⟩

theorem spillOnce_holds : Rows.SpillOnceSaid :=
  OpenClaim.holds_of_wide 4 Try.f4 rfl rfl rfl rfl rfl rfl rfl ⟨rfl, rfl, rfl, rfl, rfl⟩ rfl rfl rfl rfl rfl (by kernel_rfl) Try.func4 (by kernel_rfl)
    (of_decide_eq_true (by kernel_rfl)) (by unfold Func.isWrapper; first | (rw [if_pos (by decide +kernel)]; kernel_rfl) | (rw [if_neg (by decide +kernel)]; exact ⟨rfl, rfl⟩))
    (fun os started H enc _ => spillOnce_lifted os started H enc)
#print axioms spillOnce_holds
end Go.Proofs.Ytehajgfjdmhdpaa
