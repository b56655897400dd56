/- TreeKids: the walk. -/
import Derived.Test.YtbidllclcedjbaaDoorTrRKidG
namespace Go.Proofs.YtbidllclcedjbaaDoor
open Go.RowKit

set_option maxRecDepth 100000 in
set_option maxHeartbeats 16000000 in
theorem treeKids_walk (v0 : Value) (z0 : List Nat) (a1 : Int) (D2 : List Nat) (w : World) (hk : Kw w) (hh : Hw w) (h0 : Bs w v0 z0 ∧ z0.length ≤ 140737488351232) (_h1 : (Lit.int .i64 a1).wf = true) (h2 : wf32 D2) :
    Calls Tryd.prog 4 #[v0, .int .i64 a1, dkey D2] w fun e w' => e = .returned (.bool true) ∧ Below w.heap.size w w' := by
  obtain ⟨W, hW⟩ : ∃ W, W = w.alloc (.cells (u8s D2).toArray 26) := ⟨_, rfl⟩
  obtain ⟨g5, hg5⟩ : ∃ g, g = w.heap.size := ⟨_, rfl⟩
  have hgW : Grow w W := by rw [hW]; exact (But.refl _ w).alloc _
  have hb5 : Blk W g5 26 (u8s D2) := by rw [hW]; exact Blk.new hg5.symm
  obtain ⟨M, hM⟩ : ∃ M, M = (u8s D2).toArray := ⟨_, rfl⟩
  rw [show dkey D2 = .agg M by rw [hM]; rfl]
  rw [← hM] at hW
  have HMM := Hid.mk' hM
  have HWW := Hid.mk' hW
  have HG5 := Hid.mk' hg5
  have HGW := Hid.mk' hgW
  have HB5 := Hid.mk' hb5
  have HLE := Hid.mk' (lent_any (h0.1.but hgW (fun _ _ _ h => h)) (by omega))
  obtain ⟨n, hn⟩ : ∃ n, n = z0.length := ⟨_, rfl⟩
  rw [← hn] at HLE
  have HN := Hid.mk' hn
  have hnb : n ≤ 140737488351232 := by omega
  have HV := Hid.mk' h0.1
  have H2 := Hid.mk' h2
  have HAW : Hid (∀ w', Grow w w' → Calls Tryd.prog 9 #[] w' fun e w'' => e = .returned (.bool true) ∧ Grow w' w'') := fun w' k => awaket_any (hk.but k (fun h => h)) (hh.but k (fun h => h))
  obtain ⟨Z, hZ⟩ : ∃ Z, Z = u8s z32 := ⟨_, rfl⟩
  have hz := z32v
  rw [← hZ] at hz
  have HZL : Hid (Z.length = 32) := by show _ = _; rw [hZ]; rfl
  have HZE := Hid.mk' hZ
  obtain ⟨va, vc, hve⟩ : ∃ va vc, v0 = .slice va n vc := by
    obtain ⟨a, c, e, _⟩ := h0.1.gen
    exact ⟨a, c, by rw [hn]; exact e⟩
  subst hve
  clear hk hh h0 _h1 h2 hW hM hg5 hgW hb5 hn hZ
  go_enter Tryd.func4, Tryd.ntmps4
  go_upto_region 1 with fail
  rw [← HWW.out, ← HG5.out]
  go_wp2_with fail
  refine Calls.mono HLE.out ?_
  rintro e w1 ⟨g, rfl, hgg, ho, hbl⟩
  have hg1 : Grow W w1 := But.of hbl
  have HG1 := Hid.mk' (HGW.out.trans hg1)
  have HOW : Hid (∀ w', Grow w1 w' → Ow w' W.heap.size (.slice (some ⟨g, 0, none⟩) (n + 3) (n + 3)) (z0 ++ [201, 202, 203])) := fun w' k => ho.but k (fun _ _ _ h => h)
  have HIN : Hid (∀ w', Grow w1 w' → Bs w' (.slice (some ⟨g, 0, none⟩) n (n + 3)) z0) := fun w' k => by
    have := (HOW.out w' k).prefix (c' := n + 3) (by have := HN.out; omega)
    rw [← HN.out] at this
    exact this
  have HVB : Hid (∀ w', Grow w1 w' → Bs w' (.slice va n vc) z0) := fun w' k => HV.out.but (HG1.out.trans k) (fun _ _ _ h => h)
  have HKE : Hid (∀ w', Grow w1 w' → Calls Tryd.prog 18 #[.slice (some ⟨g, 0, none⟩) n (n + 3), .slice va n vc] w' fun e w'' => e = .returned (.bool true) ∧ Grow w' w'') := fun w' k => by
    have := kept_true (w := w') (base := W.heap.size) (g := g) (HVB.out w' k) (by rw [← HN.out]; exact HOW.out w' k)
    rw [← HN.out] at this
    refine this.mono ?_
    rintro e w'' ⟨rfl, d, rfl⟩
    exact ⟨rfl, (But.refl _ w').drewN⟩
  have HB51 : Hid (∀ w', Grow w1 w' → Blk w' g5 26 (u8s D2)) := fun w' k => (HB5.out.but hg1 (fun h => h)).but k (fun h => h)
  have HRF := Hid.mk' (rfault_tr (HVB.out w1 (But.refl _ _)) a1)
  obtain ⟨f, hf⟩ : ∃ f, f = rfK z0 a1 := ⟨_, rfl⟩
  rw [← hf] at HRF
  have HF := Hid.mk' hf
  have hff : (f != f) = false := by simp
  clear hgg ho hbl hg1 HLE hf HB5
  go_wp2_with fail
  refine Calls.mono HRF.out ?_
  rintro e w' ⟨rfl, hw⟩
  have h3 := hw.symm
  subst h3
  clear hw HRF
  by_cases hf0 : f = 0
  · have hz0 := rfK_zero (b := z0) (i := a1) (by rw [← HF.out]; exact hf0)
    obtain ⟨j, hj⟩ : ∃ j : Nat, a1 = (j : Int) := ⟨a1.toNat, by omega⟩
    have hj8 : j < 8 := by omega
    have hn256 : n = 256 := by rw [HN.out]; exact hz0.1
    have HZ0 : Hid (z0.length = 256) := hz0.1
    clear hz0
    subst hj hf0 hn256
    obtain ⟨D, hD⟩ : ∃ D, D = kidL z0 j := ⟨_, rfl⟩
    have HDL : Hid (D.length = 32) := by show _ = _; rw [hD]; exact kidL_len (by have := HZ0.out; omega)
    have HD := Hid.mk' hD
    have HKD := Hid.mk' (tkid_any (HIN.out w1 (But.refl _ _)) (i := j) HZ0.out hj8)
    obtain ⟨DN, hDN⟩ : ∃ DN, DN = (u8s D).toArray := ⟨_, rfl⟩
    rw [← hD, show dkey D = .agg DN by rw [hDN]; rfl] at HKD
    have HDN := Hid.mk' hDN
    clear hD hDN
    go_wp2_with fail
    refine Calls.mono HKD.out ?_
    rintro e w2 ⟨rfl, hg2⟩
    obtain ⟨g9, hg9⟩ : ∃ g, g = w2.heap.size := ⟨_, rfl⟩
    have HZ9 : Hid (Blk (w2.alloc (.cells Z.toArray 26)) w2.heap.size 26 Z) := Blk.new rfl
    have HG2 := Hid.mk' hg2
    clear hg2 HKD
    go_upto_region 4 with (first
      | (refine wpList_store_u8s i32 rfl _ _ rfl w2.heap.size D HDL.out rfl (by rw [← HDN.out]; rfl) Z HZL.out HZ9.out ?_; intro w3 hb3 hbut3)
      | fail)
    have hg3 : Grow w2 w3 := ((But.refl _ w2).alloc _).then hbut3 (fun i hi e => by omega)
    rw [← hg9] at hb3 ⊢
    have HB3 := Hid.mk' hb3
    have HG3 := Hid.mk' (HG2.out.trans hg3)
    have HB53 := Hid.mk' (HB51.out w3 (HG2.out.trans hg3))
    have HSK := Hid.mk' (tset_any (HIN.out w3 (HG2.out.trans hg3)) (i := j) HZ0.out hj8 H2.out)
    rw [show dkey D2 = .agg M by rw [HMM.out]; rfl] at HSK
    clear hb3 hbut3 hg3 hg9 HZ9
    go_wp2_with (first
      | (refine wpList_load_u8s ukt i32 rfl _ rfl g5 D2 H2.out.1 rfl HB53.out ?_)
      | fail)
    rw [← HMM.out]
    refine Calls.mono HSK.out ?_
    rintro e w4 ⟨ov, rfl, ho4, hg4⟩
    have hol : (setK z0 j D2).length = 256 := by rw [setK_len (by have := HZ0.out; omega) H2.out.1]; exact HZ0.out
    obtain ⟨oa, oc, hoe⟩ : ∃ oa oc, ov = .slice oa 256 oc := by
      obtain ⟨a, c, e, _⟩ := ho4.bs.gen
      rw [hol] at e
      exact ⟨a, c, e⟩
    subst hoe
    have HOL := Hid.mk' hol
    have HOB : Hid (∀ w', Grow w4 w' → Bs w' (.slice oa 256 oc) (setK z0 j D2)) := fun w' k => ho4.bs.but k (fun _ _ _ h => h)
    have HG4 := Hid.mk' (HG3.out.trans hg4)
    have HB4 := Hid.mk' (HB3.out.but hg4 (fun h => h))
    clear ho4 hg4 hol HSK HB53 HB3
    go_wp2_with fail
    refine Calls.mono (HKE.out w4 HG4.out) ?_
    rintro e w5 ⟨rfl, hg5'⟩
    have HG5' := Hid.mk' hg5'
    have HB55 := Hid.mk' (HB4.out.but hg5' (fun h => h))
    have HRK : Hid (∀ w', Grow w5 w' → Calls Tryd.prog 19 #[.slice va 256 vc, .int .i64 (j : Int)] w' fun e w'' => e = .returned (.agg DN) ∧ Grow w' w'') := fun w' k => by
      have := rkid_any (HVB.out w' ((HG4.out.trans hg5').trans k)) (i := j) HZ0.out hj8
      rw [← HD.out, show dkey D = .agg DN by rw [HDN.out]; rfl] at this
      exact this
    have HEQ1 : Hid (∀ w', (Op.equalIn 10000 26 (.agg DN) (.agg DN)).run Tryd.prog w' = .ok true w') := fun w' => by
      rw [HDN.out]; exact equal_same D HDL.out w'
    clear hg5' HB4
    go_upto_region 9 with fail
    refine region_chain [] [0, 1, 2, 3, 4, 5, 6, 7, 8, 9] (Grow w5) (Grow w5) (by kernel_rfl) (by kernel_rfl) (fun _ _ h k => h.trans k) (fun _ h => h) ((But.refl _ w5).drew) ?_
    intro ι hne X hX
    refine still_val rfl (.agg DN) rfl (fun z => by rw [HDN.out]; exact run_load_arr ukt i32 (HB55.out.but (hX z) (fun h => h)).cells0 HDL.out rfl rfl) ?_
    intro K hK; go_simp; refine hK _ ?_; clear hK K
    iterate 2 (refine still_step rfl (fun K hK => ?_); go_simp; refine hK _ ?_; clear hK K)
    refine still_call rfl (.agg DN) 19 #[.slice va 256 vc, .int .i64 (j : Int)] rfl (fun _ => by kernel_rfl) (fun z => HRK.out (X z) (hX z)) ?_
    intro K hK; go_simp; refine hK _ ?_; clear hK K
    refine still_val rfl (.bool false) rfl (fun z => exec_bin3 rfl rfl rfl (by kernel_rfl) (HEQ1.out (X z)) rfl) ?_
    intro K hK; go_simp; refine hK _ ?_; clear hK K
    iterate 5 (refine still_step rfl (fun K hK => ?_); go_simp; refine hK _ ?_; clear hK K)
    refine still_nil ?_
    clear hX hne
    intro w6 hw6
    have HG6 := Hid.mk' (HG5'.out.trans hw6)
    clear hw6 HB55 HRK HEQ1
    go_upto_region 12 with fail
    go_loopw [13] (fun iv wr => ∃ k : Nat, k ≤ 8 ∧ iv = .int .i64 k ∧ Grow w4 wr) (fun iv _ => 8 - (intOf iv).toNat)
    case atStart => exact ⟨0, by omega, rfl, HG6.out⟩
    case round =>
      obtain ⟨k, hk, rfl, hgr⟩ := hrel
      have HGR := Hid.mk' hgr
      by_cases hlt : k < 8
      · have HO := Hid.mk' (HOB.out wr hgr)
        obtain ⟨E0, hE0⟩ : ∃ E0, E0 = kidL z0 k := ⟨_, rfl⟩
        have HRK := Hid.mk' (rkid_any (HVB.out wr (HG4.out.trans hgr)) (i := k) HZ0.out hlt)
        rw [← hE0] at HRK
        have HE0 := Hid.mk' hE0
        have HEL0 : Hid (E0.length = 32) := by show _ = _; rw [hE0]; exact kidL_len (by have := HZ0.out; omega)
        obtain ⟨EN0, hEN0⟩ : ∃ EN, EN = (u8s E0).toArray := ⟨_, rfl⟩
        rw [show dkey E0 = .agg EN0 by rw [hEN0]; rfl] at HRK
        have HEN0 := Hid.mk' hEN0
        have HGR5 := Hid.mk' (HB51.out wr (HG4.out.trans hgr))
        clear hE0 hEN0 hgr
        go_wp2_with fail
        refine Calls.mono HRK.out ?_
        rintro e w7 ⟨rfl, hg7⟩
        obtain ⟨g14, hg14⟩ : ∃ g, g = w7.heap.size := ⟨_, rfl⟩
        have HZ14 : Hid (Blk (w7.alloc (.cells Z.toArray 26)) w7.heap.size 26 Z) := Blk.new rfl
        have HG7 := Hid.mk' hg7
        clear hg7 HRK
        go_upto_region 15 with (first
          | (refine wpList_store_u8s i32 rfl _ _ rfl w7.heap.size E0 HEL0.out rfl (by rw [← HEN0.out]; rfl) Z HZL.out HZ14.out ?_; intro w8 hb8 hbut8)
          | fail)
        have hg8 : Grow w7 w8 := ((But.refl _ w7).alloc _).then hbut8 (fun i hi e => by omega)
        have hgw : wr.heap.size ≤ g14 := by have := HG7.out.size; omega
        rw [← hg14] at hb8 ⊢
        have HB8 := Hid.mk' hb8
        have HG8 := Hid.mk' (HG7.out.trans hg8)
        have HB58 := Hid.mk' (HGR5.out.but (HG7.out.trans hg8) (fun h => h))
        have HGW8 := Hid.mk' hgw
        clear hb8 hbut8 hg8 hg14 HZ14 hgw
        by_cases hkj : k = j
        · subst hkj
          have hkk : ((k : Int) == (k : Int)) = true := by simp
          go_upto_region 17 with (first
            | (refine wpList_load_u8s ukt i32 rfl _ rfl g5 D2 H2.out.1 rfl HB58.out ?_)
            | (refine wpList_store_u8s i32 rfl _ _ rfl g14 D2 H2.out.1 rfl rfl (u8s E0) (by simp [u8s, HEL0.out]) HB8.out ?_; intro w9 hb9 hbut9)
            | fail)
          have HBX := Hid.mk' hb9
          have HGX : Hid (Grow wr w9) := HG8.out.then hbut9 (fun i hi e => by have := HGW8.out; omega)
          have HWE : Hid (D2 = kidL (setK z0 k D2) k) := (kid_set (by have := HZ0.out; omega) H2.out.1).symm
          clear hb9 hbut9
          -- the other digest
          have HTK := Hid.mk' (tkid_any (HO.out.but HGX.out (fun _ _ _ h => h)) (i := k) HOL.out hlt)
          obtain ⟨E, hE⟩ : ∃ E, E = kidL (setK z0 k D2) k := ⟨_, rfl⟩
          rw [← hE] at HTK
          have HE := Hid.mk' hE
          have HEL : Hid (E.length = 32) := by show _ = _; rw [hE]; exact kidL_len (by have := HOL.out; omega)
          obtain ⟨EN, hEN⟩ : ∃ EN, EN = (u8s E).toArray := ⟨_, rfl⟩
          rw [show dkey E = .agg EN by rw [hEN]; rfl] at HTK
          have HENN := Hid.mk' hEN
          have HEQ : Hid (∀ w', (Op.equalIn 10000 26 (.agg EN) (.agg EN)).run Tryd.prog w' = .ok true w') := fun w' => by
            rw [hEN]; exact equal_same E HEL.out w'
          clear hE hEN
          go_wp2_with fail
          refine Calls.mono HTK.out ?_
          rintro e wa ⟨rfl, hga⟩
          obtain ⟨g15, hg15⟩ : ∃ g, g = wa.heap.size := ⟨_, rfl⟩
          have HZ15 : Hid (Blk (wa.alloc (.cells Z.toArray 26)) wa.heap.size 26 Z) := Blk.new rfl
          have HBA := Hid.mk' (HBX.out.but hga (fun h => h))
          have HGA := Hid.mk' hga
          clear hga HTK
          go_upto_region 18 with (first
            | (refine wpList_store_u8s i32 rfl _ _ rfl wa.heap.size E HEL.out rfl (by rw [← HENN.out]; rfl) Z HZL.out HZ15.out ?_; intro wb hbb hbutb)
            | fail)
          have hgb : Grow wa wb := ((But.refl _ wa).alloc _).then hbutb (fun i hi e => by omega)
          rw [← hg15] at hbb ⊢
          have HBB := Hid.mk' hbb
          have HBW := Hid.mk' (HBA.out.but hgb (fun h => h))
          have HGB := Hid.mk' (HGX.out.trans (HGA.out.trans hgb))
          rw [HWE.out] at HBW
          clear hbb hbutb hgb hg15 HZ15
          rw [← HE.out] at HBW
          go_wp2_with (first
            | (refine wpList_runG rfl (run_load_arr ukt i32 HBB.out.cells0 HEL.out rfl rfl) ?_; rw [← HENN.out])
            | (refine wpList_runG rfl (run_load_arr ukt i32 HBW.out.cells0 HEL.out rfl rfl) ?_; rw [← HENN.out])
            | (refine wpList_runG rfl (exec_bin3 (c := false) rfl rfl rfl (by kernel_rfl) (HEQ.out _) rfl) ?_)
            | fail)
          exact ⟨⟨k + 1, by omega, by go_num, HGR.out.trans HGB.out⟩, by simp [intOf]; omega⟩
        · have hkk : ((k : Int) == (j : Int)) = false := by
            have : (k : Int) ≠ (j : Int) := by omega
            simpa using this
          go_upto_region 17 with fail
          have HBX := HB8
          have HGX := HG8
          have HWE : Hid (E0 = kidL (setK z0 j D2) k) := by
            show _ = _
            rw [HE0.out]
            exact (kid_other (by have := HZ0.out; omega) H2.out.1 hkj).symm
          -- the other digest
          have HTK := Hid.mk' (tkid_any (HO.out.but HGX.out (fun _ _ _ h => h)) (i := k) HOL.out hlt)
          obtain ⟨E, hE⟩ : ∃ E, E = kidL (setK z0 j D2) k := ⟨_, rfl⟩
          rw [← hE] at HTK
          have HE := Hid.mk' hE
          have HEL : Hid (E.length = 32) := by show _ = _; rw [hE]; exact kidL_len (by have := HOL.out; omega)
          obtain ⟨EN, hEN⟩ : ∃ EN, EN = (u8s E).toArray := ⟨_, rfl⟩
          rw [show dkey E = .agg EN by rw [hEN]; rfl] at HTK
          have HENN := Hid.mk' hEN
          have HEQ : Hid (∀ w', (Op.equalIn 10000 26 (.agg EN) (.agg EN)).run Tryd.prog w' = .ok true w') := fun w' => by
            rw [hEN]; exact equal_same E HEL.out w'
          clear hE hEN
          go_wp2_with fail
          refine Calls.mono HTK.out ?_
          rintro e wa ⟨rfl, hga⟩
          obtain ⟨g15, hg15⟩ : ∃ g, g = wa.heap.size := ⟨_, rfl⟩
          have HZ15 : Hid (Blk (wa.alloc (.cells Z.toArray 26)) wa.heap.size 26 Z) := Blk.new rfl
          have HBA := Hid.mk' (HBX.out.but hga (fun h => h))
          have HGA := Hid.mk' hga
          clear hga HTK
          go_upto_region 18 with (first
            | (refine wpList_store_u8s i32 rfl _ _ rfl wa.heap.size E HEL.out rfl (by rw [← HENN.out]; rfl) Z HZL.out HZ15.out ?_; intro wb hbb hbutb)
            | fail)
          have hgb : Grow wa wb := ((But.refl _ wa).alloc _).then hbutb (fun i hi e => by omega)
          rw [← hg15] at hbb ⊢
          have HBB := Hid.mk' hbb
          have HBW := Hid.mk' (HBA.out.but hgb (fun h => h))
          have HGB := Hid.mk' (HGX.out.trans (HGA.out.trans hgb))
          rw [HWE.out] at HBW
          clear hbb hbutb hgb hg15 HZ15
          rw [← HE.out] at HBW
          go_wp2_with (first
            | (refine wpList_runG rfl (run_load_arr ukt i32 HBB.out.cells0 HEL.out rfl rfl) ?_; rw [← HENN.out])
            | (refine wpList_runG rfl (run_load_arr ukt i32 HBW.out.cells0 HEL.out rfl rfl) ?_; rw [← HENN.out])
            | (refine wpList_runG rfl (exec_bin3 (c := false) rfl rfl rfl (by kernel_rfl) (HEQ.out _) rfl) ?_)
            | fail)
          exact ⟨⟨k + 1, by omega, by go_num, HGR.out.trans HGB.out⟩, by simp [intOf]; omega⟩
      · have hk8 : k = 8 := by omega
        subst hk8
        clear hgr
        go_wp2_with fail
        refine Calls.mono (HAW.out wr (HG1.out.trans (HG4.out.trans HGR.out))) ?_
        rintro e w7 ⟨rfl, hg7⟩
        have HG7 := Hid.mk' ((HG1.out.trans (HG4.out.trans HGR.out)).trans hg7)
        clear hg7
        go_wp2
        go_ret
        exact ⟨rfl, HG7.out.below (Nat.le_refl _) (fun _ _ h => h)⟩
  · have HKD := Hid.mk' (tkid_no (HIN.out w1 (But.refl _ _)) a1 (by rw [← HF.out]; exact hf0))
    obtain ⟨DN, hDN⟩ : ∃ DN, DN = (u8s z32).toArray := ⟨_, rfl⟩
    rw [← HF.out, show dkey z32 = .agg DN by rw [hDN]; rfl] at HKD
    have HDN := Hid.mk' hDN
    have HF0 := Hid.mk' hf0
    have hfn : (f != 0) = true := by simpa using hf0
    clear hDN hf0
    go_wp2_with fail
    refine Calls.mono HKD.out ?_
    rintro e w2 ⟨rfl, hg2⟩
    obtain ⟨g9, hg9⟩ : ∃ g, g = w2.heap.size := ⟨_, rfl⟩
    have HZ9 : Hid (Blk (w2.alloc (.cells Z.toArray 26)) w2.heap.size 26 Z) := Blk.new rfl
    have HG2 := Hid.mk' hg2
    clear hg2 HKD
    go_upto_region 4 with (first
      | (refine wpList_store_u8s i32 rfl _ _ rfl w2.heap.size z32 rfl rfl (by rw [← HDN.out]; rfl) Z HZL.out HZ9.out ?_; intro w3 hb3 hbut3)
      | fail)
    have hg3 : Grow w2 w3 := ((But.refl _ w2).alloc _).then hbut3 (fun i hi e => by omega)
    rw [← hg9] at hb3 ⊢
    have HB3 := Hid.mk' hb3
    have HG3 := Hid.mk' (HG2.out.trans hg3)
    have HB53 := Hid.mk' (HB51.out w3 (HG2.out.trans hg3))
    have HSK := Hid.mk' (tset_no (D := D2) (HIN.out w3 (HG2.out.trans hg3)) a1 (by rw [← HF.out]; exact HF0.out))
    rw [← HF.out, show dkey D2 = .agg M by rw [HMM.out]; rfl] at HSK
    clear hb3 hbut3 hg3 hg9 HZ9
    go_wp2_with (first
      | (refine wpList_load_u8s ukt i32 rfl _ rfl g5 D2 H2.out.1 rfl HB53.out ?_)
      | fail)
    rw [← HMM.out]
    refine Calls.mono HSK.out ?_
    rintro e w4 ⟨rfl, hg4⟩
    have HG4 := Hid.mk' (HG3.out.trans hg4)
    have HB4 := Hid.mk' (HB3.out.but hg4 (fun h => h))
    clear hg4 HSK HB53 HB3
    go_wp2_with fail
    refine Calls.mono (HKE.out w4 HG4.out) ?_
    rintro e w5 ⟨rfl, hg5'⟩
    have HG5' := Hid.mk' (HG4.out.trans hg5')
    have HB55 := Hid.mk' (HB4.out.but hg5' (fun h => h))
    have HBZ : Hid (∀ w' : World, (Instr.build 26 #[]).run Tryd.prog w' = .ok (.agg DN) w') := fun w' => by rw [HDN.out]; exact bz32 w'
    have HEQ1 : Hid (∀ w', (Op.equalIn 10000 26 (.agg DN) (.agg DN)).run Tryd.prog w' = .ok true w') := fun w' => by
      rw [HDN.out]; exact equal_same z32 rfl w'
    clear hg5' HB4
    go_wp2_with (first
      | (refine wpList_load_u8s ukt i32 rfl _ rfl g9 z32 rfl rfl HB55.out ?_; rw [← HDN.out])
      | (refine wpList_build_run rfl _ [] rfl [] rfl _ (HBZ.out _) ?_)
      | (refine wpList_runH rfl (exec_eqT rfl rfl rfl (by kernel_rfl) (HEQ1.out _)) ?_)
      | fail)
    refine Calls.mono (HAW.out w5 (HG1.out.trans HG5'.out)) ?_
    rintro e w6 ⟨rfl, hg6⟩
    have HG6 := Hid.mk' ((HG1.out.trans HG5'.out).trans hg6)
    clear hg6
    go_wp2
    go_ret
    exact ⟨rfl, HG6.out.below (Nat.le_refl _) (fun _ _ h => h)⟩
end Go.Proofs.YtbidllclcedjbaaDoor
