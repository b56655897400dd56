/- frames: Victim. -/
import Derived.Test.YtmlklmhochihbaaFrNew
namespace Go.Proofs.Ytmlklmhochihbaa
open Go.RowKit Go.Maps

set_option maxRecDepth 100000 in
set_option maxHeartbeats 1000000 in
theorem victim_nil (w : World) : Calls Try.prog 22 #[.pointer none] w fun e w' => e = .returned (.tuple #[.int .i64 0, .int .i64 5]) ∧ Grow w w' := by
  go_enter Try.func22, Try.ntmps22
  go_upto_region 1 with fail
  refine region_chain [] [0, 1, 2, 3, 4, 5, 6, 7, 8, 9, 10, 11, 12, 13] (Grow w) (Grow w) (by kernel_rfl) (by kernel_rfl) (fun _ _ h k => h.trans k) (fun _ h => h) ((But.refl _ w).drew) ?_
  intro ι hne X hX
  iterate 14 (refine still_step rfl (fun K hK => ?_); go_simp; refine hK _ ?_; clear hK K)
  refine still_nil ?_
  clear hX hne
  intro w2 hw2
  have HW2 := Hid.mk' hw2
  clear hw2
  go_wp2
  exact bodyPost_ret (results_tmp2 rfl _ _ _) rfl ⟨rfl, HW2.out⟩
section
variable {w w' : World} {own own' : Owner} {gt gr gf gp gh gm : Nat} {fb : Int → Nat} {PL : List (Int × Int)} {s s' : St} {R : Nat → Prop}
theorem St.loose_le (h : Sok s) : s.loose.length ≤ 1024 := by
  have h1 : s.loose.length ≤ s.keys.length := List.length_filter_le _ _
  have h2 : s.keys.length = s.fr.length := by unfold St.keys; rw [List.length_map]
  have := h.le
  have := h.m2
  omega
set_option maxRecDepth 100000 in
set_option maxHeartbeats 4000000 in
theorem victim_any (h : Ft w own gt s) : Calls Try.prog 22 #[ptr gt] w fun e w' => e = .returned (.tuple #[.int .i64 s.vic, .int .i64 s.vicc]) ∧ Grow w w' := by
  obtain ⟨gr, gf, gp, gh, gm, fb, PL, h⟩ := h
  have HH := Hid.mk' h
  have HLEN : Hid (∀ w', Grow w w' → ∀ ty, (Builtin.len_ #[82] ty #[.map (some gf)]).run Try.prog w' = .ok (.int .i64 (s.fr.length : Int)) w') := fun w' k ty => (h.grow k).lenRun ty
  have HBK := Hid.mk' h.blk
  have HLL := Hid.mk' (St.loose_le h.ok)
  obtain ⟨n, hnn⟩ : ∃ n, n = s.fr.length := ⟨_, rfl⟩
  obtain ⟨m, hmm⟩ : ∃ m, m = s.most := ⟨_, rfl⟩
  have HV : Hid (s.vicc = (if n < m then 5 else if s.loose = [] then 12 else 0) ∧ s.vic = (if n < m then 0 else if s.loose = [] then 0 else coldest s.heat s.loose)) := by rw [hnn, hmm]; exact ⟨rfl, rfl⟩
  have hm2 : (m : Int) ≤ 1024 := by have := h.ok.m2; omega
  have hn2 : (n : Int) ≤ 1024 := by have := h.ok.le; omega
  rw [← hnn] at HLEN
  rw [← hmm] at HBK
  generalize s.left = L at HBK
  clear h hnn hmm
  by_cases hlt : n < m
  · have hlti : (n : Int) < (m : Int) := by omega
    have HV2 : Hid (s.vicc = 5 ∧ s.vic = 0) := by have := HV.out; rw [if_pos hlt, if_pos hlt] at this; exact this
    rw [HV2.out.1, HV2.out.2]
    clear hlt
    go_enter Try.func22, Try.ntmps22
    go_upto_region 1 with fail
    refine region_chain [] [0, 1, 2, 3, 4, 5, 6, 7, 8, 9, 10, 11, 12, 13] (Grow w) (Grow w) (by kernel_rfl) (by kernel_rfl) (fun _ _ h k => h.trans k) (fun _ h => h) ((But.refl _ w).drew) ?_
    intro ι hne X hX
    have d0 : ∀ x, (X x).cell? ⟨gt, 0, none⟩ = some (.int .i64 (m : Int)) := fun x => (HBK.out.but (hX x) (fun h => h)).cell 0
    have d3 : ∀ x, (X x).cell? ⟨gt, 3, none⟩ = some (.map (some gf)) := fun x => (HBK.out.but (hX x) (fun h => h)).cell 3
    iterate 7 (refine still_step rfl (fun K hK => ?_); go_simp; refine hK _ ?_; clear hK K)
    refine still_val rfl (.int .i64 (n : Int)) rfl (fun z => exec_lenM rfl rfl (HLEN.out _ (hX z) _)) ?_
    intro K hK; go_simp; refine hK _ ?_; clear hK K
    iterate 6 (refine still_step rfl (fun K hK => ?_); go_simp; refine hK _ ?_; clear hK K)
    refine still_nil ?_
    clear hX hne d0 d3
    intro w2 hw2
    have HW2 := Hid.mk' hw2
    clear hw2
    go_wp2
    exact bodyPost_ret (results_tmp2 rfl _ _ _) rfl ⟨rfl, HW2.out⟩
  · have hlti : ¬ ((n : Int) < (m : Int)) := by omega
    have HV2 : Hid (s.vicc = (if s.loose = [] then 12 else 0) ∧ s.vic = (if s.loose = [] then 0 else coldest s.heat s.loose)) := by have := HV.out; rw [if_neg hlt, if_neg hlt] at this; exact this
    clear hlt HV
    go_enter Try.func22, Try.ntmps22
    go_upto_region 1 with fail
    refine region_chain [] [0, 1, 2, 3, 4, 5, 6, 7, 8, 9, 10, 11, 12, 13] (Grow w) (Grow w) (by kernel_rfl) (by kernel_rfl) (fun _ _ h k => h.trans k) (fun _ h => h) ((But.refl _ w).drew) ?_
    intro ι hne X hX
    have d0 : ∀ x, (X x).cell? ⟨gt, 0, none⟩ = some (.int .i64 (m : Int)) := fun x => (HBK.out.but (hX x) (fun h => h)).cell 0
    have d3 : ∀ x, (X x).cell? ⟨gt, 3, none⟩ = some (.map (some gf)) := fun x => (HBK.out.but (hX x) (fun h => h)).cell 3
    iterate 7 (refine still_step rfl (fun K hK => ?_); go_simp; refine hK _ ?_; clear hK K)
    refine still_val rfl (.int .i64 (n : Int)) rfl (fun z => exec_lenM rfl rfl (HLEN.out _ (hX z) _)) ?_
    intro K hK; go_simp; refine hK _ ?_; clear hK K
    iterate 6 (refine still_step rfl (fun K hK => ?_); go_simp; refine hK _ ?_; clear hK K)
    refine still_nil ?_
    clear hX hne d0 d3
    intro w1 hw1
    have HG1 := Hid.mk' hw1
    have h1 := HH.out.grow hw1
    obtain ⟨w2, hrg, hg2, hsz2, hR2⟩ := h1.frm.range (t := 82) (et := 86) Try.underlying82 h1.kd
    obtain ⟨r, hr⟩ : ∃ r, r = w1.heap.size := ⟨_, rfl⟩
    rw [← hr] at hrg hR2
    have HRG := Hid.mk' hrg
    have HRW : Hid (w.heap.size ≤ r) := by rw [hr]; exact hw1.size
    have HR2 := Hid.mk' hR2
    have HG2 := Hid.mk' (hw1.trans hg2)
    have c3 : w1.cell? ⟨gt, 3, none⟩ = some (.map (some gf)) := (HBK.out.but hw1 (fun h => h)).cell 3
    clear hw1 h1 hrg hg2 hsz2 hR2 hr HLEN hlti
    go_wp2_with (first
      | (refine wpList_runH rfl (exec_range rfl rfl HRG.out) ?_)
      | fail)
    clear c3
    refine act_down (fun K hK => ?_)
    go_simp
    refine hK _ ?_
    clear hK K
    go_loopw [4, 5, 6] (fun v4 _ _ wr => ∃ (u4 : Value) (lf A : List Int), u4 = v4 ∧ Ranged 3 wr r gf iv (fun k => ptr (fb k)) s.keys lf ∧ wr.ownsRow 0 3 1 u4 A.length (numv A) ∧ (∀ k, u4.ownBlock = some k → r < k) ∧ (A ++ lf.filter (fun k => !s.pinned k)).Perm s.loose ∧ Grow w wr) (fun _ _ _ wr => leftN wr r gf)
    case atStart => exact ⟨_, s.keys, [], rfl, HR2.out, World.ownsRow_nil _ _ _ _, (fun k hk => by cases hk), List.Perm.refl _, HG2.out⟩
    case round =>
      clear HR2 HG2 HRG HG1
      obtain ⟨v4, lf, A, rfl, hR, hA, hAk, hP, hG⟩ := hrel
      have HAL : Hid (A.length ≤ 1024) := by
        have := hP.length_eq
        rw [List.length_append] at this
        have := HLL.out
        show A.length ≤ 1024
        omega
      have HG := Hid.mk' hG
      rcases hR.next 0 with ⟨rfl, hnx⟩ | ⟨x, lf', w3, hx, hperm, hnx, hb3, hsz3, hR3, hent⟩
      · have HNX := Hid.mk' hnx
        rw [List.filter_nil, List.append_nil] at hP
        have hFr := HH.out.grow hG
        have c5 : wr.cell? ⟨gt, 5, none⟩ = some (ptr gh) := hFr.blk.cell 5
        have hi : ∀ x ∈ A, i64 x := fun x hx => by
          have h1 := hP.mem_iff.1 hx
          unfold St.loose St.keys at h1
          obtain ⟨e, he, rfl⟩ := List.mem_map.1 (List.mem_filter.1 h1).1
          exact (HH.out.ok.ik e he).1
        have hN : Nums wr v4 A := Nums.ofRow hA hi (by have := HAL.out; omega)
        have HO := Hid.mk' (ofs_any hFr.ht)
        obtain ⟨va, vn, vk, rfl⟩ : ∃ a n k, v4 = .slice a n k := by obtain ⟨-, ⟨e, -⟩ | ⟨g', c', cu, e, -⟩⟩ := hA <;> exact ⟨_, _, _, e⟩
        by_cases h0 : A = []
        · have hl : s.loose = [] := by subst h0; exact (List.Perm.nil_eq hP).symm
          rw [if_pos hl, if_pos hl] at HV2
          have HC := Hid.mk' (coldest_none wr (ptr gh) (.slice va vn vk) (by
            obtain ⟨ao, cap, e⟩ := hN.len
            rw [h0] at e
            exact ⟨ao, cap, e⟩))
          clear hnx hR hA hAk hP hG hFr hi hN h0 hl
          go_wp2_with (first
            | (refine wpList_runH rfl (exec_next rfl rfl rfl HNX.out) ?_)
            | fail)
          refine Calls.mono HC.out ?_
          rintro e w4 ⟨rfl, hw⟩
          have h4 := hw.symm
          subst h4
          clear hw
          go_wp2
          exact bodyPost_ret (results_tmp2 rfl _ _ _) rfl ⟨by rw [HV2.out.1, HV2.out.2]; rfl, HG.out⟩
        · have hl : ¬ (s.loose = []) := fun e => h0 (by rw [e] at hP; exact hP.eq_nil)
          rw [if_neg hl, if_neg hl] at HV2
          rw [← coldest_perm s.heat hP] at HV2
          have HC := Hid.mk' (coldest_some HO.out hN (by cases A with | nil => exact absurd rfl h0 | cons a l => simp))
          have HHE : Hid (hof 16 s.now (look s.hl) = s.heat) := rfl
          rw [HHE.out] at HC
          generalize coldest s.heat A = q at *
          clear hnx hR hA hAk hP hG hFr hi hN h0 hl HO HHE
          go_wp2_with (first
            | (refine wpList_runH rfl (exec_next rfl rfl rfl HNX.out) ?_)
            | fail)
          refine Calls.mono HC.out ?_
          rintro e w4 ⟨rfl, hg4⟩
          have HG4 := Hid.mk' (HG.out.trans hg4)
          clear hg4
          go_wp2
          exact bodyPost_ret (results_tmp2 rfl _ _ _) rfl ⟨by rw [HV2.out.1, HV2.out.2]; rfl, HG4.out⟩
      · have HNX := Hid.mk' hnx
        have HENT := Hid.mk' hent
        have hG3 : Grow w w3 := hG.then hb3 (fun i hi e => by have := HRW.out; omega)
        have HG3 := Hid.mk' hG3
        have HR3 := Hid.mk' hR3
        have HLT : Hid (leftN w3 r gf < leftN wr r gf) := by
          show _ < _
          rw [hR3.left, hR.left, hperm.length_eq]
          simp
        have HLE : Hid (∀ W, Grow w3 W → Ranged 3 W r gf iv (fun k => ptr (fb k)) s.keys lf' ∧ leftN W r gf < leftN wr r gf) := fun W k => by
          have h1 := HR3.out.grow k
          refine ⟨h1, ?_⟩
          have h2 := HLT.out
          rw [HR3.out.left] at h2
          rw [h1.left]; exact h2
        have hFr := HH.out.grow hG3
        unfold St.keys at hx
        obtain ⟨e0, he0, rfl⟩ := List.mem_map.1 hx
        obtain ⟨v, hb0, -⟩ := hFr.each e0 he0
        have hpn := hFr.pinned e0.1
        obtain ⟨N, hN⟩ : ∃ N : Int, N = (cnt PL e0.1 : Int) := ⟨_, rfl⟩
        have c2 : w3.cell? ⟨fb e0.1, 2, none⟩ = some (.int .i64 N) := by rw [hN]; exact hb0.cell 2
        have hP2 : (A ++ (e0.1 :: lf').filter (fun k => !s.pinned k)).Perm s.loose := ((hperm.filter _).append_left A).symm.trans hP
        have hAR : w3.ownsRow 0 3 1 v4 A.length (numv A) := ownsRow_but hA hb3 (fun k hk e => by have := hAk k hk; omega)
        have HAR := Hid.mk' hAR
        have HAK := Hid.mk' hAk
        obtain ⟨va, vn, vk, rfl⟩ : ∃ a n k, v4 = .slice a n k := by obtain ⟨-, ⟨e, -⟩ | ⟨g', c', cu, e, -⟩⟩ := hA <;> exact ⟨_, _, _, e⟩
        cases hp : s.pinned e0.1 with
        | true =>
          rw [hp] at hpn
          have hN0 : (N == 0) = false := by
            have := of_decide_eq_true hpn
            have h9 : N ≠ 0 := by omega
            simpa using h9
          rw [List.filter_cons, hp] at hP2
          have HP2 : Hid ((A ++ lf'.filter (fun k => !s.pinned k)).Perm s.loose) := hP2
          generalize e0.1 = K at *
          generalize fb K = g at *
          clear hnx hent hR hA hAk hP hG hG3 hFr hx he0 hb0 hpn hN hP2 hAR hp hperm hb3 hsz3 hR3
          go_wp2_with (first
            | (refine wpList_runH rfl (exec_next rfl rfl rfl HNX.out) ?_)
            | (refine wpList_runH rfl (exec_entry rfl rfl HENT.out) ?_)
            | fail)
          go_roundw
          case rel => exact ⟨_, lf', A, rfl, (HLE.out _ (But.refl _ _)).1, HAR.out, HAK.out, HP2.out, HG3.out⟩
          case measure => exact (HLE.out _ (But.refl _ _)).2
        | false =>
          rw [hp] at hpn
          have hN0 : (N == 0) = true := by
            have := of_decide_eq_false hpn
            have h9 : N = 0 := by omega
            simpa using h9
          rw [List.filter_cons, hp] at hP2
          have HP2 : Hid (((A ++ [e0.1]) ++ lf'.filter (fun k => !s.pinned k)).Perm s.loose) := by
            show List.Perm _ _
            rw [List.append_assoc]; exact hP2
          have HAL3 : Hid (Grow w3 (w3.alloc (.cells #[.int .i64 e0.1] 3))) := (But.refl _ w3).alloc _
          have HBL : Hid (Blk (w3.alloc (.cells #[.int .i64 e0.1] 3)) w3.heap.size 3 (numv [e0.1])) := Blk.new (L := [.int .i64 e0.1]) rfl
          generalize e0.1 = K at *
          generalize fb K = g at *
          clear hnx hent hR hA hAk hP hG hG3 hFr hx he0 hb0 hpn hN hP2 hAR hp hperm hb3 hsz3 hR3
          go_wp2_with (first
            | (refine wpList_runH rfl (exec_next rfl rfl rfl HNX.out) ?_)
            | (refine wpList_runH rfl (exec_entry rfl rfl HENT.out) ?_)
            | (refine wpList_runH rfl (exec_row1 Try.underlying40 infNum (by decide) (by decide) rfl rfl rfl) ?_)
            | (refine wpList_someH rfl (exec_append (v := .slice va vn vk) (n := A.length) (xs := numv A) (news := numv [K]) Try.underlying40 infNum rfl (by decide) rfl rfl (ownsRow_grow HAR.out HAL3.out) rfl rfl (fun j u hj => HBL.out.cells0 j u hj) (fun u hu => by rw [show u = .int .i64 K by simpa [numv] using hu]; rfl) (by have := HAL.out; omega) (by decide)) ?_; intro v5 w5 hap)
            | fail)
          have hk5 : But (fun b => (.slice va vn vk : Value).ownBlock = some b) w3 w5 := (HAL3.out.mono (fun _ _ h => h.elim)).trans hap.but
          have hgf := (HH.out.frm).lt
          have hR5 := HR3.out.but hk5 (fun e => by have := HAK.out r e; omega) (fun e => by have := HAK.out gf e; have := HRW.out; omega)
          have h2 := HLT.out
          rw [HR3.out.left] at h2
          refine ⟨⟨v5, lf', A ++ [K], rfl, hR5, ?_, fun k hk => ?_, HP2.out, HG3.out.then hk5 (fun i hi e => by have := HAK.out i e; have := HRW.out; omega)⟩, ?_⟩
          · rw [List.length_append, List.length_singleton, show numv (A ++ [K]) = numv A ++ numv [K] by simp [numv]]
            exact hap.own
          · rcases hap.at' with e | e
            · exact HAK.out k (by rw [← e]; exact hk)
            · rw [e] at hk
              have hk' := Option.some.inj hk
              have := HR3.out.lt.1
              have := HAL3.out.size
              omega
          · rw [hR5.left]; exact h2
end
end Go.Proofs.Ytmlklmhochihbaa
