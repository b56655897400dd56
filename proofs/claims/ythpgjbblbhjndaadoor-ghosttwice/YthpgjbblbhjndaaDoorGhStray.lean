/- ghost: firstStray. -/
import Derived.Test.YthpgjbblbhjndaaDoorGhSealed
import Derived.WalkMore
namespace Go.Proofs.YthpgjbblbhjndaaDoor
open Go.RowKit

theorem TRow.at {w w' : World} {Fr G : Nat → Prop} {v : Value} {L : List TE} (h : TRow w Fr G v L) (k : Grow w w') : ∃ ao cap, v = .slice ao L.length cap ∧ ∀ i e, L[i]? = some e → ∃ g, ao = some ⟨g, 0, none⟩ ∧ Tv w' G e.1 e.2.1 e.2.2 ∧ ∀ c u, (tc e)[c]? = some u → w'.cell? ((⟨g, i * 15, none⟩ : Addr).add c) = some u := by
  obtain ⟨ao, cap, rfl, hrow⟩ := h.row.shape
  refine ⟨ao, cap, rfl, fun i e hi => ?_⟩
  have hlt : i < L.length := (List.getElem?_eq_some_iff.1 hi).1
  obtain ⟨g, rfl, _, hg, hc⟩ := hrow (by omega)
  have he := h.el e (List.mem_of_getElem? hi)
  refine ⟨g, rfl, he.then k, fun c u hu => ?_⟩
  have e1 : (⟨g, i * 15, none⟩ : Addr).add c = ⟨g, i * 15 + c, none⟩ := by simp [Addr.add]
  rw [e1]
  exact (World.cell?_of_block (k.block g hg (fun h => h))).trans (hc _ _ (flat_at L (fun e he => tc_len (h.el e he)) i e c u hi hu))
theorem mem_byUse {S : List Tup} {T : Tup} : T ∈ S ↔ ∃ s ∈ byUse S T.1 T.2.1, s.2.2.1 = T.2.2.1 ∧ s.2.2.2 = T.2.2.2 := by
  constructor
  · intro h
    exact ⟨T, List.mem_filter.2 ⟨h, by simp⟩, rfl, rfl⟩
  · rintro ⟨s, h1, h2, h3⟩
    obtain ⟨h4, h5⟩ := List.mem_filter.1 h1
    simp only [decide_eq_true_eq] at h5
    obtain ⟨a, b, c, d⟩ := s
    obtain ⟨a', b', c', d'⟩ := T
    simp only at h2 h3 h5
    obtain ⟨h5, h6⟩ := h5
    subst h2 h3 h5 h6
    exact h4
/-- What a search tells. -/
def Strays (S : List Tup) (L : List TE) (r : Value) : Prop :=
  (∃ (i : Nat) (e0 : TE), L[i]? = some e0 ∧ r = .tuple #[.agg (tc e0).toArray, .bool true] ∧ e0.1 ∉ S ∧ ∀ (j : Nat) (e1 : TE), j < i → L[j]? = some e1 → e1.1 ∈ S) ∨ (r = .tuple #[.agg zeroT.toArray, .bool false] ∧ ∀ e1 : TE, e1 ∈ L → e1.1 ∈ S)
theorem results_struct_tmp {P : Program} {fn : Func} {p u : Tmp} {ty : TypeId} (h : fn.results = #[.cell p ty, .tmp u]) (tmps : Array Value) (w : World) (g : Nat) (t : TypeId) (cs : Array Value) (d : TypeDesc) (v : Value)
    (hp : tmps.getD p undef = .pointer (some ⟨g, 0, none⟩)) (hg : w.heap[g]? = some (.cells cs t (0, 0))) (hu : P.underlying ty = some d) (hd : (match d with | .struct _ | .array _ _ => true | _ => false) = true) (hi : (P.info? ty).map (·.size) = some cs.size) (hv : tmps.getD u undef = v) :
    (results fn tmps).run P w = .ok (.tuple #[.agg cs, v]) w := by
  have hp' : tmps[p]?.getD undef = .pointer (some ⟨g, 0, none⟩) := by simpa using hp
  have hv' : tmps[u]?.getD undef = v := by simpa using hv
  simp [results, h, hp', hv', asAddr, run_loadVar_row w g t ty cs (0, 0) d hg hu hd hi]
set_option maxRecDepth 100000 in
set_option maxHeartbeats 8000000 in
theorem strayV_any {w : World} {own : Owner} {gl : Nat} {P : List Pr} {S O : List Tup} {Fr G : Nat → Prop} {v : Value} {L : List TE} {nh no : Nat} {vi vc vm vt vb vq : Value} (h : LgV w own gl P S O nh no vi vc vm vt vb vq) (hv : TRow w Fr G v L) (hn : L.length ≤ 1000000) (hns : S.length ≤ 1000000) :
    Calls Tryd.prog 32 #[.pointer (some ⟨gl, 0, none⟩), v] w fun e w' => Grow w w' ∧ ∃ r, e = .returned r ∧ Strays S L r := by
  obtain ⟨Z, hZ⟩ : ∃ Z, Z = zeroT := ⟨_, rfl⟩
  have hz := zT
  rw [← hZ] at hz
  obtain ⟨g0, hg0⟩ : ∃ g, g = w.heap.size := ⟨_, rfl⟩
  obtain ⟨W0, hW0⟩ : ∃ W0, W0 = w.alloc (.cells Z.toArray 46) := ⟨_, rfl⟩
  have hT0 : Grow w W0 := by rw [hW0]; exact (But.refl _ w).alloc _
  have hB0 : Blk W0 g0 46 Z := by rw [hW0]; exact Blk.new hg0.symm
  obtain ⟨ao, cap, hve, -⟩ := hv.at (But.refl _ w)
  have HAT : Hid (∀ w', Grow w w' → ∀ i e, L[i]? = some e → ∃ g, ao = some ⟨g, 0, none⟩ ∧ Tv w' G e.1 e.2.1 e.2.2 ∧ ∀ c u, (tc e)[c]? = some u → w'.cell? ((⟨g, i * 15, none⟩ : Addr).add c) = some u) := fun w' hw i e hi => by
    obtain ⟨ao', cap', e1, h2⟩ := hv.at hw
    rw [hve] at e1
    cases e1
    exact h2 i e hi
  subst hve
  obtain ⟨n, hLn⟩ : ∃ n, n = L.length := ⟨_, rfl⟩
  rw [← hLn] at hn ⊢
  have HLN := Hid.mk' hLn
  have HZE := Hid.mk' hZ
  have HZL : Hid (Z.length = 15) := by show _ = _; rw [hZ]; rfl
  have HB0 := Hid.mk' hB0
  have HT0 := Hid.mk' hT0
  have HG0 := Hid.mk' hg0
  have HW0 := Hid.mk' hW0
  have HH := Hid.mk' h
  have HNS := Hid.mk' hns
  clear h hv hZ hg0 hW0 hT0 hB0 hLn hns
  go_enter Tryd.func32, Tryd.ntmps32
  go_wp2
  go_step3
  go_wp2
  go_step3
  go_wp2
  rw [← HW0.out, ← HG0.out]
  go_loopw [12] (fun iv wr => ∃ k : Nat, k ≤ n ∧ iv = .int .i64 k ∧ (∀ j (e1 : TE), j < k → L[j]? = some e1 → e1.1 ∈ S) ∧ Grow W0 wr) (fun iv _ => n - (intOf iv).toNat)
  case atStart => exact ⟨0, by omega, rfl, fun j e1 hj => absurd hj (Nat.not_lt_zero _), But.refl _ W0⟩
  case round =>
    obtain ⟨k, hk, rfl, hall, hgr⟩ := hrel
    have HALL := Hid.mk' hall
    have HGR := Hid.mk' hgr
    clear hall hgr
    by_cases hlt : k < n
    · have hki : (k : Int) < (n : Int) := by omega
      obtain ⟨e0, he0⟩ : ∃ e0, L[k]? = some e0 := ⟨_, List.getElem?_eq_getElem (by rw [← HLN.out]; exact hlt)⟩
      obtain ⟨g, hao, htv, hcell⟩ := HAT.out wr (HT0.out.trans HGR.out) k e0 he0
      subst hao
      have HE0 := Hid.mk' he0
      have HTV := Hid.mk' htv
      have HCELL := Hid.mk' hcell
      have HBZ : Hid (Blk (wr.alloc (.cells Z.toArray 46)) wr.heap.size 46 Z) := Blk.new rfl
      clear he0 htv hcell
      go_upto_region 4 with (first
        | (refine wpList_load_cells rfl _ _ rfl ⟨g, k * 15, none⟩ rfl (tc e0) _ HCELL.out Tryd.underlying46 rfl (by rw [iT, tc_len HTV.out]) ?_)
        | (refine wpList_store_at rfl _ _ _ rfl wr.heap.size 0 (tc e0) rfl rfl 46 [] Z [] (by simpa using HBZ.out) rfl (by rw [HZL.out, tc_len HTV.out]) (by rw [iT, tc_len HTV.out]) (tc_one HTV.out) ?_; intro W1 hb1 hbut1; rw [List.nil_append, List.append_nil] at hb1)
        | fail)
      obtain ⟨g1, hg1⟩ : ∃ g1, g1 = wr.heap.size := ⟨_, rfl⟩
      rw [← hg1] at hb1 hbut1 ⊢
      have hG1 : Grow wr W1 := ((But.refl _ wr).alloc _).then hbut1 (fun i hi e => by omega)
      have HGW : Hid (Grow w W1) := (HT0.out.trans HGR.out).trans hG1
      have HG01 : Hid (Grow W0 W1) := HGR.out.trans hG1
      have HB1 := Hid.mk' hb1
      have HTV1 := Hid.mk' (HTV.out.then hG1)
      obtain ⟨M, hM, hMa⟩ := HH.out.sem.ex
      have hU : wfU e0.1.1 e0.1.2.1 := ⟨HTV.out.ep, HTV.out.nl, HTV.out.nt⟩
      obtain ⟨u, Lu, hLu, hLm, hul⟩ := hMa _ _ hU
      obtain ⟨au, cu, hue, -⟩ := hLu.at (But.refl _ w)
      have HLU : Hid (∀ w', Grow w w' → ∀ i e, Lu[i]? = some e → ∃ g, au = some ⟨g, 0, none⟩ ∧ Tv w' (Is own .byt) e.1 e.2.1 e.2.2 ∧ ∀ c u, (tc e)[c]? = some u → w'.cell? ((⟨g, i * 15, none⟩ : Addr).add c) = some u) := fun w' hw i e hi => by
        obtain ⟨ao', cap', e1, h2⟩ := hLu.at hw
        rw [hue] at e1
        cases e1
        exact h2 i e hi
      obtain ⟨l, hkl⟩ := key_use hU
      obtain ⟨B, hB⟩ : ∃ B, B = (tc e0).toArray := ⟨_, rfl⟩
      obtain ⟨U, hUk⟩ : ∃ U, U = ukey e0.1.1 e0.1.2.1 := ⟨_, rfl⟩
      have HLK : Hid (∀ w', Grow w w' → (Instr.lookup 68 vm U false).run Tryd.prog w' = .ok u w') := fun w' hw => by
        rw [hUk]
        rcases hM with ⟨rfl, rfl⟩ | ⟨b, rfl, hb, hm⟩
        · rcases hul with h | ⟨_, rfl, _⟩
          · cases h
          · exact look_none keyU Tryd.underlying68 (zTs w') hkl false
        · rcases hul with h | ⟨h, rfl, _⟩
          · exact ((hm.but hw (fun h => h)).look keyU Tryd.underlying68 (zTs w') hkl false).1 u h
          · exact ((hm.but hw (fun h => h)).look keyU Tryd.underlying68 (zTs w') hkl false).2 h
      have HUO : Hid (∀ (w' : World) (F : Nat → Prop), Tv w' F e0.1 e0.2.1 e0.2.2 → Calls Tryd.prog 41 #[.agg B] w' fun e w'' => e = .returned U ∧ Grow w' w'') := fun w' F hw => by rw [hUk, hB]; exact useOf_any hw
      obtain ⟨m, hm⟩ : ∃ m, m = Lu.length := ⟨_, rfl⟩
      rw [← hm] at hue
      have HM := Hid.mk' hm
      have HLM := Hid.mk' hLm
      have HBE := Hid.mk' hB
      have HNL := Hid.mk' (tc_len HTV1.out)
      subst hue
      clear hb1 hbut1 hG1 hM hMa hU hLu hLm hul hkl hB hUk hm HCELL HBZ HTV hg1
      refine region_chain [] [0, 1, 2, 3, 4, 5, 6, 7, 8] (Grow W1) (Grow W1) (by kernel_rfl) (by kernel_rfl) (fun _ _ h k => h.trans k) (fun _ h => h) ((But.refl _ W1).drew) ?_
      intro ι hne X hX
      have c3 : ∀ x, (X x).cell? ⟨gl, 3, none⟩ = some vm := fun x => (HH.out.blk.but (HGW.out.trans (hX x)) (fun h => h)).cell 3
      iterate 4 (refine still_step rfl (fun K hK => ?_); go_simp; refine hK _ ?_; clear hK K)
      refine still_val rfl (.agg B) rfl (fun x => by rw [HBE.out]; exact run_load_tup (HB1.out.but (hX x) (fun h => h)).cells0 HNL.out rfl rfl) ?_
      intro K hK; go_simp; refine hK _ ?_; clear hK K
      refine still_call rfl U 41 #[.agg B] rfl (fun x => by kernel_rfl) (fun x => HUO.out _ _ (HTV1.out.then (hX x))) ?_
      intro K hK; go_simp; refine hK _ ?_; clear hK K
      refine still_val rfl (.slice au m cu) rfl (fun x => exec_lookup rfl rfl rfl (HLK.out _ (HGW.out.trans (hX x)))) ?_
      intro K hK; go_simp; refine hK _ ?_; clear hK K
      iterate 2 (refine still_step rfl (fun K hK => ?_); go_simp; refine hK _ ?_; clear hK K)
      refine still_nil ?_
      clear c3 hX hne
      intro W2 hW2
      have HW12 := Hid.mk' hW2
      clear hW2 HLK HUO
      have hmb : m ≤ 1000000 := by
        have h1 := congrArg List.length HLM.out
        have h2 : (byUse S e0.1.1 e0.1.2.1).length ≤ S.length := List.length_filter_le _ _
        simp at h1
        have := HNS.out
        have := HM.out
        omega
      have HG02 : Hid (Grow W0 W2) := HG01.out.trans HW12.out
      have HGW2 : Hid (Grow w W2) := HGW.out.trans HW12.out
      have HB2 := Hid.mk' (HB1.out.but HW12.out (fun h => h))
      have HTV2 := Hid.mk' (HTV1.out.then HW12.out)
      clear HGR HG01 HGW HB1 HTV1 HW12 wr W1
      go_wp2
      go_loopw [24] (fun iv wr => ∃ p : Nat, p ≤ m ∧ iv = .int .i64 p ∧ (∀ j (s : TE), j < p → Lu[j]? = some s → ¬ (s.1.2.2.1 = e0.1.2.2.1 ∧ s.1.2.2.2 = e0.1.2.2.2)) ∧ Grow W2 wr) (fun iv _ => m - (intOf iv).toNat)
      case atStart => exact ⟨0, by omega, rfl, fun j s hj => absurd hj (Nat.not_lt_zero _), But.refl _ W2⟩
      case round =>
        obtain ⟨p, hp, rfl, hnot, hgr⟩ := hrel
        have HNOT := Hid.mk' hnot
        have HGR := Hid.mk' hgr
        clear hnot hgr
        by_cases hplt : p < m
        · have hpi : (p : Int) < (m : Int) := by omega
          obtain ⟨s0, hs0⟩ : ∃ s0, Lu[p]? = some s0 := ⟨_, List.getElem?_eq_getElem (by rw [← HM.out]; exact hplt)⟩
          obtain ⟨gu, hau, hst, hscell⟩ := HLU.out wr (HGW2.out.trans HGR.out) p s0 hs0
          subst hau
          have HS0 := Hid.mk' hs0
          have HST := Hid.mk' hst
          have HSC := Hid.mk' hscell
          have HBZ : Hid (Blk (wr.alloc (.cells Z.toArray 46)) wr.heap.size 46 Z) := Blk.new rfl
          clear hs0 hst hscell
          go_upto_region 7 with (first
            | (refine wpList_load_cells rfl _ _ rfl ⟨gu, p * 15, none⟩ rfl (tc s0) _ HSC.out Tryd.underlying46 rfl (by rw [iT, tc_len HST.out]) ?_)
            | (refine wpList_store_at rfl _ _ _ rfl wr.heap.size 0 (tc s0) rfl rfl 46 [] Z [] (by simpa using HBZ.out) rfl (by rw [HZL.out, tc_len HST.out]) (by rw [iT, tc_len HST.out]) (tc_one HST.out) ?_; intro W3 hb3 hbut3; rw [List.nil_append, List.append_nil] at hb3)
            | fail)
          obtain ⟨g3, hg3⟩ : ∃ g3, g3 = wr.heap.size := ⟨_, rfl⟩
          rw [← hg3] at hb3 hbut3 ⊢
          have hG3 : Grow wr W3 := ((But.refl _ wr).alloc _).then hbut3 (fun i hi e => by omega)
          have HG3 : Hid (Grow W2 W3) := HGR.out.trans hG3
          have HB3 := Hid.mk' hb3
          have hst3 := HST.out.then hG3
          have htv3 := HTV2.out.then HG3.out
          have a13 : W3.cell? ⟨g3, 13, none⟩ = some s0.2.1 := (hb3.cell 13).trans (tcells_13 hst3.nl _ _)
          have a14 : W3.cell? ⟨g3, 14, none⟩ = some s0.2.2 := (hb3.cell 14).trans (tcells_14 hst3.nl _ _)
          have b13 : W3.cell? ⟨g1, 13, none⟩ = some e0.2.1 := ((HB2.out.but HG3.out (fun h => h)).cell 13).trans (tcells_13 htv3.nl _ _)
          have b14 : W3.cell? ⟨g1, 14, none⟩ = some e0.2.2 := ((HB2.out.but HG3.out (fun h => h)).cell 14).trans (tcells_14 htv3.nl _ _)
          have HEA := Hid.mk' (equal_any hst3.aad.1 htv3.aad.1)
          have HES := Hid.mk' (equal_any hst3.sea.1 htv3.sea.1)
          clear hb3 hbut3 hG3 hst3 htv3 HBZ HSC HST hg3 HGR wr
          by_cases ha : s0.1.2.2.1 = e0.1.2.2.1
          · rw [decide_eq_true ha] at HEA
            by_cases hse : s0.1.2.2.2 = e0.1.2.2.2
            · rw [decide_eq_true hse] at HES
              have HIN : Hid (e0.1 ∈ S) := by
                refine mem_byUse.2 ⟨s0.1, ?_, ha, hse⟩
                rw [← HLM.out]
                exact List.mem_map.2 ⟨s0, List.mem_of_getElem? HS0.out, rfl⟩
              clear ha hse
              go_wp2_with fail
              refine Calls.mono HEA.out ?_
              rintro e w4 ⟨rfl, hw⟩
              have hw2 := hw.symm
              subst hw2
              go_wp2_with fail
              refine Calls.mono HES.out ?_
              rintro e w4 ⟨rfl, hw⟩
              have hw2 := hw.symm
              subst hw2
              go_wp2
              refine ⟨⟨k + 1, by omega, by go_num, fun j e1 hj hje => ?_, HG02.out.trans HG3.out⟩, by simp [intOf]; omega⟩
              by_cases hjk : j = k
              · subst hjk
                rw [HE0.out] at hje
                cases hje
                exact HIN.out
              · exact HALL.out j e1 (by omega) hje
            · rw [decide_eq_false hse] at HES
              have HNE := Hid.mk' hse
              clear ha hse
              go_wp2_with fail
              refine Calls.mono HEA.out ?_
              rintro e w4 ⟨rfl, hw⟩
              have hw2 := hw.symm
              subst hw2
              go_wp2_with fail
              refine Calls.mono HES.out ?_
              rintro e w4 ⟨rfl, hw⟩
              have hw2 := hw.symm
              subst hw2
              go_wp2
              refine ⟨⟨p + 1, by omega, by go_num, fun j s hj hjs => ?_, HG3.out⟩, by simp [intOf]; omega⟩
              by_cases hjk : j = p
              · subst hjk
                rw [HS0.out] at hjs
                cases hjs
                exact fun h => HNE.out h.2
              · exact HNOT.out j s (by omega) hjs
          · rw [decide_eq_false ha] at HEA
            have HNE := Hid.mk' ha
            clear ha
            go_wp2_with fail
            refine Calls.mono HEA.out ?_
            rintro e w4 ⟨rfl, hw⟩
            have hw2 := hw.symm
            subst hw2
            go_wp2
            refine ⟨⟨p + 1, by omega, by go_num, fun j s hj hjs => ?_, HG3.out⟩, by simp [intOf]; omega⟩
            by_cases hjk : j = p
            · subst hjk
              rw [HS0.out] at hjs
              cases hjs
              exact fun h => HNE.out h.1
            · exact HNOT.out j s (by omega) hjs
        · obtain rfl : p = m := by omega
          have HB3 := Hid.mk' (HB2.out.but HGR.out (fun h => h))
          have HBR := Hid.mk' (HB0.out.but (HG02.out.trans HGR.out) (fun h => h))
          have HONE := Hid.mk' (tc_one (HTV2.out.then HGR.out))
          go_wp2_with (first
            | (refine wpList_load_cells rfl _ _ rfl ⟨g1, 0, none⟩ rfl (tc e0) _ HB3.out.cells0 Tryd.underlying46 rfl (by rw [iT, HNL.out]) ?_)
            | (refine wpList_store_at rfl _ _ _ rfl g0 0 (tc e0) rfl rfl 46 [] Z [] (by simpa using HBR.out) rfl (by rw [HZL.out, HNL.out]) (by rw [iT, HNL.out]) HONE.out ?_; intro W9 hb9 hbut9; rw [List.nil_append, List.append_nil] at hb9)
            | fail)
          try rw [Exit.noGoto_ret]
          refine bodyPost_ret (results_struct_tmp rfl _ _ g0 _ _ _ _ rfl hb9 Tryd.underlying46 rfl (by rw [iT]; simp [HNL.out]) rfl) rfl ⟨?_, _, rfl, Or.inl ⟨k, e0, HE0.out, rfl, fun hin => ?_, HALL.out⟩⟩
          · exact (HGW2.out.trans HGR.out).then hbut9 (fun i hi e => by have := HG0.out; omega)
          · obtain ⟨s, h1, h2, h3⟩ := mem_byUse.1 hin
            rw [← HLM.out] at h1
            obtain ⟨s1, h4, rfl⟩ := List.mem_map.1 h1
            obtain ⟨j, hj⟩ := List.mem_iff_getElem?.1 h4
            exact HNOT.out j s1 (by rw [HM.out]; exact (List.getElem?_eq_some_iff.1 hj).1) hj ⟨h2, h3⟩
    · obtain rfl : k = n := by omega
      have HBR := Hid.mk' (HB0.out.but HGR.out (fun h => h))
      have HBUILD : Hid (∀ w', (Instr.build 46 #[]).run Tryd.prog w' = .ok (.agg Z.toArray) w') := fun w' => by rw [HZE.out]; exact run_build w' _ _ _ (by kernel_rfl)
      have HONE : Hid (∀ u ∈ Z, u.oneCell' = true) := by show ∀ u ∈ Z, u.oneCell' = true; rw [HZE.out]; decide
      go_wp2_with (first
        | (refine wpList_build_run rfl _ [] rfl [] rfl (.agg Z.toArray) (HBUILD.out _) ?_)
        | (refine wpList_store_at rfl _ _ _ rfl g0 0 Z rfl rfl 46 [] Z [] (by simpa using HBR.out) rfl rfl (by rw [iT, HZL.out]) HONE.out ?_; intro W9 hb9 hbut9; rw [List.nil_append, List.append_nil] at hb9)
        | fail)
      try rw [Exit.noGoto_ret]
      refine bodyPost_ret (results_struct_tmp rfl _ _ g0 _ _ _ _ rfl hb9 Tryd.underlying46 rfl (by rw [iT]; simp [HZL.out]) rfl) rfl ⟨?_, _, rfl, Or.inr ⟨by rw [HZE.out]; rfl, fun e1 he1 => ?_⟩⟩
      · exact (HT0.out.trans HGR.out).then hbut9 (fun i hi e => by have := HG0.out; omega)
      · obtain ⟨j, hj⟩ := List.mem_iff_getElem?.1 he1
        exact HALL.out j e1 (by rw [HLN.out]; exact (List.getElem?_eq_some_iff.1 hj).1) hj
theorem stray_any {w : World} {own : Owner} {gl : Nat} {P : List Pr} {S O : List Tup} {Fr G : Nat → Prop} {v : Value} {L : List TE} (h : Lg w own gl P S O) (hv : TRow w Fr G v L) (hn : L.length ≤ 1000000) (hns : S.length ≤ 1000000) :
    Calls Tryd.prog 32 #[.pointer (some ⟨gl, 0, none⟩), v] w fun e w' => Grow w w' ∧ ∃ r, e = .returned r ∧ Strays S L r := by
  obtain ⟨vi, vc, vm, vt, vb, vq, h⟩ := h
  exact strayV_any h hv hn hns
end Go.Proofs.YthpgjbblbhjndaaDoor
