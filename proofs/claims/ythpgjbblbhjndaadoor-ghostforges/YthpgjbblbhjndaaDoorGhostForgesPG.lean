/- GhostForges: the walk. -/
import Derived.Test.YthpgjbblbhjndaaDoorGhostClashesPG
namespace Go.Proofs.YthpgjbblbhjndaaDoor
open Go.RowKit

theorem out_none {S O : List Tup} (h : ∀ j, j < O.length → O.getD j t0 ∈ S) : outOf S O = [] := by
  unfold outOf
  rw [List.filter_eq_nil_iff]
  intro t ht
  obtain ⟨j, hj, rfl⟩ := List.getElem_of_mem ht
  have := h j hj
  rw [show O.getD j t0 = O[j] by simp [List.getD, hj]] at this
  simpa using this
set_option maxRecDepth 100000 in
set_option maxHeartbeats 8000000 in
theorem ghostForges_walk (v0 : Value) (n : Nat) (A : Nat → GA) (w : World) (hk : Kw w) (hh : Hw w) (h0 : GActs w v0 n A) :
    Calls Tryd.prog 4 #[v0] w fun e w' => e = .returned (.bool true) ∧ Below w.heap.size w w' := by
  have HGR := Hid.mk' (great_any h0)
  have HPY : Hid ((∀ i, i < n → i < 300 → GSmall (A i)) → ∀ w1, Grow w w1 → Calls Tryd.prog 11 #[v0] w1 (PlayTo w1)) := fun hs w1 hg => played_any (hk.but hg (fun h => h)) (hh.but hg (fun h => h)) (h0.but hg) hs
  obtain ⟨Z, hZ⟩ : ∃ Z, Z = zeroT := ⟨_, rfl⟩
  have hz := zT
  have HBZ := Hid.mk' bz
  rw [← hZ] at hz HBZ
  have HZL : Hid (Z.length = 15) := by show _ = _; rw [hZ]; rfl
  have HZE := Hid.mk' hZ
  clear h0 hk hh hZ
  go_enter Tryd.func4, Tryd.ntmps4
  go_wp2_with fail
  refine Calls.mono HGR.out ?_
  rintro e w1 ⟨bb, rfl, hb1⟩
  have HG1 := Hid.mk' hb1.grow
  cases bb with
  | true =>
    clear hb1 HGR HPY
    go_wp2_with fail
    refine Calls.mono (awake_any w1) ?_
    rintro e w2 ⟨rfl, hg2⟩
    go_wp2
    go_ret
    exact ⟨rfl, (HG1.out.trans hg2).below (Nat.le_refl _) (fun _ _ h => h)⟩
  | false =>
    have HPL := Hid.mk' (HPY.out (hb1.small rfl) w1 hb1.grow)
    clear hb1 HGR HPY
    go_wp2_with fail
    refine Calls.mono HPL.out ?_
    rintro e w2 ⟨gl, gx, rfl, hpl⟩
    obtain ⟨own, ro, vp, vs, vo, LP, LS, LO, hT, ⟨-, hlenS, hlenO⟩, -, hsS, hsO⟩ := hpl.ex
    have HT := Hid.mk' hT
    have HSS := Hid.mk' hsS
    have HSO := Hid.mk' hsO
    have HLEN := Hid.mk' (And.intro hlenS hlenO)
    have HRC := Hid.mk' (rforged_any hT.ref.blk hT.ref.sea hT.ref.ope (by omega) (by omega))
    clear hpl hT hsS hsO hlenS hlenO HPL
    go_wp2_with fail
    refine Calls.mono HRC.out ?_
    rintro e w3 ⟨htold, hg3⟩
    have HLC := Hid.mk' (forged_any (HT.out.then hg3).log.lg (fun p hp => by
      obtain ⟨e, he, rfl⟩ := List.mem_map.1 hp
      have := HSO.out e he; omega) (by rw [List.length_map]; have := HLEN.out; omega) (by rw [List.length_map]; have := HLEN.out; omega))
    have HG3 := Hid.mk' (HG1.out.trans (HT.out.then hg3).log.grow)
    have HT3 := Hid.mk' (HT.out.then hg3)
    clear hg3 HRC HG1 HT
    rcases htold with ⟨rfl, hF⟩ | ⟨j, rfl, hF, hF2, hF3⟩
    · have HF := Hid.mk' (out_none hF)
      clear hF
      go_wp2_with fail
      refine Calls.mono HLC.out ?_
      rintro e w4 ⟨hg4, T, va, vz, ok, rfl, hnew, hfi⟩
      rcases hfi with ⟨rfl, hh⟩ | ⟨rfl, -, rfl⟩
      · rw [HF.out] at hh; cases hh
      · have HG4 := Hid.mk' (HG3.out.trans hg4)
        obtain ⟨C, hC⟩ : ∃ C, C = tcells tz va vz := ⟨_, rfl⟩
        have HCE := Hid.mk' hC
        have HCL : Hid (C.length = 15) := by show _ = _; rw [hC]; exact tcells_len hnew.nl _ _
        have HCO : Hid (∀ u ∈ C, u.oneCell' = true) := by show ∀ u ∈ C, _; rw [hC]; exact tcells_one hnew.aad.bs.one hnew.sea.bs.one
        have HTV : Hid (Tv w4 (fun _ => True) tz va vz) := ⟨hnew.ep, hnew.nl, hnew.nt, ⟨hnew.aad.bs, fun _ _ _ => trivial⟩, ⟨hnew.sea.bs, fun _ _ _ => trivial⟩⟩
        have HBY : Hid (Blk (w4.alloc (.cells Z.toArray 46)) w4.heap.size 46 Z) := Blk.new rfl
        rw [← hC]
        clear hC hnew hg4 HLC
        go_upto_region 6 with (first
          | (refine wpList_store_at rfl _ _ _ rfl w4.heap.size 0 C rfl rfl 46 [] Z [] (by simpa using HBY.out) rfl (by rw [HZL.out, HCL.out]) (by rw [iT, HCL.out]) HCO.out ?_; intro w7 hb7 hbut7; rw [List.nil_append, List.append_nil] at hb7)
          | fail)
        obtain ⟨g7, hg7⟩ : ∃ g, g = w4.heap.size := ⟨_, rfl⟩
        rw [← hg7] at hb7 hbut7 ⊢
        have hG7 : Grow w4 w7 := ((But.refl _ w4).alloc _).then hbut7 (fun i hi e => by omega)
        have HB7 := Hid.mk' hb7
        have HG7 := Hid.mk' (HG4.out.trans hG7)
        have HSA : Hid (Calls Tryd.prog 17 #[.agg C.toArray, .agg Z.toArray] w7 fun r w'' => r = .returned (.bool (decide (tz = tz))) ∧ Grow w7 w'') := by
          rw [HCE.out, HZE.out, ← tz_cells]
          exact rsameT_any (HTV.out.but (R := fun _ => False) hG7 (fun _ _ h => h)) (tz_tv w7)
        simp only [decide_true] at HSA
        clear hb7 hbut7 hG7 hg7 HBY HTV
        obtain ⟨B, hB⟩ : ∃ B, B = C.toArray := ⟨_, rfl⟩
        obtain ⟨Y, hY⟩ : ∃ Y, Y = Z.toArray := ⟨_, rfl⟩
        have HBE := Hid.mk' hB
        have HYE := Hid.mk' hY
        rw [← hB, ← hY] at HSA
        rw [← hY] at HBZ
        clear hB hY
        go_wp2_with (first
          | (refine wpList_load_cells rfl _ _ rfl ⟨g7, 0, none⟩ rfl C _ HB7.out.cells0 Tryd.underlying46 rfl (by rw [iT, HCL.out]) ?_; rw [← HBE.out])
          | (refine wpList_build_run rfl _ [] rfl [] rfl (.agg Y) (HBZ.out _) ?_)
          | fail)
        refine Calls.mono HSA.out ?_
        rintro e w8 ⟨rfl, hg8⟩
        have HG8 := Hid.mk' (HG7.out.trans hg8)
        clear hg8 HSA
        go_wp2_with fail
        refine Calls.mono (awake_any w8) ?_
        rintro e w9 ⟨rfl, hg9⟩
        go_wp2
        go_ret
        exact ⟨rfl, (HG8.out.trans hg9).below (Nat.le_refl _) (fun _ _ h => h)⟩
    · rw [List.length_map] at hF
      obtain ⟨ej, hej⟩ : ∃ e, LO[j]? = some e := ⟨_, List.getElem?_eq_getElem hF⟩
      rw [map_getD _ _ _ _ _ hej] at hF2
      have HHD : Hid ((outOf (LS.map (·.1)) (LO.map (·.1))).head? = some ej.1) := strays_first hej hF2 (fun l e1 hl he => by
        have := hF3 l hl
        rwa [map_getD _ _ _ _ _ he] at this)
      have HEJ := Hid.mk' hej
      have HJL := Hid.mk' hF
      clear hF hF2 hF3 hej
      go_wp2_with fail
      refine Calls.mono HLC.out ?_
      rintro e w4 ⟨hg4, T, va, vz, ok, rfl, hnew, hfi⟩
      rcases hfi with ⟨rfl, hh⟩ | ⟨rfl, hn, -⟩
      · rw [HHD.out] at hh
        cases hh
        have HG4 := Hid.mk' (HG3.out.trans hg4)
        have HT4 := Hid.mk' (HT3.out.then hg4)
        obtain ⟨C, hC⟩ : ∃ C, C = tcells ej.1 va vz := ⟨_, rfl⟩
        have HCE := Hid.mk' hC
        have HCL : Hid (C.length = 15) := by show _ = _; rw [hC]; exact tcells_len hnew.nl _ _
        have HCO : Hid (∀ u ∈ C, u.oneCell' = true) := by show ∀ u ∈ C, _; rw [hC]; exact tcells_one hnew.aad.bs.one hnew.sea.bs.one
        have HTV : Hid (Tv w4 (fun _ => True) ej.1 va vz) := ⟨hnew.ep, hnew.nl, hnew.nt, ⟨hnew.aad.bs, fun _ _ _ => trivial⟩, ⟨hnew.sea.bs, fun _ _ _ => trivial⟩⟩
        have HBY : Hid (Blk (w4.alloc (.cells Z.toArray 46)) w4.heap.size 46 Z) := Blk.new rfl
        have hj0 : (0 : Int) ≤ (j : Int) := by omega
        rw [← hC]
        clear hC hnew hg4 HLC HT3
        go_upto_region 6 with (first
          | (refine wpList_store_at rfl _ _ _ rfl w4.heap.size 0 C rfl rfl 46 [] Z [] (by simpa using HBY.out) rfl (by rw [HZL.out, HCL.out]) (by rw [iT, HCL.out]) HCO.out ?_; intro w7 hb7 hbut7; rw [List.nil_append, List.append_nil] at hb7)
          | fail)
        obtain ⟨g7, hg7⟩ : ∃ g, g = w4.heap.size := ⟨_, rfl⟩
        rw [← hg7] at hb7 hbut7 ⊢
        have hG7 : Grow w4 w7 := ((But.refl _ w4).alloc _).then hbut7 (fun i hi e => by omega)
        have HB7 := Hid.mk' hb7
        have HG7 := Hid.mk' (HG4.out.trans hG7)
        have HT7 := Hid.mk' (HT4.out.then hG7)
        have HTV7 := Hid.mk' (HTV.out.but (R := fun _ => False) hG7 (fun _ _ h => h))
        clear hb7 hbut7 hG7 hg7 HBY HTV HT4
        obtain ⟨ao, cap, rfl, -⟩ := HT7.out.ref.ope.at (But.refl _ w7)
        have HAT : Hid (∀ w', Grow w7 w' → ∃ g, ao = some ⟨g, 0, none⟩ ∧ Tv w' (· < w1.heap.size) ej.1 ej.2.1 ej.2.2 ∧ ∀ c u, (tc ej)[c]? = some u → w'.cell? ((⟨g, j * 15, none⟩ : Addr).add c) = some u) := fun w' hw => by
          obtain ⟨ao', cap', e1, h2⟩ := HT7.out.ref.ope.at hw
          cases e1
          exact h2 j ej HEJ.out
        obtain ⟨g, rfl, -, -⟩ := HAT.out w7 (But.refl _ w7)
        have HCF : Hid (∀ w', Grow w7 w' → Tv w' (· < w1.heap.size) ej.1 ej.2.1 ej.2.2 ∧ ∀ c u, (tc ej)[c]? = some u → w'.cell? ((⟨g, j * 15, none⟩ : Addr).add c) = some u) := fun w' hw => by
          obtain ⟨g', eg, h⟩ := HAT.out w' hw
          cases eg; exact h
        obtain ⟨n3, hn3⟩ : ∃ m, m = LO.length := ⟨_, rfl⟩
        have HN3 := Hid.mk' hn3
        have hj1 : (j : Int) < (n3 : Int) := by have := HJL.out; omega
        obtain ⟨B1, hB1⟩ : ∃ B, B = C.toArray := ⟨_, rfl⟩
        obtain ⟨B2, hB2⟩ : ∃ B, B = (tc ej).toArray := ⟨_, rfl⟩
        have HSA : Hid (∀ w', Grow w7 w' → Calls Tryd.prog 17 #[.agg B1, .agg B2] w' fun r w'' => r = .returned (.bool true) ∧ Grow w' w'') := fun w' hw => by
          rw [hB1, hB2, HCE.out]
          have := rsameT_any (HTV7.out.but (R := fun _ => False) hw (fun _ _ h => h)) (HCF.out w' hw).1
          simp only [decide_true] at this
          exact this
        have HB1 := Hid.mk' hB1
        have HB2 := Hid.mk' hB2
        clear hB1 hB2 hn3 HAT
        go_upto_region 10 with fail
        refine region_chain [] [0, 1, 2, 3, 4, 5, 6, 7, 8, 9, 10, 11, 12] (Grow w7) (Grow w7) (by kernel_rfl) (by kernel_rfl) (fun _ _ h k => h.trans k) (fun _ h => h) ((But.refl _ w7).drew) ?_
        intro ι hne X hX
        have c1 : ∀ x, (X x).cell? ⟨gx, 2, none⟩ = some (.slice (some ⟨g, 0, none⟩) n3 cap) := fun x => by rw [HN3.out]; exact (HT7.out.ref.blk.but (hX x) (fun h => h)).cell 2
        refine still_val rfl (.agg B1) rfl (fun x => by rw [HB1.out]; exact run_load_tup (HB7.out.but (hX x) (fun h => h)).cells0 HCL.out rfl rfl) ?_
        intro K hK; go_simp; refine hK _ ?_; clear hK K
        iterate 6 (refine still_step rfl (fun K hK => ?_); go_simp; refine hK _ ?_; clear hK K)
        refine still_val rfl (.agg B2) rfl (fun x => by rw [HB2.out]; exact run_load_tup (HCF.out _ (hX x)).2 (tc_len (HCF.out _ (hX x)).1) rfl rfl) ?_
        intro K hK; go_simp; refine hK _ ?_; clear hK K
        refine still_call rfl (.bool true) 17 #[.agg B1, .agg B2] rfl (fun x => by kernel_rfl) (fun x => HSA.out _ (hX x)) ?_
        intro K hK; go_simp; refine hK _ ?_; clear hK K
        iterate 1 (refine still_step rfl (fun K hK => ?_); go_simp; refine hK _ ?_; clear hK K)
        refine still_call rfl (.bool true) 10 #[] rfl (fun x => by kernel_rfl) (fun x => awake_any _) ?_
        intro K hK; go_simp; refine hK _ ?_; clear hK K
        iterate 2 (refine still_step rfl (fun K hK => ?_); go_simp; refine hK _ ?_; clear hK K)
        refine still_nil ?_
        clear c1 hX hne
        intro w' hw'
        have HW' := Hid.mk' (HG7.out.trans hw')
        clear hw'
        go_wp2
        go_ret
        exact ⟨rfl, HW'.out.below (Nat.le_refl _) (fun _ _ h => h)⟩
      · have := HHD.out
        rw [hn] at this; cases this
end Go.Proofs.YthpgjbblbhjndaaDoor
