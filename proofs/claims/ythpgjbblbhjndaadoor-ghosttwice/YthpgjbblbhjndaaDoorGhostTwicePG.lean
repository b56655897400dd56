/- GhostTwice: the walk. -/
import Derived.Test.YthpgjbblbhjndaaDoorGhostClashesPG
namespace Go.Proofs.YthpgjbblbhjndaaDoor
open Go.RowKit

theorem wpList_build_g {ops : Array Oper} {rest : List Oper} {o : Oper} {a : Act} {w : World} {Q : Exit → Act → World → Prop} (hw : Region.wanted o (yielded ops a.tmps) = true) (t : TypeId) (parts : List (Nat × Operand)) (ho : o.op = .build t parts.toArray) (ps : List (Nat × Value)) (hp : (parts.map fun x => (x.1, a.eval x.2)) = ps) (v : Value) (hr : (Instr.build t ps.toArray).run Tryd.prog w = .ok v w)
    (h : wpList Tryd.prog ops Q rest (a.put o.dst v) w) : wpList Tryd.prog ops Q (o :: rest) a w :=
  wpList_want hw fun _ hK => by
    unfold Oper.wp execOp
    simp only [ho, List.map_toArray]
    rw [hp]
    simp only [Sem.run_bind, hr, Result.andThen_ok, Sem.run_pure]
    exact hK _ _ h
set_option maxRecDepth 100000 in
set_option maxHeartbeats 8000000 in
theorem ghostTwice_walk (v0 : Value) (n : Nat) (A : Nat → GA) (w : World) (hk : Kw w) (hh : Hw w) (h0 : GActs w v0 n A) :
    Calls Tryd.prog 5 #[v0] w fun e w' => e = .returned (.bool true) ∧ Below w.heap.size w w' := by
  have HGR := Hid.mk' (great_any h0)
  have HPY : Hid ((∀ i, i < n → i < 300 → GSmall (A i)) → ∀ w1, Grow w w1 → Calls Tryd.prog 11 #[v0] w1 (PlayTo w1)) := fun hs w1 hg => played_any (hk.but hg (fun h => h)) (hh.but hg (fun h => h)) (h0.but hg) hs
  obtain ⟨Z, hZ⟩ : ∃ Z, Z = zeroT := ⟨_, rfl⟩
  have hz := zT
  have HBZ := Hid.mk' bz
  rw [← hZ] at hz HBZ
  have HZL : Hid (Z.length = 15) := by show _ = _; rw [hZ]; rfl
  have HZE := Hid.mk' hZ
  clear h0 hk hh hZ
  go_enter Tryd.func5, Tryd.ntmps5
  go_wp2_with fail
  refine Calls.mono HGR.out ?_
  rintro e w1 ⟨bb, rfl, hb1⟩
  have HG1 := Hid.mk' hb1.grow
  cases bb with
  | true =>
    clear hb1 HGR HPY
    go_wp2_with fail
    refine Calls.mono (awake_any w1) ?_
    rintro e w2 ⟨rfl, hg2⟩
    go_wp2
    go_ret
    exact ⟨rfl, (HG1.out.trans hg2).below (Nat.le_refl _) (fun _ _ h => h)⟩
  | false =>
    have HPL := Hid.mk' (HPY.out (hb1.small rfl) w1 hb1.grow)
    clear hb1 HGR HPY
    go_wp2_with fail
    refine Calls.mono HPL.out ?_
    rintro e w2 ⟨gl, gx, rfl, hpl⟩
    obtain ⟨own, ro, vp, vs, vo, LP, LS, LO, hT, ⟨-, hlenS, hlenO⟩, -, hsS, hsO⟩ := hpl.ex
    have HT := Hid.mk' hT
    have HSS := Hid.mk' hsS
    have HSO := Hid.mk' hsO
    have HLEN := Hid.mk' (And.intro hlenS hlenO)
    have HRC := Hid.mk' (rtwice_any hT.ref.blk hT.ref.sea (by omega))
    clear hpl hT hsS hsO hlenS hlenO HPL HSO
    go_wp2_with fail
    refine Calls.mono HRC.out ?_
    rintro e w3 ⟨htold, hg3⟩
    have HLC := Hid.mk' (twice_any (HT.out.then hg3).log.lg (fun p hp => by
      obtain ⟨e, he, rfl⟩ := List.mem_map.1 hp
      have := HSS.out e he; omega))
    have HG3 := Hid.mk' (HG1.out.trans (HT.out.then hg3).log.grow)
    have HT3 := Hid.mk' (HT.out.then hg3)
    have HLM : Hid ((LS.map (·.1)).length = LS.length) := by show _ = _; simp
    clear hg3 HRC HG1 HT
    rcases htold with ⟨rfl, hF⟩ | ⟨i, j, rfl, hF⟩
    · have HF := Hid.mk' hF
      clear hF
      go_wp2_with fail
      refine Calls.mono HLC.out ?_
      rintro e w4 ⟨hg4, r, rfl, hti⟩
      rcases hti.ex with ⟨rfl, -⟩ | ⟨i, j, va, vz, ua, uz, rfl, hF2, -⟩
      · have HG4 := Hid.mk' (HG3.out.trans hg4)
        obtain ⟨g8, hg8⟩ : ∃ g, g = w4.heap.size := ⟨_, rfl⟩
        obtain ⟨W9, hW9⟩ : ∃ W, W = (w4.alloc (.cells Z.toArray 46)).alloc (.cells Z.toArray 46) := ⟨_, rfl⟩
        have HG9 : Hid (Grow w4 W9) := by show But _ _ _; rw [hW9]; exact ((But.refl _ w4).alloc _).alloc _
        have HC1 : Hid (Blk W9 g8 46 Z) := by show Blk _ _ _ _; rw [hW9]; exact (Blk.new hg8.symm).but ((But.refl (fun _ => False) _).alloc _) (fun h => h)
        have HC2 : Hid (Blk W9 (g8 + 1) 46 Z) := by show Blk _ _ _ _; rw [hW9]; exact Blk.new (by simp [hg8])
        have HW9 := Hid.mk' hW9
        have HG8E := Hid.mk' hg8
        have HZO : Hid (∀ u ∈ Z, u.oneCell' = true) := by show ∀ u ∈ Z, _; rw [HZE.out]; exact zeroT_one
        unfold noTwice
        rw [← HZE.out]
        clear hti hg4 hW9 hg8 HLC HF HT3
        go_upto_region 6 with (first
          | (rw [← HW9.out, ← HG8E.out]; refine wpList_store_at rfl _ _ _ rfl g8 0 Z rfl rfl 46 [] Z [] (by simpa using HC1.out) rfl rfl (by rw [iT, HZL.out]) HZO.out ?_; intro w9 hb9 hbut9; rw [List.nil_append, List.append_nil] at hb9; have HC3 := Hid.mk' (HC2.out.but hbut9 (show ¬ (g8 + 1 = g8) by omega)))
          | (refine wpList_store_at rfl _ _ _ rfl (g8 + 1) 0 Z rfl rfl 46 [] Z [] (by simpa using HC3.out) rfl rfl (by rw [iT, HZL.out]) HZO.out ?_; intro wA hbA hbutA; rw [List.nil_append, List.append_nil] at hbA)
          | fail)
        have HBA := Hid.mk' hbA
        have HB9 := Hid.mk' (hb9.but hbutA (show ¬ (g8 = g8 + 1) by omega))
        have hGA : Grow w4 wA := (HG9.out.then hbut9 (fun i hi e => by have := HG8E.out; omega)).then hbutA (fun i hi e => by have := HG8E.out; omega)
        have HGA := Hid.mk' (HG4.out.trans hGA)
        clear hb9 hbut9 hbA hbutA hGA HC1 HC2 HC3 HG9
        have HSA : Hid (∀ w', Calls Tryd.prog 17 #[.agg Z.toArray, .agg Z.toArray] w' fun r w'' => r = .returned (.bool true) ∧ Grow w' w'') := fun w' => by
          rw [HZE.out, ← tz_cells]
          have := rsameT_any (tz_tv w') (tz_tv w')
          simp only [decide_true] at this
          exact this
        obtain ⟨Y, hY⟩ : ∃ Y, Y = Z.toArray := ⟨_, rfl⟩
        have HYE := Hid.mk' hY
        rw [← hY] at HBZ HSA
        clear hY
        go_wp2_with (first
          | (refine wpList_load_cells rfl _ _ rfl ⟨g8, 0, none⟩ rfl Z _ HB9.out.cells0 Tryd.underlying46 rfl (by rw [iT, HZL.out]) ?_; rw [← HYE.out])
          | (refine wpList_build_run rfl _ [] rfl [] rfl (.agg Y) (HBZ.out _) ?_)
          | fail)
        refine Calls.mono (HSA.out _) ?_
        rintro e w8 ⟨rfl, hg8⟩
        have HG8 := Hid.mk' (HGA.out.trans hg8)
        have HBA8 := Hid.mk' (HBA.out.but hg8 (fun h => h))
        clear hg8 HBA HB9
        go_wp2_with (first
          | (refine wpList_load_cells_g rfl _ _ rfl ⟨g8 + 1, 0, none⟩ rfl Z _ HBA8.out.cells0 Tryd.underlying46 rfl (by rw [iT, HZL.out]) ?_; rw [← HYE.out])
          | (refine wpList_build_g rfl _ [] rfl [] rfl (.agg Y) (HBZ.out _) ?_)
          | fail)
        refine Calls.mono (HSA.out _) ?_
        rintro e wC ⟨rfl, hgC⟩
        have HGC := Hid.mk' (HG8.out.trans hgC)
        clear hgC HBA8
        go_wp2_with fail
        refine Calls.mono (awake_any wC) ?_
        rintro e wD ⟨rfl, hgD⟩
        go_wp2
        go_ret
        exact ⟨rfl, (HGC.out.trans hgD).below (Nat.le_refl _) (fun _ _ h => h)⟩
      · have hf := HF.out
        rw [← HLM.out] at hf
        cases hf.uniq hF2
    · have HF := Hid.mk' hF
      clear hF
      go_wp2_with fail
      refine Calls.mono HLC.out ?_
      rintro e w4 ⟨hg4, r, rfl, hti⟩
      rcases hti.ex with ⟨rfl, hF2⟩ | ⟨i2, j2, va, vz, ua, uz, rfl, hF2, hna, hnb⟩
      · have hf := HF.out
        rw [← HLM.out] at hf
        cases hf.uniq hF2
      · have hf := HF.out
        rw [← HLM.out] at hf
        cases hf.uniq hF2
        have hil := HF.out.1
        have hjl := HF.out.2.1
        obtain ⟨ei, hei⟩ : ∃ e, LS[i]? = some e := ⟨_, List.getElem?_eq_getElem (by omega)⟩
        obtain ⟨ej, hej⟩ : ∃ e, LS[j]? = some e := ⟨_, List.getElem?_eq_getElem (by omega)⟩
        rw [map_getD _ _ _ _ _ hei] at hna ⊢
        rw [map_getD _ _ _ _ _ hej] at hnb ⊢
        have HEI := Hid.mk' hei
        have HEJ := Hid.mk' hej
        have HG4 := Hid.mk' (HG3.out.trans hg4)
        have HT4 := Hid.mk' (HT3.out.then hg4)
        obtain ⟨C, hC⟩ : ∃ C, C = tcells ei.1 va vz := ⟨_, rfl⟩
        obtain ⟨D, hD⟩ : ∃ D, D = tcells ej.1 ua uz := ⟨_, rfl⟩
        have HCE := Hid.mk' hC
        have HDE := Hid.mk' hD
        have HCL : Hid (C.length = 15) := by show _ = _; rw [hC]; exact tcells_len hna.nl _ _
        have HDL : Hid (D.length = 15) := by show _ = _; rw [hD]; exact tcells_len hnb.nl _ _
        have HCO : Hid (∀ u ∈ C, u.oneCell' = true) := by show ∀ u ∈ C, _; rw [hC]; exact tcells_one hna.aad.bs.one hna.sea.bs.one
        have HDO : Hid (∀ u ∈ D, u.oneCell' = true) := by show ∀ u ∈ D, _; rw [hD]; exact tcells_one hnb.aad.bs.one hnb.sea.bs.one
        have HTA : Hid (Tv w4 (fun _ => True) ei.1 va vz) := ⟨hna.ep, hna.nl, hna.nt, ⟨hna.aad.bs, fun _ _ _ => trivial⟩, ⟨hna.sea.bs, fun _ _ _ => trivial⟩⟩
        have HTB : Hid (Tv w4 (fun _ => True) ej.1 ua uz) := ⟨hnb.ep, hnb.nl, hnb.nt, ⟨hnb.aad.bs, fun _ _ _ => trivial⟩, ⟨hnb.sea.bs, fun _ _ _ => trivial⟩⟩
        obtain ⟨g8, hg8⟩ : ∃ g, g = w4.heap.size := ⟨_, rfl⟩
        obtain ⟨W9, hW9⟩ : ∃ W, W = (w4.alloc (.cells Z.toArray 46)).alloc (.cells Z.toArray 46) := ⟨_, rfl⟩
        have HG9 : Hid (Grow w4 W9) := by show But _ _ _; rw [hW9]; exact ((But.refl _ w4).alloc _).alloc _
        have HC1 : Hid (Blk W9 g8 46 Z) := by show Blk _ _ _ _; rw [hW9]; exact (Blk.new hg8.symm).but ((But.refl (fun _ => False) _).alloc _) (fun h => h)
        have HC2 : Hid (Blk W9 (g8 + 1) 46 Z) := by show Blk _ _ _ _; rw [hW9]; exact Blk.new (by simp [hg8])
        have HW9 := Hid.mk' hW9
        have HG8E := Hid.mk' hg8
        have hi0 : (0 : Int) ≤ (i : Int) := by omega
        rw [← hC, ← hD]
        clear hC hD hna hnb hti hg4 hW9 hg8 HLC HT3 hF2 hf hei hej
        go_upto_region 6 with (first
          | (rw [← HW9.out, ← HG8E.out]; refine wpList_store_at rfl _ _ _ rfl g8 0 C rfl rfl 46 [] Z [] (by simpa using HC1.out) rfl (by rw [HZL.out, HCL.out]) (by rw [iT, HCL.out]) HCO.out ?_; intro w9 hb9 hbut9; rw [List.nil_append, List.append_nil] at hb9; have HC3 := Hid.mk' (HC2.out.but hbut9 (show ¬ (g8 + 1 = g8) by omega)))
          | (refine wpList_store_at rfl _ _ _ rfl (g8 + 1) 0 D rfl rfl 46 [] Z [] (by simpa using HC3.out) rfl (by rw [HZL.out, HDL.out]) (by rw [iT, HDL.out]) HDO.out ?_; intro wA hbA hbutA; rw [List.nil_append, List.append_nil] at hbA)
          | fail)
        have HBA := Hid.mk' hbA
        have HB9 := Hid.mk' (hb9.but hbutA (show ¬ (g8 = g8 + 1) by omega))
        have hGA : Grow w4 wA := (HG9.out.then hbut9 (fun i hi e => by have := HG8E.out; omega)).then hbutA (fun i hi e => by have := HG8E.out; omega)
        have HGA := Hid.mk' (HG4.out.trans hGA)
        have HTT := Hid.mk' (HT4.out.then hGA)
        have HTA7 := Hid.mk' (HTA.out.but (R := fun _ => False) hGA (fun _ _ h => h))
        have HTB7 := Hid.mk' (HTB.out.but (R := fun _ => False) hGA (fun _ _ h => h))
        clear hb9 hbut9 hbA hbutA hGA HC1 HC2 HC3 HG9 HTA HTB HT4
        obtain ⟨ao, cap, rfl, -⟩ := HTT.out.ref.sea.at (But.refl _ wA)
        have HAT : Hid (∀ w', Grow wA w' → ∀ i e, LS[i]? = some e → ∃ g, ao = some ⟨g, 0, none⟩ ∧ Tv w' (· < w1.heap.size) e.1 e.2.1 e.2.2 ∧ ∀ c u, (tc e)[c]? = some u → w'.cell? ((⟨g, i * 15, none⟩ : Addr).add c) = some u) := fun w' hw => by
          obtain ⟨ao', cap', e1, h2⟩ := HTT.out.ref.sea.at hw
          cases e1
          exact h2
        obtain ⟨g, rfl, -, -⟩ := HAT.out wA (But.refl _ wA) i ei HEI.out
        have HCI : Hid (∀ w', Grow wA w' → Tv w' (· < w1.heap.size) ei.1 ei.2.1 ei.2.2 ∧ ∀ c u, (tc ei)[c]? = some u → w'.cell? ((⟨g, i * 15, none⟩ : Addr).add c) = some u) := fun w' hw => by
          obtain ⟨g', eg, h⟩ := HAT.out w' hw i ei HEI.out
          cases eg; exact h
        have HCJ : Hid (∀ w', Grow wA w' → Tv w' (· < w1.heap.size) ej.1 ej.2.1 ej.2.2 ∧ ∀ c u, (tc ej)[c]? = some u → w'.cell? ((⟨g, j * 15, none⟩ : Addr).add c) = some u) := fun w' hw => by
          obtain ⟨g', eg, h⟩ := HAT.out w' hw j ej HEJ.out
          cases eg; exact h
        obtain ⟨n3, hn3⟩ : ∃ m, m = LS.length := ⟨_, rfl⟩
        have HN3 := Hid.mk' hn3
        have hi1 : (i : Int) < (n3 : Int) := by omega
        have hj1 : (j : Int) < (n3 : Int) := by omega
        obtain ⟨B1, hB1⟩ : ∃ B, B = C.toArray := ⟨_, rfl⟩
        obtain ⟨B2, hB2⟩ : ∃ B, B = (tc ei).toArray := ⟨_, rfl⟩
        obtain ⟨B3, hB3⟩ : ∃ B, B = D.toArray := ⟨_, rfl⟩
        obtain ⟨B4, hB4⟩ : ∃ B, B = (tc ej).toArray := ⟨_, rfl⟩
        have HSA : Hid (∀ w', Grow wA w' → Calls Tryd.prog 17 #[.agg B1, .agg B2] w' fun r w'' => r = .returned (.bool true) ∧ Grow w' w'') := fun w' hw => by
          rw [hB1, hB2, HCE.out]
          have := rsameT_any (HTA7.out.but (R := fun _ => False) hw (fun _ _ h => h)) (HCI.out w' hw).1
          simp only [decide_true] at this
          exact this
        have HSB : Hid (∀ w', Grow wA w' → Calls Tryd.prog 17 #[.agg B3, .agg B4] w' fun r w'' => r = .returned (.bool true) ∧ Grow w' w'') := fun w' hw => by
          rw [hB3, hB4, HDE.out]
          have := rsameT_any (HTB7.out.but (R := fun _ => False) hw (fun _ _ h => h)) (HCJ.out w' hw).1
          simp only [decide_true] at this
          exact this
        have HB1 := Hid.mk' hB1
        have HB2 := Hid.mk' hB2
        have HB3 := Hid.mk' hB3
        have HB4 := Hid.mk' hB4
        clear hB1 hB2 hB3 hB4 hn3 HAT hil hjl
        go_upto_region 10 with fail
        refine region_chain [] [0, 1, 2, 3, 4, 5, 6, 7, 8, 9, 10, 11, 12, 13, 14, 15, 16, 17, 18, 19, 20, 21, 22, 23] (Grow wA) (Grow wA) (by kernel_rfl) (by kernel_rfl) (fun _ _ h k => h.trans k) (fun _ h => h) ((But.refl _ wA).drew) ?_
        intro ι hne X hX
        have c1 : ∀ x, (X x).cell? ⟨gx, 1, none⟩ = some (.slice (some ⟨g, 0, none⟩) n3 cap) := fun x => by rw [HN3.out]; exact (HTT.out.ref.blk.but (hX x) (fun h => h)).cell 1
        refine still_val rfl (.agg B1) rfl (fun x => by rw [HB1.out]; exact run_load_tup (HB9.out.but (hX x) (fun h => h)).cells0 HCL.out rfl rfl) ?_
        intro K hK; go_simp; refine hK _ ?_; clear hK K
        iterate 6 (refine still_step rfl (fun K hK => ?_); go_simp; refine hK _ ?_; clear hK K)
        refine still_val rfl (.agg B2) rfl (fun x => by rw [HB2.out]; exact run_load_tup (HCI.out _ (hX x)).2 (tc_len (HCI.out _ (hX x)).1) rfl rfl) ?_
        intro K hK; go_simp; refine hK _ ?_; clear hK K
        refine still_call rfl (.bool true) 17 #[.agg B1, .agg B2] rfl (fun x => by kernel_rfl) (fun x => HSA.out _ (hX x)) ?_
        intro K hK; go_simp; refine hK _ ?_; clear hK K
        iterate 1 (refine still_step rfl (fun K hK => ?_); go_simp; refine hK _ ?_; clear hK K)
        refine still_val rfl (.agg B3) rfl (fun x => by rw [HB3.out]; exact run_load_tup (HBA.out.but (hX x) (fun h => h)).cells0 HDL.out rfl rfl) ?_
        intro K hK; go_simp; refine hK _ ?_; clear hK K
        iterate 6 (refine still_step rfl (fun K hK => ?_); go_simp; refine hK _ ?_; clear hK K)
        refine still_val rfl (.agg B4) rfl (fun x => by rw [HB4.out]; exact run_load_tup (HCJ.out _ (hX x)).2 (tc_len (HCJ.out _ (hX x)).1) rfl rfl) ?_
        intro K hK; go_simp; refine hK _ ?_; clear hK K
        refine still_call rfl (.bool true) 17 #[.agg B3, .agg B4] rfl (fun x => by kernel_rfl) (fun x => HSB.out _ (hX x)) ?_
        intro K hK; go_simp; refine hK _ ?_; clear hK K
        iterate 2 (refine still_step rfl (fun K hK => ?_); go_simp; refine hK _ ?_; clear hK K)
        refine still_call rfl (.bool true) 10 #[] rfl (fun x => by kernel_rfl) (fun x => awake_any _) ?_
        intro K hK; go_simp; refine hK _ ?_; clear hK K
        iterate 2 (refine still_step rfl (fun K hK => ?_); go_simp; refine hK _ ?_; clear hK K)
        refine still_nil ?_
        clear c1 hX hne
        intro w' hw'
        have HW' := Hid.mk' (HGA.out.trans hw')
        clear hw'
        go_wp2
        go_ret
        exact ⟨rfl, HW'.out.below (Nat.le_refl _) (fun _ _ h => h)⟩
end Go.Proofs.YthpgjbblbhjndaaDoor
