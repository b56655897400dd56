/- GhostNil: the walk. -/
import Derived.Test.YthpgjbblbhjndaaDoorGhViews
import Derived.Test.YthpgjbblbhjndaaDoorShaRefOf
namespace Go.Proofs.YthpgjbblbhjndaaDoor
open Go.RowKit

def D1 : List Nat := 1 :: List.replicate 31 0
theorem D1_build (w : World) : (Instr.build 35 #[(0, .int .u8 1)]).run Tryd.prog w = .ok (dkey D1) w := run_build w _ _ _ (by kernel_rfl)
theorem ps1 {w : World} {ao : Option Addr} {n cap : Nat} {xs : List Nat} (h : Bs w (.slice ao n cap) xs) : Ps (w.alloc (.cells #[.slice ao n cap] 31)) (.slice (some ⟨w.heap.size, 0, none⟩) 1 1) [xs] := by
  have hal : Grow w (w.alloc (.cells #[.slice ao n cap] 31)) := (But.refl _ w).alloc _
  refine .inr ⟨by simp, w.heap.size, 0, 1, rfl, by simp, fun i hi => ?_⟩
  obtain rfl : i = 0 := by simpa using hi
  have hb : Blk (w.alloc (.cells #[.slice ao n cap] 31)) w.heap.size 31 [.slice ao n cap] := Blk.new (L := [.slice ao n cap]) rfl
  exact ⟨_, by rw [Nat.add_zero, hb.cell]; rfl, h.but hal (fun _ _ _ h => h)⟩
set_option maxRecDepth 100000 in
set_option maxHeartbeats 8000000 in
theorem ghostNil_walk (v0 : Value) (xs : List Nat) (T : Tup) (va vs : Value) (w : World) (hk : Kw w) (hh : Hw w) (h0 : Bs w v0 xs ∧ xs.length ≤ 140737488351232) (ht : Tv w (fun _ => True) T va vs) :
    Calls Tryd.prog 8 #[v0, .agg (tcells T va vs).toArray] w fun e w' => e = .returned (.bool true) ∧ Below w.heap.size w w' := by
  obtain ⟨h0, hl0⟩ := h0
  obtain ⟨ao, cap, hv0, -, -⟩ := h0.gen
  obtain ⟨A, hA⟩ : ∃ A, A = (tcells T va vs).toArray := ⟨_, rfl⟩
  rw [← hA]
  obtain ⟨n, hn⟩ : ∃ n, n = xs.length := ⟨_, rfl⟩
  rw [← hn] at hv0 hl0
  subst hv0
  have HN := Hid.mk' hn
  have H0 := Hid.mk' h0
  have HA := Hid.mk' hA
  have HK := Hid.mk' hk
  have HH := Hid.mk' hh
  have HNL := Hid.mk' ht.nl
  have HB0 : Hid (Blk (w.alloc (.cells A 46)) w.heap.size 46 (tcells T va vs)) := by show Blk _ _ _ _; rw [hA]; exact Blk.new rfl
  have HG0 : Hid (Grow w (w.alloc (.cells A 46))) := (But.refl _ w).alloc _
  clear hn h0 hA hk hh ht
  by_cases hbig : (20000 : Int) < (n : Int)
  · go_enter Tryd.func8, Tryd.ntmps8
    go_wp2_with fail
    refine Calls.mono (awake_any _) ?_
    rintro e w1 ⟨rfl, hg1⟩
    go_wp2
    go_ret
    exact ⟨rfl, (HG0.out.trans hg1).below (Nat.le_refl _) (fun _ _ h => h)⟩
  · have hnn : n ≤ 20000 := by omega
    have HNN := Hid.mk' hnn
    have hd1 := Hid.mk' D1_build
    obtain ⟨K1, hK1⟩ : ∃ K, K = dkey D1 := ⟨_, rfl⟩
    rw [← hK1] at hd1
    have HK1 : Hid (∃ D, K1 = .agg D) := ⟨_, hK1⟩
    obtain ⟨Z, hZ⟩ : ∃ Z, Z = zeroT := ⟨_, rfl⟩
    have hz := zT
    rw [← hZ] at hz
    have HZL : Hid (Z.length = 15) := by show _ = _; rw [hZ]; rfl
    have HZE := Hid.mk' hZ
    have HONEZ : Hid (∀ u ∈ Z, u.oneCell' = true) := by show ∀ u ∈ Z, u.oneCell' = true; rw [hZ]; exact zeroT_one
    have HBZ : Hid (∀ w', (Instr.build 46 #[]).run Tryd.prog w' = .ok (.agg Z.toArray) w') := fun w' => by rw [hZ]; exact bz w'
    obtain ⟨W0, hW0⟩ : ∃ W, W = w.alloc (.cells A 46) := ⟨_, rfl⟩
    obtain ⟨g0, hg0⟩ : ∃ g, g = w.heap.size := ⟨_, rfl⟩
    rw [← hW0, ← hg0] at HB0
    rw [← hW0] at HG0
    have HW0 := Hid.mk' hW0
    have HGE := Hid.mk' hg0
    clear hnn hK1 hZ hW0 hg0
    go_enter Tryd.func8, Tryd.ntmps8
    go_wp2_with (first
      | (refine wpList_build_run rfl _ [_] rfl [(0, .int .u8 1)] rfl K1 (hd1.out _) ?_)
      | fail)
    rw [← HW0.out, ← HGE.out]
    refine Calls.mono (note_nil _ K1 W0 HK1.out) ?_
    rintro e w1 ⟨rfl, hg1⟩
    have HG1 := Hid.mk' (HG0.out.trans hg1)
    have HB1 := Hid.mk' (HB0.out.but hg1 (fun h => h))
    clear hg1 HB0 HG0 HW0
    go_wp2_with (first
      | (refine wpList_load_cells rfl _ _ rfl ⟨g0, 0, none⟩ rfl (tcells T va vs) _ HB1.out.cells0 Tryd.underlying46 rfl (by rw [iT, tcells_len HNL.out]) ?_; rw [← HA.out])
      | fail)
    refine Calls.mono (sealed_nil (.agg A) w1 ⟨_, rfl⟩) ?_
    rintro e w2 ⟨rfl, hg2⟩
    have HG2 := Hid.mk' (HG1.out.trans hg2)
    have HB2 := Hid.mk' (HB1.out.but hg2 (fun h => h))
    clear hg2 HB1 HG1
    go_wp2_with (first
      | (refine wpList_load_cells rfl _ _ rfl ⟨g0, 0, none⟩ rfl (tcells T va vs) _ HB2.out.cells0 Tryd.underlying46 rfl (by rw [iT, tcells_len HNL.out]) ?_; rw [← HA.out])
      | fail)
    refine Calls.mono (opened_nil (.agg A) w2 ⟨_, rfl⟩) ?_
    rintro e w3 ⟨rfl, hg3⟩
    have HG3 := Hid.mk' (HG2.out.trans hg3)
    clear hg3 HB2 HG2
    go_wp2_with fail
    refine Calls.mono (count_nil w3) ?_
    rintro e w4 ⟨rfl, hg4⟩
    have HG4 := Hid.mk' (HG3.out.trans hg4)
    clear hg4 HG3
    go_wp2_with fail
    refine Calls.mono (clash_nil w4) ?_
    rintro e w5 ⟨rfl, hg5⟩
    have HG5 := Hid.mk' (HG4.out.trans hg5)
    clear hg5 HG4
    unfold noClash
    go_wp2_with fail
    refine Calls.mono (forged_nil w5) ?_
    rintro e w6 ⟨rfl, hg6⟩
    have HG6 := Hid.mk' (HG5.out.trans hg6)
    unfold noStray
    rw [← HZE.out]
    have HBY : Hid (Blk (w6.alloc (.cells Z.toArray 46)) w6.heap.size 46 Z) := Blk.new rfl
    clear hg6 HG5
    go_upto_region 10 with (first
      | (refine wpList_store_at rfl _ _ _ rfl w6.heap.size 0 Z rfl rfl 46 [] Z [] (by simpa using HBY.out) rfl rfl (by rw [iT, HZL.out]) HONEZ.out ?_; intro w7 hb7 hbut7; rw [List.nil_append, List.append_nil] at hb7)
      | fail)
    obtain ⟨g7, hg7⟩ : ∃ g, g = w6.heap.size := ⟨_, rfl⟩
    rw [← hg7] at hb7 hbut7 ⊢
    have hG7 : Grow w6 w7 := ((But.refl _ w6).alloc _).then hbut7 (fun i hi e => by omega)
    have HG7 := Hid.mk' (HG6.out.trans hG7)
    have HU7 := Hid.mk' hb7
    clear hb7 hbut7 hg7 hG7 HG6 HBY
    go_wp2_with fail
    refine Calls.mono (twice_off w7 _ (.inl rfl)) ?_
    rintro e w8 ⟨rfl, hg8⟩
    have HG8 := Hid.mk' (HG7.out.trans hg8)
    have HU8 := Hid.mk' (HU7.out.but hg8 (fun h => h))
    unfold noTwice
    rw [← HZE.out]
    clear hg8 HG7 HU7
    obtain ⟨g8, hg8⟩ : ∃ g, g = w8.heap.size := ⟨_, rfl⟩
    obtain ⟨W9, hW9⟩ : ∃ W, W = ((w8.alloc (.cells Z.toArray 46)).alloc (.cells Z.toArray 46)) := ⟨_, rfl⟩
    have HGW9 : Hid (Grow w8 W9) := by show But _ _ _; rw [hW9]; exact ((But.refl _ w8).alloc _).alloc _
    have HC1 : Hid (Blk W9 g8 46 Z) := by show Blk _ _ _ _; rw [hW9]; exact (Blk.new hg8.symm).but ((But.refl (fun _ => False) _).alloc _) (fun h => h)
    have HC2 : Hid (Blk W9 (g8 + 1) 46 Z) := by show Blk _ _ _ _; rw [hW9]; exact Blk.new (by simp [hg8])
    have HG8E := Hid.mk' hg8
    have HW9 := Hid.mk' hW9
    clear hg8 hW9
    go_upto_region 12 with (first
      | (refine wpList_build_run rfl _ [] rfl [] rfl (.agg Z.toArray) (HBZ.out _) ?_)
      | (rw [← HW9.out, ← HG8E.out]; refine wpList_store_at rfl _ _ _ rfl g8 0 Z rfl rfl 46 [] Z [] (by simpa using HC1.out) rfl rfl (by rw [iT, HZL.out]) HONEZ.out ?_; intro w9 hb9 hbut9; rw [List.nil_append, List.append_nil] at hb9; have HC3 := Hid.mk' (HC2.out.but hbut9 (show ¬ (g8 + 1 = g8) by omega)))
      | (refine wpList_store_at rfl _ _ _ rfl (g8 + 1) 0 Z rfl rfl 46 [] Z [] (by simpa using HC3.out) rfl rfl (by rw [iT, HZL.out]) HONEZ.out ?_; intro wA hbA hbutA; rw [List.nil_append, List.append_nil] at hbA; have HC4 : Hid (Blk (wA.alloc (.cells Z.toArray 46)) wA.heap.size 46 Z) := Blk.new rfl)
      | (refine wpList_store_at rfl _ _ _ rfl wA.heap.size 0 Z rfl rfl 46 [] Z [] (by simpa using HC4.out) rfl rfl (by rw [iT, HZL.out]) HONEZ.out ?_; intro wB hbB hbutB; rw [List.nil_append, List.append_nil] at hbB)
      | fail)
    obtain ⟨gB, hgB⟩ : ∃ g, g = wA.heap.size := ⟨_, rfl⟩
    rw [← hgB] at hbB hbutB ⊢
    have hg8e := HG8E.out
    have hGA : Grow w8 wA := (HGW9.out.then hbut9 (fun i hi e => by omega)).then hbutA (fun i hi e => by omega)
    have hGB : Grow wA wB := ((But.refl _ wA).alloc _).then hbutB (fun i hi e => by omega)
    have HGB := Hid.mk' ((HG8.out.trans hGA).trans hGB)
    have HL : Hid (∀ w', Grow wB w' → Blk w' g7 46 Z ∧ Blk w' g8 46 Z ∧ Blk w' (g8 + 1) 46 Z ∧ Blk w' gB 46 Z) := fun w' hw =>
      ⟨(HU8.out.but (hGA.trans hGB) (fun h => h)).but hw (fun h => h), ((hb9.but hbutA (show ¬ (g8 = g8 + 1) by omega)).but hGB (fun h => h)).but hw (fun h => h), (hbA.but hGB (fun h => h)).but hw (fun h => h), hbB.but hw (fun h => h)⟩
    have HSM : Hid (∀ w', Calls Tryd.prog 17 #[.agg Z.toArray, .agg Z.toArray] w' fun e w'' => e = .returned (.bool true) ∧ Grow w' w'') := fun w' => by
      have := rsameT_any (tz_tv w') (tz_tv w')
      rw [HZE.out, ← tz_cells]
      simpa using this
    have HBD := Hid.mk' (H0.out.but HGB.out (fun _ _ _ h => h))
    have hps := ps1 HBD.out
    have HHS := Hid.mk' (hash_nil hps ((HK.out.but HGB.out (fun h => h)).but (R := fun _ => False) ((But.refl _ wB).alloc _) (fun h => h)) ((HH.out.but HGB.out (fun h => h)).but (R := fun _ => False) ((But.refl _ wB).alloc _) (fun h => h)) (by have := HNN.out; have := HN.out; simp; omega) (by simp))
    have hfl : ([xs] : List (List Nat)).flatten = xs := by simp
    rw [hfl] at HHS
    obtain ⟨D, hD⟩ : ∃ D, D = digest xs := ⟨_, rfl⟩
    have HDL : Hid (D.length = 32) := by show _ = _; rw [hD]; exact (digest_wf xs).1
    obtain ⟨N, hN⟩ : ∃ N, N = (u8s D).toArray := ⟨_, rfl⟩
    have HDK : Hid (dkey (digest xs) = .agg N) := by show _ = _; rw [hN, hD]; rfl
    rw [HDK.out] at HHS
    have HOF : Hid (∀ w', Grow wB w' → Calls Tryd.prog 24 #[.slice ao n cap] w' fun e w'' => e = .returned (.agg N) ∧ Grow w' w'') := fun w' hw => by
      have := refOf_any (HBD.out.but hw (fun _ _ _ h => h)) (by have := HNN.out; have := HN.out; omega)
      rw [← hD, ← hN] at this
      exact this
    have heq : ∀ w', (Op.equalIn 10000 35 (.agg N) (.agg N)).run Tryd.prog w' = .ok true w' := fun w' => by
      rw [hN]
      have := equalN (n := 32) ukt D D HDL.out HDL.out w'
      simpa using this
    clear hb9 hbut9 hbA hbutA hbB hbutB hgB hg8e hGA hGB hps hfl hD hN HC1 HC2 HC3 HC4 HGW9 HW9 HU8 HG8 hz
    go_wp2_with fail
    refine Calls.mono HHS.out ?_
    rintro e wC ⟨rfl, hwC⟩
    have HwC : Hid (Grow wB wC) := ((But.refl _ wB).alloc _).trans hwC
    clear hwC HHS
    go_wp2_with fail
    refine Calls.mono (HOF.out wC HwC.out) ?_
    rintro e wD ⟨rfl, hwD⟩
    have HwD : Hid (Grow wB wD) := HwC.out.trans hwD
    clear hwD
    go_wp2_with (first
      | (refine wpList_load_cells_g rfl _ _ rfl ⟨g7, 0, none⟩ rfl Z _ (HL.out wD HwD.out).1.cells0 Tryd.underlying46 rfl (by rw [iT, HZL.out]) ?_)
      | (refine wpList_load_cells_g rfl _ _ rfl ⟨gB, 0, none⟩ rfl Z _ (HL.out wD HwD.out).2.2.2.cells0 Tryd.underlying46 rfl (by rw [iT, HZL.out]) ?_)
      | fail)
    refine Calls.mono (HSM.out wD) ?_
    rintro e wE ⟨rfl, hwE⟩
    have HwE : Hid (Grow wB wE) := HwD.out.trans hwE
    clear hwE
    go_wp2_with (first
      | (refine wpList_load_cells_g rfl _ _ rfl ⟨g8, 0, none⟩ rfl Z _ (HL.out wE HwE.out).2.1.cells0 Tryd.underlying46 rfl (by rw [iT, HZL.out]) ?_)
      | (refine wpList_load_cells_g rfl _ _ rfl ⟨gB, 0, none⟩ rfl Z _ (HL.out wE HwE.out).2.2.2.cells0 Tryd.underlying46 rfl (by rw [iT, HZL.out]) ?_)
      | fail)
    refine Calls.mono (HSM.out wE) ?_
    rintro e wF ⟨rfl, hwF⟩
    have HwF : Hid (Grow wB wF) := HwE.out.trans hwF
    clear hwF
    go_wp2_with (first
      | (refine wpList_load_cells_g rfl _ _ rfl ⟨g8 + 1, 0, none⟩ rfl Z _ (HL.out wF HwF.out).2.2.1.cells0 Tryd.underlying46 rfl (by rw [iT, HZL.out]) ?_)
      | (refine wpList_load_cells_g rfl _ _ rfl ⟨gB, 0, none⟩ rfl Z _ (HL.out wF HwF.out).2.2.2.cells0 Tryd.underlying46 rfl (by rw [iT, HZL.out]) ?_)
      | fail)
    refine Calls.mono (HSM.out wF) ?_
    rintro e wG ⟨rfl, hwG⟩
    have HwG : Hid (Grow wB wG) := HwF.out.trans hwG
    clear hwG
    go_wp2_with fail
    refine Calls.mono (blocks_nil wG) ?_
    rintro e wH ⟨rfl, hwH⟩
    have HwH : Hid (Grow wB wH) := HwG.out.trans hwH
    clear hwH
    go_wp2_with fail
    refine Calls.mono (awake_any wH) ?_
    rintro e wI ⟨rfl, hwI⟩
    have HwI : Hid (Grow w wI) := HGB.out.trans (HwH.out.trans hwI)
    clear hwI
    go_wp2
    go_ret
    exact ⟨rfl, HwI.out.below (Nat.le_refl _) (fun _ _ h => h)⟩
end Go.Proofs.YthpgjbblbhjndaaDoor
