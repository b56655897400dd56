/- CountSets: an entry that is set is had, all others stay; what is wrong is refused as the document says. For every input. -/
import Derived.Test.YtffiphdbjohilaaCtEq
namespace Go.Proofs.Ytffiphdbjohilaa
open Go.ChangeShapes Go.WideShapes Go.ChangeAt Go.RowKit Go.Deep

set_option maxRecDepth 100000 in
set_option maxHeartbeats 8000000 in
theorem csets_no (ao : Option Addr) (n cap : Nat) (zs : List Nat) (i : Int) (x : En) (w : World) (hv : Bs w (.slice ao n cap) zs) (hn : n = zs.length) (hl : n ≤ 140737488351232) (hr : rfa n i ≠ 0) :
    Calls Try.prog 6 #[.slice ao n cap, .int .i64 i, evalE x] w fun e w' => e = .returned (.bool true) ∧ Below w.heap.size w w' := by
  obtain ⟨E, B, S⟩ := x
  have hze := zeroE
  obtain ⟨W0, hW0⟩ : ∃ W0, W0 = w.alloc (.cells #[.int .u32 (E : Int), .int .u32 (B : Int), .int .u64 (S : Int)] 39) := ⟨_, rfl⟩
  obtain ⟨g, hg⟩ : ∃ g, g = w.heap.size := ⟨_, rfl⟩
  have HT0 : Hid (Grow w W0) := by rw [hW0]; exact (But.refl _ _).alloc _
  have HX0 : Hid (Blk W0 g 39 (ecells ⟨E, B, S⟩)) := by rw [hW0]; exact Blk.new hg.symm
  have HV0 := Hid.mk' (hv.but HT0.out (fun _ _ _ h => h))
  have HL := Hid.mk' (lent_any HV0.out (by omega))
  rw [← hn] at HL
  have HN := Hid.mk' hn
  have HW0 := Hid.mk' hW0
  have HG := Hid.mk' hg
  have HF : Hid (∀ w, Calls Try.prog 14 #[.slice ao n cap, .int .i64 i] w fun r w' => r = .returned (.int .i64 (rfa n i)) ∧ w' = w) := fun w => rfault_any
  have HS : Hid (∀ w g, Calls Try.prog 17 #[.slice (some ⟨g, 0, none⟩) n (n + 3), .int .i64 i, evalE ⟨E, B, S⟩] w fun r w' => r = .returned (.tuple #[.slice none 0 0, .int .i64 (rfa n i)]) ∧ But (fun _ => False) w w') := fun w g => set_no _ hr
  have HGT : Hid (∀ w g, Calls Try.prog 18 #[.slice (some ⟨g, 0, none⟩) n (n + 3), .int .i64 i] w fun r w' => r = .returned (.tuple #[evalE ⟨0, 0, 0⟩, .int .i64 (rfa n i)]) ∧ But (fun _ => False) w w') := fun w g => get_no hr
  obtain ⟨R, hR⟩ : ∃ R, R = rfa n i := ⟨_, rfl⟩
  rw [← hR] at HF HS HGT hr
  have r1 : (R != 0) = true := by simpa using hr
  clear hR hr hn hW0 hg hv
  show Calls _ _ #[_, _, .agg #[_, _, _]] _ _
  go_enter Try.func6, Try.ntmps6
  go_upto_region 1 with fail
  rw [← HW0.out, ← HG.out]
  go_wp2_with fail
  refine Calls.mono HL.out ?_
  rintro e w1 ⟨gi, rfl, hgi, how, hb1⟩
  have HOW := Hid.mk' how
  have HT1 : Hid (Grow W0 w1) := But.of hb1
  have HX1 := Hid.mk' (HX0.out.but HT1.out (fun h => h))
  clear how hb1 HL hgi
  go_wp2_with fail
  refine Calls.mono (HF.out _) ?_
  rintro e w2 ⟨rfl, hw2⟩
  have hw4 := hw2.symm
  subst hw4
  go_wp2_with (refine wpList_load_cells rfl _ _ rfl ⟨g, 0, none⟩ rfl (ecells ⟨E, B, S⟩) _ HX1.out.cells0 Try.underlying39 rfl (by rw [iEn]; rfl) ?_)
  refine Calls.mono (HS.out _ _) ?_
  rintro e w2 ⟨rfl, ht2⟩
  have HT2 := Hid.mk' ht2
  clear ht2 hw2
  go_wp2_with fail
  refine Calls.mono (HGT.out _ _) ?_
  rintro e w3 ⟨rfl, ht3⟩
  have HT3 := Hid.mk' ht3
  have HQ3 : Hid (Blk (w3.alloc (.cells #[.int .u32 0, .int .u32 0, .int .u64 0] 39)) w3.heap.size 39 ([] ++ [.int .u32 0, .int .u32 0, .int .u64 0] ++ [])) := Blk.new rfl
  clear ht3
  go_upto_region 5 with (refine wpList_store_at rfl _ _ _ rfl w3.heap.size 0 (ecells ⟨0, 0, 0⟩) rfl (by exact rfl) 39 [] [.int .u32 0, .int .u32 0, .int .u64 0] [] HQ3.out rfl rfl (by rw [iEn]; rfl) (ecells_one _) ?_; intro w4 hb4 hbut4)
  have hb4' : Blk w4 w3.heap.size 39 (ecells ⟨0, 0, 0⟩) := by simpa using hb4
  have hsz : W0.heap.size ≤ w3.heap.size := Nat.le_trans HT1.out.size (Nat.le_trans HT2.out.size HT3.out.size)
  have hT4 : But (· = w3.heap.size) w3 w4 := ((But.refl _ _).alloc _).trans hbut4
  have HTT : Hid (Grow W0 w4) := ((HT1.out.trans HT2.out).trans HT3.out).then hT4 (fun j hj e => by omega)
  have HT14 : Hid (Grow w1 w4) := (HT2.out.trans HT3.out).then hT4 (fun j hj e => by
    have h2 := HT2.out.size
    have h3 := HT3.out.size
    omega)
  have HKE := Hid.mk' (kept_true (w := w4) (base := W0.heap.size) (g := gi) (HV0.out.but HTT.out (fun _ _ _ h => h)) (by rw [← HN.out]; exact HOW.out.but HT14.out (fun _ _ _ h => h)))
  rw [← HN.out] at HKE
  have HB4 := Hid.mk' hb4'
  clear hb4 hbut4 hb4' hsz hT4
  go_wp2_with fail
  refine Calls.mono HKE.out ?_
  rintro e w5 ⟨rfl, d, rfl⟩
  obtain ⟨W5, hW5⟩ : ∃ W5, W5 = w4.drewN d := ⟨_, rfl⟩
  rw [← hW5]
  have hg5 : Grow w4 W5 := by rw [hW5]; exact (But.refl _ _).drewN
  have hb5 := HB4.out.but hg5 (fun h => h)
  have c0 : W5.cell? ⟨w3.heap.size, 0, none⟩ = some (.int .u32 0) := by rw [hb5.cell]; rfl
  have c1 : W5.cell? ⟨w3.heap.size, 1, none⟩ = some (.int .u32 0) := by rw [hb5.cell]; rfl
  have c2 : W5.cell? ⟨w3.heap.size, 2, none⟩ = some (.int .u64 0) := by rw [hb5.cell]; rfl
  have HT5 : Hid (Grow w W5) := (HT0.out.trans HTT.out).trans hg5
  have heq : (Op.equalIn 10000 39 (.agg #[.int .u32 0, .int .u32 0, .int .u64 0]) (.agg #[.int .u32 0, .int .u32 0, .int .u64 0])).run Try.prog W5 = .ok true W5 := equalEn ⟨0, 0, 0⟩ W5
  clear hW5 hg5 hb5
  go_wp2_with fail
  refine Calls.mono (cawake_any _) ?_
  rintro e w6 ⟨rfl, ht6⟩
  have HT6 := Hid.mk' (HT5.out.trans ht6)
  clear ht6
  go_wp2
  go_ret
  exact ⟨rfl, HT6.out.below (Nat.le_refl _) (fun _ _ h => h)⟩
set_option maxRecDepth 100000 in
set_option maxHeartbeats 12000000 in
theorem csets_ok (ao : Option Addr) (cap : Nat) (zs : List Nat) (i : Nat) (x : En) (w : World) (hv : Bs w (.slice ao 256 cap) zs) (hn : zs.length = 256) (hi : i < 16) (hx : x.ok) :
    Calls Try.prog 6 #[.slice ao 256 cap, .int .i64 (i : Int), evalE x] w fun e w' => e = .returned (.bool true) ∧ Below w.heap.size w w' := by
  obtain ⟨E, B, S⟩ := x
  have hze := zeroE
  obtain ⟨W0, hW0⟩ : ∃ W0, W0 = w.alloc (.cells #[.int .u32 (E : Int), .int .u32 (B : Int), .int .u64 (S : Int)] 39) := ⟨_, rfl⟩
  obtain ⟨g, hg⟩ : ∃ g, g = w.heap.size := ⟨_, rfl⟩
  have HT0 : Hid (Grow w W0) := by rw [hW0]; exact (But.refl _ _).alloc _
  have HX0 : Hid (Blk W0 g 39 (ecells ⟨E, B, S⟩)) := by rw [hW0]; exact Blk.new hg.symm
  have HV0 := Hid.mk' (hv.but HT0.out (fun _ _ _ h => h))
  have HL := Hid.mk' (lent_any HV0.out (by omega))
  rw [hn] at HL
  have HN := Hid.mk' hn
  have HW0 := Hid.mk' hW0
  have HG := Hid.mk' hg
  have HOK := Hid.mk' hx
  have HF : Hid (∀ w, Calls Try.prog 14 #[.slice ao 256 cap, .int .i64 (i : Int)] w fun r w' => r = .returned (.int .i64 0) ∧ w' = w) := fun w => by
    have := rfault_any (w := w) (ao := ao) (n := 256) (cap := cap) (i := (i : Int))
    rwa [show rfa 256 (i : Int) = 0 by simp [rfa]; omega] at this
  clear hn hW0 hg hv hx
  show Calls _ _ #[_, _, .agg #[_, _, _]] _ _
  go_enter Try.func6, Try.ntmps6
  go_upto_region 1 with fail
  rw [← HW0.out, ← HG.out]
  go_wp2_with fail
  refine Calls.mono HL.out ?_
  rintro e w1 ⟨gi, rfl, hgi, how, hb1⟩
  have HOW := Hid.mk' how
  have HT1 : Hid (Grow W0 w1) := But.of hb1
  have HX1 := Hid.mk' (HX0.out.but HT1.out (fun h => h))
  have HIN : Hid (Bs w1 (.slice (some ⟨gi, 0, none⟩) 256 259) zs) := by
    have := how.prefix (c' := 256 + 3) (by rw [HN.out]; omega)
    rwa [HN.out] at this
  have HS := Hid.mk' (set_any (i := i) ⟨E, B, S⟩ HOK.out HIN.out HN.out hi)
  clear how hb1 HL hgi
  go_wp2_with fail
  refine Calls.mono (HF.out _) ?_
  rintro e w2 ⟨rfl, hw2⟩
  have hw4 := hw2.symm
  subst hw4
  go_wp2_with (refine wpList_load_cells rfl _ _ rfl ⟨g, 0, none⟩ rfl (ecells ⟨E, B, S⟩) _ HX1.out.cells0 Try.underlying39 rfl (by rw [iEn]; rfl) ?_)
  refine Calls.mono HS.out ?_
  rintro e w2 ⟨vc, rfl, hoc, ht2⟩
  have HT2 := Hid.mk' ht2
  have HOC := Hid.mk' hoc
  obtain ⟨cs, zc, cc, rfl⟩ := hoc.slice
  have HGT := Hid.mk' (get_any (i := i) (HIN.out.but ht2 (fun _ _ _ h => h)) HN.out hi)
  clear ht2 hw2 hoc HS
  go_wp2_with fail
  refine Calls.mono HGT.out ?_
  rintro e w3 ⟨rfl, ht3⟩
  have HT3 := Hid.mk' ht3
  have HQ3 : Hid (Blk (w3.alloc (.cells #[.int .u32 0, .int .u32 0, .int .u64 0] 39)) w3.heap.size 39 ([] ++ [.int .u32 0, .int .u32 0, .int .u64 0] ++ [])) := Blk.new rfl
  clear ht3
  go_upto_region 5 with (refine wpList_store_at rfl _ _ _ rfl w3.heap.size 0 (ecells (atE zs i)) rfl (by exact rfl) 39 [] [.int .u32 0, .int .u32 0, .int .u64 0] [] HQ3.out rfl rfl (by rw [iEn]; rfl) (ecells_one _) ?_; intro w4 hb4 hbut4)
  have hb4' : Blk w4 w3.heap.size 39 (ecells (atE zs i)) := by simpa using hb4
  have hsz : W0.heap.size ≤ w3.heap.size := Nat.le_trans HT1.out.size (Nat.le_trans HT2.out.size HT3.out.size)
  have hT4 : But (· = w3.heap.size) w3 w4 := ((But.refl _ _).alloc _).trans hbut4
  have HTT : Hid (Grow W0 w4) := ((HT1.out.trans HT2.out).trans HT3.out).then hT4 (fun j hj e => by omega)
  have HT24 : Hid (Grow w2 w4) := HT3.out.then hT4 (fun j hj e => by
    have h3 := HT3.out.size
    omega)
  have HKE := Hid.mk' (kept_true (w := w4) (base := W0.heap.size) (g := gi) (HV0.out.but HTT.out (fun _ _ _ h => h)) (by rw [HN.out]; exact HOW.out.but (HT2.out.trans HT24.out) (fun _ _ _ h => h)))
  rw [HN.out] at HKE
  have HB4 := Hid.mk' hb4'
  clear hb4 hbut4 hb4' hsz hT4 HGT HQ3
  go_wp2_with fail
  refine Calls.mono HKE.out ?_
  rintro e w5 ⟨rfl, d, rfl⟩
  obtain ⟨W5, hW5⟩ : ∃ W5, W5 = w4.drewN d := ⟨_, rfl⟩
  rw [← hW5]
  have hg5 : Grow w4 W5 := by rw [hW5]; exact (But.refl _ _).drewN
  have hb5 := HB4.out.but hg5 (fun h => h)
  obtain ⟨q, hq⟩ : ∃ q, q = w3.heap.size := ⟨_, rfl⟩
  rw [← hq] at hb5 ⊢
  have HC11 : Hid (∀ w', Grow W5 w' → ∀ j u, (ecells (atE zs i))[j]? = some u → w'.cell? ((⟨q, 0, none⟩ : Addr).add j) = some u) := fun w' k => (hb5.but k (fun h => h)).cells0
  have hv5 := (HV0.out.but HTT.out (fun _ _ _ h => h)).but hg5 (fun _ _ _ h => h)
  have HA5 : Hid (∀ w', Grow W5 w' → Calls Try.prog 16 #[.slice ao 256 cap, .int .i64 (i : Int)] w' fun e w'' => e = .returned (evalE (atE zs i)) ∧ But (fun _ => False) w' w'') := fun w' hw' =>
    rat_any (hv5.but hw' (fun _ _ _ h => h)) HN.out hi
  have HV5 := Hid.mk' hv5
  have HX5 := Hid.mk' ((HX0.out.but HTT.out (fun h => h)).but hg5 (fun h => h))
  have HC5' := Hid.mk' (HOC.out.bs.but (HT24.out.trans hg5) (fun _ _ _ h => h))
  have HT5 : Hid (Grow w W5) := (HT0.out.trans HTT.out).trans hg5
  clear hW5 hg5 hb5 hq hv5 HKE HB4 HTT HT24 HT1 HT2 HT3 HX1 HX0 HV0 HOW HIN HOC HF HT0
  go_upto_region 9 with fail
  refine region_chain [] [0, 1, 2, 3, 4] (Grow W5) (Grow W5) (by kernel_rfl) (by kernel_rfl) (fun _ _ h k => h.trans k) (fun _ h => h) ((But.refl _ W5).drew) ?_
  intro ι hne X hX
  refine still_val rfl (evalE (atE zs i)) rfl (fun q => exec_ldE (cs := atE zs i) (HC11.out _ (hX q)) rfl rfl) ?_
  intro K hK; go_simp; refine hK _ ?_; clear hK K
  iterate 2 (refine still_step rfl (fun K hK => ?_); go_simp; refine hK _ ?_; clear hK K)
  refine still_call rfl (evalE (atE zs i)) 16 #[.slice ao 256 cap, .int .i64 (i : Int)] rfl (fun q => by kernel_rfl) (fun q => HA5.out _ (hX q)) ?_
  intro K hK; go_simp; refine hK _ ?_; clear hK K
  refine still_val rfl (.bool false) rfl (fun q => exec_neE (b := true) rfl rfl rfl gE (equalEn _ _)) ?_
  intro K hK; go_simp; refine hK _ ?_; clear hK K
  refine still_nil ?_
  clear hX hne
  intro W6 hw6
  have HT6 := Hid.mk' hw6
  clear hw6
  go_wp2_with fail
  go_loopw [13] (fun i wr => ∃ k : Nat, k ≤ 16 ∧ i = .int .i64 k ∧ Grow W5 wr) (fun i _ => 16 - (intOf i).toNat)
  case atStart => exact ⟨0, Nat.zero_le _, rfl, HT6.out⟩
  case round =>
    obtain ⟨k, hk, rfl, hgr⟩ := hrel
    by_cases hlt : k < 16
    · have HGT := Hid.mk' (get_any (i := k) (HC5'.out.but hgr (fun _ _ _ h => h)) (by rw [setE_len _ (by rw [HN.out]; omega), HN.out]) hlt)
      have HGR := Hid.mk' hgr
      clear hgr HT6
      go_wp2_with fail
      refine Calls.mono HGT.out ?_
      rintro e w3 ⟨rfl, ht3⟩
      have HT3 := Hid.mk' ht3
      have HQ3 : Hid (Blk (w3.alloc (.cells #[.int .u32 0, .int .u32 0, .int .u64 0] 39)) w3.heap.size 39 ([] ++ [.int .u32 0, .int .u32 0, .int .u64 0] ++ [])) := Blk.new rfl
      have hae : atE (setE zs i ⟨E, B, S⟩) k = if k = i then ⟨E, B, S⟩ else atE zs k := by
        by_cases hki : k = i
        · rw [if_pos hki, hki, atE_set HOK.out (by rw [HN.out]; omega)]
        · rw [if_neg hki, atE_other _ (by rw [HN.out]; omega) hki]
      clear ht3 HGT
      obtain ⟨Y, hY⟩ : ∃ Y, Y = atE (setE zs i ⟨E, B, S⟩) k := ⟨_, rfl⟩
      rw [← hY] at hae ⊢
      have HAE := Hid.mk' hae
      clear hY hae
      go_upto_region 15 with (refine wpList_store_at rfl _ _ _ rfl w3.heap.size 0 (ecells Y) rfl (by exact rfl) 39 [] [.int .u32 0, .int .u32 0, .int .u64 0] [] HQ3.out rfl rfl (by rw [iEn]; rfl) (ecells_one _) ?_; intro w5 hb5 hbut5)
      have hb5' : Blk w5 w3.heap.size 39 (ecells Y) := by simpa using hb5
      have hsz : W5.heap.size ≤ w3.heap.size := Nat.le_trans HGR.out.size HT3.out.size
      have hT5 : But (· = w3.heap.size) w3 w5 := ((But.refl _ _).alloc _).trans hbut5
      have HG5 : Hid (Grow W5 w5) := (HGR.out.trans HT3.out).then hT5 (fun j hj e => by omega)
      have HC14 : Hid (∀ w', Grow w5 w' → ∀ j u, (ecells Y)[j]? = some u → w'.cell? ((⟨w3.heap.size, 0, none⟩ : Addr).add j) = some u) := fun w' k => (hb5'.but k (fun h => h)).cells0
      have HC5 : Hid (∀ w', Grow w5 w' → ∀ j u, (ecells ⟨E, B, S⟩)[j]? = some u → w'.cell? ((⟨g, 0, none⟩ : Addr).add j) = some u) := fun w' k => (HX5.out.but (HG5.out.trans k) (fun h => h)).cells0
      have HA : Hid (∀ w', Grow w5 w' → Calls Try.prog 16 #[.slice ao 256 cap, .int .i64 (k : Int)] w' fun e w'' => e = .returned (evalE (atE zs k)) ∧ But (fun _ => False) w' w'') := fun w' hw' =>
        rat_any (HV5.out.but (HG5.out.trans hw') (fun _ _ _ h => h)) HN.out hlt
      clear hb5 hbut5 hb5' hsz hT5 HQ3 HT3 HGR
      generalize w3.heap.size = q14 at *
      have hae := HAE.out
      clear HAE
      by_cases hki : k = i
      · rw [if_pos hki] at hae
        subst hae
        subst hki
        refine region_chain [] [0, 1, 2, 3, 4, 5, 6, 7, 8, 9, 10, 11, 12, 13, 14, 15, 16, 17, 18, 19, 20, 21, 22, 23] (Grow w5) (Grow w5) (by kernel_rfl) (by kernel_rfl) (fun _ _ h k => h.trans k) (fun _ h => h) ((But.refl _ w5).drew) ?_
        intro ι hne X hX
        iterate 7 (refine still_step rfl (fun K hK => ?_); go_simp; refine hK _ ?_; clear hK K)
        refine still_val rfl (evalE ⟨E, B, S⟩) rfl (fun q => exec_ldE (cs := ⟨E, B, S⟩) (HC14.out _ (hX q)) rfl rfl) ?_
        intro K hK; go_simp; refine hK _ ?_; clear hK K
        refine still_val rfl (evalE ⟨E, B, S⟩) rfl (fun q => exec_ldE (cs := ⟨E, B, S⟩) (HC5.out _ (hX q)) rfl rfl) ?_
        intro K hK; go_simp; refine hK _ ?_; clear hK K
        refine still_val rfl (.bool false) rfl (fun q => exec_neE (b := true) rfl rfl rfl gE (equalEn _ _)) ?_
        intro K hK; go_simp; refine hK _ ?_; clear hK K
        iterate 6 (refine still_step rfl (fun K hK => ?_); go_simp; refine hK _ ?_; clear hK K)
        refine still_step rfl (fun K hK => ?_)
        have hK' := fun (a : Act) h1 h4 => hK a (still_pass1 (a := a) 16 true 92 (.bool false) [17, 18, 19, 20, 21] [22, 23] [93, 94, 95, 96, 97] rfl rfl (fun h => by cases h) (by kernel_rfl) (by kernel_rfl) h1 h4)
        clear hK
        go_simp
        refine hK' _ (by kernel_rfl) ?_
        clear hK' K
        intro K hK
        simp only [undefL]
        go_simp
        refine hK _ ?_
        clear hK K
        iterate 2 (refine still_step rfl (fun K hK => ?_); go_simp; refine hK _ ?_; clear hK K)
        refine still_nil ?_
        clear hX hne
        intro w8 hw8
        have HG8 := Hid.mk' (HG5.out.trans hw8)
        clear hw8
        go_wp2
        exact ⟨⟨k + 1, by omega, by go_num, HG8.out⟩, by simp [intOf]; omega⟩
      · rw [if_neg hki] at hae
        subst hae
        have d1 : ((k : Int) == (i : Int)) = false := by simpa using fun h : (k : Int) = i => hki (by omega)
        have d2 : ((k : Int) != (i : Int)) = true := by simpa using fun h : (k : Int) = i => hki (by omega)
        have d3 : decide (k = i) = false := decide_eq_false hki
        refine region_chain [] [0, 1, 2, 3, 4, 5, 6, 7, 8, 9, 10, 11, 12, 13, 14, 15, 16, 17, 18, 19, 20, 21, 22, 23] (Grow w5) (Grow w5) (by kernel_rfl) (by kernel_rfl) (fun _ _ h k => h.trans k) (fun _ h => h) ((But.refl _ w5).drew) ?_
        intro ι hne X hX
        iterate 6 (refine still_step rfl (fun K hK => ?_); go_simp; refine hK _ ?_; clear hK K)
        refine still_step rfl (fun K hK => ?_)
        have hK' := fun (a : Act) h1 h4 => hK a (still_pass1 (a := a) 6 true 82 (.bool false) [7, 8, 9] [10, 11, 12, 13, 14, 15, 16, 17, 18, 19, 20, 21, 22, 23] [83, 84, 85] rfl rfl (fun h => by cases h) (by kernel_rfl) (by kernel_rfl) h1 h4)
        clear hK
        go_simp
        refine hK' _ (by kernel_rfl) ?_
        clear hK' K
        intro K hK
        simp only [undefL]
        go_simp
        refine hK _ ?_
        clear hK K
        iterate 7 (refine still_step rfl (fun K hK => ?_); go_simp; refine hK _ ?_; clear hK K)
        refine still_val rfl (evalE (atE zs k)) rfl (fun q => exec_ldE (cs := atE zs k) (HC14.out _ (hX q)) rfl rfl) ?_
        intro K hK; go_simp; refine hK _ ?_; clear hK K
        iterate 2 (refine still_step rfl (fun K hK => ?_); go_simp; refine hK _ ?_; clear hK K)
        refine still_call rfl (evalE (atE zs k)) 16 #[.slice ao 256 cap, .int .i64 (k : Int)] rfl (fun q => by kernel_rfl) (fun q => HA.out _ (hX q)) ?_
        intro K hK; go_simp; refine hK _ ?_; clear hK K
        refine still_val rfl (.bool false) rfl (fun q => exec_neE (b := true) rfl rfl rfl gE (equalEn _ _)) ?_
        intro K hK; go_simp; refine hK _ ?_; clear hK K
        iterate 2 (refine still_step rfl (fun K hK => ?_); go_simp; refine hK _ ?_; clear hK K)
        refine still_nil ?_
        clear hX hne
        intro w8 hw8
        have HG8 := Hid.mk' (HG5.out.trans hw8)
        clear hw8
        go_wp2
        exact ⟨⟨k + 1, by omega, by go_num, HG8.out⟩, by simp [intOf]; omega⟩
    · have hkn : k = 16 := by omega
      subst hkn
      have HGR := Hid.mk' (HT5.out.trans hgr)
      clear hgr
      go_wp2_with fail
      refine Calls.mono (cawake_any _) ?_
      rintro e w7 ⟨rfl, ht7⟩
      have HT7 := Hid.mk' (HGR.out.trans ht7)
      clear ht7
      go_wp2
      go_ret
      exact ⟨rfl, HT7.out.below (Nat.le_refl _) (fun _ _ h => h)⟩
theorem countSets_walk (v0 : Value) (zs : List Nat) (i : Int) (v2 : Value) (x : En) (w : World) (h0 : Bs w v0 zs ∧ zs.length ≤ 140737488351232) (_h1 : (Lit.int .i64 i).wf = true) (h2 : v2 = evalE x ∧ x.ok) :
    Calls Try.prog 6 #[v0, .int .i64 i, v2] w fun e w' => e = .returned (.bool true) ∧ Below w.heap.size w w' := by
  obtain ⟨rfl, hx⟩ := h2
  obtain ⟨hv, hl⟩ := h0
  obtain ⟨ao, cap, rfl, -, -⟩ := id hv.gen
  by_cases hr : rfa zs.length i = 0
  · have h3 : zs.length = 256 ∧ 0 ≤ i ∧ i < 16 := by
      unfold rfa at hr
      by_cases h1 : zs.length < 256
      · rw [if_pos h1] at hr; omega
      · rw [if_neg h1] at hr
        by_cases h2 : 256 < zs.length
        · rw [if_pos h2] at hr; omega
        · rw [if_neg h2] at hr
          by_cases h3 : 0 ≤ i ∧ i < 16
          · omega
          · rw [if_neg h3] at hr; omega
    obtain ⟨k, rfl⟩ : ∃ k : Nat, i = (k : Int) := ⟨i.toNat, by omega⟩
    have := csets_ok ao cap zs k x w (by rw [h3.1] at hv; exact hv) h3.1 (by omega) hx
    rw [← h3.1] at this
    exact this
  · exact csets_no ao zs.length cap zs i x w hv rfl hl hr
set_option maxRecDepth 100000 in
theorem countSets_lifted (os : Os) (started : os.Started) (H : Type) (enc : TypeId × Value → H) :
    ReturnsInHanded {} Try.checked os 6 .any (Rows.countSetsSpec.pre6 enc Try.prog Try.f6 Rows.countSetsRow.domain false) (Rows.countSetsSpec.post enc Try.prog Try.f6 false true false false) := by
  refine returnsInHanded_of_change_sized (C := Try.checked) (by kernel_rfl) started (by kernel_rfl) Try.func6
    (ChangeSpec.witness6 (enc := enc) (C := Try.checked) false ⟨#[], #[.slice none 0 0, .int .i64 0, .agg #[.int .u32 0, .int .u32 0, .int .u64 0]], []⟩ 8 (by kernel_rfl) (by kernel_rfl) (by kernel_rfl) (by kernel_rfl)) ?_
  intro W base args ds gs before hval0 hW hcnd hsz0 _
  have hsz : (DataW.weightsEach Try.prog (Try.f6.params.toList ++ Rows.countSetsSpec.plain.varTypes Try.prog) (ds ++ gs)).all (· ≤ reachBytes) = true := hsz0
  clear hsz0
  have hval : ∀ (j : Nat) t v, Try.f6.params[j]? = some t → args[j]? = some v → Value.okWide Try.prog W .any base t v := hval0
  have hW' := hW
  obtain ⟨p, q, hA0, hV, rfl, hfz, hnd⟩ := hW
  have hA : DataW.TrodAll enc Try.prog W 0 (fun _ => true) true Try.f6.params.toList args.toList ds p := hA0
  rw [Try.params6] at hA hval hsz
  obtain ⟨v0, vs0, d0, ds0, p0, q0, hargs, rfl, rfl, h0, r0⟩ := trodAll_cons hA
  obtain ⟨v1, vs1, d1, ds1, p1, q1, rfl, rfl, rfl, h1, r1⟩ := trodAll_cons r0
  obtain ⟨v2, vs2, d2, ds2, p2, q2, rfl, rfl, rfl, h2, r2⟩ := trodAll_cons r1
  obtain ⟨rfl, rfl, rfl⟩ := trodAll_nil r2
  obtain rfl : args = #[v0, v1, v2] := by cases args; simp_all
  obtain ⟨rfl, rfl⟩ := trodVars_none hV
  have lt0 : ∀ x ∈ p0, x.block < W.heap.size := by obtain ⟨m, hm⟩ := h0; exact DataW.trod_lt m _ _ _ hm
  obtain ⟨z0, w0⟩ := view_bytes Try.underlying23 Try.underlying5 (by kernel_rfl) (by kernel_rfl) (hval 0 23 v0 rfl rfl) h0 lt0 hsz (j := 0) rfl rfl
  obtain ⟨a1, rfl, rfl, rfl, w1⟩ := open_int Try.underlying3 (hval 1 3 v1 rfl rfl) h1
  have lt2 : ∀ x ∈ p2, x.block < W.heap.size := by obtain ⟨m, hm⟩ := h2; exact DataW.trod_lt m _ _ _ hm
  obtain ⟨z2, w2⟩ := view_entry (hval 2 39 v2 rfl rfl) h2 lt2 hsz (j := 2) rfl rfl
  clear hA0 hval0
  refine (countSets_walk v0 z0 a1 v2 z2 W w0 w1 w2).mono fun e W' ⟨he, bel⟩ => ?_
  subst he
  exact ⟨_, rfl, _, _, _, [], _, [], hW', trodAll_mk1 (shut_bool Try.underlying4 _), (trodAll_cons_mk (Below.trod (by kernel_rfl) (by kernel_rfl) (of_decide_eq_true (by kernel_rfl)) h0 bel lt0) (trodAll_cons_mk (shut_int Try.underlying3 w1) (trodAll_cons_mk (Below.trod (by kernel_rfl) (by kernel_rfl) (of_decide_eq_true (by kernel_rfl)) h2 bel lt2) trodAll_mk0))), rfl, bel.frame _, fun h => by cases h⟩

theorem countSets_holds : Rows.CountSetsSaid :=
  OpenClaim.holds_of_wide 6 Try.f6 rfl rfl rfl rfl rfl rfl rfl ⟨rfl, rfl, rfl, rfl, rfl⟩ rfl rfl rfl rfl rfl (by kernel_rfl) Try.func6 (by kernel_rfl)
    (of_decide_eq_true (by kernel_rfl)) (by unfold Func.isWrapper; first | (rw [if_pos (by decide +kernel)]; kernel_rfl) | (rw [if_neg (by decide +kernel)]; exact ⟨rfl, rfl⟩))
    (fun os started H enc _ => countSets_lifted os started H enc)
#print axioms countSets_holds
end Go.Proofs.Ytffiphdbjohilaa
